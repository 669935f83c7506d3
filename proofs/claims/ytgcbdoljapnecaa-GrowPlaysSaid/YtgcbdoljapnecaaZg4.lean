/- The document's flip: an edge joins the other two of its two triangles. What the law's maps of numbers are. -/
import Derived.Test.YtgcbdoljapnecaaZSPut
import Derived.Test.YtgcbdoljapnecaaZg3
import Derived.BigQuiet
import Derived.Test.YtgcbdoljapnecaaZg2
namespace Go.Proofs.Ytgcbdoljapnecaa
set_option maxRecDepth 100000
open Go.RowKit
set_option linter.unusedVariables false
def topN (l : List Nat) (d : Nat) : Nat := (phiL l).getD ((phiL l).getD d 0) 0
/-- The two ends are one, or joined. -/
def Joined (l : List Nat) (a b : Nat) : Prop := nameOf l a = nameOf l b ∨ ∃ x, x < l.length ∧ nameOf l x = nameOf l a ∧ nameOf l (mateN x) = nameOf l b
/-- The turns with d's edge between the other ends. -/
def flL (l b : List Nat) (d e a c x y : Nat) : List Nat := (((((l.set (b.getD d 0) (l.getD d 0)).set (b.getD e 0) (l.getD e 0)).set x d).set d a).set y e).set e c
theorem box_mod (W : World) (g : Nat) (u0 u1 u2 : Value) : Mod (fun i => i = g) W (((W.setCell ⟨g, 0, none⟩ u0).setCell ⟨g, 1, none⟩ u1).setCell ⟨g, 2, none⟩ u2) :=
  Mod.setCell (p := ⟨g, 2, none⟩) (Mod.setCell (p := ⟨g, 1, none⟩) (Mod.setCell (p := ⟨g, 0, none⟩) (Mod.refl (fun i => i = g) W) (fun _ => rfl) _) (fun _ => rfl) _) (fun _ => rfl) _
set_option maxHeartbeats 8000000 in
theorem rtflip_p (A : Option Addr) (c : Nat) (l b : List Nat) (root lone : Int) (d : Nat) (w : World)
    (h : Rd w w.heap.size A l.length (I64 (ofN l))) (hinv : Inv l b) (hev : l.length % 2 = 0) (hn : l.length ≤ 20000) (hd : d < l.length) :
    Calls Try.prog 62 #[.agg #[.slice A l.length c, .int .i64 root, .int .i64 lone], .int .i64 (d : Int)] w fun en w' =>
      (Joined l (topN l d) (topN l (mateN d)) ∧ en = .returned (.agg #[.slice A l.length c, .int .i64 root, .int .i64 lone]) ∧ Below w.heap.size w w') ∨
      (¬ Joined l (topN l d) (topN l (mateN d)) ∧ NewRO w (flL l b d (mateN d) (topN l d) (topN l (mateN d)) (mateN ((phiL l).getD d 0)) (mateN ((phiL l).getD (mateN d) 0))) root 0 en w') := by
  obtain ⟨i0, hi0, hz0, hz1, hz2⟩ := info_parts info_int
  have hb0 := ((Below.refl w.heap.size w).alloc (Nat.le_refl _) (.cells #[.slice A l.length c, .int .i64 root, .int .i64 lone] 27)).alloc (by simp) (.cells #[.slice none 0 0, .int .i64 0, .int .i64 0] 27)
  have HX := Lib.hid ((Blk.new w 27 #[.slice A l.length c, .int .i64 root, .int .i64 lone]).alloc (.cells #[.slice none 0 0, .int .i64 0, .int .i64 0] 27))
  have hy := (Blk.new (w.alloc (.cells #[.slice A l.length c, .int .i64 root, .int .i64 lone] 27)) 27 #[.slice none 0 0, .int .i64 0, .int .i64 0])
  rw [show (w.alloc (.cells #[.slice A l.length c, .int .i64 root, .int .i64 lone] 27)).heap.size = w.heap.size + 1 by simp] at hy
  have HY := Lib.hid hy
  have HR := Lib.hid (h.more hb0)
  have HB0 := Lib.hid hb0
  have HINF := Lib.hid info_rmap
  have hp := phi_inv hinv hev
  have hpl := phiL_len l
  have plt : ∀ x, x < l.length → (phiL l).getD x 0 < l.length := fun x hx => by
    have := hp.lt x (by rw [hpl]; exact hx)
    rwa [hpl] at this
  obtain ⟨e, he⟩ : ∃ e, e = mateN d := ⟨_, rfl⟩
  have hel : e < l.length := by rw [he]; exact mateN_lt hev hd
  obtain ⟨fd, hfd⟩ : ∃ fd, fd = (phiL l).getD d 0 := ⟨_, rfl⟩
  obtain ⟨fe, hfe⟩ : ∃ fe, fe = (phiL l).getD e 0 := ⟨_, rfl⟩
  obtain ⟨a, ha⟩ : ∃ a, a = (phiL l).getD fd 0 := ⟨_, rfl⟩
  obtain ⟨k, hk⟩ : ∃ k, k = (phiL l).getD fe 0 := ⟨_, rfl⟩
  have hfdl : fd < l.length := by rw [hfd]; exact plt d hd
  have hfel : fe < l.length := by rw [hfe]; exact plt e hel
  have hal : a < l.length := by rw [ha]; exact plt fd hfdl
  have hkl : k < l.length := by rw [hk]; exact plt fe hfel
  obtain ⟨x, hx⟩ : ∃ x, x = mateN fd := ⟨_, rfl⟩
  obtain ⟨y, hy'⟩ : ∃ y, y = mateN fe := ⟨_, rfl⟩
  have hxl : x < l.length := by rw [hx]; exact mateN_lt hev hfdl
  have hyl : y < l.length := by rw [hy']; exact mateN_lt hev hfel
  have ta : topN l d = a := by unfold topN; rw [← hfd, ← ha]
  have tk : topN l e = k := by unfold topN; rw [← hfe, ← hk]
  rw [← he, ta, tk, ← hfd, ← hfe, ← hx, ← hy']
  have PH : Hid (∀ W, Below _ _ W → Calls Try.prog 32 #[.agg #[.slice A l.length c, .int .i64 root, .int .i64 lone]] W (NewI64 W (ofN (phiL l)))) := fun W m => rphi_p A c l root lone W ((HR.out.below m).up m.size) hev (by omega)
  have NM : Hid (∀ W, Below _ _ W → Calls Try.prog 33 #[.slice A l.length c] W (NewI64 W (ofN (names l)))) := fun W m => rnames_p A c _ l b W (HR.out.below m) hinv (by omega)
  have IV : Hid (∀ W, Below _ _ W → Calls Try.prog 34 #[.slice A l.length c] W (NewI64 W (ofN b))) := fun W m => rinverse_p A c _ l b W (HR.out.below m) hinv (by omega)
  have MT : Hid (∀ W, Calls Try.prog 35 #[.int .i64 (d : Int)] W fun en w' => en = .returned (.int .i64 (e : Int)) ∧ W = w') := fun W => by rw [he]; exact rmate_p d W (by omega)
  have MX : Hid (∀ W, Calls Try.prog 35 #[.int .i64 (fd : Int)] W fun en w' => en = .returned (.int .i64 (x : Int)) ∧ W = w') := fun W => by rw [hx]; exact rmate_p fd W (by omega)
  have MY : Hid (∀ W, Calls Try.prog 35 #[.int .i64 (fe : Int)] W fun en w' => en = .returned (.int .i64 (y : Int)) ∧ W = w') := fun W => by rw [hy']; exact rmate_p fe W (by omega)
  have MG : Hid (∀ z : Nat, z < l.length → ∀ W, Calls Try.prog 35 #[.int .i64 (z : Int)] W fun en w' => en = .returned (.int .i64 ((mateN z : Nat) : Int)) ∧ W = w') := fun z hz W => rmate_p z W (by omega)
  have HPL : Hid ((ofN (phiL l)).length = l.length) := by show _ = _; rw [ofN_len]; exact hpl
  have HBL : Hid ((ofN b).length = l.length ∧ b.length = l.length) := ⟨by rw [ofN_len]; exact hinv.len, hinv.len⟩
  have HNL : Hid ((ofN (names l)).length = l.length) := by show _ = _; rw [ofN_len, names_len]
  have HML : Hid (∀ z, z < l.length → mateN z < l.length) := fun z hz => mateN_lt hev hz
  have HDE : Hid (e ≠ d) := by show e ≠ d; rw [he, mateN_eq]; split <;> omega
  have HI := Lib.hid hinv
  have HPH := Lib.hid (And.intro hfd (And.intro hfe (And.intro ha hk)))
  clear h hb0 hinv hy hp hpl hev plt he hfd hfe ha hk hx hy' ta tk
  go_enter Try.func62, Try.ntmps62
  go_upto_region 1 with fail
  generalize hw3 : (w.alloc (.cells #[.slice A l.length c, .int .i64 root, .int .i64 lone] 27)).alloc (.cells #[.slice none 0 0, .int .i64 0, .int .i64 0] 27) = w3 at *
  have hs3 : w3.heap.size = w.heap.size + 2 := by rw [← hw3]; simp
  have x0 : w3.cell? ⟨w.heap.size, 0, none⟩ = some (.slice A l.length c) := HX.out.cell 0
  have x1 : w3.cell? ⟨w.heap.size, 1, none⟩ = some (.int .i64 root) := HX.out.cell 1
  have x2 : w3.cell? ⟨w.heap.size, 2, none⟩ = some (.int .i64 lone) := HX.out.cell 2
  have SK : Hid (∀ W, Below w3.heap.size w3 W → W.cell? ⟨w.heap.size, 0, none⟩ = some (.slice A l.length c) ∧ W.cell? ⟨w.heap.size, 1, none⟩ = some (.int .i64 root) ∧ W.cell? ⟨w.heap.size, 2, none⟩ = some (.int .i64 lone)) := fun W m => ⟨(m.cell (p := ⟨w.heap.size, 0, none⟩) (show w.heap.size < w3.heap.size by omega)).trans x0, (m.cell (p := ⟨w.heap.size, 1, none⟩) (show w.heap.size < w3.heap.size by omega)).trans x1, (m.cell (p := ⟨w.heap.size, 2, none⟩) (show w.heap.size < w3.heap.size by omega)).trans x2⟩
  have Z0 := Below.refl w3.heap.size w3
  clear hw3 HX
  go_wp2_with fail
  refine (PH.out _ Z0).mono ?_
  rintro en w4 ⟨A4, c4, rfl, hc4, hm4, hown4, b4⟩
  rw [HPL.out] at hc4 hown4 ⊢
  obtain ⟨gP, rfl, hgP, hgPw⟩ := own_some hown4 (by omega)
  have Z4 := Lib.hid (Z0.trans (b4.mono (Nat.le_refl _)))
  have FP : Hid (∀ W, Below w4.heap.size w4 W → ∀ j, j < l.length → W.cell? ⟨gP, j, none⟩ = some (.int .i64 (((phiL l).getD j 0 : Nat) : Int))) := fun W m j hj => by
    have := own_cellI (own_below hown4 m) j hj
    rwa [ofN_get] at this
  clear b4 hown4 hc4 hm4 PH Z0 x0 x1 x2
  have hs4 := Z4.out.size
  go_wp2_with fail
  refine (MT.out _).mono ?_
  rintro en wz ⟨rfl, rfl⟩
  have p1 := FP.out _ (Below.refl _ _) d hd
  have p2 := FP.out _ (Below.refl _ _) e hel
  have p3 := FP.out _ (Below.refl _ _) fd hfdl
  have p4 := FP.out _ (Below.refl _ _) fe hfel
  rw [← HPH.out.1] at p1
  rw [← HPH.out.2.1] at p2
  rw [← HPH.out.2.2.1] at p3
  rw [← HPH.out.2.2.2] at p4
  have hdi : (d : Int) < (l.length : Int) := by omega
  have hei : (e : Int) < (l.length : Int) := by omega
  have hfdi : (fd : Int) < (l.length : Int) := by omega
  have hfei : (fe : Int) < (l.length : Int) := by omega
  have hai : (a : Int) < (l.length : Int) := by omega
  have hki : (k : Int) < (l.length : Int) := by omega
  go_upto_region 3 with fail
  go_upto_region 4 with (go_quiet (fail))
  have bq : Below w4.heap.size w4 (w4.drewN nq) := below_draws (Below.refl _ _) nq
  generalize w4.drewN nq = wq at *
  have Z5 := Lib.hid (Z4.out.trans (bq.mono hs4))
  obtain ⟨x0, x1, x2⟩ := SK.out _ Z5.out
  have BQ := Lib.hid bq
  have hs5 := Z5.out.size
  clear bq p1 p2 p3 p4
  go_wp2_with fail
  refine (NM.out _ Z5.out).mono ?_
  rintro en w6 ⟨A6, c6, rfl, hc6, hm6, hown6, b6⟩
  rw [HNL.out] at hc6 hown6 ⊢
  obtain ⟨gN, rfl, hgN, hgNw⟩ := own_some hown6 (by omega)
  have Z6 := Lib.hid (Z5.out.trans (b6.mono hs5))
  have FN : Hid (∀ W, Below w6.heap.size w6 W → ∀ j, j < l.length → W.cell? ⟨gN, j, none⟩ = some (.int .i64 ((nameOf l j : Nat) : Int))) := fun W m j hj => by
    have := own_cellI (own_below hown6 m) j hj
    rwa [ofN_get, names_get _ _ hj] at this
  have FP6 : Hid (∀ W, Below w6.heap.size w6 W → ∀ j, j < l.length → W.cell? ⟨gP, j, none⟩ = some (.int .i64 (((phiL l).getD j 0 : Nat) : Int))) := fun W m j hj => FP.out W ((BQ.out.trans (b6.mono BQ.out.size)).trans (m.mono (by have := BQ.out.size; have := b6.size; omega))) j hj
  clear b6 hown6 hc6 hm6 NM x0 x1 x2 FP BQ
  have hs6 := Z6.out.size
  obtain ⟨na, hna⟩ : ∃ na, na = nameOf l a := ⟨_, rfl⟩
  obtain ⟨nk, hnk⟩ : ∃ nk, nk = nameOf l k := ⟨_, rfl⟩
  have HNA := Lib.hid (And.intro hna hnk)
  have p1 := FN.out _ (Below.refl _ _) a hal
  have p2 := FN.out _ (Below.refl _ _) k hkl
  rw [← hna] at p1
  rw [← hnk] at p2
  clear hna hnk
  go_upto_if 44 with (go_quiet (fail))
  have bq : Below w6.heap.size w6 (w6.drewN nq) := below_draws (Below.refl _ _) nq
  generalize w6.drewN nq = w7 at *
  have B7 := Lib.hid bq
  clear bq p1 p2
  by_cases q : na = nk
  · have JN : Hid (Joined l a k) := .inl (by rw [← HNA.out.1, ← HNA.out.2]; exact q)
    have qd : ((na : Int) == (nk : Int)) = true := by simp [q]
    have qd2 : decide (na = nk) = true := decide_eq_true q
    clear q
    have BZ := Z6.out.trans (B7.out.mono hs6)
    have HYr := Lib.hid (HY.out.below BZ)
    have q0 := HYr.out.cell 0
    have q1 := HYr.out.cell 1
    have q2 := HYr.out.cell 2
    have f0 := HYr.out.frozen 0
    have f1 := HYr.out.frozen 1
    have f2 := HYr.out.frozen 2
    simp at q0 q1 q2
    obtain ⟨x0, x1, x2⟩ := SK.out _ BZ
    have BZH := Lib.hid BZ
    clear BZ
    go_wp2_with fail
    have MM := box_mod w7 (w.heap.size + 1) (.slice A l.length c) (.int .i64 root) (.int .i64 lone)
    have hblk : Blk (((w7.setCell ⟨w.heap.size + 1, 0, none⟩ (.slice A l.length c)).setCell ⟨w.heap.size + 1, 1, none⟩ (.int .i64 root)).setCell ⟨w.heap.size + 1, 2, none⟩ (.int .i64 lone)) (w.heap.size + 1) 27 #[.slice A l.length c, .int .i64 root, .int .i64 lone] := by
      have := ((HYr.out.set_ 0 (.slice A l.length c)).set_ 1 (.int .i64 root)).set_ 2 (.int .i64 lone)
      simpa using this
    refine bodyPost_ret (v := .agg #[.slice A l.length c, .int .i64 root, .int .i64 lone]) ?_ rfl ?_
    · exact results_cell_row rfl _ _ (w.heap.size + 1) 27 _ (0, 0) _ rfl hblk Try.underlying27 rfl HINF.out
    · exact .inl ⟨JN.out, rfl, (HB0.out.trans (BZH.out.mono HB0.out.size)).trans (MM.belowB (Nat.le_trans HB0.out.size BZH.out.size) fun i hi q => by omega)⟩
  · have qd : ((na : Int) == (nk : Int)) = false := by simp; omega
    have qd2 : decide (na = nk) = false := decide_eq_false q
    have HQ := Lib.hid q
    obtain ⟨x0, x1, x2⟩ := SK.out _ (Z6.out.trans (B7.out.mono hs6))
    go_wp2_with fail
    clear x0 x1 x2 q qd qd2
    go_loopw [49] (fun i wr => ∃ (j : Nat), j ≤ l.length ∧ i = .int .i64 (j : Int) ∧ Hid (∀ z, z < j → ¬ (nameOf l z = na ∧ nameOf l (mateN z) = nk)) ∧ Hid (Below w6.heap.size w6 wr)) (fun i _ => l.length - (intOf i).toNat)
    case atStart => exact ⟨0, by omega, rfl, fun z hz => by omega, B7.out⟩
    case round =>
      clear B7
      obtain ⟨j, hj, rfl, HJ, HB⟩ := hrel
      by_cases hlt : j < l.length
      · have hdk : decide (j < l.length) = true := decide_eq_true hlt
        have hji : (j : Int) < (l.length : Int) := by omega
        have p1 := FN.out _ HB.out a hal
        have p2 := FN.out _ HB.out k hkl
        have p3 := FN.out _ HB.out j hlt
        have hmj := HML.out j hlt
        have p4 := FN.out _ HB.out (mateN j) hmj
        have MJ := Lib.hid (MG.out j hlt)
        rw [← HNA.out.1] at p1
        rw [← HNA.out.2] at p2
        have hmji : (mateN j : Int) < (l.length : Int) := by omega
        obtain ⟨nj, hnj⟩ : ∃ nj, nj = nameOf l j := ⟨_, rfl⟩
        obtain ⟨nm, hnm⟩ : ∃ nm, nm = nameOf l (mateN j) := ⟨_, rfl⟩
        have HNJ := Lib.hid (And.intro hnj hnm)
        rw [← hnj] at p3
        rw [← hnm] at p4
        have HMJ : Hid (mateN j = mateN j) := rfl
        clear hnj hnm
        generalize hmjj : mateN j = mj at *
        have HMJJ : Hid (mateN j = mj) := hmjj
        clear hmjj
        by_cases c1 : nj = na
        · have d1 : ((nj : Int) == (na : Int)) = true := by simp [c1]
          have d1b : decide (nj = na) = true := decide_eq_true c1
          by_cases c2 : nm = nk
          · have d2 : ((nm : Int) == (nk : Int)) = true := by simp [c2]
            have d2b : decide (nm = nk) = true := decide_eq_true c2
            have JN : Hid (Joined l a k) := .inr ⟨j, hlt, by rw [← HNA.out.1, ← HNJ.out.1]; exact c1, by rw [← HNA.out.2, HMJJ.out, ← HNJ.out.2]; exact c2⟩
            have C12 := Lib.hid (And.intro c1 c2)
            clear c1 c2
            go_upto_if 72 with (go_quiet ((go_at_call 35; with_reducible exact Calls.quiet_of_same ((MJ.out _).mono fun e w' ⟨he, hw⟩ => ⟨he, hw.symm⟩))))
            have BZ := Z6.out.trans ((below_draws HB.out nq).mono hs6)
            generalize wr.drewN nq = wt at *
            have HYr := Lib.hid (HY.out.below BZ)
            have q0 := HYr.out.cell 0
            have q1 := HYr.out.cell 1
            have q2 := HYr.out.cell 2
            have f0 := HYr.out.frozen 0
            have f1 := HYr.out.frozen 1
            have f2 := HYr.out.frozen 2
            simp at q0 q1 q2
            obtain ⟨x0, x1, x2⟩ := SK.out _ BZ
            have BZH := Lib.hid BZ
            clear BZ
            go_wp2_with fail
            have MM := box_mod wt (w.heap.size + 1) (.slice A l.length c) (.int .i64 root) (.int .i64 lone)
            have hblk : Blk (((wt.setCell ⟨w.heap.size + 1, 0, none⟩ (.slice A l.length c)).setCell ⟨w.heap.size + 1, 1, none⟩ (.int .i64 root)).setCell ⟨w.heap.size + 1, 2, none⟩ (.int .i64 lone)) (w.heap.size + 1) 27 #[.slice A l.length c, .int .i64 root, .int .i64 lone] := by
              have := ((HYr.out.set_ 0 (.slice A l.length c)).set_ 1 (.int .i64 root)).set_ 2 (.int .i64 lone)
              simpa using this
            refine bodyPost_ret (v := .agg #[.slice A l.length c, .int .i64 root, .int .i64 lone]) ?_ rfl ?_
            · exact results_cell_row rfl _ _ (w.heap.size + 1) 27 _ (0, 0) _ rfl hblk Try.underlying27 rfl HINF.out
            · exact .inl ⟨JN.out, rfl, (HB0.out.trans (BZH.out.mono HB0.out.size)).trans (MM.belowB (Nat.le_trans HB0.out.size BZH.out.size) fun i hi q => by omega)⟩
          · have d2 : ((nm : Int) == (nk : Int)) = false := by simp; omega
            have d2b : decide (nm = nk) = false := decide_eq_false c2
            have HJ2 : Hid (∀ z, z < j + 1 → ¬ (nameOf l z = na ∧ nameOf l (mateN z) = nk)) := fun z hz ⟨z1, z2⟩ => by
              by_cases e1 : z = j
              · subst e1; exact c2 (by rw [HNJ.out.2, ← HMJJ.out]; exact z2)
              · exact HJ.out z (by omega) ⟨z1, z2⟩
            have C12 := Lib.hid (And.intro c1 c2)
            clear c1 c2
            go_upto_if 72 with (go_quiet ((go_at_call 35; with_reducible exact Calls.quiet_of_same ((MJ.out _).mono fun e w' ⟨he, hw⟩ => ⟨he, hw.symm⟩))))
            have BZ := Lib.hid (below_draws HB.out nq)
            go_wp2_with fail
            go_roundw
            case rel => first | exact ⟨j + 1, by omega, by go_num, HJ2, BZ⟩ | ((repeat apply Exists.intro); exact ⟨⟨j + 1, by omega, by go_num, HJ2, BZ⟩, rfl⟩)
            case measure => simp [intOf]; omega
        · have d1 : ((nj : Int) == (na : Int)) = false := by simp; omega
          have d1b : decide (nj = na) = false := decide_eq_false c1
          have HJ2 : Hid (∀ z, z < j + 1 → ¬ (nameOf l z = na ∧ nameOf l (mateN z) = nk)) := fun z hz ⟨z1, z2⟩ => by
              by_cases e1 : z = j
              · subst e1; exact c1 (by rw [HNJ.out.1]; exact z1)
              · exact HJ.out z (by omega) ⟨z1, z2⟩
          have C12 := Lib.hid c1
          clear c1
          go_upto_if 72 with (go_quiet (fail))
          have BZ := Lib.hid (below_draws HB.out nq)
          go_wp2_with fail
          go_roundw
          case rel => first | exact ⟨j + 1, by omega, by go_num, HJ2, BZ⟩ | ((repeat apply Exists.intro); exact ⟨⟨j + 1, by omega, by go_num, HJ2, BZ⟩, rfl⟩)
          case measure => simp [intOf]; omega
      · obtain rfl : j = l.length := by omega
        have hdk : decide (l.length < l.length) = false := by simp
        have JN : Hid (¬ Joined l a k) := fun q => by
          rcases q with q | ⟨z, z1, z2, z3⟩
          · exact HQ.out (by rw [HNA.out.1, HNA.out.2]; exact q)
          · exact HJ.out z z1 ⟨by rw [HNA.out.1]; exact z2, by rw [HNA.out.2]; exact z3⟩
        clear HJ
        have ZR := Lib.hid (Z6.out.trans (HB.out.mono hs6))
        have hsr := ZR.out.size
        have hlit := World.ownsRow_lit (base := wr.heap.size) (e := 3) (size := 1) wr #[] 0 (Nat.le_refl _) (by simp [maxLen]) (by simp)
        have halE : Below wr.heap.size wr (wr.alloc (.cells #[] 3)) := (Below.refl _ _).alloc (Nat.le_refl _) _
        obtain ⟨v1, w8, hrun1, own1, gr1, _⟩ := run_append_rd (P := Try.prog) (wr.alloc (.cells #[] 3)) wr.heap.size 25 25 3 i0 (.int .i64 0) 8 Try.underlying25 hi0 hz0 hz1 hz2 rfl _ 0 [] hlit w3.heap.size A l.length c (I64 (ofN l)) ((HR.out.below ZR.out).below (halE.mono hsr)) (I64_one _) (by simp only [maxLen]; omega) (by omega) (by simp)
        rw [Nat.zero_add, List.nil_append] at own1
        have b8 := Lib.hid (halE.trans (Below.appended hlit gr1 (by simp)))
        obtain ⟨A1, c1, ev1, hc1, hm1⟩ := own_form own1
        subst ev1
        obtain ⟨gS, rfl, hgS, hgSw⟩ := own_some own1 (by omega)
        obtain ⟨xe0, _, _⟩ := SK.out _ (ZR.out.trans (halE.mono hsr))
        have Z8 := Lib.hid (ZR.out.trans (b8.out.mono hsr))
        obtain ⟨xf0, _, _⟩ := SK.out _ Z8.out
        have O8 := Lib.hid own1
        have HC1 := Lib.hid (And.intro hc1 hm1)
        have hs8 := Z8.out.size
        clear hlit halE gr1 own1 hm1
        go_upto_region 13 with fail
        go_upto_region 14 with (first
          | (at_builtin; go_must (refine wpList_append_runP rfl _ _ _ _ rfl _ _ _ _ rfl rfl hrun1 ?_)))
        clear hrun1 xe0
        go_wp2_with fail
        refine (IV.out _ Z8.out).mono ?_
        rintro en w9 ⟨A9, c9, rfl, hc9, hm9, hown9, b9⟩
        rw [HBL.out.1] at hc9 hown9 ⊢
        obtain ⟨gB, rfl, hgB, hgBw⟩ := own_some hown9 (by omega)
        have Z9 := Lib.hid (Z8.out.trans (b9.mono hs8))
        have BR9 := Lib.hid ((HB.out.trans (b8.out.mono HB.out.size)).trans (b9.mono (by have := HB.out.size; have := b8.out.size; omega)))
        have O9 := Lib.hid (own_below O8.out b9)
        have OB9 := Lib.hid hown9
        clear hown9 b9 hc9 hm9 hgBw
        obtain ⟨sd, hsd⟩ : ∃ sd, sd = l.getD d 0 := ⟨_, rfl⟩
        obtain ⟨se, hse⟩ : ∃ se, se = l.getD e 0 := ⟨_, rfl⟩
        obtain ⟨bd, hbd⟩ : ∃ bd, bd = b.getD d 0 := ⟨_, rfl⟩
        obtain ⟨be, hbe⟩ : ∃ be, be = b.getD e 0 := ⟨_, rfl⟩
        have HFL : Hid (flL l b d e a k x y = (((((l.set bd sd).set be se).set x d).set d a).set y e).set e k) := by
          show _ = _; rw [hsd, hse, hbd, hbe]; rfl
        have hbdl : bd < l.length := by rw [hbd]; exact HI.out.lt' d hd
        have hbel : be < l.length := by rw [hbe]; exact HI.out.lt' e hel
        have hbne : ¬ be = bd := fun q => HDE.out (by
          have u1 := HI.out.bl d hd
          have u2 := HI.out.bl e hel
          rw [← hbd] at u1
          rw [← hbe, q, u1] at u2
          exact u2.symm)
        have cS1 := own_cellI O9.out d hd
        have cS2 := own_cellI O9.out e hel
        have cS3 := own_cellI O9.out bd hbdl
        have cS4 := own_cellI O9.out be hbel
        have fS3 := O9.out.frozenAt bd
        have fS4 := O9.out.frozenAt be
        have cB1 := own_cellI OB9.out d hd
        have cB2 := own_cellI OB9.out e hel
        have o1 := own_setI O9.out bd (sd : Int)
        have cT4 := own_cellI o1 be hbel
        have fT4 := o1.frozenAt be
        have o2 := own_setI o1 be (se : Int)
        rw [ofN_get] at cS1 cS2 cS3 cS4 cB1 cB2
        rw [← hsd] at cS1
        rw [← hse] at cS2
        rw [← hbd] at cB1
        rw [← hbe] at cB2
        have hbdi : (bd : Int) < (l.length : Int) := by omega
        have hbei : (be : Int) < (l.length : Int) := by omega
        have O11 := Lib.hid o2
        clear o1 o2 hsd hse hbd hbe xf0
        go_upto_region 15 with fail
        go_region
        have HGS : Hid (w6.heap.size ≤ gS) := Nat.le_trans HB.out.size hgS
        have O11d := own_below O11.out (Below.refl _ _).drew
        have B11 : Below w6.heap.size w6 ((w9.setCell ⟨gS, bd, none⟩ (.int .i64 (sd : Int))).setCell ⟨gS, be, none⟩ (.int .i64 (se : Int))).drew := ((BR9.out.setCell (p := ⟨gS, bd, none⟩) HGS.out _).setCell (p := ⟨gS, be, none⟩) HGS.out _).drew
        clear O11 cS1 cS2 cS3 cS4 fS3 fS4 cB1 cB2 cT4 fT4 O9 OB9 BR9 Z9
        generalize ((w9.setCell ⟨gS, bd, none⟩ (.int .i64 (sd : Int))).setCell ⟨gS, be, none⟩ (.int .i64 (se : Int))).drew = w11 at *
        have OH := Lib.hid O11d
        have BH := Lib.hid B11
        clear O11d B11
        have p1 := FP6.out _ BH.out d hd
        have p2 := FP6.out _ BH.out e hel
        rw [← HPH.out.1] at p1
        rw [← HPH.out.2.1] at p2
        go_upto_region 16 with fail
        go_upto_region 17 with (go_quiet (first
          | (go_at_call 35; with_reducible exact Calls.quiet_of_same ((MX.out _).mono fun e w' ⟨he, hw⟩ => ⟨he, hw.symm⟩))
          | (go_at_call 35; with_reducible exact Calls.quiet_of_same ((MY.out _).mono fun e w' ⟨he, hw⟩ => ⟨he, hw.symm⟩))))
        clear p1 p2
        have o0 := own_below OH.out (below_draws (Below.refl _ _) nq)
        have B12 := below_draws BH.out nq
        generalize w11.drewN nq = w12 at *
        have s1 := own_cellI o0 x hxl
        have f1 := o0.frozenAt x
        have o1 := own_setI o0 x (d : Int)
        have s2 := own_cellI o1 d hd
        have f2 := o1.frozenAt d
        have o2 := own_setI o1 d (a : Int)
        have s3 := own_cellI o2 y hyl
        have f3 := o2.frozenAt y
        have o3 := own_setI o2 y (e : Int)
        have s4 := own_cellI o3 e hel
        have f4 := o3.frozenAt e
        have o4 := own_setI o3 e (k : Int)
        have O16 : Hid (((((w12.setCell ⟨gS, x, none⟩ (.int .i64 (d : Int))).setCell ⟨gS, d, none⟩ (.int .i64 (a : Int))).setCell ⟨gS, y, none⟩ (.int .i64 (e : Int))).setCell ⟨gS, e, none⟩ (.int .i64 (k : Int))).ownsRow wr.heap.size 3 1 (.slice (some ⟨gS, 0, none⟩) l.length c1) l.length (I64 (ofN (flL l b d e a k x y)))) := by
          show World.ownsRow _ _ _ _ _ _ _
          rw [HFL.out, ofN_setP, ofN_setP, ofN_setP, ofN_setP, ofN_setP, ofN_setP]; exact o4
        have B16 : Hid (Below w6.heap.size w6 ((((w12.setCell ⟨gS, x, none⟩ (.int .i64 (d : Int))).setCell ⟨gS, d, none⟩ (.int .i64 (a : Int))).setCell ⟨gS, y, none⟩ (.int .i64 (e : Int))).setCell ⟨gS, e, none⟩ (.int .i64 (k : Int)))) :=
          (((B12.setCell (p := ⟨gS, x, none⟩) HGS.out _).setCell (p := ⟨gS, d, none⟩) HGS.out _).setCell (p := ⟨gS, y, none⟩) HGS.out _).setCell (p := ⟨gS, e, none⟩) HGS.out _
        have hxi : (x : Int) < (l.length : Int) := by omega
        have hyi : (y : Int) < (l.length : Int) := by omega
        clear o0 o1 o2 o3 o4 B12
        go_upto_region 17 with fail
        go_upto_region 18 with fail
        go_upto_region 19 with fail
        generalize ((((w12.setCell ⟨gS, x, none⟩ (.int .i64 (d : Int))).setCell ⟨gS, d, none⟩ (.int .i64 (a : Int))).setCell ⟨gS, y, none⟩ (.int .i64 (e : Int))).setCell ⟨gS, e, none⟩ (.int .i64 (k : Int))) = w16 at *
        clear s1 s2 s3 s4 f1 f2 f3 f4
        have Z16 := Lib.hid (Z6.out.trans (B16.out.mono hs6))
        have HY9 := Lib.hid (HY.out.below Z16.out)
        have BW := Lib.hid (HB0.out.trans (Z16.out.mono HB0.out.size))
        obtain ⟨x0, x1, x2⟩ := SK.out _ Z16.out
        have q0 := HY9.out.cell 0
        have q1 := HY9.out.cell 1
        have q2 := HY9.out.cell 2
        have f0 := HY9.out.frozen 0
        have f1 := HY9.out.frozen 1
        have f2 := HY9.out.frozen 2
        simp at q0 q1 q2
        have HTL : Hid ((flL l b d e a k x y).length = l.length) := by show _ = _; rw [HFL.out]; simp
        go_wp2_with fail
        obtain ⟨k1, k2, k3⟩ := box_ret (w := w) (RT := root) (LF := 0) (show w.heap.size ≤ w.heap.size + 1 by omega) BW.out HY9.out O16.out
        refine bodyPost_ret (v := .agg #[.slice (some ⟨gS, 0, none⟩) l.length c1, .int .i64 root, .int .i64 0]) ?_ rfl ?_
        · exact results_cell_row rfl _ _ (w.heap.size + 1) 27 _ (0, 0) _ rfl k1 Try.underlying27 rfl HINF.out
        · exact .inr ⟨JN.out, some ⟨gS, 0, none⟩, c1, by rw [HTL.out], by rw [HTL.out]; exact HC1.out.1, HC1.out.2, by rw [HTL.out]; exact k2.base_le' (by omega), k3⟩
end Go.Proofs.Ytgcbdoljapnecaa
namespace Go.Proofs.Ytgcbdoljapnecaa
open Go.RowKit
/-- A map of the document's, of numbers. -/
def XIs (K : List Nat → List Nat → Nat → Prop) (w : World) (e : Ending) (w' : World) : Prop :=
  ∃ v l b root lone, e = .returned v ∧ RMap w.heap.size w' l b root ((lone : Nat) : Int) v ∧ l.length ≤ 1000 ∧ l.length % 2 = 0 ∧ RootOk root l.length ∧ lone ≤ 1 ∧ K l b lone ∧ Below w.heap.size w w'
/-- That, and the program's map of it. -/
def MadeIs (K : List Nat → List Nat → Nat → Prop) (w : World) (e : Ending) (w' : World) : Prop :=
  ∃ g v l b root lone, e = .returned (.tuple #[.pointer (some ⟨g, 0, none⟩), v]) ∧ MapAt w' g l b root ((lone : Nat) : Int) ∧ RMap w.heap.size w' l b root ((lone : Nat) : Int) v ∧ l.length ≤ 1000 ∧ RootOk root l.length ∧ lone ≤ 1 ∧ K l b lone ∧ Below w.heap.size w w'
end Go.Proofs.Ytgcbdoljapnecaa
