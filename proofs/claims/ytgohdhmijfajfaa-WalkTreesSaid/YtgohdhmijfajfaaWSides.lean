/- WalkSides: what is not in the tree is a tree on the other side. -/
import Derived.Test.YtgohdhmijfajfaaWCount
import Derived.Test.YtgohdhmijfajfaaWAwake
import Derived.Test.YtgohdhmijfajfaaWMade
import Derived.Test.YtgohdhmijfajfaaWTree
import Derived.Deep.RegionHeld3
import Derived.Deep.DeepCutAuto
namespace Go.Proofs.Ytgohdhmijfajfaa
set_option maxRecDepth 20000
open Go.RowKit
set_option linter.unusedVariables false
theorem wst_mono (sg nm : Nat → Nat) (m V r : Nat) (i : Nat) : ∀ N k, k ≤ N → i < 2 * k → (wst sg nm m V r N).getD i 0 = (wst sg nm m V r k).getD i 0
  | 0, k, h, hi => by omega
  | N + 1, k, h, hi => by
    rcases Nat.lt_or_ge N k with c | c
    · rw [show k = N + 1 by omega]
    · rw [← wst_mono sg nm m V r i N k c hi]
      have := wst_len sg nm m V r N
      rw [show wst sg nm m V r (N + 1) = wst sg nm m V r N ++ [((wrun sg nm m V r N).d : Int), (((wrun sg nm m V r N).k nm : Nat) : Int)] from rfl]
      rw [List.getD_eq_getElem?_getD, List.getElem?_append_left (by omega), ← List.getD_eq_getElem?_getD]
theorem wst_d (sg nm : Nat → Nat) (m V r : Nat) {N k : Nat} (h : k < N) : (wst sg nm m V r N).getD (2 * k) 0 = ((wrun sg nm m V r k).d : Int) := by
  rw [wst_mono sg nm m V r _ N (k + 1) (by omega) (by omega)]
  have := wst_len sg nm m V r k
  unfold wst
  rw [List.getD_eq_getElem?_getD, List.getElem?_append_right (by omega), this, Nat.sub_self]; rfl
theorem wst_k (sg nm : Nat → Nat) (m V r : Nat) {N k : Nat} (h : k < N) : (wst sg nm m V r N).getD (2 * k + 1) 0 = (((wrun sg nm m V r k).k nm : Nat) : Int) := by
  rw [wst_mono sg nm m V r _ N (k + 1) (by omega) (by omega)]
  have := wst_len sg nm m V r k
  unfold wst
  rw [List.getD_eq_getElem?_getD, List.getElem?_append_right (by omega), this, show 2 * k + 1 - 2 * k = 1 by omega]; rfl
theorem treeL_wcn (sg nm : Nat → Nat) (m V r N : Nat) : ∀ k, k ≤ N → (treeL (wst sg nm m V r N) k).length = wcn sg nm m V r 0 k
  | 0, _ => rfl
  | k + 1, h => by
    have ih := treeL_wcn sg nm m V r N k (by omega)
    have hN := num_next (fun i => (wrun sg nm m V r i).k nm = 0) k
    unfold wcn at ih ⊢
    unfold treeL
    rw [wst_k sg nm m V r (show k < N by omega)]
    by_cases c : (wrun sg nm m V r k).k nm = 0
    · rw [if_pos (by omega), hN.1 c, List.length_append, ih]; rfl
    · rw [if_neg (by omega), hN.2 c, ih]
theorem own_cell5w {w : World} {base g n c : Nat} {e : TypeId} {l : List Nat} (h : w.ownsRow base e 5 (.slice (some ⟨g, 0, none⟩) n c) n (I64 (partsC l n))) (k f : Nat) (hk : k < n) (hf : f < 5) :
    w.cell? ⟨g, k * 5 + f, none⟩ = some (.int .i64 (pcL l (5 * k + f))) := by
  rw [own_cell5 h _ (by omega), Nat.mul_comm k 5, partsC_get _ _ _ _ hk hf]
theorem own_some5w {w : World} {base : Nat} {e : TypeId} {A : Option Addr} {n m c : Nat} {xs : List Value} (h : w.ownsRow base e 5 (.slice A m c) n xs) (hn : 0 < n) : ∃ g, A = some ⟨g, 0, none⟩ := by
  rcases h.2 with ⟨_, h0⟩ | ⟨g, cap, cur, hv, hb, hg, _⟩
  · omega
  · simp only [Value.slice.injEq] at hv
    exact ⟨g, hv.1⟩
set_option maxHeartbeats 8000000 in
theorem walkSides_walk (A0 : Option Addr) (n m c rr oo : Nat) (by_ : List Int) (w : World) (h0 : Rd w w.heap.size A0 m (Z8 by_)) (hb0 : ∀ x ∈ by_, 0 ≤ x ∧ x < 256) (hmc : m ≤ c) (hcm : c ≤ maxLen) (hn : n < 256) (hrr : rr < 256) (hoo : oo < 256) :
    Calls Try.prog 7 #[.int .u8 (n : Int), .slice A0 m c, .int .u8 (rr : Int), .int .u8 (oo : Int)] w fun e w' => e = .returned (.bool true) ∧ Below w.heap.size w w' := by
  unfold maxLen at hcm
  have AW := Lib.hid (awake9_p w)
  have H0 := Lib.hid h0
  have HB0 := Lib.hid hb0
  clear h0 hb0
  go_enter Try.func7, Try.ntmps7
  go_wp2_with fail
  refine AW.out.mono ?_
  rintro e w1 ⟨rfl, b1⟩
  have MD := Lib.hid (made9_p n m c _ A0 by_ w1 (H0.out.below b1) HB0.out b1.size hn (by omega))
  have B1 := Lib.hid b1
  clear b1 AW
  go_wp2_with fail
  refine MD.out.mono ?_
  rintro e w2 ⟨g, v, l, b, root, rfl, hmap, hrm, hl, hroot, b2⟩
  have e03 : ((0 : Nat) : Int) = 0 := rfl
  rw [e03] at hmap hrm
  obtain ⟨hinv, A, cA, hla, rfl, hlc, hcA, hrA⟩ := hrm
  have hbx := (Below.refl w2.heap.size w2).alloc (Nat.le_refl _) (.cells #[.slice A l.length cA, .int .i64 root, .int .i64 0] 27)
  have HX := Lib.hid (Blk.new w2 27 #[.slice A l.length cA, .int .i64 root, .int .i64 0])
  have HM := Lib.hid (hmap.below hbx)
  have HR := Lib.hid (hrA.more hbx)
  have HI := Lib.hid hinv
  have hl20 : l.length ≤ 26 := by have := Nat.mod_lt n (show 0 < 14 by decide); omega
  have HEV : Hid (l.length % 2 = 0) := by show _ = _; omega
  have B2 : Hid (Below w.heap.size w w2) := B1.out.trans (b2.mono B1.out.size)
  have B3 : Hid (Below w.heap.size w (w2.alloc (.cells #[.slice A l.length cA, .int .i64 root, .int .i64 0] 27))) := B2.out.trans (hbx.mono B2.out.size)
  clear hmap hbx hrA hinv b2 B1 MD hlc hcA hla hl hroot B2 e03
  go_upto_region 4 with fail
  generalize hw3 : w2.alloc (.cells #[.slice A l.length cA, .int .i64 root, .int .i64 0] 27) = w3 at *
  have hX3 : w2.heap.size < w3.heap.size := by rw [← hw3]; simp
  have XB : Hid (∀ W, Below w3.heap.size w3 W → Blk W w2.heap.size 27 #[.slice A l.length cA, .int .i64 root, .int .i64 0]) := fun W z => HX.out.below z
  clear hw3 HX
  obtain ⟨D, hD⟩ : ∃ D, D = l.length := ⟨_, rfl⟩
  have DP : Hid (∀ W, Below w3.heap.size w3 W → Calls Try.prog 17 #[.pointer (some ⟨g, 0, none⟩)] W fun e w' => e = .returned (.int .i64 (D : Int)) ∧ Below W.heap.size W w') := fun W m => by rw [hD]; exact darts_p g l b root 0 W (HM.out.below m)
  have Z0 := Below.refl w3.heap.size w3
  by_cases hD0 : D = 0
  · subst hD0
    have hl0 : l.length = 0 := hD.symm
    clear hD
    go_wp2_with fail
    refine (DP.out _ Z0).mono ?_
    rintro e v1 ⟨rfl, z⟩
    have Z1 := Z0.trans (z.mono Z0.size)
    have x0 : v1.cell? ⟨w2.heap.size, 0, none⟩ = some (.slice A l.length cA) := by have := (XB.out _ Z1).cell 0; simpa using this
    have B4 := Lib.hid (B3.out.trans (Z1.mono B3.out.size))
    clear z Z0 Z1
    go_wp2_with fail
    go_ret
    exact ⟨by first | rfl | simp [hl0], B4.out⟩
  · have hD0i : ¬ (D : Int) = 0 := by omega
    have hDb : ((D : Int) == 0) = false := by rw [beq_eq_false_iff_ne]; exact hD0i
    have hDp : 0 < D := by omega
    obtain ⟨r, hr⟩ : ∃ r, r = rr % D := ⟨_, rfl⟩
    have hrl : r < D := by rw [hr]; exact Nat.mod_lt _ hDp
    have hr1 : (rr : Int) % (D : Int) = (r : Int) := by rw [hr, Int.natCast_emod]
    have hr2 : (rr : Int).tmod (D : Int) = (r : Int) := by rw [Int.tmod_eq_emod_of_nonneg (by omega)]; exact hr1
    obtain ⟨M, hMM⟩ : ∃ M, M = l.length / 2 := ⟨_, rfl⟩
    obtain ⟨V, hVV⟩ : ∃ V : Nat, (V : Int) = ((sizes l).length : Int) + 0 := ⟨(sizes l).length, by omega⟩
    have hvl := nm_lt HI.out (V := V) (by omega)
    have OP : Hid (∀ (q : Nat) W, q < D → Below w3.heap.size w3 W → Calls Try.prog 10 #[.pointer (some ⟨g, 0, none⟩), .int .i64 (q : Int)] W (WalkPost W (wN (sgL l) (nameOf l) M V q) (wst (sgL l) (nameOf l) M V q (wN (sgL l) (nameOf l) M V q)))) := fun q W hq z => walkOf_p g l b root 0 q M V W (HM.out.below z) HI.out (by omega) hMM hVV
    have RP : Hid (∀ W, Below w3.heap.size w3 W → Calls Try.prog 20 #[.agg #[.slice A l.length cA, .int .i64 root, .int .i64 0]] W (NewQt W (pN l) (partsC l (pN l)))) := fun W z => by
      have := reparts_p A cA l b root 0 W (HR.out.more z) HI.out HEV.out (by omega) (by omega)
      exact this
    have NP : Hid (∀ W, Below w3.heap.size w3 W → Calls Try.prog 13 #[.agg #[.slice A l.length cA, .int .i64 root, .int .i64 0]] W (NewI64 W (ofN (enames l)))) := fun W z => renames_p A cA l b root 0 W (HR.out.more z) HI.out HEV.out (by omega)
    have HPD := Lib.hid (fun x hx => pq_part HI.out HEV.out (r := r) (x := x) (by omega) hx)
    have HC := Lib.hid (fun q hq => walk_counts HI.out HEV.out hvl (r := q) hq)
    have HWP : Hid (∀ x, x < l.length → (part l r x ↔ ∃ j, j < wN (sgL l) (nameOf l) M V r ∧ (wrun (sgL l) (nameOf l) M V r j).d = x)) := fun x hx => by
      rw [hMM]; exact wpart (sgL_pf HI.out) (by have := HEV.out; omega) (nm_ok HI.out) hvl (by omega) hx
    have HLT : Hid (∀ j : Nat, (wrun (sgL l) (nameOf l) M V r j).d < l.length) := fun j => by
      rw [hMM]; exact (wok (sgL_pf HI.out) (by have := HEV.out; omega) (nm_ok HI.out) hvl (by omega) j).lt
    have HN1 : Hid (1 ≤ wN (sgL l) (nameOf l) M V r ∧ wN (sgL l) (nameOf l) M V r ≤ l.length) := by
      rw [hMM]
      obtain ⟨a1, a2, _⟩ := wN_is (m := l.length / 2) (sgL_pf HI.out) (by have := HEV.out; omega) (nm_ok HI.out) hvl (r := r) (by omega)
      exact ⟨a1, a2⟩
    -- the part
    obtain ⟨q, hq⟩ : ∃ q, q = pq l r := ⟨_, rfl⟩
    have hqN : q < pN l := by rw [hq]; exact pq_lt HI.out HEV.out (i := r) (d := l.length) (by omega) (by omega)
    have hpq : Hid ((enames l).getD r 0 = q) := by show _ = _; rw [hq]; unfold enames prts; rw [map_rangeN _ _ _ (show r < l.length by omega)]; rfl
    obtain ⟨G, hG1, hG2⟩ := pG_is HI.out HEV.out (phi_inv HI.out HEV.out) hqN
    have hpl := pN_le l
    have c0 : pcL l (5 * q) = (rt (part l) q : Int) := by unfold pcL; rw [if_pos (by omega), pc_0]
    have c1 : pcL l (5 * q + 1) = (pV l q l.length : Int) := by unfold pcL; rw [if_pos (by omega), pc_1]
    have c2 : pcL l (5 * q + 2) = (pE l q l.length : Int) := by unfold pcL; rw [if_pos (by omega), pc_2]
    have c3 : pcL l (5 * q + 3) = (pB l q l.length : Int) := by unfold pcL; rw [if_pos (by omega), pc_3]
    have c4 : pcL l (5 * q + 4) = (G : Int) := by unfold pcL; rw [if_pos (by omega), pc_4, if_pos hqN, hG1]
    have HQ := Lib.hid (And.intro hq (And.intro c0 (And.intro c1 (And.intro c2 (And.intro c3 c4)))))
    have hNp : pN l ≤ 26 := by omega
    have hVl := pV_le l q l.length
    have hEl := pE_le l q l.length
    have hBl := pB_le l q l.length
    have hG13 : G ≤ 14 := by omega
    obtain ⟨E, hE⟩ : ∃ E, E = pE l q l.length := ⟨_, rfl⟩
    obtain ⟨VV, hVV2⟩ : ∃ VV, VV = pV l q l.length := ⟨_, rfl⟩
    obtain ⟨BB, hBB⟩ : ∃ BB, BB = pB l q l.length := ⟨_, rfl⟩
    obtain ⟨N, hN⟩ : ∃ N, N = wN (sgL l) (nameOf l) M V r := ⟨_, rfl⟩
    have hc := HC.out r (by omega)
    rw [← hq, ← hMM, ← hN, ← hE, ← hVV2] at hc
    have HC1 := Lib.hid hc
    have hN26 : 1 ≤ N ∧ N ≤ 26 := by have := HN1.out; rw [← hN] at this; omega
    have OF1 : Hid (∀ W, Below w3.heap.size w3 W → Calls Try.prog 10 #[.pointer (some ⟨g, 0, none⟩), .int .i64 (r : Int)] W (WalkPost W N (wst (sgL l) (nameOf l) M V r N))) := fun W z => by rw [hN]; exact OP.out r W hrl z
    rw [← hE, ← hVV2, ← hBB] at hG2
    rw [← hE] at hEl c2
    rw [← hVV2] at hVl c1
    rw [← hBB] at hBl c3
    have hrll : r < l.length := by omega
    have HDL := Lib.hid hD
    have HN := Lib.hid hN
    have HMM := Lib.hid hMM
    have HVL := Lib.hid hvl
    have HVV := Lib.hid hVV
    have HE := Lib.hid hE
    have HVV2 := Lib.hid hVV2
    clear hq hc hD hMM hVV hvl hN hE hVV2 hBB hr hG1
    -- to the walk
    go_wp2_with fail
    refine (DP.out _ Z0).mono ?_
    rintro e v1 ⟨rfl, z⟩
    have Z1 := Z0.trans (z.mono Z0.size)
    clear z Z0
    go_wp2_with fail
    refine (DP.out _ Z1).mono ?_
    rintro e v2 ⟨rfl, z⟩
    have Z2 := Lib.hid (Z1.trans (z.mono Z1.size))
    clear z Z1
    have OF2 := Lib.hid (OF1.out _ Z2.out)
    go_wp2_with fail
    refine OF2.out.mono ?_
    rintro e v3 ⟨AL, cL, rfl, ownL, z⟩
    have RL := Lib.hid (RdS.own ownL)
    have Z3 := Lib.hid (Z2.out.trans (z.mono Z2.out.size))
    clear z Z2 OF2 ownL
    go_wp2_with fail
    have SK : Hid (∀ W, Below w3.heap.size w3 W → W.cell? ⟨w2.heap.size, 0, none⟩ = some (.slice A l.length cA) ∧ W.cell? ⟨w2.heap.size, 1, none⟩ = some (.int .i64 root) ∧ W.cell? ⟨w2.heap.size, 2, none⟩ = some (.int .i64 0)) := fun W z => by
      have h0 := (XB.out _ z).cell 0
      have h1 := (XB.out _ z).cell 1
      have h2 := (XB.out _ z).cell 2
      exact ⟨by simpa using h0, by simpa using h1, by simpa using h2⟩
    have RP2 : Hid (∀ W, Below v3.heap.size v3 W → Calls Try.prog 20 #[.agg #[.slice A l.length cA, .int .i64 root, .int .i64 0]] W fun e wa => ∃ g9 c9, e = .returned (.slice (some ⟨g9, 0, none⟩) (pN l) c9) ∧ Hid (∀ W', Below wa.heap.size wa W' → W'.cell? ⟨g9, q * 5, none⟩ = some (.int .i64 (rt (part l) q : Int)) ∧ W'.cell? ⟨g9, q * 5 + 1, none⟩ = some (.int .i64 (VV : Int)) ∧ W'.cell? ⟨g9, q * 5 + 2, none⟩ = some (.int .i64 (E : Int)) ∧ W'.cell? ⟨g9, q * 5 + 3, none⟩ = some (.int .i64 (BB : Int)) ∧ W'.cell? ⟨g9, q * 5 + 4, none⟩ = some (.int .i64 (G : Int))) ∧ Below W.heap.size W wa ∧ Below v3.heap.size v3 wa) := fun W z =>
      (RP.out W (Z3.out.trans (z.mono Z3.out.size))).mono fun e wa ⟨A9, c9, h1, h2, h3, h4, h5⟩ => by
        obtain ⟨g9, rfl⟩ := own_some5w h4 (by omega)
        refine ⟨g9, c9, h1, fun W' z' => ?_, h5, z.trans (h5.mono z.size)⟩
        have k := own_below h4 z'
        have k0 := own_cell5w k q 0 hqN (by omega)
        have k1 := own_cell5w k q 1 hqN (by omega)
        have k2 := own_cell5w k q 2 hqN (by omega)
        have k3 := own_cell5w k q 3 hqN (by omega)
        have k4 := own_cell5w k q 4 hqN (by omega)
        rw [Nat.add_zero, Nat.add_zero, c0] at k0
        rw [c1] at k1
        rw [c2] at k2
        rw [c3] at k3
        rw [c4] at k4
        exact ⟨k0, k1, k2, k3, k4⟩
    have NP2 : Hid (∀ W, Below v3.heap.size v3 W → Calls Try.prog 13 #[.agg #[.slice A l.length cA, .int .i64 root, .int .i64 0]] W fun e wa => ∃ g9 c9, e = .returned (.slice (some ⟨g9, 0, none⟩) l.length c9) ∧ Hid (∀ W', Below wa.heap.size wa W' → W'.cell? ⟨g9, r, none⟩ = some (.int .i64 (q : Int))) ∧ Below W.heap.size W wa ∧ Below v3.heap.size v3 wa) := fun W z =>
      (NP.out W (Z3.out.trans (z.mono Z3.out.size))).mono fun e wa ⟨A9, c9, h1, h2, h3, h4, h5⟩ => by
        rw [ofN_len, enames_len] at h1 h4
        obtain ⟨g9, rfl, _⟩ := own_some h4 (by omega)
        refine ⟨g9, c9, h1, fun W' z' => ?_, h5, z.trans (h5.mono z.size)⟩
        have k := own_cellI (own_below h4 z') r (show r < l.length by omega)
        rw [ofN_get, hpq.out] at k
        exact k
    have hqI : (q : Int) < (pN l : Int) := by omega
    have hqI0 : (0 : Int) ≤ (q : Int) := by omega
    have hrI : (r : Int) < (l.length : Int) := by omega
    go_cut [14] (fun s14 wx => ∃ gx, s14 = .pointer (some ⟨gx, 0, none⟩) ∧ Below v3.heap.size v3 wx ∧ Blk wx gx 50 #[.int .i64 (rt (part l) q : Int), .int .i64 (VV : Int), .int .i64 (E : Int), .int .i64 (BB : Int), .int .i64 (G : Int)])
    case first =>
      have hba0 := Below.refl v3.heap.size v3
      have hba1 := hba0.drew
      have hba2 : Below v3.heap.size v3 (v3.alloc (.cells #[.int .i64 0, .int .i64 0, .int .i64 0, .int .i64 0, .int .i64 0] 50)).drew := (hba0.alloc hba0.size _).drew
      obtain ⟨x0, x1, x2⟩ := SK.out _ Z3.out
      obtain ⟨xx0, xx1, xx2⟩ := SK.out _ (Z3.out.trans (hba1.mono Z3.out.size))
      obtain ⟨xz0, xz1, xz2⟩ := SK.out _ (Z3.out.trans (hba2.mono Z3.out.size))
      clear c0 c1 c2 c3 c4 HQ HC HPD HWP HLT HN1 HC1 OF1 RP NP RL
      have BZ1 := Lib.hid (Blk.drewN (Blk.new v3 50 #[.int .i64 0, .int .i64 0, .int .i64 0, .int .i64 0, .int .i64 0]) 1)
      go_region_with (first
        | (go_at_call 13; (with_reducible refine (NP2.out _ (by assumption)).mono ?_); rintro e wb ⟨g10, c10, rfl, kn, zn, hbb⟩; have n0 := kn.out _ (Below.refl _ _); (have zz : Below wa.heap.size wa wb := by first | exact zn | exact hza.out.trans (zn.mono hza.out.size)); obtain ⟨p0, p1, p2, p3, p4⟩ := kp.out _ zz; have nz := kn.out _ ((Below.refl wb.heap.size wb).alloc (Nat.le_refl _) (.cells #[.int .i64 0, .int .i64 0, .int .i64 0, .int .i64 0, .int .i64 0] 50)); obtain ⟨pz0, pz1, pz2, pz3, pz4⟩ := kp.out _ (zz.alloc zz.size (.cells #[.int .i64 0, .int .i64 0, .int .i64 0, .int .i64 0, .int .i64 0] 50)); have hbz := hbb.alloc hbb.size (.cells #[.int .i64 0, .int .i64 0, .int .i64 0, .int .i64 0, .int .i64 0] 50); (first | (have bq := bp.below zz; have y0 := bq.cell 0; have y1 := bq.cell 1; have y2 := bq.cell 2; have y3 := bq.cell 3; have y4 := bq.cell 4; have f0 := bq.frozen 0; have f1 := bq.frozen 1; have f2 := bq.frozen 2; have f3 := bq.frozen 3; have f4 := bq.frozen 4; simp at y0 y1 y2 y3 y4) | (have bq := BZ2.out.below zn; have y0 := bq.cell 0; have y1 := bq.cell 1; have y2 := bq.cell 2; have y3 := bq.cell 3; have y4 := bq.cell 4; have f0 := bq.frozen 0; have f1 := bq.frozen 1; have f2 := bq.frozen 2; have f3 := bq.frozen 3; have f4 := bq.frozen 4; simp at y0 y1 y2 y3 y4) | skip))
        | (go_at_call 20; (with_reducible refine (RP2.out _ (by assumption)).mono ?_); rintro e wa ⟨g9, c9, rfl, kp, za, hba⟩; obtain ⟨xa0, xa1, xa2⟩ := SK.out _ (Z3.out.trans (hba.mono Z3.out.size)); have hbaz := hba.alloc hba.size (.cells #[.int .i64 0, .int .i64 0, .int .i64 0, .int .i64 0, .int .i64 0] 50); obtain ⟨xq0, xq1, xq2⟩ := SK.out _ (Z3.out.trans (hbaz.mono Z3.out.size)); have hza := Lib.hid ((Below.refl wa.heap.size wa).alloc (Nat.le_refl _) (.cells #[.int .i64 0, .int .i64 0, .int .i64 0, .int .i64 0, .int .i64 0] 50)); have BZ2 := Lib.hid (Blk.new wa 50 #[.int .i64 0, .int .i64 0, .int .i64 0, .int .i64 0, .int .i64 0]); (first | (have bp := BZ1.out.below za) | skip)))
      all_goals (
        go_wp2_with fail
        go_meet
        refine ⟨_, rfl, ?_, ?_⟩
        · first
          | with_reducible exact hbb.alloc hbb.size _
          | with_reducible exact ((((hbb.setCell hba.size _).setCell hba.size _).setCell hba.size _).setCell hba.size _).setCell hba.size _
          | with_reducible exact ((((hbb.setCell (Nat.le_refl _) _).setCell (Nat.le_refl _) _).setCell (Nat.le_refl _) _).setCell (Nat.le_refl _) _).setCell (Nat.le_refl _) _
        · first
          | with_reducible exact Blk.new wb _ _
          | with_reducible exact ((((bq.set_ 0 (.int .i64 (rt (part l) q : Int))).set_ 1 (.int .i64 (VV : Int))).set_ 2 (.int .i64 (E : Int))).set_ 3 (.int .i64 (BB : Int))).set_ 4 (.int .i64 (G : Int))
          | (have := ((((bq.set_ 0 (.int .i64 (rt (part l) q : Int))).set_ 1 (.int .i64 (VV : Int))).set_ 2 (.int .i64 (E : Int))).set_ 3 (.int .i64 (BB : Int))).set_ 4 (.int .i64 (G : Int)); simpa using this))
    case rest =>
      obtain ⟨gx, rfl, z5, hpb⟩ := hcut
      obtain ⟨wd, rfl⟩ : ∃ wd, wd = wc := ⟨_, rfl⟩
      have RL5 := Lib.hid (RL.out.below z5)
      have Z5 := Lib.hid (Z3.out.trans (z5.mono Z3.out.size))
      have HPB := Lib.hid hpb
      have hz5 := z5.size
      clear z5 hpb RL Z3 SK RP2 NP2 c0 c1 c2 c3 c4 RP NP XB
      obtain ⟨sg, hsg⟩ : ∃ sg, sg = sgL l := ⟨_, rfl⟩
      obtain ⟨nm, hnm⟩ : ∃ nm, nm = nameOf l := ⟨_, rfl⟩
      rw [← hsg, ← hnm] at HC1 OF1 HWP HLT RL5 OP
      have HS := Lib.hid (And.intro hsg hnm)
      clear hsg hnm
      go_wp2_with fail
      go_loopw [15, 58] (fun s i wr => ∃ (k y : Nat), k ≤ N ∧ y ≤ k ∧ s = .int .i64 (y : Int) ∧ i = .int .i64 (k : Int) ∧ Hid (y = wcn sg nm M V r 2 k) ∧ Hid (Below wd.heap.size wd wr)) (fun _ i _ => N - (intOf i).toNat)
      case atStart => exact ⟨0, 0, by omega, by omega, rfl, rfl, rfl, Below.refl _ _⟩
      case round =>
        obtain ⟨k, y, hk, hyk, rfl, rfl, HY, HB⟩ := hrel
        by_cases hlt : k < N
        · obtain ⟨bb, rfl, hbB, kk⟩ := (RL5.out.below (HB.out.mono hz5)).2 (by omega)
          have x0 := kk (2 * k) (by omega)
          have x1 := kk (2 * k + 1) (by omega)
          rw [wst_d sg nm M V r hlt] at x0
          rw [wst_k sg nm M V r hlt] at x1
          rw [show 2 * k = k * 2 by omega] at x0 x1
          have NX := Lib.hid (num_next (fun i => (wrun sg nm M V r i).k nm = 2) k)
          obtain ⟨kd, hkd⟩ : ∃ kd, kd = (wrun sg nm M V r k).k nm := ⟨_, rfl⟩
          obtain ⟨dd, hdd⟩ : ∃ dd, dd = (wrun sg nm M V r k).d := ⟨_, rfl⟩
          rw [← hkd] at x1
          rw [← hdd] at x0
          have HB2 := Lib.hid (HB.out.alloc HB.out.size (.cells #[.int .i64 (dd : Int), .int .i64 (kd : Int)] 40))
          have HKD := Lib.hid hkd
          clear kk hkd hdd HB
          by_cases h2 : kd = 2
          · subst h2
            have hy2 : Hid (y + 1 = wcn sg nm M V r 2 (k + 1)) := by
              show _ = _
              unfold wcn
              rw [NX.out.1 HKD.out.symm, HY.out]; rfl
            go_wp2_with fail
            go_roundw
            case rel => exact ⟨k + 1, y + 1, by omega, by omega, by go_num, by go_num, hy2.out, HB2.out⟩
            case measure => simp [intOf]; omega
          · have hy2 : Hid (y = wcn sg nm M V r 2 (k + 1)) := by
              show _ = _
              unfold wcn
              rw [NX.out.2 (fun c => h2 (HKD.out.trans c)), HY.out]; rfl
            have h2i : ¬ (kd : Int) = 2 := by omega
            have h2b : ((kd : Int) == 2) = false := by rw [beq_eq_false_iff_ne]; exact h2i
            go_wp2_with fail
            go_roundw
            case rel => exact ⟨k + 1, y, by omega, by omega, rfl, by go_num, hy2.out, HB2.out⟩
            case measure => simp [intOf]; omega
        · obtain rfl : k = N := by omega
          have hc := HC1.out
          rw [← HY.out] at hc
          have hpb := HPB.out.below HB.out
          have p1 := hpb.cell 1
          have p2 := hpb.cell 2
          have p3 := hpb.cell 3
          have p4 := hpb.cell 4
          simp at p1 p2 p3 p4
          obtain ⟨s1, hs1⟩ : ∃ s1 : Int, s1 = (E : Int) - (VV : Int) := ⟨_, rfl⟩
          obtain ⟨t1, ht1⟩ : ∃ t1 : Int, t1 = (BB : Int) - 1 := ⟨_, rfl⟩
          have e1 : (E : Int) - (VV : Int) = s1 := hs1.symm
          have e2 : s1 + 1 = (y : Int) := by omega
          have e3 : 2 * (E : Int) = (k : Int) := by omega
          have e4 : (BB : Int) - 1 = t1 := ht1.symm
          have w1 : IntKind.i64.wrap s1 = s1 := by simp [IntKind.wrap, IntKind.signed, IntKind.bits]; omega
          have w2' : IntKind.i64.wrap (y : Int) = (y : Int) := by simp [IntKind.wrap, IntKind.signed, IntKind.bits]; omega
          have w3' : IntKind.i64.wrap (k : Int) = (k : Int) := by simp [IntKind.wrap, IntKind.signed, IntKind.bits]; omega
          have w4 : IntKind.i64.wrap t1 = t1 := by simp [IntKind.wrap, IntKind.signed, IntKind.bits]; omega
          have HT : Hid (G = 0 → t1 = (y : Int)) := fun g0 => by omega
          -- the second walk
          obtain ⟨o, ho⟩ : ∃ o, o = oo % k := ⟨_, rfl⟩
          have hok : o < k := by rw [ho]; exact Nat.mod_lt _ (by omega)
          have ho1 : (oo : Int) % (k : Int) = (o : Int) := by rw [ho, Int.natCast_emod]
          have ho2 : (oo : Int).tmod (k : Int) = (o : Int) := by rw [Int.tmod_eq_emod_of_nonneg (by omega)]; exact ho1
          have hk0 : ¬ (k : Int) = 0 := by omega
          have RL6 := Lib.hid (RL5.out.below (HB.out.mono hz5))
          obtain ⟨bb, rfl, hbB, kk⟩ := RL6.out.2 (by omega)
          have x0 := kk (2 * o) (by omega)
          rw [wst_d sg nm M V r hok] at x0
          rw [show 2 * o = o * 2 by omega] at x0
          obtain ⟨d, hd⟩ : ∃ d, d = (wrun sg nm M V r o).d := ⟨_, rfl⟩
          rw [← hd] at x0
          have hdl : d < l.length := by rw [hd]; exact HLT.out o
          have hpd : pq l d = q := by
            rw [HQ.out.1]
            exact (HPD.out d hdl).2 ((HWP.out d hdl).2 ⟨o, by have h := HN.out; rw [← HS.out.1, ← HS.out.2] at h; omega, hd.symm⟩)
          obtain ⟨N', hN'⟩ : ∃ N', N' = wN sg nm M V d := ⟨_, rfl⟩
          obtain ⟨T0, hT0⟩ : ∃ T0, T0 = wcn sg nm M V r 0 k := ⟨_, rfl⟩
          obtain ⟨T1, hT1⟩ : ∃ T1, T1 = wcn sg nm M V d 0 N' := ⟨_, rfl⟩
          have hc' := HC.out d hdl
          rw [hpd, ← HS.out.1, ← HS.out.2, ← HMM.out, ← hN', ← hT1] at hc'
          rw [← hT0] at hc
          have hE' : E = pE l q l.length := HE.out
          have hV' : VV = pV l q l.length := HVV2.out
          have hNN : N' = k := by omega
          have hTT : T1 = T0 := by omega
          have O2 := OP.out d
          rw [← hN', hNN] at O2
          have hdD : d < D := by rw [HDL.out]; exact hdl
          have OF3 := Lib.hid (fun W z => O2 W hdD z)
          have RL7 : Hid (RdS wr v3.heap.size (some ⟨bb, 0, none⟩) k (wst sg nm M V r k)) := RL6.out
          have hLT : Hid ((treeL (wst sg nm M V r k) k).length = T0) := by show _ = _; rw [hT0]; exact treeL_wcn sg nm M V r k k (Nat.le_refl _)
          have hLT2 : Hid ((treeL (wst sg nm M V d k) k).length = T0) := by
            show _ = _
            rw [treeL_wcn sg nm M V d k k (Nat.le_refl _), ← hTT, hT1, hNN]
          have HBS : Hid (wd.heap.size ≤ wr.heap.size) := HB.out.size
          have HZB := Lib.hid (Z5.out.trans (HB.out.mono Z5.out.size))
          have hT0k : T0 ≤ 26 := by omega
          clear hc hc' hE' hV' hpd hd ho hT0 hT1 hTT hN' hs1 ht1 kk O2 hpb HC1 HY HB
          have HLT2 := hLT2
          have HB0 : Hid (wd.heap.size ≤ wr.heap.size) := HBS.out
          clear hLT2
          by_cases hG0 : G = 0
          · have ht := HT.out hG0
            subst hG0
            subst ht
            go_wp2_with fail
            refine (OF3.out wr HZB.out).mono ?_
            rintro e v5 ⟨AK, cK, rfl, ownK, z⟩
            have RK := Lib.hid (RdS.own ownK)
            have RL8 := Lib.hid (RL7.out.below (z.mono (Nat.le_trans hz5 HB0.out)))
            have hv35 : v3.heap.size ≤ v5.heap.size := Nat.le_trans (Nat.le_trans hz5 HB0.out) z.size
            have HZ5 := Lib.hid (HZB.out.trans (z.mono HZB.out.size))
            have TK := Lib.hid (tree_p AK k cK _ _ v5 RK.out (Nat.le_refl _) (by omega))
            clear z ownK
            go_wp2_with fail
            refine TK.out.mono ?_
            rintro e v6 ⟨AT, cT, rfl, hcT, hmT, ownT, z⟩
            have TL := Lib.hid (tree_p (some ⟨bb, 0, none⟩) k cL _ _ v6 (RL8.out.below (z.mono hv35)) (Nat.le_trans hv35 z.size) (by omega))
            have HZ6 := Lib.hid (HZ5.out.trans (z.mono HZ5.out.size))
            rw [HLT2.out]
            clear z ownT TK hcT hmT
            go_wp2_with fail
            refine TL.out.mono ?_
            rintro e v7 ⟨AU, cU, rfl, hcU, hmU, ownU, z⟩
            have HZ7 := Lib.hid (B3.out.trans ((HZ6.out.trans (z.mono HZ6.out.size)).mono B3.out.size))
            rw [hLT.out]
            clear z ownU TL hcU hmU
            go_wp2_with fail
            go_ret
            exact ⟨by first | rfl | simp, HZ7.out⟩
          · have hGb : ((G : Int) == 0) = false := by rw [beq_eq_false_iff_ne]; omega
            have hGi : ¬ (G : Int) = 0 := by omega
            go_wp2_with fail
            refine (OF3.out wr HZB.out).mono ?_
            rintro e v5 ⟨AK, cK, rfl, ownK, z⟩
            have RK := Lib.hid (RdS.own ownK)
            have RL8 := Lib.hid (RL7.out.below (z.mono (Nat.le_trans hz5 HB0.out)))
            have hv35 : v3.heap.size ≤ v5.heap.size := Nat.le_trans (Nat.le_trans hz5 HB0.out) z.size
            have HZ5 := Lib.hid (HZB.out.trans (z.mono HZB.out.size))
            have TK := Lib.hid (tree_p AK k cK _ _ v5 RK.out (Nat.le_refl _) (by omega))
            clear z ownK
            go_wp2_with fail
            refine TK.out.mono ?_
            rintro e v6 ⟨AT, cT, rfl, hcT, hmT, ownT, z⟩
            have TL := Lib.hid (tree_p (some ⟨bb, 0, none⟩) k cL _ _ v6 (RL8.out.below (z.mono hv35)) (Nat.le_trans hv35 z.size) (by omega))
            have HZ6 := Lib.hid (HZ5.out.trans (z.mono HZ5.out.size))
            rw [HLT2.out]
            clear z ownT TK hcT hmT
            go_wp2_with fail
            refine TL.out.mono ?_
            rintro e v7 ⟨AU, cU, rfl, hcU, hmU, ownU, z⟩
            have HZ7 := Lib.hid (B3.out.trans ((HZ6.out.trans (z.mono HZ6.out.size)).mono B3.out.size))
            rw [hLT.out]
            clear z ownU TL hcU hmU
            go_wp2_with fail
            go_ret
            exact ⟨by first | rfl | simp, HZ7.out⟩
end Go.Proofs.Ytgohdhmijfajfaa
