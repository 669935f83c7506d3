/- Star and Seed of the program. GrowNil: the walk. What a way to grow makes of a map, and its error: the program's, for any way and darts. -/
import Derived.Test.YtgcbdoljapnecaaGreatZGOps2
import Derived.Test.YtgcbdoljapnecaaGreatZEGenR
namespace Go.Proofs.YtgcbdoljapnecaaGreat
set_option maxRecDepth 100000
open Go.RowKit
set_option linter.unusedVariables false
/-- The turns when j corners of the face have their edges; P: those ahead of the corners. -/
def starS (l b : List Nat) (P : List Nat) : Nat → List Nat × List Nat
  | 0 => (l, b)
  | j + 1 =>
    let p := starS l b P j
    let q := (putL (edgL p.1) p.1.length (P.getD j 0), putB (edgL p.1) (edgL p.2) p.1.length (P.getD j 0))
    if j = 0 then q else (putL q.1 (p.1.length + 1) (l.length + 1), putB q.1 q.2 (p.1.length + 1) (l.length + 1))
section
variable {l b : List Nat}
theorem star_one (h : Inv l b) {a : Nat} (ha : a < l.length) : Inv (putL (edgL l) l.length a) (putB (edgL l) (edgL b) l.length a) ∧ (putL (edgL l) l.length a).length = l.length + 2 ∧ sgL (putL (edgL l) l.length a) (l.length + 1) = l.length + 1 := by
  have h1 := edg_new l (Nat.le_refl _) (show l.length < l.length + 2 by omega)
  refine ⟨put_inv (edg_inv h) (by rw [edg_len]; omega) (by rw [edg_len]; omega) h1, by rw [put_len, edg_len], ?_⟩
  rw [put_other (edg_inv h) (by rw [edg_len]; omega) (by rw [edg_len]; omega) h1 (by omega) (by omega)]
  exact edg_new l (by omega) (by omega)
theorem star_inv (h : Inv l b) {P : List Nat} (hP : ∀ x, x ∈ P → x < l.length) : ∀ j, j ≤ P.length → Inv (starS l b P j).1 (starS l b P j).2 ∧ (starS l b P j).1.length = l.length + 2 * j
  | 0, _ => ⟨h, by simp [starS]⟩
  | j + 1, hj => by
    obtain ⟨h1, h2⟩ := star_inv h hP j (by omega)
    have hx : P.getD j 0 < l.length := hP _ (by rw [List.getD_eq_getElem?_getD, List.getElem?_eq_getElem (show j < P.length by omega)]; exact List.getElem_mem _)
    obtain ⟨q1, q2, q3⟩ := star_one h1 (a := P.getD j 0) (by omega)
    unfold starS
    simp only
    by_cases c : j = 0
    · rw [if_pos c]
      exact ⟨q1, by rw [q2, h2]; omega⟩
    · rw [if_neg c]
      exact ⟨put_inv q1 (by rw [q2]; omega) (by rw [q2]; omega) q3, by rw [put_len, q2, h2]; omega⟩
end
/-- The darts ahead of the face's. -/
noncomputable def aheadN (l b : List Nat) (d : Nat) : List Nat := (orb (phiL l) d).map fun x => b.getD x 0
noncomputable def starL (l b : List Nat) (d : Nat) : List Nat := (starS l b (aheadN l b d) (aheadN l b d).length).1
noncomputable def starB (l b : List Nat) (d : Nat) : List Nat := (starS l b (aheadN l b d) (aheadN l b d).length).2
theorem ahead_lt {l b : List Nat} (h : Inv l b) (he : l.length % 2 = 0) {d : Nat} (hd : d < l.length) : (∀ x, x ∈ orb (phiL l) d → x < l.length) ∧ (∀ x, x ∈ aheadN l b d → x < l.length) ∧ (orb (phiL l) d).length ≤ l.length ∧ 1 ≤ (orb (phiL l) d).length := by
  have hp := phi_inv h he
  have hdp : d < (phiL l).length := by rw [phiL_len]; exact hd
  have h1 : ∀ x, x ∈ orb (phiL l) d → x < l.length := fun x hx => by
    obtain ⟨t, ht⟩ := (mem_orb hp hdp).1 hx
    rw [← ht]
    have := it_lt hp hdp t
    rwa [phiL_len] at this
  have h2 : (orb (phiL l) d).length = per (phiL l) d := by unfold orb; exact way_len _ _ _
  have h3 := per_le hp hdp
  have h4 := (per_is hp hdp).1
  rw [phiL_len] at h3
  refine ⟨h1, fun x hx => ?_, by omega, by omega⟩
  unfold aheadN at hx
  obtain ⟨y, hy, rfl⟩ := List.mem_map.1 hx
  exact h.lt' _ (h1 y hy)
set_option maxHeartbeats 8000000 in
theorem star_in (g : Nat) (l b : List Nat) (root lone : Int) (d : Nat) (w : World) (h : MapAt w g l b root lone) (hi : Inv l b) (hr : RootOk root l.length) (hd : d < l.length) (hn : l.length ≤ 30000) :
    Calls Tryz.prog 69 #[.pointer (some ⟨g, 0, none⟩), .int .i64 (d : Int)] w fun en w' => ∃ g', en = .returned (.tuple #[.pointer (some ⟨g', 0, none⟩), .int .i64 0]) ∧ MapAt w' g' (starL l b d) (starB l b d) root lone ∧ Below w.heap.size w w' := by
  have hev := h.1.1
  have hn2 := h.2.1
  have hal := (Below.refl w.heap.size w).alloc (Nat.le_refl _) (.cells #[.int .i64 (d : Int)] 3)
  have RP : Hid (Calls Tryz.prog 96 #[.pointer (some ⟨g, 0, none⟩), .slice (some ⟨w.heap.size, 0, none⟩) 1 1] (w.alloc (.cells #[.int .i64 (d : Int)] 3)) fun en w' => en = .returned (.int .i64 0) ∧ Below w.heap.size w w') := by
    have := gready_p g l b root lone (some ⟨w.heap.size, 0, none⟩) 1 1 [(d : Int)] (w.alloc (.cells #[.int .i64 (d : Int)] 3)) (h.below hal) ((Rd.new w 3 #[.int .i64 (d : Int)] 1 (I64 [(d : Int)]) (by simp [I64]) (by simp)).up (by simp)) (by omega)
    rw [rdy_one hd] at this
    exact this.mono fun en w' ⟨q1, q2⟩ => ⟨q1, hal.trans (q2.mono (by simp))⟩
  have TP : Hid (∀ W, Below w.heap.size w W → Calls Tryz.prog 97 #[.pointer (some ⟨g, 0, none⟩)] W fun en w' => ∃ gx, en = .returned (.pointer (some ⟨gx, 0, none⟩)) ∧ TurnsAt w' W.heap.size gx l b ∧ Below W.heap.size W w') := fun W m => turnsOf_p g l b root lone W (h.below m) hi
  obtain ⟨a1, a2, a3, a4⟩ := ahead_lt hi hev hd
  have HS := Lib.hid (star_inv hi a2)
  have BP : Hid (∀ W, Below w.heap.size w W → Calls Tryz.prog 104 #[.pointer (some ⟨g, 0, none⟩), .int .i64 (d : Int)] W (NewI64 W (ofN (orb (phiL l) d)))) := fun W m => border_in g l b root lone d W (h.below m) hd
  have KP : Hid (∀ x, x ∈ orb (phiL l) d → ∀ W, Below w.heap.size w W → Calls Tryz.prog 105 #[.pointer (some ⟨g, 0, none⟩), .int .i64 (x : Int)] W fun e w' => e = .returned (.int .i64 ((b.getD x 0 : Nat) : Int)) ∧ Below W.heap.size W w') := fun x hx W m => mback_in g l b root lone x W (h.below m) (a1 x hx)
  obtain ⟨O, hO⟩ : ∃ O, O = orb (phiL l) d := ⟨_, rfl⟩
  obtain ⟨P, hP⟩ : ∃ P, P = aheadN l b d := ⟨_, rfl⟩
  obtain ⟨K, hK⟩ : ∃ K, K = O.length := ⟨_, rfl⟩
  have HPK : Hid (P.length = K ∧ ∀ j, j < K → P.getD j 0 = b.getD (O.getD j 0) 0) := by
    refine ⟨by rw [hP, hK, hO]; simp [aheadN], fun j hj => ?_⟩
    rw [hP, hO]
    unfold aheadN
    rw [hK, hO] at hj
    simp [List.getD_eq_getElem?_getD, List.getElem?_eq_getElem hj]
  have HPL : Hid (∀ x, x ∈ P → x < l.length) := by rw [hP]; exact a2
  have DR : Hid (∀ W Fr gx, TurnsF W Fr gx (starL l b d) (starB l b d) → Below w.heap.size w W → Calls Tryz.prog 100 #[.pointer (some ⟨gx, 0, none⟩), .pointer (some ⟨g, 0, none⟩)] W (NewMap W (starL l b d) (starB l b d) root lone)) := fun W Fr gx ht m => by
    have hv := HS.out _ (Nat.le_refl _)
    have hl : (aheadN l b d).length = (orb (phiL l) d).length := by simp [aheadN]
    have hl2 : (starL l b d).length = l.length + 2 * (orb (phiL l) d).length := by have := hv.2; unfold starL; rw [hl] at this ⊢; exact this
    exact drawn_p 0 gx g (starL l b d) (starB l b d) l b root lone W (ht.mono fun _ _ _ => Nat.zero_le _) (h.below m) hv.1 (by rw [hl2]; omega) (by rw [hl2]; omega) (by rw [hl2]; exact root_more hr (by omega) (by omega))
  have HSL : Hid (starL l b d = (starS l b P K).1 ∧ starB l b d = (starS l b P K).2) := by
    unfold starL starB
    rw [← hP]
    have : P.length = K := HPK.out.1
    rw [this]; exact ⟨rfl, rfl⟩
  rw [← hO] at BP KP a3 a4
  rw [← hP] at HS
  rw [← hK] at a3 a4
  have HOK : Hid (K = O.length) := hK
  have HOL : Hid ((ofN O).length = K) := by show _ = _; rw [ofN_len]; exact hK.symm
  obtain ⟨n, hnn⟩ : ∃ n, n = l.length := ⟨_, rfl⟩
  obtain ⟨n1, hn1⟩ : ∃ n1, n1 = l.length + 1 := ⟨_, rfl⟩
  have e1 : (n : Int) + 1 = (n1 : Int) := by omega
  have we1 : IntKind.i64.wrap (n1 : Int) = (n1 : Int) := by simp [IntKind.wrap, IntKind.signed, IntKind.bits]; omega
  have HN : Hid (n = l.length ∧ n1 = l.length + 1) := ⟨hnn, hn1⟩
  have NXP : Hid (∀ W base gx, TurnsAt W base gx l b → Calls Tryz.prog 103 #[.pointer (some ⟨gx, 0, none⟩)] W fun en w' => en = .returned (.int .i64 (n : Int)) ∧ W = w') := fun W base gx ht => by
    have := gnext_p base gx l b W ht
    rw [← HN.out.1] at this
    exact this
  have HEV := Lib.hid hev
  clear h hal hi hr hn2 hev hnn hn1 hO hP hK a1 a2
  rw [HSL.out.1, HSL.out.2] at DR ⊢
  clear HSL
  go_enter Tryz.func69, Tryz.ntmps69
  go_wp2_with fail
  refine RP.out.mono ?_
  rintro en w1 ⟨rfl, b1⟩
  have B1 := Lib.hid b1
  clear b1 RP
  go_wp2_with fail
  refine (TP.out _ B1.out).mono ?_
  rintro en w2 ⟨gx, rfl, t2, b2⟩
  have B2 := B1.out.trans (b2.mono B1.out.size)
  clear b2 TP
  go_wp2_with fail
  refine (NXP.out _ _ _ t2).mono ?_
  rintro en w3 ⟨rfl, rfl⟩
  go_wp2_with fail
  refine (BP.out _ B2).mono ?_
  rintro en w4 ⟨A4, c4, rfl, hc4, hm4, hown4, b4⟩
  rw [HOL.out] at hc4 hown4 ⊢
  obtain ⟨X, rfl, hX, hXw⟩ := own_some hown4 (by omega)
  have B4 := B2.trans (b4.mono B2.size)
  have t4 : TurnsF w4 (fun k => w.heap.size ≤ k ∧ k ≠ X) gx l b := (t2.mono (fun k hk q => ⟨Nat.le_trans B1.out.size q, by omega⟩)).below b4
  have S0 := Lib.hid (And.intro t4 (And.intro hown4 B4))
  have hXF : Hid (∀ W, Mod (fun k => w.heap.size ≤ k ∧ k ≠ X) w4 W → (∀ j, j < K → W.cell? ⟨X, 0 + j, none⟩ = some (.int .i64 ((O.getD j 0 : Nat) : Int))) ∧ Below w.heap.size w W) := fun W m => by
    refine ⟨fun j hj => ?_, B4.trans (m.belowB B4.size fun i hi q => by omega)⟩
    have := own_cellI (own_mod hown4 m (fun k hk q => by simp [Value.ownBlock] at hk; omega)) j hj
    rw [ofN_get] at this
    rw [Nat.zero_add]; exact this
  have hX4 : X < w4.heap.size := hXw
  clear t2 b4 B2 hown4 t4 B4 NXP BP B1 hX hXw
  go_wp2_with fail
  go_loopw [29] (fun i wr => ∃ (j : Nat), j ≤ K ∧ i = .int .i64 (j : Int) ∧ Hid (TurnsF wr (fun k => w.heap.size ≤ k ∧ k ≠ X) gx (starS l b P j).1 (starS l b P j).2) ∧ Hid (Mod (fun k => w.heap.size ≤ k ∧ k ≠ X) w4 wr)) (fun i _ => K - (intOf i).toNat)
  case atStart => exact ⟨0, by omega, rfl, S0.out.1, Mod.refl _ _⟩
  case round =>
    clear S0
    obtain ⟨j, hj, rfl, HT, HM⟩ := hrel
    by_cases hlt : j < K
    · have hdk : decide (j < K) = true := decide_eq_true hlt
      have cx := (hXF.out _ HM.out).1 j hlt
      rw [Nat.zero_add] at cx
      have hsv := HS.out j (by rw [HPK.out.1]; exact hj)
      obtain ⟨m, hm⟩ : ∃ m, m = l.length + 2 * j := ⟨_, rfl⟩
      obtain ⟨m1, hm1⟩ : ∃ m1, m1 = l.length + 2 * j + 1 := ⟨_, rfl⟩
      have hxm : O.getD j 0 ∈ O := by rw [List.getD_eq_getElem?_getD, List.getElem?_eq_getElem (by rw [← HOK.out]; exact hlt)]; exact List.getElem_mem _
      have KX := Lib.hid (KP.out _ hxm)
      have hpj := HPK.out.2 j hlt
      have hpl : P.getD j 0 < l.length := HPL.out _ (by rw [List.getD_eq_getElem?_getD, List.getElem?_eq_getElem (by rw [HPK.out.1]; exact hlt)]; exact List.getElem_mem _)
      rw [← hpj] at KX
      have hso := star_one hsv.1 (a := P.getD j 0) (by rw [hsv.2]; omega)
      have EP : Hid (Calls Tryz.prog 98 #[.pointer (some ⟨gx, 0, none⟩)] wr fun en w' => en = .returned (.tuple #[.int .i64 (m : Int), .int .i64 (m1 : Int)]) ∧ TurnsF w' (fun k => w.heap.size ≤ k ∧ k ≠ X) gx (edgL (starS l b P j).1) (edgL (starS l b P j).2) ∧ Mod (fun k => w.heap.size ≤ k ∧ k ≠ X) wr w') := by
        have hsz := HM.out.size
        have hbs := (hXF.out _ HM.out).2.size
        have := gedgeF_p (fun k => w.heap.size ≤ k ∧ k ≠ X) gx _ _ wr HT.out (by rw [hsv.2]; omega) (fun k hk => ⟨by omega, by omega⟩)
        rw [hsv.2, ← hm1, ← hm] at this
        exact this
      have P1 : Hid (∀ W, TurnsF W (fun k => w.heap.size ≤ k ∧ k ≠ X) gx (edgL (starS l b P j).1) (edgL (starS l b P j).2) → Calls Tryz.prog 99 #[.pointer (some ⟨gx, 0, none⟩), .int .i64 (m : Int), .int .i64 ((P.getD j 0 : Nat) : Int)] W fun en w' => en = .returned (.tuple #[]) ∧ TurnsF w' (fun k => w.heap.size ≤ k ∧ k ≠ X) gx (putL (edgL (starS l b P j).1) (starS l b P j).1.length (P.getD j 0)) (putB (edgL (starS l b P j).1) (edgL (starS l b P j).2) (starS l b P j).1.length (P.getD j 0)) ∧ Mod (fun k => w.heap.size ≤ k ∧ k ≠ X) W w') := fun W ht => by
        have := gputF_p (fun k => w.heap.size ≤ k ∧ k ≠ X) gx _ _ (starS l b P j).1.length (P.getD j 0) W ht (edg_inv hsv.1) (by rw [edg_len]; omega) (by rw [edg_len, hsv.2]; omega) (by rw [edg_len, hsv.2]; omega)
        rw [hm]
        rw [hsv.2] at this ⊢
        exact this
      have P2 : Hid (∀ W, TurnsF W (fun k => w.heap.size ≤ k ∧ k ≠ X) gx (putL (edgL (starS l b P j).1) (starS l b P j).1.length (P.getD j 0)) (putB (edgL (starS l b P j).1) (edgL (starS l b P j).2) (starS l b P j).1.length (P.getD j 0)) → Calls Tryz.prog 99 #[.pointer (some ⟨gx, 0, none⟩), .int .i64 (m1 : Int), .int .i64 (n1 : Int)] W fun en w' => en = .returned (.tuple #[]) ∧ TurnsF w' (fun k => w.heap.size ≤ k ∧ k ≠ X) gx (putL (putL (edgL (starS l b P j).1) (starS l b P j).1.length (P.getD j 0)) ((starS l b P j).1.length + 1) (l.length + 1)) (putB (putL (edgL (starS l b P j).1) (starS l b P j).1.length (P.getD j 0)) (putB (edgL (starS l b P j).1) (edgL (starS l b P j).2) (starS l b P j).1.length (P.getD j 0)) ((starS l b P j).1.length + 1) (l.length + 1)) ∧ Mod (fun k => w.heap.size ≤ k ∧ k ≠ X) W w') := fun W ht => by
        have := gputF_p (fun k => w.heap.size ≤ k ∧ k ≠ X) gx _ _ ((starS l b P j).1.length + 1) (l.length + 1) W ht hso.1 (by rw [hso.2.1]; omega) (by rw [hso.2.1, hsv.2]; omega) (by rw [hso.2.1, hsv.2]; omega)
        rw [hm1, HN.out.2]
        rw [hsv.2] at this ⊢
        exact this
      have HST : Hid (starS l b P (j + 1) = if j = 0 then (putL (edgL (starS l b P j).1) (starS l b P j).1.length (P.getD j 0), putB (edgL (starS l b P j).1) (edgL (starS l b P j).2) (starS l b P j).1.length (P.getD j 0)) else (putL (putL (edgL (starS l b P j).1) (starS l b P j).1.length (P.getD j 0)) ((starS l b P j).1.length + 1) (l.length + 1), putB (putL (edgL (starS l b P j).1) (starS l b P j).1.length (P.getD j 0)) (putB (edgL (starS l b P j).1) (edgL (starS l b P j).2) (starS l b P j).1.length (P.getD j 0)) ((starS l b P j).1.length + 1) (l.length + 1))) := rfl
      have HMM : Hid (m1 = n1 ↔ j = 0) := by
        have := HN.out.2
        exact ⟨fun q => by omega, fun q => by omega⟩
      generalize (putL (putL (edgL (starS l b P j).1) (starS l b P j).1.length (P.getD j 0)) ((starS l b P j).1.length + 1) (l.length + 1)) = L2 at *
      generalize (putB (putL (edgL (starS l b P j).1) (starS l b P j).1.length (P.getD j 0)) (putB (edgL (starS l b P j).1) (edgL (starS l b P j).2) (starS l b P j).1.length (P.getD j 0)) ((starS l b P j).1.length + 1) (l.length + 1)) = B2 at *
      generalize (putL (edgL (starS l b P j).1) (starS l b P j).1.length (P.getD j 0)) = L1 at *
      generalize (putB (edgL (starS l b P j).1) (edgL (starS l b P j).2) (starS l b P j).1.length (P.getD j 0)) = B1 at *
      clear hsv hso hm hm1 hxm hpj hpl
      generalize P.getD j 0 = pj at *
      generalize O.getD j 0 = oj at *
      have hlti : (j : Int) < (K : Int) := by omega
      go_wp2_with fail
      refine EP.out.mono ?_
      rintro en u1 ⟨rfl, t5, m5⟩
      have M5 := Lib.hid (mod_self HM.out m5)
      have T5 := Lib.hid t5
      clear t5 m5 EP HT
      go_wp2_with fail
      refine (KX.out _ (hXF.out _ M5.out).2).mono ?_
      rintro en u2 ⟨rfl, z⟩
      have T6 := Lib.hid (T5.out.below z)
      have M6 := Lib.hid (mod_self M5.out (Mod.none_ z _))
      clear z T5 M5
      go_wp2_with fail
      refine (P1.out _ T6.out).mono ?_
      rintro en u3 ⟨rfl, t7, m7⟩
      have M7 := Lib.hid (mod_self M6.out m7)
      have T7 := Lib.hid t7
      clear t7 m7 T6 M6 P1
      by_cases c : j = 0
      · have hmm : m1 = n1 := HMM.out.2 c
        have HT8 : Hid (TurnsF u3 (fun k => w.heap.size ≤ k ∧ k ≠ X) gx (starS l b P (j + 1)).1 (starS l b P (j + 1)).2) := by
          rw [HST.out, if_pos c]; exact T7.out
        clear HST HMM T7 P2
        have hd1 : ((m1 : Int) != (n1 : Int)) = false := by simp [hmm]
        have hd2 : (m1 != n1) = false := by simp [hmm]
        have hd3 : decide (m1 = n1) = true := decide_eq_true hmm
        clear hmm c
        go_wp2_with fail
        go_roundw
        case rel => exact ⟨j + 1, by omega, by go_num, HT8, M7⟩
        case measure => simp [intOf]; omega
      · have hmm : m1 ≠ n1 := fun q => c (HMM.out.1 q)
        have hd1 : ((m1 : Int) != (n1 : Int)) = true := by simp; omega
        have hd2 : (m1 != n1) = true := by simp [hmm]
        have hd3 : decide (m1 = n1) = false := decide_eq_false hmm
        go_wp2_with fail
        refine (P2.out _ T7.out).mono ?_
        rintro en u4 ⟨rfl, t8, m8⟩
        have M8 := Lib.hid (mod_self M7.out m8)
        have HT8 : Hid (TurnsF u4 (fun k => w.heap.size ≤ k ∧ k ≠ X) gx (starS l b P (j + 1)).1 (starS l b P (j + 1)).2) := by
          rw [HST.out, if_neg c]; exact t8
        clear t8 m8 HST HMM T7 P2 M7
        go_wp2_with fail
        go_roundw
        case rel => exact ⟨j + 1, by omega, by go_num, HT8, M8⟩
        case measure => simp [intOf]; omega
    · obtain rfl : j = K := by omega
      have hdk : decide (j < j) = false := by simp
      have BW := Lib.hid (hXF.out _ HM.out).2
      go_wp2_with fail
      refine (DR.out _ _ _ HT.out BW.out).mono ?_
      rintro en w99 ⟨g9, rfl, m9, b9, lo9⟩
      have F := Lib.hid (And.intro m9 (BW.out.trans (b9.mono BW.out.size)))
      clear m9 b9 lo9
      go_wp2_with fail
      go_ret2
      exact ⟨g9, rfl, F.out.1, F.out.2⟩
def sdL : List Nat := [0, 1]
theorem sd_inv : Inv sdL sdL := by
  refine ⟨rfl, ?_, ?_, ?_, ?_⟩ <;> (intro i hi; have : i = 0 ∨ i = 1 := by (simp [sdL] at hi; omega)); all_goals (rcases this with rfl | rfl <;> decide)
set_option maxHeartbeats 4000000 in
theorem seed_p (w : World) : Calls Tryz.prog 22 #[] w fun en w' => ∃ g', en = .returned (.pointer (some ⟨g', 0, none⟩)) ∧ MapAt w' g' sdL sdL 0 0 ∧ Below w.heap.size w w' := by
  have r1 : Rd (w.alloc (.cells #[.int .i64 0, .int .i64 1] 3)) (w.alloc (.cells #[.int .i64 0, .int .i64 1] 3)).heap.size (some ⟨w.heap.size, 0, none⟩) 2 (I64 (ofN sdL)) := (Rd.new w 3 #[.int .i64 0, .int .i64 1] 2 _ (by simp [I64, ofN, sdL]) (by simp)).up (by simp)
  have N1 := Lib.hid (new_ok _ 2 2 sdL sdL 0 0 _ r1 sd_inv (by decide) (by omega) (.inr (by omega)) (by omega) (by omega))
  have HB := Lib.hid ((Below.refl w.heap.size w).alloc (Nat.le_refl _) (.cells #[.int .i64 0, .int .i64 1] 3))
  clear r1
  go_enter Tryz.func22, Tryz.ntmps22
  go_wp2_with fail
  refine N1.out.mono ?_
  rintro e w1 ⟨g9, rfl, m9, b9, lo9⟩
  have F := Lib.hid (And.intro m9 (HB.out.trans (b9.mono HB.out.size)))
  clear m9 b9 lo9
  go_wp2_with fail
  go_ret
  exact ⟨g9, rfl, F.out.1, F.out.2⟩
end Go.Proofs.YtgcbdoljapnecaaGreat
namespace Go.Proofs.YtgcbdoljapnecaaGreat
set_option maxRecDepth 100000
open Go.RowKit
set_option linter.unusedVariables false
theorem met_sizesG {l b : List Nat} (h : Inv l b) : (sizes l).length = metB l := by rw [← met_is h]; simp [sizes, sizesTo]
end Go.Proofs.YtgcbdoljapnecaaGreat
namespace Go.Proofs.YtgcbdoljapnecaaGreat
set_option maxRecDepth 100000
open Go.RowKit
set_option linter.unusedVariables false
/-- The error of way k at d and e. -/
noncomputable def growE (k : Nat) (l : List Nat) (d e : Int) : Int :=
  open Classical in
  if (d < 0 ∨ (l.length : Int) ≤ d) ∨ (k = 1 ∧ (e < 0 ∨ (l.length : Int) ≤ e)) then 1
  else if k = 1 ∧ nameOf (phiL l) (l.getD d.toNat 0) ≠ nameOf (phiL l) (l.getD e.toNat 0) then 8
  else if k = 4 ∧ ¬ Flips l d.toNat then 8 else 0
noncomputable def growO (k : Nat) (l b : List Nat) (d e : Nat) : List Nat × List Nat :=
  if k = 0 then (leafL l d, leafB l b d) else if k = 1 then (chordL l d e, chordB l b d e) else if k = 2 then (splitL l b d, splitB l b d) else if k = 3 then (starL l b d, starB l b d) else (flipL l b d, flipB l b d)
theorem growE_out {k : Nat} {l : List Nat} {d e : Int} (h : (d < 0 ∨ (l.length : Int) ≤ d) ∨ (k = 1 ∧ (e < 0 ∨ (l.length : Int) ≤ e))) : growE k l d e = 1 := by unfold growE; rw [if_pos h]
theorem growE_in {k : Nat} {l : List Nat} {d e : Int} (h : ¬ ((d < 0 ∨ (l.length : Int) ≤ d) ∨ (k = 1 ∧ (e < 0 ∨ (l.length : Int) ≤ e)))) :
    (¬ (k = 1 ∧ nameOf (phiL l) (l.getD d.toNat 0) ≠ nameOf (phiL l) (l.getD e.toNat 0)) → ¬ (k = 4 ∧ ¬ Flips l d.toNat) → growE k l d e = 0) ∧
    (k = 1 → nameOf (phiL l) (l.getD d.toNat 0) ≠ nameOf (phiL l) (l.getD e.toNat 0) → growE k l d e = 8) ∧ (k = 4 → ¬ Flips l d.toNat → growE k l d e = 8) := by
  unfold growE
  rw [if_neg h]
  refine ⟨fun h1 h2 => by rw [if_neg h1, if_neg h2], fun h1 h2 => by rw [if_pos ⟨h1, h2⟩], fun h1 h2 => ?_⟩
  rw [if_neg (fun c => by omega), if_pos ⟨h1, h2⟩]
/-- What the program answers: the error, and the map if there is none. -/
def GrowR (k : Nat) (l b : List Nat) (root lone d e : Int) (w : World) (p : Option Addr) (x : Int) (w' : World) : Prop :=
  x = growE k l d e ∧ Below w.heap.size w w' ∧ ((x = 0 ∧ ∃ g', p = some ⟨g', 0, none⟩ ∧ MapAt w' g' (growO k l b d.toNat e.toNat).1 (growO k l b d.toNat e.toNat).2 root lone) ∨ (x ≠ 0 ∧ p = none))
def GrowA (k : Nat) (l b : List Nat) (root lone d e : Int) (w : World) (en : Ending) (w' : World) : Prop := ∃ p x, en = .returned (.tuple #[.pointer p, .int .i64 x]) ∧ GrowR k l b root lone d e w p x w'
section
variable {g : Nat} {l b : List Nat} {root lone d e : Int} {w : World}
theorem leaf_a (h : MapAt w g l b root lone) (hi : Inv l b) (hr : RootOk root l.length) (hn : l.length ≤ 30000) :
    Calls Tryz.prog 65 #[.pointer (some ⟨g, 0, none⟩), .int .i64 d] w (GrowA 0 l b root lone d e w) := by
  by_cases ho : d < 0 ∨ (l.length : Int) ≤ d
  · exact (leaf_out g l b root lone d w h ho).mono fun en w' ⟨q1, q2⟩ => ⟨none, 1, q1, (growE_out (.inl ho)).symm, q2, .inr ⟨by omega, rfl⟩⟩
  · obtain ⟨dn, rfl⟩ : ∃ dn : Nat, d = (dn : Int) := ⟨d.toNat, by omega⟩
    refine (leaf_in g l b root lone dn w h hi hr (by omega) (by omega)).mono fun en w' ⟨g', q1, q2, q3⟩ => ⟨_, 0, q1, ((growE_in (k := 0) (e := e) (by omega)).1 (by omega) (by omega)).symm, q3, .inl ⟨rfl, g', rfl, ?_⟩⟩
    rw [Int.toNat_natCast]; exact q2
theorem split_a (h : MapAt w g l b root lone) (hi : Inv l b) (hr : RootOk root l.length) (hn : l.length ≤ 30000) :
    Calls Tryz.prog 68 #[.pointer (some ⟨g, 0, none⟩), .int .i64 d] w (GrowA 2 l b root lone d e w) := by
  by_cases ho : d < 0 ∨ (l.length : Int) ≤ d
  · exact (split_out g l b root lone d w h ho).mono fun en w' ⟨q1, q2⟩ => ⟨none, 1, q1, (growE_out (.inl ho)).symm, q2, .inr ⟨by omega, rfl⟩⟩
  · obtain ⟨dn, rfl⟩ : ∃ dn : Nat, d = (dn : Int) := ⟨d.toNat, by omega⟩
    refine (split_in g l b root lone dn w h hi hr (by omega) (by omega)).mono fun en w' ⟨g', q1, q2, q3⟩ => ⟨_, 0, q1, ((growE_in (k := 2) (e := e) (by omega)).1 (by omega) (by omega)).symm, q3, .inl ⟨rfl, g', rfl, ?_⟩⟩
    rw [Int.toNat_natCast]; exact q2
theorem star_a (h : MapAt w g l b root lone) (hi : Inv l b) (hr : RootOk root l.length) (hn : l.length ≤ 30000) :
    Calls Tryz.prog 69 #[.pointer (some ⟨g, 0, none⟩), .int .i64 d] w (GrowA 3 l b root lone d e w) := by
  by_cases ho : d < 0 ∨ (l.length : Int) ≤ d
  · exact (star_out g l b root lone d w h ho).mono fun en w' ⟨q1, q2⟩ => ⟨none, 1, q1, (growE_out (.inl ho)).symm, q2, .inr ⟨by omega, rfl⟩⟩
  · obtain ⟨dn, rfl⟩ : ∃ dn : Nat, d = (dn : Int) := ⟨d.toNat, by omega⟩
    refine (star_in g l b root lone dn w h hi hr (by omega) (by omega)).mono fun en w' ⟨g', q1, q2, q3⟩ => ⟨_, 0, q1, ((growE_in (k := 3) (e := e) (by omega)).1 (by omega) (by omega)).symm, q3, .inl ⟨rfl, g', rfl, ?_⟩⟩
    rw [Int.toNat_natCast]; exact q2
theorem flip_a (h : MapAt w g l b root lone) (hi : Inv l b) (hr : RootOk root l.length) (hn : l.length ≤ 30000) :
    Calls Tryz.prog 70 #[.pointer (some ⟨g, 0, none⟩), .int .i64 d] w (GrowA 4 l b root lone d e w) := by
  by_cases ho : d < 0 ∨ (l.length : Int) ≤ d
  · exact (flip_out g l b root lone d w h ho).mono fun en w' ⟨q1, q2⟩ => ⟨none, 1, q1, (growE_out (.inl ho)).symm, q2, .inr ⟨by omega, rfl⟩⟩
  · obtain ⟨dn, rfl⟩ : ∃ dn : Nat, d = (dn : Int) := ⟨d.toNat, by omega⟩
    have hE := growE_in (k := 4) (l := l) (d := (dn : Int)) (e := e) (by omega)
    rw [Int.toNat_natCast] at hE
    by_cases hf : Flips l dn
    · refine (flip_in g l b root lone dn w h hi hr (by omega) (by omega) hf).mono fun en w' ⟨g', q1, q2, q3⟩ => ⟨_, 0, q1, (hE.1 (by omega) (fun c => c.2 hf)).symm, q3, .inl ⟨rfl, g', rfl, ?_⟩⟩
      rw [Int.toNat_natCast]; exact q2
    · exact (flip_no g l b root lone dn w h (by omega) hf).mono fun en w' ⟨q1, q2⟩ => ⟨none, 8, q1, (hE.2.2 rfl hf).symm, q2, .inr ⟨by omega, rfl⟩⟩
theorem chord_a (h : MapAt w g l b root lone) (hi : Inv l b) (hr : RootOk root l.length) (hn : l.length ≤ 30000) :
    Calls Tryz.prog 67 #[.pointer (some ⟨g, 0, none⟩), .int .i64 d, .int .i64 e] w (GrowA 1 l b root lone d e w) := by
  by_cases ho : (d < 0 ∨ (l.length : Int) ≤ d) ∨ e < 0 ∨ (l.length : Int) ≤ e
  · exact (chord_out g l b root lone d e w h ho).mono fun en w' ⟨q1, q2⟩ => ⟨none, 1, q1, (growE_out (by omega)).symm, q2, .inr ⟨by omega, rfl⟩⟩
  · obtain ⟨dn, rfl⟩ : ∃ dn : Nat, d = (dn : Int) := ⟨d.toNat, by omega⟩
    obtain ⟨en', rfl⟩ : ∃ en' : Nat, e = (en' : Int) := ⟨e.toNat, by omega⟩
    have hE := growE_in (k := 1) (l := l) (d := (dn : Int)) (e := (en' : Int)) (by omega)
    rw [Int.toNat_natCast, Int.toNat_natCast] at hE
    by_cases hf : nameOf (phiL l) (l.getD dn 0) = nameOf (phiL l) (l.getD en' 0)
    · refine (chord_in g l b root lone dn en' w h hi hr (by omega) (by omega) (by omega) hf).mono fun en w' ⟨g', q1, q2, q3⟩ => ⟨_, 0, q1, (hE.1 (fun c => c.2 hf) (by omega)).symm, q3, .inl ⟨rfl, g', rfl, ?_⟩⟩
      rw [Int.toNat_natCast, Int.toNat_natCast]; exact q2
    · exact (chord_two g l b root lone dn en' w h hi hr (by omega) (by omega) (by omega) hf).mono fun en w' ⟨q1, q2⟩ => ⟨none, 8, q1, (hE.2.1 rfl hf).symm, q2, .inr ⟨by omega, rfl⟩⟩
/-- The five ways keep turns, and how long they are. -/
theorem growO_inv (hi : Inv l b) (hev : l.length % 2 = 0) {k : Nat} {d e : Int} (hk : k < 5) (h0 : growE k l d e = 0) : Inv (growO k l b d.toNat e.toNat).1 (growO k l b d.toNat e.toNat).2 ∧ (growO k l b d.toNat e.toNat).1.length ≤ 3 * l.length ∧ (growO k l b d.toNat e.toNat).1.length % 2 = 0 ∧ l.length ≤ (growO k l b d.toNat e.toNat).1.length ∧ 0 < l.length := by
  have hin : ¬ ((d < 0 ∨ (l.length : Int) ≤ d) ∨ (k = 1 ∧ (e < 0 ∨ (l.length : Int) ≤ e))) := fun c => by rw [growE_out c] at h0; omega
  have hE := growE_in hin
  have hd : d.toNat < l.length := by omega
  have hk5 : k = 0 ∨ k = 1 ∨ k = 2 ∨ k = 3 ∨ k = 4 := by omega
  rcases hk5 with rfl | rfl | rfl | rfl | rfl
  · obtain ⟨i1, i2⟩ := leaf_inv hi hd
    exact ⟨i1, by show (leafL l d.toNat).length ≤ _; omega, by show (leafL l d.toNat).length % 2 = 0; omega, by show _ ≤ (leafL l d.toNat).length; omega, by omega⟩
  · have he : e.toNat < l.length := by omega
    obtain ⟨i1, i2⟩ := chord_inv hi hd he
    exact ⟨i1, by show (chordL l d.toNat e.toNat).length ≤ _; omega, by show (chordL l d.toNat e.toNat).length % 2 = 0; omega, by show _ ≤ (chordL l d.toNat e.toNat).length; omega, by omega⟩
  · obtain ⟨i1, i2⟩ := split_inv hi hev hd
    exact ⟨i1, by show (splitL l b d.toNat).length ≤ _; omega, by show (splitL l b d.toNat).length % 2 = 0; omega, by show _ ≤ (splitL l b d.toNat).length; omega, by omega⟩
  · obtain ⟨a1, a2, a3, a4⟩ := ahead_lt hi hev hd
    obtain ⟨i1, i2⟩ := star_inv hi a2 _ (Nat.le_refl _)
    have hl : (aheadN l b d.toNat).length = (orb (phiL l) d.toNat).length := by simp [aheadN]
    have i3 : (starL l b d.toNat).length = l.length + 2 * (aheadN l b d.toNat).length := i2
    exact ⟨i1, by show (starL l b d.toNat).length ≤ _; omega, by show (starL l b d.toNat).length % 2 = 0; omega, by show _ ≤ (starL l b d.toNat).length; omega, by omega⟩
  · have hf : Flips l d.toNat := Classical.byContradiction fun c => by have := hE.2.2 rfl c; omega
    obtain ⟨i1, i2⟩ := flip_inv hi hev hd hf.1
    exact ⟨i1, by show (flipL l b d.toNat).length ≤ _; omega, by show (flipL l b d.toNat).length % 2 = 0; omega, by show _ ≤ (flipL l b d.toNat).length; omega, by omega⟩
end
end Go.Proofs.YtgcbdoljapnecaaGreat
