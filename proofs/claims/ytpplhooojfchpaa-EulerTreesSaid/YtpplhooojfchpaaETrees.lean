/- EulerTrees: the walk. -/
import Derived.Test.YtpplhooojfchpaaEGenR
import Derived.Test.YtpplhooojfchpaaEAwake
namespace Go.Proofs.Ytpplhooojfchpaa
open Go.RowKit
set_option linter.unusedVariables false
theorem len_phi0 {l : List Nat} (h : l.length = 0) : pN l = 0 := by have := pN_le l; omega
theorem tree_facts {l b : List Nat} {lone : Nat} (h : Inv l b) (he : l.length % 2 = 0) (h0 : 0 < l.length) (h1 : pN l + lone = 1) (hg : genusN l = 0) :
    lone = 0 ∧ (sizes l).length + (sizes (phiL l)).length = l.length / 2 + 2 ∧ (sizes l).length + loopsN l (l.length / 2) + dblN l (l.length / 2) ≤ 1 + l.length / 2 := by
  have hp : 0 < pN l := by
    have := pq_lt h he h0 h0
    have : pn (part l) l.length = pN l := rfl
    omega
  have hl : lone = 0 := by omega
  have hp1 : pN l = 1 := by omega
  have sv := sum_v h he 0
  have sb := sum_b h he 0
  have se := sum_e h he 0
  rw [hp1] at sv sb se
  have one : ∀ f : Nat → Nat, sumN f (1 + 0) = f 0 := fun f => by simp [sumN]
  rw [one] at sv sb se
  have ce := (cell_euler h he 0).1
  have cg : genusN l = pgen l 0 := by unfold genusN; rw [hp1]; simp [genusTo]
  have fb := few_bad h he
  rw [← sizes_is h, hp1] at fb
  exact ⟨hl, by omega, by omega⟩
set_option maxRecDepth 20000 in
set_option maxHeartbeats 8000000 in
theorem eulerTrees_walk (A0 : Option Addr) (n m c lo : Nat) (by_ : List Int) (w : World) (h0 : Rd w w.heap.size A0 m (Z8 by_)) (hb0 : ∀ x ∈ by_, 0 ≤ x ∧ x < 256) (hmc : m ≤ c) (hcm : c ≤ maxLen) (hn : n < 256) (hlo : lo < 256) :
    Calls Try.prog 8 #[.int .u8 (n : Int), .slice A0 m c, .int .u8 (lo : Int)] w fun e w' => e = .returned (.bool true) ∧ Below w.heap.size w w' := by
  unfold maxLen at hcm
  have AW := Lib.hid (awake8_p w)
  have H0 := Lib.hid h0
  have HB0 := Lib.hid hb0
  clear h0 hb0
  go_enter Try.func8, Try.ntmps8
  go_wp2_with fail
  refine AW.out.mono ?_
  rintro e w1 ⟨rfl, b1⟩
  have MD := Lib.hid (made8_p n lo m c _ A0 by_ w1 (H0.out.below b1) HB0.out b1.size hn hlo (by omega))
  have B1 := Lib.hid b1
  clear b1 AW
  go_wp2_with fail
  refine MD.out.mono ?_
  rintro e w2 ⟨g, v, l, b, root, rfl, hmap, hrm, hl, hroot, b2⟩
  generalize hq0 : lo % 4 = q0 at hmap hrm
  have hq5 : q0 < 4 := by omega
  obtain ⟨hinv, A, cA, hla, rfl, hlc, hcA, hrA⟩ := hrm
  have hbx := (Below.refl w2.heap.size w2).alloc (Nat.le_refl _) (.cells #[.slice A l.length cA, .int .i64 root, .int .i64 (q0 : Int)] 27)
  have HX := Lib.hid (Blk.new w2 27 #[.slice A l.length cA, .int .i64 root, .int .i64 (q0 : Int)])
  have HM := Lib.hid (hmap.below hbx)
  have HR := Lib.hid (hrA.more hbx)
  have HI := Lib.hid hinv
  have hl20 : l.length ≤ 22 := by have := Nat.mod_lt n (show 0 < 12 by decide); omega
  have HEV : Hid (l.length % 2 = 0) := by show _ = _; omega
  have B2 : Hid (Below w.heap.size w w2) := B1.out.trans (b2.mono B1.out.size)
  have B3 : Hid (Below w.heap.size w (w2.alloc (.cells #[.slice A l.length cA, .int .i64 root, .int .i64 (q0 : Int)] 27))) := B2.out.trans (hbx.mono B2.out.size)
  clear hmap hbx hrA hinv b2 hq0 B1 MD hl hroot hlc hcA hla
  go_upto_region 4 with fail
  generalize hw3 : w2.alloc (.cells #[.slice A l.length cA, .int .i64 root, .int .i64 (q0 : Int)] 27) = w3 at *
  have hX3 : w2.heap.size < w3.heap.size := by rw [← hw3]; simp
  have x0 : w3.cell? ⟨w2.heap.size, 0, none⟩ = some (.slice A l.length cA) := HX.out.cell 0
  have x1 : w3.cell? ⟨w2.heap.size, 1, none⟩ = some (.int .i64 root) := HX.out.cell 1
  have x2 : w3.cell? ⟨w2.heap.size, 2, none⟩ = some (.int .i64 (q0 : Int)) := HX.out.cell 2
  have HXC : Hid (∀ W, Below w3.heap.size w3 W → W.cell? ⟨w2.heap.size, 0, none⟩ = some (.slice A l.length cA) ∧ W.cell? ⟨w2.heap.size, 1, none⟩ = some (.int .i64 root) ∧ W.cell? ⟨w2.heap.size, 2, none⟩ = some (.int .i64 (q0 : Int))) := fun W m => ⟨(m.cell (p := ⟨w2.heap.size, 0, none⟩) hX3).trans x0, (m.cell (p := ⟨w2.heap.size, 1, none⟩) hX3).trans x1, (m.cell (p := ⟨w2.heap.size, 2, none⟩) hX3).trans x2⟩
  clear hw3 x0 x1 x2
  have CP : Hid (∀ W, Below w3.heap.size w3 W → Calls Try.prog 25 #[.pointer (some ⟨g, 0, none⟩)] W fun e w' => e = .returned (.bool (decide (pN l + q0 = 1))) ∧ Below W.heap.size W w') := fun W m => connected_p g l b root q0 W (HM.out.below m)
  have PP : Hid (∀ W, Below w3.heap.size w3 W → Calls Try.prog 24 #[.pointer (some ⟨g, 0, none⟩)] W fun e w' => e = .returned (.bool (decide (genusN l = 0))) ∧ Below W.heap.size W w') := fun W m => planar_p g l b root q0 W (HM.out.below m)
  have DP : Hid (∀ W, Below w3.heap.size w3 W → Calls Try.prog 32 #[.pointer (some ⟨g, 0, none⟩)] W fun e w' => e = .returned (.int .i64 (l.length : Int)) ∧ Below W.heap.size W w') := fun W m => darts_p g l b root q0 W (HM.out.below m)
  have RP : Hid (∀ W, Below w3.heap.size w3 W → Calls Try.prog 12 #[.agg #[.slice A l.length cA, .int .i64 root, .int .i64 (q0 : Int)]] W (NewQt W (pN l + q0) (partsC l (pN l + q0)))) := fun W m => reparts_p A cA l b root q0 W (HR.out.more m) HI.out HEV.out (by omega) (by omega)
  have RG : Hid (∀ W, Below w3.heap.size w3 W → Calls Try.prog 20 #[.agg #[.slice A l.length cA, .int .i64 root, .int .i64 (q0 : Int)]] W fun e w' => e = .returned (.int .i64 (genusN l : Int)) ∧ Below W.heap.size W w') := fun W m => regenus_p A cA l b root q0 W (HR.out.more m) HI.out HEV.out (by omega) (by omega)
  by_cases hc : pN l + q0 = 1
  · rw [decide_eq_true hc] at CP
    rw [hc] at RP
    by_cases hg : genusN l = 0
    · rw [decide_eq_true hg] at PP
      rw [hg] at RG
      by_cases hz : l.length = 0
      · have hz' : ((l.length : Nat) : Int) = 0 := by omega
        rw [hz'] at DP
        have HZ := Lib.hid hz
        clear hc hg hz hz'
        go_wp2_with fail
        refine (CP.out _ (Below.refl _ _)).mono ?_
        rintro e v1 ⟨rfl, z1⟩
        go_wp2_with fail
        refine (PP.out _ z1).mono ?_
        rintro e v2 ⟨rfl, z2⟩
        have Z2 := z1.trans (z2.mono z1.size)
        clear z2
        go_wp2_with fail
        refine (DP.out _ Z2).mono ?_
        rintro e v3 ⟨rfl, z3⟩
        have Z3 := Z2.trans (z3.mono Z2.size)
        obtain ⟨y0, y1, y2⟩ := HXC.out _ Z3
        clear z3
        go_wp2_with fail
        refine (RP.out _ Z3).mono ?_
        rintro e v4 ⟨A4, c4, rfl, _, _, _, z4⟩
        have Z4 := Z3.trans (z4.mono Z3.size)
        clear z4 y0 y1 y2
        obtain ⟨y0, y1, y2⟩ := HXC.out _ Z4
        go_wp2_with fail
        refine (RG.out _ Z4).mono ?_
        rintro e v5 ⟨rfl, z5⟩
        have Z5 := Z4.trans (z5.mono Z4.size)
        clear z5 y0 y1 y2
        obtain ⟨y0, y1, y2⟩ := HXC.out _ Z5
        have hzi : ((l.length : Int) == 0) = true := by rw [beq_iff_eq]; have := HZ.out; omega
        have BB := Lib.hid (B3.out.trans (Z5.mono B3.out.size))
        go_wp2_with fail
        go_ret
        exact ⟨rfl, BB.out⟩
      · obtain ⟨t1, t2, t3⟩ := tree_facts HI.out HEV.out (show 0 < l.length by omega) hc hg
        subst t1
        have EP : Hid (∀ W, Below w3.heap.size w3 W → Calls Try.prog 17 #[.pointer (some ⟨g, 0, none⟩)] W fun e w' => e = .returned (.int .i64 ((l.length / 2 : Nat) : Int)) ∧ Below W.heap.size W w') := fun W m => edges_p g l b root _ W (HM.out.below m)
        have VP : Hid (∀ W, Below w3.heap.size w3 W → Calls Try.prog 16 #[.pointer (some ⟨g, 0, none⟩)] W fun e w' => e = .returned (.int .i64 ((sizes l).length : Int)) ∧ Below W.heap.size W w') := fun W m => by
          have := vertices_p g l b root _ W (HM.out.below m)
          rwa [show ((sizes l).length : Int) + ((0 : Nat) : Int) = ((sizes l).length : Int) by omega] at this
        have OP : Hid (∀ W, Below w3.heap.size w3 W → Calls Try.prog 18 #[.pointer (some ⟨g, 0, none⟩)] W fun e w' => e = .returned (.int .i64 ((sizes (phiL l)).length : Int)) ∧ Below W.heap.size W w') := fun W m => borders_p g l b root _ W (HM.out.below m)
        have SP : Hid (∀ W, Below w3.heap.size w3 W → Calls Try.prog 28 #[.pointer (some ⟨g, 0, none⟩)] W fun e w' => e = .returned (.bool (decide (loopsN l (l.length / 2) = 0 ∧ dblN l (l.length / 2) = 0))) ∧ Below W.heap.size W w') := fun W m => simple_p g l b root _ W (HM.out.below m)
        have LP : Hid (∀ W, Below w3.heap.size w3 W → Calls Try.prog 26 #[.pointer (some ⟨g, 0, none⟩)] W fun e w' => e = .returned (.int .i64 (loopsN l (l.length / 2) : Int)) ∧ Below W.heap.size W w') := fun W m => loops_p g l b root _ W (HM.out.below m)
        have UP : Hid (∀ W, Below w3.heap.size w3 W → Calls Try.prog 27 #[.pointer (some ⟨g, 0, none⟩)] W fun e w' => e = .returned (.int .i64 (dblN l (l.length / 2) : Int)) ∧ Below W.heap.size W w') := fun W m => doubles_p g l b root _ W (HM.out.below m)
        have hzi : ((l.length : Int) == 0) = false := by rw [beq_eq_false_iff_ne]; omega
        generalize loopsN l (l.length / 2) = L at *
        generalize dblN l (l.length / 2) = D at *
        have hne : l.length / 2 ≤ 11 := by omega
        generalize l.length / 2 = ne at *
        generalize (sizes l).length = nv at *
        generalize (sizes (phiL l)).length = nb at *
        have hsum : L + D ≤ 100 := by omega
        have hle9 : (L : Int) + (D : Int) ≤ (ne : Int) - (nv : Int) + 1 := by omega
        have hnv9 : nv ≤ 100 := by omega
        have hnb9 : nb ≤ 100 := by omega
        clear hc hg hz
        by_cases ht : ne + 1 = nv
        · have e1 : ((ne : Int) == (nv : Int) - 1) = true := by rw [beq_iff_eq]; omega
          have e2 : ((nb : Int) == 1) = true := by rw [beq_iff_eq]; omega
          rw [decide_eq_true (show L = 0 ∧ D = 0 by omega)] at SP
          clear ht t2 t3
          go_wp2_with fail
          refine (CP.out _ (Below.refl _ _)).mono ?_
          rintro e v1 ⟨rfl, z1⟩
          go_wp2_with fail
          refine (PP.out _ z1).mono ?_
          rintro e v2 ⟨rfl, z2⟩
          have Z2 := z1.trans (z2.mono z1.size)
          clear z2
          go_wp2_with fail
          refine (DP.out _ Z2).mono ?_
          rintro e v3 ⟨rfl, z3⟩
          have Z3 := Z2.trans (z3.mono Z2.size)
          clear z3
          go_wp2_with fail
          refine (EP.out _ Z3).mono ?_
          rintro e v4 ⟨rfl, z4⟩
          have Z4 := Z3.trans (z4.mono Z3.size)
          clear z4
          go_wp2_with fail
          refine (VP.out _ Z4).mono ?_
          rintro e v5 ⟨rfl, z5⟩
          have Z5 := Z4.trans (z5.mono Z4.size)
          clear z5
          go_wp2_with fail
          refine (OP.out _ Z5).mono ?_
          rintro e v6 ⟨rfl, z6⟩
          have Z6 := Z5.trans (z6.mono Z5.size)
          clear z6
          go_wp2_with fail
          refine (SP.out _ Z6).mono ?_
          rintro e v7 ⟨rfl, z7⟩
          have Z7 := Z6.trans (z7.mono Z6.size)
          clear z7
          go_wp2_with fail
          refine (LP.out _ Z7).mono ?_
          rintro e v8 ⟨rfl, z8⟩
          have Z8 := Z7.trans (z8.mono Z7.size)
          clear z8
          go_wp2_with fail
          refine (UP.out _ Z8).mono ?_
          rintro e v9 ⟨rfl, z9⟩
          have Z9 := Z8.trans (z9.mono Z8.size)
          clear z9
          go_wp2_with fail
          refine (EP.out _ Z9).mono ?_
          rintro e v10 ⟨rfl, z10⟩
          have Z10 := Z9.trans (z10.mono Z9.size)
          clear z10
          go_wp2_with fail
          refine (VP.out _ Z10).mono ?_
          rintro e v11 ⟨rfl, z11⟩
          have Z11 := Z10.trans (z11.mono Z10.size)
          have BB := Lib.hid (B3.out.trans (Z11.mono B3.out.size))
          clear z11
          go_wp2_with fail
          go_ret
          exact ⟨rfl, BB.out⟩
        · have e1 : ((ne : Int) == (nv : Int) - 1) = false := by rw [beq_eq_false_iff_ne]; omega
          have e2 : ((nb : Int) == 1) = false := by rw [beq_eq_false_iff_ne]; omega
          clear ht t2 t3
          go_wp2_with fail
          refine (CP.out _ (Below.refl _ _)).mono ?_
          rintro e v1 ⟨rfl, z1⟩
          go_wp2_with fail
          refine (PP.out _ z1).mono ?_
          rintro e v2 ⟨rfl, z2⟩
          have Z2 := z1.trans (z2.mono z1.size)
          clear z2
          go_wp2_with fail
          refine (DP.out _ Z2).mono ?_
          rintro e v3 ⟨rfl, z3⟩
          have Z3 := Z2.trans (z3.mono Z2.size)
          clear z3
          go_wp2_with fail
          refine (EP.out _ Z3).mono ?_
          rintro e v4 ⟨rfl, z4⟩
          have Z4 := Z3.trans (z4.mono Z3.size)
          clear z4
          go_wp2_with fail
          refine (VP.out _ Z4).mono ?_
          rintro e v5 ⟨rfl, z5⟩
          have Z5 := Z4.trans (z5.mono Z4.size)
          clear z5
          go_wp2_with fail
          refine (OP.out _ Z5).mono ?_
          rintro e v6 ⟨rfl, z6⟩
          have Z6 := Z5.trans (z6.mono Z5.size)
          clear z6
          go_wp2_with fail
          refine (LP.out _ Z6).mono ?_
          rintro e v8 ⟨rfl, z8⟩
          have Z8 := Z6.trans (z8.mono Z6.size)
          clear z8
          go_wp2_with fail
          refine (UP.out _ Z8).mono ?_
          rintro e v9 ⟨rfl, z9⟩
          have Z9 := Z8.trans (z9.mono Z8.size)
          clear z9
          go_wp2_with fail
          refine (EP.out _ Z9).mono ?_
          rintro e v10 ⟨rfl, z10⟩
          have Z10 := Z9.trans (z10.mono Z9.size)
          clear z10
          go_wp2_with fail
          refine (VP.out _ Z10).mono ?_
          rintro e v11 ⟨rfl, z11⟩
          have Z11 := Z10.trans (z11.mono Z10.size)
          have BB := Lib.hid (B3.out.trans (Z11.mono B3.out.size))
          clear z11
          go_wp2_with fail
          go_ret
          exact ⟨rfl, BB.out⟩
    · rw [decide_eq_false hg] at PP
      have hgi : ((genusN l : Int) != 0) = true := by rw [bne_iff_ne]; omega
      clear hc hg
      generalize genusN l = G at *
      go_wp2_with fail
      refine (CP.out _ (Below.refl _ _)).mono ?_
      rintro e v1 ⟨rfl, z1⟩
      go_wp2_with fail
      refine (PP.out _ z1).mono ?_
      rintro e v2 ⟨rfl, z2⟩
      have Z2 := z1.trans (z2.mono z1.size)
      obtain ⟨y0, y1, y2⟩ := HXC.out _ Z2
      clear z2
      go_wp2_with fail
      refine (RP.out _ Z2).mono ?_
      rintro e v4 ⟨A4, c4, rfl, _, _, _, z4⟩
      have Z4 := Z2.trans (z4.mono Z2.size)
      clear z4 y0 y1 y2
      obtain ⟨y0, y1, y2⟩ := HXC.out _ Z4
      go_wp2_with fail
      refine (RG.out _ Z4).mono ?_
      rintro e v5 ⟨rfl, z5⟩
      have Z5 := Z4.trans (z5.mono Z4.size)
      have BB := Lib.hid (B3.out.trans (Z5.mono B3.out.size))
      clear z5 y0 y1 y2
      go_wp2_with fail
      go_ret
      exact ⟨rfl, BB.out⟩
  · rw [decide_eq_false hc] at CP
    obtain ⟨N, hN⟩ : ∃ N, N = pN l + q0 := ⟨_, rfl⟩
    rw [← hN] at RP hc
    have hni : ((N : Int) != 1) = true := by rw [bne_iff_ne]; omega
    clear hc hN
    go_wp2_with fail
    refine (CP.out _ (Below.refl _ _)).mono ?_
    rintro e v1 ⟨rfl, z1⟩
    obtain ⟨y0, y1, y2⟩ := HXC.out _ z1
    go_wp2_with fail
    refine (RP.out _ z1).mono ?_
    rintro e v4 ⟨A4, c4, rfl, _, _, _, z4⟩
    have Z4 := z1.trans (z4.mono z1.size)
    have BB := Lib.hid (B3.out.trans (Z4.mono B3.out.size))
    clear z4 y0 y1 y2
    go_wp2_with fail
    go_ret
    exact ⟨rfl, BB.out⟩
end Go.Proofs.Ytpplhooojfchpaa
