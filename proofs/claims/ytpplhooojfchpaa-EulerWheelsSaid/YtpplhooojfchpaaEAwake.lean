/- The document's examples of layer 8. -/
import Derived.Test.YtpplhooojfchpaaESumM
import Derived.Test.YtpplhooojfchpaaEPartsW
namespace Go.Proofs.Ytpplhooojfchpaa
set_option maxRecDepth 20000
open Go.RowKit
set_option linter.unusedVariables false
theorem simple_loop (g : Nat) (l b : List Nat) (root lone : Int) (w : World) (h : MapAt w g l b root lone) (hl : loopsN l (l.length / 2) ≠ 0) :
    Calls Try.prog 28 #[.pointer (some ⟨g, 0, none⟩)] w fun e w' => e = .returned (.bool false) ∧ Below w.heap.size w w' := by
  have LP := Lib.hid (loops_p g l b root lone w h)
  generalize loopsN l (l.length / 2) = c at *
  have hcc : ((c : Int) == 0) = false := by rw [beq_eq_false_iff_ne]; omega
  clear h hl
  go_enter Try.func28, Try.ntmps28
  go_wp2_with fail
  refine LP.out.mono ?_
  rintro e w1 ⟨rfl, hb1⟩
  go_wp2_with fail
  go_ret
  exact ⟨rfl, hb1⟩
def fourL : List Nat := [1, 2, 3, 0]
def fourB : List Nat := [3, 0, 1, 2]
theorem fourL_inv : Inv fourL fourB := by
  refine ⟨rfl, ?_, ?_, ?_, ?_⟩ <;> (intro i hi; match i, hi with
    | 0, _ => decide
    | 1, _ => decide
    | 2, _ => decide
    | 3, _ => decide)
theorem genus_sw : genusN swL = 0 := by
  have h := (one_part swL_inv (by decide) (by decide) (oneB_ok swL_inv (by decide) (k := 2) (by decide))).2
  have e1 : metB swL = 1 := by decide
  have e2 : metB (phiL swL) = 2 := by decide
  rw [e1, e2] at h
  have : swL.length = 2 := rfl
  omega
theorem genus_four : pN fourL = 1 ∧ genusN fourL = 0 := by
  obtain ⟨h1, h⟩ := one_part fourL_inv (by decide) (by decide) (oneB_ok fourL_inv (by decide) (k := 4) (by decide))
  have e1 : metB fourL = 1 := by decide
  have e2 : metB (phiL fourL) = 3 := by decide
  rw [e1, e2] at h
  have : fourL.length = 4 := rfl
  exact ⟨h1, by omega⟩
theorem sizes_four : (sizes fourL).length = 1 := by rw [sizes_is fourL_inv]; decide
theorem loops_sw : loopsN swL (swL.length / 2) ≠ 0 := by
  have h0 := name_lt swL_inv (show 0 < swL.length by decide)
  have h1 := name_lt swL_inv (show 1 < swL.length by decide)
  have : (orbits swL).length = 1 := by rw [← sizes_len, sizes_is swL_inv]; decide
  have e : lowE swL 0 = highE swL 0 := by unfold lowE highE; rw [show nameOf swL (2 * 0) = 0 by show nameOf swL 0 = 0; omega, show nameOf swL (2 * 0 + 1) = 0 by show nameOf swL 1 = 0; omega]; rfl
  have := (loopsN_next swL 0).1 e
  show loopsN swL (0 + 1) ≠ 0
  rw [this]; omega
set_option maxHeartbeats 2000000 in
theorem awake8_p (w : World) :
    Calls Try.prog 9 #[] w fun e w' => e = .returned (.bool true) ∧ Below w.heap.size w w' := by
  have r1 : Rd (w.alloc (.cells #[.int .i64 1, .int .i64 0] 3)) (w.alloc (.cells #[.int .i64 1, .int .i64 0] 3)).heap.size (some ⟨w.heap.size, 0, none⟩) 2 (I64 (ofN swL)) := (Rd.new w 3 #[.int .i64 1, .int .i64 0] 2 _ (by simp [I64, ofN, swL]) (by simp)).up (by simp)
  have N1 := Lib.hid (new_ok _ 2 2 swL swL 0 0 _ r1 swL_inv (by decide) (by omega) (.inr (by omega)) (by omega) (by omega))
  clear r1
  go_enter Try.func9, Try.ntmps9
  go_wp2_with fail
  refine N1.out.mono ?_
  rintro e w1 ⟨m1, rfl, hm1, b1, _⟩
  have hs1 := b1.size
  have B1 : Hid (Below w.heap.size w w1) := ((Below.refl _ _).alloc (Nat.le_refl _) _).trans (b1.mono (by simp))
  have r2 : Rd (w1.alloc (.cells #[.int .i64 1, .int .i64 2, .int .i64 3, .int .i64 0] 3)) (w1.alloc (.cells #[.int .i64 1, .int .i64 2, .int .i64 3, .int .i64 0] 3)).heap.size (some ⟨w1.heap.size, 0, none⟩) 4 (I64 (ofN fourL)) := (Rd.new w1 3 #[.int .i64 1, .int .i64 2, .int .i64 3, .int .i64 0] 4 _ (by simp [I64, ofN, fourL]) (by simp)).up (by simp)
  have N2 := Lib.hid (new_ok _ 4 4 fourL fourB 0 0 _ r2 fourL_inv (by decide) (by omega) (.inr (by omega)) (by omega) (by omega))
  have HM1 := Lib.hid hm1
  clear r2 hm1 b1 N1 hs1
  go_wp2_with fail
  refine N2.out.mono ?_
  rintro e w2 ⟨m2, rfl, hm2, b2, _⟩
  have bx : Below w1.heap.size w1 w2 := ((Below.refl _ _).alloc (Nat.le_refl _) _).trans (b2.mono (by simp))
  have B2 : Hid (Below w.heap.size w w2) := B1.out.trans (bx.mono B1.out.size)
  have HM12 := Lib.hid (HM1.out.below bx)
  have HM2 := Lib.hid hm2
  clear hm2 b2 bx N2 HM1 B1
  have P1 := planar_p m1 swL swL 0 0 w2 HM12.out
  rw [genus_sw] at P1
  have P1H := Lib.hid P1
  have S1 : Hid (∀ W, Below w2.heap.size w2 W → Calls Try.prog 28 #[.pointer (some ⟨m1, 0, none⟩)] W fun e w' => e = .returned (.bool false) ∧ Below W.heap.size W w') := fun W m => simple_loop m1 swL swL 0 0 W (HM12.out.below m) loops_sw
  have G2 : Hid (∀ W, Below w2.heap.size w2 W → Calls Try.prog 23 #[.pointer (some ⟨m2, 0, none⟩)] W fun e w' => e = .returned (.int .i64 0) ∧ Below W.heap.size W w') := fun W m => by
    have := genus_p m2 fourL fourB 0 0 W (HM2.out.below m)
    rwa [genus_four.2] at this
  have C2 : Hid (∀ W, Below w2.heap.size w2 W → Calls Try.prog 25 #[.pointer (some ⟨m2, 0, none⟩)] W fun e w' => e = .returned (.bool true) ∧ Below W.heap.size W w') := fun W m => by
    have := connected_p m2 fourL fourB 0 0 W (HM2.out.below m)
    rwa [genus_four.1] at this
  have V2 : Hid (∀ W, Below w2.heap.size w2 W → Calls Try.prog 16 #[.pointer (some ⟨m2, 0, none⟩)] W fun e w' => e = .returned (.int .i64 1) ∧ Below W.heap.size W w') := fun W m => by
    have := vertices_p m2 fourL fourB 0 0 W (HM2.out.below m)
    rwa [sizes_four] at this
  clear P1
  go_wp2_with fail
  refine P1H.out.mono ?_
  rintro e w3 ⟨rfl, b3⟩
  have B3 := Lib.hid b3
  clear b3 P1H
  go_wp2_with fail
  refine (S1.out _ B3.out).mono ?_
  rintro e w4 ⟨rfl, b4⟩
  have B4 := Lib.hid (B3.out.trans (b4.mono B3.out.size))
  clear b4
  go_wp2_with fail
  refine (G2.out _ B4.out).mono ?_
  rintro e w5 ⟨rfl, b5⟩
  have B5 := Lib.hid (B4.out.trans (b5.mono B4.out.size))
  clear b5
  go_wp2_with fail
  refine (C2.out _ B5.out).mono ?_
  rintro e w6 ⟨rfl, b6⟩
  have B6 := Lib.hid (B5.out.trans (b6.mono B5.out.size))
  clear b6
  go_wp2_with fail
  refine (V2.out _ B6.out).mono ?_
  rintro e w7 ⟨rfl, b7⟩
  have B7 := Lib.hid (B6.out.trans (b7.mono B6.out.size))
  clear b7
  go_wp2_with fail
  go_ret
  exact ⟨rfl, B2.out.trans (B7.out.mono B2.out.size)⟩
end Go.Proofs.Ytpplhooojfchpaa
