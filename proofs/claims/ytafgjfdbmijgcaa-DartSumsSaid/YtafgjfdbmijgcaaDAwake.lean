/- The document's examples of maps. -/
import Derived.Test.YtafgjfdbmijgcaaDMap
namespace Go.Proofs.Ytafgjfdbmijgcaa
open Go.RowKit
set_option linter.unusedVariables false

def idL : List Nat := [0, 1]
def swL : List Nat := [1, 0]
theorem idL_inv : Inv idL idL := by
  refine ⟨rfl, ?_, ?_, ?_, ?_⟩ <;> (intro i hi; match i, hi with
    | 0, _ => decide
    | 1, _ => decide)
theorem swL_inv : Inv swL swL := by
  refine ⟨rfl, ?_, ?_, ?_, ?_⟩ <;> (intro i hi; match i, hi with
    | 0, _ => decide
    | 1, _ => decide)
theorem phi_id : phiL idL = swL := by decide
theorem phi_sw : phiL swL = idL := by decide
theorem it_id (k : Nat) : it idL k 0 = 0 := by
  induction k with
  | zero => rfl
  | succ k ih => rw [it, ih]; rfl
theorem sizes_id : (sizes idL).length = 2 := by
  unfold sizes
  rw [sizesTo_len, show idL.length = 2 from rfl, met_lead idL 1, met_lead idL 0, met_zero]
  · intro j hj; omega
  · intro j hj
    obtain rfl : j = 0 := by omega
    rw [mem_orb idL_inv (by decide)]
    rintro ⟨k, hk⟩
    rw [it_id] at hk
    omega
theorem sizes_sw : (sizes swL).length = 1 := by
  unfold sizes
  rw [sizesTo_len, show swL.length = 2 from rfl, met_not swL 1, met_lead swL 0, met_zero]
  · intro j hj; omega
  · intro h
    exact h 0 (by omega) ((mem_orb swL_inv (by decide)).2 ⟨1, rfl⟩)
set_option maxHeartbeats 2000000 in
theorem dawake_p (w : World) :
    Calls Try.prog 9 #[] w fun e w' => e = .returned (.bool true) ∧ Below w.heap.size w w' := by
  have r1 : Rd (w.alloc (.cells #[.int .i64 0, .int .i64 1] 3)) (w.alloc (.cells #[.int .i64 0, .int .i64 1] 3)).heap.size (some ⟨w.heap.size, 0, none⟩) 2 (I64 (ofN idL)) := (Rd.new w 3 #[.int .i64 0, .int .i64 1] 2 _ (by simp [I64, ofN, idL]) (by simp)).up (by simp)
  have N1 := Lib.hid (new_ok _ 2 2 idL idL 0 0 _ r1 idL_inv (by decide) (by omega) (.inr (by omega)) (by omega) (by omega))
  clear r1
  go_enter Try.func9, Try.ntmps9
  go_wp2_with fail
  refine N1.out.mono ?_
  rintro e w1 ⟨m1, rfl, hm1, b1, _⟩
  have hs1 := b1.size
  have B1 : Hid (Below w.heap.size w w1) := ((Below.refl _ _).alloc (Nat.le_refl _) _).trans (b1.mono (by simp))
  have r2 : Rd (w1.alloc (.cells #[.int .i64 1, .int .i64 0] 3)) (w1.alloc (.cells #[.int .i64 1, .int .i64 0] 3)).heap.size (some ⟨w1.heap.size, 0, none⟩) 2 (I64 (ofN swL)) := (Rd.new w1 3 #[.int .i64 1, .int .i64 0] 2 _ (by simp [I64, ofN, swL]) (by simp)).up (by simp)
  have N2 := Lib.hid (new_ok _ 2 2 swL swL 0 0 _ r2 swL_inv (by decide) (by omega) (.inr (by omega)) (by omega) (by omega))
  have HM1 := Lib.hid hm1
  clear r2 hm1 b1 N1 hs1
  go_wp2_with fail
  refine N2.out.mono ?_
  rintro e w2 ⟨m2, rfl, hm2, b2, _⟩
  have bx : Below w1.heap.size w1 w2 := ((Below.refl _ _).alloc (Nat.le_refl _) _).trans (b2.mono (by simp))
  have B2 : Hid (Below w.heap.size w w2) := B1.out.trans (bx.mono B1.out.size)
  have HM12 := Lib.hid (HM1.out.below bx)
  have HM2 := Lib.hid hm2
  clear hm2 b2 bx N2 HM1 B1
  have V1 := vertices_p m1 idL idL 0 0 w2 HM12.out
  rw [sizes_id] at V1
  have V1H := Lib.hid V1
  clear V1
  go_wp2_with fail
  refine V1H.out.mono ?_
  rintro e w3 ⟨rfl, b3⟩
  have O1 := borders_p m1 idL idL 0 0 w3 (HM12.out.below b3)
  rw [phi_id, sizes_sw] at O1
  have O1H := Lib.hid O1
  have B3 := Lib.hid b3
  clear O1 b3 V1H
  go_wp2_with fail
  refine O1H.out.mono ?_
  rintro e w4 ⟨rfl, b4⟩
  have b24 : Below w2.heap.size w2 w4 := B3.out.trans (b4.mono B3.out.size)
  have V2 := vertices_p m2 swL swL 0 0 w4 (HM2.out.below b24)
  rw [sizes_sw] at V2
  have V2H := Lib.hid V2
  have B24 := Lib.hid b24
  clear V2 b4 b24 O1H B3
  go_wp2_with fail
  refine V2H.out.mono ?_
  rintro e w5 ⟨rfl, b5⟩
  have b25 : Below w2.heap.size w2 w5 := B24.out.trans (b5.mono B24.out.size)
  have O2 := borders_p m2 swL swL 0 0 w5 (HM2.out.below b25)
  rw [phi_sw, sizes_id] at O2
  have O2H := Lib.hid O2
  have B25 := Lib.hid b25
  clear O2 b5 b25 V2H B24
  go_wp2_with fail
  refine O2H.out.mono ?_
  rintro e w6 ⟨rfl, b6⟩
  go_wp2_with fail
  go_ret
  exact ⟨rfl, B2.out.trans ((B25.out.trans (b6.mono B25.out.size)).mono B2.out.size)⟩
end Go.Proofs.Ytafgjfdbmijgcaa
