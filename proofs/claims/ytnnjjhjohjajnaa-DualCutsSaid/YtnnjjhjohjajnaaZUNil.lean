/- The document's examples, and DualNil: the walks. -/
import Derived.Test.YtnnjjhjohjajnaaZUAwake
import Derived.Test.YtnnjjhjohjajnaaZPOne
namespace Go.Proofs.Ytnnjjhjohjajnaa
set_option maxRecDepth 20000
open Go.RowKit
set_option linter.unusedVariables false
set_option maxHeartbeats 4000000 in
theorem awake10_p (w : World) :
    Calls Try.prog 4 #[] w fun e w' => e = .returned (.bool true) ∧ Below w.heap.size w w' := by
  have r1 : Rd (w.alloc (.cells #[.int .i64 0, .int .i64 1] 3)) (w.alloc (.cells #[.int .i64 0, .int .i64 1] 3)).heap.size (some ⟨w.heap.size, 0, none⟩) 2 (I64 (ofN idL)) := (Rd.new w 3 #[.int .i64 0, .int .i64 1] 2 _ (by simp [I64, ofN, idL]) (by simp)).up (by simp)
  have N1 := Lib.hid (new_ok _ 2 2 idL idL 0 0 _ r1 idL_inv (by decide) (by omega) (.inr (by omega)) (by omega) (by omega))
  clear r1
  go_enter Try.func4, Try.ntmps4
  go_wp2_with fail
  refine N1.out.mono ?_
  rintro e w1 ⟨m1, rfl, hm1, b1, _⟩
  have B1 : Hid (Below w.heap.size w w1) := ((Below.refl _ _).alloc (Nat.le_refl _) _).trans (b1.mono (by simp))
  have D1 := Lib.hid (dual_p m1 idL idL 0 0 w1 hm1 idL_inv (.inr ⟨by decide, by omega, by decide⟩))
  have HM1 := Lib.hid hm1
  clear hm1 b1 N1
  go_wp2_with fail
  refine D1.out.mono ?_
  rintro e w2 ⟨d, rfl, hd, b2⟩
  have HD := Lib.hid hd
  have C2 := Lib.hid (cut_id m1 w2 (HM1.out.below b2))
  have B2 := Lib.hid (B1.out.trans (b2.mono B1.out.size))
  have HM2 := Lib.hid (HM1.out.below b2)
  clear hd b2 D1 HM1 B1
  go_wp2_with fail
  refine C2.out.mono ?_
  rintro e w3 ⟨c, rfl, hc, b3, _⟩
  have HC := Lib.hid hc
  have HD3 := Lib.hid (HD.out.below b3)
  have S3 := Lib.hid (shrink_id m1 w3 (HM2.out.below b3))
  have B3 := Lib.hid (B2.out.trans (b3.mono B2.out.size))
  clear hc b3 C2 HM2 HD B2
  go_wp2_with fail
  refine S3.out.mono ?_
  rintro e w4 ⟨s, rfl, hs, b4, _⟩
  have HS4 := Lib.hid hs
  have HC4 := Lib.hid (HC.out.below b4)
  have HD4 := Lib.hid (HD3.out.below b4)
  have B4 := Lib.hid (B3.out.trans (b4.mono B3.out.size))
  clear hs b4 S3 HC HD3 B3
  have V1 : Hid (∀ W, Below w4.heap.size w4 W → Calls Try.prog 13 #[.pointer (some ⟨d, 0, none⟩)] W fun e w' => e = .returned (.int .i64 1) ∧ Below W.heap.size W w') := fun W m => by
    have := vertices_p d (phiL idL) (phiB idL idL) 0 0 W (HD4.out.below m)
    rw [phi_id, sizes_sw] at this
    exact this
  have O1 : Hid (∀ W, Below w4.heap.size w4 W → Calls Try.prog 17 #[.pointer (some ⟨d, 0, none⟩)] W fun e w' => e = .returned (.int .i64 2) ∧ Below W.heap.size W w') := fun W m => by
    have := borders_p d (phiL idL) (phiB idL idL) 0 0 W (HD4.out.below m)
    rw [phi_id, phi_sw, sizes_id] at this
    exact this
  have L1 : Hid (∀ W, Below w4.heap.size w4 W → Calls Try.prog 18 #[.pointer (some ⟨c, 0, none⟩)] W fun e w' => e = .returned (.int .i64 2) ∧ W = w') := fun W m => lone_p c [] [] (-1) 2 W (HC4.out.below m)
  have L2 : Hid (∀ W, Below w4.heap.size w4 W → Calls Try.prog 18 #[.pointer (some ⟨s, 0, none⟩)] W fun e w' => e = .returned (.int .i64 1) ∧ W = w') := fun W m => lone_p s [] [] (-1) 1 W (HS4.out.below m)
  have Z0 := Below.refl w4.heap.size w4
  clear HD4 HC4 HS4
  go_wp2_with fail
  refine (V1.out _ Z0).mono ?_
  rintro e v1 ⟨rfl, z⟩
  have Z1 := Z0.trans (z.mono Z0.size)
  clear z
  go_wp2_with fail
  refine (O1.out _ Z1).mono ?_
  rintro e v2 ⟨rfl, z⟩
  have Z2 := Z1.trans (z.mono Z1.size)
  clear z
  go_wp2_with fail
  refine (L1.out _ Z2).mono ?_
  rintro e v3 ⟨rfl, rfl⟩
  go_wp2_with fail
  refine (L2.out _ Z2).mono ?_
  rintro e v3 ⟨rfl, rfl⟩
  go_wp2_with fail
  go_ret
  exact ⟨rfl, B4.out.trans (Z2.mono B4.out.size)⟩
end Go.Proofs.Ytnnjjhjohjajnaa
