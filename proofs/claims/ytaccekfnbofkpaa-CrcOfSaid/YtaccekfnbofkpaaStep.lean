/- The checksum's one step of eight shifts. -/
import Derived.Test.YtaccekfnbofkpaaProg
import Derived.Test.YtaccekfnbofkpaaMath
import Derived.WalkKit
import Derived.WalkLawsBesides
import Derived.WalkSpells
import Derived.Outline
import Derived.Below
import Derived.Lib.Hide
namespace Go.Proofs.Ytaccekfnbofkpaa
open Go.RowKit

set_option maxHeartbeats 400000 in
theorem step_any (r : Nat) (w : World) (h1 : r < 4294967296) :
    Calls Try.prog 20 #[.int .u32 (r : Int)] w fun e w' => e = .returned (.int .u32 (msteps 8 r : Nat)) ∧ w = w' := by
  go_enter Try.func20, Try.ntmps20
  go_wp2
  go_loop [0, 3] (fun x i => ∃ k : Nat, k ≤ 8 ∧ i = .int .i64 k ∧ x = .int .u32 (msteps k r : Nat)) (fun _ i => 8 - (intOf i).toNat)
  case atStart => exact ⟨0, by omega, rfl, rfl⟩
  case round =>
    obtain ⟨k, hk, rfl, rfl⟩ := hrel
    have hb := msteps_lt k r h1
    have HS := Lib.hid (mstep_go (msteps k r) hb)
    have HT := Lib.hid (msteps_succ k r)
    by_cases hlt : k < 8
    · go_wp2
      go_round
      case rel => exact ⟨k + 1, by omega, by go_num, by rw [HS.out, HT.out]⟩
      case measure => simp [intOf]; omega
    · obtain rfl : k = 8 := by omega
      go_wp2
      go_ret
      exact ⟨rfl, rfl⟩
end Go.Proofs.Ytaccekfnbofkpaa
