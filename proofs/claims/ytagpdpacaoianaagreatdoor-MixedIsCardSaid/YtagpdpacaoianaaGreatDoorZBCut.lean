/- Cut and Join. -/
import Derived.Test.YtagpdpacaoianaaGreatDoorZBLike
namespace Go.Proofs.YtagpdpacaoianaaGreatDoor
open Go.RowKit
set_option linter.unusedVariables false

theorem chunk (l : List Nat) (f d k : Nat) : (((l.drop f).take d).drop (64 * k)).take 64 = (l.drop (f + 64 * k)).take (min 64 (d - 64 * k)) := by
  rw [List.drop_take, List.take_take, List.drop_drop]
theorem min_64' (t a : Nat) (ha : a < t) (ht : t ≤ 1000000) : ∃ s : Nat, Hid (s = min 64 (t - a)) ∧ 1 ≤ s ∧ s ≤ 64 ∧ ∀ w, (Builtin.min_ #[3, 3] 3 #[.int .i64 64, .int .i64 ((t : Int) - (a : Int))]).run Tryz.prog w = .ok (.int .i64 (s : Int)) w := by
  refine ⟨min 64 (t - a), rfl, by omega, by omega, fun w => ?_⟩
  simp [Builtin.min_, Builtin.min2]
  repeat' split
  all_goals omega
end Go.Proofs.YtagpdpacaoianaaGreatDoor
