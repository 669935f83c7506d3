/- Same: two vectors, nil or not. -/
import Derived.Test.YtcefohjddbjcjaaZBSeqG
import Derived.Deep.QuietTactic
import Derived.BigQuiet
namespace Go.Proofs.Ytcefohjddbjcjaa
open Go.RowKit
set_option linter.unusedVariables false

theorem words_inj {V U n m : Nat} (hV : V < 2 ^ n) (hU : U < 2 ^ n) (hm : n ≤ 64 * m) (h : words V m = words U m) : V = U := by
  apply Nat.eq_of_testBit_eq
  intro j
  by_cases hj : j < n
  · have h1 : wd V (j / 64) = wd U (j / 64) := by
      have := congrArg (fun l => l.getD (j / 64) 0) h
      rwa [words_get _ _ _ (by omega), words_get _ _ _ (by omega)] at this
    have h2 := wd_bit V (j / 64) (j % 64)
    have h3 := wd_bit U (j / 64) (j % 64)
    have hl : j % 64 < 64 := by omega
    rw [show 64 * (j / 64) + j % 64 = j by omega] at h2 h3
    simp only [hl, decide_true, Bool.true_and] at h2 h3
    rw [← h2, ← h3, h1]
  · rw [Nat.testBit_lt_two_pow (Nat.lt_of_lt_of_le hV (Nat.pow_le_pow_right (by omega) (by omega))), Nat.testBit_lt_two_pow (Nat.lt_of_lt_of_le hU (Nat.pow_le_pow_right (by omega) (by omega)))]
theorem VecB.drewN {w : World} {B g V n : Nat} {A : Option Addr} (h : VecB w B g V n A) (k : Nat) : VecB (w.drewN k) B g V n A := h.below (below_draws (Below.refl _ _) k)

end Go.Proofs.Ytcefohjddbjcjaa
