/- How many bits numbers need: the program's answer and the document's; how many bits names have. -/
import Derived.Test.YtfolefadjdcehaaZLMath
import Derived.Test.YtfolefadjdcehaaZLShelf
namespace Go.Proofs.Ytfolefadjdcehaa
set_option maxRecDepth 20000
open Go.RowKit
set_option linter.unusedVariables false
theorem width_p (n : Int) (w : World) (h : -9223372036854775808 ≤ n ∧ n ≤ 9223372036854775807) :
    Calls Try.prog 28 #[.int .i64 n] w fun e w' => e = .returned (.int .i64 (lw n.toNat : Int)) ∧ w = w' := by
  by_cases h2 : n < 2
  · rw [lw_small (n := n.toNat) (by omega)]
    go_enter Try.func28, Try.ntmps28
    go_wp2_with fail
    go_ret
    exact ⟨rfl, rfl⟩
  · have LN := Lib.hid (fun W => len_u (n - 1) W (by omega) (by omega))
    have hx : Lib.bitLen (n - 1).toNat = lw n.toNat := by
      unfold lw
      rw [if_neg (by omega)]
      congr 1
      omega
    rw [hx] at LN
    clear hx
    generalize lw n.toNat = k at *
    go_enter Try.func28, Try.ntmps28
    go_wp2_with fail
    refine (LN.out _).mono ?_
    rintro e w1 ⟨rfl, rfl⟩
    go_wp2_with fail
    go_ret
    exact ⟨rfl, rfl⟩
/-- How many bits the names of so many edges have. -/
def lsz (m : Nat) : Nat := m * (lw m + 1)
theorem lw_16 {m : Nat} (h : m ≤ 65536) : lw m ≤ 16 := lw_le_of (by omega) h
theorem size_in (m : Nat) (w : World) (h : m ≤ 65536) :
    Calls Try.prog 17 #[.int .i64 (m : Int)] w fun e w' => e = .returned (.int .i64 (lsz m : Int)) ∧ w = w' := by
  have W := Lib.hid (fun W => width_p (m : Int) W (by omega))
  rw [Int.toNat_natCast] at W
  have h16 := lw_16 h
  have e1 : lsz m = m * (lw m + 1) := rfl
  generalize lsz m = s at *
  generalize lw m = k at *
  have e2 : (m : Int) * ((k : Int) + 1) = (s : Int) := by rw [e1]; simp
  have e3 : s ≤ 65536 * 17 := by rw [e1]; exact Nat.mul_le_mul h (by omega)
  have hm1 : ¬ (65536 : Int) < (m : Int) := by omega
  have hw : IntKind.i64.wrap (s : Int) = (s : Int) := by simp [IntKind.wrap, IntKind.signed, IntKind.bits]; omega
  clear e1
  go_enter Try.func17, Try.ntmps17
  go_wp2_with fail
  refine (W.out _).mono ?_
  rintro e w1 ⟨rfl, rfl⟩
  go_wp2_with fail
  go_ret
  exact ⟨rfl, rfl⟩
theorem size_out (m : Int) (w : World) (h : m < 0 ∨ 65536 < m) :
    Calls Try.prog 17 #[.int .i64 m] w fun e w' => e = .returned (.int .i64 0) ∧ w = w' := by
  rcases h with h | h
  · go_enter Try.func17, Try.ntmps17
    go_wp2_with fail
    go_ret
    exact ⟨rfl, rfl⟩
  · have h0 : ¬ m < 0 := by omega
    go_enter Try.func17, Try.ntmps17
    go_wp2_with fail
    go_ret
    exact ⟨rfl, rfl⟩
end Go.Proofs.Ytfolefadjdcehaa
