/- At, Text and Bytes of a vector. -/
import Derived.Test.YtgohdhmijfajfaaBU8
import Derived.Test.YtgohdhmijfajfaaBList
namespace Go.Proofs.Ytgohdhmijfajfaa
open Go.RowKit
set_option linter.unusedVariables false

theorem at_outB (v : Option Addr) (n : Nat) (i : Int) (w : World) (hi : -9223372036854775808 ≤ i ∧ i ≤ 9223372036854775807) (ho : i < 0 ∨ (n : Int) ≤ i)
    (hl : Calls Try.prog 52 #[.pointer v] w fun e w' => e = .returned (.int .i64 (n : Int)) ∧ w = w') :
    Calls Try.prog 69 #[.pointer v, .int .i64 i] w fun e w' => e = .returned (.int .i64 (-1)) ∧ w = w' := by
  have L := Lib.hid hl
  clear hl
  by_cases h : i < 0
  · go_enter Try.func69, Try.ntmps69
    go_wp2_with fail
    go_ret
    exact ⟨rfl, rfl⟩
  · have h2 : (n : Int) ≤ i := by omega
    clear ho
    go_enter Try.func69, Try.ntmps69
    go_wp2_with (go_at_call 52; refine L.out.mono ?_; rintro e w' ⟨rfl, rfl⟩)
    go_ret
    exact ⟨rfl, rfl⟩
theorem at_p (g V n i B : Nat) (A : Option Addr) (w : World) (h : VecB w B g V n A) (hi : i < n) :
    Calls Try.prog 69 #[.pointer (some ⟨g, 0, none⟩), .int .i64 (i : Int)] w fun e w' => e = .returned (.int .i64 ((V / 2 ^ i % 2 : Nat) : Int)) ∧ w = w' := by
  have L := Lib.hid (blen_p g V n A w h)
  have G := Lib.hid (get_p g V n i 1 A w h (by omega) (by omega) (by omega))
  have hn := h.2.1
  have hlt : ¬ (n : Int) ≤ (i : Int) := by omega
  have hb : V / 2 ^ i % 2 ^ 1 < 2 := Nat.mod_lt _ (by decide)
  rw [show V / 2 ^ i % 2 = V / 2 ^ i % 2 ^ 1 by rw [Nat.pow_one]]
  generalize V / 2 ^ i % 2 ^ 1 = x at *
  clear h
  go_enter Try.func69, Try.ntmps69
  go_wp2_with (first
    | (go_at_call 52; refine L.out.mono ?_; rintro e w' ⟨rfl, rfl⟩)
    | (go_at_call 78; refine G.out.mono ?_; rintro e w' ⟨rfl, rfl⟩))
  go_ret
  exact ⟨rfl, rfl⟩

/-- The text of some bits. -/
def textOf (l : List Nat) : ByteArray := strOfNums (l.map fun (b : Nat) => ((48 + b : Nat) : Int))
/-- The bytes of n bits. -/
def bytesL (V n : Nat) : List Nat := (List.range ((n + 7) / 8)).map fun i => V / 2 ^ (8 * i) % 256
theorem bytesL_len (V n : Nat) : (bytesL V n).length = (n + 7) / 8 := by simp [bytesL]
theorem bytesL_lt (V n : Nat) : ∀ b ∈ bytesL V n, b < 256 := fun b hb => by
  simp only [bytesL, List.mem_map] at hb
  obtain ⟨i, _, rfl⟩ := hb
  exact Nat.mod_lt _ (by decide)
theorem byte_part {V n i : Nat} (h : V < 2 ^ n) (hi : 8 * i < n) : V / 2 ^ (8 * i) % 2 ^ (min 8 (n - 8 * i)) = V / 2 ^ (8 * i) % 256 := by
  by_cases h8 : 8 ≤ n - 8 * i
  · rw [Nat.min_eq_left h8]
  · rw [Nat.min_eq_right (by omega)]
    have h1 : V / 2 ^ (8 * i) < 2 ^ (n - 8 * i) := by
      rw [Nat.div_lt_iff_lt_mul (Nat.two_pow_pos _), ← Nat.pow_add, show n - 8 * i + 8 * i = n by omega]; exact h
    have h2 : (2 : Nat) ^ (n - 8 * i) ≤ 2 ^ 8 := Nat.pow_le_pow_right (by omega) (by omega)
    rw [Nat.mod_eq_of_lt h1, Nat.mod_eq_of_lt (Nat.lt_of_lt_of_le h1 h2)]
end Go.Proofs.Ytgohdhmijfajfaa
