/- How many are ahead of a block; how many in all. -/
import Derived.Test.YtimhpiancpfdbaaDoorKRank2
import Derived.Test.YtimhpiancpfdbaaDoorKIdx2
namespace Go.Proofs.YtimhpiancpfdbaaDoor
open Go.RowKit
set_option linter.unusedVariables false
theorem aheadOf_p (g V n q j : Nat) (bit : Int) (w : World) (h : IdxAt w g V n true q) (hj : j ≤ blk n) :
    Calls Tryd.prog 33 #[.pointer (some ⟨g, 0, none⟩), .int .i64 bit, .int .i64 (j : Int)] w fun e w' => e = .returned (.int .i64 ((cb bit V (min (512 * j) n) : Nat) : Int)) ∧ w = w' := by
  have hn := h.2.1
  obtain ⟨bd, cd, c6, _, kd⟩ := h.dir
  have td := kd j hj
  have c1 : w.cell? ⟨g, 1, none⟩ = some (.int .i64 (n : Int)) := by obtain ⟨_, _, A, c, H, hb, _⟩ := h; exact hb.cell 1
  have hbn : blk n ≤ 3000 := by unfold blk; omega
  have hjI : (j : Int) < ((blk n : Nat) : Int) + 1 := by omega
  have hp1 := pop_le V (512 * j)
  have hpm : Hid (pop V (min (512 * j) n) = pop V (512 * j)) := by
    show _ = _
    by_cases hc : 512 * j ≤ n
    · rw [Nat.min_eq_left hc]
    · rw [Nat.min_eq_right (by omega)]
      exact (pop_all h.1 (by omega)).symm
  have hple := pop_le V (min (512 * j) n)
  rw [hpm.out] at hple
  have hmm9 : min (512 * j) n ≤ 1000000 := by omega
  by_cases h0 : bit = 0
  · have hc : Hid (((cb bit V (min (512 * j) n) : Nat) : Int) = ((min (512 * j) n : Nat) : Int) - ((pop V (512 * j) : Nat) : Int)) := by
      show _ = _
      unfold cb
      rw [if_pos h0, hpm.out]
      generalize min (512 * j) n = mm at *
      omega
    have g0 : (bit == 0) = true := by rw [beq_iff_eq]; exact h0
    have hmin := min_len (j * 512) n (by have h5 := hj; unfold blk at h5; omega) hn
    rw [Nat.mul_comm j 512] at hmin
    have hmul : ((512 * j : Nat) : Int) = (j : Int) * 512 := by omega
    rw [hmul] at hmin
    clear kd h h0 hmul
    rw [hc.out]
    generalize pop V (512 * j) = p0 at *
    generalize min (512 * j) n = mm at *
    go_enter Tryd.func33, Tryd.ntmps33
    go_wp2_with fail
    go_ret
    exact ⟨rfl, rfl⟩
  · have hc : Hid (cb bit V (min (512 * j) n) = pop V (512 * j)) := by show _ = _; unfold cb; rw [if_neg h0, hpm.out]
    have g0 : (bit == 0) = false := by rw [beq_eq_false_iff_ne]; exact h0
    clear kd h h0
    rw [hc.out]
    generalize pop V (512 * j) = p0 at *
    go_enter Tryd.func33, Tryd.ntmps33
    go_wp2_with fail
    go_ret
    exact ⟨rfl, rfl⟩
theorem count_q (g V n q : Nat) (d : Bool) (bit : Int) (w : World) (h : IdxAt w g V n d q) :
    Calls Tryd.prog 29 #[.pointer (some ⟨g, 0, none⟩), .int .i64 bit] w fun e w' => e = .returned (.int .i64 ((cb bit V n : Nat) : Int)) ∧ ∃ j, w' = w.drewN j := by
  have hn := h.2.1
  obtain ⟨_, _, A, c, H, hb, _⟩ := h
  have c1 : w.cell? ⟨g, 1, none⟩ = some (.int .i64 (n : Int)) := hb.cell 1
  have c2 : w.cell? ⟨g, 2, none⟩ = some (.int .i64 ((pop V n : Nat) : Int)) := hb.cell 2
  have hp1 := pop_le V n
  clear hb
  by_cases h0 : bit = 0
  · have hc : Hid (((cb bit V n : Nat) : Int) = (n : Int) - ((pop V n : Nat) : Int)) := by show _ = _; unfold cb; rw [if_pos h0]; omega
    have g0 : (bit == 0) = true := by rw [beq_iff_eq]; exact h0
    rw [hc.out]
    clear h0 hc
    generalize pop V n = p0 at *
    go_enter Tryd.func29, Tryd.ntmps29
    go_wp2_with fail
    go_quiet (fail)
    go_wp2
    go_ret
    exact ⟨rfl, nq, rfl⟩
  · have hc : Hid (cb bit V n = pop V n) := by show _ = _; unfold cb; rw [if_neg h0]
    have g0 : (bit == 0) = false := by rw [beq_eq_false_iff_ne]; exact h0
    rw [hc.out]
    clear h0 hc
    generalize pop V n = p0 at *
    go_enter Tryd.func29, Tryd.ntmps29
    go_wp2_with fail
    go_ret
    exact ⟨rfl, 0, rfl⟩
end Go.Proofs.YtimhpiancpfdbaaDoor
