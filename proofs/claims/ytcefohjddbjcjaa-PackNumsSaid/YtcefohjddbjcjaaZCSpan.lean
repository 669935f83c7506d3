/- Spans: made, parted, left; the counts of a context. -/
import Derived.Test.YtcefohjddbjcjaaZCMath
import Derived.Test.YtcefohjddbjcjaaZBSeqG
import Derived.Deep.RegionWith
import Derived.Deep.RegionHeld3
namespace Go.Proofs.Ytcefohjddbjcjaa
set_option maxRecDepth 20000
open Go.RowKit
set_option linter.unusedVariables false

theorem isOrder_yes (k : Nat) (w : World) (h : k ≤ 8) :
    Calls Try.prog 41 #[.int .i64 (k : Int)] w fun e w' => e = .returned (.bool true) ∧ w = w' := by
  have h8 : (k : Int) ≤ 8 := by omega
  go_enter Try.func41, Try.ntmps41
  go_wp2
  go_ret
  exact ⟨rfl, rfl⟩
theorem isOrder_no (k : Int) (w : World) (h : k < 0 ∨ 8 < k) :
    Calls Try.prog 41 #[.int .i64 k] w fun e w' => e = .returned (.bool false) ∧ w = w' := by
  rcases h with h | h
  · have d1 : decide (0 ≤ k) = false := by rw [decide_eq_false_iff_not]; omega
    go_enter Try.func41, Try.ntmps41
    go_wp2
    go_ret
    exact ⟨rfl, rfl⟩
  · have h0 : 0 ≤ k := by omega
    have h8 : ¬ k ≤ 8 := by omega
    go_enter Try.func41, Try.ntmps41
    go_wp2
    go_ret
    exact ⟨rfl, rfl⟩

/-- At g lies a span. -/
def SpanAt (w : World) (g lo hi : Nat) : Prop := Blk w g 92 #[.int .u64 (lo : Int), .int .u64 (hi : Int)]
theorem newSpan_p (w : World) :
    Calls Try.prog 46 #[] w fun e w' => e = .returned (.pointer (some ⟨w.heap.size, 0, none⟩)) ∧ SpanAt w' w.heap.size 0 4294967295 ∧ Below w.heap.size w w' := by
  go_enter Try.func46, Try.ntmps46
  go_wp2
  go_ret
  exact ⟨rfl, Blk.new w _ _, (Below.refl _ _).alloc (Nat.le_refl _) _⟩
theorem narrow_p (g lo hi b m : Nat) (w : World) (h : SpanAt w g lo hi) (hm : m < 4294967296) :
    Calls Try.prog 49 #[.pointer (some ⟨g, 0, none⟩), .int .i64 (b : Int), .int .u64 (m : Int)] w fun e w' => e = .returned (.tuple #[]) ∧ SpanAt w' g (if b = 0 then lo else m + 1) (if b = 0 then m else hi) ∧ Mod (fun i => i = g) w w' := by
  have c0 : w.cell? ⟨g, 0, none⟩ = some (.int .u64 (lo : Int)) := Blk.cell h 0
  have c1 : w.cell? ⟨g, 1, none⟩ = some (.int .u64 (hi : Int)) := Blk.cell h 1
  have f0 := Blk.frozen h 0
  have f1 := Blk.frozen h 1
  have H := Lib.hid h
  clear h
  rcases Nat.eq_zero_or_pos b with hb | hb
  · subst hb
    rw [if_pos rfl, if_pos rfl]
    go_enter Try.func49, Try.ntmps49
    go_wp2
    refine bodyPost_end (results_none rfl _ _ _) rfl ⟨rfl, ?_, Mod.setCell (p := ⟨g, 1, none⟩) (Mod.refl (fun i => i = g) w) (fun _ => rfl) _⟩
    have := Blk.set_ H.out 1 (.int .u64 (m : Int))
    show Blk _ _ _ _
    simpa using this
  · rw [if_neg (by omega), if_neg (by omega)]
    have hb0 : ((b : Int) == 0) = false := by rw [beq_eq_false_iff_ne]; omega
    have hb1 : ¬ b = 0 := by omega
    go_enter Try.func49, Try.ntmps49
    go_wp2
    refine bodyPost_end (results_none rfl _ _ _) rfl ⟨rfl, ?_, Mod.setCell (p := ⟨g, 0, none⟩) (Mod.refl (fun i => i = g) w) (fun _ => rfl) _⟩
    have := Blk.set_ H.out 0 (.int .u64 ((m + 1 : Nat) : Int))
    show Blk _ _ _ _
    simpa using this
/-- Counts by value. -/
def cagg (z o : Nat) : Value := .agg #[.int .u64 (z : Int), .int .u64 (o : Int)]
theorem noughts_p (z o : Nat) (w : World) :
    Calls Try.prog 59 #[.agg #[.int .u64 (z : Int), .int .u64 (o : Int)]] w fun e w' => e = .returned (.int .u64 (z : Int)) ∧ Below w.heap.size w w' := by
  go_enter Try.func59, Try.ntmps59
  go_wp2
  go_ret
  exact ⟨rfl, (Below.refl _ _).alloc (Nat.le_refl _) _⟩
theorem all_p (z o : Nat) (w : World) (hz : z ≤ 70000) (ho : o ≤ 70000) :
    Calls Try.prog 60 #[.agg #[.int .u64 (z : Int), .int .u64 (o : Int)]] w fun e w' => e = .returned (.int .u64 ((z + o : Nat) : Int)) ∧ Below w.heap.size w w' := by
  go_enter Try.func60, Try.ntmps60
  go_wp2
  go_ret
  exact ⟨rfl, (Below.refl _ _).alloc (Nat.le_refl _) _⟩
end Go.Proofs.Ytcefohjddbjcjaa
