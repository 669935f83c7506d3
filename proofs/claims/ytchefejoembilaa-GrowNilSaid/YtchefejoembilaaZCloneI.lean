/- The library's Clone of ints. -/
import Derived.Test.YtchefejoembilaaZInts
namespace Go.Proofs.Ytchefejoembilaa
open Go.RowKit
set_option linter.unusedVariables false

set_option maxHeartbeats 400000 in
theorem cloneI_any (A : Option Addr) (n c B : Nat) (z : List Int) (w : World) (h : Rd w B A n (I64 z)) (hn : n ≤ 17592186044416) :
    Calls Try.prog 92 #[.slice A n c] w (NewI64 w z) := by
  have hl : z.length = n := by rw [← h.len, I64_len]
  obtain ⟨i0, hi0, hz0, hz1, hz2⟩ := info_parts info_int
  have hq := fun W a n c => Lib.run_eql_slice_nil (P := Try.prog) W 25 3 a n c 0 0 Try.underlying25
  cases A with
  | none =>
    obtain rfl : n = 0 := h.none_
    obtain rfl : z = [] := List.eq_nil_of_length_eq_zero hl
    go_enter Try.func92, Try.ntmps92
    go_wp2
    go_ret
    exact .mk rfl (World.ownsRow_nil _ _ _ _) (Below.refl _ _)
  | some ad =>
    have hown : (w.alloc (.cells #[] 3)).ownsRow w.heap.size 3 1 (.slice (some ⟨w.heap.size, 0, none⟩) 0 0) 0 [] :=
      World.ownsRow_made w #[] 0 (Nat.le_refl _) (by simp [maxLen]) rfl
    have hrd := h.alloc (.cells #[] 3)
    have s1 : 0 + n ≤ maxLen := by simp only [maxLen]; omega
    have s2 : (0 + n) * 8 ≤ 140737488355328 := by omega
    have s3 : w.heap.size ≤ (w.alloc (.cells #[] 3)).heap.size := by simp
    go_enter Try.func92, Try.ntmps92
    go_wp2_with (first
      | (at_builtin; refine wpList_append_rd _ rfl _ _ 25 rfl w.heap.size 3 i0 (.int .i64 0) 8 Try.underlying25 hi0 hz0 hz1 hz2 rfl _ 0 [] rfl hown B (some ad) n c (I64 z) rfl hrd (I64_one _) s1 s2 s3 ?_))
    intro A' c' w' _ _ hown' hg hat
    go_wp2
    go_ret
    refine .mk rfl (by simpa [hl] using hown') ?_
    exact ((Below.refl _ _).alloc (Nat.le_refl _) _).trans (Below.appended hown hg (by simp))
end Go.Proofs.Ytchefejoembilaa
