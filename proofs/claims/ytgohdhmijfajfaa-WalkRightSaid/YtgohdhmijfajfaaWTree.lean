/- Tree of a walk. -/
import Derived.Test.YtgohdhmijfajfaaWSteps
namespace Go.Proofs.Ytgohdhmijfajfaa
set_option maxRecDepth 20000
open Go.RowKit
set_option linter.unusedVariables false
/-- The darts of the first k steps that are Open. -/
def treeL (L : List Int) : Nat → List Int
  | 0 => []
  | k + 1 => if L.getD (2 * k + 1) 0 = 0 then treeL L k ++ [L.getD (2 * k) 0] else treeL L k
theorem treeL_len (L : List Int) : ∀ k, (treeL L k).length ≤ k
  | 0 => by simp [treeL]
  | k + 1 => by
    have := treeL_len L k
    unfold treeL
    split
    · simp; exact this
    · omega
set_option maxHeartbeats 4000000 in
theorem tree_p (A : Option Addr) (n c B : Nat) (L : List Int) (w : World) (h : RdS w B A n L) (hB : B ≤ w.heap.size) (hn : n ≤ 300000) :
    Calls Try.prog 19 #[.slice A n c] w (NewI64 w (treeL L n)) := by
  obtain ⟨i0, hi0, hz0, hz1, hz2⟩ := info_parts info_int
  have HZ := Lib.hid (h.up hB)
  clear h
  go_enter Try.func19, Try.ntmps19
  go_wp2_with fail
  go_loopw [3, 8] (fun s i wr => ∃ (k p cw : Nat) (Av : Option Addr), k ≤ n ∧ i = .int .i64 k ∧ p ≤ k ∧ s = .slice Av p cw ∧ Hid (p = (treeL L k).length) ∧ Hid (wr.ownsRow w.heap.size 3 1 (.slice Av p cw) p (I64 (treeL L k))) ∧ Hid (Below w.heap.size w wr)) (fun _ i _ => n - (intOf i).toNat)
  case atStart => exact ⟨0, 0, 0, none, by omega, rfl, by omega, rfl, rfl, World.ownsRow_nil _ _ _ _, Below.refl _ _⟩
  case round =>
    obtain ⟨k, p, cw, Av, hk, rfl, hpk, rfl, HP, HO, HB⟩ := hrel
    by_cases hlt : k < n
    · obtain ⟨b, rfl, hbB, kk⟩ := (HZ.out.below HB.out).2 (by omega)
      have x0 := kk (2 * k) (by omega)
      have x1 := kk (2 * k + 1) (by omega)
      obtain ⟨y, hy⟩ : ∃ y, y = L.getD (2 * k + 1) 0 := ⟨_, rfl⟩
      obtain ⟨d, hd⟩ : ∃ d, d = L.getD (2 * k) 0 := ⟨_, rfl⟩
      have HN : Hid (treeL L (k + 1) = if y = 0 then treeL L k ++ [d] else treeL L k) := by show _ = _; rw [hy, hd]; rfl
      rw [← hy] at x1
      rw [← hd] at x0
      rw [show 2 * k = k * 2 by omega] at x0 x1
      clear kk hy hd
      have hsw := HB.out.size
      have ZA := Lib.hid ((Below.refl wr.heap.size wr).alloc (Nat.le_refl _) (.cells #[.int .i64 d, .int .i64 y] 40))
      by_cases hy0 : y = 0
      · subst hy0
        have hT := HN.out
        rw [if_pos rfl] at hT
        have HT := Lib.hid hT
        clear hT HN
        have hs1 : (wr.alloc (.cells #[.int .i64 d, .int .i64 0] 40)).heap.size = wr.heap.size + 1 := by simp
        have hown3' := (own_below HO.out ZA.out).alloc (.cells #[.int .i64 d] 3)
        have r3 := Rd.new (wr.alloc (.cells #[.int .i64 d, .int .i64 0] 40)) 3 #[.int .i64 d] 1 (I64 [d]) (by simp [I64]) (by simp)
        rw [hs1] at r3
        have t2 : p + 1 ≤ maxLen := by simp only [maxLen]; omega
        have t3 : (p + 1) * 8 ≤ 140737488355328 := by omega
        have t4 : w.heap.size ≤ ((wr.alloc (.cells #[.int .i64 d, .int .i64 0] 40)).alloc (.cells #[.int .i64 d] 3)).heap.size := by simp; omega
        have HB2 : Hid (Below w.heap.size w ((wr.alloc (.cells #[.int .i64 d, .int .i64 0] 40)).alloc (.cells #[.int .i64 d] 3))) := (HB.out.trans (ZA.out.mono hsw)).alloc (by simp; omega) _
        clear hs1 HO
        go_wp2_with (first
          | (at_builtin; go_must (refine wpList_append_rd _ rfl _ _ 25 rfl w.heap.size 3 i0 (.int .i64 0) 8 Try.underlying25 hi0 hz0 hz1 hz2 rfl (.slice Av p cw) p (I64 (treeL L k)) rfl hown3' (wr.heap.size + 1 + 1) (some ⟨wr.heap.size + 1, 0, none⟩) 1 1 (I64 [d]) rfl r3 (I64_one _) t2 t3 t4 ?_)))
        intro A6 c6 w6 hc6 hm6 hown6 hg6 _
        rw [← I64_append, ← HT.out] at hown6
        have HO6 := Lib.hid hown6
        have HB6 := Lib.hid (HB2.out.trans (Below.appended hown3' hg6 t4))
        have HP6 : Hid (p + 1 = (treeL L (k + 1)).length) := by show _ = _; rw [HT.out, List.length_append, HP.out]; rfl
        clear hown6 hg6 hown3' r3 t2 t3 t4 HB2 HB x0 x1 ZA hc6 hm6
        go_wp2_with fail
        go_roundw
        case rel => exact ⟨k + 1, p + 1, c6, A6, by omega, by go_num, by omega, rfl, HP6.out, HO6.out, HB6.out⟩
        case measure => simp [intOf]; omega
      · have hT := HN.out
        rw [if_neg hy0] at hT
        have HT := Lib.hid hT
        clear hT HN
        have hyb : (y == 0) = false := by rw [beq_eq_false_iff_ne]; exact hy0
        have HO6 := Lib.hid (own_below HO.out ZA.out)
        have HB6 := Lib.hid (HB.out.trans (ZA.out.mono hsw))
        clear HO HB ZA
        go_wp2_with fail
        go_roundw
        case rel => exact ⟨k + 1, p, cw, Av, by omega, by go_num, by omega, rfl, by rw [HT.out]; exact HP.out, by show World.ownsRow _ _ _ _ _ _ _; rw [HT.out]; exact HO6.out, HB6.out⟩
        case measure => simp [intOf]; omega
    · obtain rfl : k = n := by omega
      have hp := HP.out
      have ho := HO.out
      clear HP HO
      go_wp2_with fail
      go_ret
      subst hp
      exact .mk rfl ho HB.out
end Go.Proofs.Ytgohdhmijfajfaa
