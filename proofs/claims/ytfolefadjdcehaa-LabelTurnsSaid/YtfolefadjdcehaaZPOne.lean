/- One. -/
import Derived.Test.YtfolefadjdcehaaZPMake
namespace Go.Proofs.Ytfolefadjdcehaa
set_option maxRecDepth 20000
open Go.RowKit
set_option linter.unusedVariables false

set_option maxHeartbeats 1000000 in
theorem one_p (n : Int) (w : World) (hlo : -9223372036854775808 ≤ n) (hhi : n ≤ 1000000) :
    Calls Try.prog 34 #[.int .i64 n] w (NewP w (oneL n.toNat) (oneL n.toNat)) := by
  obtain ⟨i0, hi0, hz0, hz1, hz2⟩ := info_parts info_int
  obtain ⟨m, hm⟩ : ∃ m : Nat, m = n.toNat := ⟨_, rfl⟩
  have hmx : ∀ w, (Builtin.max_ #[3, 3] 3 #[.int .i64 n, .int .i64 0]).run Try.prog w = .ok (.int .i64 (m : Int)) w := fun w => by
    simp [Builtin.max_, Builtin.max2]
    split <;> omega
  have hmk := run_make_one (P := Try.prog) 25 3 i0 (.int .i64 0) 8 Try.underlying25 hi0 hz0 hz1 hz2 rfl .i64 .i64 m (by omega) (by omega)
  have hown := own_made w 3 m (.int .i64 0) (by simp only [maxLen]; omega)
  rw [← I64_replicate] at hown
  have hm1 : m ≤ 1000000 := by omega
  rw [← hm]
  clear hm
  go_enter Try.func34, Try.ntmps34
  go_wp2
  go_loopw [12] (fun i wr => ∃ (k : Nat) (y : List Int), k ≤ m ∧ i = .int .i64 k ∧ Hid (∀ j, j < k → y.getD j 0 = (j : Int)) ∧ wr.ownsRow w.heap.size 3 1 (.slice (some ⟨w.heap.size, 0, none⟩) m m) m (I64 y) ∧ Below w.heap.size w wr) (fun i _ => m - (intOf i).toNat)
  case atStart =>
    refine ⟨0, List.replicate m 0, by omega, rfl, fun j hj => absurd hj (by omega), ?_, (Below.refl _ _).alloc (Nat.le_refl _) _⟩
    simpa [I64] using hown
  case round =>
    clear hown
    obtain ⟨k, y, hk, rfl, hy, hown, hbl⟩ := hrel
    have hyl := own_lenI hown
    have HYL := Lib.hid hyl
    clear hyl
    by_cases hlt : k < m
    · have hc := own_cellI hown k hlt
      have hf := hown.frozenAt k
      generalize y.getD k 0 = yk at hc
      go_wp2
      go_roundw
      case rel =>
        refine ⟨k + 1, y.set k (k : Int), by omega, by go_num, fun j hj => ?_, own_setI hown k _, hbl.setCell (Nat.le_refl _) _⟩
        rw [getDI_set _ _ _ _ (by rw [HYL.out]; exact hlt)]
        by_cases e : j = k
        · rw [if_pos e, e]
        · rw [if_neg e]; exact hy.out j (by omega)
      case measure => simp [intOf]; omega
    · obtain rfl : k = m := by omega
      have hll : (oneL k).length = k := by simp [oneL]
      have hyk : y = ofN (oneL k) := getDI_ext (by rw [HYL.out, ofN_len, hll]) fun i hi => by
        rw [HYL.out] at hi
        rw [hy.out i hi, ofN_get, oneL_get k i hi]
      have HYK := Lib.hid hyk
      have HLL := Lib.hid hll
      clear hyk hll
      go_wp2
      go_ret
      have hb3 : Below wr.heap.size wr (wr.alloc (.cells #[.slice (some ⟨w.heap.size, 0, none⟩) k k, .slice (some ⟨w.heap.size, 0, none⟩) k k] 69)) := (Below.refl _ _).alloc (Nat.le_refl _) _
      have hr := (Rd.ofOwn hown).more hb3
      rw [HYK.out] at hr
      refine ⟨wr.heap.size, rfl, ⟨oneL_inv k, by rw [HLL.out]; omega, some ⟨w.heap.size, 0, none⟩, k, some ⟨w.heap.size, 0, none⟩, k, ?_, ?_, ?_⟩, hbl.trans (hb3.mono hbl.size)⟩
      · rw [HLL.out]; exact Blk.new wr _ _
      · rw [HLL.out]; exact hr
      · rw [HLL.out]; exact hr

/-! ### Then -/
end Go.Proofs.Ytfolefadjdcehaa
