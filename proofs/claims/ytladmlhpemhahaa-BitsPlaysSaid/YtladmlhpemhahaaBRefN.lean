/- The document's numbers of bits: Size, Num, Value. -/
import Derived.Test.YtladmlhpemhahaaBSeq
import Derived.Test.YtladmlhpemhahaaBList
namespace Go.Proofs.Ytladmlhpemhahaa
open Go.RowKit
set_option linter.unusedVariables false

theorem size_p (k : Int) (w : World) (hk : -9223372036854775808 ≤ k ∧ k ≤ 9223372036854775807) :
    Calls Try.prog 21 #[.int .i64 k] w fun e w' => e = .returned (.int .i64 ((cnt64 k : Nat) : Int)) ∧ w = w' := by
  by_cases h0 : k < 0
  · have hc : cnt64 k = 0 := by unfold cnt64; rw [if_pos (by omega)]
    rw [hc]
    go_enter Try.func21, Try.ntmps21
    go_wp2
    go_ret
    exact ⟨rfl, rfl⟩
  · by_cases h1 : 64 < k
    · have hc : ((cnt64 k : Nat) : Int) = 64 := by unfold cnt64; split <;> (try split) <;> omega
      rw [hc]
      go_enter Try.func21, Try.ntmps21
      go_wp2
      go_ret
      exact ⟨rfl, rfl⟩
    · have hc : ((cnt64 k : Nat) : Int) = k := by unfold cnt64; split <;> (try split) <;> omega
      rw [hc]
      go_enter Try.func21, Try.ntmps21
      go_wp2
      go_ret
      exact ⟨rfl, rfl⟩
set_option maxHeartbeats 1000000 in
theorem rnumL_p (x : Nat) (k : Int) (w : World) (hx : x < 2 ^ 64) (hk : -9223372036854775808 ≤ k ∧ k ≤ 9223372036854775807) :
    Calls Try.prog 13 #[.int .u64 (x : Int), .int .i64 k] w (NewI64 w (ofN (numL x (cnt64 k)))) := by
  obtain ⟨i0, hi0, hz0, hz1, hz2⟩ := info_parts info_int
  have SZ : Hid (∀ w' : World, Calls Try.prog 21 #[.int .i64 k] w' fun e w'' => e = .returned (.int .i64 ((cnt64 k : Nat) : Int)) ∧ w' = w'') := fun w' => size_p k w' hk
  have hk64 : cnt64 k ≤ 64 := by unfold cnt64; split <;> (try split) <;> omega
  have HK := Lib.hid hk
  generalize cnt64 k = kk at *
  clear hk
  have HX := Lib.hid hx
  go_enter Try.func13, Try.ntmps13
  go_wp2
  go_loopw [0, 5, 6] (fun xv v i wr => ∃ (j y : Nat) (Av : Option Addr) (cv : Nat), j ≤ kk ∧ y = x / 2 ^ j ∧ xv = .int .u64 (y : Int) ∧ i = .int .i64 (j : Int) ∧ v = .slice Av j cv ∧ wr.ownsRow w.heap.size 3 1 (.slice Av j cv) j (I64 (ofN (numL x j))) ∧ Below w.heap.size w wr) (fun _ _ i _ => (kk : Int).toNat - (intOf i).toNat)
  case atStart => exact ⟨0, x, none, 0, by omega, by simp, rfl, rfl, rfl, World.ownsRow_nil _ _ _ _, Below.refl _ _⟩
  case round =>
    obtain ⟨j, y, Av, cv, hj, hy, rfl, rfl, rfl, hown, hbl⟩ := hrel
    have hy64 : y < 18446744073709551616 := by rw [hy]; exact Nat.lt_of_le_of_lt (Nat.div_le_self _ _) HX.out
    have HY := Lib.hid hy
    by_cases hlt : j < kk
    · have hown3' := hown.alloc (.cells #[.int .i64 ((y : Int) % 2)] 3)
      have r3 := Rd.new wr 3 #[.int .i64 ((y : Int) % 2)] 1 (I64 [((y : Int) % 2)]) (by simp [I64]) (by simp)
      have t1 : j + 1 ≤ maxLen := by simp only [maxLen]; omega
      have t2 : (j + 1) * 8 ≤ 140737488355328 := by omega
      have t3 : w.heap.size ≤ (wr.alloc (.cells #[.int .i64 ((y : Int) % 2)] 3)).heap.size := by have := hbl.size; simp; omega
      have WY : Hid (I64 (ofN (numL x j)) ++ I64 [((y : Int) % 2)] = I64 (ofN (numL x (j + 1)))) := by
        show _ = _
        rw [numL_next, ofN_append, I64_append, hy]
        simp [ofN]
      clear hy
      go_wp2_with fail
      refine (SZ.out _).mono ?_
      rintro e w' ⟨rfl, rfl⟩
      go_wp2_with (first
        | (at_builtin; go_must (refine wpList_append_rd _ rfl _ _ 26 rfl w.heap.size 3 i0 (.int .i64 0) 8 Try.underlying26 hi0 hz0 hz1 hz2 rfl (.slice Av j cv) j (I64 (ofN (numL x j))) rfl hown3' (wr.heap.size + 1) (some ⟨wr.heap.size, 0, none⟩) 1 1 (I64 [((y : Int) % 2)]) rfl r3 (I64_one _) t1 t2 t3 ?_)))
      intro A6 c6 w6 hc6 hm6 hown6 hg6 _
      have hb6 : Below w.heap.size wr w6 := ((Below.refl w.heap.size wr).alloc hbl.size _).trans (Below.appended hown3' hg6 t3)
      rw [WY.out] at hown6
      go_wp2
      go_roundw
      case rel => exact ⟨j + 1, y / 2, A6, c6, by omega, by rw [HY.out, Nat.pow_succ, Nat.div_div_eq_div_mul], by go_num, by go_num, rfl, hown6, hbl.trans hb6⟩
      case measure => simp [intOf]; omega
    · obtain rfl : j = kk := by omega
      go_wp2_with fail
      refine (SZ.out _).mono ?_
      rintro e w' ⟨rfl, rfl⟩
      go_wp2_with fail
      go_ret
      refine .mk rfl ?_ hbl
      rw [ofN_len, numL_len]
      exact hown
set_option maxHeartbeats 1000000 in
theorem value_p (A : Option Addr) (n c B : Nat) (l : List Nat) (w : World) (h : Rd w B A n (I64 (ofN l))) (hb : Bin l) (hn : n ≤ 64) :
    Calls Try.prog 23 #[.slice A n c] w fun e w' => e = .returned (.int .u64 ((val l : Nat) : Int)) ∧ w = w' := by
  have hl : l.length = n := by rw [← ofN_len, ← I64_len, h.len]
  have HL := Lib.hid hl
  have HBN := Lib.hid hb
  have hn1 : (n : Int) ≤ 64 := by omega
  clear hl hb
  go_enter Try.func23, Try.ntmps23
  go_wp2
  go_loopw [3, 4] (fun xv i wr => ∃ j : Nat, j ≤ n ∧ xv = .int .u64 ((val (l.drop j) : Nat) : Int) ∧ i = .int .i64 ((j : Int) - 1) ∧ wr = w) (fun _ i _ => (intOf i + 1).toNat)
  case atStart => exact ⟨n, by omega, by rw [List.drop_of_length_le (by rw [HL.out]; omega)]; rfl, rfl, rfl⟩
  case round =>
    obtain ⟨j, hj, rfl, rfl, rfl⟩ := hrel
    cases j with
    | zero =>
      rw [List.drop_zero]
      generalize hxv : val l = x at *
      have HXV := Lib.hid hxv
      clear hxv
      go_wp2
      go_ret
      exact ⟨by rw [HXV.out]; rfl, rfl⟩
    | succ j =>
      obtain ⟨b, o, rfl, _, k1⟩ := h.i64 (by omega)
      have t1 := k1 j (by omega)
      rw [ofN_get] at t1
      have hlt : j < l.length := by have := HL.out; omega
      have e : val (l.drop j) = l.getD j 0 + 2 * val (l.drop (j + 1)) := by
        rw [List.drop_eq_getElem_cons hlt, List.getD_eq_getElem?_getD, List.getElem?_eq_getElem hlt]
        rfl
      have hv : val (l.drop j) < 18446744073709551616 := by
        have h1 := val_lt (HBN.out.drop j)
        rw [List.length_drop] at h1
        exact Nat.lt_of_lt_of_le h1 (Nat.pow_le_pow_right (n := 2) (j := 64) (by omega) (by have := HL.out; omega))
      have E := Lib.hid e
      have hbit := HBN.out.getD j
      rw [e] at hv
      clear e k1 hlt
      generalize val (l.drop (j + 1)) = y at *
      generalize l.getD j 0 = b at *
      go_wp2
      go_roundw
      case rel => exact ⟨j, by omega, by rw [E.out]; go_num, by go_num, trivial⟩
      case measure => simp [intOf] <;> omega
end Go.Proofs.Ytladmlhpemhahaa
