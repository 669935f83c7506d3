/- The document's text and bytes of bits; like. -/
import Derived.Test.YtfolefadjdcehaaZBText
import Derived.Test.YtfolefadjdcehaaZg3
import Derived.Laws.Concat
namespace Go.Proofs.Ytfolefadjdcehaa
open Go.RowKit
set_option linter.unusedVariables false

theorem textOf_size (l : List Nat) : (textOf l).size = l.length := by rw [textOf, strOfNums_size, List.length_map]
theorem textOf_next (l : List Nat) (b : Nat) : textOf (l ++ [b]) = textOf l ++ ⟨#[UInt8.ofNat (48 + b)]⟩ := by
  apply ByteArray.ext
  rw [ByteArray.data_append]
  simp [textOf, strOfNums, show ((48 : Int) + (b : Int)).toNat = 48 + b by omega]
theorem take_one (l : List Nat) (k : Nat) (h : k < l.length) : l.take (k + 1) = l.take k ++ [l.getD k 0] := by
  rw [← List.take_append_getElem h, List.getD_eq_getElem?_getD, List.getElem?_eq_getElem h]; rfl
set_option maxHeartbeats 1000000 in
theorem refText_p (A : Option Addr) (n c B : Nat) (l : List Nat) (w : World) (h : Rd w B A n (I64 (ofNB l))) (hb : Bin l) (hn : n ≤ 1000000) :
    Calls Try.prog 14 #[.slice A n c] w fun e w' => e = .returned (.string (textOf l)) ∧ w = w' := by
  have hl : l.length = n := by rw [← ofN_lenB, ← I64_len, h.len]
  have HL := Lib.hid hl
  have HBN := Lib.hid hb
  clear hl hb
  go_enter Try.func14, Try.ntmps14
  go_wp2
  go_loopw [3, 8] (fun x i wr => ∃ (k : Nat) (t : ByteArray), k ≤ n ∧ i = .int .i64 (k : Int) ∧ Hid (t = textOf (l.take k)) ∧ x = .string t ∧ wr = w) (fun _ i _ => n - (intOf i).toNat)
  case atStart => exact ⟨0, _, by omega, rfl, rfl, rfl, rfl⟩
  case round =>
    obtain ⟨k, t, hk, rfl, ht, rfl, rfl⟩ := hrel
    have hts : t.size ≤ 1000000 := by rw [ht.out, textOf_size, List.length_take]; omega
    by_cases hlt : k < n
    · obtain ⟨b, o, rfl, _, k1⟩ := h.i64 (by omega)
      have t1 := k1 k hlt
      rw [ofN_getB] at t1
      have hb2 := HBN.out.getD k
      have hnx : textOf (l.take (k + 1)) = t ++ ⟨#[UInt8.ofNat (48 + l.getD k 0)]⟩ := by
        rw [take_one l k (by rw [HL.out]; exact hlt), textOf_next, ht.out]
      clear k1
      rcases Nat.eq_zero_or_pos (l.getD k 0) with h0 | h0
      · rw [h0] at t1 hnx
        have hcat : ∀ W, (Op.stringOp .add t ⟨#[48]⟩).run Try.prog W = .ok (.string (t ++ ⟨#[48]⟩)) W := fun W => run_string_add W _ _ (by omega) (by decide)
        have HNX := Lib.hid hnx
        clear hnx hb2 h0
        go_wp2_with fail
        go_roundw
        case rel => exact ⟨k + 1, _, by omega, by go_num, HNX.out.symm, rfl, trivial⟩
        case measure => simp [intOf]; omega
      · have h1 : l.getD k 0 = 1 := by omega
        rw [h1] at t1 hnx
        have hcat : ∀ W, (Op.stringOp .add t ⟨#[49]⟩).run Try.prog W = .ok (.string (t ++ ⟨#[49]⟩)) W := fun W => run_string_add W _ _ (by omega) (by decide)
        have HNX := Lib.hid hnx
        clear hnx hb2 h0 h1
        go_wp2_with fail
        go_roundw
        case rel => exact ⟨k + 1, _, by omega, by go_num, HNX.out.symm, rfl, trivial⟩
        case measure => simp [intOf]; omega
    · obtain rfl : k = n := by omega
      have e1 : l.take k = l := List.take_of_length_le (by rw [HL.out]; exact Nat.le_refl _)
      rw [e1] at ht
      go_wp2_with fail
      go_ret
      exact ⟨by rw [← ht.out]; rfl, rfl⟩
/-- The byte's bits from the place j on. -/
def tail8 (l : List Nat) (from_ j : Nat) : Nat := val ((l.drop (from_ + j)).take (8 - j))
theorem tail8_end (l : List Nat) (f : Nat) : tail8 l f 8 = 0 := by simp [tail8, val]
theorem tail8_in (l : List Nat) (f j : Nat) (hj : j < 8) (h : f + j < l.length) : tail8 l f j = tail8 l f (j + 1) * 2 + l.getD (f + j) 0 := by
  unfold tail8
  rw [List.drop_eq_getElem_cons h, show 8 - j = (8 - (j + 1)) + 1 by omega, List.take_succ_cons, val, show f + j + 1 = f + (j + 1) by omega, List.getD_eq_getElem?_getD, List.getElem?_eq_getElem h, Option.getD_some]
  omega
theorem tail8_out (l : List Nat) (f j : Nat) (hj : j < 8) (h : ¬ f + j < l.length) : tail8 l f j = tail8 l f (j + 1) * 2 := by
  unfold tail8
  rw [List.drop_of_length_le (by omega), List.drop_of_length_le (by omega)]
  simp [val]
theorem tail8_lt {l : List Nat} (h : Bin l) (f j : Nat) : tail8 l f j < 2 ^ (8 - j) := by
  have h1 := val_lt ((h.drop (f + j)).take (8 - j))
  refine Nat.lt_of_lt_of_le h1 (Nat.pow_le_pow_right (by omega) ?_)
  rw [List.length_take]; omega
theorem tail8_zero {l : List Nat} (h : Bin l) (k : Nat) : tail8 l (8 * k) 0 = val l / 2 ^ (8 * k) % 256 := by
  unfold tail8
  rw [Nat.add_zero, Nat.sub_zero, val_take (h.drop _), val_drop h]
/-- The bytes met so far. -/
theorem bytes_next (V k : Nat) : ((List.range (k + 1)).map fun i => V / 2 ^ (8 * i) % 256) = ((List.range k).map fun i => V / 2 ^ (8 * i) % 256) ++ [V / 2 ^ (8 * k) % 256] := by
  rw [List.range_succ, List.map_append]; rfl
end Go.Proofs.Ytfolefadjdcehaa
