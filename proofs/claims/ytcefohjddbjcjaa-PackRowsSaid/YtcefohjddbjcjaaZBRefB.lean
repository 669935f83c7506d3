/- The document's text and bytes of bits; like. -/
import Derived.Test.YtcefohjddbjcjaaZBText
import Derived.Test.YtcefohjddbjcjaaZBOfG
import Derived.Laws.Concat
namespace Go.Proofs.Ytcefohjddbjcjaa
set_option maxRecDepth 20000
open Go.RowKit
set_option linter.unusedVariables false

theorem textOf_size (l : List Nat) : (textOf l).size = l.length := by rw [textOf, strOfNums_size, List.length_map]
theorem textOf_next (l : List Nat) (b : Nat) : textOf (l ++ [b]) = textOf l ++ ⟨#[UInt8.ofNat (48 + b)]⟩ := by
  apply ByteArray.ext
  rw [ByteArray.data_append]
  simp [textOf, strOfNums, show ((48 : Int) + (b : Int)).toNat = 48 + b by omega]
theorem take_one (l : List Nat) (k : Nat) (h : k < l.length) : l.take (k + 1) = l.take k ++ [l.getD k 0] := by
  rw [← List.take_append_getElem h, List.getD_eq_getElem?_getD, List.getElem?_eq_getElem h]; rfl
/-- The byte's bits from the place j on. -/
def tail8 (l : List Nat) (from_ j : Nat) : Nat := val ((l.drop (from_ + j)).take (8 - j))
theorem tail8_end (l : List Nat) (f : Nat) : tail8 l f 8 = 0 := by simp [tail8, val]
theorem tail8_in (l : List Nat) (f j : Nat) (hj : j < 8) (h : f + j < l.length) : tail8 l f j = tail8 l f (j + 1) * 2 + l.getD (f + j) 0 := by
  unfold tail8
  rw [List.drop_eq_getElem_cons h, show 8 - j = (8 - (j + 1)) + 1 by omega, List.take_succ_cons, val, show f + j + 1 = f + (j + 1) by omega, List.getD_eq_getElem?_getD, List.getElem?_eq_getElem h, Option.getD_some]
  omega
theorem tail8_out (l : List Nat) (f j : Nat) (hj : j < 8) (h : ¬ f + j < l.length) : tail8 l f j = tail8 l f (j + 1) * 2 := by
  unfold tail8
  rw [List.drop_of_length_le (by omega), List.drop_of_length_le (by omega)]
  simp [val]
theorem tail8_lt {l : List Nat} (h : Bin l) (f j : Nat) : tail8 l f j < 2 ^ (8 - j) := by
  have h1 := val_lt ((h.drop (f + j)).take (8 - j))
  refine Nat.lt_of_lt_of_le h1 (Nat.pow_le_pow_right (by omega) ?_)
  rw [List.length_take]; omega
theorem tail8_zero {l : List Nat} (h : Bin l) (k : Nat) : tail8 l (8 * k) 0 = val l / 2 ^ (8 * k) % 256 := by
  unfold tail8
  rw [Nat.add_zero, Nat.sub_zero, val_take (h.drop _), val_drop h]
/-- The bytes met so far. -/
theorem bytes_next (V k : Nat) : ((List.range (k + 1)).map fun i => V / 2 ^ (8 * i) % 256) = ((List.range k).map fun i => V / 2 ^ (8 * i) % 256) ++ [V / 2 ^ (8 * k) % 256] := by
  rw [List.range_succ, List.map_append]; rfl
set_option maxHeartbeats 2000000 in
theorem refBytes_p (A : Option Addr) (n c B : Nat) (l : List Nat) (w : World) (h : Rd w B A n (I64 (ofNB l))) (hB : B ≤ w.heap.size) (hb : Bin l) (hn : n ≤ 1000000) :
    Calls Try.prog 28 #[.slice A n c] w (NewU8 w (bytesL (val l) l.length)) := by
  have hl : l.length = n := by rw [← ofN_lenB, ← I64_len, h.len]
  obtain ⟨i0, hi0, hz0, hz1, hz2⟩ := info_parts info_u8
  have HL := Lib.hid hl
  have HBN := Lib.hid hb
  have H := Lib.hid h
  have H8 : Hid (∀ k, tail8 l (8 * k) 0 = val l / 2 ^ (8 * k) % 256) := fun k => tail8_zero hb k
  have HQ : Hid (∀ m, m = (n + 7) / 8 → bytesL (val l) l.length = (List.range m).map fun i => val l / 2 ^ (8 * i) % 256) := fun m hm => by rw [hm, ← hl]; rfl
  clear hl hb h
  generalize val l = V at *
  go_enter Try.func28, Try.ntmps28
  go_wp2
  go_loopw [3, 4] (fun v x wr => ∃ (k : Nat) (Av : Option Addr) (cv : Nat), k ≤ (n + 7) / 8 ∧ x = .int .i64 ((8 * k : Nat) : Int) ∧ v = .slice Av k cv ∧ wr.ownsRow w.heap.size 5 1 (.slice Av k cv) k (U8 ((List.range k).map fun i => V / 2 ^ (8 * i) % 256)) ∧ Below w.heap.size w wr) (fun _ x _ => n + 8 - (intOf x).toNat)
  case atStart => exact ⟨0, none, 0, by omega, rfl, rfl, World.ownsRow_nil _ _ _ _, Below.refl _ _⟩
  case round =>
    obtain ⟨k, Av, cv, hk, rfl, rfl, hown, hbl⟩ := hrel
    obtain ⟨f, hf⟩ : ∃ f, f = 8 * k := ⟨_, rfl⟩
    rw [← hf]
    by_cases hlt : f < n
    · have hr := H.out.below (hbl.mono hB)
      have HOWN := Lib.hid hown
      have HF := Lib.hid hf
      have hf9 : f ≤ 1000000 := by omega
      have hk9 : k ≤ 200000 := by omega
      have HR := Lib.hid hr
      clear hown hf hk hr
      go_wp2_with fail
      go_loopw [5, 6] (fun v x wq => ∃ (j y : Nat), j ≤ 8 ∧ x = .int .i64 ((j : Int) - 1) ∧ Hid (y = tail8 l f j) ∧ y < 2 ^ (8 - j) ∧ v = .int .i64 (y : Int) ∧ wq = wr) (fun _ x _ => (intOf x + 1).toNat)
      case atStart => exact ⟨8, 0, by omega, rfl, (tail8_end l f).symm, by decide, rfl, rfl⟩
      case round =>
        obtain ⟨j, y, hj, rfl, hy, hyl, rfl, rfl⟩ := hrel
        cases j with
        | zero =>
          have hy8 : y < 256 := hyl
          have hy9 : (y : Int) % 256 = (y : Int) := by omega
          have hown3' := HOWN.out.alloc (.cells #[.int .u8 (y : Int)] 5)
          have r3 := Rd.new wr 5 #[.int .u8 (y : Int)] 1 (U8 [y]) (by simp [U8]) (by simp)
          have t1 : k + 1 ≤ maxLen := by simp only [maxLen]; omega
          have t2 : (k + 1) * 1 ≤ 140737488355328 := by omega
          have t3 : w.heap.size ≤ (wr.alloc (.cells #[.int .u8 (y : Int)] 5)).heap.size := by have := hbl.size; simp; omega
          have WY : Hid (U8 ((List.range k).map fun i => V / 2 ^ (8 * i) % 256) ++ U8 [y] = U8 ((List.range (k + 1)).map fun i => V / 2 ^ (8 * i) % 256)) := by
            show _ = _
            rw [bytes_next, U8_append, hy.out, HF.out, H8.out]
          have FN : Hid (((f : Int) + 8) = ((8 * (k + 1) : Nat) : Int)) := by show _ = _; have := HF.out; omega
          have KN : Hid (k + 1 ≤ (n + 7) / 8) := by show _ ≤ _; have := HF.out; omega
          clear hy hyl
          go_wp2_with (first
            | (at_builtin; go_must (refine wpList_append_rd _ rfl _ _ 23 rfl w.heap.size 5 i0 (.int .u8 0) 1 Try.underlying23 hi0 hz0 hz1 hz2 rfl (.slice Av k cv) k (U8 ((List.range k).map fun i => V / 2 ^ (8 * i) % 256)) rfl hown3' (wr.heap.size + 1) (some ⟨wr.heap.size, 0, none⟩) 1 1 (U8 [y]) rfl r3 (U8_one _) t1 t2 t3 ?_)))
          intro A6 c6 w6 hc6 hm6 hown6 hg6 _
          have hb6 : Below w.heap.size wr w6 := ((Below.refl w.heap.size wr).alloc hbl.size _).trans (Below.appended hown3' hg6 t3)
          rw [WY.out] at hown6
          go_wp2
          go_roundw
          case rel => exact ⟨k + 1, A6, c6, KN.out, by rw [FN.out], rfl, hown6, hbl.trans hb6⟩
          case measure => simp [intOf]; omega
        | succ j =>
          have hj1 : ((j + 1 : Nat) : Int) - 1 = (j : Int) := by omega
          rw [hj1]
          have hj8 : j ≤ 7 := by omega
          have hyl2 : y < 256 := Nat.lt_of_lt_of_le hyl (Nat.pow_le_pow_right (n := 2) (j := 8) (by omega) (by omega))
          have HT := Lib.hid (tail8_lt HBN.out f j)
          by_cases hin : f + j < n
          · have TN : Hid (y * 2 + l.getD (f + j) 0 = tail8 l f j) := by show _ = _; rw [tail8_in l f j (by omega) (by rw [HL.out]; exact hin), ← hy.out]
            obtain ⟨b, o, rfl, _, k1⟩ := HR.out.i64 (by omega)
            have t1 := k1 (f + j) hin
            rw [ofN_getB] at t1
            have hb2 := HBN.out.getD (f + j)
            have hin' : (f : Int) + (j : Int) < (n : Int) := by omega
            clear k1 hyl hy hin
            generalize l.getD (f + j) 0 = z at *
            go_wp2_with fail
            go_roundw
            case rel => exact ⟨j, y * 2 + z, by omega, by go_num, TN, by rw [TN.out]; exact HT.out, by go_num, trivial⟩
            case measure => simp [intOf] <;> omega
          · have TN : Hid (y * 2 = tail8 l f j) := by show _ = _; rw [tail8_out l f j (by omega) (by rw [HL.out]; exact hin), ← hy.out]
            have hin' : ¬ (f : Int) + (j : Int) < (n : Int) := by omega
            clear hyl hy hin
            go_wp2_with fail
            go_roundw
            case rel => exact ⟨j, y * 2, by omega, by go_num, TN, by rw [TN.out]; exact HT.out, by go_num, trivial⟩
            case measure => simp [intOf] <;> omega
    · have hfn : ¬ (f : Int) < (n : Int) := by omega
      have hq := HQ.out k (by omega)
      have hq2 : (bytesL V l.length).length = k := by rw [hq]; simp
      have HQ1 := Lib.hid hq
      have HQ2 := Lib.hid hq2
      clear hq hq2
      go_wp2
      go_ret
      refine .mk rfl ?_ hbl
      rw [HQ2.out, HQ1.out]
      exact hown
end Go.Proofs.Ytcefohjddbjcjaa
