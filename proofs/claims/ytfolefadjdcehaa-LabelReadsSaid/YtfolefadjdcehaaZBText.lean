/- At, Text and Bytes of a vector. -/
import Derived.Test.YtfolefadjdcehaaZBU8
import Derived.Test.YtfolefadjdcehaaZg2
namespace Go.Proofs.Ytfolefadjdcehaa
open Go.RowKit
set_option linter.unusedVariables false

theorem at_outB (v : Option Addr) (n : Nat) (i : Int) (w : World) (hi : -9223372036854775808 ≤ i ∧ i ≤ 9223372036854775807) (ho : i < 0 ∨ (n : Int) ≤ i)
    (hl : Calls Try.prog 16 #[.pointer v] w fun e w' => e = .returned (.int .i64 (n : Int)) ∧ w = w') :
    Calls Try.prog 46 #[.pointer v, .int .i64 i] w fun e w' => e = .returned (.int .i64 (-1)) ∧ w = w' := by
  have L := Lib.hid hl
  clear hl
  by_cases h : i < 0
  · go_enter Try.func46, Try.ntmps46
    go_wp2_with fail
    go_ret
    exact ⟨rfl, rfl⟩
  · have h2 : (n : Int) ≤ i := by omega
    clear ho
    go_enter Try.func46, Try.ntmps46
    go_wp2_with (go_at_call 16; refine L.out.mono ?_; rintro e w' ⟨rfl, rfl⟩)
    go_ret
    exact ⟨rfl, rfl⟩
theorem at_p (g V n i B : Nat) (A : Option Addr) (w : World) (h : VecB w B g V n A) (hi : i < n) :
    Calls Try.prog 46 #[.pointer (some ⟨g, 0, none⟩), .int .i64 (i : Int)] w fun e w' => e = .returned (.int .i64 ((V / 2 ^ i % 2 : Nat) : Int)) ∧ w = w' := by
  have L := Lib.hid (blen_p g V n A w h)
  have G := Lib.hid (get_p g V n i 1 A w h (by omega) (by omega) (by omega))
  have hn := h.2.1
  have hlt : ¬ (n : Int) ≤ (i : Int) := by omega
  have hb : V / 2 ^ i % 2 ^ 1 < 2 := Nat.mod_lt _ (by decide)
  rw [show V / 2 ^ i % 2 = V / 2 ^ i % 2 ^ 1 by rw [Nat.pow_one]]
  generalize V / 2 ^ i % 2 ^ 1 = x at *
  clear h
  go_enter Try.func46, Try.ntmps46
  go_wp2_with (first
    | (go_at_call 16; refine L.out.mono ?_; rintro e w' ⟨rfl, rfl⟩)
    | (go_at_call 63; refine G.out.mono ?_; rintro e w' ⟨rfl, rfl⟩))
  go_ret
  exact ⟨rfl, rfl⟩

/-- The text of some bits. -/
def textOf (l : List Nat) : ByteArray := strOfNums (l.map fun (b : Nat) => ((48 + b : Nat) : Int))
set_option maxHeartbeats 1000000 in
theorem text_p (g V n B : Nat) (A : Option Addr) (w : World) (h : VecB w B g V n A) :
    Calls Try.prog 13 #[.pointer (some ⟨g, 0, none⟩)] w fun e w' => e = .returned (.string (textOf (numL V n))) ∧ Below w.heap.size w w' := by
  have L := Lib.hid (blen_p g V n A w h)
  have hn := h.2.1
  obtain ⟨X, hX⟩ : ∃ X, X = (numL V n).map (48 + ·) := ⟨_, rfl⟩
  have HX : Hid (X.length = n) := by show _ = _; rw [hX, List.length_map, numL_len]
  have XG : Hid (∀ i, i < n → X.getD i 0 = 48 + V / 2 ^ i % 2) := fun i hi => by
    rw [hX]; simp [numL, List.getD_eq_getElem?_getD, hi]
  have HT : Hid (textOf (numL V n) = strOfNums (X.map fun (b : Nat) => (b : Int))) := by
    show _ = _
    rw [hX, textOf, List.map_map]; rfl
  obtain ⟨i0, hi0, hz0, hz1, hz2⟩ := info_parts info_u8
  have hmk := run_make_one (P := Try.prog) 22 5 i0 (.int .u8 0) 1 Try.underlying22 hi0 hz0 hz1 hz2 rfl .i64 .i64 n (by omega) (by omega)
  have H := Lib.hid h
  clear h hX
  go_enter Try.func13, Try.ntmps13
  go_wp2_with (go_at_call 16; refine L.out.mono ?_; rintro e w' ⟨rfl, rfl⟩)
  go_loopw [10] (fun i wr => ∃ k : Nat, k ≤ n ∧ i = .int .i64 k ∧ Blk wr w.heap.size 5 (U8 (X.take k ++ List.replicate (n - k) 0)).toArray ∧ Below w.heap.size w wr) (fun i _ => n - (intOf i).toNat)
  case atStart =>
    refine ⟨0, by omega, rfl, ?_, (Below.refl _ _).alloc (Nat.le_refl _) _⟩
    have := Blk.new w 5 (Array.replicate n (.int .u8 0))
    simpa [U8] using this
  case round =>
    obtain ⟨k, hk, rfl, hbk, hbl⟩ := hrel
    by_cases hlt : k < n
    · have AT := Lib.hid (at_p g V n k B A wr (H.out.below hbl) hlt)
      have hb2 : V / 2 ^ k % 2 < 2 := Nat.mod_lt _ (by decide)
      have hf := fill_next X k n HX.out hlt
      rw [XG.out k hlt] at hf
      have HFX := Lib.hid hf
      clear hf
      generalize V / 2 ^ k % 2 = y at *
      obtain ⟨z, hz⟩ : ∃ z, (U8 (X.take k ++ List.replicate (n - k) 0)).toArray[k]? = some z := ⟨_, Array.getElem?_eq_getElem (by simp [U8_len]; have := HX.out; omega)⟩
      have tz : wr.cell? ⟨w.heap.size, k, none⟩ = some z := (hbk.cell k).trans hz
      have fz : wr.frozen? ⟨w.heap.size, k, none⟩ = false := hbk.frozen k
      have hy8 : (y : Int) % 256 = (y : Int) := by omega
      have hy9 : (48 + (y : Int)) % 256 = 48 + (y : Int) := by omega
      clear hz
      go_wp2_with (go_at_call 46; refine AT.out.mono ?_; rintro e w' ⟨rfl, rfl⟩)
      go_roundw
      case rel =>
        refine ⟨k + 1, by omega, by go_num, ?_, (hbl.setCell (Nat.le_refl _) _)⟩
        have := hbk.set_ k (.int .u8 ((48 + y : Nat) : Int))
        rw [HFX.out] at this
        simpa using this
      case measure => simp [intOf]; omega
    · obtain rfl : k = n := by omega
      rw [Nat.sub_self, List.replicate_zero, List.append_nil, List.take_of_length_le (by rw [HX.out]; exact Nat.le_refl _)] at hbk
      have hend : Rd wr (w.heap.size + 1) (some ⟨w.heap.size, 0, none⟩) k (U8 X) :=
        ⟨by rw [U8_len, HX.out], fun _ => ⟨_, _, rfl, Nat.lt_succ_self _, fun j hj => by rw [Nat.zero_add, hbk.cell]; simp at hj ⊢⟩⟩
      have hcv := conv_bytes (some ⟨w.heap.size, 0, none⟩) k k _ X wr hend
      go_wp2_with fail
      go_ret
      exact ⟨by rw [HT.out]; rfl, hbl⟩

/-- The bytes of n bits. -/
def bytesL (V n : Nat) : List Nat := (List.range ((n + 7) / 8)).map fun i => V / 2 ^ (8 * i) % 256
theorem bytesL_len (V n : Nat) : (bytesL V n).length = (n + 7) / 8 := by simp [bytesL]
theorem bytesL_lt (V n : Nat) : ∀ b ∈ bytesL V n, b < 256 := fun b hb => by
  simp only [bytesL, List.mem_map] at hb
  obtain ⟨i, _, rfl⟩ := hb
  exact Nat.mod_lt _ (by decide)
theorem byte_part {V n i : Nat} (h : V < 2 ^ n) (hi : 8 * i < n) : V / 2 ^ (8 * i) % 2 ^ (min 8 (n - 8 * i)) = V / 2 ^ (8 * i) % 256 := by
  by_cases h8 : 8 ≤ n - 8 * i
  · rw [Nat.min_eq_left h8]
  · rw [Nat.min_eq_right (by omega)]
    have h1 : V / 2 ^ (8 * i) < 2 ^ (n - 8 * i) := by
      rw [Nat.div_lt_iff_lt_mul (Nat.two_pow_pos _), ← Nat.pow_add, show n - 8 * i + 8 * i = n by omega]; exact h
    have h2 : (2 : Nat) ^ (n - 8 * i) ≤ 2 ^ 8 := Nat.pow_le_pow_right (by omega) (by omega)
    rw [Nat.mod_eq_of_lt h1, Nat.mod_eq_of_lt (Nat.lt_of_lt_of_le h1 h2)]
end Go.Proofs.Ytfolefadjdcehaa
