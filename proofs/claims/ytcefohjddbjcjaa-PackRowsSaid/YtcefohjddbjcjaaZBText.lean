/- At, Text and Bytes of a vector. -/
import Derived.Test.YtcefohjddbjcjaaZg3
import Derived.Test.YtcefohjddbjcjaaZg1
namespace Go.Proofs.Ytcefohjddbjcjaa
open Go.RowKit
set_option linter.unusedVariables false

theorem at_outB (v : Option Addr) (n : Nat) (i : Int) (w : World) (hi : -9223372036854775808 ≤ i ∧ i ≤ 9223372036854775807) (ho : i < 0 ∨ (n : Int) ≤ i)
    (hl : Calls Try.prog 21 #[.pointer v] w fun e w' => e = .returned (.int .i64 (n : Int)) ∧ w = w') :
    Calls Try.prog 48 #[.pointer v, .int .i64 i] w fun e w' => e = .returned (.int .i64 (-1)) ∧ w = w' := by
  have L := Lib.hid hl
  clear hl
  by_cases h : i < 0
  · go_enter Try.func48, Try.ntmps48
    go_wp2_with fail
    go_ret
    exact ⟨rfl, rfl⟩
  · have h2 : (n : Int) ≤ i := by omega
    clear ho
    go_enter Try.func48, Try.ntmps48
    go_wp2_with (go_at_call 21; refine L.out.mono ?_; rintro e w' ⟨rfl, rfl⟩)
    go_ret
    exact ⟨rfl, rfl⟩
theorem at_p (g V n i B : Nat) (A : Option Addr) (w : World) (h : VecB w B g V n A) (hi : i < n) :
    Calls Try.prog 48 #[.pointer (some ⟨g, 0, none⟩), .int .i64 (i : Int)] w fun e w' => e = .returned (.int .i64 ((V / 2 ^ i % 2 : Nat) : Int)) ∧ w = w' := by
  have L := Lib.hid (blen_p g V n A w h)
  have G := Lib.hid (get_p g V n i 1 A w h (by omega) (by omega) (by omega))
  have hn := h.2.1
  have hlt : ¬ (n : Int) ≤ (i : Int) := by omega
  have hb : V / 2 ^ i % 2 ^ 1 < 2 := Nat.mod_lt _ (by decide)
  rw [show V / 2 ^ i % 2 = V / 2 ^ i % 2 ^ 1 by rw [Nat.pow_one]]
  generalize V / 2 ^ i % 2 ^ 1 = x at *
  clear h
  go_enter Try.func48, Try.ntmps48
  go_wp2_with (first
    | (go_at_call 21; refine L.out.mono ?_; rintro e w' ⟨rfl, rfl⟩)
    | (go_at_call 34; refine G.out.mono ?_; rintro e w' ⟨rfl, rfl⟩))
  go_ret
  exact ⟨rfl, rfl⟩

/-- The text of some bits. -/
def textOf (l : List Nat) : ByteArray := strOfNums (l.map fun (b : Nat) => ((48 + b : Nat) : Int))
theorem bytesFor_p (n : Nat) (w : World) (hn : n ≤ 9223372036854775807) :
    Calls Try.prog 33 #[.int .i64 (n : Int)] w fun e w' => e = .returned (.int .i64 (((n + 7) / 8 : Nat) : Int)) ∧ w = w' := by
  obtain ⟨q, r, hq, hr⟩ : ∃ q r, n = 8 * q + r ∧ r < 8 := ⟨n / 8, n % 8, by omega, by omega⟩
  have e1 : (n : Int) % 8 = (r : Int) := by omega
  have e2 : (n : Int) / 8 = (q : Int) := by omega
  have hq2 : q ≤ 1152921504606846976 := by omega
  by_cases h0 : r = 0
  · subst h0
    have HE : Hid ((n + 7) / 8 = q) := by show _ = _; omega
    clear hq
    go_enter Try.func33, Try.ntmps33
    go_wp2
    go_ret
    exact ⟨by rw [HE.out]; rfl, rfl⟩
  · have HE : Hid ((n + 7) / 8 = q + 1) := by show _ = _; omega
    have h1 : ((r : Int) == 0) = false := by simpa using h0
    clear hq
    go_enter Try.func33, Try.ntmps33
    go_wp2
    go_ret
    exact ⟨by rw [HE.out]; simp, rfl⟩

/-- The bytes of n bits. -/
def bytesL (V n : Nat) : List Nat := (List.range ((n + 7) / 8)).map fun i => V / 2 ^ (8 * i) % 256
theorem bytesL_len (V n : Nat) : (bytesL V n).length = (n + 7) / 8 := by simp [bytesL]
theorem bytesL_lt (V n : Nat) : ∀ b ∈ bytesL V n, b < 256 := fun b hb => by
  simp only [bytesL, List.mem_map] at hb
  obtain ⟨i, _, rfl⟩ := hb
  exact Nat.mod_lt _ (by decide)
theorem byte_part {V n i : Nat} (h : V < 2 ^ n) (hi : 8 * i < n) : V / 2 ^ (8 * i) % 2 ^ (min 8 (n - 8 * i)) = V / 2 ^ (8 * i) % 256 := by
  by_cases h8 : 8 ≤ n - 8 * i
  · rw [Nat.min_eq_left h8]
  · rw [Nat.min_eq_right (by omega)]
    have h1 : V / 2 ^ (8 * i) < 2 ^ (n - 8 * i) := by
      rw [Nat.div_lt_iff_lt_mul (Nat.two_pow_pos _), ← Nat.pow_add, show n - 8 * i + 8 * i = n by omega]; exact h
    have h2 : (2 : Nat) ^ (n - 8 * i) ≤ 2 ^ 8 := Nat.pow_le_pow_right (by omega) (by omega)
    rw [Nat.mod_eq_of_lt h1, Nat.mod_eq_of_lt (Nat.lt_of_lt_of_le h1 h2)]
set_option maxHeartbeats 1000000 in
theorem bytes_p (g V n B : Nat) (A : Option Addr) (w : World) (h : VecB w B g V n A) :
    Calls Try.prog 22 #[.pointer (some ⟨g, 0, none⟩)] w (NewU8 w (bytesL V n)) := by
  have L := Lib.hid (blen_p g V n A w h)
  have hn := h.2.1
  obtain ⟨m, hm⟩ : ∃ m, m = (n + 7) / 8 := ⟨_, rfl⟩
  have BF := Lib.hid (bytesFor_p n w (by omega))
  rw [← hm] at BF
  obtain ⟨X, hX⟩ : ∃ X, X = bytesL V n := ⟨_, rfl⟩
  have HX : Hid (X.length = m) := by show _ = _; rw [hX, bytesL_len, hm]
  have hV := h.1
  have XG : Hid (∀ i, i < m → X.getD i 0 = V / 2 ^ (8 * i) % 2 ^ (min 8 (n - 8 * i))) := fun i hi => by
    rw [byte_part hV (by omega), hX]; simp [bytesL, List.getD_eq_getElem?_getD, ← hm, hi]
  obtain ⟨i0, hi0, hz0, hz1, hz2⟩ := info_parts info_u8
  have hmk := run_make_one (P := Try.prog) 23 5 i0 (.int .u8 0) 1 Try.underlying23 hi0 hz0 hz1 hz2 rfl .i64 .i64 m (by omega) (by omega)
  have H := Lib.hid h
  have hm8 : m ≤ 200000 := by omega
  have HM := Lib.hid hm
  clear h hm
  rw [← hX]
  clear hX
  go_enter Try.func22, Try.ntmps22
  go_wp2_with (first
    | (go_at_call 21; refine L.out.mono ?_; rintro e w' ⟨rfl, rfl⟩)
    | (go_at_call 33; refine BF.out.mono ?_; rintro e w' ⟨rfl, rfl⟩))
  go_loopw [12] (fun i wr => ∃ k : Nat, k ≤ m ∧ i = .int .i64 k ∧ Blk wr w.heap.size 5 (U8 (X.take k ++ List.replicate (m - k) 0)).toArray ∧ Below w.heap.size w wr) (fun i _ => m - (intOf i).toNat)
  case atStart =>
    refine ⟨0, by omega, rfl, ?_, (Below.refl _ _).alloc (Nat.le_refl _) _⟩
    have := Blk.new w 5 (Array.replicate m (.int .u8 0))
    simpa [U8] using this
  case round =>
    obtain ⟨k, hk, rfl, hbk, hbl⟩ := hrel
    by_cases hlt : k < m
    · have hkn : 8 * k < n := by have := HM.out; omega
      obtain ⟨s, hs, hs1, hs8, hmin⟩ : ∃ s : Nat, s = min 8 (n - 8 * k) ∧ 1 ≤ s ∧ s ≤ 8 ∧ ∀ w, (Builtin.min_ #[3, 3] 3 #[.int .i64 8, .int .i64 ((n : Int) - (k : Int) * 8)]).run Try.prog w = .ok (.int .i64 (s : Int)) w := by
        refine ⟨min 8 (n - 8 * k), rfl, by omega, by omega, fun w => ?_⟩
        simp [Builtin.min_, Builtin.min2]
        repeat' split
        all_goals omega
      have GT := get_p g V n (8 * k) s A wr (H.out.below hbl) hs1 (by omega) (by omega)
      rw [show ((8 * k : Nat) : Int) = (k : Int) * 8 by omega] at GT
      have G := Lib.hid GT
      have hx : V / 2 ^ (8 * k) % 2 ^ s < 256 := Nat.lt_of_lt_of_le (Nat.mod_lt _ (Nat.two_pow_pos s)) (Nat.pow_le_pow_right (n := 2) (j := 8) (by omega) hs8)
      have d1 : wr.cell? ⟨g, 1, none⟩ = some (.int .i64 (n : Int)) := by
        obtain ⟨_, _, _, hb, _⟩ := H.out
        exact (hbl.cell (p := ⟨g, 1, none⟩) hb.lt).trans (hb.cell 1)
      have hf := fill_next X k m HX.out hlt
      rw [XG.out k hlt, ← hs] at hf
      have HFX := Lib.hid hf
      clear hf GT hs
      generalize V / 2 ^ (8 * k) % 2 ^ s = y at *
      obtain ⟨z, hz⟩ : ∃ z, (U8 (X.take k ++ List.replicate (m - k) 0)).toArray[k]? = some z := ⟨_, Array.getElem?_eq_getElem (by simp [U8_len]; have := HX.out; omega)⟩
      have tz : wr.cell? ⟨w.heap.size, k, none⟩ = some z := (hbk.cell k).trans hz
      have fz : wr.frozen? ⟨w.heap.size, k, none⟩ = false := hbk.frozen k
      have hy8 : (y : Int) % 256 = (y : Int) := by omega
      clear hz
      go_wp2_with (go_at_call 34; refine G.out.mono ?_; rintro e w' ⟨rfl, rfl⟩)
      go_roundw
      case rel =>
        refine ⟨k + 1, by omega, by go_num, ?_, (hbl.setCell (Nat.le_refl _) _)⟩
        have := hbk.set_ k (.int .u8 ((y : Nat) : Int))
        rw [HFX.out] at this
        simpa using this
      case measure => simp [intOf]; omega
    · obtain rfl : k = m := by omega
      rw [Nat.sub_self, List.replicate_zero, List.append_nil, List.take_of_length_le (by rw [HX.out]; exact Nat.le_refl _)] at hbk
      go_wp2_with fail
      go_ret
      refine .mk rfl ?_ hbl
      rw [HX.out]
      have hmx : k ≤ maxLen := by simp only [maxLen]; omega
      exact ⟨by rw [U8_len, HX.out]; simp, .inr ⟨w.heap.size, k, (U8 X).toArray, rfl, Nat.le_refl _, hbk, Nat.le_refl _, hmx, by simp [U8_len, HX.out], by rw [Nat.mul_one]; exact List.take_of_length_le (by rw [U8_len, HX.out]; exact Nat.le_refl _)⟩⟩
end Go.Proofs.Ytcefohjddbjcjaa
