/- BitsBytes: the vector whose bytes they are, or a refusal. -/
import Derived.Test.YtcefohjddbjcjaaZBOfB
import Derived.Test.YtcefohjddbjcjaaZBRow
namespace Go.Proofs.Ytcefohjddbjcjaa
open Go.RowKit
set_option linter.unusedVariables false

theorem few_byte (bs : List Nat) (n i : Nat) (hi : i < bs.length) (h8 : 8 * i < n) (hn : n ≤ 8 * bs.length) : val (few bs n) / 2 ^ (8 * i) % 256 = bs.getD i 0 % 2 ^ (min 8 (n - 8 * i)) := by
  have hb := few_bin bs n
  have hl : (few bs n).length = n := by rw [few_len]; omega
  have hc := few_cut bs n i hi h8
  have e1 : ((few bs n).drop (8 * i)).take 8 = numL (bs.getD i 0) (min 8 (n - 8 * i)) := by
    have e2 : ((few bs n).take (8 * (i + 1))).drop (8 * i) = ((few bs n).drop (8 * i)).take 8 := by
      rw [List.drop_take]; congr 1; omega
    rw [← e2, hc, List.drop_append_of_le_length (by rw [List.length_take]; omega), List.drop_of_length_le (by rw [List.length_take]; omega), List.nil_append]
  have e3 := congrArg val e1
  rwa [val_take (hb.drop _), val_drop hb, val_numL] at e3
theorem bytes_iff (bs : List Nat) (n : Nat) (hbs : ∀ b ∈ bs, b < 256) (hm : bs.length = (n + 7) / 8) : bytesL (val (few bs n)) n = bs ↔ (n % 8 = 0 ∨ bs.getD (bs.length - 1) 0 / 2 ^ (n % 8) = 0) := by
  have hg : ∀ i, i < bs.length → (bytesL (val (few bs n)) n).getD i 0 = bs.getD i 0 % 2 ^ (min 8 (n - 8 * i)) := fun i hi => by
    rw [← few_byte bs n i hi (by omega) (by omega)]
    simp [bytesL, List.getD_eq_getElem?_getD, ← hm, hi]
  have hlt : ∀ i, i < bs.length → bs.getD i 0 < 256 := fun i hi => by
    rw [List.getD_eq_getElem?_getD, List.getElem?_eq_getElem hi]; exact hbs _ (List.getElem_mem hi)
  constructor
  · intro e
    by_cases h0 : n % 8 = 0
    · exact .inl h0
    · right
      have h1 := hg (bs.length - 1) (by omega)
      rw [e, show min 8 (n - 8 * (bs.length - 1)) = n % 8 by omega] at h1
      rw [h1]
      exact Nat.div_eq_of_lt (Nat.mod_lt _ (Nat.two_pow_pos _))
  · intro h
    refine getDN_ext (by rw [bytesL_len, hm]) fun i hi => ?_
    rw [bytesL_len, ← hm] at hi
    rw [hg i hi]
    by_cases h8 : 8 ≤ n - 8 * i
    · rw [Nat.min_eq_left h8]
      exact Nat.mod_eq_of_lt (hlt i hi)
    · have hi2 : i = bs.length - 1 := by omega
      have hr : n - 8 * i = n % 8 := by omega
      rw [Nat.min_eq_right (by omega), hr]
      have h0 := h.resolve_left (by omega)
      rw [← hi2] at h0
      refine Nat.mod_eq_of_lt ?_
      rcases Nat.lt_or_ge (bs.getD i 0) (2 ^ (n % 8)) with hh | hh
      · exact hh
      · have := Nat.div_pos hh (Nat.two_pow_pos _); omega
/-- What Of answers. -/
def OfPostB (w : World) (bs : List Nat) (N : Int) (e : Ending) (w' : World) : Prop :=
  ∃ (vp : Option Addr) (er : Int), e = .returned (.tuple #[.pointer vp, .int .i64 er]) ∧ Below w.heap.size w w' ∧
    (((N < 0 ∨ 8 * (bs.length : Int) < N ∨ 8 ≤ 8 * (bs.length : Int) - N) ∧ vp = none ∧ er = 1) ∨
     ∃ n : Nat, N = (n : Int) ∧ n ≤ 8 * bs.length ∧ 8 * bs.length < n + 8 ∧
      ((bytesL (val (few bs n)) n ≠ bs ∧ vp = none ∧ er = 3) ∨
       (bytesL (val (few bs n)) n = bs ∧ er = 0 ∧ ∃ g A, vp = some ⟨g, 0, none⟩ ∧ VecAt w' g (val (few bs n)) n A ∧ w.heap.size ≤ g)))
theorem bof_p (A : Option Addr) (m c B : Nat) (N : Int) (bs : List Nat) (w : World) (h : Rd w B A m (U8 bs)) (hB : B ≤ w.heap.size) (hbs : ∀ b ∈ bs, b < 256) (hm : m ≤ 40) (hN : -9223372036854775808 ≤ N ∧ N ≤ 9223372036854775807) :
    Calls Try.prog 44 #[.slice A m c, .int .i64 N] w (OfPostB w bs N) := by
  have hl : bs.length = m := by rw [← h.len, U8_len]
  by_cases h0 : N < 0
  · exact (bof_neg A m c N w h0).mono fun e w' ⟨he, hw⟩ => ⟨none, 1, he, hw ▸ Below.refl _ _, .inl ⟨.inl h0, rfl, rfl⟩⟩
  · obtain ⟨n, rfl⟩ : ∃ n : Nat, N = (n : Int) := ⟨N.toNat, by omega⟩
    by_cases hm8 : m = (n + 7) / 8
    · have hiff := bytes_iff bs n hbs (by rw [hl, hm8])
      rw [hl] at hiff
      by_cases hx : n % 8 = 0 ∨ bs.getD (m - 1) 0 / 2 ^ (n % 8) = 0
      · exact (bof_ok A m c n B bs w h hB hbs (by omega) hm8 hx).mono fun e w' ⟨g, A', he, hv, hg, hb⟩ =>
          ⟨_, 0, he, hb, .inr ⟨n, rfl, by omega, by omega, .inr ⟨hiff.2 hx, rfl, g, A', rfl, hv, hg⟩⟩⟩
      · exact (bof_form A m c n (n % 8) B bs w h (by omega) hm8 rfl (fun e => hx (.inl e)) (fun e => hx (.inr e))).mono fun e w' ⟨he, hw⟩ =>
          ⟨none, 3, he, hw ▸ Below.refl _ _, .inr ⟨n, rfl, by omega, by omega, .inl ⟨fun e => hx (hiff.1 e), rfl, rfl⟩⟩⟩
    · exact (bof_len A m c n w (by omega) hm8).mono fun e w' ⟨he, hw⟩ => ⟨none, 1, he, hw ▸ Below.refl _ _, .inl ⟨by omega, rfl, rfl⟩⟩
theorem U8_get' (z : List Nat) (k : Nat) (hk : k < z.length) : (U8 z)[k]? = some (.int .u8 ((z.getD k 0 : Nat) : Int)) := by
  simp [U8, List.getD_eq_getElem?_getD, List.getElem?_eq_getElem hk]
theorem own_len8 {w : World} {base : Nat} {v : Value} {n : Nat} {y : List Nat} (h : w.ownsRow base 5 1 v n (U8 y)) : y.length = n := by
  have := h.1; rw [U8_len] at this; omega
theorem own_cell8 {w : World} {base : Nat} {g n c : Nat} {y : List Nat} (h : w.ownsRow base 5 1 (.slice (some ⟨g, 0, none⟩) n c) n (U8 y)) (k : Nat) (hk : k < n) :
    w.cell? ⟨g, k, none⟩ = some (.int .u8 ((y.getD k 0 : Nat) : Int)) := by
  have hl := own_len8 h
  rw [h.cellAt k (by omega), U8_get' y k (by omega)]
theorem own_set8 {w : World} {base : Nat} {g n c : Nat} {y : List Nat} (h : w.ownsRow base 5 1 (.slice (some ⟨g, 0, none⟩) n c) n (U8 y)) (k v : Nat) :
    (w.setCell ⟨g, k, none⟩ (.int .u8 (v : Int))).ownsRow base 5 1 (.slice (some ⟨g, 0, none⟩) n c) n (U8 (y.set k v)) := by
  have := (h.stored k (.int .u8 (v : Int))).1
  rwa [show (U8 y).set k (.int .u8 (v : Int)) = U8 (y.set k v) by simp [U8, List.map_set]] at this
theorem xor8 (x : Nat) (h : x < 256) : bits .xor .u8 (x : Int) 255 = ((x ^^^ 255 : Nat) : Int) := u8_xor_nat x 255 h (by decide)
theorem xor8_lt (x : Nat) (h : x < 256) : x ^^^ 255 < 256 := Nat.xor_lt_two_pow (n := 8) h (by decide)
end Go.Proofs.Ytcefohjddbjcjaa
