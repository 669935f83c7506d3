/- How many ones a number has, and the count by halves that the library makes; no program in sight. Read, and what a reader answers. Ones: the library's count of one word, the vector's, the document's. The document's count of ones. The document's example of bits. The document's numbers of bits: Size, Num, Value. Few, Add, and what stands beside them. of: a vector of bits. Readers, and what stands beside them. What a nil vector answers. Ones, and what stands beside it. -/
import Derived.Test.YtcefohjddbjcjaaZg1
import Derived.Test.YtcefohjddbjcjaaZg3
import Derived.Deep.RegionWith
import Derived.Deep.RegionLaw
import Derived.Test.YtcefohjddbjcjaaZBOfG
import Derived.Laws.BitsAllLaws
import Derived.Laws.Bits128
import Derived.Test.YtcefohjddbjcjaaZBText
import Derived.Test.YtcefohjddbjcjaaZBSame
namespace Go.Proofs.Ytcefohjddbjcjaa
set_option linter.unusedVariables false

/-- How many of the k lowest bits are ones. -/
def pop (x k : Nat) : Nat := (numL x k).sum
theorem numL_add (x a b : Nat) : numL x (a + b) = numL x a ++ numL (x / 2 ^ a) b := by
  simp only [numL, List.range_add, List.map_append, List.map_map]
  congr 1
  refine List.map_congr_left fun i _ => ?_
  simp only [Function.comp]
  rw [Nat.pow_add, Nat.div_div_eq_div_mul]
theorem pop_add (x a b : Nat) : pop x (a + b) = pop x a + pop (x / 2 ^ a) b := by
  unfold pop
  rw [numL_add, List.sum_append]
theorem numL_mod (x k : Nat) : numL (x % 2 ^ k) k = numL x k := by
  refine List.map_congr_left fun i hi => ?_
  rw [List.mem_range] at hi
  have h : (x % 2 ^ k).testBit i = x.testBit i := by rw [Nat.testBit_mod_two_pow]; simp [hi]
  rw [Nat.testBit_eq_decide_div_mod_eq, Nat.testBit_eq_decide_div_mod_eq, decide_eq_decide] at h
  omega
theorem pop_mod (x k : Nat) : pop (x % 2 ^ k) k = pop x k := by unfold pop; rw [numL_mod]
theorem pop_zero (k : Nat) : pop 0 k = 0 := by
  unfold pop numL
  induction k with
  | zero => rfl
  | succ k ih => rw [List.range_succ, List.map_append, List.sum_append, ih]; simp
theorem pop_one (x : Nat) : pop x 0 = 0 := rfl
theorem and_cut (a b c d : Nat) (hb : b < 256) (hd : d < 256) : (a * 256 + b) &&& (c * 256 + d) = (a &&& c) * 256 + (b &&& d) := by
  have hbd : b &&& d < 2 ^ 8 := Nat.and_lt_two_pow b hd
  have e : ∀ u v : Nat, u * 256 + v = 2 ^ 8 * u + v := fun u v => by omega
  rw [e a b, e c d, e _ _]
  apply Nat.eq_of_testBit_eq
  intro j
  rw [Nat.testBit_and, Nat.testBit_two_pow_mul_add a (i := 8) hb, Nat.testBit_two_pow_mul_add c (i := 8) hd, Nat.testBit_two_pow_mul_add (a &&& c) (i := 8) hbd]
  by_cases hj : j < 8
  · simp [hj, Nat.testBit_and]
  · simp [hj, Nat.testBit_and]

def st1 (x M : Nat) : Nat := (x / 2 &&& M) + (x &&& M)
def st2 (x M : Nat) : Nat := (x / 4 &&& M) + (x &&& M)
def st3 (x M : Nat) : Nat := (x / 16 + x) &&& M
theorem st1_cut (a b M : Nat) (hb : b < 256) : st1 (a * 256 + b) (M * 256 + 85) = st1 a M * 256 + st1 b 85 := by
  have h : ∀ t, t < 2 → ∀ b, b < 256 → (t * 128 + b / 2) &&& 85 = b / 2 &&& 85 := by decide +kernel
  unfold st1
  rw [show (a * 256 + b) / 2 = (a / 2) * 256 + (a % 2 * 128 + b / 2) by omega, and_cut _ _ _ _ (by omega) (by omega), and_cut _ _ _ _ hb (by omega), h _ (by omega) _ hb]
  omega
theorem st2_cut (a b M : Nat) (hb : b < 256) : st2 (a * 256 + b) (M * 256 + 51) = st2 a M * 256 + st2 b 51 := by
  have h : ∀ t, t < 4 → ∀ b, b < 256 → (t * 64 + b / 4) &&& 51 = b / 4 &&& 51 := by decide +kernel
  unfold st2
  rw [show (a * 256 + b) / 4 = (a / 4) * 256 + (a % 4 * 64 + b / 4) by omega, and_cut _ _ _ _ (by omega) (by omega), and_cut _ _ _ _ hb (by omega), h _ (by omega) _ hb]
  omega
theorem st3_cut (a b M : Nat) (hb : b < 69) (ha : a % 16 < 5) : st3 (a * 256 + b) (M * 256 + 15) = st3 a M * 256 + st3 b 15 := by
  have h : ∀ t, t < 5 → ∀ b, b < 69 → (t * 16 + b / 16 + b) &&& 15 = (b / 16 + b) &&& 15 := by decide +kernel
  unfold st3
  rw [show (a * 256 + b) / 16 + (a * 256 + b) = (a / 16 + a) * 256 + (a % 16 * 16 + b / 16 + b) by omega, and_cut _ _ _ _ (by omega) (by omega), h _ ha _ hb]
/-- Bytes as a number, the lowest first; and a mask. -/
def nb : List Nat → Nat
  | [] => 0
  | b :: l => nb l * 256 + b
def repB (d : Nat) : Nat → Nat
  | 0 => 0
  | k + 1 => repB d k * 256 + d
theorem st1_nb (l : List Nat) (h : ∀ b ∈ l, b < 256) : st1 (nb l) (repB 85 l.length) = nb (l.map (st1 · 85)) := by
  induction l with
  | nil => rfl
  | cons b l ih => simp only [nb, repB, List.length_cons, List.map_cons]; rw [st1_cut _ _ _ (h b (by simp)), ih fun x hx => h x (by simp [hx])]
theorem st2_nb (l : List Nat) (h : ∀ b ∈ l, b < 256) : st2 (nb l) (repB 51 l.length) = nb (l.map (st2 · 51)) := by
  induction l with
  | nil => rfl
  | cons b l ih => simp only [nb, repB, List.length_cons, List.map_cons]; rw [st2_cut _ _ _ (h b (by simp)), ih fun x hx => h x (by simp [hx])]
theorem st3_nb (l : List Nat) (h : ∀ b ∈ l, b < 69 ∧ b % 16 < 5) : st3 (nb l) (repB 15 l.length) = nb (l.map (st3 · 15)) := by
  induction l with
  | nil => rfl
  | cons b l ih =>
    simp only [nb, repB, List.length_cons, List.map_cons]
    rw [st3_cut _ _ _ (h b (by simp)).1, ih fun x hx => h x (by simp [hx])]
    cases l with
    | nil => simp [nb]
    | cons c l => have := (h c (by simp)).2; simp only [nb]; omega
theorem byte_1 : ∀ b, b < 256 → st1 b 85 < 256 := by decide +kernel
theorem byte_2 : ∀ b, b < 256 → st2 (st1 b 85) 51 < 69 ∧ st2 (st1 b 85) 51 % 16 < 5 := by decide +kernel
theorem byte_3 : ∀ b, b < 256 → st3 (st2 (st1 b 85) 51) 15 = pop b 8 := by decide +kernel
theorem byte_4 : ∀ b, b < 256 → pop b 8 < 9 := by decide +kernel
theorem steps_nb (l : List Nat) (h : ∀ b ∈ l, b < 256) : st3 (st2 (st1 (nb l) (repB 85 l.length)) (repB 51 l.length)) (repB 15 l.length) = nb (l.map (pop · 8)) := by
  rw [st1_nb l h]
  have h2 := st2_nb (l.map (st1 · 85)) (fun b hb => by
    simp only [List.mem_map] at hb
    obtain ⟨a, ha, rfl⟩ := hb
    exact byte_1 a (h a ha))
  rw [List.length_map] at h2
  rw [h2]
  have h3 := st3_nb ((l.map (st1 · 85)).map (st2 · 51)) (fun b hb => by
    simp only [List.mem_map] at hb
    obtain ⟨a, ⟨c, hc, rfl⟩, rfl⟩ := hb
    exact byte_2 c (h c hc))
  rw [List.length_map, List.length_map] at h3
  rw [h3, List.map_map, List.map_map]
  congr 1
  exact List.map_congr_left fun b hb => byte_3 b (h b hb)
def by8 (x : Nat) : List Nat := [x % 256, x / 256 % 256, x / 65536 % 256, x / 16777216 % 256, x / 4294967296 % 256, x / 1099511627776 % 256, x / 281474976710656 % 256, x / 72057594037927936 % 256]
theorem nb_by8 (x : Nat) (h : x < 2 ^ 64) : nb (by8 x) = x := by
  simp only [by8, nb]
  omega
theorem by8_lt (x : Nat) : ∀ b ∈ by8 x, b < 256 := fun b hb => by
  simp only [by8, List.mem_cons, List.not_mem_nil, or_false] at hb
  omega
theorem pop8 (x : Nat) : pop x 8 = pop (x % 256) 8 := (pop_mod x 8).symm
theorem pop_by8 (x : Nat) : pop x 64 = pop (x % 256) 8 + pop (x / 256 % 256) 8 + pop (x / 65536 % 256) 8 + pop (x / 16777216 % 256) 8 + pop (x / 4294967296 % 256) 8 + pop (x / 1099511627776 % 256) 8 + pop (x / 281474976710656 % 256) 8 + pop (x / 72057594037927936 % 256) 8 := by
  rw [show (64 : Nat) = 8 + 8 + 8 + 8 + 8 + 8 + 8 + 8 by rfl]
  simp only [pop_add]
  rw [pop8 x, pop8 (x / 2 ^ 8), pop8 (x / 2 ^ (8 + 8)), pop8 (x / 2 ^ (8 + 8 + 8)), pop8 (x / 2 ^ (8 + 8 + 8 + 8)), pop8 (x / 2 ^ (8 + 8 + 8 + 8 + 8)), pop8 (x / 2 ^ (8 + 8 + 8 + 8 + 8 + 8)), pop8 (x / 2 ^ (8 + 8 + 8 + 8 + 8 + 8 + 8))]
theorem div1 (s0 s1 s2 s3 s4 s5 s6 s7 : Nat) (h0 : s0 < 256) : ((((((((0 * 256 + s7) * 256 + s6) * 256 + s5) * 256 + s4) * 256 + s3) * 256 + s2) * 256 + s1) * 256 + s0) / 256 = ((((((0 * 256 + s7) * 256 + s6) * 256 + s5) * 256 + s4) * 256 + s3) * 256 + s2) * 256 + s1 := by omega
theorem div2 (s0 s1 s2 s3 s4 s5 s6 s7 : Nat) (h0 : s0 < 256) (h1 : s1 < 256) : ((((((((0 * 256 + s7) * 256 + s6) * 256 + s5) * 256 + s4) * 256 + s3) * 256 + s2) * 256 + s1) * 256 + s0) / 65536 = (((((0 * 256 + s7) * 256 + s6) * 256 + s5) * 256 + s4) * 256 + s3) * 256 + s2 := by omega
theorem div4 (s0 s1 s2 s3 s4 s5 s6 s7 : Nat) (h0 : s0 < 256) (h1 : s1 < 256) (h2 : s2 < 256) (h3 : s3 < 256) : ((((((((0 * 256 + s7) * 256 + s6) * 256 + s5) * 256 + s4) * 256 + s3) * 256 + s2) * 256 + s1) * 256 + s0) / 4294967296 = (((0 * 256 + s7) * 256 + s6) * 256 + s5) * 256 + s4 := by omega
theorem fold8 (c0 c1 c2 c3 c4 c5 c6 c7 : Nat) (b0 : c0 < 9) (b1 : c1 < 9) (b2 : c2 < 9) (b3 : c3 < 9) (b4 : c4 < 9) (b5 : c5 < 9) (b6 : c6 < 9) (b7 : c7 < 9) (X3 X4 X5 X6 : Nat)
    (h3 : X3 = (((((((0 * 256 + c7) * 256 + c6) * 256 + c5) * 256 + c4) * 256 + c3) * 256 + c2) * 256 + c1) * 256 + c0) (h4 : X4 = X3 + X3 / 256) (h5 : X5 = X4 + X4 / 65536) (h6 : X6 = X5 + X5 / 4294967296) : X6 % 128 = c0 + c1 + c2 + c3 + c4 + c5 + c6 + c7 ∧ X6 < 2 ^ 61 := by
  have e4 : X4 = (((((((0 * 256 + c7) * 256 + (c6 + c7)) * 256 + (c5 + c6)) * 256 + (c4 + c5)) * 256 + (c3 + c4)) * 256 + (c2 + c3)) * 256 + (c1 + c2)) * 256 + (c0 + c1) := by
    rw [h4, h3, div1 _ _ _ _ _ _ _ _ (by omega)]; omega
  clear h3 h4
  have e5 : X5 = (((((((0 * 256 + c7) * 256 + (c6 + c7)) * 256 + (c5 + c6 + c7)) * 256 + (c4 + c5 + c6 + c7)) * 256 + (c3 + c4 + c5 + c6)) * 256 + (c2 + c3 + c4 + c5)) * 256 + (c1 + c2 + c3 + c4)) * 256 + (c0 + c1 + c2 + c3) := by
    rw [h5, e4, div2 _ _ _ _ _ _ _ _ (by omega) (by omega)]; omega
  clear h5 e4
  have e6 : X6 = (((((((0 * 256 + c7) * 256 + (c6 + c7)) * 256 + (c5 + c6 + c7)) * 256 + (c4 + c5 + c6 + c7)) * 256 + (c3 + c4 + c5 + c6 + c7)) * 256 + (c2 + c3 + c4 + c5 + c6 + c7)) * 256 + (c1 + c2 + c3 + c4 + c5 + c6 + c7)) * 256 + (c0 + c1 + c2 + c3 + c4 + c5 + c6 + c7) := by
    rw [h6, e5, div4 _ _ _ _ _ _ _ _ (by omega) (by omega) (by omega) (by omega)]; omega
  rw [e6]
  constructor <;> omega
/-- The count by halves is the count. -/
theorem swar (x : Nat) (h : x < 2 ^ 64) : ∃ X1 X2 X3 X4 X5 X6 : Nat, X1 = (x / 2 &&& 6148914691236517205) + (x &&& 6148914691236517205) ∧ X2 = (X1 / 4 &&& 3689348814741910323) + (X1 &&& 3689348814741910323) ∧
    X3 = (X2 / 16 + X2) &&& 1085102592571150095 ∧ X4 = X3 + X3 / 256 ∧ X5 = X4 + X4 / 65536 ∧ X6 = X5 + X5 / 4294967296 ∧ X6 % 128 = pop x 64 ∧ X3 ≤ 1085102592571150095 ∧ X6 < 2 ^ 61 := by
  have e := steps_nb (by8 x) (by8_lt x)
  rw [nb_by8 x h] at e
  have r1 : repB 85 (by8 x).length = 6148914691236517205 := by simp [by8, repB]
  have r2 : repB 51 (by8 x).length = 3689348814741910323 := by simp [by8, repB]
  have r3 : repB 15 (by8 x).length = 1085102592571150095 := by simp [by8, repB]
  rw [r1, r2, r3] at e
  simp only [by8, List.map_cons, List.map_nil, nb, st1, st2, st3] at e
  have f := fold8 _ _ _ _ _ _ _ _ (byte_4 (x % 256) (by omega)) (byte_4 (x / 256 % 256) (by omega)) (byte_4 (x / 65536 % 256) (by omega)) (byte_4 (x / 16777216 % 256) (by omega)) (byte_4 (x / 4294967296 % 256) (by omega)) (byte_4 (x / 1099511627776 % 256) (by omega)) (byte_4 (x / 281474976710656 % 256) (by omega)) (byte_4 (x / 72057594037927936 % 256) (by omega)) _ _ _ _ e rfl rfl rfl
  exact ⟨_, _, _, _, _, _, rfl, rfl, rfl, rfl, rfl, rfl, by rw [pop_by8]; exact f.1, Nat.and_le_right, f.2⟩
end Go.Proofs.Ytcefohjddbjcjaa
namespace Go.Proofs.Ytcefohjddbjcjaa
open Go.RowKit
set_option linter.unusedVariables false

end Go.Proofs.Ytcefohjddbjcjaa
namespace Go.Proofs.Ytcefohjddbjcjaa
open Go.RowKit
set_option linter.unusedVariables false

theorem pop_le (x k : Nat) : pop x k ≤ k := by
  induction k with
  | zero => exact Nat.le_refl _
  | succ k ih =>
    rw [pop_add]
    have : pop (x / 2 ^ k) 1 ≤ 1 := by
      simp only [pop, numL, List.range_succ, List.range_zero, List.nil_append, List.map_cons, List.map_nil, List.sum_cons, List.sum_nil]
      omega
    omega
theorem pop_words (V k : Nat) : pop V (64 * (k + 1)) = pop V (64 * k) + pop (wd V k) 64 := by
  rw [Nat.mul_add, Nat.mul_one, pop_add]
  unfold wd
  rw [pop_mod]
theorem pop_all {V n m : Nat} (h : V < 2 ^ n) (hn : n ≤ m) : pop V m = pop V n := by
  obtain ⟨d, rfl⟩ := Nat.exists_eq_add_of_le hn
  rw [pop_add, Nat.div_eq_of_lt h, pop_zero, Nat.add_zero]
theorem pop_val {l : List Nat} (h : Bin l) : pop (val l) l.length = l.sum := by
  unfold pop
  rw [numL_val h _ (Nat.le_refl _), List.take_of_length_le (Nat.le_refl _)]
theorem sum_next (l : List Nat) (k : Nat) (h : k < l.length) : (l.take (k + 1)).sum = (l.take k).sum + l.getD k 0 := by
  rw [← List.take_append_getElem h, List.sum_append, List.getD_eq_getElem?_getD, List.getElem?_eq_getElem h]; simp
theorem sum_le {l : List Nat} (h : Bin l) (k : Nat) : (l.take k).sum ≤ k := by
  induction k with
  | zero => simp
  | succ k ih =>
    by_cases hk : k < l.length
    · rw [sum_next l k hk]; have := h.getD k; omega
    · rw [List.take_of_length_le (by omega)] at ih ⊢; omega
end Go.Proofs.Ytcefohjddbjcjaa
namespace Go.Proofs.Ytcefohjddbjcjaa
open Go.RowKit
set_option linter.unusedVariables false
end Go.Proofs.Ytcefohjddbjcjaa
namespace Go.Proofs.Ytcefohjddbjcjaa
open Go.RowKit
set_option linter.unusedVariables false

theorem awake_text : textOf (numL 6 4) = ⟨#[48, 49, 49, 48]⟩ := by decide +kernel
end Go.Proofs.Ytcefohjddbjcjaa
namespace Go.Proofs.Ytcefohjddbjcjaa
open Go.RowKit
set_option linter.unusedVariables false

end Go.Proofs.Ytcefohjddbjcjaa

namespace Go.Proofs.Ytcefohjddbjcjaa
open Go.RowKit
set_option linter.unusedVariables false
/-- A vector that a call has made. -/
def NewVec (w : World) (l : List Nat) (e : Ending) (w' : World) : Prop :=
  ∃ g A, e = .returned (.pointer (some ⟨g, 0, none⟩)) ∧ VecAt w' g (val l) l.length A ∧ w.heap.size ≤ g ∧ Below w.heap.size w w'
end Go.Proofs.Ytcefohjddbjcjaa

namespace Go.Proofs.Ytcefohjddbjcjaa
open Go.RowKit
set_option linter.unusedVariables false

theorem min_64 (n i : Nat) (hi : 64 * i < n) (hn : n ≤ 1000000) : ∃ s : Nat, Hid (s = min 64 (n - 64 * i)) ∧ 1 ≤ s ∧ s ≤ 64 ∧ ∀ w, (Builtin.min_ #[3, 3] 3 #[.int .i64 64, .int .i64 ((n : Int) - (i : Int) * 64)]).run Try.prog w = .ok (.int .i64 (s : Int)) w := by
  refine ⟨min 64 (n - 64 * i), rfl, by omega, by omega, fun w => ?_⟩
  simp [Builtin.min_, Builtin.min2]
  repeat' split
  all_goals omega
theorem at_nilB (w : World) :
    Calls Try.prog 48 #[.pointer none, .int .i64 0] w fun e w' => e = .returned (.int .i64 (-1)) ∧ w = w' :=
  at_outB none 0 0 w (by omega) (.inr (by omega)) (blen_nil w)
set_option maxHeartbeats 1000000 in
theorem bytes_nil (w : World) :
    Calls Try.prog 22 #[.pointer none] w fun e w' => ∃ A c, e = .returned (.slice A 0 c) ∧ Below w.heap.size w w' := by
  have L := Lib.hid (blen_nil w)
  obtain ⟨m, hm⟩ : ∃ m : Nat, Hid (m = 0) := ⟨0, rfl⟩
  have BF : Hid (Calls Try.prog 33 #[.int .i64 0] w fun e w' => e = .returned (.int .i64 (m : Int)) ∧ w = w') := by rw [hm.out]; exact bytesFor_p 0 w (by omega)
  obtain ⟨i0, hi0, hz0, hz1, hz2⟩ := info_parts info_u8
  have hmk := run_make_one (P := Try.prog) 23 5 i0 (.int .u8 0) 1 Try.underlying23 hi0 hz0 hz1 hz2 rfl .i64 .i64 m (by rw [hm.out]; omega) (by rw [hm.out]; omega)
  have hm9 : m ≤ 1000000 := by rw [hm.out]; omega
  go_enter Try.func22, Try.ntmps22
  go_wp2_with (first
    | (go_at_call 21; refine L.out.mono ?_; rintro e w' ⟨rfl, rfl⟩)
    | (go_at_call 33; refine BF.out.mono ?_; rintro e w' ⟨rfl, rfl⟩))
  go_loopw [12] (fun i wr => i = .int .i64 0 ∧ Below w.heap.size w wr) (fun i _ => 0)
  case atStart => exact ⟨rfl, (Below.refl _ _).alloc (Nat.le_refl _) _⟩
  case round =>
    obtain ⟨rfl, hbl⟩ := hrel
    obtain rfl : m = 0 := hm.out
    go_wp2_with fail
    go_ret
    exact ⟨⟨_, _, rfl⟩, hbl⟩
end Go.Proofs.Ytcefohjddbjcjaa

