/- How many ones a number has, and the count by halves that the library makes; no program in sight. Same: two vectors, nil or not. Few, Add, of: bits out of bytes, and a vector of them. Add: bits put behind one by one; of: a vector of bits. Read, and what a reader answers. Ones: the library's count of one word, the vector's, the document's. An index of bits as it lies in memory; what it answers without its directory. sync.Once in one goroutine: its parts; Do, when it has been done. build: the directory is made. build: sync.Once calls it, the first time. Rank: what stands ahead of a place. Rank; At; how many there are of a bit; what stands ahead of a block. The place of a word's one with so many ones ahead of it. What else the index answers without its directory. How many are ahead of a block; how many in all. place: where the bit stands that has so many ahead of it. -/
import Derived.Test.YthkocodajjapmaaZg4
import Derived.Deep.QuietTactic
import Derived.BigQuiet
import Derived.Deep.RegionWith
import Derived.Deep.RegionLaw
import Derived.Laws.BitsAllLaws
import Derived.Laws.Bits128
import Derived.Laws.LoneSync
import Derived.Laws.Pointers
import Derived.Defers
import Derived.RegionCalls
import Derived.ChangeAlike
import Derived.Deep.AppendLies
import Derived.Deep.DeepCutAuto
import Derived.Shelf.Spec.TrailingZeros
namespace Go.Proofs.Ythkocodajjapmaa
set_option linter.unusedVariables false

/-- How many of the k lowest bits are ones. -/
def pop (x k : Nat) : Nat := (numL x k).sum
theorem numL_add (x a b : Nat) : numL x (a + b) = numL x a ++ numL (x / 2 ^ a) b := by
  simp only [numL, List.range_add, List.map_append, List.map_map]
  congr 1
  refine List.map_congr_left fun i _ => ?_
  simp only [Function.comp]
  rw [Nat.pow_add, Nat.div_div_eq_div_mul]
theorem pop_add (x a b : Nat) : pop x (a + b) = pop x a + pop (x / 2 ^ a) b := by
  unfold pop
  rw [numL_add, List.sum_append]
theorem numL_mod (x k : Nat) : numL (x % 2 ^ k) k = numL x k := by
  refine List.map_congr_left fun i hi => ?_
  rw [List.mem_range] at hi
  have h : (x % 2 ^ k).testBit i = x.testBit i := by rw [Nat.testBit_mod_two_pow]; simp [hi]
  rw [Nat.testBit_eq_decide_div_mod_eq, Nat.testBit_eq_decide_div_mod_eq, decide_eq_decide] at h
  omega
theorem pop_mod (x k : Nat) : pop (x % 2 ^ k) k = pop x k := by unfold pop; rw [numL_mod]
theorem pop_zero (k : Nat) : pop 0 k = 0 := by
  unfold pop numL
  induction k with
  | zero => rfl
  | succ k ih => rw [List.range_succ, List.map_append, List.sum_append, ih]; simp
theorem pop_one (x : Nat) : pop x 0 = 0 := rfl
theorem and_cut (a b c d : Nat) (hb : b < 256) (hd : d < 256) : (a * 256 + b) &&& (c * 256 + d) = (a &&& c) * 256 + (b &&& d) := by
  have hbd : b &&& d < 2 ^ 8 := Nat.and_lt_two_pow b hd
  have e : ∀ u v : Nat, u * 256 + v = 2 ^ 8 * u + v := fun u v => by omega
  rw [e a b, e c d, e _ _]
  apply Nat.eq_of_testBit_eq
  intro j
  rw [Nat.testBit_and, Nat.testBit_two_pow_mul_add a (i := 8) hb, Nat.testBit_two_pow_mul_add c (i := 8) hd, Nat.testBit_two_pow_mul_add (a &&& c) (i := 8) hbd]
  by_cases hj : j < 8
  · simp [hj, Nat.testBit_and]
  · simp [hj, Nat.testBit_and]

def st1 (x M : Nat) : Nat := (x / 2 &&& M) + (x &&& M)
def st2 (x M : Nat) : Nat := (x / 4 &&& M) + (x &&& M)
def st3 (x M : Nat) : Nat := (x / 16 + x) &&& M
theorem st1_cut (a b M : Nat) (hb : b < 256) : st1 (a * 256 + b) (M * 256 + 85) = st1 a M * 256 + st1 b 85 := by
  have h : ∀ t, t < 2 → ∀ b, b < 256 → (t * 128 + b / 2) &&& 85 = b / 2 &&& 85 := by decide +kernel
  unfold st1
  rw [show (a * 256 + b) / 2 = (a / 2) * 256 + (a % 2 * 128 + b / 2) by omega, and_cut _ _ _ _ (by omega) (by omega), and_cut _ _ _ _ hb (by omega), h _ (by omega) _ hb]
  omega
theorem st2_cut (a b M : Nat) (hb : b < 256) : st2 (a * 256 + b) (M * 256 + 51) = st2 a M * 256 + st2 b 51 := by
  have h : ∀ t, t < 4 → ∀ b, b < 256 → (t * 64 + b / 4) &&& 51 = b / 4 &&& 51 := by decide +kernel
  unfold st2
  rw [show (a * 256 + b) / 4 = (a / 4) * 256 + (a % 4 * 64 + b / 4) by omega, and_cut _ _ _ _ (by omega) (by omega), and_cut _ _ _ _ hb (by omega), h _ (by omega) _ hb]
  omega
theorem st3_cut (a b M : Nat) (hb : b < 69) (ha : a % 16 < 5) : st3 (a * 256 + b) (M * 256 + 15) = st3 a M * 256 + st3 b 15 := by
  have h : ∀ t, t < 5 → ∀ b, b < 69 → (t * 16 + b / 16 + b) &&& 15 = (b / 16 + b) &&& 15 := by decide +kernel
  unfold st3
  rw [show (a * 256 + b) / 16 + (a * 256 + b) = (a / 16 + a) * 256 + (a % 16 * 16 + b / 16 + b) by omega, and_cut _ _ _ _ (by omega) (by omega), h _ ha _ hb]
/-- Bytes as a number, the lowest first; and a mask. -/
def nb : List Nat → Nat
  | [] => 0
  | b :: l => nb l * 256 + b
def repB (d : Nat) : Nat → Nat
  | 0 => 0
  | k + 1 => repB d k * 256 + d
theorem st1_nb (l : List Nat) (h : ∀ b ∈ l, b < 256) : st1 (nb l) (repB 85 l.length) = nb (l.map (st1 · 85)) := by
  induction l with
  | nil => rfl
  | cons b l ih => simp only [nb, repB, List.length_cons, List.map_cons]; rw [st1_cut _ _ _ (h b (by simp)), ih fun x hx => h x (by simp [hx])]
theorem st2_nb (l : List Nat) (h : ∀ b ∈ l, b < 256) : st2 (nb l) (repB 51 l.length) = nb (l.map (st2 · 51)) := by
  induction l with
  | nil => rfl
  | cons b l ih => simp only [nb, repB, List.length_cons, List.map_cons]; rw [st2_cut _ _ _ (h b (by simp)), ih fun x hx => h x (by simp [hx])]
theorem st3_nb (l : List Nat) (h : ∀ b ∈ l, b < 69 ∧ b % 16 < 5) : st3 (nb l) (repB 15 l.length) = nb (l.map (st3 · 15)) := by
  induction l with
  | nil => rfl
  | cons b l ih =>
    simp only [nb, repB, List.length_cons, List.map_cons]
    rw [st3_cut _ _ _ (h b (by simp)).1, ih fun x hx => h x (by simp [hx])]
    cases l with
    | nil => simp [nb]
    | cons c l => have := (h c (by simp)).2; simp only [nb]; omega
theorem byte_1 : ∀ b, b < 256 → st1 b 85 < 256 := by decide +kernel
theorem byte_2 : ∀ b, b < 256 → st2 (st1 b 85) 51 < 69 ∧ st2 (st1 b 85) 51 % 16 < 5 := by decide +kernel
theorem byte_3 : ∀ b, b < 256 → st3 (st2 (st1 b 85) 51) 15 = pop b 8 := by decide +kernel
theorem byte_4 : ∀ b, b < 256 → pop b 8 < 9 := by decide +kernel
theorem steps_nb (l : List Nat) (h : ∀ b ∈ l, b < 256) : st3 (st2 (st1 (nb l) (repB 85 l.length)) (repB 51 l.length)) (repB 15 l.length) = nb (l.map (pop · 8)) := by
  rw [st1_nb l h]
  have h2 := st2_nb (l.map (st1 · 85)) (fun b hb => by
    simp only [List.mem_map] at hb
    obtain ⟨a, ha, rfl⟩ := hb
    exact byte_1 a (h a ha))
  rw [List.length_map] at h2
  rw [h2]
  have h3 := st3_nb ((l.map (st1 · 85)).map (st2 · 51)) (fun b hb => by
    simp only [List.mem_map] at hb
    obtain ⟨a, ⟨c, hc, rfl⟩, rfl⟩ := hb
    exact byte_2 c (h c hc))
  rw [List.length_map, List.length_map] at h3
  rw [h3, List.map_map, List.map_map]
  congr 1
  exact List.map_congr_left fun b hb => byte_3 b (h b hb)
def by8 (x : Nat) : List Nat := [x % 256, x / 256 % 256, x / 65536 % 256, x / 16777216 % 256, x / 4294967296 % 256, x / 1099511627776 % 256, x / 281474976710656 % 256, x / 72057594037927936 % 256]
theorem nb_by8 (x : Nat) (h : x < 2 ^ 64) : nb (by8 x) = x := by
  simp only [by8, nb]
  omega
theorem by8_lt (x : Nat) : ∀ b ∈ by8 x, b < 256 := fun b hb => by
  simp only [by8, List.mem_cons, List.not_mem_nil, or_false] at hb
  omega
theorem pop8 (x : Nat) : pop x 8 = pop (x % 256) 8 := (pop_mod x 8).symm
theorem pop_by8 (x : Nat) : pop x 64 = pop (x % 256) 8 + pop (x / 256 % 256) 8 + pop (x / 65536 % 256) 8 + pop (x / 16777216 % 256) 8 + pop (x / 4294967296 % 256) 8 + pop (x / 1099511627776 % 256) 8 + pop (x / 281474976710656 % 256) 8 + pop (x / 72057594037927936 % 256) 8 := by
  rw [show (64 : Nat) = 8 + 8 + 8 + 8 + 8 + 8 + 8 + 8 by rfl]
  simp only [pop_add]
  rw [pop8 x, pop8 (x / 2 ^ 8), pop8 (x / 2 ^ (8 + 8)), pop8 (x / 2 ^ (8 + 8 + 8)), pop8 (x / 2 ^ (8 + 8 + 8 + 8)), pop8 (x / 2 ^ (8 + 8 + 8 + 8 + 8)), pop8 (x / 2 ^ (8 + 8 + 8 + 8 + 8 + 8)), pop8 (x / 2 ^ (8 + 8 + 8 + 8 + 8 + 8 + 8))]
theorem div1 (s0 s1 s2 s3 s4 s5 s6 s7 : Nat) (h0 : s0 < 256) : ((((((((0 * 256 + s7) * 256 + s6) * 256 + s5) * 256 + s4) * 256 + s3) * 256 + s2) * 256 + s1) * 256 + s0) / 256 = ((((((0 * 256 + s7) * 256 + s6) * 256 + s5) * 256 + s4) * 256 + s3) * 256 + s2) * 256 + s1 := by omega
theorem div2 (s0 s1 s2 s3 s4 s5 s6 s7 : Nat) (h0 : s0 < 256) (h1 : s1 < 256) : ((((((((0 * 256 + s7) * 256 + s6) * 256 + s5) * 256 + s4) * 256 + s3) * 256 + s2) * 256 + s1) * 256 + s0) / 65536 = (((((0 * 256 + s7) * 256 + s6) * 256 + s5) * 256 + s4) * 256 + s3) * 256 + s2 := by omega
theorem div4 (s0 s1 s2 s3 s4 s5 s6 s7 : Nat) (h0 : s0 < 256) (h1 : s1 < 256) (h2 : s2 < 256) (h3 : s3 < 256) : ((((((((0 * 256 + s7) * 256 + s6) * 256 + s5) * 256 + s4) * 256 + s3) * 256 + s2) * 256 + s1) * 256 + s0) / 4294967296 = (((0 * 256 + s7) * 256 + s6) * 256 + s5) * 256 + s4 := by omega
theorem fold8 (c0 c1 c2 c3 c4 c5 c6 c7 : Nat) (b0 : c0 < 9) (b1 : c1 < 9) (b2 : c2 < 9) (b3 : c3 < 9) (b4 : c4 < 9) (b5 : c5 < 9) (b6 : c6 < 9) (b7 : c7 < 9) (X3 X4 X5 X6 : Nat)
    (h3 : X3 = (((((((0 * 256 + c7) * 256 + c6) * 256 + c5) * 256 + c4) * 256 + c3) * 256 + c2) * 256 + c1) * 256 + c0) (h4 : X4 = X3 + X3 / 256) (h5 : X5 = X4 + X4 / 65536) (h6 : X6 = X5 + X5 / 4294967296) : X6 % 128 = c0 + c1 + c2 + c3 + c4 + c5 + c6 + c7 ∧ X6 < 2 ^ 61 := by
  have e4 : X4 = (((((((0 * 256 + c7) * 256 + (c6 + c7)) * 256 + (c5 + c6)) * 256 + (c4 + c5)) * 256 + (c3 + c4)) * 256 + (c2 + c3)) * 256 + (c1 + c2)) * 256 + (c0 + c1) := by
    rw [h4, h3, div1 _ _ _ _ _ _ _ _ (by omega)]; omega
  clear h3 h4
  have e5 : X5 = (((((((0 * 256 + c7) * 256 + (c6 + c7)) * 256 + (c5 + c6 + c7)) * 256 + (c4 + c5 + c6 + c7)) * 256 + (c3 + c4 + c5 + c6)) * 256 + (c2 + c3 + c4 + c5)) * 256 + (c1 + c2 + c3 + c4)) * 256 + (c0 + c1 + c2 + c3) := by
    rw [h5, e4, div2 _ _ _ _ _ _ _ _ (by omega) (by omega)]; omega
  clear h5 e4
  have e6 : X6 = (((((((0 * 256 + c7) * 256 + (c6 + c7)) * 256 + (c5 + c6 + c7)) * 256 + (c4 + c5 + c6 + c7)) * 256 + (c3 + c4 + c5 + c6 + c7)) * 256 + (c2 + c3 + c4 + c5 + c6 + c7)) * 256 + (c1 + c2 + c3 + c4 + c5 + c6 + c7)) * 256 + (c0 + c1 + c2 + c3 + c4 + c5 + c6 + c7) := by
    rw [h6, e5, div4 _ _ _ _ _ _ _ _ (by omega) (by omega) (by omega) (by omega)]; omega
  rw [e6]
  constructor <;> omega
/-- The count by halves is the count. -/
theorem swar (x : Nat) (h : x < 2 ^ 64) : ∃ X1 X2 X3 X4 X5 X6 : Nat, X1 = (x / 2 &&& 6148914691236517205) + (x &&& 6148914691236517205) ∧ X2 = (X1 / 4 &&& 3689348814741910323) + (X1 &&& 3689348814741910323) ∧
    X3 = (X2 / 16 + X2) &&& 1085102592571150095 ∧ X4 = X3 + X3 / 256 ∧ X5 = X4 + X4 / 65536 ∧ X6 = X5 + X5 / 4294967296 ∧ X6 % 128 = pop x 64 ∧ X3 ≤ 1085102592571150095 ∧ X6 < 2 ^ 61 := by
  have e := steps_nb (by8 x) (by8_lt x)
  rw [nb_by8 x h] at e
  have r1 : repB 85 (by8 x).length = 6148914691236517205 := by simp [by8, repB]
  have r2 : repB 51 (by8 x).length = 3689348814741910323 := by simp [by8, repB]
  have r3 : repB 15 (by8 x).length = 1085102592571150095 := by simp [by8, repB]
  rw [r1, r2, r3] at e
  simp only [by8, List.map_cons, List.map_nil, nb, st1, st2, st3] at e
  have f := fold8 _ _ _ _ _ _ _ _ (byte_4 (x % 256) (by omega)) (byte_4 (x / 256 % 256) (by omega)) (byte_4 (x / 65536 % 256) (by omega)) (byte_4 (x / 16777216 % 256) (by omega)) (byte_4 (x / 4294967296 % 256) (by omega)) (byte_4 (x / 1099511627776 % 256) (by omega)) (byte_4 (x / 281474976710656 % 256) (by omega)) (byte_4 (x / 72057594037927936 % 256) (by omega)) _ _ _ _ e rfl rfl rfl
  exact ⟨_, _, _, _, _, _, rfl, rfl, rfl, rfl, rfl, rfl, by rw [pop_by8]; exact f.1, Nat.and_le_right, f.2⟩
end Go.Proofs.Ythkocodajjapmaa
namespace Go.Proofs.Ythkocodajjapmaa
open Go.RowKit
set_option linter.unusedVariables false

theorem words_inj {V U n m : Nat} (hV : V < 2 ^ n) (hU : U < 2 ^ n) (hm : n ≤ 64 * m) (h : words V m = words U m) : V = U := by
  apply Nat.eq_of_testBit_eq
  intro j
  by_cases hj : j < n
  · have h1 : wd V (j / 64) = wd U (j / 64) := by
      have := congrArg (fun l => l.getD (j / 64) 0) h
      rwa [words_get _ _ _ (by omega), words_get _ _ _ (by omega)] at this
    have h2 := wd_bit V (j / 64) (j % 64)
    have h3 := wd_bit U (j / 64) (j % 64)
    have hl : j % 64 < 64 := by omega
    rw [show 64 * (j / 64) + j % 64 = j by omega] at h2 h3
    simp only [hl, decide_true, Bool.true_and] at h2 h3
    rw [← h2, ← h3, h1]
  · rw [Nat.testBit_lt_two_pow (Nat.lt_of_lt_of_le hV (Nat.pow_le_pow_right (by omega) (by omega))), Nat.testBit_lt_two_pow (Nat.lt_of_lt_of_le hU (Nat.pow_le_pow_right (by omega) (by omega)))]
theorem VecB.drewN {w : World} {B g V n : Nat} {A : Option Addr} (h : VecB w B g V n A) (k : Nat) : VecB (w.drewN k) B g V n A := h.below (below_draws (Below.refl _ _) k)

end Go.Proofs.Ythkocodajjapmaa
namespace Go.Proofs.Ythkocodajjapmaa
open Go.RowKit
set_option linter.unusedVariables false

theorem NumPost.trans {w w1 w2 : World} {g V2 n2 : Nat} {A A1 : Option Addr} {e' : Ending} (m : Mod (foot g A) w w1) (ha : A1 = A ∨ ∃ b, A1 = some ⟨b, 0, none⟩ ∧ w.heap.size ≤ b)
    (p : NumPost w1 g V2 n2 A1 e' w2) : NumPost w g V2 n2 A e' w2 := by
  obtain ⟨he, A2, h1, m2, h2⟩ := p
  refine ⟨he, A2, h1, m.trans m2 fun i hi hf => ?_, ?_⟩
  · rcases hf with rfl | ⟨b, rfl, rfl⟩
    · exact .inl rfl
    · rcases ha with rfl | ⟨b', e, hb⟩
      · exact .inr ⟨_, rfl, rfl⟩
      · have : i = b' := (Addr.mk.inj (Option.some.inj e)).1
        omega
  · rcases h2 with rfl | ⟨b, rfl, hb⟩
    · exact ha
    · exact .inr ⟨b, rfl, Nat.le_trans m.size hb⟩

end Go.Proofs.Ythkocodajjapmaa
namespace Go.Proofs.Ythkocodajjapmaa
open Go.RowKit
set_option linter.unusedVariables false

theorem take_next {α : Type} [Inhabited α] (l : List Int) (k : Nat) (h : k < l.length) : l.take (k + 1) = l.take k ++ [l.getD k 0] := by
  rw [← List.take_append_getElem h, List.getD_eq_getElem?_getD, List.getElem?_eq_getElem h]; rfl
theorem bits_next (l : List Nat) (z : List Int) (k : Nat) (h : k < z.length) : l ++ (z.take (k + 1)).map bit1 = (l ++ (z.take k).map bit1) ++ [bit1 (z.getD k 0)] := by
  rw [take_next (α := Nat) z k h, List.map_append, List.append_assoc]; rfl

end Go.Proofs.Ythkocodajjapmaa
namespace Go.Proofs.Ythkocodajjapmaa
open Go.RowKit
set_option linter.unusedVariables false

end Go.Proofs.Ythkocodajjapmaa
namespace Go.Proofs.Ythkocodajjapmaa
open Go.RowKit
set_option linter.unusedVariables false

theorem pop_le (x k : Nat) : pop x k ≤ k := by
  induction k with
  | zero => exact Nat.le_refl _
  | succ k ih =>
    rw [pop_add]
    have : pop (x / 2 ^ k) 1 ≤ 1 := by
      simp only [pop, numL, List.range_succ, List.range_zero, List.nil_append, List.map_cons, List.map_nil, List.sum_cons, List.sum_nil]
      omega
    omega
theorem pop_words (V k : Nat) : pop V (64 * (k + 1)) = pop V (64 * k) + pop (wd V k) 64 := by
  rw [Nat.mul_add, Nat.mul_one, pop_add]
  unfold wd
  rw [pop_mod]
theorem pop_all {V n m : Nat} (h : V < 2 ^ n) (hn : n ≤ m) : pop V m = pop V n := by
  obtain ⟨d, rfl⟩ := Nat.exists_eq_add_of_le hn
  rw [pop_add, Nat.div_eq_of_lt h, pop_zero, Nat.add_zero]
theorem pop_val {l : List Nat} (h : Bin l) : pop (val l) l.length = l.sum := by
  unfold pop
  rw [numL_val h _ (Nat.le_refl _), List.take_of_length_le (Nat.le_refl _)]
theorem sum_next (l : List Nat) (k : Nat) (h : k < l.length) : (l.take (k + 1)).sum = (l.take k).sum + l.getD k 0 := by
  rw [← List.take_append_getElem h, List.sum_append, List.getD_eq_getElem?_getD, List.getElem?_eq_getElem h]; simp
theorem sum_le {l : List Nat} (h : Bin l) (k : Nat) : (l.take k).sum ≤ k := by
  induction k with
  | zero => simp
  | succ k ih =>
    by_cases hk : k < l.length
    · rw [sum_next l k hk]; have := h.getD k; omega
    · rw [List.take_of_length_le (by omega)] at ih ⊢; omega
end Go.Proofs.Ythkocodajjapmaa
namespace Go.Proofs.Ythkocodajjapmaa
open Go.RowKit
set_option linter.unusedVariables false

def U32 (z : List Nat) : List Value := z.map fun (x : Nat) => Value.int .u32 (x : Int)
theorem U32_len (z : List Nat) : (U32 z).length = z.length := by simp [U32]
theorem U32_append (l m : List Nat) : U32 (l ++ m) = U32 l ++ U32 m := by simp [U32]
theorem U32_get (z : List Nat) (k : Nat) (hk : k < z.length) : (U32 z)[k]? = some (.int .u32 ((z.getD k 0 : Nat) : Int)) := by
  simp [U32, List.getD_eq_getElem?_getD, List.getElem?_eq_getElem hk]
theorem U32_one (z : List Nat) : ∀ u ∈ U32 z, u.oneCell' = true := by
  intro u hu
  simp only [U32, List.mem_map] at hu
  obtain ⟨b, _, rfl⟩ := hu
  rfl
/-- How many blocks n bits are. -/
def blk (n : Nat) : Nat := (n + 511) / 512
/-- How many ones are ahead of each of k blocks. -/
def aheadL (V k : Nat) : List Nat := (List.range k).map fun j => pop V (512 * j)
theorem aheadL_len (V k : Nat) : (aheadL V k).length = k := by simp [aheadL]
theorem aheadL_get (V k j : Nat) (h : j < k) : (aheadL V k).getD j 0 = pop V (512 * j) := by simp [aheadL, List.getD_eq_getElem?_getD, h]
theorem aheadL_next (V k : Nat) : aheadL V (k + 1) = aheadL V k ++ [pop V (512 * k)] := by simp [aheadL, List.range_succ]
def b01 (d : Bool) : Int := if d then 1 else 0
/-- Whether the directory is there, and what it is. -/
def DirAt (w : World) (g V n : Nat) (d : Bool) (H : Value) : Prop :=
  match d with
  | false => H = .slice none 0 0
  | true => ∃ S c, H = .slice S (blk n + 1) c ∧ w.ownsRow (g + 1) 120 1 (.slice S (blk n + 1) c) (blk n + 1) (U32 (aheadL V (blk n + 1)))
theorem DirAt.below {w w' : World} {g V n : Nat} {d : Bool} {H : Value} (h : DirAt w g V n d H) (m : Below w.heap.size w w') : DirAt w' g V n d H := by
  cases d with
  | false => exact h
  | true => obtain ⟨S, c, e, ho⟩ := h; exact ⟨S, c, e, own_below ho m⟩
/-! ### sync/atomic -/
/-! ### what the index answers without its directory -/
section
variable (g V n q : Nat) (d : Bool) (w : World)
end
end Go.Proofs.Ythkocodajjapmaa
namespace Go.Proofs.Ythkocodajjapmaa
open Go.RowKit
set_option linter.unusedVariables false

end Go.Proofs.Ythkocodajjapmaa
namespace Go.Proofs.Ythkocodajjapmaa
open Go.RowKit
set_option linter.unusedVariables false

theorem info_u32 : (Try.prog.info? 120).map (fun i => (i.zero, i.size, i.bytes)) = some (some (.int .u32 0), 1, 4) := by kernel_rfl
theorem pop_block {V n : Nat} (h : V < 2 ^ n) : pop V (512 * blk n) = pop V n := pop_all h (by unfold blk; omega)
end Go.Proofs.Ythkocodajjapmaa
namespace Go.Proofs.Ythkocodajjapmaa
open Go.RowKit
set_option linter.unusedVariables false

end Go.Proofs.Ythkocodajjapmaa
namespace Go.Proofs.Ythkocodajjapmaa
open Go.RowKit
set_option linter.unusedVariables false

theorem pop_le_mod (x r : Nat) (h : r ≤ 64) : pop (x % 2 ^ 64) r = pop x r := by
  rw [← pop_mod (x % 2 ^ 64) r, ← pop_mod x r, Nat.mod_mod_of_dvd _ (Nat.pow_dvd_pow 2 h)]
theorem pop_part (V a r : Nat) (h : r ≤ 64) : pop V (64 * a + r) = pop V (64 * a) + pop (wd V a) r := by
  rw [pop_add]
  unfold wd
  rw [pop_le_mod _ _ h]
theorem pop_shl (x s : Nat) (h : s ≤ 64) : pop (x * 2 ^ s % 2 ^ 64) 64 = pop x (64 - s) := by
  rw [pop_mod]
  have : pop (x * 2 ^ s) (s + (64 - s)) = pop (x * 2 ^ s) s + pop (x * 2 ^ s / 2 ^ s) (64 - s) := pop_add _ _ _
  rw [show s + (64 - s) = 64 by omega] at this
  rw [this, Nat.mul_div_cancel _ (Nat.two_pow_pos s), ← pop_mod (x * 2 ^ s) s, Nat.mul_mod_left, pop_zero, Nat.zero_add]
/-- How many of the first i bits are bit. -/
def cb (bit : Int) (V i : Nat) : Nat := if bit = 0 then i - pop V i else pop V i
end Go.Proofs.Ythkocodajjapmaa
namespace Go.Proofs.Ythkocodajjapmaa
open Go.RowKit
set_option linter.unusedVariables false

theorem cb_le (bit : Int) (V i : Nat) : cb bit V i ≤ i := by
  unfold cb
  split
  · omega
  · exact pop_le V i
theorem min_len (a n : Nat) (ha : a ≤ 2000000) (hn : n ≤ 1000000) : ∀ w, (Builtin.min_ #[3, 3] 3 #[.int .i64 (a : Int), .int .i64 (n : Int)]).run Try.prog w = .ok (.int .i64 ((min a n : Nat) : Int)) w := fun w => by
  simp [Builtin.min_, Builtin.min2]
  repeat' split
  all_goals omega
/-! ### Rank -/
end Go.Proofs.Ythkocodajjapmaa
namespace Go.Proofs.Ythkocodajjapmaa
open Go.RowKit
set_option linter.unusedVariables false

theorem pop_next (x i : Nat) : pop x (i + 1) = pop x i + x / 2 ^ i % 2 := by
  rw [pop_add]
  congr 1
  simp [pop, numL, List.range_succ]
theorem pop_bit1 {x i : Nat} (h : x.testBit i = true) : pop x (i + 1) = pop x i + 1 := by
  rw [pop_next]
  rw [Nat.testBit_eq_decide_div_mod_eq, decide_eq_true_iff] at h
  rw [h]
theorem pop_mono (x : Nat) {a b : Nat} (h : a ≤ b) : pop x a ≤ pop x b := by
  obtain ⟨d, rfl⟩ : ∃ d, b = a + d := ⟨b - a, by omega⟩
  rw [pop_add]; omega
/-- There is a one with just so many ahead. -/
theorem one_at (x j : Nat) : ∀ c, j < pop x c → ∃ i, i < c ∧ x.testBit i = true ∧ pop x i = j := by
  intro c
  induction c with
  | zero => intro h; simp [pop, numL] at h
  | succ c ih =>
    intro h
    by_cases hb : x.testBit c = true
    · rw [pop_bit1 hb] at h
      by_cases he : pop x c = j
      · exact ⟨c, by omega, hb, he⟩
      · obtain ⟨i, h1, h2, h3⟩ := ih (by omega)
        exact ⟨i, by omega, h2, h3⟩
    · have : pop x (c + 1) = pop x c := by
        rw [pop_next]
        rw [Nat.testBit_eq_decide_div_mod_eq, decide_eq_true_iff] at hb
        omega
      rw [this] at h
      obtain ⟨i, h1, h2, h3⟩ := ih h
      exact ⟨i, by omega, h2, h3⟩
theorem one_unique {x i c : Nat} (hi : x.testBit i = true) (hc : x.testBit c = true) (he : pop x i = pop x c) : i = c := by
  rcases Nat.lt_trichotomy i c with h | h | h
  · have h1 := pop_mono x (show i + 1 ≤ c by omega)
    rw [pop_bit1 hi] at h1; omega
  · exact h
  · have h1 := pop_mono x (show c + 1 ≤ i by omega)
    rw [pop_bit1 hc] at h1; omega
/-- The word without its lowest one. -/
theorem clr_bit {y c m : Nat} (h : y = 2 ^ c * (2 * m + 1)) (i : Nat) : (y &&& (y - 1)).testBit i = (y.testBit i && decide (i ≠ c)) := by
  have h1 : y - 1 = 2 ^ c * (2 * m) + (2 ^ c - 1) := by
    have := Nat.two_pow_pos c
    rw [h, Nat.mul_add, Nat.mul_one]; omega
  have h2 : y = 2 ^ c * (2 * m + 1) + 0 := by rw [h]; rfl
  have hlt : 2 ^ c - 1 < 2 ^ c := by have := Nat.two_pow_pos c; omega
  rw [Nat.testBit_and, h1, Nat.testBit_two_pow_mul_add _ hlt]
  rw [h2, Nat.testBit_two_pow_mul_add _ (Nat.two_pow_pos c)]
  by_cases hic : i < c
  · simp [hic]
  · by_cases he : i = c
    · subst he; simp
    · obtain ⟨k, hk⟩ : ∃ k, i - c = k + 1 := ⟨i - c - 1, by omega⟩
      simp only [hic, if_false, hk, Nat.testBit_succ]
      rw [show (2 * m + 1) / 2 = m by omega, show 2 * m / 2 = m by omega]
      simp [he]
/-- y is x without its j lowest ones. -/
def Cleared (x j y : Nat) : Prop := y < 2 ^ 64 ∧ ∀ i, y.testBit i = (x.testBit i && decide (j ≤ pop x i))
theorem Cleared.start {x : Nat} (h : x < 2 ^ 64) : Cleared x 0 x := ⟨h, fun i => by simp⟩
theorem Cleared.low {x j k y : Nat} (h : Cleared x j y) (hjk : j ≤ k) (hk : k < pop x 64) : y ≠ 0 := by
  obtain ⟨i, _, h2, h3⟩ := one_at x k 64 hk
  intro e
  have := h.2 i
  rw [e, h2, h3, decide_eq_true hjk] at this
  simp at this
theorem Cleared.first {x j y : Nat} (h : Cleared x j y) (h0 : y ≠ 0) : ∃ m, y = 2 ^ Lib.ctz 64 y * (2 * m + 1) ∧ Lib.ctz 64 y < 64 ∧ x.testBit (Lib.ctz 64 y) = true ∧ pop x (Lib.ctz 64 y) = j := by
  obtain ⟨m, hm, hc⟩ := Lib.ctzFrom_spec 64 y (by omega) h.1
  have e : Lib.ctz 64 y = Lib.ctzFrom 64 y := by simp [Lib.ctz, h0]
  rw [e]
  generalize Lib.ctzFrom 64 y = c at *
  have hb : ∀ i, y.testBit i = if i < c then false else (2 * m + 1).testBit (i - c) := fun i => by
    rw [show y = 2 ^ c * (2 * m + 1) + 0 by rw [hm]; rfl, Nat.testBit_two_pow_mul_add _ (Nat.two_pow_pos c)]
    simp
  have hyc : y.testBit c = true := by rw [hb c]; simp
  have hxc := h.2 c
  rw [hyc] at hxc
  have hx2 := Bool.and_eq_true_iff.1 hxc.symm
  have hjc : j ≤ pop x c := of_decide_eq_true hx2.2
  refine ⟨m, hm, hc, hx2.1, ?_⟩
  by_cases he : pop x c = j
  · exact he
  · obtain ⟨i, h1, h2, h3⟩ := one_at x j c (by omega)
    have := h.2 i
    rw [hb i, if_pos h1, h2, h3, decide_eq_true (Nat.le_refl j)] at this
    simp at this
theorem Cleared.next {x j y : Nat} (h : Cleared x j y) (h0 : y ≠ 0) : Cleared x (j + 1) (y &&& (y - 1)) := by
  obtain ⟨m, hm, hc, hxc, hpc⟩ := h.first h0
  refine ⟨Nat.lt_of_le_of_lt Nat.and_le_left h.1, fun i => ?_⟩
  rw [clr_bit hm i, h.2 i]
  generalize Lib.ctz 64 y = c at *
  by_cases hx : x.testBit i = true
  · rw [hx]
    by_cases hi : i = c
    · subst hi
      rw [hpc]; simp
    · have hne : pop x i ≠ j := fun e => hi (one_unique hx hxc (by rw [e, hpc]))
      simp [hi]
      omega
  · simp only [Bool.not_eq_true] at hx
    rw [hx]; simp
end Go.Proofs.Ythkocodajjapmaa
namespace Go.Proofs.Ythkocodajjapmaa
open Go.RowKit
set_option linter.unusedVariables false
section
variable (g V n q : Nat) (d : Bool) (w : World)
end
end Go.Proofs.Ythkocodajjapmaa
namespace Go.Proofs.Ythkocodajjapmaa
open Go.RowKit
set_option linter.unusedVariables false
end Go.Proofs.Ythkocodajjapmaa
namespace Go.Proofs.Ythkocodajjapmaa
open Go.RowKit
set_option linter.unusedVariables false

/-- The word's bits that are bit. -/
def wdb (bit : Int) (V a : Nat) : Nat := if bit = 0 then 2 ^ 64 - (wd V a + 1) else wd V a
def IsB (bit : Int) (V p : Nat) : Prop := V.testBit p = decide (bit ≠ 0)
theorem wdb_lt (bit : Int) (V a : Nat) : wdb bit V a < 2 ^ 64 := by
  unfold wdb
  split
  · exact Nat.sub_lt (Nat.two_pow_pos _) (Nat.succ_pos _)
  · exact wd_lt V a
theorem wdb_bit (bit : Int) (V a r : Nat) (hr : r < 64) : (wdb bit V a).testBit r = true ↔ IsB bit V (64 * a + r) := by
  unfold wdb IsB
  by_cases h : bit = 0
  · rw [if_pos h, Nat.testBit_two_pow_sub_succ (wd_lt V a), wd_bit]
    simp [hr, h]
  · rw [if_neg h, wd_bit]
    simp [hr, h]
theorem pop_compl {x : Nat} (hx : x < 2 ^ 64) : ∀ r, r ≤ 64 → pop (2 ^ 64 - (x + 1)) r + pop x r = r := by
  intro r
  induction r with
  | zero => intro _; rfl
  | succ r ih =>
    intro hr
    have ih := ih (by omega)
    rw [pop_next, pop_next]
    have h1 := Nat.testBit_two_pow_sub_succ hx r
    rw [Nat.testBit_eq_decide_div_mod_eq, Nat.testBit_eq_decide_div_mod_eq] at h1
    have h2 : (2 ^ 64 - (x + 1)) / 2 ^ r % 2 < 2 := Nat.mod_lt _ (by decide)
    have h3 : x / 2 ^ r % 2 < 2 := Nat.mod_lt _ (by decide)
    rw [decide_eq_true (show r < 64 by omega), Bool.true_and] at h1
    generalize (2 ^ 64 - (x + 1)) / 2 ^ r % 2 = u at *
    generalize x / 2 ^ r % 2 = v at *
    by_cases hv : v = 1
    · rw [decide_eq_true hv] at h1
      have : ¬ u = 1 := fun e => by rw [decide_eq_true e] at h1; cases h1
      omega
    · rw [decide_eq_false hv] at h1
      have : u = 1 := of_decide_eq_true h1
      omega
theorem cb_part (bit : Int) (V a r : Nat) (hr : r ≤ 64) : cb bit V (64 * a + r) = cb bit V (64 * a) + pop (wdb bit V a) r := by
  have h1 := pop_part V a r hr
  have h2 := pop_le V (64 * a)
  unfold cb wdb
  by_cases h : bit = 0
  · simp only [if_pos h]
    have h3 := pop_compl (wd_lt V a) r hr
    have h4 := pop_le (wd V a) r
    omega
  · simp only [if_neg h]
    exact h1
theorem cb_mono (bit : Int) (V : Nat) {a b : Nat} (h : a ≤ b) : cb bit V a ≤ cb bit V b := by
  obtain ⟨d, rfl⟩ : ∃ d, b = a + d := ⟨b - a, by omega⟩
  unfold cb
  have h1 := pop_add V a d
  have h2 := pop_le (V / 2 ^ a) d
  have h3 := pop_le V a
  split <;> omega
theorem cb_next {bit : Int} {V p : Nat} (h : IsB bit V p) : cb bit V (p + 1) = cb bit V p + 1 := by
  unfold IsB at h
  have h3 := pop_le V p
  unfold cb
  by_cases hb : bit = 0
  · have h2 : pop V (p + 1) = pop V p := by
      rw [pop_next]
      rw [Nat.testBit_eq_decide_div_mod_eq] at h
      simp [hb] at h
      omega
    simp only [if_pos hb]
    omega
  · simp only [if_neg hb]
    exact pop_bit1 (by rw [h]; simp [hb])
theorem cb_unique {bit : Int} {V p r : Nat} (hp : IsB bit V p) (hr : IsB bit V r) (he : cb bit V p = cb bit V r) : p = r := by
  rcases Nat.lt_trichotomy p r with h | h | h
  · have h1 := cb_mono bit V (show p + 1 ≤ r by omega)
    rw [cb_next hp] at h1; omega
  · exact h
  · have h1 := cb_mono bit V (show r + 1 ≤ p by omega)
    rw [cb_next hr] at h1; omega
theorem xor_ones (b : Nat) (hb : b < 2 ^ 64) : (2 ^ 64 - 1) ^^^ b = 2 ^ 64 - (b + 1) := by
  apply Nat.eq_of_testBit_eq
  intro i
  rw [Nat.testBit_xor, Nat.testBit_two_pow_sub_one, Nat.testBit_two_pow_sub_succ hb]
  by_cases hi : i < 64
  · simp [hi]
  · have : b.testBit i = false := Nat.testBit_lt_two_pow (Nat.lt_of_lt_of_le hb (Nat.pow_le_pow_right (by decide) (by omega)))
    simp [hi, this]
theorem not_u64 (x : Nat) (hx : x < 2 ^ 64) : bits .xor .u64 IntKind.u64.max (x : Int) = ((2 ^ 64 - (x + 1) : Nat) : Int) := by
  have e2 : IntKind.u64.max = ((2 ^ 64 - 1 : Nat) : Int) := by decide
  rw [e2, bits_xor_u64_nat _ _ (by decide) (by omega), xor_ones x hx]
end Go.Proofs.Ythkocodajjapmaa
