/- Plain mathematics of bits in a row: n bits are a number V < 2^n, and word i is wd V i; no program in sight. Lists of noughts and ones, and the number that they are; no program in sight. Numbers as bytes, seven bits each: mathematics. -/
import Derived.Lib.BitFns
import Derived.Lib.ItoaNum
namespace Go.Proofs.Ytcefohjddbjcjaa
set_option linter.unusedVariables false

/-- The word i of the bits that V is. -/
def wd (V i : Nat) : Nat := V / 2 ^ (64 * i) % 2 ^ 64
theorem wd_lt (V i : Nat) : wd V i < 2 ^ 64 := Nat.mod_lt _ (by decide)
theorem wd_bit (V i j : Nat) : (wd V i).testBit j = (decide (j < 64) && V.testBit (64 * i + j)) := by
  unfold wd
  rw [Nat.testBit_mod_two_pow, Nat.testBit_div_two_pow]
  congr 2
  omega
/-- V with x's lowest k bits behind its n bits. -/
def put (V n x k : Nat) : Nat := V + x % 2 ^ k * 2 ^ n
theorem put_lt {V n : Nat} (x k : Nat) (h : V < 2 ^ n) : put V n x k < 2 ^ (n + k) := by
  unfold put
  have h1 : x % 2 ^ k < 2 ^ k := Nat.mod_lt _ (Nat.two_pow_pos k)
  have h2 : x % 2 ^ k * 2 ^ n ≤ (2 ^ k - 1) * 2 ^ n := Nat.mul_le_mul_right _ (by omega)
  have h3 : (2 ^ k - 1) * 2 ^ n = 2 ^ (n + k) - 2 ^ n := by rw [Nat.sub_mul, Nat.one_mul, ← Nat.pow_add, Nat.add_comm k n]
  have h4 : 2 ^ n ≤ 2 ^ (n + k) := Nat.pow_le_pow_right (by omega) (by omega)
  omega
theorem put_bit {V n : Nat} (x k j : Nat) (h : V < 2 ^ n) : (put V n x k).testBit j = if j < n then V.testBit j else (decide (j - n < k) && x.testBit (j - n)) := by
  unfold put
  rw [Nat.add_comm, Nat.mul_comm, Nat.testBit_two_pow_mul_add _ h, Nat.testBit_mod_two_pow]
theorem wd_high {V n i : Nat} (h : V < 2 ^ n) (hi : n ≤ 64 * i) : wd V i = 0 := by
  unfold wd
  rw [Nat.div_eq_of_lt (Nat.lt_of_lt_of_le h (Nat.pow_le_pow_right (by omega) hi))]
/-- The words ahead of the last one stay when bits are put behind. -/
theorem wd_put_low {V n : Nat} (x k i : Nat) (h : V < 2 ^ n) (hi : 64 * i + 64 ≤ n) : wd (put V n x k) i = wd V i := by
  apply Nat.eq_of_testBit_eq
  intro j
  rw [wd_bit, wd_bit]
  by_cases hj : j < 64
  · rw [put_bit x k _ h, if_pos (by omega)]
  · simp [hj]
/-- A new word: the bits fall on its first place. -/
theorem wd_put_new {V n : Nat} (x k i : Nat) (h : V < 2 ^ n) (hi : n = 64 * i) (hk : k ≤ 64) : wd (put V n x k) i = x % 2 ^ k := by
  apply Nat.eq_of_testBit_eq
  intro j
  rw [wd_bit, put_bit x k _ h, if_neg (by omega), show 64 * i + j - n = j by omega, Nat.testBit_mod_two_pow]
  by_cases hj : j < k
  · simp [hj, show j < 64 by omega]
  · simp [hj]
/-- The last word takes what fits. -/
theorem wd_put_last {V n : Nat} (x k i s : Nat) (h : V < 2 ^ n) (hn : n = 64 * i + s) (hs : s < 64) : wd (put V n x k) i = wd V i ||| (x % 2 ^ k * 2 ^ s) % 2 ^ 64 := by
  apply Nat.eq_of_testBit_eq
  intro j
  rw [Nat.testBit_or, wd_bit, wd_bit, put_bit x k _ h, Nat.testBit_mod_two_pow, Nat.mul_comm (x % 2 ^ k), Nat.testBit_two_pow_mul, Nat.testBit_mod_two_pow]
  by_cases hj : j < 64
  · by_cases hjs : j < s
    · simp [hj, show 64 * i + j < n by omega, show ¬ s ≤ j by omega]
    · have hV : V.testBit (64 * i + j) = false := Nat.testBit_lt_two_pow (Nat.lt_of_lt_of_le h (Nat.pow_le_pow_right (by omega) (by omega)))
      rw [if_neg (by omega), show 64 * i + j - n = j - s by omega, hV]
      simp [hj, show s ≤ j by omega]
  · simp [hj]
/-- The word behind the last takes what is left. -/
theorem wd_put_next {V n : Nat} (x k i s : Nat) (h : V < 2 ^ n) (hn : n = 64 * i + s) (hs : s < 64) (hs0 : 0 < s) (hk : k ≤ 64) : wd (put V n x k) (i + 1) = x % 2 ^ k / 2 ^ (64 - s) := by
  apply Nat.eq_of_testBit_eq
  intro j
  rw [wd_bit, put_bit x k _ h, if_neg (by omega), Nat.testBit_div_two_pow, Nat.testBit_mod_two_pow, show 64 * (i + 1) + j - n = 64 - s + j by omega]
  by_cases hj : 64 - s + j < k
  · simp [show j + (64 - s) < k by omega, show j < 64 by omega, Nat.add_comm]
  · simp [show ¬ 64 - s + j < k by omega, show ¬ j + (64 - s) < k by omega]
/-- Bits read out of one word. -/
theorem get_one (V i s k : Nat) (h : s + k ≤ 64) : wd V i / 2 ^ s % 2 ^ k = V / 2 ^ (64 * i + s) % 2 ^ k := by
  apply Nat.eq_of_testBit_eq
  intro j
  rw [Nat.testBit_mod_two_pow, Nat.testBit_mod_two_pow, Nat.testBit_div_two_pow, Nat.testBit_div_two_pow, wd_bit]
  by_cases hj : j < k
  · simp [hj, show j + s < 64 by omega, show 64 * i + (j + s) = j + (64 * i + s) by omega]
  · simp [hj]
/-- Bits read out of two words. -/
theorem get_two (V i s k : Nat) (hs : s < 64) (hs0 : 0 < s) (hk : k ≤ 64) : (wd V i / 2 ^ s ||| wd V (i + 1) * 2 ^ (64 - s) % 2 ^ 64) % 2 ^ k = V / 2 ^ (64 * i + s) % 2 ^ k := by
  apply Nat.eq_of_testBit_eq
  intro j
  rw [Nat.testBit_mod_two_pow, Nat.testBit_mod_two_pow, Nat.testBit_or, Nat.testBit_div_two_pow, Nat.testBit_div_two_pow, wd_bit, Nat.testBit_mod_two_pow, Nat.mul_comm (wd V (i + 1)), Nat.testBit_two_pow_mul, wd_bit]
  by_cases hj : j < k
  · by_cases hjs : j + s < 64
    · simp [hj, hjs, show ¬ 64 - s ≤ j by omega, show 64 * i + (j + s) = j + (64 * i + s) by omega]
    · simp [hj, hjs, show 64 - s ≤ j by omega, show j < 64 by omega, show j - (64 - s) < 64 by omega, show 64 * (i + 1) + (j - (64 - s)) = j + (64 * i + s) by omega]
  · simp [hj]
end Go.Proofs.Ytcefohjddbjcjaa
namespace Go.Proofs.Ytcefohjddbjcjaa
set_option linter.unusedVariables false

def ofNB (l : List Nat) : List Int := l.map fun (x : Nat) => (x : Int)
theorem ofN_lenB (l : List Nat) : (ofNB l).length = l.length := by simp [ofNB]
theorem ofN_appendB (l m : List Nat) : ofNB (l ++ m) = ofNB l ++ ofNB m := by simp [ofNB]
theorem ofN_takeB (l : List Nat) (k : Nat) : ofNB (l.take k) = (ofNB l).take k := by simp [ofNB, List.map_take]
theorem ofN_dropB (l : List Nat) (k : Nat) : ofNB (l.drop k) = (ofNB l).drop k := by simp [ofNB, List.map_drop]
theorem ofN_getB (l : List Nat) (i : Nat) : (ofNB l).getD i 0 = ((l.getD i 0 : Nat) : Int) := by
  by_cases h : i < l.length
  · simp [ofNB, List.getD_eq_getElem?_getD, h]
  · simp [ofNB, List.getD_eq_getElem?_getD, Nat.le_of_not_lt h]
theorem ofN_injB {l m : List Nat} (h : ofNB l = ofNB m) : l = m := by
  have hl : l.length = m.length := by rw [← ofN_lenB, h, ofN_lenB]
  apply List.ext_getElem hl
  intro i h1 h2
  have := congrArg (fun l => l.getD i 0) h
  simp only [ofN_getB] at this
  simp only [List.getD_eq_getElem?_getD, List.getElem?_eq_getElem h1, List.getElem?_eq_getElem h2, Option.getD_some] at this
  omega

/-- The number of some bits, the lowest first. -/
def val : List Nat → Nat
  | [] => 0
  | b :: l => b + 2 * val l
/-- Noughts and ones. -/
def Bin (l : List Nat) : Prop := ∀ b ∈ l, b < 2
theorem Bin.nil : Bin [] := fun _ h => by cases h
theorem Bin.tail {b : Nat} {l : List Nat} (h : Bin (b :: l)) : Bin l := fun x hx => h x (List.mem_cons_of_mem _ hx)
theorem Bin.head {b : Nat} {l : List Nat} (h : Bin (b :: l)) : b < 2 := h b (List.mem_cons_self ..)
theorem Bin.append {l m : List Nat} (h : Bin l) (k : Bin m) : Bin (l ++ m) := fun x hx => by
  rcases List.mem_append.1 hx with hx | hx
  · exact h x hx
  · exact k x hx
theorem Bin.take {l : List Nat} (h : Bin l) (k : Nat) : Bin (l.take k) := fun x hx => h x (List.mem_of_mem_take hx)
theorem Bin.drop {l : List Nat} (h : Bin l) (k : Nat) : Bin (l.drop k) := fun x hx => h x (List.mem_of_mem_drop hx)
theorem Bin.getD {l : List Nat} (h : Bin l) (i : Nat) : l.getD i 0 < 2 := by
  by_cases hi : i < l.length
  · rw [List.getD_eq_getElem?_getD, List.getElem?_eq_getElem hi]
    exact h _ (List.getElem_mem hi)
  · rw [List.getD_eq_getElem?_getD, List.getElem?_eq_none (by omega)]; decide
theorem val_lt {l : List Nat} (h : Bin l) : val l < 2 ^ l.length := by
  induction l with
  | nil => simp [val]
  | cons b l ih =>
    have h1 := ih h.tail
    have h2 := h.head
    simp only [val, List.length_cons, Nat.pow_succ]
    omega
theorem val_append (l m : List Nat) : val (l ++ m) = val l + 2 ^ l.length * val m := by
  induction l with
  | nil => simp [val]
  | cons b l ih => 
    simp only [List.cons_append, val, ih, List.length_cons, Nat.pow_succ]
    rw [Nat.mul_add, ← Nat.mul_assoc, Nat.mul_comm 2 (2 ^ l.length)]
    omega
theorem val_bit {l : List Nat} (h : Bin l) (i : Nat) : val l / 2 ^ i % 2 = l.getD i 0 := by
  induction l generalizing i with
  | nil => simp [val]
  | cons b l ih =>
    have hb := h.head
    cases i with
    | zero => simp [val]; omega
    | succ i =>
      have e : (b + 2 * val l) / 2 ^ (i + 1) = val l / 2 ^ i := by
        rw [Nat.pow_succ, Nat.mul_comm (2 ^ i) 2, ← Nat.div_div_eq_div_mul]
        congr 1; omega
      simp only [val, e, List.getD_cons_succ]
      exact ih h.tail i
theorem val_inj {l m : List Nat} (h : Bin l) (k : Bin m) (hl : l.length = m.length) (e : val l = val m) : l = m := by
  apply List.ext_getElem hl
  intro i h1 h2
  have a := val_bit h i
  have b := val_bit k i
  rw [e, b] at a
  simpa [List.getD_eq_getElem?_getD, List.getElem?_eq_getElem h1, List.getElem?_eq_getElem h2] using a.symm
/-- A number's k lowest bits. -/
def numL (x k : Nat) : List Nat := (List.range k).map fun i => x / 2 ^ i % 2
theorem numL_len (x k : Nat) : (numL x k).length = k := by simp [numL]
theorem numL_bin (x k : Nat) : Bin (numL x k) := fun b hb => by
  simp only [numL, List.mem_map] at hb
  obtain ⟨i, _, rfl⟩ := hb
  exact Nat.mod_lt _ (by decide)
theorem numL_next (x k : Nat) : numL x (k + 1) = numL x k ++ [x / 2 ^ k % 2] := by simp [numL, List.range_succ]
theorem mod_next (x k : Nat) : x % 2 ^ (k + 1) = x % 2 ^ k + 2 ^ k * (x / 2 ^ k % 2) := by rw [Nat.pow_succ, Nat.mod_mul]
theorem val_numL (x k : Nat) : val (numL x k) = x % 2 ^ k := by
  induction k with
  | zero => simp [numL, val, Nat.mod_one]
  | succ k ih => rw [numL_next, val_append, ih, numL_len, mod_next]; simp [val]
theorem val_take {l : List Nat} (h : Bin l) (k : Nat) : val (l.take k) = val l % 2 ^ k := by
  by_cases hk : k ≤ l.length
  · have e := val_append (l.take k) (l.drop k)
    rw [List.take_append_drop, List.length_take, Nat.min_eq_left hk] at e
    rw [e, Nat.add_mul_mod_self_left]
    have := val_lt (h.take k)
    rw [List.length_take, Nat.min_eq_left hk] at this
    exact (Nat.mod_eq_of_lt this).symm
  · rw [List.take_of_length_le (by omega)]
    exact (Nat.mod_eq_of_lt (Nat.lt_of_lt_of_le (val_lt h) (Nat.pow_le_pow_right (by omega) (by omega)))).symm
theorem val_drop {l : List Nat} (h : Bin l) (k : Nat) : val (l.drop k) = val l / 2 ^ k := by
  by_cases hk : k ≤ l.length
  · have e := val_append (l.take k) (l.drop k)
    rw [List.take_append_drop, List.length_take, Nat.min_eq_left hk] at e
    have := val_lt (h.take k)
    rw [List.length_take, Nat.min_eq_left hk] at this
    rw [e, Nat.add_comm, Nat.mul_add_div (Nat.two_pow_pos k), Nat.div_eq_of_lt this, Nat.add_zero]
  · rw [List.drop_of_length_le (by omega), Nat.div_eq_of_lt (Nat.lt_of_lt_of_le (val_lt h) (Nat.pow_le_pow_right (by omega) (by omega)))]
    rfl
/-- Bits put behind a list's number. -/
theorem put_val {l m : List Nat} (hm : Bin m) : put (val l) l.length (val m) m.length = val (l ++ m) := by
  unfold put
  rw [val_append, Nat.mod_eq_of_lt (val_lt hm), Nat.mul_comm]
theorem put_numL (l : List Nat) (x k : Nat) : put (val l) l.length x k = val (l ++ numL x k) := by
  unfold put
  rw [val_append, val_numL, Nat.mul_comm]
theorem numL_val {l : List Nat} (h : Bin l) (k : Nat) (hk : k ≤ l.length) : numL (val l) k = l.take k := by
  refine val_inj (numL_bin _ _) (h.take k) (by rw [numL_len, List.length_take, Nat.min_eq_left hk]) ?_
  rw [val_numL, val_take h]
/-- A number of bits in two parts is the number at once. -/
theorem put_two (x a b : Nat) : put (put 0 0 x a) (0 + a) (x / 2 ^ a) b = put 0 0 x (a + b) := by
  unfold put
  simp only [Nat.zero_add, Nat.pow_zero, Nat.mul_one]
  rw [Nat.pow_add, Nat.mod_mul, Nat.mul_comm]
/-- Bits of bytes, not more than so many. -/
def few (bs : List Nat) (m : Nat) : List Nat := (bs.flatMap fun b => numL b 8).take m
theorem flat_bin (bs : List Nat) : Bin (bs.flatMap fun b => numL b 8) := fun x hx => by
  obtain ⟨b, _, h⟩ := List.mem_flatMap.1 hx
  exact numL_bin b 8 x h
theorem few_bin (bs : List Nat) (m : Nat) : Bin (few bs m) := (flat_bin bs).take m
theorem flat_len (bs : List Nat) : (bs.flatMap fun b => numL b 8).length = 8 * bs.length := by
  induction bs with
  | nil => rfl
  | cons b bs ih => simp only [List.flatMap_cons, List.length_append, ih, numL_len, List.length_cons]; omega
theorem few_len (bs : List Nat) (m : Nat) : (few bs m).length = min m (8 * bs.length) := by rw [few, List.length_take, flat_len]
/-- On the way: k bytes and i bits of the next one. -/
def fewTo (bs : List Nat) (m k i : Nat) : List Nat := (((bs.take k).flatMap fun b => numL b 8) ++ numL (bs.getD k 0) i).take m
theorem fewTo_start (bs : List Nat) (m : Nat) : fewTo bs m 0 0 = [] := by simp [fewTo, numL]
theorem fewTo_bit (bs : List Nat) (m k i : Nat) (h : (fewTo bs m k i).length < m) : fewTo bs m k (i + 1) = fewTo bs m k i ++ [bs.getD k 0 / 2 ^ i % 2] := by
  unfold fewTo at h ⊢
  generalize ((bs.take k).flatMap fun b => numL b 8) = F at *
  rw [List.length_take] at h
  rw [numL_next, ← List.append_assoc, List.take_of_length_le (by simp only [List.length_append, List.length_cons, List.length_nil] at h ⊢; omega), List.take_of_length_le (by omega)]
theorem fewTo_full (bs : List Nat) (m k i j : Nat) (hij : i ≤ j) (h : ¬ (fewTo bs m k i).length < m) : fewTo bs m k j = fewTo bs m k i := by
  unfold fewTo at h ⊢
  generalize ((bs.take k).flatMap fun b => numL b 8) = F at *
  rw [List.length_take] at h
  have e : numL (bs.getD k 0) j = numL (bs.getD k 0) i ++ (numL (bs.getD k 0) j).drop i := by
    have h1 : numL (bs.getD k 0) i = (numL (bs.getD k 0) j).take i := by
      simp only [numL, ← List.map_take, List.take_range, Nat.min_eq_left hij]
    rw [h1, List.take_append_drop]
  rw [e, ← List.append_assoc, List.take_append_of_le_length (by omega)]
theorem fewTo_next (bs : List Nat) (m k : Nat) (hk : k < bs.length) : fewTo bs m k 8 = fewTo bs m (k + 1) 0 := by
  unfold fewTo
  rw [← List.take_append_getElem hk, List.flatMap_append]
  simp [numL, List.getD_eq_getElem?_getD, List.getElem?_eq_getElem hk]
theorem fewTo_end (bs : List Nat) (m : Nat) : fewTo bs m bs.length 0 = few bs m := by
  unfold fewTo few
  simp [numL]
theorem fewTo_le (bs : List Nat) (m k i : Nat) : (fewTo bs m k i).length ≤ 8 * k + i := by
  unfold fewTo
  rw [List.length_take, List.length_append, flat_len, numL_len, List.length_take]
  omega
/-- What Add makes of numbers. -/
def bit1 (x : Int) : Nat := if x = 0 then 0 else 1
theorem bit1_bin (z : List Int) : Bin (z.map bit1) := fun b hb => by
  simp only [List.mem_map] at hb
  obtain ⟨x, _, rfl⟩ := hb
  unfold bit1; split <;> decide
theorem bit1_ofN {l : List Nat} (h : Bin l) : (ofNB l).map bit1 = l := by
  induction l with
  | nil => rfl
  | cons b l ih =>
    have := h.head
    simp only [ofNB, List.map_cons, List.cons.injEq] at ih ⊢
    refine ⟨?_, ih h.tail⟩
    unfold bit1; split <;> omega
theorem put_one (l : List Nat) (x : Int) : put (val l) l.length (bit1 x) 1 = val (l ++ [bit1 x]) := by
  have h : Bin [bit1 x] := fun b hb => by
    simp only [List.mem_singleton] at hb
    subst hb; unfold bit1; split <;> decide
  have := put_val (l := l) h
  simpa [val] using this
end Go.Proofs.Ytcefohjddbjcjaa
namespace Go.Proofs.Ytcefohjddbjcjaa
set_option maxRecDepth 20000
set_option linter.unusedVariables false
/-- A number's bytes. -/
def numB (x : Nat) : List Nat := if x < 128 then [x] else (128 + x % 128) :: numB (x / 128)
termination_by x
decreasing_by omega
theorem numB_small {x : Nat} (h : x < 128) : numB x = [x] := by rw [numB, if_pos h]
theorem numB_big {x : Nat} (h : ¬ x < 128) : numB x = (128 + x % 128) :: numB (x / 128) := by rw [numB, if_neg h]
theorem numB_ind {P : Nat → Prop} (h0 : ∀ x, x < 128 → P x) (h1 : ∀ x, 128 ≤ x → P (x / 128) → P x) (x : Nat) : P x := by
  induction x using Nat.strongRecOn with
  | ind x ih =>
    by_cases h : x < 128
    · exact h0 x h
    · exact h1 x (by omega) (ih (x / 128) (by omega))
theorem numB_pos (x : Nat) : 1 ≤ (numB x).length := by
  by_cases h : x < 128
  · rw [numB_small h]; simp
  · rw [numB_big h]; simp
theorem numB_lt (x : Nat) : ∀ b ∈ numB x, b < 256 := by
  refine numB_ind (P := fun x => ∀ b ∈ numB x, b < 256) (fun x h b hb => ?_) (fun x h ih b hb => ?_) x
  · rw [numB_small h] at hb; simp at hb; omega
  · rw [numB_big (by omega)] at hb
    rcases List.mem_cons.1 hb with rfl | hb
    · omega
    · exact ih b hb
theorem numB_len : ∀ (k x : Nat), 1 ≤ k → x < 128 ^ k → (numB x).length ≤ k
  | 0, x, h, _ => by omega
  | k + 1, x, _, hx => by
    by_cases h : x < 128
    · rw [numB_small h]; simp
    · rw [numB_big h]
      have hk : 1 ≤ k := by
        rcases Nat.eq_zero_or_pos k with rfl | c
        · simp at hx; omega
        · exact c
      have := numB_len k (x / 128) hk (by rw [Nat.pow_succ] at hx; exact (Nat.div_lt_iff_lt_mul (by decide)).2 hx)
      simp; omega
theorem numB_len10 {x : Nat} (h : x < 2 ^ 64) : (numB x).length ≤ 10 := numB_len 10 x (by decide) (Nat.lt_of_lt_of_le h (by decide))
/-- The number of bytes, seven bits each. -/
def v128 : List Nat → Nat
  | [] => 0
  | d :: l => d % 128 + 128 * v128 l
theorem v128_append (l m : List Nat) : v128 (l ++ m) = v128 l + 128 ^ l.length * v128 m := by
  induction l with
  | nil => simp [v128]
  | cons d l ih => rw [List.cons_append, v128, v128, ih, List.length_cons, Nat.pow_succ]; rw [Nat.mul_add, Nat.mul_comm (128 ^ l.length) 128, Nat.mul_assoc]; omega
theorem v128_lt (l : List Nat) : v128 l < 128 ^ l.length := by
  induction l with
  | nil => simp [v128]
  | cons d l ih => rw [v128, List.length_cons, Nat.pow_succ]; omega
theorem v128_numB (x : Nat) : v128 (numB x) = x := by
  refine numB_ind (P := fun x => v128 (numB x) = x) (fun x h => ?_) (fun x h ih => ?_) x
  · rw [numB_small h]; simp [v128]; omega
  · rw [numB_big (by omega), v128, ih]; omega
/-- All but the last are 128 or more, the last is below, and no nought but alone. -/
theorem numB_form (x : Nat) : ∃ l d, numB x = l ++ [d] ∧ (∀ b ∈ l, 128 ≤ b) ∧ d < 128 ∧ (l = [] ∨ d ≠ 0) := by
  refine numB_ind (P := fun x => ∃ l d, numB x = l ++ [d] ∧ (∀ b ∈ l, 128 ≤ b) ∧ d < 128 ∧ (l = [] ∨ d ≠ 0)) (fun x h => ?_) (fun x h ih => ?_) x
  · exact ⟨[], x, (by rw [numB_small h]; rfl), (fun b hb => by cases hb), h, .inl rfl⟩
  · obtain ⟨l, d, e, h1, h2, h3⟩ := ih
    refine ⟨(128 + x % 128) :: l, d, by rw [numB_big (by omega), e]; rfl, fun b hb => ?_, h2, .inr ?_⟩
    · rcases List.mem_cons.1 hb with rfl | hb
      · omega
      · exact h1 b hb
    · rcases h3 with rfl | h3
      · intro hd
        subst hd
        have hv := v128_numB (x / 128)
        rw [e] at hv
        simp [v128] at hv
        omega
      · exact h3
theorem numB_of (l : List Nat) (d : Nat) (hl : ∀ b ∈ l, 128 ≤ b ∧ b < 256) (hd : d < 128) (h0 : l = [] ∨ d ≠ 0) : numB (v128 (l ++ [d])) = l ++ [d] := by
  induction l with
  | nil => simp [v128]; rw [Nat.mod_eq_of_lt hd, numB_small hd]
  | cons b l ih =>
    have hb := hl b (List.mem_cons_self ..)
    have ih2 := ih (fun c hc => hl c (List.mem_cons_of_mem _ hc)) (by
      rcases h0 with h0 | h0
      · cases h0
      · exact .inr h0)
    have hne : d ≠ 0 := by
      rcases h0 with h0 | h0
      · cases h0
      · exact h0
    have hpos : 1 ≤ v128 (l ++ [d]) := by
      rw [v128_append]
      have := Nat.pow_pos (n := l.length) (show 0 < 128 by decide)
      have h1 : v128 [d] = d := by simp [v128]; omega
      rw [h1]
      have := Nat.mul_le_mul this (show 1 ≤ d by omega)
      omega
    rw [List.cons_append, v128, numB_big (by omega)]
    have e1 : (b % 128 + 128 * v128 (l ++ [d])) % 128 = b % 128 := by omega
    have e2 : (b % 128 + 128 * v128 (l ++ [d])) / 128 = v128 (l ++ [d]) := by omega
    rw [e1, e2, ih2]
    congr 1
    omega
/-- Bytes that begin with so many of 128 or more and one below begin with no other number's bytes. -/
theorem numB_pre {l : List Nat} {d : Nat} {rest : List Nat} {x : Nat} {r : List Nat} (hl : ∀ b ∈ l, 128 ≤ b) (hd : d < 128) (h : l ++ d :: rest = numB x ++ r) : numB x = l ++ [d] ∧ r = rest := by
  obtain ⟨m, c, e, h1, h2, h3⟩ := numB_form x
  rw [e] at h ⊢
  clear e h3
  induction l generalizing m with
  | nil =>
    cases m with
    | nil => simp at h; obtain ⟨rfl, rfl⟩ := h; exact ⟨rfl, rfl⟩
    | cons a m =>
      simp at h
      have := h1 a (List.mem_cons_self ..)
      omega
  | cons a l ih =>
    cases m with
    | nil =>
      simp at h
      have := hl a (List.mem_cons_self ..)
      omega
    | cons a' m =>
      simp at h
      obtain ⟨rfl, h⟩ := h
      obtain ⟨e1, e2⟩ := ih (fun b hb => hl b (List.mem_cons_of_mem _ hb)) m (by simpa using h) (fun b hb => h1 b (List.mem_cons_of_mem _ hb))
      exact ⟨by rw [List.cons_append, List.cons_append, e1], e2⟩
theorem numB_uniq {x y : Nat} {r s : List Nat} (h : numB x ++ r = numB y ++ s) : x = y ∧ r = s := by
  obtain ⟨l, d, e, h1, h2, _⟩ := numB_form x
  have h' := h
  rw [e, List.append_assoc, List.singleton_append] at h'
  obtain ⟨e1, e2⟩ := numB_pre h1 h2 h'
  have : numB x = numB y := by rw [e, e1]
  have hx := v128_numB x
  rw [this, v128_numB] at hx
  exact ⟨hx.symm, e2.symm⟩
/-- What bytes begin with: some number's bytes, or none's. -/
def Begins (bs : List Nat) (x : Nat) : Prop := x < 2 ^ 64 ∧ ∃ rest, bs = numB x ++ rest
/-- .. if the first so many are 128 or more. -/
theorem begins_len {bs : List Nat} {x i : Nat} (h : Begins bs x) (hi : ∀ j, j < i → 128 ≤ bs.getD j 0) (hil : i ≤ bs.length) : i < (numB x).length := by
  obtain ⟨_, rest, rfl⟩ := h
  obtain ⟨l, d, e, h1, h2, _⟩ := numB_form x
  rcases Nat.lt_or_ge i (numB x).length with c | c
  · exact c
  · have hl : (numB x).length = l.length + 1 := by rw [e]; simp
    have := hi l.length (by omega)
    rw [e] at this
    simp [List.getD_eq_getElem?_getD] at this
    omega
theorem begins_no {bs : List Nat} {x : Nat} (hi : ∀ j, j < bs.length → 128 ≤ bs.getD j 0) : ¬ Begins bs x := fun h => by
  have h1 := begins_len h hi (Nat.le_refl _)
  obtain ⟨_, rest, rfl⟩ := h
  simp at h1
  omega
theorem begins_10 {bs : List Nat} {x : Nat} (hi : ∀ j, j < 10 → 128 ≤ bs.getD j 0) (hl : 10 ≤ bs.length) : ¬ Begins bs x := fun h => by
  have h1 := begins_len h hi hl
  have := numB_len10 h.1
  omega
/-- .. and the next is below. -/
theorem begins_at {bs : List Nat} {x i : Nat} (h : Begins bs x) (hi : ∀ j, j < i → 128 ≤ bs.getD j 0) (hil : i < bs.length) (hd : bs.getD i 0 < 128) : numB x = bs.take (i + 1) ∧ x = v128 (bs.take (i + 1)) := by
  obtain ⟨_, rest, e⟩ := h
  have hs : bs = bs.take i ++ bs.getD i 0 :: bs.drop (i + 1) := by
    rw [List.getD_eq_getElem?_getD, List.getElem?_eq_getElem hil]
    simp
  have ht : bs.take (i + 1) = bs.take i ++ [bs.getD i 0] := by
    rw [List.take_add_one, List.getD_eq_getElem?_getD, List.getElem?_eq_getElem hil]; rfl
  have hg : ∀ b ∈ bs.take i, 128 ≤ b := fun b hb => by
    obtain ⟨j, hj, rfl⟩ := List.getElem_of_mem hb
    rw [List.length_take] at hj
    have := hi j (by omega)
    rw [List.getD_eq_getElem?_getD, List.getElem?_eq_getElem (by omega)] at this
    simpa [List.getElem_take] using this
  have h1 := numB_pre (x := x) (r := rest) hg hd (by rw [← hs, e])
  rw [ht]
  exact ⟨h1.1, by rw [← h1.1, v128_numB]⟩
theorem begins_yes {bs : List Nat} {i : Nat} (hb : ∀ b ∈ bs, b < 256) (hi : ∀ j, j < i → 128 ≤ bs.getD j 0) (hil : i < bs.length) (hd : bs.getD i 0 < 128) (h0 : i = 0 ∨ bs.getD i 0 ≠ 0) : numB (v128 (bs.take (i + 1))) = bs.take (i + 1) := by
  have ht : bs.take (i + 1) = bs.take i ++ [bs.getD i 0] := by
    rw [List.take_add_one, List.getD_eq_getElem?_getD, List.getElem?_eq_getElem hil]; rfl
  rw [ht]
  refine numB_of _ _ (fun b hbm => ⟨?_, hb b (List.mem_of_mem_take hbm)⟩) hd ?_
  · obtain ⟨j, hj, rfl⟩ := List.getElem_of_mem hbm
    rw [List.length_take] at hj
    have := hi j (by omega)
    rw [List.getD_eq_getElem?_getD, List.getElem?_eq_getElem (by omega)] at this
    simpa [List.getElem_take] using this
  · rcases h0 with rfl | h0
    · exact .inl (by simp)
    · exact .inr h0
theorem begins_zero {bs : List Nat} {x i : Nat} (hi : ∀ j, j < i → 128 ≤ bs.getD j 0) (hil : i < bs.length) (hd : bs.getD i 0 = 0) (h0 : 0 < i) : ¬ Begins bs x := fun h => by
  have h1 := (begins_at h hi hil (by omega)).1
  obtain ⟨l, d, e, _, _, h3⟩ := numB_form x
  have ht : bs.take (i + 1) = bs.take i ++ [bs.getD i 0] := by
    rw [List.take_add_one, List.getD_eq_getElem?_getD, List.getElem?_eq_getElem hil]; rfl
  rw [e, ht] at h1
  obtain ⟨e1, e2⟩ := List.append_inj' h1 rfl
  rcases h3 with h3 | h3
  · rw [h3] at e1
    have := congrArg List.length e1
    rw [List.length_take] at this
    simp at this; omega
  · rw [hd] at e2
    exact h3 (by simpa using e2)
/-- A digit that is too great. -/
theorem begins_over {bs : List Nat} {x i : Nat} (hi : ∀ j, j < i → 128 ≤ bs.getD j 0) (hil : i < bs.length) (hov : 64 < Lib.bitLen (bs.getD i 0 % 128) + 7 * i) : ¬ Begins bs x := fun h => by
  have h1 := begins_len h hi (by omega)
  have h10 := numB_len10 h.1
  obtain ⟨hx, rest, e⟩ := h
  have hv := v128_numB x
  have hg : bs.getD i 0 = (numB x).getD i 0 := by
    rw [e, List.getD_eq_getElem?_getD, List.getD_eq_getElem?_getD, List.getElem?_append_left h1]
  have hsp : numB x = (numB x).take i ++ (numB x).getD i 0 :: (numB x).drop (i + 1) := by
    rw [List.getD_eq_getElem?_getD, List.getElem?_eq_getElem h1]
    simp
  rw [hsp, v128_append, v128, List.length_take, Nat.min_eq_left (by omega), ← hg] at hv
  generalize bs.getD i 0 = b at *
  by_cases hd : b % 128 = 0
  · rw [hd] at hov
    have : Lib.bitLen 0 = 0 := by decide
    omega
  · obtain ⟨g1, g2, g3⟩ := Lib.bitLenAux_bounds 64 (b % 128) (by omega) hd
    have hle : 2 ^ (Lib.bitLen (b % 128) - 1) ≤ b % 128 := g2
    have h7 : (128 : Nat) ^ i = 2 ^ (7 * i) := by rw [Nat.pow_mul]
    have hm : 2 ^ (7 * i) * 2 ^ (Lib.bitLen (b % 128) - 1) ≤ 128 ^ i * (b % 128 + 128 * v128 (List.drop (i + 1) (numB x))) := by
      rw [h7]
      exact Nat.mul_le_mul_left _ (by omega)
    rw [← Nat.pow_add] at hm
    have : 2 ^ 64 ≤ 2 ^ (7 * i + (Lib.bitLen (b % 128) - 1)) := Nat.pow_le_pow_right (by decide) (by
      have : 1 ≤ Lib.bitLen (b % 128) := g1
      omega)
    omega
end Go.Proofs.Ytcefohjddbjcjaa
