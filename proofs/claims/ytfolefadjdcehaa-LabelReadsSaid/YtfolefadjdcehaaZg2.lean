/- Plain mathematics of bits in a row: n bits are a number V < 2^n, and word i is wd V i; no program in sight. Lists of noughts and ones, and the number that they are; no program in sight. The small calls of bits. A vector of bits as it lies in memory. append: what the old row holds behind it. Num: bits put behind. -/
import Derived.Test.YtfolefadjdcehaaZg1
import Derived.Test.YtfolefadjdcehaaProg
import Derived.WalkKit
import Derived.Laws.BitsAllLaws
import Derived.Deep.AppendLies
import Derived.BigRegion
import Derived.Deep.DeepMust
namespace Go.Proofs.Ytfolefadjdcehaa
set_option linter.unusedVariables false

/-- The word i of the bits that V is. -/
def wd (V i : Nat) : Nat := V / 2 ^ (64 * i) % 2 ^ 64
theorem wd_lt (V i : Nat) : wd V i < 2 ^ 64 := Nat.mod_lt _ (by decide)
theorem wd_bit (V i j : Nat) : (wd V i).testBit j = (decide (j < 64) && V.testBit (64 * i + j)) := by
  unfold wd
  rw [Nat.testBit_mod_two_pow, Nat.testBit_div_two_pow]
  congr 2
  omega
/-- V with x's lowest k bits behind its n bits. -/
def put (V n x k : Nat) : Nat := V + x % 2 ^ k * 2 ^ n
theorem put_lt {V n : Nat} (x k : Nat) (h : V < 2 ^ n) : put V n x k < 2 ^ (n + k) := by
  unfold put
  have h1 : x % 2 ^ k < 2 ^ k := Nat.mod_lt _ (Nat.two_pow_pos k)
  have h2 : x % 2 ^ k * 2 ^ n ≤ (2 ^ k - 1) * 2 ^ n := Nat.mul_le_mul_right _ (by omega)
  have h3 : (2 ^ k - 1) * 2 ^ n = 2 ^ (n + k) - 2 ^ n := by rw [Nat.sub_mul, Nat.one_mul, ← Nat.pow_add, Nat.add_comm k n]
  have h4 : 2 ^ n ≤ 2 ^ (n + k) := Nat.pow_le_pow_right (by omega) (by omega)
  omega
theorem put_bit {V n : Nat} (x k j : Nat) (h : V < 2 ^ n) : (put V n x k).testBit j = if j < n then V.testBit j else (decide (j - n < k) && x.testBit (j - n)) := by
  unfold put
  rw [Nat.add_comm, Nat.mul_comm, Nat.testBit_two_pow_mul_add _ h, Nat.testBit_mod_two_pow]
theorem wd_high {V n i : Nat} (h : V < 2 ^ n) (hi : n ≤ 64 * i) : wd V i = 0 := by
  unfold wd
  rw [Nat.div_eq_of_lt (Nat.lt_of_lt_of_le h (Nat.pow_le_pow_right (by omega) hi))]
/-- The words ahead of the last one stay when bits are put behind. -/
theorem wd_put_low {V n : Nat} (x k i : Nat) (h : V < 2 ^ n) (hi : 64 * i + 64 ≤ n) : wd (put V n x k) i = wd V i := by
  apply Nat.eq_of_testBit_eq
  intro j
  rw [wd_bit, wd_bit]
  by_cases hj : j < 64
  · rw [put_bit x k _ h, if_pos (by omega)]
  · simp [hj]
/-- A new word: the bits fall on its first place. -/
theorem wd_put_new {V n : Nat} (x k i : Nat) (h : V < 2 ^ n) (hi : n = 64 * i) (hk : k ≤ 64) : wd (put V n x k) i = x % 2 ^ k := by
  apply Nat.eq_of_testBit_eq
  intro j
  rw [wd_bit, put_bit x k _ h, if_neg (by omega), show 64 * i + j - n = j by omega, Nat.testBit_mod_two_pow]
  by_cases hj : j < k
  · simp [hj, show j < 64 by omega]
  · simp [hj]
/-- The last word takes what fits. -/
theorem wd_put_last {V n : Nat} (x k i s : Nat) (h : V < 2 ^ n) (hn : n = 64 * i + s) (hs : s < 64) : wd (put V n x k) i = wd V i ||| (x % 2 ^ k * 2 ^ s) % 2 ^ 64 := by
  apply Nat.eq_of_testBit_eq
  intro j
  rw [Nat.testBit_or, wd_bit, wd_bit, put_bit x k _ h, Nat.testBit_mod_two_pow, Nat.mul_comm (x % 2 ^ k), Nat.testBit_two_pow_mul, Nat.testBit_mod_two_pow]
  by_cases hj : j < 64
  · by_cases hjs : j < s
    · simp [hj, show 64 * i + j < n by omega, show ¬ s ≤ j by omega]
    · have hV : V.testBit (64 * i + j) = false := Nat.testBit_lt_two_pow (Nat.lt_of_lt_of_le h (Nat.pow_le_pow_right (by omega) (by omega)))
      rw [if_neg (by omega), show 64 * i + j - n = j - s by omega, hV]
      simp [hj, show s ≤ j by omega]
  · simp [hj]
/-- The word behind the last takes what is left. -/
theorem wd_put_next {V n : Nat} (x k i s : Nat) (h : V < 2 ^ n) (hn : n = 64 * i + s) (hs : s < 64) (hs0 : 0 < s) (hk : k ≤ 64) : wd (put V n x k) (i + 1) = x % 2 ^ k / 2 ^ (64 - s) := by
  apply Nat.eq_of_testBit_eq
  intro j
  rw [wd_bit, put_bit x k _ h, if_neg (by omega), Nat.testBit_div_two_pow, Nat.testBit_mod_two_pow, show 64 * (i + 1) + j - n = 64 - s + j by omega]
  by_cases hj : 64 - s + j < k
  · simp [show j + (64 - s) < k by omega, show j < 64 by omega, Nat.add_comm]
  · simp [show ¬ 64 - s + j < k by omega, show ¬ j + (64 - s) < k by omega]
/-- Bits read out of one word. -/
theorem get_one (V i s k : Nat) (h : s + k ≤ 64) : wd V i / 2 ^ s % 2 ^ k = V / 2 ^ (64 * i + s) % 2 ^ k := by
  apply Nat.eq_of_testBit_eq
  intro j
  rw [Nat.testBit_mod_two_pow, Nat.testBit_mod_two_pow, Nat.testBit_div_two_pow, Nat.testBit_div_two_pow, wd_bit]
  by_cases hj : j < k
  · simp [hj, show j + s < 64 by omega, show 64 * i + (j + s) = j + (64 * i + s) by omega]
  · simp [hj]
/-- Bits read out of two words. -/
theorem get_two (V i s k : Nat) (hs : s < 64) (hs0 : 0 < s) (hk : k ≤ 64) : (wd V i / 2 ^ s ||| wd V (i + 1) * 2 ^ (64 - s) % 2 ^ 64) % 2 ^ k = V / 2 ^ (64 * i + s) % 2 ^ k := by
  apply Nat.eq_of_testBit_eq
  intro j
  rw [Nat.testBit_mod_two_pow, Nat.testBit_mod_two_pow, Nat.testBit_or, Nat.testBit_div_two_pow, Nat.testBit_div_two_pow, wd_bit, Nat.testBit_mod_two_pow, Nat.mul_comm (wd V (i + 1)), Nat.testBit_two_pow_mul, wd_bit]
  by_cases hj : j < k
  · by_cases hjs : j + s < 64
    · simp [hj, hjs, show ¬ 64 - s ≤ j by omega, show 64 * i + (j + s) = j + (64 * i + s) by omega]
    · simp [hj, hjs, show 64 - s ≤ j by omega, show j < 64 by omega, show j - (64 - s) < 64 by omega, show 64 * (i + 1) + (j - (64 - s)) = j + (64 * i + s) by omega]
  · simp [hj]
end Go.Proofs.Ytfolefadjdcehaa
namespace Go.Proofs.Ytfolefadjdcehaa
set_option linter.unusedVariables false

def ofNB (l : List Nat) : List Int := l.map fun (x : Nat) => (x : Int)
theorem ofN_lenB (l : List Nat) : (ofNB l).length = l.length := by simp [ofNB]
theorem ofN_appendB (l m : List Nat) : ofNB (l ++ m) = ofNB l ++ ofNB m := by simp [ofNB]
theorem ofN_takeB (l : List Nat) (k : Nat) : ofNB (l.take k) = (ofNB l).take k := by simp [ofNB, List.map_take]
theorem ofN_dropB (l : List Nat) (k : Nat) : ofNB (l.drop k) = (ofNB l).drop k := by simp [ofNB, List.map_drop]
theorem ofN_getB (l : List Nat) (i : Nat) : (ofNB l).getD i 0 = ((l.getD i 0 : Nat) : Int) := by
  by_cases h : i < l.length
  · simp [ofNB, List.getD_eq_getElem?_getD, h]
  · simp [ofNB, List.getD_eq_getElem?_getD, Nat.le_of_not_lt h]
theorem ofN_injB {l m : List Nat} (h : ofNB l = ofNB m) : l = m := by
  have hl : l.length = m.length := by rw [← ofN_lenB, h, ofN_lenB]
  apply List.ext_getElem hl
  intro i h1 h2
  have := congrArg (fun l => l.getD i 0) h
  simp only [ofN_getB] at this
  simp only [List.getD_eq_getElem?_getD, List.getElem?_eq_getElem h1, List.getElem?_eq_getElem h2, Option.getD_some] at this
  omega

/-- The number of some bits, the lowest first. -/
def val : List Nat → Nat
  | [] => 0
  | b :: l => b + 2 * val l
/-- Noughts and ones. -/
def Bin (l : List Nat) : Prop := ∀ b ∈ l, b < 2
theorem Bin.nil : Bin [] := fun _ h => by cases h
theorem Bin.tail {b : Nat} {l : List Nat} (h : Bin (b :: l)) : Bin l := fun x hx => h x (List.mem_cons_of_mem _ hx)
theorem Bin.head {b : Nat} {l : List Nat} (h : Bin (b :: l)) : b < 2 := h b (List.mem_cons_self ..)
theorem Bin.append {l m : List Nat} (h : Bin l) (k : Bin m) : Bin (l ++ m) := fun x hx => by
  rcases List.mem_append.1 hx with hx | hx
  · exact h x hx
  · exact k x hx
theorem Bin.take {l : List Nat} (h : Bin l) (k : Nat) : Bin (l.take k) := fun x hx => h x (List.mem_of_mem_take hx)
theorem Bin.drop {l : List Nat} (h : Bin l) (k : Nat) : Bin (l.drop k) := fun x hx => h x (List.mem_of_mem_drop hx)
theorem Bin.getD {l : List Nat} (h : Bin l) (i : Nat) : l.getD i 0 < 2 := by
  by_cases hi : i < l.length
  · rw [List.getD_eq_getElem?_getD, List.getElem?_eq_getElem hi]
    exact h _ (List.getElem_mem hi)
  · rw [List.getD_eq_getElem?_getD, List.getElem?_eq_none (by omega)]; decide
theorem val_lt {l : List Nat} (h : Bin l) : val l < 2 ^ l.length := by
  induction l with
  | nil => simp [val]
  | cons b l ih =>
    have h1 := ih h.tail
    have h2 := h.head
    simp only [val, List.length_cons, Nat.pow_succ]
    omega
theorem val_append (l m : List Nat) : val (l ++ m) = val l + 2 ^ l.length * val m := by
  induction l with
  | nil => simp [val]
  | cons b l ih => 
    simp only [List.cons_append, val, ih, List.length_cons, Nat.pow_succ]
    rw [Nat.mul_add, ← Nat.mul_assoc, Nat.mul_comm 2 (2 ^ l.length)]
    omega
theorem val_bit {l : List Nat} (h : Bin l) (i : Nat) : val l / 2 ^ i % 2 = l.getD i 0 := by
  induction l generalizing i with
  | nil => simp [val]
  | cons b l ih =>
    have hb := h.head
    cases i with
    | zero => simp [val]; omega
    | succ i =>
      have e : (b + 2 * val l) / 2 ^ (i + 1) = val l / 2 ^ i := by
        rw [Nat.pow_succ, Nat.mul_comm (2 ^ i) 2, ← Nat.div_div_eq_div_mul]
        congr 1; omega
      simp only [val, e, List.getD_cons_succ]
      exact ih h.tail i
theorem val_inj {l m : List Nat} (h : Bin l) (k : Bin m) (hl : l.length = m.length) (e : val l = val m) : l = m := by
  apply List.ext_getElem hl
  intro i h1 h2
  have a := val_bit h i
  have b := val_bit k i
  rw [e, b] at a
  simpa [List.getD_eq_getElem?_getD, List.getElem?_eq_getElem h1, List.getElem?_eq_getElem h2] using a.symm
/-- A number's k lowest bits. -/
def numL (x k : Nat) : List Nat := (List.range k).map fun i => x / 2 ^ i % 2
theorem numL_len (x k : Nat) : (numL x k).length = k := by simp [numL]
theorem numL_bin (x k : Nat) : Bin (numL x k) := fun b hb => by
  simp only [numL, List.mem_map] at hb
  obtain ⟨i, _, rfl⟩ := hb
  exact Nat.mod_lt _ (by decide)
theorem numL_next (x k : Nat) : numL x (k + 1) = numL x k ++ [x / 2 ^ k % 2] := by simp [numL, List.range_succ]
theorem mod_next (x k : Nat) : x % 2 ^ (k + 1) = x % 2 ^ k + 2 ^ k * (x / 2 ^ k % 2) := by rw [Nat.pow_succ, Nat.mod_mul]
theorem val_numL (x k : Nat) : val (numL x k) = x % 2 ^ k := by
  induction k with
  | zero => simp [numL, val, Nat.mod_one]
  | succ k ih => rw [numL_next, val_append, ih, numL_len, mod_next]; simp [val]
theorem val_take {l : List Nat} (h : Bin l) (k : Nat) : val (l.take k) = val l % 2 ^ k := by
  by_cases hk : k ≤ l.length
  · have e := val_append (l.take k) (l.drop k)
    rw [List.take_append_drop, List.length_take, Nat.min_eq_left hk] at e
    rw [e, Nat.add_mul_mod_self_left]
    have := val_lt (h.take k)
    rw [List.length_take, Nat.min_eq_left hk] at this
    exact (Nat.mod_eq_of_lt this).symm
  · rw [List.take_of_length_le (by omega)]
    exact (Nat.mod_eq_of_lt (Nat.lt_of_lt_of_le (val_lt h) (Nat.pow_le_pow_right (by omega) (by omega)))).symm
theorem val_drop {l : List Nat} (h : Bin l) (k : Nat) : val (l.drop k) = val l / 2 ^ k := by
  by_cases hk : k ≤ l.length
  · have e := val_append (l.take k) (l.drop k)
    rw [List.take_append_drop, List.length_take, Nat.min_eq_left hk] at e
    have := val_lt (h.take k)
    rw [List.length_take, Nat.min_eq_left hk] at this
    rw [e, Nat.add_comm, Nat.mul_add_div (Nat.two_pow_pos k), Nat.div_eq_of_lt this, Nat.add_zero]
  · rw [List.drop_of_length_le (by omega), Nat.div_eq_of_lt (Nat.lt_of_lt_of_le (val_lt h) (Nat.pow_le_pow_right (by omega) (by omega)))]
    rfl
/-- Bits put behind a list's number. -/
theorem put_val {l m : List Nat} (hm : Bin m) : put (val l) l.length (val m) m.length = val (l ++ m) := by
  unfold put
  rw [val_append, Nat.mod_eq_of_lt (val_lt hm), Nat.mul_comm]
theorem put_numL (l : List Nat) (x k : Nat) : put (val l) l.length x k = val (l ++ numL x k) := by
  unfold put
  rw [val_append, val_numL, Nat.mul_comm]
theorem numL_val {l : List Nat} (h : Bin l) (k : Nat) (hk : k ≤ l.length) : numL (val l) k = l.take k := by
  refine val_inj (numL_bin _ _) (h.take k) (by rw [numL_len, List.length_take, Nat.min_eq_left hk]) ?_
  rw [val_numL, val_take h]
/-- A number of bits in two parts is the number at once. -/
theorem put_two (x a b : Nat) : put (put 0 0 x a) (0 + a) (x / 2 ^ a) b = put 0 0 x (a + b) := by
  unfold put
  simp only [Nat.zero_add, Nat.pow_zero, Nat.mul_one]
  rw [Nat.pow_add, Nat.mod_mul, Nat.mul_comm]
/-- Bits of bytes, not more than so many. -/
def few (bs : List Nat) (m : Nat) : List Nat := (bs.flatMap fun b => numL b 8).take m
theorem flat_bin (bs : List Nat) : Bin (bs.flatMap fun b => numL b 8) := fun x hx => by
  obtain ⟨b, _, h⟩ := List.mem_flatMap.1 hx
  exact numL_bin b 8 x h
theorem few_bin (bs : List Nat) (m : Nat) : Bin (few bs m) := (flat_bin bs).take m
theorem flat_len (bs : List Nat) : (bs.flatMap fun b => numL b 8).length = 8 * bs.length := by
  induction bs with
  | nil => rfl
  | cons b bs ih => simp only [List.flatMap_cons, List.length_append, ih, numL_len, List.length_cons]; omega
theorem few_len (bs : List Nat) (m : Nat) : (few bs m).length = min m (8 * bs.length) := by rw [few, List.length_take, flat_len]
/-- On the way: k bytes and i bits of the next one. -/
def fewTo (bs : List Nat) (m k i : Nat) : List Nat := (((bs.take k).flatMap fun b => numL b 8) ++ numL (bs.getD k 0) i).take m
theorem fewTo_start (bs : List Nat) (m : Nat) : fewTo bs m 0 0 = [] := by simp [fewTo, numL]
theorem fewTo_bit (bs : List Nat) (m k i : Nat) (h : (fewTo bs m k i).length < m) : fewTo bs m k (i + 1) = fewTo bs m k i ++ [bs.getD k 0 / 2 ^ i % 2] := by
  unfold fewTo at h ⊢
  generalize ((bs.take k).flatMap fun b => numL b 8) = F at *
  rw [List.length_take] at h
  rw [numL_next, ← List.append_assoc, List.take_of_length_le (by simp only [List.length_append, List.length_cons, List.length_nil] at h ⊢; omega), List.take_of_length_le (by omega)]
theorem fewTo_full (bs : List Nat) (m k i j : Nat) (hij : i ≤ j) (h : ¬ (fewTo bs m k i).length < m) : fewTo bs m k j = fewTo bs m k i := by
  unfold fewTo at h ⊢
  generalize ((bs.take k).flatMap fun b => numL b 8) = F at *
  rw [List.length_take] at h
  have e : numL (bs.getD k 0) j = numL (bs.getD k 0) i ++ (numL (bs.getD k 0) j).drop i := by
    have h1 : numL (bs.getD k 0) i = (numL (bs.getD k 0) j).take i := by
      simp only [numL, ← List.map_take, List.take_range, Nat.min_eq_left hij]
    rw [h1, List.take_append_drop]
  rw [e, ← List.append_assoc, List.take_append_of_le_length (by omega)]
theorem fewTo_next (bs : List Nat) (m k : Nat) (hk : k < bs.length) : fewTo bs m k 8 = fewTo bs m (k + 1) 0 := by
  unfold fewTo
  rw [← List.take_append_getElem hk, List.flatMap_append]
  simp [numL, List.getD_eq_getElem?_getD, List.getElem?_eq_getElem hk]
theorem fewTo_end (bs : List Nat) (m : Nat) : fewTo bs m bs.length 0 = few bs m := by
  unfold fewTo few
  simp [numL]
theorem fewTo_le (bs : List Nat) (m k i : Nat) : (fewTo bs m k i).length ≤ 8 * k + i := by
  unfold fewTo
  rw [List.length_take, List.length_append, flat_len, numL_len, List.length_take]
  omega
/-- What Add makes of numbers. -/
def bit1 (x : Int) : Nat := if x = 0 then 0 else 1
theorem bit1_bin (z : List Int) : Bin (z.map bit1) := fun b hb => by
  simp only [List.mem_map] at hb
  obtain ⟨x, _, rfl⟩ := hb
  unfold bit1; split <;> decide
theorem bit1_ofN {l : List Nat} (h : Bin l) : (ofNB l).map bit1 = l := by
  induction l with
  | nil => rfl
  | cons b l ih =>
    have := h.head
    simp only [ofNB, List.map_cons, List.cons.injEq] at ih ⊢
    refine ⟨?_, ih h.tail⟩
    unfold bit1; split <;> omega
theorem put_one (l : List Nat) (x : Int) : put (val l) l.length (bit1 x) 1 = val (l ++ [bit1 x]) := by
  have h : Bin [bit1 x] := fun b hb => by
    simp only [List.mem_singleton] at hb
    subst hb; unfold bit1; split <;> decide
  have := put_val (l := l) h
  simpa [val] using this
end Go.Proofs.Ytfolefadjdcehaa
namespace Go.Proofs.Ytfolefadjdcehaa
open Go.RowKit
set_option linter.unusedVariables false

/-- As a count of a number's bits. -/
def cnt64 (k : Int) : Nat := if k ≤ 0 then 0 else if 64 ≤ k then 64 else k.toNat
theorem count_p (k : Int) (w : World) (h : -9223372036854775808 ≤ k ∧ k ≤ 9223372036854775807) :
    Calls Try.prog 61 #[.int .i64 k] w fun e w' => e = .returned (.int .i64 (cnt64 k : Int)) ∧ w = w' := by
  obtain ⟨m, hm, hm0⟩ : ∃ m : Int, (∀ w, (Builtin.max_ #[3, 3] 3 #[.int .i64 k, .int .i64 0]).run Try.prog w = .ok (.int .i64 m) w) ∧ m = (if k ≤ 0 then 0 else k) :=
    ⟨if k ≤ 0 then 0 else k, fun w => by simp [Builtin.max_, Builtin.max2]; split <;> split <;> omega, rfl⟩
  have hmn : ∀ w, (Builtin.min_ #[3, 3] 3 #[.int .i64 m, .int .i64 64]).run Try.prog w = .ok (.int .i64 ((cnt64 k : Nat) : Int)) w := fun w => by
    simp [Builtin.min_, Builtin.min2, cnt64]
    repeat' split
    all_goals (first | rfl | omega | (subst hm0; repeat' split at * <;> omega) | (simp_all; omega))
  generalize cnt64 k = c at *
  clear hm0
  go_enter Try.func61, Try.ntmps61
  go_wp2
  go_ret
  exact ⟨rfl, rfl⟩
theorem low_eq : ∀ k : Nat, k < 65 → (18446744073709551615 : Int) / 2 ^ (64 - k) = ((2 ^ k - 1 : Nat) : Int) := by decide +kernel
theorem low_p (k : Nat) (w : World) (h : k ≤ 64) :
    Calls Try.prog 62 #[.int .i64 (k : Int)] w fun e w' => e = .returned (.int .u64 ((2 ^ k - 1 : Nat) : Int)) ∧ w = w' := by
  go_enter Try.func62, Try.ntmps62
  go_wp2
  go_ret
  exact ⟨congrArg (fun x => Ending.returned (.int .u64 x)) (low_eq k (by omega)), rfl⟩
end Go.Proofs.Ytfolefadjdcehaa
namespace Go.Proofs.Ytfolefadjdcehaa
open Go.RowKit
set_option linter.unusedVariables false

def U64 (z : List Nat) : List Value := z.map fun (x : Nat) => Value.int .u64 (x : Int)
theorem U64_len (z : List Nat) : (U64 z).length = z.length := by simp [U64]
theorem U64_append (l m : List Nat) : U64 (l ++ m) = U64 l ++ U64 m := by simp [U64]
theorem U64_set (y : List Nat) (k v : Nat) : U64 (y.set k v) = (U64 y).set k (.int .u64 (v : Int)) := by simp [U64, List.map_set]
theorem U64_get (z : List Nat) (k : Nat) (hk : k < z.length) : (U64 z)[k]? = some (.int .u64 ((z.getD k 0 : Nat) : Int)) := by
  simp [U64, List.getD_eq_getElem?_getD, List.getElem?_eq_getElem hk]
/-- The words of n bits. -/
def words (V m : Nat) : List Nat := (List.range m).map (wd V)
theorem words_len (V m : Nat) : (words V m).length = m := by simp [words]
theorem words_get (V m i : Nat) (h : i < m) : (words V m).getD i 0 = wd V i := by simp [words, List.getD_eq_getElem?_getD, h]
theorem words_next (V m : Nat) : words V (m + 1) = words V m ++ [wd V m] := by simp [words, List.range_succ]
/-- At g lies the vector whose n bits are V; its words lie in a row of its own. -/
def VecB (w : World) (B g V n : Nat) (A : Option Addr) : Prop :=
  V < 2 ^ n ∧ n ≤ 1000000 ∧ ∃ c, Blk w g 76 #[.slice A ((n + 63) / 64) c, .int .i64 (n : Int)] ∧
    w.ownsRow B 72 1 (.slice A ((n + 63) / 64) c) ((n + 63) / 64) (U64 (words V ((n + 63) / 64)))
/-- The same, where the row was made behind the vector. -/
def VecAt (w : World) (g V n : Nat) (A : Option Addr) : Prop := VecB w (g + 1) g V n A
theorem VecB.below {w w' : World} {B g V n : Nat} {A : Option Addr} (h : VecB w B g V n A) (m : Below w.heap.size w w') : VecB w' B g V n A := by
  obtain ⟨h1, h2, c, h3, h4⟩ := h
  exact ⟨h1, h2, c, h3.below m, own_below h4 m⟩
theorem VecB.base {w : World} {B B' g V n : Nat} {A : Option Addr} (h : VecB w B g V n A) (hB : B' ≤ B) : VecB w B' g V n A := by
  obtain ⟨h1, h2, c, h3, h4⟩ := h
  exact ⟨h1, h2, c, h3, h4.base_le' hB⟩
/-- The blocks of a vector. -/
def foot (g : Nat) (A : Option Addr) (i : Nat) : Prop := i = g ∨ ∃ b, A = some ⟨b, 0, none⟩ ∧ i = b
theorem VecB.foot_lt {w : World} {B g V n : Nat} {A : Option Addr} (h : VecB w B g V n A) {i : Nat} (hi : foot g A i) : i < w.heap.size := by
  obtain ⟨h1, h2, c, h3, h4⟩ := h
  rcases hi with rfl | ⟨b, rfl, rfl⟩
  · exact h3.lt
  · exact (h4.lt _ rfl).2
theorem VecB.foot_le {w : World} {B g V n : Nat} {A : Option Addr} (h : VecB w B g V n A) {i : Nat} (hi : foot g A i) : i = g ∨ B ≤ i := by
  obtain ⟨h1, h2, c, h3, h4⟩ := h
  rcases hi with rfl | ⟨b, rfl, rfl⟩
  · exact .inl rfl
  · exact .inr (h4.lt _ rfl).1
theorem VecB.mod {w w' : World} {S : Nat → Prop} {B g V n : Nat} {A : Option Addr} (h : VecB w B g V n A) (m : Mod S w w') (hs : ∀ i, foot g A i → ¬ S i) : VecB w' B g V n A := by
  obtain ⟨h1, h2, c, h3, h4⟩ := h
  refine ⟨h1, h2, c, h3.mod m (hs g (.inl rfl)), own_mod h4 m fun k hk => hs k (.inr ?_)⟩
  rcases h4.2 with ⟨e, _⟩ | ⟨b, cap, cur, e, _⟩
  · simp only [Value.slice.injEq] at e
    rw [e.1] at hk; simp [Value.ownBlock] at hk
  · simp only [Value.slice.injEq] at e
    rw [e.1] at hk ⊢
    simp [Value.ownBlock] at hk
    exact ⟨b, rfl, hk.symm⟩
theorem VecAt.below {w w' : World} {g V n : Nat} {A : Option Addr} (h : VecAt w g V n A) (m : Below w.heap.size w w') : VecAt w' g V n A := VecB.below h m
theorem bnew_p (w : World) :
    Calls Try.prog 22 #[] w fun e w' => e = .returned (.pointer (some ⟨w.heap.size, 0, none⟩)) ∧ VecAt w' w.heap.size 0 0 none ∧ Below w.heap.size w w' := by
  go_enter Try.func22, Try.ntmps22
  go_wp2
  go_ret
  refine ⟨rfl, ⟨by decide, by omega, 0, ?_, ?_⟩, (Below.refl _ _).alloc (Nat.le_refl _) _⟩
  · exact Blk.new w _ _
  · simpa [words, U64] using World.ownsRow_nil _ _ _ _
theorem blen_p (g V n : Nat) (A : Option Addr) (w : World) {B : Nat} (h : VecB w B g V n A) :
    Calls Try.prog 16 #[.pointer (some ⟨g, 0, none⟩)] w fun e w' => e = .returned (.int .i64 (n : Int)) ∧ w = w' := by
  obtain ⟨h1, h2, c, hb, ho⟩ := h
  have c1 : w.cell? ⟨g, 1, none⟩ = some (.int .i64 (n : Int)) := hb.cell 1
  clear hb ho
  go_enter Try.func16, Try.ntmps16
  go_wp2
  go_ret
  exact ⟨rfl, rfl⟩
theorem blen_nil (w : World) :
    Calls Try.prog 16 #[.pointer none] w fun e w' => e = .returned (.int .i64 0) ∧ w = w' := by
  go_enter Try.func16, Try.ntmps16
  go_wp2
  go_ret
  exact ⟨rfl, rfl⟩
theorem wrap_u64 (y s : Nat) : IntKind.u64.wrap ((y : Int) * 2 ^ s) = ((y * 2 ^ s % 2 ^ 64 : Nat) : Int) := by
  simp [IntKind.wrap, IntKind.signed, IntKind.bits]
/-- The k bits from the place p on. -/
theorem get_p (g V n p k : Nat) (A : Option Addr) (w : World) {B : Nat} (h : VecB w B g V n A) (hk0 : 1 ≤ k) (hk : k ≤ 64) (hp : p + k ≤ n) :
    Calls Try.prog 63 #[.pointer (some ⟨g, 0, none⟩), .int .i64 (p : Int), .int .i64 (k : Int)] w fun e w' => e = .returned (.int .u64 ((V / 2 ^ p % 2 ^ k : Nat) : Int)) ∧ w = w' := by
  obtain ⟨h1, h2, c, hb, ho⟩ := h
  have c0 : w.cell? ⟨g, 0, none⟩ = some (.slice A ((n + 63) / 64) c) := hb.cell 0
  obtain ⟨m, hm⟩ : ∃ m, m = (n + 63) / 64 := ⟨_, rfl⟩
  rw [← hm] at c0 ho
  obtain ⟨b, rfl, hb1, hb2⟩ := own_some ho (by omega)
  have cell : ∀ i, i < m → w.cell? ⟨b, i, none⟩ = some (.int .u64 ((wd V i : Nat) : Int)) := fun i hi => by
    have r := Rd.ofOwn ho
    obtain ⟨b', o', e, _, hc⟩ := r.at_ (by omega)
    have hl : i < (U64 (words V m)).length := by rw [U64_len, words_len]; exact hi
    have := hc i hl
    cases e
    rw [Nat.zero_add] at this
    rw [this]
    have h3 := U64_get (words V m) i (by rw [words_len]; exact hi)
    rw [words_get _ _ _ hi, List.getElem?_eq_getElem hl] at h3
    exact h3
  obtain ⟨i, hi⟩ : ∃ i, i = p / 64 := ⟨_, rfl⟩
  obtain ⟨s, hs⟩ : ∃ s, s = p % 64 := ⟨_, rfl⟩
  have hs64 : s < 64 := by omega
  have him : i < m := by omega
  have ci := cell i him
  have q1 : (p : Int) / 64 = (i : Int) := by omega
  have q2 : (p : Int) % 64 = (s : Int) := by omega
  have hpi : p = 64 * i + s := by omega
  have LOW := Lib.hid (low_p k w hk)
  by_cases hsk : s + k ≤ 64
  · have G := get_one V i s k hsk
    rw [← hpi] at G
    rw [← G]
    clear G hm hi hs cell hb ho h1
    have hp0 : p ≤ 1000000 := by omega
    have hi0 : i ≤ 1000000 := by omega
    clear hpi hp
    have HX : Hid (wd V i < 2 ^ 64) := wd_lt V i
    generalize wd V i = x at *
    have HSK : ((s : Int) + (k : Int) ≤ 64) := by omega
    clear hsk
    go_enter Try.func63, Try.ntmps63
    go_wp2_with fail
    refine LOW.out.mono ?_
    rintro e w1 ⟨rfl, rfl⟩
    go_wp2
    go_ret
    refine ⟨congrArg (fun z => Ending.returned (.int .u64 z)) ?_, rfl⟩
    have e : ((x : Int) / 2 ^ s) = ((x / 2 ^ s : Nat) : Int) := by simp
    rw [e, u64_and_nat _ _ (Nat.lt_of_le_of_lt (Nat.div_le_self _ _) HX.out) (Nat.lt_of_lt_of_le (Nat.sub_lt (Nat.two_pow_pos k) Nat.one_pos) (Nat.pow_le_pow_right (by omega) hk)), Nat.and_two_pow_sub_one_eq_mod]
  · have hs0 : 0 < s := by omega
    have him2 : i + 1 < m := by omega
    have cj := cell (i + 1) him2
    have G := get_two V i s k hs64 hs0 hk
    rw [← hpi] at G
    rw [← G]
    have HX : Hid (wd V i < 2 ^ 64) := wd_lt V i
    have HY : Hid (wd V (i + 1) < 2 ^ 64) := wd_lt V (i + 1)
    have hp0 : p ≤ 1000000 := by omega
    have hi0 : i ≤ 1000000 := by omega
    clear G hm hi hs cell hb ho h1 hpi hp
    generalize wd V i = x at *
    generalize wd V (i + 1) = y at *
    have HSK : (64 : Int) < (s : Int) + (k : Int) := by omega
    clear hsk
    go_enter Try.func63, Try.ntmps63
    go_wp2_with fail
    refine LOW.out.mono ?_
    rintro e w1 ⟨rfl, rfl⟩
    go_wp2
    go_ret
    refine ⟨congrArg (fun z => Ending.returned (.int .u64 z)) ?_, rfl⟩
    have e : ((x : Int) / 2 ^ s) = ((x / 2 ^ s : Nat) : Int) := by simp
    have hl1 : x / 2 ^ s < 18446744073709551616 := Nat.lt_of_le_of_lt (Nat.div_le_self _ _) HX.out
    have hl2 : y * 2 ^ (64 - s) % 2 ^ 64 < 18446744073709551616 := Nat.mod_lt _ (by decide)
    have hl3 : (x / 2 ^ s ||| y * 2 ^ (64 - s) % 2 ^ 64) < 18446744073709551616 := Nat.or_lt_two_pow (n := 64) hl1 hl2
    rw [e, wrap_u64, u64_or_nat _ _ hl1 hl2, u64_and_nat _ _ hl3 (Nat.lt_of_lt_of_le (Nat.sub_lt (Nat.two_pow_pos k) Nat.one_pos) (Nat.pow_le_pow_right (by omega) hk)), Nat.and_two_pow_sub_one_eq_mod]
end Go.Proofs.Ytfolefadjdcehaa
namespace Go.Proofs.Ytfolefadjdcehaa
open Go.RowKit
set_option linter.unusedVariables false
section
variable {P : Program} (w : World)
/-- What the old row holds: the elements that it held. -/
def Keeps (w' : World) (v : Value) (n : Nat) (xs : List Value) : Prop := ∀ g c, v = .slice (some ⟨g, 0, none⟩) n c → ∀ j u, xs[j]? = some u → w'.cell? ⟨g, j, none⟩ = some u
theorem append_keeps (t ty : TypeId) (base : Nat) (e : TypeId) (i : TypeInfo) (z : Value) (size bytes : Nat) (ht : P.underlying t = some (.slice e)) (hi : P.info? e = some i) (hz : i.zero = some z)
    (hsize : i.size = size) (hby : i.bytes = bytes) (hzs : z.cells.size = size) (hsz : 0 < size)
    (v : Value) (n : Nat) (xs : List Value) (hown : w.ownsRow base e size v n xs)
    (ad : Addr) (m c : Nat) (news : List Value) (hl : news.length = m * size) (hnews : ∀ j u, news[j]? = some u → w.cell? (ad.add j) = some u) (h1 : ∀ u ∈ news, u.oneCell' = true)
    (hm : 0 < m) (h63 : n + m ≤ maxLen) (hbytes : (n + m) * bytes ≤ 140737488355328)
    {g' cap' : Nat} {w' : World} (hr : (Builtin.append_ #[t, t] ty #[v, .slice (some ad) m c]).run P w = .ok (.slice (some ⟨g', 0, none⟩) (n + m) cap') w')
    (hown' : w'.ownsRow base e size (.slice (some ⟨g', 0, none⟩) (n + m) cap') (n + m) (xs ++ news)) : Keeps w' v n xs := by
  subst hsize
  subst hby
  intro g0 c0 hv j u hu
  subst hv
  have hsmall : n + m ≤ 9223372036854775807 := by simp only [maxLen] at h63; omega
  rcases hown.2 with ⟨hx, _⟩ | ⟨g, cap, cur, hv, hbg, hg, hnc, hcm, hcs, htake⟩
  · cases hx
  · simp only [Value.slice.injEq, Option.some.injEq, Addr.mk.injEq, and_true, true_and] at hv
    obtain ⟨rfl, rfl⟩ := hv
    by_cases hroom : n + m ≤ c0
    · have hfit : n * i.size + news.length ≤ cur.size := by rw [hl, hcs, ← Nat.add_mul]; exact Nat.mul_le_mul_right _ hroom
      have hr2 := run_append_room (P := P) w t ty e i ht hi g0 n c0 cur hg ad m c news hl hnews h1 hroom hfit
      rw [hr2] at hr
      simp only [Result.ok.injEq, Value.slice.injEq, Option.some.injEq, Addr.mk.injEq, and_true, true_and] at hr
      obtain ⟨⟨rfl, rfl⟩, rfl⟩ := hr
      have hjl := (List.getElem?_eq_some_iff.1 hu).1
      have := hown'.cellAt j (by have h9 := hown'.1; rw [List.length_append] at h9; omega)
      rw [this, List.getElem?_append_left hjl, hu]
    · have holds : ∀ j u, xs[j]? = some u → w.cell? ((⟨g0, 0, none⟩ : Addr).add j) = some u := hown.cells (g := g0) rfl
      have hr2 := run_append_grow (P := P) w t ty e i z ht hi hz ⟨g0, 0, none⟩ n c0 xs hown.1 holds ad m c news hl hnews (by omega) (by omega) (growslice_fits (by omega) hbytes)
      rw [hr2] at hr
      simp only [Result.ok.injEq] at hr
      obtain ⟨_, rfl⟩ := hr
      have hc := hown.cellAt j (by have h9 := hown.1; have := (List.getElem?_eq_some_iff.1 hu).1; omega)
      rw [hu] at hc
      have hlt := World.block_lt_of_cell? _ _ hc
      exact (World.cell?_alloc_lt _ _ _ hlt).trans hc
theorem step_append_keep {ops : Array Oper} {o : Oper} {a : Act} {K : Act → World → Prop} {Q : Exit → Act → World → Prop} {E : Prop} (hgd : o.guard = none) (s x : Operand) (t : TypeId)
    (ho : o.op = .call { callee := .builtin .append, args := #[s, x], argTypes := #[t, t] })
    (base : Nat) (e : TypeId) (i : TypeInfo) (z : Value) (size bytes : Nat) (ht : P.underlying t = some (.slice e)) (hi : P.info? e = some i) (hz : i.zero = some z)
    (hsize : i.size = size) (hby : i.bytes = bytes) (hzs : z.cells.size = size) (hsz : 0 < size)
    (v : Value) (n : Nat) (xs : List Value) (hs : a.eval s = v) (hown : w.ownsRow base e size v n xs)
    (ad : Addr) (m c : Nat) (news : List Value) (hx : a.eval x = .slice (some ad) m c) (hl : news.length = m * size) (hnews : ∀ j u, news[j]? = some u → w.cell? (ad.add j) = some u) (h1 : ∀ u ∈ news, u.oneCell' = true)
    (hm : 0 < m) (h63 : n + m ≤ maxLen) (hbytes : (n + m) * bytes ≤ 140737488355328) (hbase : base ≤ w.heap.size) (H : Nat) (hH : w.heap.size = H)
    (h : ∀ g cap w', w'.ownsRow base e size (.slice (some ⟨g, 0, none⟩) (n + m) cap) (n + m) (xs ++ news) → w.grownBy w' v.ownBlock → (v.ownBlock = some g ∨ g = H) → g < w'.heap.size → Keeps w' v n xs → K (a.put o.dst (.slice (some ⟨g, 0, none⟩) (n + m) cap)) w') :
    if Region.wanted o (yielded ops a.tmps) = true then Oper.wp P o a w K Q else E := by
  have hw : Region.wanted o (yielded ops a.tmps) = true := by simp [Region.wanted, hgd]
  rw [if_pos hw]
  obtain ⟨g, cap, w', hr, h2, h3, h4, h5⟩ := run_append_lies (P := P) w t o.type base e i z size bytes ht hi hz hsize hby hzs hsz v n xs hown ad m c news hl hnews h1 hm h63 hbytes hbase H hH
  have hk := append_keeps (P := P) w t o.type base e i z size bytes ht hi hz hsize hby hzs hsz v n xs hown ad m c news hl hnews h1 hm h63 hbytes hr h2
  unfold Oper.wp execOp
  simp only [ho, resolve, invoke, builtin, Sem.run_bind, Sem.run_pure, Result.andThen_ok, List.map_toArray, List.map_cons, List.map_nil, hs, hx, hr]
  exact h g cap w' h2 h3 h4 h5 hk
theorem wpList_append_keep {ops : Array Oper} {rest : List Oper} {o : Oper} {a : Act} {Q : Exit → Act → World → Prop} (hgd : o.guard = none) (s x : Operand) (t : TypeId)
    (ho : o.op = .call { callee := .builtin .append, args := #[s, x], argTypes := #[t, t] })
    (base : Nat) (e : TypeId) (i : TypeInfo) (z : Value) (size bytes : Nat) (ht : P.underlying t = some (.slice e)) (hi : P.info? e = some i) (hz : i.zero = some z)
    (hsize : i.size = size) (hby : i.bytes = bytes) (hzs : z.cells.size = size) (hsz : 0 < size)
    (v : Value) (n : Nat) (xs : List Value) (hs : a.eval s = v) (hown : w.ownsRow base e size v n xs)
    (ad : Addr) (m c : Nat) (news : List Value) (hx : a.eval x = .slice (some ad) m c) (hl : news.length = m * size) (hnews : ∀ j u, news[j]? = some u → w.cell? (ad.add j) = some u) (h1 : ∀ u ∈ news, u.oneCell' = true)
    (hm : 0 < m) (h63 : n + m ≤ maxLen) (hbytes : (n + m) * bytes ≤ 140737488355328) (hbase : base ≤ w.heap.size) (H : Nat) (hH : w.heap.size = H)
    (h : ∀ g cap w', w'.ownsRow base e size (.slice (some ⟨g, 0, none⟩) (n + m) cap) (n + m) (xs ++ news) → w.grownBy w' v.ownBlock → (v.ownBlock = some g ∨ g = H) → g < w'.heap.size → Keeps w' v n xs → wpList P ops Q rest (a.put o.dst (.slice (some ⟨g, 0, none⟩) (n + m) cap)) w') : wpList P ops Q (o :: rest) a w :=
  wpList_wanted (by simp [Region.wanted, hgd]) fun _ hK => by
    obtain ⟨g, cap, w', hr, h2, h3, h4, h5⟩ := run_append_lies (P := P) w t o.type base e i z size bytes ht hi hz hsize hby hzs hsz v n xs hown ad m c news hl hnews h1 hm h63 hbytes hbase H hH
    have hk := append_keeps (P := P) w t o.type base e i z size bytes ht hi hz hsize hby hzs hsz v n xs hown ad m c news hl hnews h1 hm h63 hbytes hr h2
    unfold Oper.wp execOp
    simp only [ho, resolve, invoke, builtin, Sem.run_bind, Sem.run_pure, Result.andThen_ok, List.map_toArray, List.map_cons, List.map_nil, hs, hx, hr]
    exact hK _ _ (h g cap w' h2 h3 h4 h5 hk)
end
end Go.Proofs.Ytfolefadjdcehaa
namespace Go.Proofs.Ytfolefadjdcehaa
open Go.RowKit
set_option linter.unusedVariables false

theorem num_nil (x : Nat) (k : Int) (w : World) (h : -9223372036854775808 ≤ k ∧ k ≤ 9223372036854775807) :
    Calls Try.prog 45 #[.pointer none, .int .u64 (x : Int), .int .i64 k] w fun e w' => e = .returned (.tuple #[]) ∧ w = w' := by
  have C := Lib.hid (count_p k w h)
  go_enter Try.func45, Try.ntmps45
  go_wp2_with fail
  refine C.out.mono ?_
  rintro e w' ⟨rfl, rfl⟩
  go_wp2
  exact bodyPost_ret (results_none rfl _ _ _) rfl ⟨rfl, rfl⟩
theorem num_zeroB (g x : Nat) (k : Int) (w : World) (h : -9223372036854775808 ≤ k ∧ k ≤ 0) :
    Calls Try.prog 45 #[.pointer (some ⟨g, 0, none⟩), .int .u64 (x : Int), .int .i64 k] w fun e w' => e = .returned (.tuple #[]) ∧ w = w' := by
  have C := Lib.hid (count_p k w ⟨h.1, by omega⟩)
  have hc : cnt64 k = 0 := by unfold cnt64; rw [if_pos h.2]
  rw [hc] at C
  go_enter Try.func45, Try.ntmps45
  go_wp2_with fail
  refine C.out.mono ?_
  rintro e w' ⟨rfl, rfl⟩
  go_wp2
  exact bodyPost_ret (results_none rfl _ _ _) rfl ⟨rfl, rfl⟩

/-- What the old row holds behind Num: each word as it was, or as it is now. -/
def OldK (w' : World) (A : Option Addr) (V V' n : Nat) : Prop :=
  ∀ b, A = some ⟨b, 0, none⟩ → ∀ i, i < (n + 63) / 64 → w'.cell? ⟨b, i, none⟩ = some (.int .u64 ((wd V i : Nat) : Int)) ∨ w'.cell? ⟨b, i, none⟩ = some (.int .u64 ((wd V' i : Nat) : Int))
theorem OldK.same {w' : World} {g V V' n n' : Nat} {A : Option Addr} (h : VecAt w' g V' n' A) (hn : n ≤ n') : OldK w' A V V' n := by
  obtain ⟨_, _, c, _, ho⟩ := h
  intro b hb i hi
  subst hb
  right
  rw [ho.cellAt i (by omega), U64_get _ _ (by rw [words_len]; omega), words_get _ _ _ (by omega)]
theorem info_u64 : (Try.prog.info? 72).map (fun i => (i.zero, i.size, i.bytes)) = some (some (.int .u64 0), 1, 8) := by kernel_rfl
set_option maxRecDepth 20000 in
set_option maxHeartbeats 2000000 in
theorem num_new (g V n x kk : Nat) (k : Int) (A : Option Addr) (w : World) (h : VecAt w g V n A) (hx : x < 2 ^ 64) (hk : -9223372036854775808 ≤ k ∧ k ≤ 9223372036854775807) (hkk : cnt64 k = kk) (hk1 : 1 ≤ kk) (hk64 : kk ≤ 64) (hn : n + 64 ≤ 1000000) (hs : n % 64 = 0) :
    Calls Try.prog 45 #[.pointer (some ⟨g, 0, none⟩), .int .u64 (x : Int), .int .i64 k] w fun e w' => e = .returned (.tuple #[]) ∧
      ∃ A', VecAt w' g (put V n x kk) (n + kk) A' ∧ Mod (fun i => i = g ∨ (∃ b, A = some ⟨b, 0, none⟩ ∧ i = b)) w w' ∧ (A' = A ∨ ∃ b, A' = some ⟨b, 0, none⟩ ∧ w.heap.size ≤ b) ∧ OldK w' A V (put V n x kk) n := by
  have C := Lib.hid (count_p k w hk)
  rw [hkk] at C
  have L := Lib.hid (low_p kk w hk64)
  obtain ⟨i0, hi0, hz0, hz1, hz2⟩ := info_parts info_u64
  obtain ⟨hV, hn1, c, hb, ho⟩ := h
  obtain ⟨m, hm⟩ : ∃ m, m = (n + 63) / 64 := ⟨_, rfl⟩
  rw [← hm] at hb ho
  have c0 : w.cell? ⟨g, 0, none⟩ = some (.slice A m c) := hb.cell 0
  have c1 : w.cell? ⟨g, 1, none⟩ = some (.int .i64 (n : Int)) := hb.cell 1
  obtain ⟨X, hX⟩ : ∃ X, X = x % 2 ^ kk := ⟨_, rfl⟩
  have hand : bits .and .u64 (x : Int) ((2 ^ kk - 1 : Nat) : Int) = ((X : Nat) : Int) := by
    rw [u64_and_nat _ _ hx (Nat.lt_of_lt_of_le (Nat.sub_lt (Nat.two_pow_pos kk) Nat.one_pos) (Nat.pow_le_pow_right (by omega) hk64)), Nat.and_two_pow_sub_one_eq_mod, hX]
  have hr : (n : Int) % 64 = 0 := by omega
  have ho' := ho.alloc (.cells #[.int .u64 (X : Int)] 72)
  have hnw := cell_one_new w (.int .u64 (X : Int)) 72
  have hsz : (w.alloc (.cells #[.int .u64 (X : Int)] 72)).heap.size = w.heap.size + 1 := by simp
  have t1 : m + 1 ≤ maxLen := by simp only [maxLen]; omega
  have t2 : (m + 1) * 8 ≤ 140737488355328 := by omega
  have hgl := hb.lt
  have t3 : g + 1 ≤ (w.alloc (.cells #[.int .u64 (X : Int)] 72)).heap.size := by simp; omega
  have h1s : ∀ u ∈ [Value.int .u64 (X : Int)], u.oneCell' = true := by intro u hu; simp at hu; subst hu; rfl
  have HB := Lib.hid hb
  have HXX := Lib.hid hX
  have HMM := Lib.hid hm
  have hk0 : ¬ kk = 0 := by omega
  have HSS := Lib.hid hs
  clear hb ho hX hm hkk hs
  generalize hP : 2 ^ kk - 1 = PP at *
  clear hP
  go_enter Try.func45, Try.ntmps45
  go_wp2_with fail
  refine C.out.mono ?_
  rintro e w' ⟨rfl, rfl⟩
  go_wp2_with fail
  refine L.out.mono ?_
  rintro e w' ⟨rfl, rfl⟩
  go_wp2_with (first
    | (at_builtin; go_must (refine wpList_append_keep _ rfl _ _ 74 rfl (g + 1) 72 i0 (.int .u64 0) 1 8 Try.underlying74 hi0 hz0 hz1 hz2 rfl (by decide) (.slice A m c) m _ rfl ho' ⟨w.heap.size, 0, none⟩ 1 1 [.int .u64 (X : Int)] rfl rfl hnw h1s (by decide) t1 t2 t3 _ hsz ?_)))
  intro gg c6 w6 hown6 hg6 hor hlt6 hkp
  have hne : ∀ q, (Value.slice A m c).ownBlock = some q → q ≠ g := fun q hq e => by have := (ho'.lt q hq).1; omega
  have m6 := Mod.ofGrown hg6
  have b6 : Blk w6 g 76 #[.slice A m c, .int .i64 (n : Int)] := (HB.out.alloc _).mod m6 (fun e => hne g e.symm rfl)
  have d1 : w6.cell? ⟨g, 1, none⟩ = some (.int .i64 (n : Int)) := b6.cell 1
  have d0 : w6.cell? ⟨g, 0, none⟩ = some (.slice A m c) := b6.cell 0
  have f0 := b6.frozen 0
  have f1 := b6.frozen 1
  have B6 := Lib.hid b6
  have M6 := Lib.hid m6
  have HOR := Lib.hid hor
  have HNE := Lib.hid hne
  have HO := Lib.hid ho'
  have HG := Lib.hid hg6
  have HOWN := Lib.hid hown6
  have HKP := Lib.hid hkp
  clear b6 m6 hor hne ho' hg6 hown6 hnw hsz h1s t1 t2 t3 hkp
  go_wp2
  refine bodyPost_end (results_none rfl _ _ _) rfl ⟨rfl, some ⟨gg, 0, none⟩, ?_, ?_, ?_, ?_⟩
  · have hn64 : n = 64 * m := by have := HSS.out; have := HMM.out; omega
    have hm1 : (n + kk + 63) / 64 = m + 1 := by omega
    refine ⟨put_lt x kk hV, by omega, c6, ?_, ?_⟩
    · rw [hm1]
      have := (B6.out.set_ 0 (.slice (some ⟨gg, 0, none⟩) (m + 1) c6)).set_ 1 (.int .i64 ((n : Int) + (kk : Int)))
      simpa using this
    · rw [hm1]
      have hw : U64 (words V m) ++ [Value.int .u64 (X : Int)] = U64 (words (put V n x kk) (m + 1)) := by
        rw [words_next, U64_append, wd_put_new x kk m hV hn64 hk64, ← HXX.out]
        refine congrArg (· ++ _) (congrArg U64 (List.map_congr_left fun i hi => ?_))
        rw [List.mem_range] at hi
        exact (wd_put_low x kk i hV (by omega)).symm
      rw [← hw]
      have mm : Mod (fun i => i = g) w6 ((w6.setCell ⟨g, 0, none⟩ (.slice (some ⟨gg, 0, none⟩) (m + 1) c6)).setCell ⟨g, 1, none⟩ (.int .i64 ((n : Int) + (kk : Int)))) :=
        Mod.setCell (p := ⟨g, 1, none⟩) (Mod.setCell (p := ⟨g, 0, none⟩) (Mod.refl (fun i => i = g) w6) (fun _ => rfl) _) (fun _ => rfl) _
      exact own_mod HOWN.out mm (fun q hq hx => by have := (HOWN.out.lt q hq).1; omega)
  · have ha : ∀ i, some i = (Value.slice A m c).ownBlock → i = g ∨ ∃ b, A = some ⟨b, 0, none⟩ ∧ i = b := fun i hi => by
      rcases HO.out.2 with ⟨h1, _⟩ | ⟨g', cap, cur, hv, _⟩
      · rw [h1] at hi; simp [Value.ownBlock] at hi
      · simp only [Value.slice.injEq] at hv
        rw [hv.1] at hi ⊢
        simp [Value.ownBlock] at hi
        exact .inr ⟨g', rfl, hi⟩
    exact ((((Mod.refl _ w).alloc _).trans M6.out (fun i _ hi => ha i hi)).setCell (fun _ => .inl rfl) _).setCell (fun _ => .inl rfl) _
  · rcases HOR.out with h1 | h1
    · left
      rcases HO.out.2 with ⟨h2, _⟩ | ⟨g', cap, cur, hv, _⟩
      · rw [h2] at h1; simp [Value.ownBlock] at h1
      · simp only [Value.slice.injEq] at hv
        rw [hv.1] at h1 ⊢
        simp [Value.ownBlock] at h1
        rw [h1]
    · right
      exact ⟨gg, rfl, by omega⟩
  · intro b hb i hi
    left
    have hbg : g + 1 ≤ b := by
      subst hb
      exact (HO.out.lt b rfl).1
    have hi2 : i < m := by rw [HMM.out]; exact hi
    have h1 := HKP.out b c (by rw [hb]) i (.int .u64 ((wd V i : Nat) : Int)) (by rw [U64_get _ _ (by rw [words_len]; exact hi2), words_get _ _ _ hi2])
    have h2 : (⟨b, i, none⟩ : Addr) ≠ ⟨g, 0, none⟩ := fun e => by have := congrArg Addr.block e; simp at this; omega
    have h3 : (⟨b, i, none⟩ : Addr) ≠ ⟨g, 1, none⟩ := fun e => by have := congrArg Addr.block e; simp at this; omega
    rw [World.cell?_setCell_other _ _ _ _ h3.symm, World.cell?_setCell_other _ _ _ _ h2.symm]
    exact h1

set_option maxRecDepth 20000 in
set_option maxHeartbeats 2000000 in
theorem num_last (g V n x kk : Nat) (k : Int) (A : Option Addr) (w : World) (h : VecAt w g V n A) (hx : x < 2 ^ 64) (hk : -9223372036854775808 ≤ k ∧ k ≤ 9223372036854775807) (hkk : cnt64 k = kk) (hk1 : 1 ≤ kk) (hk64 : kk ≤ 64) (hn : n + 64 ≤ 1000000) (s : Nat) (hs : n % 64 = s) (hs0 : 0 < s) (hsk : s + kk ≤ 64) :
    Calls Try.prog 45 #[.pointer (some ⟨g, 0, none⟩), .int .u64 (x : Int), .int .i64 k] w fun e w' => e = .returned (.tuple #[]) ∧
      ∃ A', VecAt w' g (put V n x kk) (n + kk) A' ∧ Mod (fun i => i = g ∨ (∃ b, A = some ⟨b, 0, none⟩ ∧ i = b)) w w' ∧ (A' = A ∨ ∃ b, A' = some ⟨b, 0, none⟩ ∧ w.heap.size ≤ b) ∧ OldK w' A V (put V n x kk) n := by
  have C := Lib.hid (count_p k w hk)
  rw [hkk] at C
  have L := Lib.hid (low_p kk w hk64)
  obtain ⟨hV, hn1, c, hb, ho⟩ := h
  obtain ⟨q, hq⟩ : ∃ q, q = n / 64 := ⟨_, rfl⟩
  have hm : (n + 63) / 64 = q + 1 := by omega
  have hnq : n = 64 * q + s := by omega
  rw [hm] at hb ho
  obtain ⟨b, rfl, hb1, hb2⟩ := own_some ho (by omega)
  have c0 : w.cell? ⟨g, 0, none⟩ = some (.slice (some ⟨b, 0, none⟩) (q + 1) c) := hb.cell 0
  have c1 : w.cell? ⟨g, 1, none⟩ = some (.int .i64 (n : Int)) := hb.cell 1
  have cq : w.cell? ⟨b, q, none⟩ = some (.int .u64 ((wd V q : Nat) : Int)) := by
    rw [ho.cellAt q (by omega), U64_get _ _ (by rw [words_len]; omega), words_get _ _ _ (by omega)]
  have fq := ho.frozenAt q
  have f1 := hb.frozen 1
  obtain ⟨X, hX⟩ : ∃ X, X = x % 2 ^ kk := ⟨_, rfl⟩
  have hand : bits .and .u64 (x : Int) ((2 ^ kk - 1 : Nat) : Int) = ((X : Nat) : Int) := by
    rw [u64_and_nat _ _ hx (Nat.lt_of_lt_of_le (Nat.sub_lt (Nat.two_pow_pos kk) Nat.one_pos) (Nat.pow_le_pow_right (by omega) hk64)), Nat.and_two_pow_sub_one_eq_mod, hX]
  have hr : (n : Int) % 64 = (s : Int) := by omega
  have HOR : Hid (bits .or .u64 ((wd V q : Nat) : Int) (IntKind.u64.wrap ((X : Int) * 2 ^ s)) = ((wd (put V n x kk) q : Nat) : Int)) := by
    show _ = _
    rw [wrap_u64, u64_or_nat _ _ (wd_lt V q) (Nat.mod_lt _ (by decide)), wd_put_last x kk q s hV hnq (by omega), hX]
  have hgl := hb.lt
  have HB := Lib.hid hb
  have HO := Lib.hid ho
  have HNQ := Lib.hid hnq
  have hk0 : ¬ kk = 0 := by omega
  have hs64 : s < 64 := by omega
  have hq2 : q ≤ 1000000 := by omega
  have hsk2 : ¬ (64 : Int) < (s : Int) + (kk : Int) := by omega
  clear hb ho hX hm hkk hs hq hnq
  generalize hP : 2 ^ kk - 1 = PP at *
  clear hP
  generalize hW : wd V q = W at *
  clear hW
  go_enter Try.func45, Try.ntmps45
  go_wp2_with fail
  refine C.out.mono ?_
  rintro e w' ⟨rfl, rfl⟩
  go_wp2_with fail
  refine L.out.mono ?_
  rintro e w' ⟨rfl, rfl⟩
  go_wp2_with fail
  go_region
  go_wp2
  rw [HOR.out]
  suffices hvec : VecAt ((w.setCell ⟨b, q, none⟩ (.int .u64 ((wd (put V n x kk) q : Nat) : Int))).setCell ⟨g, 1, none⟩ (.int .i64 ((n : Int) + (kk : Int)))) g (put V n x kk) (n + kk) (some ⟨b, 0, none⟩) by
    refine bodyPost_end (results_none rfl _ _ _) rfl ⟨rfl, some ⟨b, 0, none⟩, hvec.below (Below.refl _ _).drew, Mod.drew (Mod.setCell (p := ⟨g, 1, none⟩) (Mod.setCell (p := ⟨b, q, none⟩) (Mod.refl _ w) (fun _ => .inr ⟨b, rfl, rfl⟩) _) (fun _ => .inl rfl) _), .inl rfl, ?_⟩
    exact OldK.same (hvec.below (Below.refl _ _).drew) (Nat.le_add_right _ _)
  have hn64 := HNQ.out
  have hm1 : (n + kk + 63) / 64 = q + 1 := by omega
  refine ⟨put_lt x kk hV, by omega, c, ?_, ?_⟩
  · rw [hm1]
    have b1 : Blk (w.setCell ⟨b, q, none⟩ (.int .u64 ((wd (put V n x kk) q : Nat) : Int))) g 76 #[.slice (some ⟨b, 0, none⟩) (q + 1) c, .int .i64 (n : Int)] :=
      HB.out.mod (Mod.setCell (p := ⟨b, q, none⟩) (Mod.refl (fun i => i = b) w) (fun _ => rfl) _) (fun e => by omega)
    have := b1.set_ 1 (.int .i64 ((n : Int) + (kk : Int)))
    simpa using this
  · rw [hm1]
    have hw : (U64 (words V (q + 1))).set q (.int .u64 ((wd (put V n x kk) q : Nat) : Int)) = U64 (words (put V n x kk) (q + 1)) := by
      rw [← U64_set, words_next, words_next, List.set_append_right _ _ (by rw [words_len]; exact Nat.le_refl _), words_len, Nat.sub_self]
      refine congrArg U64 (congrArg (· ++ _) (List.map_congr_left fun i hi => ?_))
      rw [List.mem_range] at hi
      exact (wd_put_low x kk i hV (by omega)).symm
    rw [← hw]
    exact own_mod (HO.out.stored q _).1 (Mod.setCell (p := ⟨g, 1, none⟩) (Mod.refl (fun i => i = g) _) (fun _ => rfl) _) (fun r hr2 hx2 => by simp [Value.ownBlock] at hr2; omega)
end Go.Proofs.Ytfolefadjdcehaa
