/- Plain mathematics of bits in a row: n bits are a number V < 2^n, and word i is wd V i; no program in sight. Lists of noughts and ones, and the number that they are; no program in sight. Letters of two sorts, as plain lists: those of a sort, how many are ahead. How many ones a number has, and the count by halves that the library makes; no program in sight. Words for memory, of my own: a slice that reads as a list; a block known whole; what a call may have turned. The small calls of bits. append onto a slice of the call's own, the source a slice that reads as a list, nil or not. A region that draws its order, walked once: each operation yields one value in every world of a class. A vector of bits as it lies in memory. append: what the old row holds behind it. Num: bits put behind. -/
import Derived.Below
import Derived.Laws.OwnMore
import Derived.Maps.AppendAt
import Derived.Laws.AppendOwnNone
import Derived.Laws.MakeOwn
import Derived.Deep.Draws
import Derived.Laws.Rows
import Derived.OwnWalk
import Derived.Lib.Hide
import Derived.Test.YtagpdpacaoianaaGreatDoorProg
import Derived.WalkKit
import Derived.RegionTactic
import Derived.Deep.QuietTactic
import Derived.BigQuiet
import Derived.Deep.DeepMust
import Derived.Laws.BitsAllLaws
import Derived.Deep.AppendLies
import Derived.BigRegion
namespace Go.Proofs.YtagpdpacaoianaaGreatDoor
set_option linter.unusedVariables false

/-- The word i of the bits that V is. -/
def wd (V i : Nat) : Nat := V / 2 ^ (64 * i) % 2 ^ 64
theorem wd_lt (V i : Nat) : wd V i < 2 ^ 64 := Nat.mod_lt _ (by decide)
theorem wd_bit (V i j : Nat) : (wd V i).testBit j = (decide (j < 64) && V.testBit (64 * i + j)) := by
  unfold wd
  rw [Nat.testBit_mod_two_pow, Nat.testBit_div_two_pow]
  congr 2
  omega
/-- V with x's lowest k bits behind its n bits. -/
def put (V n x k : Nat) : Nat := V + x % 2 ^ k * 2 ^ n
theorem put_lt {V n : Nat} (x k : Nat) (h : V < 2 ^ n) : put V n x k < 2 ^ (n + k) := by
  unfold put
  have h1 : x % 2 ^ k < 2 ^ k := Nat.mod_lt _ (Nat.two_pow_pos k)
  have h2 : x % 2 ^ k * 2 ^ n ≤ (2 ^ k - 1) * 2 ^ n := Nat.mul_le_mul_right _ (by omega)
  have h3 : (2 ^ k - 1) * 2 ^ n = 2 ^ (n + k) - 2 ^ n := by rw [Nat.sub_mul, Nat.one_mul, ← Nat.pow_add, Nat.add_comm k n]
  have h4 : 2 ^ n ≤ 2 ^ (n + k) := Nat.pow_le_pow_right (by omega) (by omega)
  omega
theorem put_bit {V n : Nat} (x k j : Nat) (h : V < 2 ^ n) : (put V n x k).testBit j = if j < n then V.testBit j else (decide (j - n < k) && x.testBit (j - n)) := by
  unfold put
  rw [Nat.add_comm, Nat.mul_comm, Nat.testBit_two_pow_mul_add _ h, Nat.testBit_mod_two_pow]
theorem wd_high {V n i : Nat} (h : V < 2 ^ n) (hi : n ≤ 64 * i) : wd V i = 0 := by
  unfold wd
  rw [Nat.div_eq_of_lt (Nat.lt_of_lt_of_le h (Nat.pow_le_pow_right (by omega) hi))]
/-- The words ahead of the last one stay when bits are put behind. -/
theorem wd_put_low {V n : Nat} (x k i : Nat) (h : V < 2 ^ n) (hi : 64 * i + 64 ≤ n) : wd (put V n x k) i = wd V i := by
  apply Nat.eq_of_testBit_eq
  intro j
  rw [wd_bit, wd_bit]
  by_cases hj : j < 64
  · rw [put_bit x k _ h, if_pos (by omega)]
  · simp [hj]
/-- A new word: the bits fall on its first place. -/
theorem wd_put_new {V n : Nat} (x k i : Nat) (h : V < 2 ^ n) (hi : n = 64 * i) (hk : k ≤ 64) : wd (put V n x k) i = x % 2 ^ k := by
  apply Nat.eq_of_testBit_eq
  intro j
  rw [wd_bit, put_bit x k _ h, if_neg (by omega), show 64 * i + j - n = j by omega, Nat.testBit_mod_two_pow]
  by_cases hj : j < k
  · simp [hj, show j < 64 by omega]
  · simp [hj]
/-- The last word takes what fits. -/
theorem wd_put_last {V n : Nat} (x k i s : Nat) (h : V < 2 ^ n) (hn : n = 64 * i + s) (hs : s < 64) : wd (put V n x k) i = wd V i ||| (x % 2 ^ k * 2 ^ s) % 2 ^ 64 := by
  apply Nat.eq_of_testBit_eq
  intro j
  rw [Nat.testBit_or, wd_bit, wd_bit, put_bit x k _ h, Nat.testBit_mod_two_pow, Nat.mul_comm (x % 2 ^ k), Nat.testBit_two_pow_mul, Nat.testBit_mod_two_pow]
  by_cases hj : j < 64
  · by_cases hjs : j < s
    · simp [hj, show 64 * i + j < n by omega, show ¬ s ≤ j by omega]
    · have hV : V.testBit (64 * i + j) = false := Nat.testBit_lt_two_pow (Nat.lt_of_lt_of_le h (Nat.pow_le_pow_right (by omega) (by omega)))
      rw [if_neg (by omega), show 64 * i + j - n = j - s by omega, hV]
      simp [hj, show s ≤ j by omega]
  · simp [hj]
/-- The word behind the last takes what is left. -/
theorem wd_put_next {V n : Nat} (x k i s : Nat) (h : V < 2 ^ n) (hn : n = 64 * i + s) (hs : s < 64) (hs0 : 0 < s) (hk : k ≤ 64) : wd (put V n x k) (i + 1) = x % 2 ^ k / 2 ^ (64 - s) := by
  apply Nat.eq_of_testBit_eq
  intro j
  rw [wd_bit, put_bit x k _ h, if_neg (by omega), Nat.testBit_div_two_pow, Nat.testBit_mod_two_pow, show 64 * (i + 1) + j - n = 64 - s + j by omega]
  by_cases hj : 64 - s + j < k
  · simp [show j + (64 - s) < k by omega, show j < 64 by omega, Nat.add_comm]
  · simp [show ¬ 64 - s + j < k by omega, show ¬ j + (64 - s) < k by omega]
/-- Bits read out of one word. -/
theorem get_one (V i s k : Nat) (h : s + k ≤ 64) : wd V i / 2 ^ s % 2 ^ k = V / 2 ^ (64 * i + s) % 2 ^ k := by
  apply Nat.eq_of_testBit_eq
  intro j
  rw [Nat.testBit_mod_two_pow, Nat.testBit_mod_two_pow, Nat.testBit_div_two_pow, Nat.testBit_div_two_pow, wd_bit]
  by_cases hj : j < k
  · simp [hj, show j + s < 64 by omega, show 64 * i + (j + s) = j + (64 * i + s) by omega]
  · simp [hj]
/-- Bits read out of two words. -/
theorem get_two (V i s k : Nat) (hs : s < 64) (hs0 : 0 < s) (hk : k ≤ 64) : (wd V i / 2 ^ s ||| wd V (i + 1) * 2 ^ (64 - s) % 2 ^ 64) % 2 ^ k = V / 2 ^ (64 * i + s) % 2 ^ k := by
  apply Nat.eq_of_testBit_eq
  intro j
  rw [Nat.testBit_mod_two_pow, Nat.testBit_mod_two_pow, Nat.testBit_or, Nat.testBit_div_two_pow, Nat.testBit_div_two_pow, wd_bit, Nat.testBit_mod_two_pow, Nat.mul_comm (wd V (i + 1)), Nat.testBit_two_pow_mul, wd_bit]
  by_cases hj : j < k
  · by_cases hjs : j + s < 64
    · simp [hj, hjs, show ¬ 64 - s ≤ j by omega, show 64 * i + (j + s) = j + (64 * i + s) by omega]
    · simp [hj, hjs, show 64 - s ≤ j by omega, show j < 64 by omega, show j - (64 - s) < 64 by omega, show 64 * (i + 1) + (j - (64 - s)) = j + (64 * i + s) by omega]
  · simp [hj]
end Go.Proofs.YtagpdpacaoianaaGreatDoor
namespace Go.Proofs.YtagpdpacaoianaaGreatDoor
set_option linter.unusedVariables false

def ofNB (l : List Nat) : List Int := l.map fun (x : Nat) => (x : Int)
theorem ofN_lenB (l : List Nat) : (ofNB l).length = l.length := by simp [ofNB]
theorem ofN_appendB (l m : List Nat) : ofNB (l ++ m) = ofNB l ++ ofNB m := by simp [ofNB]
theorem ofN_takeB (l : List Nat) (k : Nat) : ofNB (l.take k) = (ofNB l).take k := by simp [ofNB, List.map_take]
theorem ofN_dropB (l : List Nat) (k : Nat) : ofNB (l.drop k) = (ofNB l).drop k := by simp [ofNB, List.map_drop]
theorem ofN_getB (l : List Nat) (i : Nat) : (ofNB l).getD i 0 = ((l.getD i 0 : Nat) : Int) := by
  by_cases h : i < l.length
  · simp [ofNB, List.getD_eq_getElem?_getD, h]
  · simp [ofNB, List.getD_eq_getElem?_getD, Nat.le_of_not_lt h]
theorem ofN_injB {l m : List Nat} (h : ofNB l = ofNB m) : l = m := by
  have hl : l.length = m.length := by rw [← ofN_lenB, h, ofN_lenB]
  apply List.ext_getElem hl
  intro i h1 h2
  have := congrArg (fun l => l.getD i 0) h
  simp only [ofN_getB] at this
  simp only [List.getD_eq_getElem?_getD, List.getElem?_eq_getElem h1, List.getElem?_eq_getElem h2, Option.getD_some] at this
  omega

/-- The number of some bits, the lowest first. -/
def val : List Nat → Nat
  | [] => 0
  | b :: l => b + 2 * val l
/-- Noughts and ones. -/
def Bin (l : List Nat) : Prop := ∀ b ∈ l, b < 2
theorem Bin.nil : Bin [] := fun _ h => by cases h
theorem Bin.tail {b : Nat} {l : List Nat} (h : Bin (b :: l)) : Bin l := fun x hx => h x (List.mem_cons_of_mem _ hx)
theorem Bin.head {b : Nat} {l : List Nat} (h : Bin (b :: l)) : b < 2 := h b (List.mem_cons_self ..)
theorem Bin.append {l m : List Nat} (h : Bin l) (k : Bin m) : Bin (l ++ m) := fun x hx => by
  rcases List.mem_append.1 hx with hx | hx
  · exact h x hx
  · exact k x hx
theorem Bin.take {l : List Nat} (h : Bin l) (k : Nat) : Bin (l.take k) := fun x hx => h x (List.mem_of_mem_take hx)
theorem Bin.drop {l : List Nat} (h : Bin l) (k : Nat) : Bin (l.drop k) := fun x hx => h x (List.mem_of_mem_drop hx)
theorem Bin.getD {l : List Nat} (h : Bin l) (i : Nat) : l.getD i 0 < 2 := by
  by_cases hi : i < l.length
  · rw [List.getD_eq_getElem?_getD, List.getElem?_eq_getElem hi]
    exact h _ (List.getElem_mem hi)
  · rw [List.getD_eq_getElem?_getD, List.getElem?_eq_none (by omega)]; decide
theorem val_lt {l : List Nat} (h : Bin l) : val l < 2 ^ l.length := by
  induction l with
  | nil => simp [val]
  | cons b l ih =>
    have h1 := ih h.tail
    have h2 := h.head
    simp only [val, List.length_cons, Nat.pow_succ]
    omega
theorem val_append (l m : List Nat) : val (l ++ m) = val l + 2 ^ l.length * val m := by
  induction l with
  | nil => simp [val]
  | cons b l ih => 
    simp only [List.cons_append, val, ih, List.length_cons, Nat.pow_succ]
    rw [Nat.mul_add, ← Nat.mul_assoc, Nat.mul_comm 2 (2 ^ l.length)]
    omega
theorem val_bit {l : List Nat} (h : Bin l) (i : Nat) : val l / 2 ^ i % 2 = l.getD i 0 := by
  induction l generalizing i with
  | nil => simp [val]
  | cons b l ih =>
    have hb := h.head
    cases i with
    | zero => simp [val]; omega
    | succ i =>
      have e : (b + 2 * val l) / 2 ^ (i + 1) = val l / 2 ^ i := by
        rw [Nat.pow_succ, Nat.mul_comm (2 ^ i) 2, ← Nat.div_div_eq_div_mul]
        congr 1; omega
      simp only [val, e, List.getD_cons_succ]
      exact ih h.tail i
theorem val_inj {l m : List Nat} (h : Bin l) (k : Bin m) (hl : l.length = m.length) (e : val l = val m) : l = m := by
  apply List.ext_getElem hl
  intro i h1 h2
  have a := val_bit h i
  have b := val_bit k i
  rw [e, b] at a
  simpa [List.getD_eq_getElem?_getD, List.getElem?_eq_getElem h1, List.getElem?_eq_getElem h2] using a.symm
/-- A number's k lowest bits. -/
def numL (x k : Nat) : List Nat := (List.range k).map fun i => x / 2 ^ i % 2
theorem numL_len (x k : Nat) : (numL x k).length = k := by simp [numL]
theorem numL_bin (x k : Nat) : Bin (numL x k) := fun b hb => by
  simp only [numL, List.mem_map] at hb
  obtain ⟨i, _, rfl⟩ := hb
  exact Nat.mod_lt _ (by decide)
theorem numL_next (x k : Nat) : numL x (k + 1) = numL x k ++ [x / 2 ^ k % 2] := by simp [numL, List.range_succ]
theorem mod_next (x k : Nat) : x % 2 ^ (k + 1) = x % 2 ^ k + 2 ^ k * (x / 2 ^ k % 2) := by rw [Nat.pow_succ, Nat.mod_mul]
theorem val_numL (x k : Nat) : val (numL x k) = x % 2 ^ k := by
  induction k with
  | zero => simp [numL, val, Nat.mod_one]
  | succ k ih => rw [numL_next, val_append, ih, numL_len, mod_next]; simp [val]
theorem val_take {l : List Nat} (h : Bin l) (k : Nat) : val (l.take k) = val l % 2 ^ k := by
  by_cases hk : k ≤ l.length
  · have e := val_append (l.take k) (l.drop k)
    rw [List.take_append_drop, List.length_take, Nat.min_eq_left hk] at e
    rw [e, Nat.add_mul_mod_self_left]
    have := val_lt (h.take k)
    rw [List.length_take, Nat.min_eq_left hk] at this
    exact (Nat.mod_eq_of_lt this).symm
  · rw [List.take_of_length_le (by omega)]
    exact (Nat.mod_eq_of_lt (Nat.lt_of_lt_of_le (val_lt h) (Nat.pow_le_pow_right (by omega) (by omega)))).symm
theorem val_drop {l : List Nat} (h : Bin l) (k : Nat) : val (l.drop k) = val l / 2 ^ k := by
  by_cases hk : k ≤ l.length
  · have e := val_append (l.take k) (l.drop k)
    rw [List.take_append_drop, List.length_take, Nat.min_eq_left hk] at e
    have := val_lt (h.take k)
    rw [List.length_take, Nat.min_eq_left hk] at this
    rw [e, Nat.add_comm, Nat.mul_add_div (Nat.two_pow_pos k), Nat.div_eq_of_lt this, Nat.add_zero]
  · rw [List.drop_of_length_le (by omega), Nat.div_eq_of_lt (Nat.lt_of_lt_of_le (val_lt h) (Nat.pow_le_pow_right (by omega) (by omega)))]
    rfl
/-- Bits put behind a list's number. -/
theorem put_val {l m : List Nat} (hm : Bin m) : put (val l) l.length (val m) m.length = val (l ++ m) := by
  unfold put
  rw [val_append, Nat.mod_eq_of_lt (val_lt hm), Nat.mul_comm]
theorem put_numL (l : List Nat) (x k : Nat) : put (val l) l.length x k = val (l ++ numL x k) := by
  unfold put
  rw [val_append, val_numL, Nat.mul_comm]
theorem numL_val {l : List Nat} (h : Bin l) (k : Nat) (hk : k ≤ l.length) : numL (val l) k = l.take k := by
  refine val_inj (numL_bin _ _) (h.take k) (by rw [numL_len, List.length_take, Nat.min_eq_left hk]) ?_
  rw [val_numL, val_take h]
/-- A number of bits in two parts is the number at once. -/
theorem put_two (x a b : Nat) : put (put 0 0 x a) (0 + a) (x / 2 ^ a) b = put 0 0 x (a + b) := by
  unfold put
  simp only [Nat.zero_add, Nat.pow_zero, Nat.mul_one]
  rw [Nat.pow_add, Nat.mod_mul, Nat.mul_comm]
/-- Bits of bytes, not more than so many. -/
def few (bs : List Nat) (m : Nat) : List Nat := (bs.flatMap fun b => numL b 8).take m
theorem flat_bin (bs : List Nat) : Bin (bs.flatMap fun b => numL b 8) := fun x hx => by
  obtain ⟨b, _, h⟩ := List.mem_flatMap.1 hx
  exact numL_bin b 8 x h
theorem few_bin (bs : List Nat) (m : Nat) : Bin (few bs m) := (flat_bin bs).take m
theorem flat_len (bs : List Nat) : (bs.flatMap fun b => numL b 8).length = 8 * bs.length := by
  induction bs with
  | nil => rfl
  | cons b bs ih => simp only [List.flatMap_cons, List.length_append, ih, numL_len, List.length_cons]; omega
theorem few_len (bs : List Nat) (m : Nat) : (few bs m).length = min m (8 * bs.length) := by rw [few, List.length_take, flat_len]
/-- On the way: k bytes and i bits of the next one. -/
def fewTo (bs : List Nat) (m k i : Nat) : List Nat := (((bs.take k).flatMap fun b => numL b 8) ++ numL (bs.getD k 0) i).take m
theorem fewTo_start (bs : List Nat) (m : Nat) : fewTo bs m 0 0 = [] := by simp [fewTo, numL]
theorem fewTo_bit (bs : List Nat) (m k i : Nat) (h : (fewTo bs m k i).length < m) : fewTo bs m k (i + 1) = fewTo bs m k i ++ [bs.getD k 0 / 2 ^ i % 2] := by
  unfold fewTo at h ⊢
  generalize ((bs.take k).flatMap fun b => numL b 8) = F at *
  rw [List.length_take] at h
  rw [numL_next, ← List.append_assoc, List.take_of_length_le (by simp only [List.length_append, List.length_cons, List.length_nil] at h ⊢; omega), List.take_of_length_le (by omega)]
theorem fewTo_full (bs : List Nat) (m k i j : Nat) (hij : i ≤ j) (h : ¬ (fewTo bs m k i).length < m) : fewTo bs m k j = fewTo bs m k i := by
  unfold fewTo at h ⊢
  generalize ((bs.take k).flatMap fun b => numL b 8) = F at *
  rw [List.length_take] at h
  have e : numL (bs.getD k 0) j = numL (bs.getD k 0) i ++ (numL (bs.getD k 0) j).drop i := by
    have h1 : numL (bs.getD k 0) i = (numL (bs.getD k 0) j).take i := by
      simp only [numL, ← List.map_take, List.take_range, Nat.min_eq_left hij]
    rw [h1, List.take_append_drop]
  rw [e, ← List.append_assoc, List.take_append_of_le_length (by omega)]
theorem fewTo_next (bs : List Nat) (m k : Nat) (hk : k < bs.length) : fewTo bs m k 8 = fewTo bs m (k + 1) 0 := by
  unfold fewTo
  rw [← List.take_append_getElem hk, List.flatMap_append]
  simp [numL, List.getD_eq_getElem?_getD, List.getElem?_eq_getElem hk]
theorem fewTo_end (bs : List Nat) (m : Nat) : fewTo bs m bs.length 0 = few bs m := by
  unfold fewTo few
  simp [numL]
theorem fewTo_le (bs : List Nat) (m k i : Nat) : (fewTo bs m k i).length ≤ 8 * k + i := by
  unfold fewTo
  rw [List.length_take, List.length_append, flat_len, numL_len, List.length_take]
  omega
/-- What Add makes of numbers. -/
def bit1 (x : Int) : Nat := if x = 0 then 0 else 1
theorem bit1_bin (z : List Int) : Bin (z.map bit1) := fun b hb => by
  simp only [List.mem_map] at hb
  obtain ⟨x, _, rfl⟩ := hb
  unfold bit1; split <;> decide
theorem bit1_ofN {l : List Nat} (h : Bin l) : (ofNB l).map bit1 = l := by
  induction l with
  | nil => rfl
  | cons b l ih =>
    have := h.head
    simp only [ofNB, List.map_cons, List.cons.injEq] at ih ⊢
    refine ⟨?_, ih h.tail⟩
    unfold bit1; split <;> omega
theorem put_one (l : List Nat) (x : Int) : put (val l) l.length (bit1 x) 1 = val (l ++ [bit1 x]) := by
  have h : Bin [bit1 x] := fun b hb => by
    simp only [List.mem_singleton] at hb
    subst hb; unfold bit1; split <;> decide
  have := put_val (l := l) h
  simpa [val] using this
end Go.Proofs.YtagpdpacaoianaaGreatDoor
namespace Go.Proofs.YtagpdpacaoianaaGreatDoor
set_option linter.unusedVariables false

/-- Letters. -/
def Kds (ks : List Nat) : Prop := ∀ k ∈ ks, k < 4
theorem Kds.take {ks : List Nat} (h : Kds ks) (i : Nat) : Kds (ks.take i) := fun k hk => h k (List.mem_of_mem_take hk)
theorem Kds.getD {ks : List Nat} (h : Kds ks) (i : Nat) : ks.getD i 0 < 4 := by
  by_cases hi : i < ks.length
  · rw [List.getD_eq_getElem?_getD, List.getElem?_eq_getElem hi]; exact h _ (List.getElem_mem hi)
  · rw [List.getD_eq_getElem?_getD, List.getElem?_eq_none (by omega)]; decide
theorem Kds.append {ks ls : List Nat} (h : Kds ks) (k : Kds ls) : Kds (ks ++ ls) := fun x hx => by
  rcases List.mem_append.1 hx with h1 | h1
  · exact h x h1
  · exact k x h1
/-- The sorts. -/
def shp (ks : List Nat) : List Nat := ks.map (· / 2)
theorem shp_len (ks : List Nat) : (shp ks).length = ks.length := by simp [shp]
theorem shp_bin {ks : List Nat} (h : Kds ks) : Bin (shp ks) := fun b hb => by
  obtain ⟨k, hk, rfl⟩ := List.mem_map.1 hb
  have := h k hk; omega
theorem shp_get (ks : List Nat) (i : Nat) : (shp ks).getD i 0 = ks.getD i 0 / 2 := by
  by_cases hi : i < ks.length
  · simp [shp, List.getD_eq_getElem?_getD, hi]
  · simp [shp, List.getD_eq_getElem?_getD, List.getElem?_eq_none (show ks.length ≤ i by omega)]
/-- Those of a sort: does each open? -/
def ownL (s : Nat) (ks : List Nat) : List Nat := (ks.filter fun k => decide (k / 2 = s)).map fun k => 1 - k % 2
theorem ownL_bin (s : Nat) (ks : List Nat) : Bin (ownL s ks) := fun b hb => by
  obtain ⟨k, _, rfl⟩ := List.mem_map.1 hb
  omega
theorem ownL_app (s : Nat) (ks ls : List Nat) : ownL s (ks ++ ls) = ownL s ks ++ ownL s ls := by simp [ownL]
theorem ownL_one (s k : Nat) : ownL s [k] = if k / 2 = s then [1 - k % 2] else [] := by
  unfold ownL
  by_cases h : k / 2 = s
  · simp [h]
  · simp [h]
theorem take_snoc (ks : List Nat) (i : Nat) (h : i < ks.length) : ks.take (i + 1) = ks.take i ++ [ks.getD i 0] := by
  rw [← List.take_append_getElem h, List.getD_eq_getElem?_getD, List.getElem?_eq_getElem h]; rfl
/-- How many of a sort are ahead. -/
def ah (s : Nat) (ks : List Nat) (i : Nat) : Nat := (ownL s (ks.take i)).length
theorem ah_zero (s : Nat) (ks : List Nat) : ah s ks 0 = 0 := by simp [ah, ownL]
theorem ah_next (s : Nat) (ks : List Nat) (i : Nat) (h : i < ks.length) : ah s ks (i + 1) = ah s ks i + if ks.getD i 0 / 2 = s then 1 else 0 := by
  unfold ah
  rw [take_snoc ks i h, ownL_app, ownL_one, List.length_append]
  split <;> simp
theorem ah_le (s : Nat) (ks : List Nat) : ∀ i, i ≤ ks.length → ah s ks i ≤ i
  | 0, _ => by rw [ah_zero]; exact Nat.le_refl _
  | i + 1, h => by
    have := ah_le s ks i (by omega)
    rw [ah_next s ks i (by omega)]
    split <;> omega
theorem ah_mono (s : Nat) (ks : List Nat) (i : Nat) : ∀ j, i + j ≤ ks.length → ah s ks i ≤ ah s ks (i + j)
  | 0, _ => Nat.le_refl _
  | j + 1, h => by
    have := ah_mono s ks i j (by omega)
    rw [← Nat.add_assoc, ah_next s ks (i + j) (by omega)]
    split <;> omega
theorem ah_all (s : Nat) (ks : List Nat) : ah s ks ks.length = (ownL s ks).length := by unfold ah; rw [List.take_length]
theorem ah_end (s : Nat) (ks : List Nat) (i : Nat) (h : i ≤ ks.length) : ah s ks i ≤ (ownL s ks).length := by
  rw [← ah_all s ks]
  have := ah_mono s ks i (ks.length - i) (by omega)
  rwa [show i + (ks.length - i) = ks.length by omega] at this
theorem ah_lt (s : Nat) (ks : List Nat) (i : Nat) (h : i < ks.length) (hs : ks.getD i 0 / 2 = s) : ah s ks i < (ownL s ks).length := by
  have := ah_end s ks (i + 1) (by omega)
  rw [ah_next s ks i h, if_pos hs] at this
  omega
theorem ownL_take (s : Nat) (ks : List Nat) (i : Nat) : ownL s (ks.take i) = (ownL s ks).take (ah s ks i) := by
  have h : ownL s ks = ownL s (ks.take i) ++ ownL s (ks.drop i) := by rw [← ownL_app, List.take_append_drop]
  rw [h]; unfold ah; simp
/-- The letter itself. -/
theorem ownL_get (s : Nat) (ks : List Nat) (i : Nat) (h : i < ks.length) (hs : ks.getD i 0 / 2 = s) : (ownL s ks).getD (ah s ks i) 0 = 1 - ks.getD i 0 % 2 := by
  have h1 := ownL_take s ks (i + 1)
  rw [take_snoc ks i h, ownL_app, ownL_one, if_pos hs, ah_next s ks i h, if_pos hs] at h1
  have hlt := ah_lt s ks i h hs
  rw [take_snoc (ownL s ks) (ah s ks i) hlt, ownL_take] at h1
  have h2 : [1 - ks.getD i 0 % 2] = [(ownL s ks).getD (ah s ks i) 0] := List.append_inj_right h1 rfl
  exact (List.cons.inj h2).1.symm
/-- Where the y-th one of a sort stands. -/
theorem ah_find (s : Nat) (ks : List Nat) (y : Nat) (hy : y < (ownL s ks).length) : ∃ i, i < ks.length ∧ ks.getD i 0 / 2 = s ∧ ah s ks i = y := by
  suffices ∀ n, n ≤ ks.length → y < ah s ks n → ∃ i, i < n ∧ ks.getD i 0 / 2 = s ∧ ah s ks i = y by
    obtain ⟨i, h1, h2, h3⟩ := this ks.length (Nat.le_refl _) (by rw [ah_all]; exact hy)
    exact ⟨i, h1, h2, h3⟩
  intro n
  induction n with
  | zero => intro _ h; rw [ah_zero] at h; omega
  | succ n ih =>
    intro hn h
    by_cases h2 : y < ah s ks n
    · obtain ⟨i, a, b, c⟩ := ih (by omega) h2
      exact ⟨i, by omega, b, c⟩
    · rw [ah_next s ks n (by omega)] at h
      by_cases h3 : ks.getD n 0 / 2 = s
      · rw [if_pos h3] at h
        exact ⟨n, by omega, h3, by omega⟩
      · rw [if_neg h3] at h; omega
theorem ah_uniq (s : Nat) (ks : List Nat) (i j : Nat) (hi : i < ks.length) (hj : j < ks.length) (h1 : ks.getD i 0 / 2 = s) (h2 : ks.getD j 0 / 2 = s) (h : ah s ks i = ah s ks j) : i = j := by
  rcases Nat.lt_trichotomy i j with hlt | he | hgt
  · have a := ah_next s ks i hi
    rw [if_pos h1] at a
    have b := ah_mono s ks (i + 1) (j - (i + 1)) (by omega)
    rw [show i + 1 + (j - (i + 1)) = j by omega] at b
    omega
  · exact he
  · have a := ah_next s ks j hj
    rw [if_pos h2] at a
    have b := ah_mono s ks (j + 1) (i - (j + 1)) (by omega)
    rw [show j + 1 + (i - (j + 1)) = i by omega] at b
    omega
/-- How many of a kind. -/
def cntK (k : Nat) (ks : List Nat) : Nat := (ks.filter fun x => decide (x = k)).length
theorem cntK_snoc (k x : Nat) (ks : List Nat) : cntK k (ks ++ [x]) = cntK k ks + if x = k then 1 else 0 := by
  unfold cntK
  rw [List.filter_append, List.length_append]
  by_cases h : x = k <;> simp [h]
theorem ownL_cnt (s : Nat) (ks : List Nat) (hk : Kds ks) : (ownL s ks).sum = cntK (2 * s) ks ∧ (ownL s ks).length = cntK (2 * s) ks + cntK (2 * s + 1) ks := by
  induction ks with
  | nil => simp [ownL, cntK]
  | cons x ks ih =>
    have h1 := ih (fun k hk' => hk k (List.mem_cons_of_mem _ hk'))
    have hx := hk x (List.mem_cons_self ..)
    rw [show x :: ks = [x] ++ ks from rfl, ownL_app, ownL_one]
    have e : ∀ k, cntK k ([x] ++ ks) = (if x = k then 1 else 0) + cntK k ks := fun k => by
      unfold cntK
      rw [List.filter_append, List.length_append]
      by_cases h : x = k <;> simp [h]
    rw [e, e, List.sum_append, List.length_append, h1.1, h1.2]
    by_cases hs : x / 2 = s
    · rw [if_pos hs]
      rcases Nat.mod_two_eq_zero_or_one x with m | m
      · rw [if_pos (by omega), if_neg (by omega), m]; simp; omega
      · rw [if_neg (by omega), if_pos (by omega), m]; simp; omega
    · rw [if_neg hs, if_neg (by omega), if_neg (by omega)]; simp
end Go.Proofs.YtagpdpacaoianaaGreatDoor
namespace Go.Proofs.YtagpdpacaoianaaGreatDoor
set_option linter.unusedVariables false

/-- How many of the k lowest bits are ones. -/
def pop (x k : Nat) : Nat := (numL x k).sum
theorem numL_add (x a b : Nat) : numL x (a + b) = numL x a ++ numL (x / 2 ^ a) b := by
  simp only [numL, List.range_add, List.map_append, List.map_map]
  congr 1
  refine List.map_congr_left fun i _ => ?_
  simp only [Function.comp]
  rw [Nat.pow_add, Nat.div_div_eq_div_mul]
theorem pop_add (x a b : Nat) : pop x (a + b) = pop x a + pop (x / 2 ^ a) b := by
  unfold pop
  rw [numL_add, List.sum_append]
theorem numL_mod (x k : Nat) : numL (x % 2 ^ k) k = numL x k := by
  refine List.map_congr_left fun i hi => ?_
  rw [List.mem_range] at hi
  have h : (x % 2 ^ k).testBit i = x.testBit i := by rw [Nat.testBit_mod_two_pow]; simp [hi]
  rw [Nat.testBit_eq_decide_div_mod_eq, Nat.testBit_eq_decide_div_mod_eq, decide_eq_decide] at h
  omega
theorem pop_mod (x k : Nat) : pop (x % 2 ^ k) k = pop x k := by unfold pop; rw [numL_mod]
theorem pop_zero (k : Nat) : pop 0 k = 0 := by
  unfold pop numL
  induction k with
  | zero => rfl
  | succ k ih => rw [List.range_succ, List.map_append, List.sum_append, ih]; simp
theorem pop_one (x : Nat) : pop x 0 = 0 := rfl
theorem and_cut (a b c d : Nat) (hb : b < 256) (hd : d < 256) : (a * 256 + b) &&& (c * 256 + d) = (a &&& c) * 256 + (b &&& d) := by
  have hbd : b &&& d < 2 ^ 8 := Nat.and_lt_two_pow b hd
  have e : ∀ u v : Nat, u * 256 + v = 2 ^ 8 * u + v := fun u v => by omega
  rw [e a b, e c d, e _ _]
  apply Nat.eq_of_testBit_eq
  intro j
  rw [Nat.testBit_and, Nat.testBit_two_pow_mul_add a (i := 8) hb, Nat.testBit_two_pow_mul_add c (i := 8) hd, Nat.testBit_two_pow_mul_add (a &&& c) (i := 8) hbd]
  by_cases hj : j < 8
  · simp [hj, Nat.testBit_and]
  · simp [hj, Nat.testBit_and]

def st1 (x M : Nat) : Nat := (x / 2 &&& M) + (x &&& M)
def st2 (x M : Nat) : Nat := (x / 4 &&& M) + (x &&& M)
def st3 (x M : Nat) : Nat := (x / 16 + x) &&& M
theorem st1_cut (a b M : Nat) (hb : b < 256) : st1 (a * 256 + b) (M * 256 + 85) = st1 a M * 256 + st1 b 85 := by
  have h : ∀ t, t < 2 → ∀ b, b < 256 → (t * 128 + b / 2) &&& 85 = b / 2 &&& 85 := by decide +kernel
  unfold st1
  rw [show (a * 256 + b) / 2 = (a / 2) * 256 + (a % 2 * 128 + b / 2) by omega, and_cut _ _ _ _ (by omega) (by omega), and_cut _ _ _ _ hb (by omega), h _ (by omega) _ hb]
  omega
theorem st2_cut (a b M : Nat) (hb : b < 256) : st2 (a * 256 + b) (M * 256 + 51) = st2 a M * 256 + st2 b 51 := by
  have h : ∀ t, t < 4 → ∀ b, b < 256 → (t * 64 + b / 4) &&& 51 = b / 4 &&& 51 := by decide +kernel
  unfold st2
  rw [show (a * 256 + b) / 4 = (a / 4) * 256 + (a % 4 * 64 + b / 4) by omega, and_cut _ _ _ _ (by omega) (by omega), and_cut _ _ _ _ hb (by omega), h _ (by omega) _ hb]
  omega
theorem st3_cut (a b M : Nat) (hb : b < 69) (ha : a % 16 < 5) : st3 (a * 256 + b) (M * 256 + 15) = st3 a M * 256 + st3 b 15 := by
  have h : ∀ t, t < 5 → ∀ b, b < 69 → (t * 16 + b / 16 + b) &&& 15 = (b / 16 + b) &&& 15 := by decide +kernel
  unfold st3
  rw [show (a * 256 + b) / 16 + (a * 256 + b) = (a / 16 + a) * 256 + (a % 16 * 16 + b / 16 + b) by omega, and_cut _ _ _ _ (by omega) (by omega), h _ ha _ hb]
/-- Bytes as a number, the lowest first; and a mask. -/
def nb : List Nat → Nat
  | [] => 0
  | b :: l => nb l * 256 + b
def rep (d : Nat) : Nat → Nat
  | 0 => 0
  | k + 1 => rep d k * 256 + d
theorem st1_nb (l : List Nat) (h : ∀ b ∈ l, b < 256) : st1 (nb l) (rep 85 l.length) = nb (l.map (st1 · 85)) := by
  induction l with
  | nil => rfl
  | cons b l ih => simp only [nb, rep, List.length_cons, List.map_cons]; rw [st1_cut _ _ _ (h b (by simp)), ih fun x hx => h x (by simp [hx])]
theorem st2_nb (l : List Nat) (h : ∀ b ∈ l, b < 256) : st2 (nb l) (rep 51 l.length) = nb (l.map (st2 · 51)) := by
  induction l with
  | nil => rfl
  | cons b l ih => simp only [nb, rep, List.length_cons, List.map_cons]; rw [st2_cut _ _ _ (h b (by simp)), ih fun x hx => h x (by simp [hx])]
theorem st3_nb (l : List Nat) (h : ∀ b ∈ l, b < 69 ∧ b % 16 < 5) : st3 (nb l) (rep 15 l.length) = nb (l.map (st3 · 15)) := by
  induction l with
  | nil => rfl
  | cons b l ih =>
    simp only [nb, rep, List.length_cons, List.map_cons]
    rw [st3_cut _ _ _ (h b (by simp)).1, ih fun x hx => h x (by simp [hx])]
    cases l with
    | nil => simp [nb]
    | cons c l => have := (h c (by simp)).2; simp only [nb]; omega
theorem byte_1 : ∀ b, b < 256 → st1 b 85 < 256 := by decide +kernel
theorem byte_2 : ∀ b, b < 256 → st2 (st1 b 85) 51 < 69 ∧ st2 (st1 b 85) 51 % 16 < 5 := by decide +kernel
theorem byte_3 : ∀ b, b < 256 → st3 (st2 (st1 b 85) 51) 15 = pop b 8 := by decide +kernel
theorem byte_4 : ∀ b, b < 256 → pop b 8 < 9 := by decide +kernel
theorem steps_nb (l : List Nat) (h : ∀ b ∈ l, b < 256) : st3 (st2 (st1 (nb l) (rep 85 l.length)) (rep 51 l.length)) (rep 15 l.length) = nb (l.map (pop · 8)) := by
  rw [st1_nb l h]
  have h2 := st2_nb (l.map (st1 · 85)) (fun b hb => by
    simp only [List.mem_map] at hb
    obtain ⟨a, ha, rfl⟩ := hb
    exact byte_1 a (h a ha))
  rw [List.length_map] at h2
  rw [h2]
  have h3 := st3_nb ((l.map (st1 · 85)).map (st2 · 51)) (fun b hb => by
    simp only [List.mem_map] at hb
    obtain ⟨a, ⟨c, hc, rfl⟩, rfl⟩ := hb
    exact byte_2 c (h c hc))
  rw [List.length_map, List.length_map] at h3
  rw [h3, List.map_map, List.map_map]
  congr 1
  exact List.map_congr_left fun b hb => byte_3 b (h b hb)
def by8 (x : Nat) : List Nat := [x % 256, x / 256 % 256, x / 65536 % 256, x / 16777216 % 256, x / 4294967296 % 256, x / 1099511627776 % 256, x / 281474976710656 % 256, x / 72057594037927936 % 256]
theorem nb_by8 (x : Nat) (h : x < 2 ^ 64) : nb (by8 x) = x := by
  simp only [by8, nb]
  omega
theorem by8_lt (x : Nat) : ∀ b ∈ by8 x, b < 256 := fun b hb => by
  simp only [by8, List.mem_cons, List.not_mem_nil, or_false] at hb
  omega
theorem pop8 (x : Nat) : pop x 8 = pop (x % 256) 8 := (pop_mod x 8).symm
theorem pop_by8 (x : Nat) : pop x 64 = pop (x % 256) 8 + pop (x / 256 % 256) 8 + pop (x / 65536 % 256) 8 + pop (x / 16777216 % 256) 8 + pop (x / 4294967296 % 256) 8 + pop (x / 1099511627776 % 256) 8 + pop (x / 281474976710656 % 256) 8 + pop (x / 72057594037927936 % 256) 8 := by
  rw [show (64 : Nat) = 8 + 8 + 8 + 8 + 8 + 8 + 8 + 8 by rfl]
  simp only [pop_add]
  rw [pop8 x, pop8 (x / 2 ^ 8), pop8 (x / 2 ^ (8 + 8)), pop8 (x / 2 ^ (8 + 8 + 8)), pop8 (x / 2 ^ (8 + 8 + 8 + 8)), pop8 (x / 2 ^ (8 + 8 + 8 + 8 + 8)), pop8 (x / 2 ^ (8 + 8 + 8 + 8 + 8 + 8)), pop8 (x / 2 ^ (8 + 8 + 8 + 8 + 8 + 8 + 8))]
theorem div1 (s0 s1 s2 s3 s4 s5 s6 s7 : Nat) (h0 : s0 < 256) : ((((((((0 * 256 + s7) * 256 + s6) * 256 + s5) * 256 + s4) * 256 + s3) * 256 + s2) * 256 + s1) * 256 + s0) / 256 = ((((((0 * 256 + s7) * 256 + s6) * 256 + s5) * 256 + s4) * 256 + s3) * 256 + s2) * 256 + s1 := by omega
theorem div2 (s0 s1 s2 s3 s4 s5 s6 s7 : Nat) (h0 : s0 < 256) (h1 : s1 < 256) : ((((((((0 * 256 + s7) * 256 + s6) * 256 + s5) * 256 + s4) * 256 + s3) * 256 + s2) * 256 + s1) * 256 + s0) / 65536 = (((((0 * 256 + s7) * 256 + s6) * 256 + s5) * 256 + s4) * 256 + s3) * 256 + s2 := by omega
theorem div4 (s0 s1 s2 s3 s4 s5 s6 s7 : Nat) (h0 : s0 < 256) (h1 : s1 < 256) (h2 : s2 < 256) (h3 : s3 < 256) : ((((((((0 * 256 + s7) * 256 + s6) * 256 + s5) * 256 + s4) * 256 + s3) * 256 + s2) * 256 + s1) * 256 + s0) / 4294967296 = (((0 * 256 + s7) * 256 + s6) * 256 + s5) * 256 + s4 := by omega
theorem fold8 (c0 c1 c2 c3 c4 c5 c6 c7 : Nat) (b0 : c0 < 9) (b1 : c1 < 9) (b2 : c2 < 9) (b3 : c3 < 9) (b4 : c4 < 9) (b5 : c5 < 9) (b6 : c6 < 9) (b7 : c7 < 9) (X3 X4 X5 X6 : Nat)
    (h3 : X3 = (((((((0 * 256 + c7) * 256 + c6) * 256 + c5) * 256 + c4) * 256 + c3) * 256 + c2) * 256 + c1) * 256 + c0) (h4 : X4 = X3 + X3 / 256) (h5 : X5 = X4 + X4 / 65536) (h6 : X6 = X5 + X5 / 4294967296) : X6 % 128 = c0 + c1 + c2 + c3 + c4 + c5 + c6 + c7 ∧ X6 < 2 ^ 61 := by
  have e4 : X4 = (((((((0 * 256 + c7) * 256 + (c6 + c7)) * 256 + (c5 + c6)) * 256 + (c4 + c5)) * 256 + (c3 + c4)) * 256 + (c2 + c3)) * 256 + (c1 + c2)) * 256 + (c0 + c1) := by
    rw [h4, h3, div1 _ _ _ _ _ _ _ _ (by omega)]; omega
  clear h3 h4
  have e5 : X5 = (((((((0 * 256 + c7) * 256 + (c6 + c7)) * 256 + (c5 + c6 + c7)) * 256 + (c4 + c5 + c6 + c7)) * 256 + (c3 + c4 + c5 + c6)) * 256 + (c2 + c3 + c4 + c5)) * 256 + (c1 + c2 + c3 + c4)) * 256 + (c0 + c1 + c2 + c3) := by
    rw [h5, e4, div2 _ _ _ _ _ _ _ _ (by omega) (by omega)]; omega
  clear h5 e4
  have e6 : X6 = (((((((0 * 256 + c7) * 256 + (c6 + c7)) * 256 + (c5 + c6 + c7)) * 256 + (c4 + c5 + c6 + c7)) * 256 + (c3 + c4 + c5 + c6 + c7)) * 256 + (c2 + c3 + c4 + c5 + c6 + c7)) * 256 + (c1 + c2 + c3 + c4 + c5 + c6 + c7)) * 256 + (c0 + c1 + c2 + c3 + c4 + c5 + c6 + c7) := by
    rw [h6, e5, div4 _ _ _ _ _ _ _ _ (by omega) (by omega) (by omega) (by omega)]; omega
  rw [e6]
  constructor <;> omega
/-- The count by halves is the count. -/
theorem swar (x : Nat) (h : x < 2 ^ 64) : ∃ X1 X2 X3 X4 X5 X6 : Nat, X1 = (x / 2 &&& 6148914691236517205) + (x &&& 6148914691236517205) ∧ X2 = (X1 / 4 &&& 3689348814741910323) + (X1 &&& 3689348814741910323) ∧
    X3 = (X2 / 16 + X2) &&& 1085102592571150095 ∧ X4 = X3 + X3 / 256 ∧ X5 = X4 + X4 / 65536 ∧ X6 = X5 + X5 / 4294967296 ∧ X6 % 128 = pop x 64 ∧ X3 ≤ 1085102592571150095 ∧ X6 < 2 ^ 61 := by
  have e := steps_nb (by8 x) (by8_lt x)
  rw [nb_by8 x h] at e
  have r1 : rep 85 (by8 x).length = 6148914691236517205 := by simp [by8, rep]
  have r2 : rep 51 (by8 x).length = 3689348814741910323 := by simp [by8, rep]
  have r3 : rep 15 (by8 x).length = 1085102592571150095 := by simp [by8, rep]
  rw [r1, r2, r3] at e
  simp only [by8, List.map_cons, List.map_nil, nb, st1, st2, st3] at e
  have f := fold8 _ _ _ _ _ _ _ _ (byte_4 (x % 256) (by omega)) (byte_4 (x / 256 % 256) (by omega)) (byte_4 (x / 65536 % 256) (by omega)) (byte_4 (x / 16777216 % 256) (by omega)) (byte_4 (x / 4294967296 % 256) (by omega)) (byte_4 (x / 1099511627776 % 256) (by omega)) (byte_4 (x / 281474976710656 % 256) (by omega)) (byte_4 (x / 72057594037927936 % 256) (by omega)) _ _ _ _ e rfl rfl rfl
  exact ⟨_, _, _, _, _, _, rfl, rfl, rfl, rfl, rfl, rfl, by rw [pop_by8]; exact f.1, Nat.and_le_right, f.2⟩
end Go.Proofs.YtagpdpacaoianaaGreatDoor
namespace Go.Proofs.YtagpdpacaoianaaGreatDoor
open Go.RowKit

/-- A slice's value with the address A and n elements of one cell each reads as xs, all of it below block B. -/
structure Rd (w : World) (B : Nat) (A : Option Addr) (n : Nat) (xs : List Value) : Prop where
  len : xs.length = n
  at_ : 0 < n → ∃ b o, A = some ⟨b, o, none⟩ ∧ b < B ∧ ∀ j (h : j < xs.length), w.cell? ⟨b, o + j, none⟩ = some xs[j]

/-- Block g is the cells cs of the element type t, none of them frozen. -/
def Blk (w : World) (g : Nat) (t : TypeId) (cs : Array Value) : Prop := w.heap[g]? = some (.cells cs t (0, 0))

/-- From w to w' nothing has turned but in blocks of S and in new ones. -/
structure Mod (S : Nat → Prop) (w w' : World) : Prop where
  os : w'.os = w.os
  tape : w'.tape = w.tape
  output : w'.output = w.output
  size : w.heap.size ≤ w'.heap.size
  block : ∀ k, k < w.heap.size → ¬ S k → w'.heap[k]? = w.heap[k]?

section
variable {w w' w1 w2 : World} {S S' : Nat → Prop}

theorem Mod.refl (S : Nat → Prop) (w : World) : Mod S w w := ⟨rfl, rfl, rfl, Nat.le_refl _, fun _ _ _ => rfl⟩
theorem Mod.trans (h : Mod S w w1) (k : Mod S' w1 w2) (hs : ∀ i, i < w.heap.size → S' i → S i) : Mod S w w2 :=
  ⟨k.os.trans h.os, k.tape.trans h.tape, k.output.trans h.output, Nat.le_trans h.size k.size,
    fun i hi hn => (k.block i (Nat.lt_of_lt_of_le hi h.size) (fun hs' => hn (hs i hi hs'))).trans (h.block i hi hn)⟩
theorem Mod.mono (h : Mod S w w') (hs : ∀ i, i < w.heap.size → S i → S' i) : Mod S' w w' :=
  ⟨h.os, h.tape, h.output, h.size, fun i hi hn => h.block i hi (fun k => hn (hs i hi k))⟩
theorem Mod.drewN (h : Mod S w w') (n : Nat) : Mod S w (w'.drewN n) := ⟨h.os, h.tape, h.output, h.size, h.block⟩
theorem Mod.drew (h : Mod S w w') : Mod S w w'.drew := ⟨h.os, h.tape, h.output, h.size, h.block⟩
theorem Mod.alloc (h : Mod S w w') (o : Obj) : Mod S w (w'.alloc o) :=
  ⟨h.os, h.tape, h.output, Nat.le_trans h.size (by simp), fun k hk hn => (Below.heap_alloc _ _ _ (Nat.lt_of_lt_of_le hk h.size)).trans (h.block k hk hn)⟩
theorem Mod.setCell (h : Mod S w w') {p : Addr} (hp : p.block < w.heap.size → S p.block) (u : Value) : Mod S w (w'.setCell p u) :=
  ⟨h.os, h.tape, h.output, by simpa [World.setCell] using h.size, fun k hk hn =>
    (Below.heap_setCell _ _ _ _ (fun e => hn (by subst e; exact hp hk))).trans (h.block k hk hn)⟩
theorem Mod.ofGrown {row : Option Nat} (h : w.grownBy w' row) : Mod (fun k => some k = row) w w' :=
  ⟨h.os, h.tape, h.output, h.size, fun k hk hn => h.block k hk hn⟩
theorem Mod.ofBelow {B : Nat} (h : Below B w w') : Mod (B ≤ ·) w w' :=
  ⟨h.os, h.tape, h.output, h.size, fun k _ hn => h.block k (Nat.lt_of_not_le hn)⟩
theorem Mod.below (h : Mod S w w') (hs : ∀ i, i < w.heap.size → ¬ S i) : Below w.heap.size w w' :=
  ⟨h.os, h.tape, h.output, h.size, fun k hk => h.block k hk (hs k hk)⟩
theorem Mod.belowB {B : Nat} (h : Mod S w w') (hB : B ≤ w.heap.size) (hs : ∀ i, i < B → ¬ S i) : Below B w w' :=
  ⟨h.os, h.tape, h.output, h.size, fun k hk => h.block k (Nat.lt_of_lt_of_le hk hB) (hs k hk)⟩
theorem Mod.none_ (h : Below w.heap.size w w') (S : Nat → Prop) : Mod S w w' :=
  ⟨h.os, h.tape, h.output, h.size, fun k hk _ => h.block k hk⟩

theorem Blk.lt {g : Nat} {t : TypeId} {cs : Array Value} (h : Blk w g t cs) : g < w.heap.size := by
  rcases Nat.lt_or_ge g w.heap.size with hlt | hge
  · exact hlt
  · unfold Blk at h; rw [Array.getElem?_eq_none hge] at h; cases h
theorem Blk.cell {g : Nat} {t : TypeId} {cs : Array Value} (h : Blk w g t cs) (i : Nat) : w.cell? ⟨g, i, none⟩ = cs[i]? := cell_of_row w g i cs t (0, 0) h
theorem Blk.frozen {g : Nat} {t : TypeId} {cs : Array Value} (h : Blk w g t cs) (i : Nat) : w.frozen? ⟨g, i, none⟩ = false := by
  unfold Blk at h
  simp [World.frozen?, h]
theorem Blk.new (w : World) (t : TypeId) (cs : Array Value) : Blk (w.alloc (.cells cs t)) w.heap.size t cs := heap_alloc_new w _
theorem Blk.alloc {g : Nat} {t : TypeId} {cs : Array Value} (h : Blk w g t cs) (o : Obj) : Blk (w.alloc o) g t cs := (Below.heap_alloc w o g h.lt).trans h
theorem Blk.drewN {g : Nat} {t : TypeId} {cs : Array Value} (h : Blk w g t cs) (n : Nat) : Blk (w.drewN n) g t cs := h
theorem Blk.set_ {g : Nat} {t : TypeId} {cs : Array Value} (h : Blk w g t cs) (i : Nat) (u : Value) : Blk (w.setCell ⟨g, i, none⟩ u) g t (cs.setIfInBounds i u) := by
  unfold Blk at h ⊢
  simp [World.setCell, Array.getElem?_modify, h]
theorem Blk.mod {g : Nat} {t : TypeId} {cs : Array Value} (h : Blk w g t cs) (m : Mod S w w') (hg : ¬ S g) : Blk w' g t cs := (m.block g h.lt hg).trans h

theorem Mod.cell (m : Mod S w w') {b : Nat} (hb : b < w.heap.size) (hn : ¬ S b) (o : Nat) : w'.cell? ⟨b, o, none⟩ = w.cell? ⟨b, o, none⟩ :=
  World.cell?_of_block (w := w) (m.block b hb hn)
theorem Mod.frozen (m : Mod S w w') {b : Nat} (hb : b < w.heap.size) (hn : ¬ S b) (o : Nat) : w'.frozen? ⟨b, o, none⟩ = w.frozen? ⟨b, o, none⟩ :=
  World.frozen?_of_block (w := w) (m.block b hb hn)

/-- Where the block lies that a slice leads to. -/
def inBlk (A : Option Addr) (k : Nat) : Prop := ∃ a : Addr, A = some a ∧ a.block = k

theorem Rd.mod {B n : Nat} {A : Option Addr} {xs : List Value} (h : Rd w B A n xs) (m : Mod S w w') (hB : B ≤ w.heap.size) (hn : 0 < n → ∀ k, inBlk A k → ¬ S k) : Rd w' B A n xs :=
  ⟨h.len, fun h0 => by
    obtain ⟨b, o, e, hb, hc⟩ := h.at_ h0
    exact ⟨b, o, e, hb, fun j hj => (m.cell (by omega) (hn h0 b ⟨_, e, rfl⟩) (o + j)).trans (hc j hj)⟩⟩
theorem Rd.below {B n : Nat} {A : Option Addr} {xs : List Value} (h : Rd w B A n xs) (m : Below B w w') : Rd w' B A n xs :=
  ⟨h.len, fun h0 => by
    obtain ⟨b, o, e, hb, hc⟩ := h.at_ h0
    exact ⟨b, o, e, hb, fun j hj => (m.cell (p := ⟨b, o + j, none⟩) hb).trans (hc j hj)⟩⟩
theorem Rd.up {B B' n : Nat} {A : Option Addr} {xs : List Value} (h : Rd w B A n xs) (hB : B ≤ B') : Rd w B' A n xs :=
  ⟨h.len, fun h0 => by
    obtain ⟨b, o, e, hb, hc⟩ := h.at_ h0
    exact ⟨b, o, e, by omega, hc⟩⟩
theorem Rd.nil (w : World) (B : Nat) (A : Option Addr) : Rd w B A 0 [] := ⟨rfl, fun h => absurd h (by omega)⟩
theorem Rd.ofOwn {base : Nat} {e : TypeId} {A : Option Addr} {n c : Nat} {xs : List Value} (h : w.ownsRow base e 1 (.slice A n c) n xs) : Rd w w.heap.size A n xs := by
  refine ⟨by simpa using h.1, fun hn => ?_⟩
  rcases h.2 with ⟨_, h0⟩ | ⟨g, cap, cur, hv, hb, hg, hle, hcm, hcs, ht⟩
  · omega
  · simp only [Value.slice.injEq, true_and] at hv
    obtain ⟨rfl, rfl⟩ := hv
    refine ⟨g, 0, rfl, (Array.getElem?_eq_some_iff.1 hg).1, fun j hj => ?_⟩
    have := h.cellAt j (by have := h.1; omega)
    rw [Nat.zero_add, this, List.getElem?_eq_getElem hj]

/-- A cut of a slice reads as the cut of its list. -/
theorem Rd.take {B n : Nat} {A : Option Addr} {xs : List Value} (h : Rd w B A n xs) (k : Nat) (hk : k ≤ n) : Rd w B A k (xs.take k) :=
  ⟨by rw [List.length_take, h.len]; omega, fun h0 => by
    obtain ⟨b, o, e, hb, hc⟩ := h.at_ (by omega)
    refine ⟨b, o, e, hb, fun j hj => ?_⟩
    rw [List.getElem_take]
    exact hc j _⟩
theorem Rd.cells {B n : Nat} {A : Option Addr} {xs : List Value} (h : Rd w B A n xs) {ad : Addr} (hA : A = some ad) : ∀ j u, xs[j]? = some u → w.cell? (ad.add j) = some u := by
  intro j u hu
  obtain ⟨hj, rfl⟩ := List.getElem?_eq_some_iff.1 hu
  obtain ⟨b, o, e, hb, hc⟩ := h.at_ (by have := h.len; omega)
  obtain rfl := Option.some.inj (hA.symm.trans e)
  have := hc j hj
  unfold Addr.add
  split
  · have : j = 0 := by simpa using ‹_›
    subst this
    simpa using hc 0 hj
  · exact this
theorem Rd.new (w : World) (t : TypeId) (cs : Array Value) (n : Nat) (xs : List Value) (h : cs.toList = xs) (hn : cs.size = n) : Rd (w.alloc (.cells cs t)) (w.heap.size + 1) (some ⟨w.heap.size, 0, none⟩) n xs := by
  subst h; subst hn
  refine ⟨by simp, fun _ => ⟨_, _, rfl, by omega, fun j hj => ?_⟩⟩
  rw [(Blk.new w t cs).cell, Nat.zero_add]
  simp at hj ⊢
theorem Rd.alloc {B n : Nat} {A : Option Addr} {xs : List Value} (h : Rd w B A n xs) (o : Obj) : Rd (w.alloc o) B A n xs :=
  ⟨h.len, fun h0 => by
    obtain ⟨b, o', e, hb, hc⟩ := h.at_ h0
    exact ⟨b, o', e, hb, fun j hj => (World.cell?_alloc_lt _ _ _ (World.block_lt_of_cell? _ _ (hc j hj))).trans (hc j hj)⟩⟩
theorem Rd.drewN {B n : Nat} {A : Option Addr} {xs : List Value} (h : Rd w B A n xs) (k : Nat) : Rd (w.drewN k) B A n xs := ⟨h.len, h.at_⟩
theorem below_draws {B : Nat} (h : Below B w w') (n : Nat) : Below B w (w'.drewN n) := ⟨h.os, h.tape, h.output, h.size, h.block⟩
theorem own_some {base : Nat} {e : TypeId} {A : Option Addr} {n m c : Nat} {xs : List Value} (h : w.ownsRow base e 1 (.slice A m c) n xs) (hn : 0 < n) : ∃ g, A = some ⟨g, 0, none⟩ ∧ base ≤ g ∧ g < w.heap.size := by
  rcases h.2 with ⟨_, h0⟩ | ⟨g, cap, cur, hv, hb, hg, _⟩
  · omega
  · simp only [Value.slice.injEq] at hv
    exact ⟨g, hv.1, hb, (Array.getElem?_eq_some_iff.1 hg).1⟩
theorem Rd.drop {B n : Nat} {b o : Nat} {xs : List Value} (h : Rd w B (some ⟨b, o, none⟩) n xs) (k : Nat) : Rd w B (some ⟨b, o + k, none⟩) (n - k) (xs.drop k) :=
  ⟨by rw [List.length_drop, h.len], fun h0 => by
    obtain ⟨b', o', e, hb, hc⟩ := h.at_ (by omega)
    simp only [Option.some.injEq, Addr.mk.injEq, and_true] at e
    obtain ⟨rfl, rfl⟩ := e
    refine ⟨_, _, rfl, hb, fun j hj => ?_⟩
    rw [List.getElem_drop, Nat.add_assoc]
    exact hc (k + j) _⟩
theorem Rd.none_ {B n : Nat} {xs : List Value} (h : Rd w B none n xs) : n = 0 := by
  rcases Nat.eq_zero_or_pos n with h' | h'
  · exact h'
  · obtain ⟨b, o, e, _⟩ := h.at_ h'
    cases e
theorem Rd.lt {B n : Nat} {A : Option Addr} {xs : List Value} (h : Rd w B A n xs) : Rd w w.heap.size A n xs :=
  ⟨h.len, fun h0 => by
    obtain ⟨b, o', e, hb, hc⟩ := h.at_ h0
    exact ⟨b, o', e, World.block_lt_of_cell? _ _ (hc 0 (by have := h.len; omega)), hc⟩⟩
end

theorem _root_.Go.World.ownsRow.base_le' {w : World} {base base' : Nat} {e : TypeId} {size : Nat} {v : Value} {n : Nat} {xs : List Value} (h : w.ownsRow base e size v n xs) (hb : base' ≤ base) : w.ownsRow base' e size v n xs := by
  refine ⟨h.1, ?_⟩
  rcases h.2 with h' | ⟨g, cap, cur, rfl, hg, rest⟩
  · exact .inl h'
  · exact .inr ⟨g, cap, cur, rfl, by omega, rest⟩
theorem own_mod {w w' : World} {S : Nat → Prop} {base : Nat} {e : TypeId} {size n : Nat} {v : Value} {xs : List Value} (h : w.ownsRow base e size v n xs) (m : Mod S w w') (hn : ∀ k, v.ownBlock = some k → ¬ S k) : w'.ownsRow base e size v n xs := by
  refine ⟨h.1, ?_⟩
  rcases h.2 with h' | ⟨g, cap, cur, rfl, hb, hg, rest⟩
  · exact .inl h'
  · exact .inr ⟨g, cap, cur, rfl, hb, (m.block g (Array.getElem?_eq_some_iff.1 hg).1 (hn g rfl)).trans hg, rest⟩
theorem own_below {w w' : World} {base : Nat} {e : TypeId} {size n : Nat} {v : Value} {xs : List Value} (h : w.ownsRow base e size v n xs) (m : Below w.heap.size w w') : w'.ownsRow base e size v n xs :=
  own_mod h (Mod.none_ m (fun _ => False)) (fun _ _ => id)
theorem own_ne {w : World} {base : Nat} {e t : TypeId} {size n g : Nat} {v : Value} {xs : List Value} {cs : Array Value} (h : w.ownsRow base e size v n xs) (hb : Blk w g t cs) (hne : e ≠ t) : v.ownBlock ≠ some g := by
  intro hv
  rcases h.2 with ⟨rfl, _⟩ | ⟨g', cap, cur, rfl, _, hg, _⟩
  · simp [Value.ownBlock] at hv
  · simp [Value.ownBlock] at hv
    subst hv
    unfold Blk at hb
    rw [hg] at hb
    simp at hb
    exact hne hb.2
theorem Blk.below {w w' : World} {g : Nat} {t : TypeId} {cs : Array Value} (h : Blk w g t cs) (m : Below w.heap.size w w') : Blk w' g t cs := (m.block g h.lt).trans h

/-- make of n elements of one cell. -/
theorem run_make_one {P : Program} (t e : TypeId) (i : TypeInfo) (z : Value) (bytes : Nat) (ht : P.underlying t = some (.slice e)) (hi : P.info? e = some i) (hz : i.zero = some z) (hsize : i.size = 1) (hby : i.bytes = bytes) (hzs : z.cells = #[z])
    (kl kc : IntKind) (n : Nat) (hb : bytes * n ≤ 281474976710656) (hn : n ≤ 9223372036854775807) (w : World) :
    (Instr.makeSlice t (.int kl (n : Int)) (.int kc (n : Int))).run P w = .ok (.slice (some ⟨w.heap.size, 0, none⟩) n n) (w.alloc (.cells (List.replicate n z).toArray e)) := by
  subst hby
  have hb' : (i.bytes : Int) * (n : Int) ≤ 281474976710656 := by
    have h : ((i.bytes * n : Nat) : Int) ≤ 281474976710656 := by omega
    rwa [Int.natCast_mul] at h
  have hr := run_make (P := P) w t e i z ht hi hz kl kc n n (by omega) (Int.le_refl _) hb' (by omega)
  simp only [Int.toNat_natCast, hsize, Nat.mul_one, hzs] at hr
  rw [hr]
  congr 3
  apply Array.toList_inj.1
  rw [toList_madeCells_one]
end Go.Proofs.YtagpdpacaoianaaGreatDoor
namespace Go.Proofs.YtagpdpacaoianaaGreatDoor
open Go.RowKit
set_option linter.unusedVariables false

/-- As a count of a number's bits. -/
def cnt64 (k : Int) : Nat := if k ≤ 0 then 0 else if 64 ≤ k then 64 else k.toNat
theorem count_p (k : Int) (w : World) (h : -9223372036854775808 ≤ k ∧ k ≤ 9223372036854775807) :
    Calls Tryz.prog 76 #[.int .i64 k] w fun e w' => e = .returned (.int .i64 (cnt64 k : Int)) ∧ w = w' := by
  obtain ⟨m, hm, hm0⟩ : ∃ m : Int, (∀ w, (Builtin.max_ #[3, 3] 3 #[.int .i64 k, .int .i64 0]).run Tryz.prog w = .ok (.int .i64 m) w) ∧ m = (if k ≤ 0 then 0 else k) :=
    ⟨if k ≤ 0 then 0 else k, fun w => by simp [Builtin.max_, Builtin.max2]; split <;> split <;> omega, rfl⟩
  have hmn : ∀ w, (Builtin.min_ #[3, 3] 3 #[.int .i64 m, .int .i64 64]).run Tryz.prog w = .ok (.int .i64 ((cnt64 k : Nat) : Int)) w := fun w => by
    simp [Builtin.min_, Builtin.min2, cnt64]
    repeat' split
    all_goals (first | rfl | omega | (subst hm0; repeat' split at * <;> omega) | (simp_all; omega))
  generalize cnt64 k = c at *
  clear hm0
  go_enter Tryz.func76, Tryz.ntmps76
  go_wp2
  go_ret
  exact ⟨rfl, rfl⟩
theorem low_eq : ∀ k : Nat, k < 65 → (18446744073709551615 : Int) / 2 ^ (64 - k) = ((2 ^ k - 1 : Nat) : Int) := by decide +kernel
theorem low_p (k : Nat) (w : World) (h : k ≤ 64) :
    Calls Tryz.prog 77 #[.int .i64 (k : Int)] w fun e w' => e = .returned (.int .u64 ((2 ^ k - 1 : Nat) : Int)) ∧ w = w' := by
  go_enter Tryz.func77, Tryz.ntmps77
  go_wp2
  go_ret
  exact ⟨congrArg (fun x => Ending.returned (.int .u64 x)) (low_eq k (by omega)), rfl⟩
end Go.Proofs.YtagpdpacaoianaaGreatDoor
namespace Go.Proofs.YtagpdpacaoianaaGreatDoor
open Go.RowKit
theorem own_form {w : World} {base : Nat} {e : TypeId} {size n : Nat} {v : Value} {xs : List Value} (h : w.ownsRow base e size v n xs) : ∃ A c, v = .slice A n c ∧ n ≤ c ∧ c ≤ maxLen := by
  rcases h.2 with ⟨rfl, rfl⟩ | ⟨g, cap, cur, rfl, _, _, h1, h2, _⟩
  · exact ⟨none, 0, rfl, Nat.le_refl _, Nat.zero_le _⟩
  · exact ⟨_, _, rfl, h1, h2⟩

section
variable {P : Program} (w : World)

theorem run_append_none (base : Nat) (t ty e : TypeId) (i : TypeInfo) (size : Nat) (ht : P.underlying t = some (.slice e)) (hi : P.info? e = some i)
    (v : Value) (n : Nat) (xs : List Value) (hown : w.ownsRow base e size v n xs) (c : Nat) :
    (Builtin.append_ #[t, t] ty #[v, .slice none 0 c]).run P w = .ok v w := by
  rcases hown.2 with ⟨rfl, rfl⟩ | ⟨g, cap, cur, rfl, _, _, hnc, _⟩
  · simp [Builtin.append_, run_underlying ht, sizeOf, typeInfo, hi, Builtin.lenOf, Builtin.firstCells]
  · simp [Builtin.append_, run_underlying ht, sizeOf, typeInfo, hi, Builtin.lenOf, Builtin.firstCells, hnc, storeCells]

theorem run_append_rd (base : Nat) (t ty e : TypeId) (i : TypeInfo) (z : Value) (bytes : Nat) (ht : P.underlying t = some (.slice e)) (hi : P.info? e = some i) (hz : i.zero = some z)
    (hsize : i.size = 1) (hby : i.bytes = bytes) (hzs : z.cells.size = 1)
    (v : Value) (n : Nat) (xs : List Value) (hown : w.ownsRow base e 1 v n xs)
    (B : Nat) (A : Option Addr) (m c : Nat) (news : List Value) (hr : Rd w B A m news) (h1 : ∀ u ∈ news, u.oneCell' = true)
    (h63 : n + m ≤ maxLen) (hbytes : (n + m) * bytes ≤ 140737488355328) (hbase : base ≤ w.heap.size) :
    ∃ v' w', (Builtin.append_ #[t, t] ty #[v, .slice A m c]).run P w = .ok v' w' ∧ w'.ownsRow base e 1 v' (n + m) (xs ++ news) ∧ w.grownBy w' v.ownBlock ∧
      (v'.ownBlock = v.ownBlock ∨ v'.ownBlock = some w.heap.size) := by
  cases A with
  | none =>
    obtain rfl : m = 0 := by
      rcases Nat.eq_zero_or_pos m with h | h
      · exact h
      · obtain ⟨b, o, e, _⟩ := hr.at_ h
        cases e
    obtain rfl : news = [] := List.eq_nil_of_length_eq_zero hr.len
    exact ⟨v, w, run_append_none w base t ty e i 1 ht hi v n xs hown c, by simpa using hown, ⟨rfl, rfl, rfl, Nat.le_refl _, fun _ _ _ => rfl⟩, .inl rfl⟩
  | some ad =>
    obtain ⟨v', w', hrun, h2, h3, _, h5⟩ := run_append_own_at (P := P) w base t ty e i z 1 bytes ht hi hz hsize hby hzs (by omega) v n xs hown ad m c news (by simpa using hr.len) (hr.cells rfl) h1 h63 hbytes hbase
    exact ⟨v', w', hrun, h2, h3, h5⟩

theorem wp_append_rd {o : Oper} {a : Act} {K : Act → World → Prop} {Q : Exit → Act → World → Prop} (s x : Operand) (t : TypeId)
    (ho : o.op = .call { callee := .builtin .append, args := #[s, x], argTypes := #[t, t] })
    (base : Nat) (e : TypeId) (i : TypeInfo) (z : Value) (bytes : Nat) (ht : P.underlying t = some (.slice e)) (hi : P.info? e = some i) (hz : i.zero = some z)
    (hsize : i.size = 1) (hby : i.bytes = bytes) (hzs : z.cells.size = 1)
    (v : Value) (n : Nat) (xs : List Value) (hs : a.eval s = v) (hown : w.ownsRow base e 1 v n xs)
    (B : Nat) (A : Option Addr) (m c : Nat) (news : List Value) (hx : a.eval x = .slice A m c) (hr : Rd w B A m news) (h1 : ∀ u ∈ news, u.oneCell' = true)
    (h63 : n + m ≤ maxLen) (hbytes : (n + m) * bytes ≤ 140737488355328) (hbase : base ≤ w.heap.size)
    (h : ∀ A' c' w', n + m ≤ c' → c' ≤ maxLen → w'.ownsRow base e 1 (.slice A' (n + m) c') (n + m) (xs ++ news) → w.grownBy w' v.ownBlock →
      ((Value.slice A' (n + m) c').ownBlock = v.ownBlock ∨ (Value.slice A' (n + m) c').ownBlock = some w.heap.size) → K (a.put o.dst (.slice A' (n + m) c')) w') : o.wp P a w K Q := by
  obtain ⟨v', w', hrun, h2, h3, h4⟩ := run_append_rd (P := P) w base t o.type e i z bytes ht hi hz hsize hby hzs v n xs hown B A m c news hr h1 h63 hbytes hbase
  unfold Oper.wp execOp
  simp only [ho, resolve, invoke, builtin, Sem.run_bind, Sem.run_pure, Result.andThen_ok, List.map_toArray, List.map_cons, List.map_nil, hs, hx, hrun]
  obtain ⟨A', c', rfl, h5, h6⟩ := own_form h2
  exact h A' c' w' h5 h6 h2 h3 h4

theorem wpList_wanted {w : World} {ops : Array Oper} {rest : List Oper} {o : Oper} {a : Act} {Q : Exit → Act → World → Prop} (hw : Region.wanted o (yielded ops a.tmps) = true)
    (h : ∀ K : Act → World → Prop, (∀ a w, wpList P ops Q rest a w → K a w) → o.wp P a w K Q) : wpList P ops Q (o :: rest) a w :=
  wpList_step fun K hK => by simp only [hw, if_true]; exact h K hK

theorem wpList_append_rd {ops : Array Oper} {rest : List Oper} {o : Oper} {a : Act} {Q : Exit → Act → World → Prop} (hgd : Region.wanted o (yielded ops a.tmps) = true) (s x : Operand) (t : TypeId)
    (ho : o.op = .call { callee := .builtin .append, args := #[s, x], argTypes := #[t, t] })
    (base : Nat) (e : TypeId) (i : TypeInfo) (z : Value) (bytes : Nat) (ht : P.underlying t = some (.slice e)) (hi : P.info? e = some i) (hz : i.zero = some z)
    (hsize : i.size = 1) (hby : i.bytes = bytes) (hzs : z.cells.size = 1)
    (v : Value) (n : Nat) (xs : List Value) (hs : a.eval s = v) (hown : w.ownsRow base e 1 v n xs)
    (B : Nat) (A : Option Addr) (m c : Nat) (news : List Value) (hx : a.eval x = .slice A m c) (hr : Rd w B A m news) (h1 : ∀ u ∈ news, u.oneCell' = true)
    (h63 : n + m ≤ maxLen) (hbytes : (n + m) * bytes ≤ 140737488355328) (hbase : base ≤ w.heap.size)
    (h : ∀ A' c' w', n + m ≤ c' → c' ≤ maxLen → w'.ownsRow base e 1 (.slice A' (n + m) c') (n + m) (xs ++ news) → w.grownBy w' v.ownBlock →
      ((Value.slice A' (n + m) c').ownBlock = v.ownBlock ∨ (Value.slice A' (n + m) c').ownBlock = some w.heap.size) → wpList P ops Q rest (a.put o.dst (.slice A' (n + m) c')) w') : wpList P ops Q (o :: rest) a w :=
  wpList_wanted hgd fun _ hK => wp_append_rd w s x t ho base e i z bytes ht hi hz hsize hby hzs v n xs hs hown B A m c news hx hr h1 h63 hbytes hbase fun A' c' w' h2 h3 h4 h5 h6 => hK _ _ (h A' c' w' h2 h3 h4 h5 h6)
end

/-- What an append leaves of what lies below the call's own blocks. -/
theorem Mod.appended {w w' : World} {base : Nat} {e : TypeId} {v : Value} {n : Nat} {xs : List Value} (hown : w.ownsRow base e 1 v n xs) (hg : w.grownBy w' v.ownBlock) : Mod (fun k => base ≤ k) w w' :=
  (Mod.ofGrown hg).mono fun i _ h => (hown.lt i h.symm).1
theorem Below.appended {w w' : World} {base : Nat} {e : TypeId} {v : Value} {n : Nat} {xs : List Value} (hown : w.ownsRow base e 1 v n xs) (hg : w.grownBy w' v.ownBlock) (hb : base ≤ w.heap.size) : Below base w w' :=
  (Below.refl _ _).grown hg hb (fun k hk => (hown.lt k hk).1)
end Go.Proofs.YtagpdpacaoianaaGreatDoor
namespace Go.Proofs.YtagpdpacaoianaaGreatDoor
open Go.RowKit

theorem region_class {P : Program} {id : Nat} {Q : Exit → Act → World → Prop} {a : Act} {w : World} {l : List Oper} (C : World → Prop) (hm : P.follows .mixedOrders = true) (hB : Region.lexB .any l.toArray = true)
    (hC : C w.drew) (h : wpQuiet P l.toArray C (fun a' => ∀ w', C w' → Q .normal a' w') l a) : (Code.region id l.toArray true).wp P Q a w :=
  wp_region_quiet (C := C) hm hB hC (by simpa using h)
end Go.Proofs.YtagpdpacaoianaaGreatDoor
namespace Go.Proofs.YtagpdpacaoianaaGreatDoor
open Go.RowKit
set_option linter.unusedVariables false

def U64 (z : List Nat) : List Value := z.map fun (x : Nat) => Value.int .u64 (x : Int)
theorem U64_len (z : List Nat) : (U64 z).length = z.length := by simp [U64]
theorem U64_append (l m : List Nat) : U64 (l ++ m) = U64 l ++ U64 m := by simp [U64]
theorem U64_set (y : List Nat) (k v : Nat) : U64 (y.set k v) = (U64 y).set k (.int .u64 (v : Int)) := by simp [U64, List.map_set]
theorem U64_get (z : List Nat) (k : Nat) (hk : k < z.length) : (U64 z)[k]? = some (.int .u64 ((z.getD k 0 : Nat) : Int)) := by
  simp [U64, List.getD_eq_getElem?_getD, List.getElem?_eq_getElem hk]
/-- The words of n bits. -/
def words (V m : Nat) : List Nat := (List.range m).map (wd V)
theorem words_len (V m : Nat) : (words V m).length = m := by simp [words]
theorem words_get (V m i : Nat) (h : i < m) : (words V m).getD i 0 = wd V i := by simp [words, List.getD_eq_getElem?_getD, h]
theorem words_next (V m : Nat) : words V (m + 1) = words V m ++ [wd V m] := by simp [words, List.range_succ]
/-- At g lies the vector whose n bits are V; its words lie in a row of its own. -/
def VecB (w : World) (B g V n : Nat) (A : Option Addr) : Prop :=
  V < 2 ^ n ∧ n ≤ 1000000 ∧ ∃ c, Blk w g 91 #[.slice A ((n + 63) / 64) c, .int .i64 (n : Int)] ∧
    w.ownsRow B 72 1 (.slice A ((n + 63) / 64) c) ((n + 63) / 64) (U64 (words V ((n + 63) / 64)))
/-- The same, where the row was made behind the vector. -/
def VecAt (w : World) (g V n : Nat) (A : Option Addr) : Prop := VecB w (g + 1) g V n A
theorem VecB.below {w w' : World} {B g V n : Nat} {A : Option Addr} (h : VecB w B g V n A) (m : Below w.heap.size w w') : VecB w' B g V n A := by
  obtain ⟨h1, h2, c, h3, h4⟩ := h
  exact ⟨h1, h2, c, h3.below m, own_below h4 m⟩
theorem VecB.base {w : World} {B B' g V n : Nat} {A : Option Addr} (h : VecB w B g V n A) (hB : B' ≤ B) : VecB w B' g V n A := by
  obtain ⟨h1, h2, c, h3, h4⟩ := h
  exact ⟨h1, h2, c, h3, h4.base_le' hB⟩
/-- The blocks of a vector. -/
def foot (g : Nat) (A : Option Addr) (i : Nat) : Prop := i = g ∨ ∃ b, A = some ⟨b, 0, none⟩ ∧ i = b
theorem VecB.foot_lt {w : World} {B g V n : Nat} {A : Option Addr} (h : VecB w B g V n A) {i : Nat} (hi : foot g A i) : i < w.heap.size := by
  obtain ⟨h1, h2, c, h3, h4⟩ := h
  rcases hi with rfl | ⟨b, rfl, rfl⟩
  · exact h3.lt
  · exact (h4.lt _ rfl).2
theorem VecB.foot_le {w : World} {B g V n : Nat} {A : Option Addr} (h : VecB w B g V n A) {i : Nat} (hi : foot g A i) : i = g ∨ B ≤ i := by
  obtain ⟨h1, h2, c, h3, h4⟩ := h
  rcases hi with rfl | ⟨b, rfl, rfl⟩
  · exact .inl rfl
  · exact .inr (h4.lt _ rfl).1
theorem VecB.mod {w w' : World} {S : Nat → Prop} {B g V n : Nat} {A : Option Addr} (h : VecB w B g V n A) (m : Mod S w w') (hs : ∀ i, foot g A i → ¬ S i) : VecB w' B g V n A := by
  obtain ⟨h1, h2, c, h3, h4⟩ := h
  refine ⟨h1, h2, c, h3.mod m (hs g (.inl rfl)), own_mod h4 m fun k hk => hs k (.inr ?_)⟩
  rcases h4.2 with ⟨e, _⟩ | ⟨b, cap, cur, e, _⟩
  · simp only [Value.slice.injEq] at e
    rw [e.1] at hk; simp [Value.ownBlock] at hk
  · simp only [Value.slice.injEq] at e
    rw [e.1] at hk ⊢
    simp [Value.ownBlock] at hk
    exact ⟨b, rfl, hk.symm⟩
theorem VecAt.below {w w' : World} {g V n : Nat} {A : Option Addr} (h : VecAt w g V n A) (m : Below w.heap.size w w') : VecAt w' g V n A := VecB.below h m
theorem bnew_p (w : World) :
    Calls Tryz.prog 37 #[] w fun e w' => e = .returned (.pointer (some ⟨w.heap.size, 0, none⟩)) ∧ VecAt w' w.heap.size 0 0 none ∧ Below w.heap.size w w' := by
  go_enter Tryz.func37, Tryz.ntmps37
  go_wp2
  go_ret
  refine ⟨rfl, ⟨by decide, by omega, 0, ?_, ?_⟩, (Below.refl _ _).alloc (Nat.le_refl _) _⟩
  · exact Blk.new w _ _
  · simpa [words, U64] using World.ownsRow_nil _ _ _ _
theorem blen_p (g V n : Nat) (A : Option Addr) (w : World) {B : Nat} (h : VecB w B g V n A) :
    Calls Tryz.prog 35 #[.pointer (some ⟨g, 0, none⟩)] w fun e w' => e = .returned (.int .i64 (n : Int)) ∧ w = w' := by
  obtain ⟨h1, h2, c, hb, ho⟩ := h
  have c1 : w.cell? ⟨g, 1, none⟩ = some (.int .i64 (n : Int)) := hb.cell 1
  clear hb ho
  go_enter Tryz.func35, Tryz.ntmps35
  go_wp2
  go_ret
  exact ⟨rfl, rfl⟩
theorem blen_nil (w : World) :
    Calls Tryz.prog 35 #[.pointer none] w fun e w' => e = .returned (.int .i64 0) ∧ w = w' := by
  go_enter Tryz.func35, Tryz.ntmps35
  go_wp2
  go_ret
  exact ⟨rfl, rfl⟩
theorem wrap_u64 (y s : Nat) : IntKind.u64.wrap ((y : Int) * 2 ^ s) = ((y * 2 ^ s % 2 ^ 64 : Nat) : Int) := by
  simp [IntKind.wrap, IntKind.signed, IntKind.bits]
/-- The k bits from the place p on. -/
theorem get_p (g V n p k : Nat) (A : Option Addr) (w : World) {B : Nat} (h : VecB w B g V n A) (hk0 : 1 ≤ k) (hk : k ≤ 64) (hp : p + k ≤ n) :
    Calls Tryz.prog 91 #[.pointer (some ⟨g, 0, none⟩), .int .i64 (p : Int), .int .i64 (k : Int)] w fun e w' => e = .returned (.int .u64 ((V / 2 ^ p % 2 ^ k : Nat) : Int)) ∧ w = w' := by
  obtain ⟨h1, h2, c, hb, ho⟩ := h
  have c0 : w.cell? ⟨g, 0, none⟩ = some (.slice A ((n + 63) / 64) c) := hb.cell 0
  obtain ⟨m, hm⟩ : ∃ m, m = (n + 63) / 64 := ⟨_, rfl⟩
  rw [← hm] at c0 ho
  obtain ⟨b, rfl, hb1, hb2⟩ := own_some ho (by omega)
  have cell : ∀ i, i < m → w.cell? ⟨b, i, none⟩ = some (.int .u64 ((wd V i : Nat) : Int)) := fun i hi => by
    have r := Rd.ofOwn ho
    obtain ⟨b', o', e, _, hc⟩ := r.at_ (by omega)
    have hl : i < (U64 (words V m)).length := by rw [U64_len, words_len]; exact hi
    have := hc i hl
    cases e
    rw [Nat.zero_add] at this
    rw [this]
    have h3 := U64_get (words V m) i (by rw [words_len]; exact hi)
    rw [words_get _ _ _ hi, List.getElem?_eq_getElem hl] at h3
    exact h3
  obtain ⟨i, hi⟩ : ∃ i, i = p / 64 := ⟨_, rfl⟩
  obtain ⟨s, hs⟩ : ∃ s, s = p % 64 := ⟨_, rfl⟩
  have hs64 : s < 64 := by omega
  have him : i < m := by omega
  have ci := cell i him
  have q1 : (p : Int) / 64 = (i : Int) := by omega
  have q2 : (p : Int) % 64 = (s : Int) := by omega
  have hpi : p = 64 * i + s := by omega
  have LOW := Lib.hid (low_p k w hk)
  by_cases hsk : s + k ≤ 64
  · have G := get_one V i s k hsk
    rw [← hpi] at G
    rw [← G]
    clear G hm hi hs cell hb ho h1
    have hp0 : p ≤ 1000000 := by omega
    have hi0 : i ≤ 1000000 := by omega
    clear hpi hp
    have HX : Hid (wd V i < 2 ^ 64) := wd_lt V i
    generalize wd V i = x at *
    have HSK : ((s : Int) + (k : Int) ≤ 64) := by omega
    clear hsk
    go_enter Tryz.func91, Tryz.ntmps91
    go_wp2_with fail
    refine LOW.out.mono ?_
    rintro e w1 ⟨rfl, rfl⟩
    go_wp2
    go_ret
    refine ⟨congrArg (fun z => Ending.returned (.int .u64 z)) ?_, rfl⟩
    have e : ((x : Int) / 2 ^ s) = ((x / 2 ^ s : Nat) : Int) := by simp
    rw [e, u64_and_nat _ _ (Nat.lt_of_le_of_lt (Nat.div_le_self _ _) HX.out) (Nat.lt_of_lt_of_le (Nat.sub_lt (Nat.two_pow_pos k) Nat.one_pos) (Nat.pow_le_pow_right (by omega) hk)), Nat.and_two_pow_sub_one_eq_mod]
  · have hs0 : 0 < s := by omega
    have him2 : i + 1 < m := by omega
    have cj := cell (i + 1) him2
    have G := get_two V i s k hs64 hs0 hk
    rw [← hpi] at G
    rw [← G]
    have HX : Hid (wd V i < 2 ^ 64) := wd_lt V i
    have HY : Hid (wd V (i + 1) < 2 ^ 64) := wd_lt V (i + 1)
    have hp0 : p ≤ 1000000 := by omega
    have hi0 : i ≤ 1000000 := by omega
    clear G hm hi hs cell hb ho h1 hpi hp
    generalize wd V i = x at *
    generalize wd V (i + 1) = y at *
    have HSK : (64 : Int) < (s : Int) + (k : Int) := by omega
    clear hsk
    go_enter Tryz.func91, Tryz.ntmps91
    go_wp2_with fail
    refine LOW.out.mono ?_
    rintro e w1 ⟨rfl, rfl⟩
    go_wp2
    go_ret
    refine ⟨congrArg (fun z => Ending.returned (.int .u64 z)) ?_, rfl⟩
    have e : ((x : Int) / 2 ^ s) = ((x / 2 ^ s : Nat) : Int) := by simp
    have hl1 : x / 2 ^ s < 18446744073709551616 := Nat.lt_of_le_of_lt (Nat.div_le_self _ _) HX.out
    have hl2 : y * 2 ^ (64 - s) % 2 ^ 64 < 18446744073709551616 := Nat.mod_lt _ (by decide)
    have hl3 : (x / 2 ^ s ||| y * 2 ^ (64 - s) % 2 ^ 64) < 18446744073709551616 := Nat.or_lt_two_pow (n := 64) hl1 hl2
    rw [e, wrap_u64, u64_or_nat _ _ hl1 hl2, u64_and_nat _ _ hl3 (Nat.lt_of_lt_of_le (Nat.sub_lt (Nat.two_pow_pos k) Nat.one_pos) (Nat.pow_le_pow_right (by omega) hk)), Nat.and_two_pow_sub_one_eq_mod]
end Go.Proofs.YtagpdpacaoianaaGreatDoor
namespace Go.Proofs.YtagpdpacaoianaaGreatDoor
open Go.RowKit
set_option linter.unusedVariables false
section
variable {P : Program} (w : World)
/-- What the old row holds: the elements that it held. -/
def Keeps (w' : World) (v : Value) (n : Nat) (xs : List Value) : Prop := ∀ g c, v = .slice (some ⟨g, 0, none⟩) n c → ∀ j u, xs[j]? = some u → w'.cell? ⟨g, j, none⟩ = some u
theorem append_keeps (t ty : TypeId) (base : Nat) (e : TypeId) (i : TypeInfo) (z : Value) (size bytes : Nat) (ht : P.underlying t = some (.slice e)) (hi : P.info? e = some i) (hz : i.zero = some z)
    (hsize : i.size = size) (hby : i.bytes = bytes) (hzs : z.cells.size = size) (hsz : 0 < size)
    (v : Value) (n : Nat) (xs : List Value) (hown : w.ownsRow base e size v n xs)
    (ad : Addr) (m c : Nat) (news : List Value) (hl : news.length = m * size) (hnews : ∀ j u, news[j]? = some u → w.cell? (ad.add j) = some u) (h1 : ∀ u ∈ news, u.oneCell' = true)
    (hm : 0 < m) (h63 : n + m ≤ maxLen) (hbytes : (n + m) * bytes ≤ 140737488355328)
    {g' cap' : Nat} {w' : World} (hr : (Builtin.append_ #[t, t] ty #[v, .slice (some ad) m c]).run P w = .ok (.slice (some ⟨g', 0, none⟩) (n + m) cap') w')
    (hown' : w'.ownsRow base e size (.slice (some ⟨g', 0, none⟩) (n + m) cap') (n + m) (xs ++ news)) : Keeps w' v n xs := by
  subst hsize
  subst hby
  intro g0 c0 hv j u hu
  subst hv
  have hsmall : n + m ≤ 9223372036854775807 := by simp only [maxLen] at h63; omega
  rcases hown.2 with ⟨hx, _⟩ | ⟨g, cap, cur, hv, hbg, hg, hnc, hcm, hcs, htake⟩
  · cases hx
  · simp only [Value.slice.injEq, Option.some.injEq, Addr.mk.injEq, and_true, true_and] at hv
    obtain ⟨rfl, rfl⟩ := hv
    by_cases hroom : n + m ≤ c0
    · have hfit : n * i.size + news.length ≤ cur.size := by rw [hl, hcs, ← Nat.add_mul]; exact Nat.mul_le_mul_right _ hroom
      have hr2 := run_append_room (P := P) w t ty e i ht hi g0 n c0 cur hg ad m c news hl hnews h1 hroom hfit
      rw [hr2] at hr
      simp only [Result.ok.injEq, Value.slice.injEq, Option.some.injEq, Addr.mk.injEq, and_true, true_and] at hr
      obtain ⟨⟨rfl, rfl⟩, rfl⟩ := hr
      have hjl := (List.getElem?_eq_some_iff.1 hu).1
      have := hown'.cellAt j (by have h9 := hown'.1; rw [List.length_append] at h9; omega)
      rw [this, List.getElem?_append_left hjl, hu]
    · have holds : ∀ j u, xs[j]? = some u → w.cell? ((⟨g0, 0, none⟩ : Addr).add j) = some u := hown.cells (g := g0) rfl
      have hr2 := run_append_grow (P := P) w t ty e i z ht hi hz ⟨g0, 0, none⟩ n c0 xs hown.1 holds ad m c news hl hnews (by omega) (by omega) (growslice_fits (by omega) hbytes)
      rw [hr2] at hr
      simp only [Result.ok.injEq] at hr
      obtain ⟨_, rfl⟩ := hr
      have hc := hown.cellAt j (by have h9 := hown.1; have := (List.getElem?_eq_some_iff.1 hu).1; omega)
      rw [hu] at hc
      have hlt := World.block_lt_of_cell? _ _ hc
      exact (World.cell?_alloc_lt _ _ _ hlt).trans hc
theorem step_append_keep {ops : Array Oper} {o : Oper} {a : Act} {K : Act → World → Prop} {Q : Exit → Act → World → Prop} {E : Prop} (hgd : o.guard = none) (s x : Operand) (t : TypeId)
    (ho : o.op = .call { callee := .builtin .append, args := #[s, x], argTypes := #[t, t] })
    (base : Nat) (e : TypeId) (i : TypeInfo) (z : Value) (size bytes : Nat) (ht : P.underlying t = some (.slice e)) (hi : P.info? e = some i) (hz : i.zero = some z)
    (hsize : i.size = size) (hby : i.bytes = bytes) (hzs : z.cells.size = size) (hsz : 0 < size)
    (v : Value) (n : Nat) (xs : List Value) (hs : a.eval s = v) (hown : w.ownsRow base e size v n xs)
    (ad : Addr) (m c : Nat) (news : List Value) (hx : a.eval x = .slice (some ad) m c) (hl : news.length = m * size) (hnews : ∀ j u, news[j]? = some u → w.cell? (ad.add j) = some u) (h1 : ∀ u ∈ news, u.oneCell' = true)
    (hm : 0 < m) (h63 : n + m ≤ maxLen) (hbytes : (n + m) * bytes ≤ 140737488355328) (hbase : base ≤ w.heap.size) (H : Nat) (hH : w.heap.size = H)
    (h : ∀ g cap w', w'.ownsRow base e size (.slice (some ⟨g, 0, none⟩) (n + m) cap) (n + m) (xs ++ news) → w.grownBy w' v.ownBlock → (v.ownBlock = some g ∨ g = H) → g < w'.heap.size → Keeps w' v n xs → K (a.put o.dst (.slice (some ⟨g, 0, none⟩) (n + m) cap)) w') :
    if Region.wanted o (yielded ops a.tmps) = true then Oper.wp P o a w K Q else E := by
  have hw : Region.wanted o (yielded ops a.tmps) = true := by simp [Region.wanted, hgd]
  rw [if_pos hw]
  obtain ⟨g, cap, w', hr, h2, h3, h4, h5⟩ := run_append_lies (P := P) w t o.type base e i z size bytes ht hi hz hsize hby hzs hsz v n xs hown ad m c news hl hnews h1 hm h63 hbytes hbase H hH
  have hk := append_keeps (P := P) w t o.type base e i z size bytes ht hi hz hsize hby hzs hsz v n xs hown ad m c news hl hnews h1 hm h63 hbytes hr h2
  unfold Oper.wp execOp
  simp only [ho, resolve, invoke, builtin, Sem.run_bind, Sem.run_pure, Result.andThen_ok, List.map_toArray, List.map_cons, List.map_nil, hs, hx, hr]
  exact h g cap w' h2 h3 h4 h5 hk
theorem wpList_append_keep {ops : Array Oper} {rest : List Oper} {o : Oper} {a : Act} {Q : Exit → Act → World → Prop} (hgd : o.guard = none) (s x : Operand) (t : TypeId)
    (ho : o.op = .call { callee := .builtin .append, args := #[s, x], argTypes := #[t, t] })
    (base : Nat) (e : TypeId) (i : TypeInfo) (z : Value) (size bytes : Nat) (ht : P.underlying t = some (.slice e)) (hi : P.info? e = some i) (hz : i.zero = some z)
    (hsize : i.size = size) (hby : i.bytes = bytes) (hzs : z.cells.size = size) (hsz : 0 < size)
    (v : Value) (n : Nat) (xs : List Value) (hs : a.eval s = v) (hown : w.ownsRow base e size v n xs)
    (ad : Addr) (m c : Nat) (news : List Value) (hx : a.eval x = .slice (some ad) m c) (hl : news.length = m * size) (hnews : ∀ j u, news[j]? = some u → w.cell? (ad.add j) = some u) (h1 : ∀ u ∈ news, u.oneCell' = true)
    (hm : 0 < m) (h63 : n + m ≤ maxLen) (hbytes : (n + m) * bytes ≤ 140737488355328) (hbase : base ≤ w.heap.size) (H : Nat) (hH : w.heap.size = H)
    (h : ∀ g cap w', w'.ownsRow base e size (.slice (some ⟨g, 0, none⟩) (n + m) cap) (n + m) (xs ++ news) → w.grownBy w' v.ownBlock → (v.ownBlock = some g ∨ g = H) → g < w'.heap.size → Keeps w' v n xs → wpList P ops Q rest (a.put o.dst (.slice (some ⟨g, 0, none⟩) (n + m) cap)) w') : wpList P ops Q (o :: rest) a w :=
  wpList_wanted (by simp [Region.wanted, hgd]) fun _ hK => by
    obtain ⟨g, cap, w', hr, h2, h3, h4, h5⟩ := run_append_lies (P := P) w t o.type base e i z size bytes ht hi hz hsize hby hzs hsz v n xs hown ad m c news hl hnews h1 hm h63 hbytes hbase H hH
    have hk := append_keeps (P := P) w t o.type base e i z size bytes ht hi hz hsize hby hzs hsz v n xs hown ad m c news hl hnews h1 hm h63 hbytes hr h2
    unfold Oper.wp execOp
    simp only [ho, resolve, invoke, builtin, Sem.run_bind, Sem.run_pure, Result.andThen_ok, List.map_toArray, List.map_cons, List.map_nil, hs, hx, hr]
    exact hK _ _ (h g cap w' h2 h3 h4 h5 hk)
end
end Go.Proofs.YtagpdpacaoianaaGreatDoor
namespace Go.Proofs.YtagpdpacaoianaaGreatDoor
open Go.RowKit
set_option linter.unusedVariables false

theorem num_nil (x : Nat) (k : Int) (w : World) (h : -9223372036854775808 ≤ k ∧ k ≤ 9223372036854775807) :
    Calls Tryz.prog 48 #[.pointer none, .int .u64 (x : Int), .int .i64 k] w fun e w' => e = .returned (.tuple #[]) ∧ w = w' := by
  have C := Lib.hid (count_p k w h)
  go_enter Tryz.func48, Tryz.ntmps48
  go_wp2_with fail
  refine C.out.mono ?_
  rintro e w' ⟨rfl, rfl⟩
  go_wp2
  exact bodyPost_ret (results_none rfl _ _ _) rfl ⟨rfl, rfl⟩
theorem num_zeroB (g x : Nat) (k : Int) (w : World) (h : -9223372036854775808 ≤ k ∧ k ≤ 0) :
    Calls Tryz.prog 48 #[.pointer (some ⟨g, 0, none⟩), .int .u64 (x : Int), .int .i64 k] w fun e w' => e = .returned (.tuple #[]) ∧ w = w' := by
  have C := Lib.hid (count_p k w ⟨h.1, by omega⟩)
  have hc : cnt64 k = 0 := by unfold cnt64; rw [if_pos h.2]
  rw [hc] at C
  go_enter Tryz.func48, Tryz.ntmps48
  go_wp2_with fail
  refine C.out.mono ?_
  rintro e w' ⟨rfl, rfl⟩
  go_wp2
  exact bodyPost_ret (results_none rfl _ _ _) rfl ⟨rfl, rfl⟩

/-- What the old row holds behind Num: each word as it was, or as it is now. -/
def OldK (w' : World) (A : Option Addr) (V V' n : Nat) : Prop :=
  ∀ b, A = some ⟨b, 0, none⟩ → ∀ i, i < (n + 63) / 64 → w'.cell? ⟨b, i, none⟩ = some (.int .u64 ((wd V i : Nat) : Int)) ∨ w'.cell? ⟨b, i, none⟩ = some (.int .u64 ((wd V' i : Nat) : Int))
theorem OldK.same {w' : World} {g V V' n n' : Nat} {A : Option Addr} (h : VecAt w' g V' n' A) (hn : n ≤ n') : OldK w' A V V' n := by
  obtain ⟨_, _, c, _, ho⟩ := h
  intro b hb i hi
  subst hb
  right
  rw [ho.cellAt i (by omega), U64_get _ _ (by rw [words_len]; omega), words_get _ _ _ (by omega)]
theorem info_u64 : (Tryz.prog.info? 72).map (fun i => (i.zero, i.size, i.bytes)) = some (some (.int .u64 0), 1, 8) := by kernel_rfl
set_option maxRecDepth 20000 in
set_option maxHeartbeats 2000000 in
theorem num_new (g V n x kk : Nat) (k : Int) (A : Option Addr) (w : World) (h : VecAt w g V n A) (hx : x < 2 ^ 64) (hk : -9223372036854775808 ≤ k ∧ k ≤ 9223372036854775807) (hkk : cnt64 k = kk) (hk1 : 1 ≤ kk) (hk64 : kk ≤ 64) (hn : n + 64 ≤ 1000000) (hs : n % 64 = 0) :
    Calls Tryz.prog 48 #[.pointer (some ⟨g, 0, none⟩), .int .u64 (x : Int), .int .i64 k] w fun e w' => e = .returned (.tuple #[]) ∧
      ∃ A', VecAt w' g (put V n x kk) (n + kk) A' ∧ Mod (fun i => i = g ∨ (∃ b, A = some ⟨b, 0, none⟩ ∧ i = b)) w w' ∧ (A' = A ∨ ∃ b, A' = some ⟨b, 0, none⟩ ∧ w.heap.size ≤ b) ∧ OldK w' A V (put V n x kk) n := by
  have C := Lib.hid (count_p k w hk)
  rw [hkk] at C
  have L := Lib.hid (low_p kk w hk64)
  obtain ⟨i0, hi0, hz0, hz1, hz2⟩ := info_parts info_u64
  obtain ⟨hV, hn1, c, hb, ho⟩ := h
  obtain ⟨m, hm⟩ : ∃ m, m = (n + 63) / 64 := ⟨_, rfl⟩
  rw [← hm] at hb ho
  have c0 : w.cell? ⟨g, 0, none⟩ = some (.slice A m c) := hb.cell 0
  have c1 : w.cell? ⟨g, 1, none⟩ = some (.int .i64 (n : Int)) := hb.cell 1
  obtain ⟨X, hX⟩ : ∃ X, X = x % 2 ^ kk := ⟨_, rfl⟩
  have hand : bits .and .u64 (x : Int) ((2 ^ kk - 1 : Nat) : Int) = ((X : Nat) : Int) := by
    rw [u64_and_nat _ _ hx (Nat.lt_of_lt_of_le (Nat.sub_lt (Nat.two_pow_pos kk) Nat.one_pos) (Nat.pow_le_pow_right (by omega) hk64)), Nat.and_two_pow_sub_one_eq_mod, hX]
  have hr : (n : Int) % 64 = 0 := by omega
  have ho' := ho.alloc (.cells #[.int .u64 (X : Int)] 72)
  have hnw := cell_one_new w (.int .u64 (X : Int)) 72
  have hsz : (w.alloc (.cells #[.int .u64 (X : Int)] 72)).heap.size = w.heap.size + 1 := by simp
  have t1 : m + 1 ≤ maxLen := by simp only [maxLen]; omega
  have t2 : (m + 1) * 8 ≤ 140737488355328 := by omega
  have hgl := hb.lt
  have t3 : g + 1 ≤ (w.alloc (.cells #[.int .u64 (X : Int)] 72)).heap.size := by simp; omega
  have h1s : ∀ u ∈ [Value.int .u64 (X : Int)], u.oneCell' = true := by intro u hu; simp at hu; subst hu; rfl
  have HB := Lib.hid hb
  have HXX := Lib.hid hX
  have HMM := Lib.hid hm
  have hk0 : ¬ kk = 0 := by omega
  have HSS := Lib.hid hs
  clear hb ho hX hm hkk hs
  generalize hP : 2 ^ kk - 1 = PP at *
  clear hP
  go_enter Tryz.func48, Tryz.ntmps48
  go_wp2_with fail
  refine C.out.mono ?_
  rintro e w' ⟨rfl, rfl⟩
  go_wp2_with fail
  refine L.out.mono ?_
  rintro e w' ⟨rfl, rfl⟩
  go_wp2_with (first
    | (at_builtin; go_must (refine wpList_append_keep _ rfl _ _ 89 rfl (g + 1) 72 i0 (.int .u64 0) 1 8 Tryz.underlying89 hi0 hz0 hz1 hz2 rfl (by decide) (.slice A m c) m _ rfl ho' ⟨w.heap.size, 0, none⟩ 1 1 [.int .u64 (X : Int)] rfl rfl hnw h1s (by decide) t1 t2 t3 _ hsz ?_)))
  intro gg c6 w6 hown6 hg6 hor hlt6 hkp
  have hne : ∀ q, (Value.slice A m c).ownBlock = some q → q ≠ g := fun q hq e => by have := (ho'.lt q hq).1; omega
  have m6 := Mod.ofGrown hg6
  have b6 : Blk w6 g 91 #[.slice A m c, .int .i64 (n : Int)] := (HB.out.alloc _).mod m6 (fun e => hne g e.symm rfl)
  have d1 : w6.cell? ⟨g, 1, none⟩ = some (.int .i64 (n : Int)) := b6.cell 1
  have d0 : w6.cell? ⟨g, 0, none⟩ = some (.slice A m c) := b6.cell 0
  have f0 := b6.frozen 0
  have f1 := b6.frozen 1
  have B6 := Lib.hid b6
  have M6 := Lib.hid m6
  have HOR := Lib.hid hor
  have HNE := Lib.hid hne
  have HO := Lib.hid ho'
  have HG := Lib.hid hg6
  have HOWN := Lib.hid hown6
  have HKP := Lib.hid hkp
  clear b6 m6 hor hne ho' hg6 hown6 hnw hsz h1s t1 t2 t3 hkp
  go_wp2
  refine bodyPost_end (results_none rfl _ _ _) rfl ⟨rfl, some ⟨gg, 0, none⟩, ?_, ?_, ?_, ?_⟩
  · have hn64 : n = 64 * m := by have := HSS.out; have := HMM.out; omega
    have hm1 : (n + kk + 63) / 64 = m + 1 := by omega
    refine ⟨put_lt x kk hV, by omega, c6, ?_, ?_⟩
    · rw [hm1]
      have := (B6.out.set_ 0 (.slice (some ⟨gg, 0, none⟩) (m + 1) c6)).set_ 1 (.int .i64 ((n : Int) + (kk : Int)))
      simpa using this
    · rw [hm1]
      have hw : U64 (words V m) ++ [Value.int .u64 (X : Int)] = U64 (words (put V n x kk) (m + 1)) := by
        rw [words_next, U64_append, wd_put_new x kk m hV hn64 hk64, ← HXX.out]
        refine congrArg (· ++ _) (congrArg U64 (List.map_congr_left fun i hi => ?_))
        rw [List.mem_range] at hi
        exact (wd_put_low x kk i hV (by omega)).symm
      rw [← hw]
      have mm : Mod (fun i => i = g) w6 ((w6.setCell ⟨g, 0, none⟩ (.slice (some ⟨gg, 0, none⟩) (m + 1) c6)).setCell ⟨g, 1, none⟩ (.int .i64 ((n : Int) + (kk : Int)))) :=
        Mod.setCell (p := ⟨g, 1, none⟩) (Mod.setCell (p := ⟨g, 0, none⟩) (Mod.refl (fun i => i = g) w6) (fun _ => rfl) _) (fun _ => rfl) _
      exact own_mod HOWN.out mm (fun q hq hx => by have := (HOWN.out.lt q hq).1; omega)
  · have ha : ∀ i, some i = (Value.slice A m c).ownBlock → i = g ∨ ∃ b, A = some ⟨b, 0, none⟩ ∧ i = b := fun i hi => by
      rcases HO.out.2 with ⟨h1, _⟩ | ⟨g', cap, cur, hv, _⟩
      · rw [h1] at hi; simp [Value.ownBlock] at hi
      · simp only [Value.slice.injEq] at hv
        rw [hv.1] at hi ⊢
        simp [Value.ownBlock] at hi
        exact .inr ⟨g', rfl, hi⟩
    exact ((((Mod.refl _ w).alloc _).trans M6.out (fun i _ hi => ha i hi)).setCell (fun _ => .inl rfl) _).setCell (fun _ => .inl rfl) _
  · rcases HOR.out with h1 | h1
    · left
      rcases HO.out.2 with ⟨h2, _⟩ | ⟨g', cap, cur, hv, _⟩
      · rw [h2] at h1; simp [Value.ownBlock] at h1
      · simp only [Value.slice.injEq] at hv
        rw [hv.1] at h1 ⊢
        simp [Value.ownBlock] at h1
        rw [h1]
    · right
      exact ⟨gg, rfl, by omega⟩
  · intro b hb i hi
    left
    have hbg : g + 1 ≤ b := by
      subst hb
      exact (HO.out.lt b rfl).1
    have hi2 : i < m := by rw [HMM.out]; exact hi
    have h1 := HKP.out b c (by rw [hb]) i (.int .u64 ((wd V i : Nat) : Int)) (by rw [U64_get _ _ (by rw [words_len]; exact hi2), words_get _ _ _ hi2])
    have h2 : (⟨b, i, none⟩ : Addr) ≠ ⟨g, 0, none⟩ := fun e => by have := congrArg Addr.block e; simp at this; omega
    have h3 : (⟨b, i, none⟩ : Addr) ≠ ⟨g, 1, none⟩ := fun e => by have := congrArg Addr.block e; simp at this; omega
    rw [World.cell?_setCell_other _ _ _ _ h3.symm, World.cell?_setCell_other _ _ _ _ h2.symm]
    exact h1

set_option maxRecDepth 20000 in
set_option maxHeartbeats 2000000 in
theorem num_last (g V n x kk : Nat) (k : Int) (A : Option Addr) (w : World) (h : VecAt w g V n A) (hx : x < 2 ^ 64) (hk : -9223372036854775808 ≤ k ∧ k ≤ 9223372036854775807) (hkk : cnt64 k = kk) (hk1 : 1 ≤ kk) (hk64 : kk ≤ 64) (hn : n + 64 ≤ 1000000) (s : Nat) (hs : n % 64 = s) (hs0 : 0 < s) (hsk : s + kk ≤ 64) :
    Calls Tryz.prog 48 #[.pointer (some ⟨g, 0, none⟩), .int .u64 (x : Int), .int .i64 k] w fun e w' => e = .returned (.tuple #[]) ∧
      ∃ A', VecAt w' g (put V n x kk) (n + kk) A' ∧ Mod (fun i => i = g ∨ (∃ b, A = some ⟨b, 0, none⟩ ∧ i = b)) w w' ∧ (A' = A ∨ ∃ b, A' = some ⟨b, 0, none⟩ ∧ w.heap.size ≤ b) ∧ OldK w' A V (put V n x kk) n := by
  have C := Lib.hid (count_p k w hk)
  rw [hkk] at C
  have L := Lib.hid (low_p kk w hk64)
  obtain ⟨hV, hn1, c, hb, ho⟩ := h
  obtain ⟨q, hq⟩ : ∃ q, q = n / 64 := ⟨_, rfl⟩
  have hm : (n + 63) / 64 = q + 1 := by omega
  have hnq : n = 64 * q + s := by omega
  rw [hm] at hb ho
  obtain ⟨b, rfl, hb1, hb2⟩ := own_some ho (by omega)
  have c0 : w.cell? ⟨g, 0, none⟩ = some (.slice (some ⟨b, 0, none⟩) (q + 1) c) := hb.cell 0
  have c1 : w.cell? ⟨g, 1, none⟩ = some (.int .i64 (n : Int)) := hb.cell 1
  have cq : w.cell? ⟨b, q, none⟩ = some (.int .u64 ((wd V q : Nat) : Int)) := by
    rw [ho.cellAt q (by omega), U64_get _ _ (by rw [words_len]; omega), words_get _ _ _ (by omega)]
  have fq := ho.frozenAt q
  have f1 := hb.frozen 1
  obtain ⟨X, hX⟩ : ∃ X, X = x % 2 ^ kk := ⟨_, rfl⟩
  have hand : bits .and .u64 (x : Int) ((2 ^ kk - 1 : Nat) : Int) = ((X : Nat) : Int) := by
    rw [u64_and_nat _ _ hx (Nat.lt_of_lt_of_le (Nat.sub_lt (Nat.two_pow_pos kk) Nat.one_pos) (Nat.pow_le_pow_right (by omega) hk64)), Nat.and_two_pow_sub_one_eq_mod, hX]
  have hr : (n : Int) % 64 = (s : Int) := by omega
  have HOR : Hid (bits .or .u64 ((wd V q : Nat) : Int) (IntKind.u64.wrap ((X : Int) * 2 ^ s)) = ((wd (put V n x kk) q : Nat) : Int)) := by
    show _ = _
    rw [wrap_u64, u64_or_nat _ _ (wd_lt V q) (Nat.mod_lt _ (by decide)), wd_put_last x kk q s hV hnq (by omega), hX]
  have hgl := hb.lt
  have HB := Lib.hid hb
  have HO := Lib.hid ho
  have HNQ := Lib.hid hnq
  have hk0 : ¬ kk = 0 := by omega
  have hs64 : s < 64 := by omega
  have hq2 : q ≤ 1000000 := by omega
  have hsk2 : ¬ (64 : Int) < (s : Int) + (kk : Int) := by omega
  clear hb ho hX hm hkk hs hq hnq
  generalize hP : 2 ^ kk - 1 = PP at *
  clear hP
  generalize hW : wd V q = W at *
  clear hW
  go_enter Tryz.func48, Tryz.ntmps48
  go_wp2_with fail
  refine C.out.mono ?_
  rintro e w' ⟨rfl, rfl⟩
  go_wp2_with fail
  refine L.out.mono ?_
  rintro e w' ⟨rfl, rfl⟩
  go_wp2_with fail
  go_region
  go_wp2
  rw [HOR.out]
  suffices hvec : VecAt ((w.setCell ⟨b, q, none⟩ (.int .u64 ((wd (put V n x kk) q : Nat) : Int))).setCell ⟨g, 1, none⟩ (.int .i64 ((n : Int) + (kk : Int)))) g (put V n x kk) (n + kk) (some ⟨b, 0, none⟩) by
    refine bodyPost_end (results_none rfl _ _ _) rfl ⟨rfl, some ⟨b, 0, none⟩, hvec.below (Below.refl _ _).drew, Mod.drew (Mod.setCell (p := ⟨g, 1, none⟩) (Mod.setCell (p := ⟨b, q, none⟩) (Mod.refl _ w) (fun _ => .inr ⟨b, rfl, rfl⟩) _) (fun _ => .inl rfl) _), .inl rfl, ?_⟩
    exact OldK.same (hvec.below (Below.refl _ _).drew) (Nat.le_add_right _ _)
  have hn64 := HNQ.out
  have hm1 : (n + kk + 63) / 64 = q + 1 := by omega
  refine ⟨put_lt x kk hV, by omega, c, ?_, ?_⟩
  · rw [hm1]
    have b1 : Blk (w.setCell ⟨b, q, none⟩ (.int .u64 ((wd (put V n x kk) q : Nat) : Int))) g 91 #[.slice (some ⟨b, 0, none⟩) (q + 1) c, .int .i64 (n : Int)] :=
      HB.out.mod (Mod.setCell (p := ⟨b, q, none⟩) (Mod.refl (fun i => i = b) w) (fun _ => rfl) _) (fun e => by omega)
    have := b1.set_ 1 (.int .i64 ((n : Int) + (kk : Int)))
    simpa using this
  · rw [hm1]
    have hw : (U64 (words V (q + 1))).set q (.int .u64 ((wd (put V n x kk) q : Nat) : Int)) = U64 (words (put V n x kk) (q + 1)) := by
      rw [← U64_set, words_next, words_next, List.set_append_right _ _ (by rw [words_len]; exact Nat.le_refl _), words_len, Nat.sub_self]
      refine congrArg U64 (congrArg (· ++ _) (List.map_congr_left fun i hi => ?_))
      rw [List.mem_range] at hi
      exact (wd_put_low x kk i hV (by omega)).symm
    rw [← hw]
    exact own_mod (HO.out.stored q _).1 (Mod.setCell (p := ⟨g, 1, none⟩) (Mod.refl (fun i => i = g) _) (fun _ => rfl) _) (fun r hr2 hx2 => by simp [Value.ownBlock] at hr2; omega)
end Go.Proofs.YtagpdpacaoianaaGreatDoor
