/- Plain mathematics of bits in a row: n bits are a number V < 2^n, and word i is wd V i; no program in sight. Lists of noughts and ones, and the number that they are; no program in sight. Letters of two sorts, as plain lists: those of a sort, how many are ahead. How many ones a number has, and the count by halves that the library makes; no program in sight. The small calls of bits. A vector of bits as it lies in memory. append: what the old row holds behind it. Num: bits put behind. Num: the bits go over the last word's end. Num, whole; two vectors side by side; the library's Clone and Equal of words. Bytes. Same: two vectors, nil or not. Few, Add, of: bits out of bytes, and a vector of them. Add: bits put behind one by one; of: a vector of bits. Read, and what a reader answers. Ones: the library's count of one word, the vector's, the document's. An index of bits as it lies in memory; what it answers without its directory. sync.Once in one goroutine: its parts; Do, when it has been done. build: the directory is made. build: sync.Once calls it, the first time. -/
import Derived.Test.YthdmkcnclmgdlaaZg1
import Derived.Test.YthdmkcnclmgdlaaProg
import Derived.WalkKit
import Derived.Laws.BitsAllLaws
import Derived.Deep.AppendLies
import Derived.BigRegion
import Derived.Deep.DeepMust
import Derived.Deep.RegionLaw
import Derived.Laws.BytesArg
import Derived.ArgAppend
import Derived.RegionTactic
import Derived.Deep.QuietTactic
import Derived.BigQuiet
import Derived.Deep.RegionWith
import Derived.Laws.Bits128
import Derived.Laws.LoneSync
import Derived.Laws.Pointers
import Derived.Defers
import Derived.RegionCalls
import Derived.ChangeAlike
import Derived.Deep.DeepCutAuto
namespace Go.Proofs.Ythdmkcnclmgdlaa
set_option linter.unusedVariables false

/-- The word i of the bits that V is. -/
def wd (V i : Nat) : Nat := V / 2 ^ (64 * i) % 2 ^ 64
theorem wd_lt (V i : Nat) : wd V i < 2 ^ 64 := Nat.mod_lt _ (by decide)
theorem wd_bit (V i j : Nat) : (wd V i).testBit j = (decide (j < 64) && V.testBit (64 * i + j)) := by
  unfold wd
  rw [Nat.testBit_mod_two_pow, Nat.testBit_div_two_pow]
  congr 2
  omega
/-- V with x's lowest k bits behind its n bits. -/
def put (V n x k : Nat) : Nat := V + x % 2 ^ k * 2 ^ n
theorem put_lt {V n : Nat} (x k : Nat) (h : V < 2 ^ n) : put V n x k < 2 ^ (n + k) := by
  unfold put
  have h1 : x % 2 ^ k < 2 ^ k := Nat.mod_lt _ (Nat.two_pow_pos k)
  have h2 : x % 2 ^ k * 2 ^ n ≤ (2 ^ k - 1) * 2 ^ n := Nat.mul_le_mul_right _ (by omega)
  have h3 : (2 ^ k - 1) * 2 ^ n = 2 ^ (n + k) - 2 ^ n := by rw [Nat.sub_mul, Nat.one_mul, ← Nat.pow_add, Nat.add_comm k n]
  have h4 : 2 ^ n ≤ 2 ^ (n + k) := Nat.pow_le_pow_right (by omega) (by omega)
  omega
theorem put_bit {V n : Nat} (x k j : Nat) (h : V < 2 ^ n) : (put V n x k).testBit j = if j < n then V.testBit j else (decide (j - n < k) && x.testBit (j - n)) := by
  unfold put
  rw [Nat.add_comm, Nat.mul_comm, Nat.testBit_two_pow_mul_add _ h, Nat.testBit_mod_two_pow]
theorem wd_high {V n i : Nat} (h : V < 2 ^ n) (hi : n ≤ 64 * i) : wd V i = 0 := by
  unfold wd
  rw [Nat.div_eq_of_lt (Nat.lt_of_lt_of_le h (Nat.pow_le_pow_right (by omega) hi))]
/-- The words ahead of the last one stay when bits are put behind. -/
theorem wd_put_low {V n : Nat} (x k i : Nat) (h : V < 2 ^ n) (hi : 64 * i + 64 ≤ n) : wd (put V n x k) i = wd V i := by
  apply Nat.eq_of_testBit_eq
  intro j
  rw [wd_bit, wd_bit]
  by_cases hj : j < 64
  · rw [put_bit x k _ h, if_pos (by omega)]
  · simp [hj]
/-- A new word: the bits fall on its first place. -/
theorem wd_put_new {V n : Nat} (x k i : Nat) (h : V < 2 ^ n) (hi : n = 64 * i) (hk : k ≤ 64) : wd (put V n x k) i = x % 2 ^ k := by
  apply Nat.eq_of_testBit_eq
  intro j
  rw [wd_bit, put_bit x k _ h, if_neg (by omega), show 64 * i + j - n = j by omega, Nat.testBit_mod_two_pow]
  by_cases hj : j < k
  · simp [hj, show j < 64 by omega]
  · simp [hj]
/-- The last word takes what fits. -/
theorem wd_put_last {V n : Nat} (x k i s : Nat) (h : V < 2 ^ n) (hn : n = 64 * i + s) (hs : s < 64) : wd (put V n x k) i = wd V i ||| (x % 2 ^ k * 2 ^ s) % 2 ^ 64 := by
  apply Nat.eq_of_testBit_eq
  intro j
  rw [Nat.testBit_or, wd_bit, wd_bit, put_bit x k _ h, Nat.testBit_mod_two_pow, Nat.mul_comm (x % 2 ^ k), Nat.testBit_two_pow_mul, Nat.testBit_mod_two_pow]
  by_cases hj : j < 64
  · by_cases hjs : j < s
    · simp [hj, show 64 * i + j < n by omega, show ¬ s ≤ j by omega]
    · have hV : V.testBit (64 * i + j) = false := Nat.testBit_lt_two_pow (Nat.lt_of_lt_of_le h (Nat.pow_le_pow_right (by omega) (by omega)))
      rw [if_neg (by omega), show 64 * i + j - n = j - s by omega, hV]
      simp [hj, show s ≤ j by omega]
  · simp [hj]
/-- The word behind the last takes what is left. -/
theorem wd_put_next {V n : Nat} (x k i s : Nat) (h : V < 2 ^ n) (hn : n = 64 * i + s) (hs : s < 64) (hs0 : 0 < s) (hk : k ≤ 64) : wd (put V n x k) (i + 1) = x % 2 ^ k / 2 ^ (64 - s) := by
  apply Nat.eq_of_testBit_eq
  intro j
  rw [wd_bit, put_bit x k _ h, if_neg (by omega), Nat.testBit_div_two_pow, Nat.testBit_mod_two_pow, show 64 * (i + 1) + j - n = 64 - s + j by omega]
  by_cases hj : 64 - s + j < k
  · simp [show j + (64 - s) < k by omega, show j < 64 by omega, Nat.add_comm]
  · simp [show ¬ 64 - s + j < k by omega, show ¬ j + (64 - s) < k by omega]
/-- Bits read out of one word. -/
theorem get_one (V i s k : Nat) (h : s + k ≤ 64) : wd V i / 2 ^ s % 2 ^ k = V / 2 ^ (64 * i + s) % 2 ^ k := by
  apply Nat.eq_of_testBit_eq
  intro j
  rw [Nat.testBit_mod_two_pow, Nat.testBit_mod_two_pow, Nat.testBit_div_two_pow, Nat.testBit_div_two_pow, wd_bit]
  by_cases hj : j < k
  · simp [hj, show j + s < 64 by omega, show 64 * i + (j + s) = j + (64 * i + s) by omega]
  · simp [hj]
/-- Bits read out of two words. -/
theorem get_two (V i s k : Nat) (hs : s < 64) (hs0 : 0 < s) (hk : k ≤ 64) : (wd V i / 2 ^ s ||| wd V (i + 1) * 2 ^ (64 - s) % 2 ^ 64) % 2 ^ k = V / 2 ^ (64 * i + s) % 2 ^ k := by
  apply Nat.eq_of_testBit_eq
  intro j
  rw [Nat.testBit_mod_two_pow, Nat.testBit_mod_two_pow, Nat.testBit_or, Nat.testBit_div_two_pow, Nat.testBit_div_two_pow, wd_bit, Nat.testBit_mod_two_pow, Nat.mul_comm (wd V (i + 1)), Nat.testBit_two_pow_mul, wd_bit]
  by_cases hj : j < k
  · by_cases hjs : j + s < 64
    · simp [hj, hjs, show ¬ 64 - s ≤ j by omega, show 64 * i + (j + s) = j + (64 * i + s) by omega]
    · simp [hj, hjs, show 64 - s ≤ j by omega, show j < 64 by omega, show j - (64 - s) < 64 by omega, show 64 * (i + 1) + (j - (64 - s)) = j + (64 * i + s) by omega]
  · simp [hj]
end Go.Proofs.Ythdmkcnclmgdlaa
namespace Go.Proofs.Ythdmkcnclmgdlaa
set_option linter.unusedVariables false

def ofNB (l : List Nat) : List Int := l.map fun (x : Nat) => (x : Int)
theorem ofN_lenB (l : List Nat) : (ofNB l).length = l.length := by simp [ofNB]
theorem ofN_appendB (l m : List Nat) : ofNB (l ++ m) = ofNB l ++ ofNB m := by simp [ofNB]
theorem ofN_takeB (l : List Nat) (k : Nat) : ofNB (l.take k) = (ofNB l).take k := by simp [ofNB, List.map_take]
theorem ofN_dropB (l : List Nat) (k : Nat) : ofNB (l.drop k) = (ofNB l).drop k := by simp [ofNB, List.map_drop]
theorem ofN_getB (l : List Nat) (i : Nat) : (ofNB l).getD i 0 = ((l.getD i 0 : Nat) : Int) := by
  by_cases h : i < l.length
  · simp [ofNB, List.getD_eq_getElem?_getD, h]
  · simp [ofNB, List.getD_eq_getElem?_getD, Nat.le_of_not_lt h]
theorem ofN_injB {l m : List Nat} (h : ofNB l = ofNB m) : l = m := by
  have hl : l.length = m.length := by rw [← ofN_lenB, h, ofN_lenB]
  apply List.ext_getElem hl
  intro i h1 h2
  have := congrArg (fun l => l.getD i 0) h
  simp only [ofN_getB] at this
  simp only [List.getD_eq_getElem?_getD, List.getElem?_eq_getElem h1, List.getElem?_eq_getElem h2, Option.getD_some] at this
  omega

/-- The number of some bits, the lowest first. -/
def val : List Nat → Nat
  | [] => 0
  | b :: l => b + 2 * val l
/-- Noughts and ones. -/
def Bin (l : List Nat) : Prop := ∀ b ∈ l, b < 2
theorem Bin.nil : Bin [] := fun _ h => by cases h
theorem Bin.tail {b : Nat} {l : List Nat} (h : Bin (b :: l)) : Bin l := fun x hx => h x (List.mem_cons_of_mem _ hx)
theorem Bin.head {b : Nat} {l : List Nat} (h : Bin (b :: l)) : b < 2 := h b (List.mem_cons_self ..)
theorem Bin.append {l m : List Nat} (h : Bin l) (k : Bin m) : Bin (l ++ m) := fun x hx => by
  rcases List.mem_append.1 hx with hx | hx
  · exact h x hx
  · exact k x hx
theorem Bin.take {l : List Nat} (h : Bin l) (k : Nat) : Bin (l.take k) := fun x hx => h x (List.mem_of_mem_take hx)
theorem Bin.drop {l : List Nat} (h : Bin l) (k : Nat) : Bin (l.drop k) := fun x hx => h x (List.mem_of_mem_drop hx)
theorem Bin.getD {l : List Nat} (h : Bin l) (i : Nat) : l.getD i 0 < 2 := by
  by_cases hi : i < l.length
  · rw [List.getD_eq_getElem?_getD, List.getElem?_eq_getElem hi]
    exact h _ (List.getElem_mem hi)
  · rw [List.getD_eq_getElem?_getD, List.getElem?_eq_none (by omega)]; decide
theorem val_lt {l : List Nat} (h : Bin l) : val l < 2 ^ l.length := by
  induction l with
  | nil => simp [val]
  | cons b l ih =>
    have h1 := ih h.tail
    have h2 := h.head
    simp only [val, List.length_cons, Nat.pow_succ]
    omega
theorem val_append (l m : List Nat) : val (l ++ m) = val l + 2 ^ l.length * val m := by
  induction l with
  | nil => simp [val]
  | cons b l ih => 
    simp only [List.cons_append, val, ih, List.length_cons, Nat.pow_succ]
    rw [Nat.mul_add, ← Nat.mul_assoc, Nat.mul_comm 2 (2 ^ l.length)]
    omega
theorem val_bit {l : List Nat} (h : Bin l) (i : Nat) : val l / 2 ^ i % 2 = l.getD i 0 := by
  induction l generalizing i with
  | nil => simp [val]
  | cons b l ih =>
    have hb := h.head
    cases i with
    | zero => simp [val]; omega
    | succ i =>
      have e : (b + 2 * val l) / 2 ^ (i + 1) = val l / 2 ^ i := by
        rw [Nat.pow_succ, Nat.mul_comm (2 ^ i) 2, ← Nat.div_div_eq_div_mul]
        congr 1; omega
      simp only [val, e, List.getD_cons_succ]
      exact ih h.tail i
theorem val_inj {l m : List Nat} (h : Bin l) (k : Bin m) (hl : l.length = m.length) (e : val l = val m) : l = m := by
  apply List.ext_getElem hl
  intro i h1 h2
  have a := val_bit h i
  have b := val_bit k i
  rw [e, b] at a
  simpa [List.getD_eq_getElem?_getD, List.getElem?_eq_getElem h1, List.getElem?_eq_getElem h2] using a.symm
/-- A number's k lowest bits. -/
def numL (x k : Nat) : List Nat := (List.range k).map fun i => x / 2 ^ i % 2
theorem numL_len (x k : Nat) : (numL x k).length = k := by simp [numL]
theorem numL_bin (x k : Nat) : Bin (numL x k) := fun b hb => by
  simp only [numL, List.mem_map] at hb
  obtain ⟨i, _, rfl⟩ := hb
  exact Nat.mod_lt _ (by decide)
theorem numL_next (x k : Nat) : numL x (k + 1) = numL x k ++ [x / 2 ^ k % 2] := by simp [numL, List.range_succ]
theorem mod_next (x k : Nat) : x % 2 ^ (k + 1) = x % 2 ^ k + 2 ^ k * (x / 2 ^ k % 2) := by rw [Nat.pow_succ, Nat.mod_mul]
theorem val_numL (x k : Nat) : val (numL x k) = x % 2 ^ k := by
  induction k with
  | zero => simp [numL, val, Nat.mod_one]
  | succ k ih => rw [numL_next, val_append, ih, numL_len, mod_next]; simp [val]
theorem val_take {l : List Nat} (h : Bin l) (k : Nat) : val (l.take k) = val l % 2 ^ k := by
  by_cases hk : k ≤ l.length
  · have e := val_append (l.take k) (l.drop k)
    rw [List.take_append_drop, List.length_take, Nat.min_eq_left hk] at e
    rw [e, Nat.add_mul_mod_self_left]
    have := val_lt (h.take k)
    rw [List.length_take, Nat.min_eq_left hk] at this
    exact (Nat.mod_eq_of_lt this).symm
  · rw [List.take_of_length_le (by omega)]
    exact (Nat.mod_eq_of_lt (Nat.lt_of_lt_of_le (val_lt h) (Nat.pow_le_pow_right (by omega) (by omega)))).symm
theorem val_drop {l : List Nat} (h : Bin l) (k : Nat) : val (l.drop k) = val l / 2 ^ k := by
  by_cases hk : k ≤ l.length
  · have e := val_append (l.take k) (l.drop k)
    rw [List.take_append_drop, List.length_take, Nat.min_eq_left hk] at e
    have := val_lt (h.take k)
    rw [List.length_take, Nat.min_eq_left hk] at this
    rw [e, Nat.add_comm, Nat.mul_add_div (Nat.two_pow_pos k), Nat.div_eq_of_lt this, Nat.add_zero]
  · rw [List.drop_of_length_le (by omega), Nat.div_eq_of_lt (Nat.lt_of_lt_of_le (val_lt h) (Nat.pow_le_pow_right (by omega) (by omega)))]
    rfl
/-- Bits put behind a list's number. -/
theorem put_val {l m : List Nat} (hm : Bin m) : put (val l) l.length (val m) m.length = val (l ++ m) := by
  unfold put
  rw [val_append, Nat.mod_eq_of_lt (val_lt hm), Nat.mul_comm]
theorem put_numL (l : List Nat) (x k : Nat) : put (val l) l.length x k = val (l ++ numL x k) := by
  unfold put
  rw [val_append, val_numL, Nat.mul_comm]
theorem numL_val {l : List Nat} (h : Bin l) (k : Nat) (hk : k ≤ l.length) : numL (val l) k = l.take k := by
  refine val_inj (numL_bin _ _) (h.take k) (by rw [numL_len, List.length_take, Nat.min_eq_left hk]) ?_
  rw [val_numL, val_take h]
/-- A number of bits in two parts is the number at once. -/
theorem put_two (x a b : Nat) : put (put 0 0 x a) (0 + a) (x / 2 ^ a) b = put 0 0 x (a + b) := by
  unfold put
  simp only [Nat.zero_add, Nat.pow_zero, Nat.mul_one]
  rw [Nat.pow_add, Nat.mod_mul, Nat.mul_comm]
/-- Bits of bytes, not more than so many. -/
def few (bs : List Nat) (m : Nat) : List Nat := (bs.flatMap fun b => numL b 8).take m
theorem flat_bin (bs : List Nat) : Bin (bs.flatMap fun b => numL b 8) := fun x hx => by
  obtain ⟨b, _, h⟩ := List.mem_flatMap.1 hx
  exact numL_bin b 8 x h
theorem few_bin (bs : List Nat) (m : Nat) : Bin (few bs m) := (flat_bin bs).take m
theorem flat_len (bs : List Nat) : (bs.flatMap fun b => numL b 8).length = 8 * bs.length := by
  induction bs with
  | nil => rfl
  | cons b bs ih => simp only [List.flatMap_cons, List.length_append, ih, numL_len, List.length_cons]; omega
theorem few_len (bs : List Nat) (m : Nat) : (few bs m).length = min m (8 * bs.length) := by rw [few, List.length_take, flat_len]
/-- On the way: k bytes and i bits of the next one. -/
def fewTo (bs : List Nat) (m k i : Nat) : List Nat := (((bs.take k).flatMap fun b => numL b 8) ++ numL (bs.getD k 0) i).take m
theorem fewTo_start (bs : List Nat) (m : Nat) : fewTo bs m 0 0 = [] := by simp [fewTo, numL]
theorem fewTo_bit (bs : List Nat) (m k i : Nat) (h : (fewTo bs m k i).length < m) : fewTo bs m k (i + 1) = fewTo bs m k i ++ [bs.getD k 0 / 2 ^ i % 2] := by
  unfold fewTo at h ⊢
  generalize ((bs.take k).flatMap fun b => numL b 8) = F at *
  rw [List.length_take] at h
  rw [numL_next, ← List.append_assoc, List.take_of_length_le (by simp only [List.length_append, List.length_cons, List.length_nil] at h ⊢; omega), List.take_of_length_le (by omega)]
theorem fewTo_full (bs : List Nat) (m k i j : Nat) (hij : i ≤ j) (h : ¬ (fewTo bs m k i).length < m) : fewTo bs m k j = fewTo bs m k i := by
  unfold fewTo at h ⊢
  generalize ((bs.take k).flatMap fun b => numL b 8) = F at *
  rw [List.length_take] at h
  have e : numL (bs.getD k 0) j = numL (bs.getD k 0) i ++ (numL (bs.getD k 0) j).drop i := by
    have h1 : numL (bs.getD k 0) i = (numL (bs.getD k 0) j).take i := by
      simp only [numL, ← List.map_take, List.take_range, Nat.min_eq_left hij]
    rw [h1, List.take_append_drop]
  rw [e, ← List.append_assoc, List.take_append_of_le_length (by omega)]
theorem fewTo_next (bs : List Nat) (m k : Nat) (hk : k < bs.length) : fewTo bs m k 8 = fewTo bs m (k + 1) 0 := by
  unfold fewTo
  rw [← List.take_append_getElem hk, List.flatMap_append]
  simp [numL, List.getD_eq_getElem?_getD, List.getElem?_eq_getElem hk]
theorem fewTo_end (bs : List Nat) (m : Nat) : fewTo bs m bs.length 0 = few bs m := by
  unfold fewTo few
  simp [numL]
theorem fewTo_le (bs : List Nat) (m k i : Nat) : (fewTo bs m k i).length ≤ 8 * k + i := by
  unfold fewTo
  rw [List.length_take, List.length_append, flat_len, numL_len, List.length_take]
  omega
/-- What Add makes of numbers. -/
def bit1 (x : Int) : Nat := if x = 0 then 0 else 1
theorem bit1_bin (z : List Int) : Bin (z.map bit1) := fun b hb => by
  simp only [List.mem_map] at hb
  obtain ⟨x, _, rfl⟩ := hb
  unfold bit1; split <;> decide
theorem bit1_ofN {l : List Nat} (h : Bin l) : (ofNB l).map bit1 = l := by
  induction l with
  | nil => rfl
  | cons b l ih =>
    have := h.head
    simp only [ofNB, List.map_cons, List.cons.injEq] at ih ⊢
    refine ⟨?_, ih h.tail⟩
    unfold bit1; split <;> omega
theorem put_one (l : List Nat) (x : Int) : put (val l) l.length (bit1 x) 1 = val (l ++ [bit1 x]) := by
  have h : Bin [bit1 x] := fun b hb => by
    simp only [List.mem_singleton] at hb
    subst hb; unfold bit1; split <;> decide
  have := put_val (l := l) h
  simpa [val] using this
end Go.Proofs.Ythdmkcnclmgdlaa
namespace Go.Proofs.Ythdmkcnclmgdlaa
set_option linter.unusedVariables false

/-- Letters. -/
def Kds (ks : List Nat) : Prop := ∀ k ∈ ks, k < 4
theorem Kds.take {ks : List Nat} (h : Kds ks) (i : Nat) : Kds (ks.take i) := fun k hk => h k (List.mem_of_mem_take hk)
theorem Kds.getD {ks : List Nat} (h : Kds ks) (i : Nat) : ks.getD i 0 < 4 := by
  by_cases hi : i < ks.length
  · rw [List.getD_eq_getElem?_getD, List.getElem?_eq_getElem hi]; exact h _ (List.getElem_mem hi)
  · rw [List.getD_eq_getElem?_getD, List.getElem?_eq_none (by omega)]; decide
theorem Kds.append {ks ls : List Nat} (h : Kds ks) (k : Kds ls) : Kds (ks ++ ls) := fun x hx => by
  rcases List.mem_append.1 hx with h1 | h1
  · exact h x h1
  · exact k x h1
/-- The sorts. -/
def shp (ks : List Nat) : List Nat := ks.map (· / 2)
theorem shp_len (ks : List Nat) : (shp ks).length = ks.length := by simp [shp]
theorem shp_bin {ks : List Nat} (h : Kds ks) : Bin (shp ks) := fun b hb => by
  obtain ⟨k, hk, rfl⟩ := List.mem_map.1 hb
  have := h k hk; omega
theorem shp_get (ks : List Nat) (i : Nat) : (shp ks).getD i 0 = ks.getD i 0 / 2 := by
  by_cases hi : i < ks.length
  · simp [shp, List.getD_eq_getElem?_getD, hi]
  · simp [shp, List.getD_eq_getElem?_getD, List.getElem?_eq_none (show ks.length ≤ i by omega)]
/-- Those of a sort: does each open? -/
def ownL (s : Nat) (ks : List Nat) : List Nat := (ks.filter fun k => decide (k / 2 = s)).map fun k => 1 - k % 2
theorem ownL_bin (s : Nat) (ks : List Nat) : Bin (ownL s ks) := fun b hb => by
  obtain ⟨k, _, rfl⟩ := List.mem_map.1 hb
  omega
theorem ownL_app (s : Nat) (ks ls : List Nat) : ownL s (ks ++ ls) = ownL s ks ++ ownL s ls := by simp [ownL]
theorem ownL_one (s k : Nat) : ownL s [k] = if k / 2 = s then [1 - k % 2] else [] := by
  unfold ownL
  by_cases h : k / 2 = s
  · simp [h]
  · simp [h]
theorem take_snoc (ks : List Nat) (i : Nat) (h : i < ks.length) : ks.take (i + 1) = ks.take i ++ [ks.getD i 0] := by
  rw [← List.take_append_getElem h, List.getD_eq_getElem?_getD, List.getElem?_eq_getElem h]; rfl
/-- How many of a sort are ahead. -/
def ah (s : Nat) (ks : List Nat) (i : Nat) : Nat := (ownL s (ks.take i)).length
theorem ah_zero (s : Nat) (ks : List Nat) : ah s ks 0 = 0 := by simp [ah, ownL]
theorem ah_next (s : Nat) (ks : List Nat) (i : Nat) (h : i < ks.length) : ah s ks (i + 1) = ah s ks i + if ks.getD i 0 / 2 = s then 1 else 0 := by
  unfold ah
  rw [take_snoc ks i h, ownL_app, ownL_one, List.length_append]
  split <;> simp
theorem ah_le (s : Nat) (ks : List Nat) : ∀ i, i ≤ ks.length → ah s ks i ≤ i
  | 0, _ => by rw [ah_zero]; exact Nat.le_refl _
  | i + 1, h => by
    have := ah_le s ks i (by omega)
    rw [ah_next s ks i (by omega)]
    split <;> omega
theorem ah_mono (s : Nat) (ks : List Nat) (i : Nat) : ∀ j, i + j ≤ ks.length → ah s ks i ≤ ah s ks (i + j)
  | 0, _ => Nat.le_refl _
  | j + 1, h => by
    have := ah_mono s ks i j (by omega)
    rw [← Nat.add_assoc, ah_next s ks (i + j) (by omega)]
    split <;> omega
theorem ah_all (s : Nat) (ks : List Nat) : ah s ks ks.length = (ownL s ks).length := by unfold ah; rw [List.take_length]
theorem ah_end (s : Nat) (ks : List Nat) (i : Nat) (h : i ≤ ks.length) : ah s ks i ≤ (ownL s ks).length := by
  rw [← ah_all s ks]
  have := ah_mono s ks i (ks.length - i) (by omega)
  rwa [show i + (ks.length - i) = ks.length by omega] at this
theorem ah_lt (s : Nat) (ks : List Nat) (i : Nat) (h : i < ks.length) (hs : ks.getD i 0 / 2 = s) : ah s ks i < (ownL s ks).length := by
  have := ah_end s ks (i + 1) (by omega)
  rw [ah_next s ks i h, if_pos hs] at this
  omega
theorem ownL_take (s : Nat) (ks : List Nat) (i : Nat) : ownL s (ks.take i) = (ownL s ks).take (ah s ks i) := by
  have h : ownL s ks = ownL s (ks.take i) ++ ownL s (ks.drop i) := by rw [← ownL_app, List.take_append_drop]
  rw [h]; unfold ah; simp
/-- The letter itself. -/
theorem ownL_get (s : Nat) (ks : List Nat) (i : Nat) (h : i < ks.length) (hs : ks.getD i 0 / 2 = s) : (ownL s ks).getD (ah s ks i) 0 = 1 - ks.getD i 0 % 2 := by
  have h1 := ownL_take s ks (i + 1)
  rw [take_snoc ks i h, ownL_app, ownL_one, if_pos hs, ah_next s ks i h, if_pos hs] at h1
  have hlt := ah_lt s ks i h hs
  rw [take_snoc (ownL s ks) (ah s ks i) hlt, ownL_take] at h1
  have h2 : [1 - ks.getD i 0 % 2] = [(ownL s ks).getD (ah s ks i) 0] := List.append_inj_right h1 rfl
  exact (List.cons.inj h2).1.symm
/-- Where the y-th one of a sort stands. -/
theorem ah_find (s : Nat) (ks : List Nat) (y : Nat) (hy : y < (ownL s ks).length) : ∃ i, i < ks.length ∧ ks.getD i 0 / 2 = s ∧ ah s ks i = y := by
  suffices ∀ n, n ≤ ks.length → y < ah s ks n → ∃ i, i < n ∧ ks.getD i 0 / 2 = s ∧ ah s ks i = y by
    obtain ⟨i, h1, h2, h3⟩ := this ks.length (Nat.le_refl _) (by rw [ah_all]; exact hy)
    exact ⟨i, h1, h2, h3⟩
  intro n
  induction n with
  | zero => intro _ h; rw [ah_zero] at h; omega
  | succ n ih =>
    intro hn h
    by_cases h2 : y < ah s ks n
    · obtain ⟨i, a, b, c⟩ := ih (by omega) h2
      exact ⟨i, by omega, b, c⟩
    · rw [ah_next s ks n (by omega)] at h
      by_cases h3 : ks.getD n 0 / 2 = s
      · rw [if_pos h3] at h
        exact ⟨n, by omega, h3, by omega⟩
      · rw [if_neg h3] at h; omega
theorem ah_uniq (s : Nat) (ks : List Nat) (i j : Nat) (hi : i < ks.length) (hj : j < ks.length) (h1 : ks.getD i 0 / 2 = s) (h2 : ks.getD j 0 / 2 = s) (h : ah s ks i = ah s ks j) : i = j := by
  rcases Nat.lt_trichotomy i j with hlt | he | hgt
  · have a := ah_next s ks i hi
    rw [if_pos h1] at a
    have b := ah_mono s ks (i + 1) (j - (i + 1)) (by omega)
    rw [show i + 1 + (j - (i + 1)) = j by omega] at b
    omega
  · exact he
  · have a := ah_next s ks j hj
    rw [if_pos h2] at a
    have b := ah_mono s ks (j + 1) (i - (j + 1)) (by omega)
    rw [show j + 1 + (i - (j + 1)) = i by omega] at b
    omega
/-- How many of a kind. -/
def cntK (k : Nat) (ks : List Nat) : Nat := (ks.filter fun x => decide (x = k)).length
theorem cntK_snoc (k x : Nat) (ks : List Nat) : cntK k (ks ++ [x]) = cntK k ks + if x = k then 1 else 0 := by
  unfold cntK
  rw [List.filter_append, List.length_append]
  by_cases h : x = k <;> simp [h]
theorem ownL_cnt (s : Nat) (ks : List Nat) (hk : Kds ks) : (ownL s ks).sum = cntK (2 * s) ks ∧ (ownL s ks).length = cntK (2 * s) ks + cntK (2 * s + 1) ks := by
  induction ks with
  | nil => simp [ownL, cntK]
  | cons x ks ih =>
    have h1 := ih (fun k hk' => hk k (List.mem_cons_of_mem _ hk'))
    have hx := hk x (List.mem_cons_self ..)
    rw [show x :: ks = [x] ++ ks from rfl, ownL_app, ownL_one]
    have e : ∀ k, cntK k ([x] ++ ks) = (if x = k then 1 else 0) + cntK k ks := fun k => by
      unfold cntK
      rw [List.filter_append, List.length_append]
      by_cases h : x = k <;> simp [h]
    rw [e, e, List.sum_append, List.length_append, h1.1, h1.2]
    by_cases hs : x / 2 = s
    · rw [if_pos hs]
      rcases Nat.mod_two_eq_zero_or_one x with m | m
      · rw [if_pos (by omega), if_neg (by omega), m]; simp; omega
      · rw [if_neg (by omega), if_pos (by omega), m]; simp; omega
    · rw [if_neg hs, if_neg (by omega), if_neg (by omega)]; simp
end Go.Proofs.Ythdmkcnclmgdlaa
namespace Go.Proofs.Ythdmkcnclmgdlaa
set_option linter.unusedVariables false

/-- How many of the k lowest bits are ones. -/
def pop (x k : Nat) : Nat := (numL x k).sum
theorem numL_add (x a b : Nat) : numL x (a + b) = numL x a ++ numL (x / 2 ^ a) b := by
  simp only [numL, List.range_add, List.map_append, List.map_map]
  congr 1
  refine List.map_congr_left fun i _ => ?_
  simp only [Function.comp]
  rw [Nat.pow_add, Nat.div_div_eq_div_mul]
theorem pop_add (x a b : Nat) : pop x (a + b) = pop x a + pop (x / 2 ^ a) b := by
  unfold pop
  rw [numL_add, List.sum_append]
theorem numL_mod (x k : Nat) : numL (x % 2 ^ k) k = numL x k := by
  refine List.map_congr_left fun i hi => ?_
  rw [List.mem_range] at hi
  have h : (x % 2 ^ k).testBit i = x.testBit i := by rw [Nat.testBit_mod_two_pow]; simp [hi]
  rw [Nat.testBit_eq_decide_div_mod_eq, Nat.testBit_eq_decide_div_mod_eq, decide_eq_decide] at h
  omega
theorem pop_mod (x k : Nat) : pop (x % 2 ^ k) k = pop x k := by unfold pop; rw [numL_mod]
theorem pop_zero (k : Nat) : pop 0 k = 0 := by
  unfold pop numL
  induction k with
  | zero => rfl
  | succ k ih => rw [List.range_succ, List.map_append, List.sum_append, ih]; simp
theorem pop_one (x : Nat) : pop x 0 = 0 := rfl
theorem and_cut (a b c d : Nat) (hb : b < 256) (hd : d < 256) : (a * 256 + b) &&& (c * 256 + d) = (a &&& c) * 256 + (b &&& d) := by
  have hbd : b &&& d < 2 ^ 8 := Nat.and_lt_two_pow b hd
  have e : ∀ u v : Nat, u * 256 + v = 2 ^ 8 * u + v := fun u v => by omega
  rw [e a b, e c d, e _ _]
  apply Nat.eq_of_testBit_eq
  intro j
  rw [Nat.testBit_and, Nat.testBit_two_pow_mul_add a (i := 8) hb, Nat.testBit_two_pow_mul_add c (i := 8) hd, Nat.testBit_two_pow_mul_add (a &&& c) (i := 8) hbd]
  by_cases hj : j < 8
  · simp [hj, Nat.testBit_and]
  · simp [hj, Nat.testBit_and]

def st1 (x M : Nat) : Nat := (x / 2 &&& M) + (x &&& M)
def st2 (x M : Nat) : Nat := (x / 4 &&& M) + (x &&& M)
def st3 (x M : Nat) : Nat := (x / 16 + x) &&& M
theorem st1_cut (a b M : Nat) (hb : b < 256) : st1 (a * 256 + b) (M * 256 + 85) = st1 a M * 256 + st1 b 85 := by
  have h : ∀ t, t < 2 → ∀ b, b < 256 → (t * 128 + b / 2) &&& 85 = b / 2 &&& 85 := by decide +kernel
  unfold st1
  rw [show (a * 256 + b) / 2 = (a / 2) * 256 + (a % 2 * 128 + b / 2) by omega, and_cut _ _ _ _ (by omega) (by omega), and_cut _ _ _ _ hb (by omega), h _ (by omega) _ hb]
  omega
theorem st2_cut (a b M : Nat) (hb : b < 256) : st2 (a * 256 + b) (M * 256 + 51) = st2 a M * 256 + st2 b 51 := by
  have h : ∀ t, t < 4 → ∀ b, b < 256 → (t * 64 + b / 4) &&& 51 = b / 4 &&& 51 := by decide +kernel
  unfold st2
  rw [show (a * 256 + b) / 4 = (a / 4) * 256 + (a % 4 * 64 + b / 4) by omega, and_cut _ _ _ _ (by omega) (by omega), and_cut _ _ _ _ hb (by omega), h _ (by omega) _ hb]
  omega
theorem st3_cut (a b M : Nat) (hb : b < 69) (ha : a % 16 < 5) : st3 (a * 256 + b) (M * 256 + 15) = st3 a M * 256 + st3 b 15 := by
  have h : ∀ t, t < 5 → ∀ b, b < 69 → (t * 16 + b / 16 + b) &&& 15 = (b / 16 + b) &&& 15 := by decide +kernel
  unfold st3
  rw [show (a * 256 + b) / 16 + (a * 256 + b) = (a / 16 + a) * 256 + (a % 16 * 16 + b / 16 + b) by omega, and_cut _ _ _ _ (by omega) (by omega), h _ ha _ hb]
/-- Bytes as a number, the lowest first; and a mask. -/
def nb : List Nat → Nat
  | [] => 0
  | b :: l => nb l * 256 + b
def repB (d : Nat) : Nat → Nat
  | 0 => 0
  | k + 1 => repB d k * 256 + d
theorem st1_nb (l : List Nat) (h : ∀ b ∈ l, b < 256) : st1 (nb l) (repB 85 l.length) = nb (l.map (st1 · 85)) := by
  induction l with
  | nil => rfl
  | cons b l ih => simp only [nb, repB, List.length_cons, List.map_cons]; rw [st1_cut _ _ _ (h b (by simp)), ih fun x hx => h x (by simp [hx])]
theorem st2_nb (l : List Nat) (h : ∀ b ∈ l, b < 256) : st2 (nb l) (repB 51 l.length) = nb (l.map (st2 · 51)) := by
  induction l with
  | nil => rfl
  | cons b l ih => simp only [nb, repB, List.length_cons, List.map_cons]; rw [st2_cut _ _ _ (h b (by simp)), ih fun x hx => h x (by simp [hx])]
theorem st3_nb (l : List Nat) (h : ∀ b ∈ l, b < 69 ∧ b % 16 < 5) : st3 (nb l) (repB 15 l.length) = nb (l.map (st3 · 15)) := by
  induction l with
  | nil => rfl
  | cons b l ih =>
    simp only [nb, repB, List.length_cons, List.map_cons]
    rw [st3_cut _ _ _ (h b (by simp)).1, ih fun x hx => h x (by simp [hx])]
    cases l with
    | nil => simp [nb]
    | cons c l => have := (h c (by simp)).2; simp only [nb]; omega
theorem byte_1 : ∀ b, b < 256 → st1 b 85 < 256 := by decide +kernel
theorem byte_2 : ∀ b, b < 256 → st2 (st1 b 85) 51 < 69 ∧ st2 (st1 b 85) 51 % 16 < 5 := by decide +kernel
theorem byte_3 : ∀ b, b < 256 → st3 (st2 (st1 b 85) 51) 15 = pop b 8 := by decide +kernel
theorem byte_4 : ∀ b, b < 256 → pop b 8 < 9 := by decide +kernel
theorem steps_nb (l : List Nat) (h : ∀ b ∈ l, b < 256) : st3 (st2 (st1 (nb l) (repB 85 l.length)) (repB 51 l.length)) (repB 15 l.length) = nb (l.map (pop · 8)) := by
  rw [st1_nb l h]
  have h2 := st2_nb (l.map (st1 · 85)) (fun b hb => by
    simp only [List.mem_map] at hb
    obtain ⟨a, ha, rfl⟩ := hb
    exact byte_1 a (h a ha))
  rw [List.length_map] at h2
  rw [h2]
  have h3 := st3_nb ((l.map (st1 · 85)).map (st2 · 51)) (fun b hb => by
    simp only [List.mem_map] at hb
    obtain ⟨a, ⟨c, hc, rfl⟩, rfl⟩ := hb
    exact byte_2 c (h c hc))
  rw [List.length_map, List.length_map] at h3
  rw [h3, List.map_map, List.map_map]
  congr 1
  exact List.map_congr_left fun b hb => byte_3 b (h b hb)
def by8 (x : Nat) : List Nat := [x % 256, x / 256 % 256, x / 65536 % 256, x / 16777216 % 256, x / 4294967296 % 256, x / 1099511627776 % 256, x / 281474976710656 % 256, x / 72057594037927936 % 256]
theorem nb_by8 (x : Nat) (h : x < 2 ^ 64) : nb (by8 x) = x := by
  simp only [by8, nb]
  omega
theorem by8_lt (x : Nat) : ∀ b ∈ by8 x, b < 256 := fun b hb => by
  simp only [by8, List.mem_cons, List.not_mem_nil, or_false] at hb
  omega
theorem pop8 (x : Nat) : pop x 8 = pop (x % 256) 8 := (pop_mod x 8).symm
theorem pop_by8 (x : Nat) : pop x 64 = pop (x % 256) 8 + pop (x / 256 % 256) 8 + pop (x / 65536 % 256) 8 + pop (x / 16777216 % 256) 8 + pop (x / 4294967296 % 256) 8 + pop (x / 1099511627776 % 256) 8 + pop (x / 281474976710656 % 256) 8 + pop (x / 72057594037927936 % 256) 8 := by
  rw [show (64 : Nat) = 8 + 8 + 8 + 8 + 8 + 8 + 8 + 8 by rfl]
  simp only [pop_add]
  rw [pop8 x, pop8 (x / 2 ^ 8), pop8 (x / 2 ^ (8 + 8)), pop8 (x / 2 ^ (8 + 8 + 8)), pop8 (x / 2 ^ (8 + 8 + 8 + 8)), pop8 (x / 2 ^ (8 + 8 + 8 + 8 + 8)), pop8 (x / 2 ^ (8 + 8 + 8 + 8 + 8 + 8)), pop8 (x / 2 ^ (8 + 8 + 8 + 8 + 8 + 8 + 8))]
theorem div1 (s0 s1 s2 s3 s4 s5 s6 s7 : Nat) (h0 : s0 < 256) : ((((((((0 * 256 + s7) * 256 + s6) * 256 + s5) * 256 + s4) * 256 + s3) * 256 + s2) * 256 + s1) * 256 + s0) / 256 = ((((((0 * 256 + s7) * 256 + s6) * 256 + s5) * 256 + s4) * 256 + s3) * 256 + s2) * 256 + s1 := by omega
theorem div2 (s0 s1 s2 s3 s4 s5 s6 s7 : Nat) (h0 : s0 < 256) (h1 : s1 < 256) : ((((((((0 * 256 + s7) * 256 + s6) * 256 + s5) * 256 + s4) * 256 + s3) * 256 + s2) * 256 + s1) * 256 + s0) / 65536 = (((((0 * 256 + s7) * 256 + s6) * 256 + s5) * 256 + s4) * 256 + s3) * 256 + s2 := by omega
theorem div4 (s0 s1 s2 s3 s4 s5 s6 s7 : Nat) (h0 : s0 < 256) (h1 : s1 < 256) (h2 : s2 < 256) (h3 : s3 < 256) : ((((((((0 * 256 + s7) * 256 + s6) * 256 + s5) * 256 + s4) * 256 + s3) * 256 + s2) * 256 + s1) * 256 + s0) / 4294967296 = (((0 * 256 + s7) * 256 + s6) * 256 + s5) * 256 + s4 := by omega
theorem fold8 (c0 c1 c2 c3 c4 c5 c6 c7 : Nat) (b0 : c0 < 9) (b1 : c1 < 9) (b2 : c2 < 9) (b3 : c3 < 9) (b4 : c4 < 9) (b5 : c5 < 9) (b6 : c6 < 9) (b7 : c7 < 9) (X3 X4 X5 X6 : Nat)
    (h3 : X3 = (((((((0 * 256 + c7) * 256 + c6) * 256 + c5) * 256 + c4) * 256 + c3) * 256 + c2) * 256 + c1) * 256 + c0) (h4 : X4 = X3 + X3 / 256) (h5 : X5 = X4 + X4 / 65536) (h6 : X6 = X5 + X5 / 4294967296) : X6 % 128 = c0 + c1 + c2 + c3 + c4 + c5 + c6 + c7 ∧ X6 < 2 ^ 61 := by
  have e4 : X4 = (((((((0 * 256 + c7) * 256 + (c6 + c7)) * 256 + (c5 + c6)) * 256 + (c4 + c5)) * 256 + (c3 + c4)) * 256 + (c2 + c3)) * 256 + (c1 + c2)) * 256 + (c0 + c1) := by
    rw [h4, h3, div1 _ _ _ _ _ _ _ _ (by omega)]; omega
  clear h3 h4
  have e5 : X5 = (((((((0 * 256 + c7) * 256 + (c6 + c7)) * 256 + (c5 + c6 + c7)) * 256 + (c4 + c5 + c6 + c7)) * 256 + (c3 + c4 + c5 + c6)) * 256 + (c2 + c3 + c4 + c5)) * 256 + (c1 + c2 + c3 + c4)) * 256 + (c0 + c1 + c2 + c3) := by
    rw [h5, e4, div2 _ _ _ _ _ _ _ _ (by omega) (by omega)]; omega
  clear h5 e4
  have e6 : X6 = (((((((0 * 256 + c7) * 256 + (c6 + c7)) * 256 + (c5 + c6 + c7)) * 256 + (c4 + c5 + c6 + c7)) * 256 + (c3 + c4 + c5 + c6 + c7)) * 256 + (c2 + c3 + c4 + c5 + c6 + c7)) * 256 + (c1 + c2 + c3 + c4 + c5 + c6 + c7)) * 256 + (c0 + c1 + c2 + c3 + c4 + c5 + c6 + c7) := by
    rw [h6, e5, div4 _ _ _ _ _ _ _ _ (by omega) (by omega) (by omega) (by omega)]; omega
  rw [e6]
  constructor <;> omega
/-- The count by halves is the count. -/
theorem swar (x : Nat) (h : x < 2 ^ 64) : ∃ X1 X2 X3 X4 X5 X6 : Nat, X1 = (x / 2 &&& 6148914691236517205) + (x &&& 6148914691236517205) ∧ X2 = (X1 / 4 &&& 3689348814741910323) + (X1 &&& 3689348814741910323) ∧
    X3 = (X2 / 16 + X2) &&& 1085102592571150095 ∧ X4 = X3 + X3 / 256 ∧ X5 = X4 + X4 / 65536 ∧ X6 = X5 + X5 / 4294967296 ∧ X6 % 128 = pop x 64 ∧ X3 ≤ 1085102592571150095 ∧ X6 < 2 ^ 61 := by
  have e := steps_nb (by8 x) (by8_lt x)
  rw [nb_by8 x h] at e
  have r1 : repB 85 (by8 x).length = 6148914691236517205 := by simp [by8, repB]
  have r2 : repB 51 (by8 x).length = 3689348814741910323 := by simp [by8, repB]
  have r3 : repB 15 (by8 x).length = 1085102592571150095 := by simp [by8, repB]
  rw [r1, r2, r3] at e
  simp only [by8, List.map_cons, List.map_nil, nb, st1, st2, st3] at e
  have f := fold8 _ _ _ _ _ _ _ _ (byte_4 (x % 256) (by omega)) (byte_4 (x / 256 % 256) (by omega)) (byte_4 (x / 65536 % 256) (by omega)) (byte_4 (x / 16777216 % 256) (by omega)) (byte_4 (x / 4294967296 % 256) (by omega)) (byte_4 (x / 1099511627776 % 256) (by omega)) (byte_4 (x / 281474976710656 % 256) (by omega)) (byte_4 (x / 72057594037927936 % 256) (by omega)) _ _ _ _ e rfl rfl rfl
  exact ⟨_, _, _, _, _, _, rfl, rfl, rfl, rfl, rfl, rfl, by rw [pop_by8]; exact f.1, Nat.and_le_right, f.2⟩
end Go.Proofs.Ythdmkcnclmgdlaa
namespace Go.Proofs.Ythdmkcnclmgdlaa
open Go.RowKit
set_option linter.unusedVariables false

/-- As a count of a number's bits. -/
def cnt64 (k : Int) : Nat := if k ≤ 0 then 0 else if 64 ≤ k then 64 else k.toNat
theorem low_eq : ∀ k : Nat, k < 65 → (18446744073709551615 : Int) / 2 ^ (64 - k) = ((2 ^ k - 1 : Nat) : Int) := by decide +kernel
end Go.Proofs.Ythdmkcnclmgdlaa
namespace Go.Proofs.Ythdmkcnclmgdlaa
open Go.RowKit
set_option linter.unusedVariables false

def U64 (z : List Nat) : List Value := z.map fun (x : Nat) => Value.int .u64 (x : Int)
theorem U64_len (z : List Nat) : (U64 z).length = z.length := by simp [U64]
theorem U64_append (l m : List Nat) : U64 (l ++ m) = U64 l ++ U64 m := by simp [U64]
theorem U64_set (y : List Nat) (k v : Nat) : U64 (y.set k v) = (U64 y).set k (.int .u64 (v : Int)) := by simp [U64, List.map_set]
theorem U64_get (z : List Nat) (k : Nat) (hk : k < z.length) : (U64 z)[k]? = some (.int .u64 ((z.getD k 0 : Nat) : Int)) := by
  simp [U64, List.getD_eq_getElem?_getD, List.getElem?_eq_getElem hk]
/-- The words of n bits. -/
def words (V m : Nat) : List Nat := (List.range m).map (wd V)
theorem words_len (V m : Nat) : (words V m).length = m := by simp [words]
theorem words_get (V m i : Nat) (h : i < m) : (words V m).getD i 0 = wd V i := by simp [words, List.getD_eq_getElem?_getD, h]
theorem words_next (V m : Nat) : words V (m + 1) = words V m ++ [wd V m] := by simp [words, List.range_succ]
/-- The blocks of a vector. -/
def foot (g : Nat) (A : Option Addr) (i : Nat) : Prop := i = g ∨ ∃ b, A = some ⟨b, 0, none⟩ ∧ i = b
theorem wrap_u64 (y s : Nat) : IntKind.u64.wrap ((y : Int) * 2 ^ s) = ((y * 2 ^ s % 2 ^ 64 : Nat) : Int) := by
  simp [IntKind.wrap, IntKind.signed, IntKind.bits]
end Go.Proofs.Ythdmkcnclmgdlaa
namespace Go.Proofs.Ythdmkcnclmgdlaa
open Go.RowKit
set_option linter.unusedVariables false
section
variable {P : Program} (w : World)
/-- What the old row holds: the elements that it held. -/
def Keeps (w' : World) (v : Value) (n : Nat) (xs : List Value) : Prop := ∀ g c, v = .slice (some ⟨g, 0, none⟩) n c → ∀ j u, xs[j]? = some u → w'.cell? ⟨g, j, none⟩ = some u
theorem append_keeps (t ty : TypeId) (base : Nat) (e : TypeId) (i : TypeInfo) (z : Value) (size bytes : Nat) (ht : P.underlying t = some (.slice e)) (hi : P.info? e = some i) (hz : i.zero = some z)
    (hsize : i.size = size) (hby : i.bytes = bytes) (hzs : z.cells.size = size) (hsz : 0 < size)
    (v : Value) (n : Nat) (xs : List Value) (hown : w.ownsRow base e size v n xs)
    (ad : Addr) (m c : Nat) (news : List Value) (hl : news.length = m * size) (hnews : ∀ j u, news[j]? = some u → w.cell? (ad.add j) = some u) (h1 : ∀ u ∈ news, u.oneCell' = true)
    (hm : 0 < m) (h63 : n + m ≤ maxLen) (hbytes : (n + m) * bytes ≤ 140737488355328)
    {g' cap' : Nat} {w' : World} (hr : (Builtin.append_ #[t, t] ty #[v, .slice (some ad) m c]).run P w = .ok (.slice (some ⟨g', 0, none⟩) (n + m) cap') w')
    (hown' : w'.ownsRow base e size (.slice (some ⟨g', 0, none⟩) (n + m) cap') (n + m) (xs ++ news)) : Keeps w' v n xs := by
  subst hsize
  subst hby
  intro g0 c0 hv j u hu
  subst hv
  have hsmall : n + m ≤ 9223372036854775807 := by simp only [maxLen] at h63; omega
  rcases hown.2 with ⟨hx, _⟩ | ⟨g, cap, cur, hv, hbg, hg, hnc, hcm, hcs, htake⟩
  · cases hx
  · simp only [Value.slice.injEq, Option.some.injEq, Addr.mk.injEq, and_true, true_and] at hv
    obtain ⟨rfl, rfl⟩ := hv
    by_cases hroom : n + m ≤ c0
    · have hfit : n * i.size + news.length ≤ cur.size := by rw [hl, hcs, ← Nat.add_mul]; exact Nat.mul_le_mul_right _ hroom
      have hr2 := run_append_room (P := P) w t ty e i ht hi g0 n c0 cur hg ad m c news hl hnews h1 hroom hfit
      rw [hr2] at hr
      simp only [Result.ok.injEq, Value.slice.injEq, Option.some.injEq, Addr.mk.injEq, and_true, true_and] at hr
      obtain ⟨⟨rfl, rfl⟩, rfl⟩ := hr
      have hjl := (List.getElem?_eq_some_iff.1 hu).1
      have := hown'.cellAt j (by have h9 := hown'.1; rw [List.length_append] at h9; omega)
      rw [this, List.getElem?_append_left hjl, hu]
    · have holds : ∀ j u, xs[j]? = some u → w.cell? ((⟨g0, 0, none⟩ : Addr).add j) = some u := hown.cells (g := g0) rfl
      have hr2 := run_append_grow (P := P) w t ty e i z ht hi hz ⟨g0, 0, none⟩ n c0 xs hown.1 holds ad m c news hl hnews (by omega) (by omega) (growslice_fits (by omega) hbytes)
      rw [hr2] at hr
      simp only [Result.ok.injEq] at hr
      obtain ⟨_, rfl⟩ := hr
      have hc := hown.cellAt j (by have h9 := hown.1; have := (List.getElem?_eq_some_iff.1 hu).1; omega)
      rw [hu] at hc
      have hlt := World.block_lt_of_cell? _ _ hc
      exact (World.cell?_alloc_lt _ _ _ hlt).trans hc
theorem step_append_keep {ops : Array Oper} {o : Oper} {a : Act} {K : Act → World → Prop} {Q : Exit → Act → World → Prop} {E : Prop} (hgd : o.guard = none) (s x : Operand) (t : TypeId)
    (ho : o.op = .call { callee := .builtin .append, args := #[s, x], argTypes := #[t, t] })
    (base : Nat) (e : TypeId) (i : TypeInfo) (z : Value) (size bytes : Nat) (ht : P.underlying t = some (.slice e)) (hi : P.info? e = some i) (hz : i.zero = some z)
    (hsize : i.size = size) (hby : i.bytes = bytes) (hzs : z.cells.size = size) (hsz : 0 < size)
    (v : Value) (n : Nat) (xs : List Value) (hs : a.eval s = v) (hown : w.ownsRow base e size v n xs)
    (ad : Addr) (m c : Nat) (news : List Value) (hx : a.eval x = .slice (some ad) m c) (hl : news.length = m * size) (hnews : ∀ j u, news[j]? = some u → w.cell? (ad.add j) = some u) (h1 : ∀ u ∈ news, u.oneCell' = true)
    (hm : 0 < m) (h63 : n + m ≤ maxLen) (hbytes : (n + m) * bytes ≤ 140737488355328) (hbase : base ≤ w.heap.size) (H : Nat) (hH : w.heap.size = H)
    (h : ∀ g cap w', w'.ownsRow base e size (.slice (some ⟨g, 0, none⟩) (n + m) cap) (n + m) (xs ++ news) → w.grownBy w' v.ownBlock → (v.ownBlock = some g ∨ g = H) → g < w'.heap.size → Keeps w' v n xs → K (a.put o.dst (.slice (some ⟨g, 0, none⟩) (n + m) cap)) w') :
    if Region.wanted o (yielded ops a.tmps) = true then Oper.wp P o a w K Q else E := by
  have hw : Region.wanted o (yielded ops a.tmps) = true := by simp [Region.wanted, hgd]
  rw [if_pos hw]
  obtain ⟨g, cap, w', hr, h2, h3, h4, h5⟩ := run_append_lies (P := P) w t o.type base e i z size bytes ht hi hz hsize hby hzs hsz v n xs hown ad m c news hl hnews h1 hm h63 hbytes hbase H hH
  have hk := append_keeps (P := P) w t o.type base e i z size bytes ht hi hz hsize hby hzs hsz v n xs hown ad m c news hl hnews h1 hm h63 hbytes hr h2
  unfold Oper.wp execOp
  simp only [ho, resolve, invoke, builtin, Sem.run_bind, Sem.run_pure, Result.andThen_ok, List.map_toArray, List.map_cons, List.map_nil, hs, hx, hr]
  exact h g cap w' h2 h3 h4 h5 hk
theorem wpList_append_keep {ops : Array Oper} {rest : List Oper} {o : Oper} {a : Act} {Q : Exit → Act → World → Prop} (hgd : o.guard = none) (s x : Operand) (t : TypeId)
    (ho : o.op = .call { callee := .builtin .append, args := #[s, x], argTypes := #[t, t] })
    (base : Nat) (e : TypeId) (i : TypeInfo) (z : Value) (size bytes : Nat) (ht : P.underlying t = some (.slice e)) (hi : P.info? e = some i) (hz : i.zero = some z)
    (hsize : i.size = size) (hby : i.bytes = bytes) (hzs : z.cells.size = size) (hsz : 0 < size)
    (v : Value) (n : Nat) (xs : List Value) (hs : a.eval s = v) (hown : w.ownsRow base e size v n xs)
    (ad : Addr) (m c : Nat) (news : List Value) (hx : a.eval x = .slice (some ad) m c) (hl : news.length = m * size) (hnews : ∀ j u, news[j]? = some u → w.cell? (ad.add j) = some u) (h1 : ∀ u ∈ news, u.oneCell' = true)
    (hm : 0 < m) (h63 : n + m ≤ maxLen) (hbytes : (n + m) * bytes ≤ 140737488355328) (hbase : base ≤ w.heap.size) (H : Nat) (hH : w.heap.size = H)
    (h : ∀ g cap w', w'.ownsRow base e size (.slice (some ⟨g, 0, none⟩) (n + m) cap) (n + m) (xs ++ news) → w.grownBy w' v.ownBlock → (v.ownBlock = some g ∨ g = H) → g < w'.heap.size → Keeps w' v n xs → wpList P ops Q rest (a.put o.dst (.slice (some ⟨g, 0, none⟩) (n + m) cap)) w') : wpList P ops Q (o :: rest) a w :=
  wpList_wanted (by simp [Region.wanted, hgd]) fun _ hK => by
    obtain ⟨g, cap, w', hr, h2, h3, h4, h5⟩ := run_append_lies (P := P) w t o.type base e i z size bytes ht hi hz hsize hby hzs hsz v n xs hown ad m c news hl hnews h1 hm h63 hbytes hbase H hH
    have hk := append_keeps (P := P) w t o.type base e i z size bytes ht hi hz hsize hby hzs hsz v n xs hown ad m c news hl hnews h1 hm h63 hbytes hr h2
    unfold Oper.wp execOp
    simp only [ho, resolve, invoke, builtin, Sem.run_bind, Sem.run_pure, Result.andThen_ok, List.map_toArray, List.map_cons, List.map_nil, hs, hx, hr]
    exact hK _ _ (h g cap w' h2 h3 h4 h5 hk)
end
end Go.Proofs.Ythdmkcnclmgdlaa
namespace Go.Proofs.Ythdmkcnclmgdlaa
open Go.RowKit
set_option linter.unusedVariables false

/-- What the old row holds behind Num: each word as it was, or as it is now. -/
def OldK (w' : World) (A : Option Addr) (V V' n : Nat) : Prop :=
  ∀ b, A = some ⟨b, 0, none⟩ → ∀ i, i < (n + 63) / 64 → w'.cell? ⟨b, i, none⟩ = some (.int .u64 ((wd V i : Nat) : Int)) ∨ w'.cell? ⟨b, i, none⟩ = some (.int .u64 ((wd V' i : Nat) : Int))
theorem info_u64 : (Try.prog.info? 124).map (fun i => (i.zero, i.size, i.bytes)) = some (some (.int .u64 0), 1, 8) := by kernel_rfl
end Go.Proofs.Ythdmkcnclmgdlaa
namespace Go.Proofs.Ythdmkcnclmgdlaa
open Go.RowKit
set_option linter.unusedVariables false

end Go.Proofs.Ythdmkcnclmgdlaa
namespace Go.Proofs.Ythdmkcnclmgdlaa
open Go.RowKit
set_option linter.unusedVariables false

theorem put_zero (V n x : Nat) : put V n x 0 = V := by simp [put, Nat.mod_one]
/-- Two vectors share no block. -/
def Sep (g : Nat) (A : Option Addr) (h : Nat) (C : Option Addr) : Prop := ∀ i, foot g A i → ¬ foot h C i
theorem Sep.symm {g h : Nat} {A C : Option Addr} (s : Sep g A h C) : Sep h C g A := fun i hi hj => s i hj hi
theorem cnt64_nat {s : Nat} (h : s ≤ 64) : cnt64 (s : Int) = s := by unfold cnt64; split <;> (try split) <;> omega
theorem U64_one (z : List Nat) : ∀ u ∈ U64 z, u.oneCell' = true := by
  intro u hu
  simp only [U64, List.mem_map] at hu
  obtain ⟨b, _, rfl⟩ := hu
  rfl
theorem Rd.u64 {w : World} {B n : Nat} {A : Option Addr} {z : List Nat} (h : Rd w B A n (U64 z)) (h0 : 0 < n) :
    ∃ b o, A = some ⟨b, o, none⟩ ∧ b < B ∧ ∀ k, k < n → w.cell? ⟨b, o + k, none⟩ = some (.int .u64 ((z.getD k 0 : Nat) : Int)) := by
  obtain ⟨b, o, e, hb, hc⟩ := h.at_ h0
  refine ⟨b, o, e, hb, fun k hk => ?_⟩
  have hl : z.length = n := by rw [← h.len, U64_len]
  rw [hc k (by rw [U64_len]; omega)]
  have := U64_get z k (by omega)
  rwa [List.getElem?_eq_getElem (by rw [U64_len]; omega)] at this

/-- What Clone answers: nil, or a new row. -/
def NewU64 (w : World) (z : List Nat) (e : Ending) (w' : World) : Prop :=
  ∃ A c, e = .returned (.slice A z.length c) ∧ z.length ≤ c ∧ c ≤ maxLen ∧ w'.ownsRow w.heap.size 124 1 (.slice A z.length c) z.length (U64 z) ∧ Below w.heap.size w w'
theorem NewU64.mk {w w' : World} {z : List Nat} {e : Ending} {v : Value} (he : e = .returned v) (h : w'.ownsRow w.heap.size 124 1 v z.length (U64 z)) (hb : Below w.heap.size w w') : NewU64 w z e w' := by
  obtain ⟨A, c, rfl, h1, h2⟩ := own_form h
  exact ⟨A, c, he, h1, h2, h, hb⟩
theorem getDN_ext {l m : List Nat} (h : l.length = m.length) (hg : ∀ i, i < l.length → l.getD i 0 = m.getD i 0) : l = m := by
  apply List.ext_getElem h
  intro i h1 h2
  have := hg i h1
  rwa [List.getD_eq_getElem?_getD, List.getD_eq_getElem?_getD, List.getElem?_eq_getElem h1, List.getElem?_eq_getElem h2] at this
end Go.Proofs.Ythdmkcnclmgdlaa
namespace Go.Proofs.Ythdmkcnclmgdlaa
open Go.RowKit
set_option linter.unusedVariables false
def U8 (l : List Nat) : List Value := l.map fun (b : Nat) => Value.int .u8 (b : Int)
theorem U8_len (l : List Nat) : (U8 l).length = l.length := by simp [U8]
theorem U8_get (l : List Nat) (j : Nat) (h : j < (U8 l).length) : (U8 l)[j] = .int .u8 ((l[j]'(by simpa [U8] using h) : Nat) : Int) := by simp [U8]
theorem U8_append (l m : List Nat) : U8 (l ++ m) = U8 l ++ U8 m := by simp [U8]
theorem info_u8 : (Try.prog.info? 5).map (fun i => (i.zero, i.size, i.bytes)) = some (some (.int .u8 0), 1, 1) := by kernel_rfl

theorem U8_one (l : List Nat) : ∀ u ∈ U8 l, u.oneCell' = true := by
  intro u hu
  simp only [U8, List.mem_map] at hu
  obtain ⟨b, _, rfl⟩ := hu
  rfl

theorem Rd.u8 {w : World} {B n : Nat} {A : Option Addr} {bs : List Nat} (h : Rd w B A n (U8 bs)) (h0 : 0 < n) :
    ∃ b o, A = some ⟨b, o, none⟩ ∧ b < B ∧ ∀ k, k < n → w.cell? ⟨b, o + k, none⟩ = some (.int .u8 ((bs.getD k 0 : Nat) : Int)) := by
  obtain ⟨b, o, e, hb, hc⟩ := h.at_ h0
  refine ⟨b, o, e, hb, fun k hk => ?_⟩
  have hl : bs.length = n := by rw [← h.len, U8_len]
  rw [hc k (by rw [U8_len]; omega), U8_get]
  simp [List.getD_eq_getElem?_getD, List.getElem?_eq_getElem (show k < bs.length by omega)]
/-- A slice of bytes that came in, as the shell of a law tells of it. -/
theorem row_u8 {w : World} {a : Option Addr} {len cap : Nat} {zs : List Int}
    (h : (a = none ∧ len = 0 ∧ cap = 0 ∧ zs = []) ∨
      ∃ x, a = some x ∧ len ≤ cap ∧ cap ≤ maxLen ∧ zs.length = cap ∧ (∀ i, i < zs.length → w.cell? (x.add i) = some (.int .u8 (zs.getD i 0))) ∧ ∀ n ∈ zs, (Lit.int .u8 n).wf = true) :
    len ≤ cap ∧ cap ≤ maxLen ∧ ∃ bs : List Nat, Rd w w.heap.size a len (U8 bs) ∧ ∀ b ∈ bs, b < 256 := by
  rcases h with ⟨rfl, rfl, rfl, rfl⟩ | ⟨x, rfl, hl, hm, hz, hc, hw⟩
  · exact ⟨Nat.le_refl _, Nat.zero_le _, [], Rd.nil _ _ _, by simp⟩
  · have hb : ∀ n ∈ zs, 0 ≤ n ∧ n < 256 := fun n hn => by
      have := hw n hn
      simp [Lit.wf, IntKind.min, IntKind.max, IntKind.bits, IntKind.signed] at this
      omega
    refine ⟨hl, hm, (zs.take len).map Int.toNat, ⟨by simp [U8]; omega, fun h0 => ?_⟩, ?_⟩
    · obtain ⟨b, o, sp⟩ := x
      obtain rfl : sp = none := by simpa [Addr.add] using World.cell?_spot (hc 0 (by omega))
      refine ⟨b, o, rfl, World.block_lt_of_cell? _ _ (hc 0 (by omega)), fun j hj => ?_⟩
      have hj' : j < len := by simp [U8] at hj; omega
      have := hc j (by omega)
      rw [U8_get]
      have e : (⟨b, o, none⟩ : Addr).add j = ⟨b, o + j, none⟩ := by unfold Addr.add; split <;> simp_all
      rw [e] at this
      rw [this]
      have hjz : j < zs.length := by omega
      have := hb zs[j] (List.getElem_mem _)
      simp [List.getD_eq_getElem?_getD, List.getElem?_eq_getElem hjz]
      omega
    · intro b hb'
      simp only [List.mem_map] at hb'
      obtain ⟨n, hn, rfl⟩ := hb'
      have := hb n (List.mem_of_mem_take hn)
      omega
theorem wf_u8 {x : Int} (h : (Lit.int .u8 x).wf = true) : ∃ n : Nat, x = (n : Int) ∧ n < 256 := by
  simp [Lit.wf, IntKind.min, IntKind.max, IntKind.bits, IntKind.signed] at h
  exact ⟨x.toNat, by omega, by omega⟩
theorem wf_u64 {x : Int} (h : (Lit.int .u64 x).wf = true) : ∃ n : Nat, x = (n : Int) ∧ n < 2 ^ 64 := by
  simp [Lit.wf, IntKind.min, IntKind.max, IntKind.bits, IntKind.signed] at h
  exact ⟨x.toNat, by omega, by omega⟩
theorem wf_i64 {x : Int} (h : (Lit.int .i64 x).wf = true) : -9223372036854775808 ≤ x ∧ x ≤ 9223372036854775807 := by
  simp [Lit.wf, IntKind.min, IntKind.max, IntKind.bits, IntKind.signed] at h
  omega
end Go.Proofs.Ythdmkcnclmgdlaa
namespace Go.Proofs.Ythdmkcnclmgdlaa
open Go.RowKit
set_option linter.unusedVariables false

theorem words_inj {V U n m : Nat} (hV : V < 2 ^ n) (hU : U < 2 ^ n) (hm : n ≤ 64 * m) (h : words V m = words U m) : V = U := by
  apply Nat.eq_of_testBit_eq
  intro j
  by_cases hj : j < n
  · have h1 : wd V (j / 64) = wd U (j / 64) := by
      have := congrArg (fun l => l.getD (j / 64) 0) h
      rwa [words_get _ _ _ (by omega), words_get _ _ _ (by omega)] at this
    have h2 := wd_bit V (j / 64) (j % 64)
    have h3 := wd_bit U (j / 64) (j % 64)
    have hl : j % 64 < 64 := by omega
    rw [show 64 * (j / 64) + j % 64 = j by omega] at h2 h3
    simp only [hl, decide_true, Bool.true_and] at h2 h3
    rw [← h2, ← h3, h1]
  · rw [Nat.testBit_lt_two_pow (Nat.lt_of_lt_of_le hV (Nat.pow_le_pow_right (by omega) (by omega))), Nat.testBit_lt_two_pow (Nat.lt_of_lt_of_le hU (Nat.pow_le_pow_right (by omega) (by omega)))]
end Go.Proofs.Ythdmkcnclmgdlaa
namespace Go.Proofs.Ythdmkcnclmgdlaa
open Go.RowKit
set_option linter.unusedVariables false

end Go.Proofs.Ythdmkcnclmgdlaa
namespace Go.Proofs.Ythdmkcnclmgdlaa
open Go.RowKit
set_option linter.unusedVariables false

theorem take_next {α : Type} [Inhabited α] (l : List Int) (k : Nat) (h : k < l.length) : l.take (k + 1) = l.take k ++ [l.getD k 0] := by
  rw [← List.take_append_getElem h, List.getD_eq_getElem?_getD, List.getElem?_eq_getElem h]; rfl
theorem bits_next (l : List Nat) (z : List Int) (k : Nat) (h : k < z.length) : l ++ (z.take (k + 1)).map bit1 = (l ++ (z.take k).map bit1) ++ [bit1 (z.getD k 0)] := by
  rw [take_next (α := Nat) z k h, List.map_append, List.append_assoc]; rfl

end Go.Proofs.Ythdmkcnclmgdlaa
namespace Go.Proofs.Ythdmkcnclmgdlaa
open Go.RowKit
set_option linter.unusedVariables false

end Go.Proofs.Ythdmkcnclmgdlaa
namespace Go.Proofs.Ythdmkcnclmgdlaa
open Go.RowKit
set_option linter.unusedVariables false

theorem pop_le (x k : Nat) : pop x k ≤ k := by
  induction k with
  | zero => exact Nat.le_refl _
  | succ k ih =>
    rw [pop_add]
    have : pop (x / 2 ^ k) 1 ≤ 1 := by
      simp only [pop, numL, List.range_succ, List.range_zero, List.nil_append, List.map_cons, List.map_nil, List.sum_cons, List.sum_nil]
      omega
    omega
theorem pop_words (V k : Nat) : pop V (64 * (k + 1)) = pop V (64 * k) + pop (wd V k) 64 := by
  rw [Nat.mul_add, Nat.mul_one, pop_add]
  unfold wd
  rw [pop_mod]
theorem pop_all {V n m : Nat} (h : V < 2 ^ n) (hn : n ≤ m) : pop V m = pop V n := by
  obtain ⟨d, rfl⟩ := Nat.exists_eq_add_of_le hn
  rw [pop_add, Nat.div_eq_of_lt h, pop_zero, Nat.add_zero]
theorem pop_val {l : List Nat} (h : Bin l) : pop (val l) l.length = l.sum := by
  unfold pop
  rw [numL_val h _ (Nat.le_refl _), List.take_of_length_le (Nat.le_refl _)]
theorem sum_next (l : List Nat) (k : Nat) (h : k < l.length) : (l.take (k + 1)).sum = (l.take k).sum + l.getD k 0 := by
  rw [← List.take_append_getElem h, List.sum_append, List.getD_eq_getElem?_getD, List.getElem?_eq_getElem h]; simp
theorem sum_le {l : List Nat} (h : Bin l) (k : Nat) : (l.take k).sum ≤ k := by
  induction k with
  | zero => simp
  | succ k ih =>
    by_cases hk : k < l.length
    · rw [sum_next l k hk]; have := h.getD k; omega
    · rw [List.take_of_length_le (by omega)] at ih ⊢; omega
end Go.Proofs.Ythdmkcnclmgdlaa
namespace Go.Proofs.Ythdmkcnclmgdlaa
open Go.RowKit
set_option linter.unusedVariables false

def U32 (z : List Nat) : List Value := z.map fun (x : Nat) => Value.int .u32 (x : Int)
theorem U32_len (z : List Nat) : (U32 z).length = z.length := by simp [U32]
theorem U32_append (l m : List Nat) : U32 (l ++ m) = U32 l ++ U32 m := by simp [U32]
theorem U32_get (z : List Nat) (k : Nat) (hk : k < z.length) : (U32 z)[k]? = some (.int .u32 ((z.getD k 0 : Nat) : Int)) := by
  simp [U32, List.getD_eq_getElem?_getD, List.getElem?_eq_getElem hk]
theorem U32_one (z : List Nat) : ∀ u ∈ U32 z, u.oneCell' = true := by
  intro u hu
  simp only [U32, List.mem_map] at hu
  obtain ⟨b, _, rfl⟩ := hu
  rfl
/-- How many blocks n bits are. -/
def blk (n : Nat) : Nat := (n + 511) / 512
/-- How many ones are ahead of each of k blocks. -/
def aheadL (V k : Nat) : List Nat := (List.range k).map fun j => pop V (512 * j)
theorem aheadL_len (V k : Nat) : (aheadL V k).length = k := by simp [aheadL]
theorem aheadL_get (V k j : Nat) (h : j < k) : (aheadL V k).getD j 0 = pop V (512 * j) := by simp [aheadL, List.getD_eq_getElem?_getD, h]
theorem aheadL_next (V k : Nat) : aheadL V (k + 1) = aheadL V k ++ [pop V (512 * k)] := by simp [aheadL, List.range_succ]
def b01 (d : Bool) : Int := if d then 1 else 0
/-- Whether the directory is there, and what it is. -/
def DirAt (w : World) (g V n : Nat) (d : Bool) (H : Value) : Prop :=
  match d with
  | false => H = .slice none 0 0
  | true => ∃ S c, H = .slice S (blk n + 1) c ∧ w.ownsRow (g + 1) 121 1 (.slice S (blk n + 1) c) (blk n + 1) (U32 (aheadL V (blk n + 1)))
theorem DirAt.below {w w' : World} {g V n : Nat} {d : Bool} {H : Value} (h : DirAt w g V n d H) (m : Below w.heap.size w w') : DirAt w' g V n d H := by
  cases d with
  | false => exact h
  | true => obtain ⟨S, c, e, ho⟩ := h; exact ⟨S, c, e, own_below ho m⟩
/-! ### sync/atomic -/
/-! ### what the index answers without its directory -/
section
variable (g V n q : Nat) (d : Bool) (w : World)
end
end Go.Proofs.Ythdmkcnclmgdlaa
namespace Go.Proofs.Ythdmkcnclmgdlaa
open Go.RowKit
set_option linter.unusedVariables false

end Go.Proofs.Ythdmkcnclmgdlaa
namespace Go.Proofs.Ythdmkcnclmgdlaa
open Go.RowKit
set_option linter.unusedVariables false

theorem info_u32 : (Try.prog.info? 121).map (fun i => (i.zero, i.size, i.bytes)) = some (some (.int .u32 0), 1, 4) := by kernel_rfl
theorem pop_block {V n : Nat} (h : V < 2 ^ n) : pop V (512 * blk n) = pop V n := pop_all h (by unfold blk; omega)
end Go.Proofs.Ythdmkcnclmgdlaa
namespace Go.Proofs.Ythdmkcnclmgdlaa
open Go.RowKit
set_option linter.unusedVariables false

end Go.Proofs.Ythdmkcnclmgdlaa
