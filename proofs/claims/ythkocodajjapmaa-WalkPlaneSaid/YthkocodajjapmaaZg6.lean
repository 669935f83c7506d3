/- Lists of noughts and ones, and the number that they are; no program in sight. At, Text and Bytes of a vector. Words of four letters as numbers: mathematics. -/
import Derived.Test.YthkocodajjapmaaZg3
import Derived.Test.YthkocodajjapmaaZg5
namespace Go.Proofs.Ythkocodajjapmaa
set_option linter.unusedVariables false

def ofNB (l : List Nat) : List Int := l.map fun (x : Nat) => (x : Int)
theorem ofN_lenB (l : List Nat) : (ofNB l).length = l.length := by simp [ofNB]
theorem ofN_appendB (l m : List Nat) : ofNB (l ++ m) = ofNB l ++ ofNB m := by simp [ofNB]
theorem ofN_takeB (l : List Nat) (k : Nat) : ofNB (l.take k) = (ofNB l).take k := by simp [ofNB, List.map_take]
theorem ofN_dropB (l : List Nat) (k : Nat) : ofNB (l.drop k) = (ofNB l).drop k := by simp [ofNB, List.map_drop]
theorem ofN_getB (l : List Nat) (i : Nat) : (ofNB l).getD i 0 = ((l.getD i 0 : Nat) : Int) := by
  by_cases h : i < l.length
  · simp [ofNB, List.getD_eq_getElem?_getD, h]
  · simp [ofNB, List.getD_eq_getElem?_getD, Nat.le_of_not_lt h]
theorem ofN_injB {l m : List Nat} (h : ofNB l = ofNB m) : l = m := by
  have hl : l.length = m.length := by rw [← ofN_lenB, h, ofN_lenB]
  apply List.ext_getElem hl
  intro i h1 h2
  have := congrArg (fun l => l.getD i 0) h
  simp only [ofN_getB] at this
  simp only [List.getD_eq_getElem?_getD, List.getElem?_eq_getElem h1, List.getElem?_eq_getElem h2, Option.getD_some] at this
  omega

/-- The number of some bits, the lowest first. -/
def val : List Nat → Nat
  | [] => 0
  | b :: l => b + 2 * val l
/-- Noughts and ones. -/
def Bin (l : List Nat) : Prop := ∀ b ∈ l, b < 2
theorem Bin.nil : Bin [] := fun _ h => by cases h
theorem Bin.tail {b : Nat} {l : List Nat} (h : Bin (b :: l)) : Bin l := fun x hx => h x (List.mem_cons_of_mem _ hx)
theorem Bin.head {b : Nat} {l : List Nat} (h : Bin (b :: l)) : b < 2 := h b (List.mem_cons_self ..)
theorem Bin.append {l m : List Nat} (h : Bin l) (k : Bin m) : Bin (l ++ m) := fun x hx => by
  rcases List.mem_append.1 hx with hx | hx
  · exact h x hx
  · exact k x hx
theorem Bin.take {l : List Nat} (h : Bin l) (k : Nat) : Bin (l.take k) := fun x hx => h x (List.mem_of_mem_take hx)
theorem Bin.drop {l : List Nat} (h : Bin l) (k : Nat) : Bin (l.drop k) := fun x hx => h x (List.mem_of_mem_drop hx)
theorem Bin.getD {l : List Nat} (h : Bin l) (i : Nat) : l.getD i 0 < 2 := by
  by_cases hi : i < l.length
  · rw [List.getD_eq_getElem?_getD, List.getElem?_eq_getElem hi]
    exact h _ (List.getElem_mem hi)
  · rw [List.getD_eq_getElem?_getD, List.getElem?_eq_none (by omega)]; decide
theorem val_lt {l : List Nat} (h : Bin l) : val l < 2 ^ l.length := by
  induction l with
  | nil => simp [val]
  | cons b l ih =>
    have h1 := ih h.tail
    have h2 := h.head
    simp only [val, List.length_cons, Nat.pow_succ]
    omega
theorem val_append (l m : List Nat) : val (l ++ m) = val l + 2 ^ l.length * val m := by
  induction l with
  | nil => simp [val]
  | cons b l ih => 
    simp only [List.cons_append, val, ih, List.length_cons, Nat.pow_succ]
    rw [Nat.mul_add, ← Nat.mul_assoc, Nat.mul_comm 2 (2 ^ l.length)]
    omega
theorem val_bit {l : List Nat} (h : Bin l) (i : Nat) : val l / 2 ^ i % 2 = l.getD i 0 := by
  induction l generalizing i with
  | nil => simp [val]
  | cons b l ih =>
    have hb := h.head
    cases i with
    | zero => simp [val]; omega
    | succ i =>
      have e : (b + 2 * val l) / 2 ^ (i + 1) = val l / 2 ^ i := by
        rw [Nat.pow_succ, Nat.mul_comm (2 ^ i) 2, ← Nat.div_div_eq_div_mul]
        congr 1; omega
      simp only [val, e, List.getD_cons_succ]
      exact ih h.tail i
theorem val_inj {l m : List Nat} (h : Bin l) (k : Bin m) (hl : l.length = m.length) (e : val l = val m) : l = m := by
  apply List.ext_getElem hl
  intro i h1 h2
  have a := val_bit h i
  have b := val_bit k i
  rw [e, b] at a
  simpa [List.getD_eq_getElem?_getD, List.getElem?_eq_getElem h1, List.getElem?_eq_getElem h2] using a.symm
/-- A number's k lowest bits. -/
def numL (x k : Nat) : List Nat := (List.range k).map fun i => x / 2 ^ i % 2
theorem numL_len (x k : Nat) : (numL x k).length = k := by simp [numL]
theorem numL_bin (x k : Nat) : Bin (numL x k) := fun b hb => by
  simp only [numL, List.mem_map] at hb
  obtain ⟨i, _, rfl⟩ := hb
  exact Nat.mod_lt _ (by decide)
theorem numL_next (x k : Nat) : numL x (k + 1) = numL x k ++ [x / 2 ^ k % 2] := by simp [numL, List.range_succ]
theorem mod_next (x k : Nat) : x % 2 ^ (k + 1) = x % 2 ^ k + 2 ^ k * (x / 2 ^ k % 2) := by rw [Nat.pow_succ, Nat.mod_mul]
theorem val_numL (x k : Nat) : val (numL x k) = x % 2 ^ k := by
  induction k with
  | zero => simp [numL, val, Nat.mod_one]
  | succ k ih => rw [numL_next, val_append, ih, numL_len, mod_next]; simp [val]
theorem val_take {l : List Nat} (h : Bin l) (k : Nat) : val (l.take k) = val l % 2 ^ k := by
  by_cases hk : k ≤ l.length
  · have e := val_append (l.take k) (l.drop k)
    rw [List.take_append_drop, List.length_take, Nat.min_eq_left hk] at e
    rw [e, Nat.add_mul_mod_self_left]
    have := val_lt (h.take k)
    rw [List.length_take, Nat.min_eq_left hk] at this
    exact (Nat.mod_eq_of_lt this).symm
  · rw [List.take_of_length_le (by omega)]
    exact (Nat.mod_eq_of_lt (Nat.lt_of_lt_of_le (val_lt h) (Nat.pow_le_pow_right (by omega) (by omega)))).symm
theorem val_drop {l : List Nat} (h : Bin l) (k : Nat) : val (l.drop k) = val l / 2 ^ k := by
  by_cases hk : k ≤ l.length
  · have e := val_append (l.take k) (l.drop k)
    rw [List.take_append_drop, List.length_take, Nat.min_eq_left hk] at e
    have := val_lt (h.take k)
    rw [List.length_take, Nat.min_eq_left hk] at this
    rw [e, Nat.add_comm, Nat.mul_add_div (Nat.two_pow_pos k), Nat.div_eq_of_lt this, Nat.add_zero]
  · rw [List.drop_of_length_le (by omega), Nat.div_eq_of_lt (Nat.lt_of_lt_of_le (val_lt h) (Nat.pow_le_pow_right (by omega) (by omega)))]
    rfl
/-- Bits put behind a list's number. -/
theorem put_val {l m : List Nat} (hm : Bin m) : put (val l) l.length (val m) m.length = val (l ++ m) := by
  unfold put
  rw [val_append, Nat.mod_eq_of_lt (val_lt hm), Nat.mul_comm]
theorem put_numL (l : List Nat) (x k : Nat) : put (val l) l.length x k = val (l ++ numL x k) := by
  unfold put
  rw [val_append, val_numL, Nat.mul_comm]
theorem numL_val {l : List Nat} (h : Bin l) (k : Nat) (hk : k ≤ l.length) : numL (val l) k = l.take k := by
  refine val_inj (numL_bin _ _) (h.take k) (by rw [numL_len, List.length_take, Nat.min_eq_left hk]) ?_
  rw [val_numL, val_take h]
/-- A number of bits in two parts is the number at once. -/
theorem put_two (x a b : Nat) : put (put 0 0 x a) (0 + a) (x / 2 ^ a) b = put 0 0 x (a + b) := by
  unfold put
  simp only [Nat.zero_add, Nat.pow_zero, Nat.mul_one]
  rw [Nat.pow_add, Nat.mod_mul, Nat.mul_comm]
/-- Bits of bytes, not more than so many. -/
def few (bs : List Nat) (m : Nat) : List Nat := (bs.flatMap fun b => numL b 8).take m
theorem flat_bin (bs : List Nat) : Bin (bs.flatMap fun b => numL b 8) := fun x hx => by
  obtain ⟨b, _, h⟩ := List.mem_flatMap.1 hx
  exact numL_bin b 8 x h
theorem few_bin (bs : List Nat) (m : Nat) : Bin (few bs m) := (flat_bin bs).take m
theorem flat_len (bs : List Nat) : (bs.flatMap fun b => numL b 8).length = 8 * bs.length := by
  induction bs with
  | nil => rfl
  | cons b bs ih => simp only [List.flatMap_cons, List.length_append, ih, numL_len, List.length_cons]; omega
theorem few_len (bs : List Nat) (m : Nat) : (few bs m).length = min m (8 * bs.length) := by rw [few, List.length_take, flat_len]
/-- On the way: k bytes and i bits of the next one. -/
def fewTo (bs : List Nat) (m k i : Nat) : List Nat := (((bs.take k).flatMap fun b => numL b 8) ++ numL (bs.getD k 0) i).take m
theorem fewTo_start (bs : List Nat) (m : Nat) : fewTo bs m 0 0 = [] := by simp [fewTo, numL]
theorem fewTo_bit (bs : List Nat) (m k i : Nat) (h : (fewTo bs m k i).length < m) : fewTo bs m k (i + 1) = fewTo bs m k i ++ [bs.getD k 0 / 2 ^ i % 2] := by
  unfold fewTo at h ⊢
  generalize ((bs.take k).flatMap fun b => numL b 8) = F at *
  rw [List.length_take] at h
  rw [numL_next, ← List.append_assoc, List.take_of_length_le (by simp only [List.length_append, List.length_cons, List.length_nil] at h ⊢; omega), List.take_of_length_le (by omega)]
theorem fewTo_full (bs : List Nat) (m k i j : Nat) (hij : i ≤ j) (h : ¬ (fewTo bs m k i).length < m) : fewTo bs m k j = fewTo bs m k i := by
  unfold fewTo at h ⊢
  generalize ((bs.take k).flatMap fun b => numL b 8) = F at *
  rw [List.length_take] at h
  have e : numL (bs.getD k 0) j = numL (bs.getD k 0) i ++ (numL (bs.getD k 0) j).drop i := by
    have h1 : numL (bs.getD k 0) i = (numL (bs.getD k 0) j).take i := by
      simp only [numL, ← List.map_take, List.take_range, Nat.min_eq_left hij]
    rw [h1, List.take_append_drop]
  rw [e, ← List.append_assoc, List.take_append_of_le_length (by omega)]
theorem fewTo_next (bs : List Nat) (m k : Nat) (hk : k < bs.length) : fewTo bs m k 8 = fewTo bs m (k + 1) 0 := by
  unfold fewTo
  rw [← List.take_append_getElem hk, List.flatMap_append]
  simp [numL, List.getD_eq_getElem?_getD, List.getElem?_eq_getElem hk]
theorem fewTo_end (bs : List Nat) (m : Nat) : fewTo bs m bs.length 0 = few bs m := by
  unfold fewTo few
  simp [numL]
theorem fewTo_le (bs : List Nat) (m k i : Nat) : (fewTo bs m k i).length ≤ 8 * k + i := by
  unfold fewTo
  rw [List.length_take, List.length_append, flat_len, numL_len, List.length_take]
  omega
/-- What Add makes of numbers. -/
def bit1 (x : Int) : Nat := if x = 0 then 0 else 1
theorem bit1_bin (z : List Int) : Bin (z.map bit1) := fun b hb => by
  simp only [List.mem_map] at hb
  obtain ⟨x, _, rfl⟩ := hb
  unfold bit1; split <;> decide
theorem bit1_ofN {l : List Nat} (h : Bin l) : (ofNB l).map bit1 = l := by
  induction l with
  | nil => rfl
  | cons b l ih =>
    have := h.head
    simp only [ofNB, List.map_cons, List.cons.injEq] at ih ⊢
    refine ⟨?_, ih h.tail⟩
    unfold bit1; split <;> omega
theorem put_one (l : List Nat) (x : Int) : put (val l) l.length (bit1 x) 1 = val (l ++ [bit1 x]) := by
  have h : Bin [bit1 x] := fun b hb => by
    simp only [List.mem_singleton] at hb
    subst hb; unfold bit1; split <;> decide
  have := put_val (l := l) h
  simpa [val] using this
end Go.Proofs.Ythkocodajjapmaa
namespace Go.Proofs.Ythkocodajjapmaa
open Go.RowKit
set_option linter.unusedVariables false

theorem at_outB (v : Option Addr) (n : Nat) (i : Int) (w : World) (hi : -9223372036854775808 ≤ i ∧ i ≤ 9223372036854775807) (ho : i < 0 ∨ (n : Int) ≤ i)
    (hl : Calls Try.prog 52 #[.pointer v] w fun e w' => e = .returned (.int .i64 (n : Int)) ∧ w = w') :
    Calls Try.prog 69 #[.pointer v, .int .i64 i] w fun e w' => e = .returned (.int .i64 (-1)) ∧ w = w' := by
  have L := Lib.hid hl
  clear hl
  by_cases h : i < 0
  · go_enter Try.func69, Try.ntmps69
    go_wp2_with fail
    go_ret
    exact ⟨rfl, rfl⟩
  · have h2 : (n : Int) ≤ i := by omega
    clear ho
    go_enter Try.func69, Try.ntmps69
    go_wp2_with (go_at_call 52; refine L.out.mono ?_; rintro e w' ⟨rfl, rfl⟩)
    go_ret
    exact ⟨rfl, rfl⟩
theorem at_p (g V n i B : Nat) (A : Option Addr) (w : World) (h : VecB w B g V n A) (hi : i < n) :
    Calls Try.prog 69 #[.pointer (some ⟨g, 0, none⟩), .int .i64 (i : Int)] w fun e w' => e = .returned (.int .i64 ((V / 2 ^ i % 2 : Nat) : Int)) ∧ w = w' := by
  have L := Lib.hid (blen_p g V n A w h)
  have G := Lib.hid (get_p g V n i 1 A w h (by omega) (by omega) (by omega))
  have hn := h.2.1
  have hlt : ¬ (n : Int) ≤ (i : Int) := by omega
  have hb : V / 2 ^ i % 2 ^ 1 < 2 := Nat.mod_lt _ (by decide)
  rw [show V / 2 ^ i % 2 = V / 2 ^ i % 2 ^ 1 by rw [Nat.pow_one]]
  generalize V / 2 ^ i % 2 ^ 1 = x at *
  clear h
  go_enter Try.func69, Try.ntmps69
  go_wp2_with (first
    | (go_at_call 52; refine L.out.mono ?_; rintro e w' ⟨rfl, rfl⟩)
    | (go_at_call 78; refine G.out.mono ?_; rintro e w' ⟨rfl, rfl⟩))
  go_ret
  exact ⟨rfl, rfl⟩

/-- The text of some bits. -/
def textOf (l : List Nat) : ByteArray := strOfNums (l.map fun (b : Nat) => ((48 + b : Nat) : Int))
/-- The bytes of n bits. -/
def bytesL (V n : Nat) : List Nat := (List.range ((n + 7) / 8)).map fun i => V / 2 ^ (8 * i) % 256
theorem bytesL_len (V n : Nat) : (bytesL V n).length = (n + 7) / 8 := by simp [bytesL]
theorem bytesL_lt (V n : Nat) : ∀ b ∈ bytesL V n, b < 256 := fun b hb => by
  simp only [bytesL, List.mem_map] at hb
  obtain ⟨i, _, rfl⟩ := hb
  exact Nat.mod_lt _ (by decide)
theorem byte_part {V n i : Nat} (h : V < 2 ^ n) (hi : 8 * i < n) : V / 2 ^ (8 * i) % 2 ^ (min 8 (n - 8 * i)) = V / 2 ^ (8 * i) % 256 := by
  by_cases h8 : 8 ≤ n - 8 * i
  · rw [Nat.min_eq_left h8]
  · rw [Nat.min_eq_right (by omega)]
    have h1 : V / 2 ^ (8 * i) < 2 ^ (n - 8 * i) := by
      rw [Nat.div_lt_iff_lt_mul (Nat.two_pow_pos _), ← Nat.pow_add, show n - 8 * i + 8 * i = n by omega]; exact h
    have h2 : (2 : Nat) ^ (n - 8 * i) ≤ 2 ^ 8 := Nat.pow_le_pow_right (by omega) (by omega)
    rw [Nat.mod_eq_of_lt h1, Nat.mod_eq_of_lt (Nat.lt_of_lt_of_le h1 h2)]
end Go.Proofs.Ythkocodajjapmaa
namespace Go.Proofs.Ythkocodajjapmaa
set_option maxRecDepth 20000
open Go.RowKit
set_option linter.unusedVariables false
/-- The number that a word's bits are: two bits a letter. -/
def wv : List Nat → Nat
  | [] => 0
  | k :: ks => k % 4 + 4 * wv ks
theorem wv_snoc (k : Nat) : ∀ ks : List Nat, wv (ks ++ [k]) = put (wv ks) (2 * ks.length) k 2
  | [] => by simp [wv, put]
  | x :: ks => by
    show x % 4 + 4 * wv (ks ++ [k]) = _
    rw [wv_snoc k ks]
    unfold put
    show _ = (x % 4 + 4 * wv ks) + _
    rw [List.length_cons, show 2 * (ks.length + 1) = 2 * ks.length + 2 by omega, Nat.pow_add, show (2 : Nat) ^ 2 = 4 from rfl, ← Nat.mul_assoc]
    generalize k % 4 * 2 ^ (2 * ks.length) = q
    omega
theorem wv_at : ∀ (ks : List Nat) (i : Nat), i < ks.length → wv ks / 2 ^ (2 * i) % 2 + 2 * (wv ks / 2 ^ (2 * i + 1) % 2) = ks.getD i 0 % 4
  | [], i, h => absurd h (by simp)
  | x :: ks, 0, h => by
    show (x % 4 + 4 * wv ks) / 2 ^ 0 % 2 + 2 * ((x % 4 + 4 * wv ks) / 2 ^ 1 % 2) = x % 4
    rw [Nat.pow_zero, Nat.pow_one]; omega
  | x :: ks, i + 1, h => by
    have ih := wv_at ks i (by simpa using h)
    show (x % 4 + 4 * wv ks) / 2 ^ (2 * (i + 1)) % 2 + 2 * ((x % 4 + 4 * wv ks) / 2 ^ (2 * (i + 1) + 1) % 2) = ks.getD i 0 % 4
    have e : ∀ j, (x % 4 + 4 * wv ks) / 2 ^ (j + 2) = wv ks / 2 ^ j := fun j => by
      rw [Nat.pow_add, show (2 : Nat) ^ 2 = 4 from rfl, Nat.mul_comm (2 ^ j) 4, ← Nat.div_div_eq_div_mul]
      congr 1; omega
    rw [show 2 * (i + 1) = 2 * i + 2 by omega, show 2 * i + 2 + 1 = 2 * i + 1 + 2 by omega, e, e]
    exact ih
theorem wv_lo (ks : List Nat) (i : Nat) (h : i < ks.length) : wv ks / 2 ^ (2 * i) % 2 = ks.getD i 0 % 2 := by have := wv_at ks i h; omega
theorem wv_hi (ks : List Nat) (i : Nat) (h : i < ks.length) : wv ks / 2 ^ (2 * i + 1) % 2 = ks.getD i 0 / 2 % 2 := by have := wv_at ks i h; omega
/-- At g lies a word. -/
def WordAt (w : World) (B g : Nat) (ks : List Nat) : Prop :=
  (∀ x ∈ ks, x < 4) ∧ B ≤ g ∧ ∃ gv A, B ≤ gv ∧ Blk w g 86 #[.pointer (some ⟨gv, 0, none⟩)] ∧ VecAt w gv (wv ks) (2 * ks.length) A
theorem WordAt.below {w w' : World} {B g : Nat} {ks : List Nat} (h : WordAt w B g ks) (z : Below w.heap.size w w') : WordAt w' B g ks := by
  obtain ⟨h1, h2, gv, A, h3, h4, h5⟩ := h
  exact ⟨h1, h2, gv, A, h3, h4.below z, h5.below z⟩
theorem WordAt.base {w : World} {B B' g : Nat} {ks : List Nat} (h : WordAt w B g ks) (z : B' ≤ B) : WordAt w B' g ks := by
  obtain ⟨h1, h2, gv, A, h3, h4, h5⟩ := h
  exact ⟨h1, by omega, gv, A, by omega, h4, h5⟩
theorem mnew_p (w : World) : Calls Try.prog 37 #[] w fun e w' => ∃ g, e = .returned (.pointer (some ⟨g, 0, none⟩)) ∧ WordAt w' w.heap.size g [] ∧ Below w.heap.size w w' := by
  have NP := Lib.hid (bnew_p w)
  go_enter Try.func37, Try.ntmps37
  go_wp2_with fail
  refine NP.out.mono ?_
  rintro e w1 ⟨rfl, hv, z⟩
  go_wp2_with fail
  go_ret
  refine ⟨_, rfl, ⟨by simp, z.size, w.heap.size, none, Nat.le_refl _, Blk.new w1 _ _, ?_⟩, z.alloc z.size _⟩
  exact hv.below ((Below.refl _ _).alloc (Nat.le_refl _) _)
theorem foot_word {w : World} {B g gv V n : Nat} {A : Option Addr} {cs : Array Value} (h : Blk w g 86 cs) (hv : VecB w B gv V n A) : ¬ foot gv A g := by
  obtain ⟨h1, h2, c, h3, h4⟩ := hv
  rintro (e | ⟨b, e, rfl⟩)
  · subst e
    unfold Blk at h h3
    rw [h] at h3
    simp at h3
  · exact own_ne h4 h (by decide) (by rw [e]; rfl)
set_option maxHeartbeats 1000000 in
theorem mput_p (B g : Nat) (ks : List Nat) (k : Nat) (w : World) (h : WordAt w B g ks) (hk : k < 4) (hn : ks.length ≤ 400000) :
    Calls Try.prog 68 #[.pointer (some ⟨g, 0, none⟩), .int .i64 (k : Int)] w fun e w' => e = .returned (.tuple #[]) ∧ WordAt w' B g (ks ++ [k]) ∧ Below B w w' := by
  obtain ⟨h1, h2, gv, A, h3, h4, h5⟩ := h
  have np := num_p gv (wv ks) (2 * ks.length) k 2 A w h5 (by omega) (by omega) (by omega)
  rw [show cnt64 2 = 2 by decide] at np
  have NP := Lib.hid np
  clear np
  have c0 : w.cell? ⟨g, 0, none⟩ = some (.pointer (some ⟨gv, 0, none⟩)) := h4.cell 0
  have hw : IntKind.u64.wrap (k : Int) = (k : Int) := by simp [IntKind.wrap, IntKind.signed, IntKind.bits]; omega
  have H4 := Lib.hid h4
  have H5 := Lib.hid h5
  have H1 := Lib.hid h1
  clear h4 h5 h1
  go_enter Try.func68, Try.ntmps68
  go_wp2_with fail
  refine NP.out.mono ?_
  intro e w1 hp
  have hb := NumPost.below hp H5.out
  obtain ⟨rfl, A', hv, hm, ha⟩ := hp
  have W1 : Hid (WordAt w1 B g (ks ++ [k])) := by
    refine ⟨fun x hx => ?_, h2, gv, A', h3, H4.out.mod hm (foot_word H4.out H5.out), ?_⟩
    · rcases List.mem_append.1 hx with y | y
      · exact H1.out x y
      · simp at y; omega
    · rw [wv_snoc, List.length_append, List.length_singleton, show 2 * (ks.length + 1) = 2 * ks.length + 2 by omega]
      exact hv
  have Z1 := Lib.hid (hb.mono h3)
  clear hb hv hm ha NP
  go_wp2_with fail
  refine bodyPost_end (results_none rfl _ _ _) rfl ⟨rfl, W1.out, Z1.out⟩
/-- A word whose blocks are none of S. -/
def WordS (w : World) (B g : Nat) (ks : List Nat) (S : Nat → Prop) : Prop :=
  (∀ x ∈ ks, x < 4) ∧ B ≤ g ∧ ∃ gv A, B ≤ gv ∧ Blk w g 86 #[.pointer (some ⟨gv, 0, none⟩)] ∧ VecAt w gv (wv ks) (2 * ks.length) A ∧ ∀ i, foot gv A i → ¬ S i
theorem WordS.at_ {w : World} {B g : Nat} {ks : List Nat} {S : Nat → Prop} (h : WordS w B g ks S) : WordAt w B g ks := by
  obtain ⟨h1, h2, gv, A, h3, h4, h5, _⟩ := h
  exact ⟨h1, h2, gv, A, h3, h4, h5⟩
theorem WordAt.sep {w : World} {B g : Nat} {ks : List Nat} (h : WordAt w B g ks) {S : Nat → Prop} (hS : ∀ i, S i → ∃ cs, Blk w i 3 cs) : WordS w B g ks S := by
  obtain ⟨h1, h2, gv, A, h3, h4, h5⟩ := h
  refine ⟨h1, h2, gv, A, h3, h4, h5, fun i hi hs => ?_⟩
  obtain ⟨cs, hb⟩ := hS i hs
  obtain ⟨_, _, c, b1, b2⟩ := h5
  rcases hi with e | ⟨b, e, rfl⟩
  · subst e
    unfold Blk at hb b1
    rw [hb] at b1
    simp at b1
  · exact own_ne b2 hb (by decide) (by rw [e]; rfl)
set_option maxHeartbeats 1000000 in
theorem mput_s (B g : Nat) (ks : List Nat) (k : Nat) (w : World) (S : Nat → Prop) (h : WordS w B g ks S) (hk : k < 4) (hn : ks.length ≤ 400000) (hS : ∀ i, S i → i < w.heap.size) :
    Calls Try.prog 68 #[.pointer (some ⟨g, 0, none⟩), .int .i64 (k : Int)] w fun e w' => e = .returned (.tuple #[]) ∧ WordS w' B g (ks ++ [k]) S ∧ Below B w w' ∧ Mod (fun i => ¬ S i) w w' := by
  obtain ⟨h1, h2, gv, A, h3, h4, h5, h6⟩ := h
  have np := num_p gv (wv ks) (2 * ks.length) k 2 A w h5 (by omega) (by omega) (by omega)
  rw [show cnt64 2 = 2 by decide] at np
  have NP := Lib.hid np
  clear np
  have c0 : w.cell? ⟨g, 0, none⟩ = some (.pointer (some ⟨gv, 0, none⟩)) := h4.cell 0
  have hw : IntKind.u64.wrap (k : Int) = (k : Int) := by simp [IntKind.wrap, IntKind.signed, IntKind.bits]; omega
  have H4 := Lib.hid h4
  have H5 := Lib.hid h5
  have H1 := Lib.hid h1
  have H6 := Lib.hid h6
  clear h4 h5 h1 h6
  go_enter Try.func68, Try.ntmps68
  go_wp2_with fail
  refine NP.out.mono ?_
  intro e w1 hp
  have hb := NumPost.below hp H5.out
  obtain ⟨rfl, A', hv, hm, ha⟩ := hp
  have W1 : Hid (WordS w1 B g (ks ++ [k]) S) := by
    refine ⟨fun x hx => ?_, h2, gv, A', h3, H4.out.mod hm (foot_word H4.out H5.out), ?_, fun i hi hs => ?_⟩
    · rcases List.mem_append.1 hx with y | y
      · exact H1.out x y
      · simp at y; omega
    · rw [wv_snoc, List.length_append, List.length_singleton, show 2 * (ks.length + 1) = 2 * ks.length + 2 by omega]
      exact hv
    · rcases ha with rfl | ⟨b, rfl, hb⟩
      · exact H6.out i hi hs
      · rcases hi with e | ⟨b', e, e2⟩
        · exact H6.out i (.inl e) hs
        · have := hS i hs
          have e3 : b = b' := (Addr.mk.inj (Option.some.inj e)).1
          omega
  have Z1 := Lib.hid (hb.mono h3)
  have M1 : Hid (Mod (fun i => ¬ S i) w w1) := hm.mono fun i _ hi hs => H6.out i hi hs
  clear hb hv hm ha NP
  go_wp2_with fail
  refine bodyPost_end (results_none rfl _ _ _) rfl ⟨rfl, W1.out, Z1.out, M1.out⟩
theorem mlen_p (B g : Nat) (ks : List Nat) (w : World) (h : WordAt w B g ks) : Calls Try.prog 27 #[.pointer (some ⟨g, 0, none⟩)] w fun e w' => e = .returned (.int .i64 (ks.length : Int)) ∧ w = w' := by
  obtain ⟨h1, h2, gv, A, h3, h4, h5⟩ := h
  have LP := Lib.hid (blen_p gv _ _ A w h5)
  have hl := h5.2.1
  have c0 : w.cell? ⟨g, 0, none⟩ = some (.pointer (some ⟨gv, 0, none⟩)) := h4.cell 0
  obtain ⟨n2, hn2⟩ : ∃ n2, n2 = 2 * ks.length := ⟨_, rfl⟩
  rw [← hn2] at LP
  have e1 : (n2 : Int) / 2 = (ks.length : Int) := by omega
  have e2 : (n2 : Int).tdiv 2 = (ks.length : Int) := by rw [Int.tdiv_eq_ediv_of_nonneg (by omega)]; exact e1
  have ew : IntKind.i64.wrap (ks.length : Int) = (ks.length : Int) := by simp [IntKind.wrap, IntKind.signed, IntKind.bits]; omega
  clear hn2 h4 h5 hl
  go_enter Try.func27, Try.ntmps27
  go_wp2_with fail
  refine LP.out.mono ?_
  rintro e w1 ⟨rfl, rfl⟩
  go_wp2_with fail
  go_ret
  exact ⟨by first | rfl | simp [ew], rfl⟩
theorem mlen_nil (w : World) : Calls Try.prog 27 #[.pointer none] w fun e w' => e = .returned (.int .i64 0) ∧ w = w' := by
  go_enter Try.func27, Try.ntmps27
  go_wp2_with fail
  go_ret
  exact ⟨rfl, rfl⟩
end Go.Proofs.Ythkocodajjapmaa
