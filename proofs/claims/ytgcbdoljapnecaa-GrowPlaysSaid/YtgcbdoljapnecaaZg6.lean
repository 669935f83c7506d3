/- Letters of two sorts, as plain lists: those of a sort, how many are ahead. How many ones a number has, and the count by halves that the library makes; no program in sight. The small calls of bits. A vector of bits as it lies in memory. append: what the old row holds behind it. Num: bits put behind. Num: the bits go over the last word's end. Num, whole; two vectors side by side; the library's Clone and Equal of words. Bytes. Same: two vectors, nil or not. Few, Add, of: bits out of bytes, and a vector of them. Add: bits put behind one by one; of: a vector of bits. Read, and what a reader answers. Ones: the library's count of one word, the vector's, the document's. An index of bits as it lies in memory; what it answers without its directory. sync.Once in one goroutine: its parts; Do, when it has been done. build: the directory is made. build: sync.Once calls it, the first time. -/
import Derived.Test.YtgcbdoljapnecaaZg5
import Derived.Test.YtgcbdoljapnecaaZg1
import Derived.Test.YtgcbdoljapnecaaProg
import Derived.WalkKit
import Derived.Laws.BitsAllLaws
import Derived.Deep.AppendLies
import Derived.BigRegion
import Derived.Deep.DeepMust
import Derived.Deep.RegionLaw
import Derived.Laws.BytesArg
import Derived.ArgAppend
import Derived.RegionTactic
import Derived.Deep.QuietTactic
import Derived.BigQuiet
import Derived.Deep.RegionWith
import Derived.Laws.Bits128
import Derived.Laws.LoneSync
import Derived.Laws.Pointers
import Derived.Defers
import Derived.RegionCalls
import Derived.ChangeAlike
import Derived.Deep.DeepCutAuto
namespace Go.Proofs.Ytgcbdoljapnecaa
set_option linter.unusedVariables false

/-- Letters. -/
def Kds (ks : List Nat) : Prop := ∀ k ∈ ks, k < 4
theorem Kds.take {ks : List Nat} (h : Kds ks) (i : Nat) : Kds (ks.take i) := fun k hk => h k (List.mem_of_mem_take hk)
theorem Kds.getD {ks : List Nat} (h : Kds ks) (i : Nat) : ks.getD i 0 < 4 := by
  by_cases hi : i < ks.length
  · rw [List.getD_eq_getElem?_getD, List.getElem?_eq_getElem hi]; exact h _ (List.getElem_mem hi)
  · rw [List.getD_eq_getElem?_getD, List.getElem?_eq_none (by omega)]; decide
theorem Kds.append {ks ls : List Nat} (h : Kds ks) (k : Kds ls) : Kds (ks ++ ls) := fun x hx => by
  rcases List.mem_append.1 hx with h1 | h1
  · exact h x h1
  · exact k x h1
/-- Those of a sort: does each open? -/
def ownL (s : Nat) (ks : List Nat) : List Nat := (ks.filter fun k => decide (k / 2 = s)).map fun k => 1 - k % 2
theorem ownL_bin (s : Nat) (ks : List Nat) : Bin (ownL s ks) := fun b hb => by
  obtain ⟨k, _, rfl⟩ := List.mem_map.1 hb
  omega
theorem ownL_app (s : Nat) (ks ls : List Nat) : ownL s (ks ++ ls) = ownL s ks ++ ownL s ls := by simp [ownL]
theorem ownL_one (s k : Nat) : ownL s [k] = if k / 2 = s then [1 - k % 2] else [] := by
  unfold ownL
  by_cases h : k / 2 = s
  · simp [h]
  · simp [h]
theorem take_snoc (ks : List Nat) (i : Nat) (h : i < ks.length) : ks.take (i + 1) = ks.take i ++ [ks.getD i 0] := by
  rw [← List.take_append_getElem h, List.getD_eq_getElem?_getD, List.getElem?_eq_getElem h]; rfl
/-- How many of a sort are ahead. -/
def ah (s : Nat) (ks : List Nat) (i : Nat) : Nat := (ownL s (ks.take i)).length
theorem ah_zero (s : Nat) (ks : List Nat) : ah s ks 0 = 0 := by simp [ah, ownL]
theorem ah_next (s : Nat) (ks : List Nat) (i : Nat) (h : i < ks.length) : ah s ks (i + 1) = ah s ks i + if ks.getD i 0 / 2 = s then 1 else 0 := by
  unfold ah
  rw [take_snoc ks i h, ownL_app, ownL_one, List.length_append]
  split <;> simp
theorem ah_le (s : Nat) (ks : List Nat) : ∀ i, i ≤ ks.length → ah s ks i ≤ i
  | 0, _ => by rw [ah_zero]; exact Nat.le_refl _
  | i + 1, h => by
    have := ah_le s ks i (by omega)
    rw [ah_next s ks i (by omega)]
    split <;> omega
theorem ah_mono (s : Nat) (ks : List Nat) (i : Nat) : ∀ j, i + j ≤ ks.length → ah s ks i ≤ ah s ks (i + j)
  | 0, _ => Nat.le_refl _
  | j + 1, h => by
    have := ah_mono s ks i j (by omega)
    rw [← Nat.add_assoc, ah_next s ks (i + j) (by omega)]
    split <;> omega
theorem ah_all (s : Nat) (ks : List Nat) : ah s ks ks.length = (ownL s ks).length := by unfold ah; rw [List.take_length]
theorem ah_end (s : Nat) (ks : List Nat) (i : Nat) (h : i ≤ ks.length) : ah s ks i ≤ (ownL s ks).length := by
  rw [← ah_all s ks]
  have := ah_mono s ks i (ks.length - i) (by omega)
  rwa [show i + (ks.length - i) = ks.length by omega] at this
theorem ah_lt (s : Nat) (ks : List Nat) (i : Nat) (h : i < ks.length) (hs : ks.getD i 0 / 2 = s) : ah s ks i < (ownL s ks).length := by
  have := ah_end s ks (i + 1) (by omega)
  rw [ah_next s ks i h, if_pos hs] at this
  omega
theorem ownL_take (s : Nat) (ks : List Nat) (i : Nat) : ownL s (ks.take i) = (ownL s ks).take (ah s ks i) := by
  have h : ownL s ks = ownL s (ks.take i) ++ ownL s (ks.drop i) := by rw [← ownL_app, List.take_append_drop]
  rw [h]; unfold ah; simp
/-- The letter itself. -/
theorem ownL_get (s : Nat) (ks : List Nat) (i : Nat) (h : i < ks.length) (hs : ks.getD i 0 / 2 = s) : (ownL s ks).getD (ah s ks i) 0 = 1 - ks.getD i 0 % 2 := by
  have h1 := ownL_take s ks (i + 1)
  rw [take_snoc ks i h, ownL_app, ownL_one, if_pos hs, ah_next s ks i h, if_pos hs] at h1
  have hlt := ah_lt s ks i h hs
  rw [take_snoc (ownL s ks) (ah s ks i) hlt, ownL_take] at h1
  have h2 : [1 - ks.getD i 0 % 2] = [(ownL s ks).getD (ah s ks i) 0] := List.append_inj_right h1 rfl
  exact (List.cons.inj h2).1.symm
/-- Where the y-th one of a sort stands. -/
theorem ah_find (s : Nat) (ks : List Nat) (y : Nat) (hy : y < (ownL s ks).length) : ∃ i, i < ks.length ∧ ks.getD i 0 / 2 = s ∧ ah s ks i = y := by
  suffices ∀ n, n ≤ ks.length → y < ah s ks n → ∃ i, i < n ∧ ks.getD i 0 / 2 = s ∧ ah s ks i = y by
    obtain ⟨i, h1, h2, h3⟩ := this ks.length (Nat.le_refl _) (by rw [ah_all]; exact hy)
    exact ⟨i, h1, h2, h3⟩
  intro n
  induction n with
  | zero => intro _ h; rw [ah_zero] at h; omega
  | succ n ih =>
    intro hn h
    by_cases h2 : y < ah s ks n
    · obtain ⟨i, a, b, c⟩ := ih (by omega) h2
      exact ⟨i, by omega, b, c⟩
    · rw [ah_next s ks n (by omega)] at h
      by_cases h3 : ks.getD n 0 / 2 = s
      · rw [if_pos h3] at h
        exact ⟨n, by omega, h3, by omega⟩
      · rw [if_neg h3] at h; omega
theorem ah_uniq (s : Nat) (ks : List Nat) (i j : Nat) (hi : i < ks.length) (hj : j < ks.length) (h1 : ks.getD i 0 / 2 = s) (h2 : ks.getD j 0 / 2 = s) (h : ah s ks i = ah s ks j) : i = j := by
  rcases Nat.lt_trichotomy i j with hlt | he | hgt
  · have a := ah_next s ks i hi
    rw [if_pos h1] at a
    have b := ah_mono s ks (i + 1) (j - (i + 1)) (by omega)
    rw [show i + 1 + (j - (i + 1)) = j by omega] at b
    omega
  · exact he
  · have a := ah_next s ks j hj
    rw [if_pos h2] at a
    have b := ah_mono s ks (j + 1) (i - (j + 1)) (by omega)
    rw [show j + 1 + (i - (j + 1)) = i by omega] at b
    omega
end Go.Proofs.Ytgcbdoljapnecaa
namespace Go.Proofs.Ytgcbdoljapnecaa
set_option linter.unusedVariables false

/-- How many of the k lowest bits are ones. -/
def pop (x k : Nat) : Nat := (numL x k).sum
theorem numL_add (x a b : Nat) : numL x (a + b) = numL x a ++ numL (x / 2 ^ a) b := by
  simp only [numL, List.range_add, List.map_append, List.map_map]
  congr 1
  refine List.map_congr_left fun i _ => ?_
  simp only [Function.comp]
  rw [Nat.pow_add, Nat.div_div_eq_div_mul]
theorem pop_add (x a b : Nat) : pop x (a + b) = pop x a + pop (x / 2 ^ a) b := by
  unfold pop
  rw [numL_add, List.sum_append]
/-- Bytes as a number, the lowest first; and a mask. -/
def nb : List Nat → Nat
  | [] => 0
  | b :: l => nb l * 256 + b
end Go.Proofs.Ytgcbdoljapnecaa
namespace Go.Proofs.Ytgcbdoljapnecaa
open Go.RowKit
set_option linter.unusedVariables false

end Go.Proofs.Ytgcbdoljapnecaa
namespace Go.Proofs.Ytgcbdoljapnecaa
open Go.RowKit
set_option linter.unusedVariables false

def U64 (z : List Nat) : List Value := z.map fun (x : Nat) => Value.int .u64 (x : Int)
theorem U64_len (z : List Nat) : (U64 z).length = z.length := by simp [U64]
theorem U64_get (z : List Nat) (k : Nat) (hk : k < z.length) : (U64 z)[k]? = some (.int .u64 ((z.getD k 0 : Nat) : Int)) := by
  simp [U64, List.getD_eq_getElem?_getD, List.getElem?_eq_getElem hk]
/-- The blocks of a vector. -/
def foot (g : Nat) (A : Option Addr) (i : Nat) : Prop := i = g ∨ ∃ b, A = some ⟨b, 0, none⟩ ∧ i = b
end Go.Proofs.Ytgcbdoljapnecaa
namespace Go.Proofs.Ytgcbdoljapnecaa
open Go.RowKit
set_option linter.unusedVariables false
section
variable {P : Program} (w : World)
end
end Go.Proofs.Ytgcbdoljapnecaa
namespace Go.Proofs.Ytgcbdoljapnecaa
open Go.RowKit
set_option linter.unusedVariables false

end Go.Proofs.Ytgcbdoljapnecaa
namespace Go.Proofs.Ytgcbdoljapnecaa
open Go.RowKit
set_option linter.unusedVariables false

end Go.Proofs.Ytgcbdoljapnecaa
namespace Go.Proofs.Ytgcbdoljapnecaa
open Go.RowKit
set_option linter.unusedVariables false

/-- Two vectors share no block. -/
def Sep (g : Nat) (A : Option Addr) (h : Nat) (C : Option Addr) : Prop := ∀ i, foot g A i → ¬ foot h C i
theorem Sep.symm {g h : Nat} {A C : Option Addr} (s : Sep g A h C) : Sep h C g A := fun i hi hj => s i hj hi
theorem Rd.u64 {w : World} {B n : Nat} {A : Option Addr} {z : List Nat} (h : Rd w B A n (U64 z)) (h0 : 0 < n) :
    ∃ b o, A = some ⟨b, o, none⟩ ∧ b < B ∧ ∀ k, k < n → w.cell? ⟨b, o + k, none⟩ = some (.int .u64 ((z.getD k 0 : Nat) : Int)) := by
  obtain ⟨b, o, e, hb, hc⟩ := h.at_ h0
  refine ⟨b, o, e, hb, fun k hk => ?_⟩
  have hl : z.length = n := by rw [← h.len, U64_len]
  rw [hc k (by rw [U64_len]; omega)]
  have := U64_get z k (by omega)
  rwa [List.getElem?_eq_getElem (by rw [U64_len]; omega)] at this

/-- What Clone answers: nil, or a new row. -/
def NewU64 (w : World) (z : List Nat) (e : Ending) (w' : World) : Prop :=
  ∃ A c, e = .returned (.slice A z.length c) ∧ z.length ≤ c ∧ c ≤ maxLen ∧ w'.ownsRow w.heap.size 111 1 (.slice A z.length c) z.length (U64 z) ∧ Below w.heap.size w w'
theorem NewU64.mk {w w' : World} {z : List Nat} {e : Ending} {v : Value} (he : e = .returned v) (h : w'.ownsRow w.heap.size 111 1 v z.length (U64 z)) (hb : Below w.heap.size w w') : NewU64 w z e w' := by
  obtain ⟨A, c, rfl, h1, h2⟩ := own_form h
  exact ⟨A, c, he, h1, h2, h, hb⟩
end Go.Proofs.Ytgcbdoljapnecaa
namespace Go.Proofs.Ytgcbdoljapnecaa
open Go.RowKit
set_option linter.unusedVariables false
def U8 (l : List Nat) : List Value := l.map fun (b : Nat) => Value.int .u8 (b : Int)
theorem U8_len (l : List Nat) : (U8 l).length = l.length := by simp [U8]
theorem U8_get (l : List Nat) (j : Nat) (h : j < (U8 l).length) : (U8 l)[j] = .int .u8 ((l[j]'(by simpa [U8] using h) : Nat) : Int) := by simp [U8]
theorem Rd.u8 {w : World} {B n : Nat} {A : Option Addr} {bs : List Nat} (h : Rd w B A n (U8 bs)) (h0 : 0 < n) :
    ∃ b o, A = some ⟨b, o, none⟩ ∧ b < B ∧ ∀ k, k < n → w.cell? ⟨b, o + k, none⟩ = some (.int .u8 ((bs.getD k 0 : Nat) : Int)) := by
  obtain ⟨b, o, e, hb, hc⟩ := h.at_ h0
  refine ⟨b, o, e, hb, fun k hk => ?_⟩
  have hl : bs.length = n := by rw [← h.len, U8_len]
  rw [hc k (by rw [U8_len]; omega), U8_get]
  simp [List.getD_eq_getElem?_getD, List.getElem?_eq_getElem (show k < bs.length by omega)]
end Go.Proofs.Ytgcbdoljapnecaa
namespace Go.Proofs.Ytgcbdoljapnecaa
open Go.RowKit
set_option linter.unusedVariables false

end Go.Proofs.Ytgcbdoljapnecaa
namespace Go.Proofs.Ytgcbdoljapnecaa
open Go.RowKit
set_option linter.unusedVariables false

end Go.Proofs.Ytgcbdoljapnecaa
namespace Go.Proofs.Ytgcbdoljapnecaa
open Go.RowKit
set_option linter.unusedVariables false

end Go.Proofs.Ytgcbdoljapnecaa
namespace Go.Proofs.Ytgcbdoljapnecaa
open Go.RowKit
set_option linter.unusedVariables false

end Go.Proofs.Ytgcbdoljapnecaa
namespace Go.Proofs.Ytgcbdoljapnecaa
open Go.RowKit
set_option linter.unusedVariables false

end Go.Proofs.Ytgcbdoljapnecaa
namespace Go.Proofs.Ytgcbdoljapnecaa
open Go.RowKit
set_option linter.unusedVariables false

def U32 (z : List Nat) : List Value := z.map fun (x : Nat) => Value.int .u32 (x : Int)
/-- How many blocks n bits are. -/
def blk (n : Nat) : Nat := (n + 511) / 512
/-- How many ones are ahead of each of k blocks. -/
def aheadL (V k : Nat) : List Nat := (List.range k).map fun j => pop V (512 * j)
/-- Whether the directory is there, and what it is. -/
def DirAt (w : World) (g V n : Nat) (d : Bool) (H : Value) : Prop :=
  match d with
  | false => H = .slice none 0 0
  | true => ∃ S c, H = .slice S (blk n + 1) c ∧ w.ownsRow (g + 1) 108 1 (.slice S (blk n + 1) c) (blk n + 1) (U32 (aheadL V (blk n + 1)))
theorem DirAt.below {w w' : World} {g V n : Nat} {d : Bool} {H : Value} (h : DirAt w g V n d H) (m : Below w.heap.size w w') : DirAt w' g V n d H := by
  cases d with
  | false => exact h
  | true => obtain ⟨S, c, e, ho⟩ := h; exact ⟨S, c, e, own_below ho m⟩
/-! ### sync/atomic -/
/-! ### what the index answers without its directory -/
section
variable (g V n q : Nat) (d : Bool) (w : World)
end
end Go.Proofs.Ytgcbdoljapnecaa
namespace Go.Proofs.Ytgcbdoljapnecaa
open Go.RowKit
set_option linter.unusedVariables false

end Go.Proofs.Ytgcbdoljapnecaa
namespace Go.Proofs.Ytgcbdoljapnecaa
open Go.RowKit
set_option linter.unusedVariables false

end Go.Proofs.Ytgcbdoljapnecaa
namespace Go.Proofs.Ytgcbdoljapnecaa
open Go.RowKit
set_option linter.unusedVariables false

end Go.Proofs.Ytgcbdoljapnecaa
