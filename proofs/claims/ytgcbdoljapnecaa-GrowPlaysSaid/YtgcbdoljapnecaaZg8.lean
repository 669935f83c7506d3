/- Nodes in memory; join, at, leaf. has, isFar, bitOn, blocksFor, nodesFor. treeOf. treeOf, walked. What a store elsewhere leaves of an index. Parentheses in memory; Len, Open, change, Excess. measure: a block's node. build: the directory of parentheses is made. build: sync.Once calls it, the first time; ready. scan: on from a place, to the edge of its block at most. find: the first block from one on, on a way, where the excess is low. find, back: the last block up to one where the excess is low. leap, seek. Mate, Round. Letters of two sorts and what the directories say of them. The index of a word: what lies in memory, and what a question leaves of it. The library's Equal of words. The library's Clone and Equal of bytes. At, Text and Bytes of a vector. Words of four letters as numbers: mathematics. At of a word. Add of a word; the word of a walk. The index of a word: Len, At, Mate, Owner. Owner of a mixed index. New: an index of the bits that a vector has now. New: the parentheses that bits are. made: of bits; the document's example. The document's Good; ParenIs. -/
import Derived.Test.YtgcbdoljapnecaaZg1
import Derived.Test.YtgcbdoljapnecaaZg7
import Derived.Laws.CopyOwn
import Derived.Test.YtgcbdoljapnecaaZg6
import Derived.Deep.RegionHeld3
import Derived.Laws.BytesArg
import Derived.ArgAppend
import Derived.RegionTactic
import Derived.Deep.QuietTactic
import Derived.BigQuiet
import Derived.Test.YtgcbdoljapnecaaZg5
import Derived.Deep.RegionWith
namespace Go.Proofs.Ytgcbdoljapnecaa
open Go.RowKit
set_option linter.unusedVariables false
set_option maxRecDepth 20000
def upd (T : Nat → Int × Int) (k : Nat) (p : Int × Int) : Nat → Int × Int := fun j => if j = k then p else T j
/-- m nodes, from one on, read at b. -/
def RdT (w : World) (b : Nat) (T : Nat → Int × Int) (m : Nat) : Prop := ∀ k, k < m → w.cell? ⟨b, k * 2, none⟩ = some (.int .i32 (T k).1) ∧ w.cell? ⟨b, k * 2 + 1, none⟩ = some (.int .i32 (T k).2)
theorem RdT.below {w w' : World} {b m : Nat} {T : Nat → Int × Int} (h : RdT w b T m) (hb : b < w.heap.size) (m' : Below w.heap.size w w') : RdT w' b T m := fun k hk =>
  ⟨(m'.cell (p := ⟨b, k * 2, none⟩) hb).trans (h k hk).1, (m'.cell (p := ⟨b, k * 2 + 1, none⟩) hb).trans (h k hk).2⟩
section
variable (w : World)
end
end Go.Proofs.Ytgcbdoljapnecaa
namespace Go.Proofs.Ytgcbdoljapnecaa
open Go.RowKit
set_option linter.unusedVariables false
set_option maxRecDepth 20000
section
variable (w : World)
/-- H: so many times two are enough for b leaves, and no less. -/
def Lvs (b H : Nat) : Prop := b ≤ 2 ^ H ∧ ∀ h, h < H → 2 ^ h < b
theorem Lvs.uniq {b H K : Nat} (h : Lvs b H) (k : Lvs b K) : H = K := by
  rcases Nat.lt_trichotomy H K with x | x | x
  · have := k.2 H x; have := h.1; omega
  · exact x
  · have := h.2 K x; have := k.1; omega
theorem Lvs.le {b H : Nat} (h : Lvs b H) (hb : b ≤ 4096) : 2 ^ H ≤ 8192 := by
  cases H with
  | zero => decide
  | succ H => have := h.2 H (by omega); rw [Nat.pow_succ]; omega
end
end Go.Proofs.Ytgcbdoljapnecaa
namespace Go.Proofs.Ytgcbdoljapnecaa
open Go.RowKit
set_option linter.unusedVariables false
set_option maxRecDepth 20000
end Go.Proofs.Ytgcbdoljapnecaa
namespace Go.Proofs.Ytgcbdoljapnecaa
open Go.RowKit
set_option linter.unusedVariables false
set_option maxRecDepth 20000
/-- The leaves, as far as i. -/
def leavesTo (E : Nat → Int) (n K i : Nat) (U : Nat → Int × Int) : Prop := ∀ j, j < i → U (K + j) = nd E n j (j + 1)
/-- The nodes above x. -/
def nodesFrom (E : Nat → Int) (n H x : Nat) (U : Nat → Int × Int) : Prop := ∀ y h a, x < y → h ≤ H → y * 2 ^ h = 2 ^ H + a → a < 2 ^ H → U (y - 1) = nd E n a (a + 2 ^ h)
theorem nodesFrom.leaves {E : Nat → Int} {n K H : Nat} {U : Nat → Int × Int} (hK : K + 1 = 2 ^ H) (h : leavesTo E n K (K + 1) U) : nodesFrom E n H K U := fun y k a hy hk he ha => by
  cases k with
  | zero =>
    rw [Nat.pow_zero, Nat.mul_one] at he
    have := h a (by omega)
    rw [show y - 1 = K + a by omega, this]
  | succ k =>
    have := node_kids hk he ha
    have hp : 0 < 2 ^ k := Nat.two_pow_pos k
    have := node_end hk he ha
    exfalso
    have h1 : 2 ^ H ≤ y := by omega
    have h2 := Nat.mul_le_mul h1 (show 2 ≤ 2 ^ (k + 1) by rw [pow_up]; omega)
    omega
theorem nodesFrom.next {E : Nat → Int} {n H x : Nat} {U : Nat → Int × Int} (h : nodesFrom E n H x U) (hx1 : 1 ≤ x) (hx : x < 2 ^ H) : nodesFrom E n H (x - 1) (upd U (x - 1) (joinN (U (2 * x - 1)) (U (2 * x + 1 - 1)))) := fun y k a hy hk he ha => by
  by_cases e : y = x
  · subst e
    cases k with
    | zero => rw [Nat.pow_zero, Nat.mul_one] at he; omega
    | succ k =>
      obtain ⟨k1, k2, k3⟩ := node_kids hk he ha
      have h1 := h (2 * y) k a (by omega) (by omega) k1 ha
      have h2 := h (2 * y + 1) k (a + 2 ^ k) (by omega) (by omega) k2 k3
      unfold upd
      rw [if_pos rfl, h1, h2, nd_join E n _ _ _ (Nat.le_add_right _ _) (Nat.le_add_right _ _), pow_up, show a + 2 ^ k + 2 ^ k = a + 2 * 2 ^ k by omega]
  · unfold upd
    rw [if_neg (by omega)]
    exact h y k a (by omega) hk he ha
end Go.Proofs.Ytgcbdoljapnecaa
namespace Go.Proofs.Ytgcbdoljapnecaa
open Go.RowKit
set_option linter.unusedVariables false
end Go.Proofs.Ytgcbdoljapnecaa
namespace Go.Proofs.Ytgcbdoljapnecaa
open Go.RowKit
set_option linter.unusedVariables false
set_option maxRecDepth 20000
/-- How many more open than close ahead of the place i. -/
def exc (V i : Nat) : Int := 2 * ((pop V i : Nat) : Int) - (i : Int)
theorem exc_next (V i : Nat) : exc V (i + 1) = exc V i + (2 * ((V / 2 ^ i % 2 : Nat) : Int) - 1) := by
  unfold exc
  have h : pop V (i + 1) = pop V i + V / 2 ^ i % 2 := by
    rw [pop_add]
    congr 1
    simp [pop, numL, List.range_succ]
  omega
theorem exc_Exc (V : Nat) : Exc (exc V) := ⟨by unfold exc; simp [pop, numL], fun i => by have := exc_next V i; omega⟩
section
variable (p g V n q : Nat) (d : Bool) (w : World)
end
end Go.Proofs.Ytgcbdoljapnecaa
namespace Go.Proofs.Ytgcbdoljapnecaa
open Go.RowKit
set_option linter.unusedVariables false
set_option maxRecDepth 20000
end Go.Proofs.Ytgcbdoljapnecaa
namespace Go.Proofs.Ytgcbdoljapnecaa
open Go.RowKit
set_option linter.unusedVariables false
set_option maxRecDepth 20000
end Go.Proofs.Ytgcbdoljapnecaa
namespace Go.Proofs.Ytgcbdoljapnecaa
open Go.RowKit
set_option linter.unusedVariables false
set_option maxRecDepth 100000
end Go.Proofs.Ytgcbdoljapnecaa
namespace Go.Proofs.Ytgcbdoljapnecaa
open Go.RowKit
set_option linter.unusedVariables false
set_option maxRecDepth 20000
section
variable (p g V n q : Nat) (d : Bool) (w : World)
end
end Go.Proofs.Ytgcbdoljapnecaa
namespace Go.Proofs.Ytgcbdoljapnecaa
open Go.RowKit
set_option linter.unusedVariables false
set_option maxRecDepth 20000
/-- The tree of n bits, read at S. -/
structure TrAt (w : World) (E : Nat → Int) (n S H M : Nat) (T : Nat → Int × Int) : Prop where
  rd : RdT w S T M
  ok : TreeOK E n H (fun x => T (x - 1))
  lt : S < w.heap.size
  hM : M + 1 = 2 * 2 ^ H
  lv : Lvs ((n + 511) / 512) H
theorem TrAt.below {w w' : World} {E : Nat → Int} {n S H M : Nat} {T : Nat → Int × Int} (h : TrAt w E n S H M T) (m : Below w.heap.size w w') : TrAt w' E n S H M T :=
  ⟨h.rd.below h.lt m, h.ok, by have := m.size; have := h.lt; omega, h.hM, h.lv⟩
/-- x hangs so high above the leaves, over those from a on. -/
def Hang (H x h a : Nat) : Prop := x * 2 ^ h = 2 ^ H + a ∧ h ≤ H ∧ a < 2 ^ H
theorem Has.sub {E : Nat → Int} {n a b c d : Nat} {m : Int} (h : Has E n b c m) (h1 : a ≤ b) (h2 : c ≤ d) : Has E n a d m := by
  obtain ⟨i, i1, i2, i3⟩ := h
  exact ⟨i, by omega, by omega, i3⟩
theorem Has.split {E : Nat → Int} {n a b c : Nat} {m : Int} (h : Has E n a c m) (hl : ¬ Has E n a b m) (hbc : b ≤ c) : Has E n b c m ∧ 512 * b < n := by
  obtain ⟨i, i1, i2, i3⟩ := h
  by_cases hi : i ≤ min (512 * b) n
  · exact absurd ⟨i, i1, hi, i3⟩ hl
  · exact ⟨⟨i, by omega, i2, i3⟩, by omega⟩
theorem Has.splitL {E : Nat → Int} {n a b c : Nat} {m : Int} (h : Has E n a c m) (hr : ¬ Has E n b c m) (hab : a ≤ b) : Has E n a b m := by
  obtain ⟨i, i1, i2, i3⟩ := h
  by_cases hi : 512 * b ≤ i
  · exact absurd ⟨i, hi, i2, i3⟩ hr
  · exact ⟨i, i1, by omega, i3⟩
/-- No such place in any of the blocks from j on, ahead of a. -/
def NoHas (E : Nat → Int) (n j a : Nat) (m : Int) : Prop := ∀ k, j ≤ k → k < a → ¬ Has E n k (k + 1) m
theorem NoHas.on {E : Nat → Int} {n j a b : Nat} {m : Int} (h : NoHas E n j a m) (k : ¬ Has E n a b m) : NoHas E n j b m := fun i h1 h2 hi => by
  rcases Nat.lt_or_ge i a with g | g
  · exact h i h1 g hi
  · exact k (hi.sub g (by omega))
theorem NoHas.back {E : Nat → Int} {n a b c : Nat} {m : Int} (h : NoHas E n b c m) (k : ¬ Has E n a b m) : NoHas E n a c m := fun i h1 h2 hi => by
  rcases Nat.lt_or_ge i b with g | g
  · exact k (hi.sub h1 (by omega))
  · exact h i g h2 hi
end Go.Proofs.Ytgcbdoljapnecaa
namespace Go.Proofs.Ytgcbdoljapnecaa
open Go.RowKit
set_option linter.unusedVariables false
set_option maxRecDepth 20000
theorem Hang.left {H x k a : Nat} (h : Hang H x k a) (h0 : 0 < a) : ∃ a', a' + 2 ^ k = a ∧ Hang H (x - 1) k a' := by
  obtain ⟨h1, h2, h3⟩ := h
  have hp : 0 < 2 ^ k := Nat.two_pow_pos k
  have e1 : 2 ^ H = 2 ^ (H - k) * 2 ^ k := by rw [← Nat.pow_add, show H - k + k = H by omega]
  have l1 : 2 ^ (H - k) < x := by
    rcases Nat.lt_or_ge (2 ^ (H - k)) x with g | g
    · exact g
    · have := Nat.mul_le_mul_right (2 ^ k) g; omega
  have l2 := Nat.mul_le_mul_right (2 ^ k) (show 2 ^ (H - k) + 1 ≤ x from l1)
  rw [Nat.add_mul, Nat.one_mul, ← e1] at l2
  have e2 : (x - 1) * 2 ^ k = 2 ^ H + a - 2 ^ k := by rw [Nat.sub_mul, Nat.one_mul, h1]
  exact ⟨a - 2 ^ k, by omega, by rw [e2]; omega, h2, by omega⟩
end Go.Proofs.Ytgcbdoljapnecaa
namespace Go.Proofs.Ytgcbdoljapnecaa
open Go.RowKit
set_option linter.unusedVariables false
set_option maxRecDepth 20000
section
variable (p g V n q : Nat) (w : World)
end
end Go.Proofs.Ytgcbdoljapnecaa
namespace Go.Proofs.Ytgcbdoljapnecaa
open Go.RowKit
set_option linter.unusedVariables false
set_option maxRecDepth 20000
/-- What may turn: the index, and the parentheses. -/
def Two2 (g p : Nat) (i : Nat) : Prop := i = g ∨ i = p
theorem Mod.two {w w1 w2 : World} {g p : Nat} (h : Mod (Two2 g p) w w1) (k : Mod (Two2 g p) w1 w2) : Mod (Two2 g p) w w2 := h.trans k fun _ _ h => h
section
variable (p g V n q : Nat) (d : Bool) (w : World)
end
end Go.Proofs.Ytgcbdoljapnecaa
namespace Go.Proofs.Ytgcbdoljapnecaa
set_option linter.unusedVariables false

end Go.Proofs.Ytgcbdoljapnecaa
namespace Go.Proofs.Ytgcbdoljapnecaa
set_option maxRecDepth 20000
open Go.RowKit
set_option linter.unusedVariables false

section
variable {w0 w w' : World} {m gx p0 g0 p1 g1 q : Nat} {ks : List Nat}
end
end Go.Proofs.Ytgcbdoljapnecaa
namespace Go.Proofs.Ytgcbdoljapnecaa
open Go.RowKit
set_option linter.unusedVariables false
end Go.Proofs.Ytgcbdoljapnecaa
namespace Go.Proofs.Ytgcbdoljapnecaa
open Go.RowKit
set_option linter.unusedVariables false
/-- An answer in new memory that reads as a list. -/
def NewU8 (w : World) (bs : List Nat) (e : Ending) (w' : World) : Prop :=
  ∃ A c, e = .returned (.slice A bs.length c) ∧ bs.length ≤ c ∧ c ≤ maxLen ∧ w'.ownsRow w.heap.size 5 1 (.slice A bs.length c) bs.length (U8 bs) ∧ Below w.heap.size w w'
theorem NewU8.mk {w w' : World} {bs : List Nat} {e : Ending} {v : Value} (he : e = .returned v) (h : w'.ownsRow w.heap.size 5 1 v bs.length (U8 bs)) (hb : Below w.heap.size w w') : NewU8 w bs e w' := by
  obtain ⟨A, c, rfl, h1, h2⟩ := own_form h
  exact ⟨A, c, he, h1, h2, h, hb⟩

end Go.Proofs.Ytgcbdoljapnecaa
namespace Go.Proofs.Ytgcbdoljapnecaa
open Go.RowKit
set_option linter.unusedVariables false

end Go.Proofs.Ytgcbdoljapnecaa
namespace Go.Proofs.Ytgcbdoljapnecaa
set_option maxRecDepth 20000
open Go.RowKit
set_option linter.unusedVariables false
end Go.Proofs.Ytgcbdoljapnecaa
namespace Go.Proofs.Ytgcbdoljapnecaa
set_option maxRecDepth 20000
open Go.RowKit
set_option linter.unusedVariables false
end Go.Proofs.Ytgcbdoljapnecaa
namespace Go.Proofs.Ytgcbdoljapnecaa
set_option maxRecDepth 20000
open Go.RowKit
set_option linter.unusedVariables false
def Kd (x : Int) : Prop := 0 ≤ x ∧ x < 4
instance (x : Int) : Decidable (Kd x) := by unfold Kd; exact inferInstance
def toN (z : List Int) : List Nat := z.map Int.toNat
end Go.Proofs.Ytgcbdoljapnecaa
namespace Go.Proofs.Ytgcbdoljapnecaa
set_option maxRecDepth 20000
open Go.RowKit
set_option linter.unusedVariables false
section
variable {w0 w : World} {m gx p0 g0 p1 g1 q : Nat} {ks : List Nat}
/-- Whose mate the i-th letter is. -/
def MateAt (ks : List Nat) (i p : Nat) : Prop := p < ks.length ∧ ks.getD p 0 / 2 = ks.getD i 0 / 2 ∧ MateOK (exc (val (ownL (ks.getD i 0 / 2) ks))) (ah (ks.getD i 0 / 2) ks i) ((ah (ks.getD i 0 / 2) ks p : Nat) : Int)
end
end Go.Proofs.Ytgcbdoljapnecaa
namespace Go.Proofs.Ytgcbdoljapnecaa
set_option maxRecDepth 20000
open Go.RowKit
set_option linter.unusedVariables false
/-- The round letter that opens the pair around the i-th letter, among the round ones alone; -1: none. -/
def OwnZ (ks : List Nat) (i : Nat) (z : Int) : Prop :=
  if ks.getD i 0 = 1 then MateOK (exc (val (ownL 0 ks))) (ah 0 ks i) z
  else if ah 0 ks i = 0 then z = -1
  else if (ownL 0 ks).getD (ah 0 ks i - 1) 0 = 1 then z = ((ah 0 ks i - 1 : Nat) : Int)
  else RoundOK (exc (val (ownL 0 ks))) (ah 0 ks i - 1) z
def OwnAt (ks : List Nat) (i : Nat) (r : Int) : Prop := ∃ z, OwnZ ks i z ∧ ((z = -1 ∧ r = -1) ∨ ∃ p : Nat, r = (p : Int) ∧ p < ks.length ∧ ks.getD p 0 / 2 = 0 ∧ z = ((ah 0 ks p : Nat) : Int))
section
variable {w0 w : World} {m gx p0 g0 p1 g1 q : Nat} {ks : List Nat}
end
end Go.Proofs.Ytgcbdoljapnecaa
namespace Go.Proofs.Ytgcbdoljapnecaa
open Go.RowKit
set_option linter.unusedVariables false

end Go.Proofs.Ytgcbdoljapnecaa
namespace Go.Proofs.Ytgcbdoljapnecaa
open Go.RowKit
set_option linter.unusedVariables false
set_option maxRecDepth 20000
end Go.Proofs.Ytgcbdoljapnecaa
namespace Go.Proofs.Ytgcbdoljapnecaa
open Go.RowKit
set_option linter.unusedVariables false
set_option maxRecDepth 20000
end Go.Proofs.Ytgcbdoljapnecaa
namespace Go.Proofs.Ytgcbdoljapnecaa
open Go.RowKit
set_option linter.unusedVariables false
set_option maxRecDepth 20000
theorem exc_list {l : List Nat} (hb : Bin l) (i : Nat) : exc (val l) (i + 1) = exc (val l) i + (2 * ((l.getD i 0 : Nat) : Int) - 1) := by
  rw [exc_next, val_bit hb]
def GoodP (w : World) (l : List Nat) (m : Nat) (e : Ending) (w' : World) : Prop := w = w' ∧ ∃ r : Bool, e = .returned (.bool r) ∧ (r = true ↔ Bal (exc (val l)) m)
theorem GoodP.no {w : World} {l : List Nat} {m : Nat} {e : Ending} (he : e = .returned (.bool false)) (h : ¬ Bal (exc (val l)) m) : GoodP w l m e w := ⟨rfl, false, he, by simp [h]⟩
end Go.Proofs.Ytgcbdoljapnecaa
