/- Nodes in memory; join, at, leaf. has, isFar, bitOn, blocksFor, nodesFor. treeOf. treeOf, walked. What a store elsewhere leaves of an index. Parentheses in memory; Len, Open, change, Excess. measure: a block's node. build: the directory of parentheses is made. build: sync.Once calls it, the first time; ready. scan: on from a place, to the edge of its block at most. find: the first block from one on, on a way, where the excess is low. find, back: the last block up to one where the excess is low. leap, seek. Mate, Round. Letters of two sorts and what the directories say of them. The index of a word: what lies in memory, and what a question leaves of it. The library's Equal of words. The library's Clone and Equal of bytes. At, Text and Bytes of a vector. Words of four letters as numbers: mathematics. At of a word. Add of a word; the word of a walk. The index of a word: Len, At, Mate, Owner. Owner of a mixed index. New: an index of the bits that a vector has now. New: the parentheses that bits are. made: of bits; the document's example. The document's Good; ParenIs. -/
import Derived.Test.YthdmkcnclmgdlaaZg1
import Derived.Test.YthdmkcnclmgdlaaZg6
import Derived.Laws.CopyOwn
import Derived.Test.YthdmkcnclmgdlaaZg5
import Derived.Deep.RegionHeld3
import Derived.Laws.BytesArg
import Derived.ArgAppend
import Derived.RegionTactic
import Derived.Deep.QuietTactic
import Derived.BigQuiet
import Derived.Deep.RegionWith
namespace Go.Proofs.Ythdmkcnclmgdlaa
open Go.RowKit
set_option linter.unusedVariables false
set_option maxRecDepth 20000
def ndv (p : Int × Int) : Value := .agg #[.int .i32 p.1, .int .i32 p.2]
/-- m nodes in a row. -/
def ndArr (T : Nat → Int × Int) (m : Nat) : Array Value := ((List.range (2 * m)).map fun j => Value.int .i32 (if j % 2 = 0 then (T (j / 2)).1 else (T (j / 2)).2)).toArray
theorem ndArr_size (T : Nat → Int × Int) (m : Nat) : (ndArr T m).size = 2 * m := by simp [ndArr]
theorem ndArr_get (T : Nat → Int × Int) (m k : Nat) (h : k < m) : (ndArr T m)[k * 2]? = some (.int .i32 (T k).1) ∧ (ndArr T m)[k * 2 + 1]? = some (.int .i32 (T k).2) := by
  constructor
  · have e1 : k * 2 % 2 = 0 := by omega
    have e2 : k * 2 / 2 = k := by omega
    have hl : k * 2 < 2 * m := by omega
    simp [ndArr, hl]
  · have e1 : (k * 2 + 1) % 2 = 1 := by omega
    have e2 : (k * 2 + 1) / 2 = k := by omega
    have hl : k * 2 + 1 < 2 * m := by omega
    simp [ndArr, hl, e1, e2]
def upd (T : Nat → Int × Int) (k : Nat) (p : Int × Int) : Nat → Int × Int := fun j => if j = k then p else T j
theorem ndArr_set (T : Nat → Int × Int) (m k : Nat) (p : Int × Int) (h : k < m) : ((ndArr T m).setIfInBounds (k * 2) (.int .i32 p.1)).setIfInBounds (k * 2 + 1) (.int .i32 p.2) = ndArr (upd T k p) m := by
  apply Array.ext
  · simp [ndArr]
  · intro i h1 h2
    have hi : i < 2 * m := by simpa [ndArr] using h2
    have s1 : i < (ndArr T m).size := by rw [ndArr_size]; exact hi
    rw [Array.getElem_setIfInBounds (by simpa using s1), Array.getElem_setIfInBounds s1]
    by_cases e1 : k * 2 + 1 = i
    · subst e1
      simp [ndArr, upd, show (k * 2 + 1) % 2 = 1 by omega, show (k * 2 + 1) / 2 = k by omega]
    · rw [if_neg e1]
      by_cases e2 : k * 2 = i
      · subst e2
        simp [ndArr, upd, show (k * 2) / 2 = k by omega]
      · rw [if_neg e2]
        simp [ndArr, upd, show i / 2 ≠ k by omega]
theorem ndArr_congr {T U : Nat → Int × Int} {m : Nat} (h : ∀ k, k < m → T k = U k) : ndArr T m = ndArr U m := by
  unfold ndArr
  congr 1
  apply List.map_congr_left
  intro j hj
  have : j < 2 * m := by simpa using hj
  rw [h (j / 2) (by omega)]
/-- m nodes, from one on, read at b. -/
def RdT (w : World) (b : Nat) (T : Nat → Int × Int) (m : Nat) : Prop := ∀ k, k < m → w.cell? ⟨b, k * 2, none⟩ = some (.int .i32 (T k).1) ∧ w.cell? ⟨b, k * 2 + 1, none⟩ = some (.int .i32 (T k).2)
theorem RdT.below {w w' : World} {b m : Nat} {T : Nat → Int × Int} (h : RdT w b T m) (hb : b < w.heap.size) (m' : Below w.heap.size w w') : RdT w' b T m := fun k hk =>
  ⟨(m'.cell (p := ⟨b, k * 2, none⟩) hb).trans (h k hk).1, (m'.cell (p := ⟨b, k * 2 + 1, none⟩) hb).trans (h k hk).2⟩
section
variable (w : World)
theorem blk_new3 (w : World) (o1 o2 : Obj) (t : TypeId) (cs : Array Value) : Blk (((w.alloc o1).alloc o2).alloc (.cells cs t)) (w.heap.size + 1 + 1) t cs := by
  have := Blk.new ((w.alloc o1).alloc o2) t cs
  rwa [World.size_alloc, World.size_alloc] at this
/-- What a node's numbers may be. -/
structure Fits (a : Int × Int) : Prop where
  a1 : -2000000 ≤ a.1
  a2 : a.1 ≤ 2000000
  b1 : -2000000 ≤ a.2
  b2 : a.2 ≤ 2147483647
  real : a = nul ∨ a.2 ≤ 0
theorem nd_fits {E : Nat → Int} (h : Exc E) {n : Nat} (hn : n ≤ 1000000) (a b : Nat) : Fits (nd E n a b) := by
  obtain ⟨h1, h2, h3, h4⟩ := nd_bound h hn a b
  refine ⟨h1, h2, h3, h4, ?_⟩
  by_cases e : n ≤ 512 * a ∨ b ≤ a
  · exact .inl (nd_nul e)
  · exact .inr (nd_low (by omega) (by omega))
theorem nul_fits : Fits nul := ⟨by decide, by decide, by decide, by decide, .inl rfl⟩
theorem min_i32 (a b : Int) (W : World) : (Builtin.min_ #[21, 21] 21 #[.int .i32 a, .int .i32 b]).run Try.prog W = .ok (.int .i32 (min a b)) W := by
  rw [run_min_int2]
  have e : (if b < a then b else a) = min a b := by split <;> omega
  rw [e]
end
end Go.Proofs.Ythdmkcnclmgdlaa
namespace Go.Proofs.Ythdmkcnclmgdlaa
open Go.RowKit
set_option linter.unusedVariables false
set_option maxRecDepth 20000
section
variable (w : World)
/-- H: so many times two are enough for b leaves, and no less. -/
def Lvs (b H : Nat) : Prop := b ≤ 2 ^ H ∧ ∀ h, h < H → 2 ^ h < b
theorem Lvs.uniq {b H K : Nat} (h : Lvs b H) (k : Lvs b K) : H = K := by
  rcases Nat.lt_trichotomy H K with x | x | x
  · have := k.2 H x; have := h.1; omega
  · exact x
  · have := h.2 K x; have := k.1; omega
theorem Lvs.le {b H : Nat} (h : Lvs b H) (hb : b ≤ 4096) : 2 ^ H ≤ 8192 := by
  cases H with
  | zero => decide
  | succ H => have := h.2 H (by omega); rw [Nat.pow_succ]; omega
end
end Go.Proofs.Ythdmkcnclmgdlaa
namespace Go.Proofs.Ythdmkcnclmgdlaa
open Go.RowKit
set_option linter.unusedVariables false
set_option maxRecDepth 20000
theorem made_nodes (M : Nat) : madeCells #[.int .i32 0, .int .i32 0] (M * 2) = ndArr (fun _ => (0, 0)) M := by
  apply Array.ext
  · simp [madeCells, ndArr]; omega
  · intro i h1 h2
    have h : i % 2 = 0 ∨ i % 2 = 1 := by omega
    rcases h with h | h <;> simp [madeCells, ndArr, h]
theorem run_copy_rowN {P : Program} (w : World) (dT sT ty elem : TypeId) (g o dLen dCap : Nat) (a : Addr) (sLen sCap sz : Nat) (cur : Array Value) (t : TypeId) (cs : List Value)
    (hu : P.underlying dT = some (.slice elem)) (hs : (P.info? elem).map (·.size) = some sz)
    (hg : w.heap[g]? = some (.cells cur t (0, 0))) (hn : cs.length = Nat.min sLen dLen * sz)
    (hsrc : ∀ j v, cs[j]? = some v → w.cell? (a.add j) = some v) (hfit : o + cs.length ≤ cur.size) (h1 : ∀ v ∈ cs, v.oneCell' = true) :
    (Builtin.copy_ #[dT, sT] ty #[.slice (some ⟨g, o, none⟩) dLen dCap, .slice (some a) sLen sCap]).run P w =
      .ok (goInt (Nat.min sLen dLen)) (w.setRow g (cur.toList.take o ++ cs ++ cur.toList.drop (o + cs.length)).toArray) := by
  have hl := run_loadCells_list (P := P) w a cs hsrc
  have hst := run_storeCells_at P g o t cs 0 cur w hg (by simpa using hfit) h1
  cases hq : P.info? elem with
  | none => simp [hq] at hs
  | some i =>
    have hi : i.size = sz := by simpa [hq] using hs
    simp [Builtin.copy_, run_underlying hu, Builtin.lenOf, Builtin.firstCells, sizeOf, typeInfo, hq, hi, ← hn, hl, hst]
/-- Nodes laid over others, from the o-th on. -/
def laid (U T : Nat → Int × Int) (o B : Nat) : Nat → Int × Int := fun k => if k < o then U k else if k < o + B then T (k - o) else U k
theorem laid_arr (U T : Nat → Int × Int) (M o B : Nat) (h : o + B ≤ M) :
    ((ndArr U M).toList.take (o * 2) ++ (ndArr T B).toList ++ (ndArr U M).toList.drop (o * 2 + (ndArr T B).toList.length)).toArray = ndArr (laid U T o B) M := by
  have hl : (ndArr T B).toList.length = 2 * B := by simp [ndArr]
  rw [hl]
  apply Array.ext'
  simp only []
  apply List.ext_getElem?
  intro i
  have hU : ∀ (X : Nat → Int × Int) (m i : Nat), (ndArr X m).toList[i]? = if i < 2 * m then some (Value.int .i32 (if i % 2 = 0 then (X (i / 2)).1 else (X (i / 2)).2)) else none := by
    intro X m i
    by_cases hi : i < 2 * m
    · rw [if_pos hi]; simp [ndArr, hi]
    · rw [if_neg hi]; simp [ndArr, Nat.le_of_not_lt hi]
  have e1 : ((ndArr U M).toList.take (o * 2)).length = o * 2 := by rw [List.length_take, Array.length_toList, ndArr_size]; omega
  rw [hU, List.append_assoc]
  by_cases h1 : i < o * 2
  · rw [List.getElem?_append_left (by rw [e1]; exact h1), List.getElem?_take, if_pos h1, hU, if_pos (show i < 2 * M by omega), if_pos (show i < 2 * M by omega)]
    have : i / 2 < o := by omega
    simp [laid, this]
  · rw [List.getElem?_append_right (by rw [e1]; omega), e1]
    by_cases h2 : i < o * 2 + 2 * B
    · rw [List.getElem?_append_left (by rw [hl]; omega), hU, if_pos (show i - o * 2 < 2 * B by omega), if_pos (show i < 2 * M by omega)]
      have k1 : ¬ i / 2 < o := by omega
      have k2 : i / 2 < o + B := by omega
      have k3 : (i - o * 2) / 2 = i / 2 - o := by omega
      have k4 : (i - o * 2) % 2 = i % 2 := by omega
      simp [laid, k1, k2, k3, k4]
    · rw [List.getElem?_append_right (by rw [hl]; omega), hl, List.getElem?_drop, hU]
      have k1 : ¬ i / 2 < o := by omega
      have k2 : ¬ i / 2 < o + B := by omega
      rw [show o * 2 + 2 * B + (i - o * 2 - 2 * B) = i by omega]
      simp [laid, k1, k2]
end Go.Proofs.Ythdmkcnclmgdlaa
namespace Go.Proofs.Ythdmkcnclmgdlaa
open Go.RowKit
set_option linter.unusedVariables false
set_option maxRecDepth 20000
/-- The leaves, as far as i. -/
def leavesTo (E : Nat → Int) (n K i : Nat) (U : Nat → Int × Int) : Prop := ∀ j, j < i → U (K + j) = nd E n j (j + 1)
/-- The nodes above x. -/
def nodesFrom (E : Nat → Int) (n H x : Nat) (U : Nat → Int × Int) : Prop := ∀ y h a, x < y → h ≤ H → y * 2 ^ h = 2 ^ H + a → a < 2 ^ H → U (y - 1) = nd E n a (a + 2 ^ h)
theorem nodesFrom.leaves {E : Nat → Int} {n K H : Nat} {U : Nat → Int × Int} (hK : K + 1 = 2 ^ H) (h : leavesTo E n K (K + 1) U) : nodesFrom E n H K U := fun y k a hy hk he ha => by
  cases k with
  | zero =>
    rw [Nat.pow_zero, Nat.mul_one] at he
    have := h a (by omega)
    rw [show y - 1 = K + a by omega, this]
  | succ k =>
    have := node_kids hk he ha
    have hp : 0 < 2 ^ k := Nat.two_pow_pos k
    have := node_end hk he ha
    exfalso
    have h1 : 2 ^ H ≤ y := by omega
    have h2 := Nat.mul_le_mul h1 (show 2 ≤ 2 ^ (k + 1) by rw [pow_up]; omega)
    omega
theorem nodesFrom.next {E : Nat → Int} {n H x : Nat} {U : Nat → Int × Int} (h : nodesFrom E n H x U) (hx1 : 1 ≤ x) (hx : x < 2 ^ H) : nodesFrom E n H (x - 1) (upd U (x - 1) (joinN (U (2 * x - 1)) (U (2 * x + 1 - 1)))) := fun y k a hy hk he ha => by
  by_cases e : y = x
  · subst e
    cases k with
    | zero => rw [Nat.pow_zero, Nat.mul_one] at he; omega
    | succ k =>
      obtain ⟨k1, k2, k3⟩ := node_kids hk he ha
      have h1 := h (2 * y) k a (by omega) (by omega) k1 ha
      have h2 := h (2 * y + 1) k (a + 2 ^ k) (by omega) (by omega) k2 k3
      unfold upd
      rw [if_pos rfl, h1, h2, nd_join E n _ _ _ (Nat.le_add_right _ _) (Nat.le_add_right _ _), pow_up, show a + 2 ^ k + 2 ^ k = a + 2 * 2 ^ k by omega]
  · unfold upd
    rw [if_neg (by omega)]
    exact h y k a (by omega) hk he ha
theorem nodesFrom.fits {E : Nat → Int} (hE : Exc E) {n H x : Nat} (hn : n ≤ 1000000) {U : Nat → Int × Int} (h : nodesFrom E n H x U) {y : Nat} (hy : x < y) (hy2 : y < 2 * 2 ^ H) : Fits (U (y - 1)) := by
  obtain ⟨k, a, h1, h2, h3⟩ := node_ex H y (by omega) hy2
  rw [h y k a hy h1 h2 h3]
  exact nd_fits hE hn _ _
end Go.Proofs.Ythdmkcnclmgdlaa
namespace Go.Proofs.Ythdmkcnclmgdlaa
open Go.RowKit
set_option linter.unusedVariables false
theorem blk_ty {w : World} {i : Nat} {T U : TypeId} {cs ds : Array Value} (h : Blk w i T cs) (k : Blk w i U ds) : T = U := by
  unfold Blk at h k
  rw [h] at k
  simp at k
  exact k.2
/-- A row's block. -/
theorem own_blk {w : World} {base n : Nat} {e : TypeId} {v : Value} {xs : List Value} (h : w.ownsRow base e 1 v n xs) {k : Nat} (hk : v.ownBlock = some k) : ∃ cs, Blk w k e cs := by
  rcases h.2 with ⟨rfl, _⟩ | ⟨g, cap, cur, rfl, _, hg, _⟩
  · simp [Value.ownBlock] at hk
  · have : k = g := by simpa [Value.ownBlock] using hk.symm
    subst this
    exact ⟨cur, hg⟩
end Go.Proofs.Ythdmkcnclmgdlaa
namespace Go.Proofs.Ythdmkcnclmgdlaa
open Go.RowKit
set_option linter.unusedVariables false
set_option maxRecDepth 20000
/-- How many more open than close ahead of the place i. -/
def exc (V i : Nat) : Int := 2 * ((pop V i : Nat) : Int) - (i : Int)
theorem exc_next (V i : Nat) : exc V (i + 1) = exc V i + (2 * ((V / 2 ^ i % 2 : Nat) : Int) - 1) := by
  unfold exc
  have h : pop V (i + 1) = pop V i + V / 2 ^ i % 2 := by
    rw [pop_add]
    congr 1
    simp [pop, numL, List.range_succ]
  omega
theorem exc_Exc (V : Nat) : Exc (exc V) := ⟨by unfold exc; simp [pop, numL], fun i => by have := exc_next V i; omega⟩
section
variable (p g V n q : Nat) (d : Bool) (w : World)
end
end Go.Proofs.Ythdmkcnclmgdlaa
namespace Go.Proofs.Ythdmkcnclmgdlaa
open Go.RowKit
set_option linter.unusedVariables false
set_option maxRecDepth 20000
theorem min_two (a b : Nat) (ha : a ≤ 2000000) (hb : b ≤ 2000000) : ∀ w, (Builtin.min_ #[3, 3] 3 #[.int .i64 (a : Int), .int .i64 (b : Int)]).run Try.prog w = .ok (.int .i64 ((min a b : Nat) : Int)) w := fun w => by
  simp [Builtin.min_, Builtin.min2]
  repeat' split
  all_goals omega
theorem mn_bound {E : Nat → Int} (hE : Exc E) {n : Nat} (hn : n ≤ 1000000) (a k : Nat) (h : a + k ≤ n) : -1000000 ≤ mn E a k ∧ mn E a k ≤ 1000000 := by
  obtain ⟨i, h1, h2, h3⟩ := mn_at E a k
  have := hE.bound i
  omega
end Go.Proofs.Ythdmkcnclmgdlaa
namespace Go.Proofs.Ythdmkcnclmgdlaa
open Go.RowKit
set_option linter.unusedVariables false
set_option maxRecDepth 20000
end Go.Proofs.Ythdmkcnclmgdlaa
namespace Go.Proofs.Ythdmkcnclmgdlaa
open Go.RowKit
set_option linter.unusedVariables false
set_option maxRecDepth 100000
end Go.Proofs.Ythdmkcnclmgdlaa
namespace Go.Proofs.Ythdmkcnclmgdlaa
open Go.RowKit
set_option linter.unusedVariables false
set_option maxRecDepth 20000
section
variable (p g V n q : Nat) (d : Bool) (w : World)
end
end Go.Proofs.Ythdmkcnclmgdlaa
namespace Go.Proofs.Ythdmkcnclmgdlaa
open Go.RowKit
set_option linter.unusedVariables false
set_option maxRecDepth 20000
/-- The tree of n bits, read at S. -/
structure TrAt (w : World) (E : Nat → Int) (n S H M : Nat) (T : Nat → Int × Int) : Prop where
  rd : RdT w S T M
  ok : TreeOK E n H (fun x => T (x - 1))
  lt : S < w.heap.size
  hM : M + 1 = 2 * 2 ^ H
  lv : Lvs ((n + 511) / 512) H
theorem TrAt.below {w w' : World} {E : Nat → Int} {n S H M : Nat} {T : Nat → Int × Int} (h : TrAt w E n S H M T) (m : Below w.heap.size w w') : TrAt w' E n S H M T :=
  ⟨h.rd.below h.lt m, h.ok, by have := m.size; have := h.lt; omega, h.hM, h.lv⟩
/-- x hangs so high above the leaves, over those from a on. -/
def Hang (H x h a : Nat) : Prop := x * 2 ^ h = 2 ^ H + a ∧ h ≤ H ∧ a < 2 ^ H
theorem Hang.log {H x h a : Nat} (k : Hang H x h a) : Nat.log2 x = H - h := by
  obtain ⟨h1, h2, h3⟩ := k
  have hp : 0 < 2 ^ h := Nat.two_pow_pos h
  have e1 : 2 ^ H = 2 ^ (H - h) * 2 ^ h := by rw [← Nat.pow_add, show H - h + h = H by omega]
  have x0 : x ≠ 0 := fun e => by subst e; have := Nat.two_pow_pos H; omega
  have l1 : 2 ^ (H - h) ≤ x := by
    rcases Nat.lt_or_ge x (2 ^ (H - h)) with g | g
    · have := Nat.mul_lt_mul_of_pos_right g hp; omega
    · exact g
  have l2 : x < 2 ^ (H - h + 1) := by
    rcases Nat.lt_or_ge x (2 ^ (H - h + 1)) with g | g
    · exact g
    · have := Nat.mul_le_mul_right (2 ^ h) g
      rw [pow_up, Nat.mul_assoc, ← e1] at this; omega
  have a1 := (Nat.le_log2 x0).2 l1
  have a2 := (Nat.log2_lt x0).2 l2
  omega
/-- Where x's leaves begin, counted from the last one back. -/
def posn (H x : Nat) : Nat := x * 2 ^ (H - Nat.log2 x)
theorem Hang.posn {H x h a : Nat} (k : Hang H x h a) : posn H x = 2 ^ H + a := by
  unfold Go.Proofs.Ythdmkcnclmgdlaa.posn
  rw [k.log, show H - (H - h) = h by have := k.2.1; omega]
  exact k.1
theorem Has.sub {E : Nat → Int} {n a b c d : Nat} {m : Int} (h : Has E n b c m) (h1 : a ≤ b) (h2 : c ≤ d) : Has E n a d m := by
  obtain ⟨i, i1, i2, i3⟩ := h
  exact ⟨i, by omega, by omega, i3⟩
theorem Has.split {E : Nat → Int} {n a b c : Nat} {m : Int} (h : Has E n a c m) (hl : ¬ Has E n a b m) (hbc : b ≤ c) : Has E n b c m ∧ 512 * b < n := by
  obtain ⟨i, i1, i2, i3⟩ := h
  by_cases hi : i ≤ min (512 * b) n
  · exact absurd ⟨i, i1, hi, i3⟩ hl
  · exact ⟨⟨i, by omega, i2, i3⟩, by omega⟩
theorem Has.splitL {E : Nat → Int} {n a b c : Nat} {m : Int} (h : Has E n a c m) (hr : ¬ Has E n b c m) (hab : a ≤ b) : Has E n a b m := by
  obtain ⟨i, i1, i2, i3⟩ := h
  by_cases hi : 512 * b ≤ i
  · exact absurd ⟨i, hi, i2, i3⟩ hr
  · exact ⟨i, i1, by omega, i3⟩
/-- No such place in any of the blocks from j on, ahead of a. -/
def NoHas (E : Nat → Int) (n j a : Nat) (m : Int) : Prop := ∀ k, j ≤ k → k < a → ¬ Has E n k (k + 1) m
theorem NoHas.on {E : Nat → Int} {n j a b : Nat} {m : Int} (h : NoHas E n j a m) (k : ¬ Has E n a b m) : NoHas E n j b m := fun i h1 h2 hi => by
  rcases Nat.lt_or_ge i a with g | g
  · exact h i h1 g hi
  · exact k (hi.sub g (by omega))
theorem NoHas.back {E : Nat → Int} {n a b c : Nat} {m : Int} (h : NoHas E n b c m) (k : ¬ Has E n a b m) : NoHas E n a c m := fun i h1 h2 hi => by
  rcases Nat.lt_or_ge i b with g | g
  · exact k (hi.sub h1 (by omega))
  · exact h i g h2 hi
/-- r is the first block from j on where there is such a place. -/
structure FirstB (E : Nat → Int) (n j : Nat) (m : Int) (r : Nat) : Prop where
  le : j ≤ r
  lt : 512 * r < n
  has : Has E n r (r + 1) m
  none_ : NoHas E n j r m
/-- r is the last block up to j where there is such a place. -/
structure LastB (E : Nat → Int) (n j : Nat) (m : Int) (r : Nat) : Prop where
  le : r ≤ j
  has : Has E n r (r + 1) m
  none_ : NoHas E n (r + 1) (j + 1) m
def FindF (w : World) (E : Nat → Int) (n j : Nat) (m : Int) (e : Ending) (w' : World) : Prop := ∃ r : Nat, e = .returned (.int .i64 (r : Int)) ∧ FirstB E n j m r ∧ Below w.heap.size w w'
end Go.Proofs.Ythdmkcnclmgdlaa
namespace Go.Proofs.Ythdmkcnclmgdlaa
open Go.RowKit
set_option linter.unusedVariables false
set_option maxRecDepth 20000
theorem Hang.left {H x k a : Nat} (h : Hang H x k a) (h0 : 0 < a) : ∃ a', a' + 2 ^ k = a ∧ Hang H (x - 1) k a' := by
  obtain ⟨h1, h2, h3⟩ := h
  have hp : 0 < 2 ^ k := Nat.two_pow_pos k
  have e1 : 2 ^ H = 2 ^ (H - k) * 2 ^ k := by rw [← Nat.pow_add, show H - k + k = H by omega]
  have l1 : 2 ^ (H - k) < x := by
    rcases Nat.lt_or_ge (2 ^ (H - k)) x with g | g
    · exact g
    · have := Nat.mul_le_mul_right (2 ^ k) g; omega
  have l2 := Nat.mul_le_mul_right (2 ^ k) (show 2 ^ (H - k) + 1 ≤ x from l1)
  rw [Nat.add_mul, Nat.one_mul, ← e1] at l2
  have e2 : (x - 1) * 2 ^ k = 2 ^ H + a - 2 ^ k := by rw [Nat.sub_mul, Nat.one_mul, h1]
  exact ⟨a - 2 ^ k, by omega, by rw [e2]; omega, h2, by omega⟩
def FindB (w : World) (E : Nat → Int) (n j : Nat) (m : Int) (e : Ending) (w' : World) : Prop := ∃ r : Nat, e = .returned (.int .i64 (r : Int)) ∧ LastB E n j m r ∧ Below w.heap.size w w'
end Go.Proofs.Ythdmkcnclmgdlaa
namespace Go.Proofs.Ythdmkcnclmgdlaa
open Go.RowKit
set_option linter.unusedVariables false
set_option maxRecDepth 20000
/-- The last place is low. -/
theorem has_end {E : Nat → Int} {n b : Nat} {m : Int} (hB : Bal E n) (hb : 512 * b < n) (hm : 0 ≤ m) : ∃ t, b ≤ t ∧ 512 * t < n ∧ Has E n t (t + 1) m :=
  ⟨(n - 1) / 512, by omega, by omega, n, by omega, by omega, by rw [hB.2]; exact hm⟩
theorem has_start {E : Nat → Int} (hE : Exc E) {n b : Nat} {m : Int} (hm : 0 ≤ m) : ∃ t, t ≤ b ∧ Has E n t (t + 1) m :=
  ⟨0, by omega, 0, by omega, by omega, by rw [hE.zero]; exact hm⟩
section
variable (p g V n q : Nat) (w : World)
/-- Behind the leap it is found. -/
theorem land_f {E : Nat → Int} {n b r j i : Nat} {m : Int} (hi : i < 512 * b) (h1 : ∀ k, i < k → k ≤ 512 * b → m < E k) (hr : FirstB E n b m r) : (∀ k, i < k → k ≤ 512 * r → m < E k) ∧ ∃ k, 512 * r < k ∧ k ≤ min (512 * (r + 1)) n ∧ E k ≤ m := by
  have h2 : ∀ k, i < k → k ≤ 512 * r → m < E k := fun k p q => by
    rcases Nat.lt_or_ge (512 * b) k with x | x
    · have hx := hr.none_ ((k - 1) / 512) (by omega) (by omega)
      rcases Int.lt_or_le m (E k) with y | y
      · exact y
      · exact absurd ⟨k, by omega, by have := hr.lt; omega, y⟩ hx
    · exact h1 k p x
  refine ⟨h2, ?_⟩
  obtain ⟨k, k1, k2, k3⟩ := hr.has
  refine ⟨k, ?_, k2, k3⟩
  rcases Nat.lt_or_ge (512 * r) k with x | x
  · exact x
  · have := h2 k (by have := hr.le; omega) x; omega
theorem land_b {E : Nat → Int} {n b r a : Nat} {m : Int} (hb : 512 * (b + 1) ≤ n) (ha : 512 * (b + 1) < a) (h1 : ∀ k, 512 * (b + 1) ≤ k → k < a → m < E k) (hr : LastB E n b m r) : (∀ k, 512 * (r + 1) ≤ k → k < a → m < E k) ∧ ∃ k, 512 * r ≤ k ∧ k < 512 * (r + 1) ∧ E k ≤ m := by
  have hrl := hr.le
  have h2 : ∀ k, 512 * (r + 1) ≤ k → k < a → m < E k := fun k p q => by
    rcases Nat.lt_or_ge k (512 * (b + 1)) with x | x
    · have hx := hr.none_ (k / 512) (by omega) (by omega)
      rcases Int.lt_or_le m (E k) with y | y
      · exact y
      · exact absurd ⟨k, by omega, by omega, y⟩ hx
    · exact h1 k x q
  refine ⟨h2, ?_⟩
  obtain ⟨k, k1, k2, k3⟩ := hr.has
  refine ⟨k, k1, ?_, k3⟩
  rcases Nat.lt_or_ge k (512 * (r + 1)) with x | x
  · exact x
  · have := h2 k x (by omega); omega
end
end Go.Proofs.Ythdmkcnclmgdlaa
namespace Go.Proofs.Ythdmkcnclmgdlaa
open Go.RowKit
set_option linter.unusedVariables false
set_option maxRecDepth 20000
/-- What may turn: the index, and the parentheses. -/
def Two2 (g p : Nat) (i : Nat) : Prop := i = g ∨ i = p
theorem mod_g {w w' : World} {g p : Nat} (h : Mod (fun i => i = g) w w') : Mod (Two2 g p) w w' := h.mono fun _ _ h => .inl h
theorem mod_p {w w' : World} {g p : Nat} (h : Mod (fun i => i = p) w w') : Mod (Two2 g p) w w' := h.mono fun _ _ h => .inr h
theorem Mod.two {w w1 w2 : World} {g p : Nat} (h : Mod (Two2 g p) w w1) (k : Mod (Two2 g p) w1 w2) : Mod (Two2 g p) w w2 := h.trans k fun _ _ h => h
section
variable (p g V n q : Nat) (d : Bool) (w : World)
end
end Go.Proofs.Ythdmkcnclmgdlaa
namespace Go.Proofs.Ythdmkcnclmgdlaa
set_option linter.unusedVariables false

theorem pop_take {l : List Nat} (h : Bin l) (i : Nat) (hi : i ≤ l.length) : pop (val l) i = (l.take i).sum := by
  have h1 := pop_val (h.take i)
  rw [List.length_take, Nat.min_eq_left hi, val_take h, pop_mod] at h1
  exact h1
theorem shp_sum (ks : List Nat) (h : Kds ks) : ∀ i, i ≤ ks.length → ((shp ks).take i).sum = ah 1 ks i ∧ ah 0 ks i + ah 1 ks i = i
  | 0, _ => by rw [ah_zero, ah_zero]; simp
  | i + 1, hi => by
    obtain ⟨h1, h2⟩ := shp_sum ks h i (by omega)
    have hk := h.getD i
    rw [take_snoc (shp ks) i (by rw [shp_len]; omega), List.sum_append, h1, shp_get, ah_next 1 ks i (by omega), ah_next 0 ks i (by omega)]
    simp only [List.sum_cons, List.sum_nil]
    by_cases h3 : ks.getD i 0 / 2 = 0
    · rw [if_pos h3, if_neg (by omega)]; omega
    · rw [if_neg h3, if_pos (by omega)]; omega
/-- How many of a sort are ahead, by the directory. -/
theorem cb_ah {ks : List Nat} (h : Kds ks) (s : Nat) (hs : s < 2) (i : Nat) (hi : i ≤ ks.length) : cb (s : Int) (val (shp ks)) i = ah s ks i := by
  have hp := pop_take (shp_bin h) i (by rw [shp_len]; exact hi)
  obtain ⟨h1, h2⟩ := shp_sum ks h i hi
  unfold cb
  rcases (by omega : s = 0 ∨ s = 1) with rfl | rfl
  · rw [if_pos (show ((0 : Nat) : Int) = 0 from rfl), hp, h1]; omega
  · rw [if_neg (show ¬ ((1 : Nat) : Int) = 0 by decide), hp, h1]
theorem shp_bit {ks : List Nat} (h : Kds ks) (i : Nat) : val (shp ks) / 2 ^ i % 2 = ks.getD i 0 / 2 := by rw [val_bit (shp_bin h), shp_get]
theorem isB_shp {ks : List Nat} (h : Kds ks) (s : Nat) (hs : s < 2) (i : Nat) : IsB (s : Int) (val (shp ks)) i ↔ ks.getD i 0 / 2 = s := by
  unfold IsB
  have h1 := shp_bit h i
  have hk := h.getD i
  rw [Nat.testBit_eq_decide_div_mod_eq, h1, decide_eq_decide]
  generalize ks.getD i 0 = k at *
  rcases (by omega : s = 0 ∨ s = 1) with rfl | rfl
  · constructor
    · intro h2
      have : ¬ k / 2 = 1 := fun h3 => (h2.1 h3) rfl
      omega
    · intro h2
      exact ⟨fun h3 => by omega, fun h3 => absurd rfl h3⟩
  · constructor
    · intro h2
      exact h2.2 (by decide)
    · intro h2
      exact ⟨fun _ => by decide, fun _ => h2⟩
/-- Does the letter open? -/
theorem open_bit (s : Nat) (ks : List Nat) (i : Nat) (hi : i < ks.length) (hs : ks.getD i 0 / 2 = s) : val (ownL s ks) / 2 ^ (ah s ks i) % 2 = 1 - ks.getD i 0 % 2 := by
  rw [val_bit (ownL_bin s ks), ownL_get s ks i hi hs]
/-- What is ahead of the letter there, by the sort's excess. -/
theorem exc_pop (l : List Nat) (hb : Bin l) (n : Nat) (hn : n ≤ l.length) : exc (val l) n = 2 * ((l.take n).sum : Int) - (n : Int) := by
  unfold exc
  rw [pop_take hb n hn]
end Go.Proofs.Ythdmkcnclmgdlaa
namespace Go.Proofs.Ythdmkcnclmgdlaa
set_option maxRecDepth 20000
open Go.RowKit
set_option linter.unusedVariables false

/-- What a question of a mixed index may turn. -/
def MxS (gx p0 g0 p1 g1 i : Nat) : Prop := i = gx ∨ i = p0 ∨ i = g0 ∨ i = p1 ∨ i = g1
section
variable {w0 w w' : World} {m gx p0 g0 p1 g1 q : Nat} {ks : List Nat}
theorem two_mx0 (md : Mod (Two2 g0 p0) w w') : Mod (MxS gx p0 g0 p1 g1) w w' := md.mono fun i _ hi => hi.elim (fun e => .inr (.inr (.inl e))) fun e => .inr (.inl e)
theorem two_mx1 (md : Mod (Two2 g1 p1) w w') : Mod (MxS gx p0 g0 p1 g1) w w' := md.mono fun i _ hi => hi.elim (fun e => .inr (.inr (.inr (.inr e)))) fun e => .inr (.inr (.inr (.inl e)))
end
end Go.Proofs.Ythdmkcnclmgdlaa
namespace Go.Proofs.Ythdmkcnclmgdlaa
open Go.RowKit
set_option linter.unusedVariables false
end Go.Proofs.Ythdmkcnclmgdlaa
namespace Go.Proofs.Ythdmkcnclmgdlaa
open Go.RowKit
set_option linter.unusedVariables false
/-- An answer in new memory that reads as a list. -/
def NewU8 (w : World) (bs : List Nat) (e : Ending) (w' : World) : Prop :=
  ∃ A c, e = .returned (.slice A bs.length c) ∧ bs.length ≤ c ∧ c ≤ maxLen ∧ w'.ownsRow w.heap.size 5 1 (.slice A bs.length c) bs.length (U8 bs) ∧ Below w.heap.size w w'
theorem NewU8.mk {w w' : World} {bs : List Nat} {e : Ending} {v : Value} (he : e = .returned v) (h : w'.ownsRow w.heap.size 5 1 v bs.length (U8 bs)) (hb : Below w.heap.size w w') : NewU8 w bs e w' := by
  obtain ⟨A, c, rfl, h1, h2⟩ := own_form h
  exact ⟨A, c, he, h1, h2, h, hb⟩

theorem conv_bytes (A : Option Addr) (n c B : Nat) (bs : List Nat) (w : World) (h : Rd w B A n (U8 bs)) :
    (convert 22 9 (.slice A n c)).run Try.prog w = .ok (.string (strOfNums (bs.map fun (b : Nat) => (b : Int)))) w := by
  have hl : bs.length = n := by rw [← h.len, U8_len]
  rcases Nat.eq_zero_or_pos n with h0 | h0
  · subst h0
    obtain rfl : bs = [] := List.eq_nil_of_length_eq_zero hl
    rw [run_convert_bytes_string w 22 9 5 _ 0 c Try.underlying22 Try.underlying5 Try.underlying9]
    cases A <;> simp [Conv.bytesToString, loadCells, loadCellsFrom, strOfNums] <;> rfl
  · obtain ⟨b, o, rfl, _, hc⟩ := h.at_ h0
    refine run_convert_bytes_arg (P := Try.prog) w 22 5 Try.underlying22 Try.underlying5 b o n c _ (by simpa using hl) (fun i hi => ?_) 9 Try.underlying9
    rw [hc i (by rw [U8_len]; omega), U8_get]
    simp [List.getD_eq_getElem?_getD, List.getElem?_eq_getElem (show i < bs.length by omega)]

theorem bytes_inj (cs bs : List Nat) (ha : ∀ b ∈ cs, b < 256) (hb : ∀ b ∈ bs, b < 256) :
    ((cs.map fun (b : Nat) => UInt8.ofNat (b : Int).toNat) = bs.map fun (b : Nat) => UInt8.ofNat (b : Int).toNat) ↔ cs = bs := by
  constructor
  · intro h
    induction cs generalizing bs with
    | nil => cases bs with
      | nil => rfl
      | cons b bs => simp at h
    | cons a cs ih => cases bs with
      | nil => simp at h
      | cons b bs =>
        simp only [List.map_cons, List.cons.injEq] at h
        have h1 := congrArg UInt8.toNat h.1
        simp only [Int.toNat_natCast, UInt8.toNat_ofNat'] at h1
        have := ha a (by simp)
        have := hb b (by simp)
        rw [ih bs (fun x hx => ha x (by simp [hx])) (fun x hx => hb x (by simp [hx])) h.2]
        rw [show a = b by omega]
  · rintro rfl; rfl

theorem fill_next (X : List Nat) (k m : Nat) (hX : X.length = m) (hk : k < m) :
    ((U8 (X.take k ++ List.replicate (m - k) 0)).toArray).setIfInBounds k (.int .u8 ((X.getD k 0 : Nat) : Int)) = (U8 (X.take (k + 1) ++ List.replicate (m - (k + 1)) 0)).toArray := by
  rw [show X.getD k 0 = X[k] by simp [List.getD_eq_getElem?_getD, List.getElem?_eq_getElem (show k < X.length by omega)]]
  apply Array.toList_inj.1
  rw [Array.toList_setIfInBounds]
  show (U8 (X.take k ++ List.replicate (m - k) 0)).set k _ = U8 _
  have e1 : List.replicate (m - k) 0 = 0 :: List.replicate (m - (k + 1)) 0 := by
    rw [show m - k = (m - (k + 1)) + 1 by omega, List.replicate_succ]
  rw [e1, U8_append, ← List.take_append_getElem (by omega : k < X.length), List.append_assoc, U8_append, List.set_append_right _ _ (by rw [U8_len, List.length_take]; omega)]
  have e2 : k - (U8 (X.take k)).length = 0 := by rw [U8_len, List.length_take]; omega
  rw [e2]
  rfl
end Go.Proofs.Ythdmkcnclmgdlaa
namespace Go.Proofs.Ythdmkcnclmgdlaa
open Go.RowKit
set_option linter.unusedVariables false

/-- The text of some bits. -/
def textOf (l : List Nat) : ByteArray := strOfNums (l.map fun (b : Nat) => ((48 + b : Nat) : Int))
/-- The bytes of n bits. -/
def bytesL (V n : Nat) : List Nat := (List.range ((n + 7) / 8)).map fun i => V / 2 ^ (8 * i) % 256
theorem bytesL_len (V n : Nat) : (bytesL V n).length = (n + 7) / 8 := by simp [bytesL]
theorem bytesL_lt (V n : Nat) : ∀ b ∈ bytesL V n, b < 256 := fun b hb => by
  simp only [bytesL, List.mem_map] at hb
  obtain ⟨i, _, rfl⟩ := hb
  exact Nat.mod_lt _ (by decide)
theorem byte_part {V n i : Nat} (h : V < 2 ^ n) (hi : 8 * i < n) : V / 2 ^ (8 * i) % 2 ^ (min 8 (n - 8 * i)) = V / 2 ^ (8 * i) % 256 := by
  by_cases h8 : 8 ≤ n - 8 * i
  · rw [Nat.min_eq_left h8]
  · rw [Nat.min_eq_right (by omega)]
    have h1 : V / 2 ^ (8 * i) < 2 ^ (n - 8 * i) := by
      rw [Nat.div_lt_iff_lt_mul (Nat.two_pow_pos _), ← Nat.pow_add, show n - 8 * i + 8 * i = n by omega]; exact h
    have h2 : (2 : Nat) ^ (n - 8 * i) ≤ 2 ^ 8 := Nat.pow_le_pow_right (by omega) (by omega)
    rw [Nat.mod_eq_of_lt h1, Nat.mod_eq_of_lt (Nat.lt_of_lt_of_le h1 h2)]
end Go.Proofs.Ythdmkcnclmgdlaa
namespace Go.Proofs.Ythdmkcnclmgdlaa
set_option maxRecDepth 20000
open Go.RowKit
set_option linter.unusedVariables false
/-- The number that a word's bits are: two bits a letter. -/
def wv : List Nat → Nat
  | [] => 0
  | k :: ks => k % 4 + 4 * wv ks
theorem wv_snoc (k : Nat) : ∀ ks : List Nat, wv (ks ++ [k]) = put (wv ks) (2 * ks.length) k 2
  | [] => by simp [wv, put]
  | x :: ks => by
    show x % 4 + 4 * wv (ks ++ [k]) = _
    rw [wv_snoc k ks]
    unfold put
    show _ = (x % 4 + 4 * wv ks) + _
    rw [List.length_cons, show 2 * (ks.length + 1) = 2 * ks.length + 2 by omega, Nat.pow_add, show (2 : Nat) ^ 2 = 4 from rfl, ← Nat.mul_assoc]
    generalize k % 4 * 2 ^ (2 * ks.length) = q
    omega
theorem wv_at : ∀ (ks : List Nat) (i : Nat), i < ks.length → wv ks / 2 ^ (2 * i) % 2 + 2 * (wv ks / 2 ^ (2 * i + 1) % 2) = ks.getD i 0 % 4
  | [], i, h => absurd h (by simp)
  | x :: ks, 0, h => by
    show (x % 4 + 4 * wv ks) / 2 ^ 0 % 2 + 2 * ((x % 4 + 4 * wv ks) / 2 ^ 1 % 2) = x % 4
    rw [Nat.pow_zero, Nat.pow_one]; omega
  | x :: ks, i + 1, h => by
    have ih := wv_at ks i (by simpa using h)
    show (x % 4 + 4 * wv ks) / 2 ^ (2 * (i + 1)) % 2 + 2 * ((x % 4 + 4 * wv ks) / 2 ^ (2 * (i + 1) + 1) % 2) = ks.getD i 0 % 4
    have e : ∀ j, (x % 4 + 4 * wv ks) / 2 ^ (j + 2) = wv ks / 2 ^ j := fun j => by
      rw [Nat.pow_add, show (2 : Nat) ^ 2 = 4 from rfl, Nat.mul_comm (2 ^ j) 4, ← Nat.div_div_eq_div_mul]
      congr 1; omega
    rw [show 2 * (i + 1) = 2 * i + 2 by omega, show 2 * i + 2 + 1 = 2 * i + 1 + 2 by omega, e, e]
    exact ih
theorem wv_lo (ks : List Nat) (i : Nat) (h : i < ks.length) : wv ks / 2 ^ (2 * i) % 2 = ks.getD i 0 % 2 := by have := wv_at ks i h; omega
theorem wv_hi (ks : List Nat) (i : Nat) (h : i < ks.length) : wv ks / 2 ^ (2 * i + 1) % 2 = ks.getD i 0 / 2 % 2 := by have := wv_at ks i h; omega
end Go.Proofs.Ythdmkcnclmgdlaa
namespace Go.Proofs.Ythdmkcnclmgdlaa
set_option maxRecDepth 20000
open Go.RowKit
set_option linter.unusedVariables false
/-- The text of letters. -/
def signN (k : Nat) : Nat := [40, 41, 91, 93].getD k 0
def textM (ks : List Nat) : ByteArray := strOfNums (ks.map fun k => ((signN k : Nat) : Int))
theorem strOfNums_map (X : List Nat) : strOfNums (X.map fun (b : Nat) => (b : Int)) = strOfNums (X.map fun (b : Nat) => (b : Int)) := rfl
end Go.Proofs.Ythdmkcnclmgdlaa
namespace Go.Proofs.Ythdmkcnclmgdlaa
set_option maxRecDepth 20000
open Go.RowKit
set_option linter.unusedVariables false
def Kd (x : Int) : Prop := 0 ≤ x ∧ x < 4
instance (x : Int) : Decidable (Kd x) := by unfold Kd; exact inferInstance
def toN (z : List Int) : List Nat := z.map Int.toNat
theorem toN_len (z : List Int) : (toN z).length = z.length := by simp [toN]
theorem toN_next (z : List Int) (k : Nat) (h : k < z.length) : (toN z).take (k + 1) = (toN z).take k ++ [(z.getD k 0).toNat] := by
  rw [List.take_add_one, List.getElem?_eq_getElem (by rw [toN_len]; exact h)]
  simp [toN, List.getD_eq_getElem?_getD, h]
end Go.Proofs.Ythdmkcnclmgdlaa
namespace Go.Proofs.Ythdmkcnclmgdlaa
set_option maxRecDepth 20000
open Go.RowKit
set_option linter.unusedVariables false
section
variable {w0 w : World} {m gx p0 g0 p1 g1 q : Nat} {ks : List Nat}
/-- Whose mate the i-th letter is. -/
def MateAt (ks : List Nat) (i p : Nat) : Prop := p < ks.length ∧ ks.getD p 0 / 2 = ks.getD i 0 / 2 ∧ MateOK (exc (val (ownL (ks.getD i 0 / 2) ks))) (ah (ks.getD i 0 / 2) ks i) ((ah (ks.getD i 0 / 2) ks p : Nat) : Int)
end
end Go.Proofs.Ythdmkcnclmgdlaa
namespace Go.Proofs.Ythdmkcnclmgdlaa
set_option maxRecDepth 20000
open Go.RowKit
set_option linter.unusedVariables false
/-- The round letter that opens the pair around the i-th letter, among the round ones alone; -1: none. -/
def OwnZ (ks : List Nat) (i : Nat) (z : Int) : Prop :=
  if ks.getD i 0 = 1 then MateOK (exc (val (ownL 0 ks))) (ah 0 ks i) z
  else if ah 0 ks i = 0 then z = -1
  else if (ownL 0 ks).getD (ah 0 ks i - 1) 0 = 1 then z = ((ah 0 ks i - 1 : Nat) : Int)
  else RoundOK (exc (val (ownL 0 ks))) (ah 0 ks i - 1) z
def OwnAt (ks : List Nat) (i : Nat) (r : Int) : Prop := ∃ z, OwnZ ks i z ∧ ((z = -1 ∧ r = -1) ∨ ∃ p : Nat, r = (p : Int) ∧ p < ks.length ∧ ks.getD p 0 / 2 = 0 ∧ z = ((ah 0 ks p : Nat) : Int))
section
variable {w0 w : World} {m gx p0 g0 p1 g1 q : Nat} {ks : List Nat}
end
end Go.Proofs.Ythdmkcnclmgdlaa
namespace Go.Proofs.Ythdmkcnclmgdlaa
open Go.RowKit
set_option linter.unusedVariables false

theorem wd_piece {V n k s : Nat} (h : V < 2 ^ n) (hs : s = min 64 (n - 64 * k)) (hk : 64 * k ≤ n) : V / 2 ^ (64 * k) % 2 ^ s = wd V k := by
  unfold wd
  by_cases h64 : 64 ≤ n - 64 * k
  · rw [hs, Nat.min_eq_left h64]
  · rw [hs, Nat.min_eq_right (by omega)]
    have hlt : V / 2 ^ (64 * k) < 2 ^ (n - 64 * k) := by
      rw [Nat.div_lt_iff_lt_mul (Nat.two_pow_pos _), ← Nat.pow_add]
      rwa [show n - 64 * k + 64 * k = n by omega]
    rw [Nat.mod_eq_of_lt hlt, Nat.mod_eq_of_lt (Nat.lt_of_lt_of_le hlt (Nat.pow_le_pow_right (by omega) (by omega)))]
theorem min_s (t : Nat) (ht : t ≤ 1000000) : ∀ w, (Builtin.min_ #[3, 3] 3 #[.int .i64 64, .int .i64 (t : Int)]).run Try.prog w = .ok (.int .i64 ((min 64 t : Nat) : Int)) w := fun w => by
  simp [Builtin.min_, Builtin.min2]
  repeat' split
  all_goals omega
end Go.Proofs.Ythdmkcnclmgdlaa
namespace Go.Proofs.Ythdmkcnclmgdlaa
open Go.RowKit
set_option linter.unusedVariables false
set_option maxRecDepth 20000
def NewNo (w : World) (e : Ending) (w' : World) : Prop := e = .returned (.tuple #[.pointer none, .int .i64 9]) ∧ Below w.heap.size w w'
end Go.Proofs.Ythdmkcnclmgdlaa
namespace Go.Proofs.Ythdmkcnclmgdlaa
open Go.RowKit
set_option linter.unusedVariables false
set_option maxRecDepth 20000
def MadeNo (w : World) (A : Option Addr) (m c : Nat) (e : Ending) (w' : World) : Prop :=
  e = .returned (.tuple #[.pointer none, .slice A m c, .bool false]) ∧ Below w.heap.size w w'
/-- The document's example: 110100. -/
theorem bal_ex : Bal (exc 11) 6 := by
  refine ⟨fun i hi => ?_, by decide⟩
  have : i = 0 ∨ i = 1 ∨ i = 2 ∨ i = 3 ∨ i = 4 ∨ i = 5 ∨ i = 6 := by omega
  rcases this with rfl | rfl | rfl | rfl | rfl | rfl | rfl <;> decide
theorem pair_ex : Pair (exc 11) 0 5 := ⟨by decide, by decide, fun k h1 h2 => by
  have : k = 1 ∨ k = 2 ∨ k = 3 ∨ k = 4 ∨ k = 5 := by omega
  rcases this with rfl | rfl | rfl | rfl | rfl <;> decide⟩
theorem round_ex3 : RoundOK (exc 11) 3 0 := fun a ha => by
  obtain rfl : a = 3 := by
    rcases ha with x | x
    · exact x.2
    · exact absurd x.1 (by decide)
  rw [if_neg (by decide)]
  exact ⟨0, rfl, ⟨by decide, by decide, fun k h1 h2 => by
    have : k = 1 ∨ k = 2 := by omega
    rcases this with rfl | rfl <;> decide⟩⟩
theorem round_ex0 : RoundOK (exc 11) 0 (-1) := fun a ha => by
  obtain rfl : a = 0 := by
    rcases ha with x | x
    · exact x.2
    · exact absurd x.1 (by decide)
  rw [if_pos (by decide)]
end Go.Proofs.Ythdmkcnclmgdlaa
namespace Go.Proofs.Ythdmkcnclmgdlaa
open Go.RowKit
set_option linter.unusedVariables false
set_option maxRecDepth 20000
theorem exc_list {l : List Nat} (hb : Bin l) (i : Nat) : exc (val l) (i + 1) = exc (val l) i + (2 * ((l.getD i 0 : Nat) : Int) - 1) := by
  rw [exc_next, val_bit hb]
def GoodP (w : World) (l : List Nat) (m : Nat) (e : Ending) (w' : World) : Prop := w = w' ∧ ∃ r : Bool, e = .returned (.bool r) ∧ (r = true ↔ Bal (exc (val l)) m)
theorem GoodP.no {w : World} {l : List Nat} {m : Nat} {e : Ending} (he : e = .returned (.bool false)) (h : ¬ Bal (exc (val l)) m) : GoodP w l m e w := ⟨rfl, false, he, by simp [h]⟩
theorem GoodP.yes {w : World} {l : List Nat} {m : Nat} {e : Ending} (he : e = .returned (.bool true)) (h : Bal (exc (val l)) m) : GoodP w l m e w := ⟨rfl, true, he, by simp [h]⟩
end Go.Proofs.Ythdmkcnclmgdlaa
