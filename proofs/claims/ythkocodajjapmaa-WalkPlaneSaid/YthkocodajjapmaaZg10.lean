/- Pairs of balanced parentheses; the first place beyond another where the excess is low; the document's stack. Nodes in memory; join, at, leaf. has, isFar, bitOn, blocksFor, nodesFor. treeOf. treeOf, walked. What a store elsewhere leaves of an index. Parentheses in memory; Len, Open, change, Excess. measure: a block's node. build: the directory of parentheses is made. build: sync.Once calls it, the first time; ready. scan: on from a place, to the edge of its block at most. -/
import Derived.Test.YthkocodajjapmaaZg9
import Derived.Test.YthkocodajjapmaaZg1
import Derived.Laws.CopyOwn
import Derived.Test.YthkocodajjapmaaZg8
namespace Go.Proofs.Ythkocodajjapmaa
set_option linter.unusedVariables false
/-- Never below nought, and nought behind all. -/
def Bal (E : Nat → Int) (n : Nat) : Prop := (∀ i, i ≤ n → 0 ≤ E i) ∧ E n = 0
/-- The first place behind a where the excess is m or less. -/
structure Fwd (E : Nat → Int) (a n : Nat) (m : Int) (j : Nat) : Prop where
  lt : a < j
  le : j ≤ n
  at_ : E j ≤ m
  above : ∀ k, a < k → k < j → m < E k
/-- The last place ahead of a where the excess is m or less. -/
structure Bwd (E : Nat → Int) (a : Nat) (m : Int) (j : Nat) : Prop where
  lt : j < a
  at_ : E j ≤ m
  above : ∀ k, j < k → k < a → m < E k
theorem Fwd.uniq {E : Nat → Int} {a n : Nat} {m : Int} {i j : Nat} (h : Fwd E a n m i) (k : Fwd E a n m j) : i = j := by
  rcases Nat.lt_trichotomy i j with x | x | x
  · have := k.above i h.lt x; have := h.at_; omega
  · exact x
  · have := h.above j k.lt x; have := k.at_; omega
theorem Bwd.uniq {E : Nat → Int} {a : Nat} {m : Int} {i j : Nat} (h : Bwd E a m i) (k : Bwd E a m j) : i = j := by
  rcases Nat.lt_trichotomy i j with x | x | x
  · have := h.above j x k.lt; have := k.at_; omega
  · exact x
  · have := k.above i x h.lt; have := h.at_; omega
/-- If not so far, then from there on. -/
theorem Fwd.on {E : Nat → Int} {a b n : Nat} {m : Int} {j : Nat} (h : Fwd E b n m j) (hab : a ≤ b) (hb : ∀ k, a < k → k ≤ b → m < E k) : Fwd E a n m j :=
  ⟨by have := h.lt; omega, h.le, h.at_, fun k h1 h2 => by
    rcases Nat.lt_or_ge b k with x | x
    · exact h.above k x h2
    · exact hb k h1 x⟩
theorem Bwd.on {E : Nat → Int} {a b : Nat} {m : Int} {j : Nat} (h : Bwd E b m j) (hab : b ≤ a) (hb : ∀ k, b ≤ k → k < a → m < E k) : Bwd E a m j :=
  ⟨by have := h.lt; omega, h.at_, fun k h1 h2 => by
    rcases Nat.lt_or_ge k b with x | x
    · exact h.above k h1 x
    · exact hb k x h2⟩
/-- The first place behind a where a property holds. -/
theorem first_ex (P : Nat → Prop) (a : Nat) : ∀ d, P (a + 1 + d) → ∃ j, a < j ∧ j ≤ a + 1 + d ∧ P j ∧ ∀ k, a < k → k < j → ¬ P k
  | 0, h => ⟨a + 1, by omega, by omega, h, fun k h1 h2 => by omega⟩
  | d + 1, h => by
    by_cases hx : ∃ i, a < i ∧ i ≤ a + 1 + d ∧ P i
    · obtain ⟨i, h1, h2, h3⟩ := hx
      have := first_ex P a (i - a - 1) (by rw [show a + 1 + (i - a - 1) = i by omega]; exact h3)
      obtain ⟨j, p1, p2, p3, p4⟩ := this
      exact ⟨j, p1, by omega, p3, p4⟩
    · refine ⟨a + 1 + (d + 1), by omega, by omega, h, fun k h1 h2 hk => hx ⟨k, h1, by omega, hk⟩⟩
termination_by d => d
decreasing_by omega
theorem fwd_ex {E : Nat → Int} {a n : Nat} (h : Bal E n) (ha : a < n) {m : Int} (hm : 0 ≤ m) : ∃ j, Fwd E a n m j := by
  obtain ⟨j, h1, h2, h3, h4⟩ := first_ex (fun i => E i ≤ m) a (n - a - 1) (by show E _ ≤ m; rw [show a + 1 + (n - a - 1) = n by omega, h.2]; exact hm)
  exact ⟨j, h1, by omega, h3, fun k p q => by have := h4 k p q; omega⟩
theorem bwd_ex {E : Nat → Int} (hE : Exc E) {a : Nat} (ha : 0 < a) {m : Int} (hm : 0 ≤ m) : ∃ j, Bwd E a m j := by
  have : ∀ d a, 0 < a → d = a → ∃ j, Bwd E a m j := by
    intro d
    induction d with
    | zero => intro a h1 h2; omega
    | succ d ih =>
      intro a h1 h2
      by_cases hx : E (a - 1) ≤ m
      · exact ⟨a - 1, by omega, hx, fun k p q => by omega⟩
      · have h0 : a ≠ 1 := fun e => by subst e; apply hx; rw [show 1 - 1 = 0 from rfl, hE.zero]; exact hm
        obtain ⟨j, hj⟩ := ih (a - 1) (by omega) (by omega)
        exact ⟨j, hj.on (by omega) fun k p q => by obtain rfl : k = a - 1 := by omega
                                                   omega⟩
  exact this a a ha rfl
/-- The one at o opens, and the one at i closes, a pair. -/
structure Pair (E : Nat → Int) (o i : Nat) : Prop where
  lt : o < i
  same : E (i + 1) = E o
  above : ∀ k, o < k → k ≤ i → E o < E k
theorem Pair.uniq {E : Nat → Int} {o i j : Nat} (h : Pair E o i) (k : Pair E o j) : i = j := by
  rcases Nat.lt_trichotomy i j with x | x | x
  · have := k.above (i + 1) (by have := h.lt; omega) x; have := h.same; omega
  · exact x
  · have := h.above (j + 1) (by have := k.lt; omega) x; have := k.same; omega
theorem Pair.uniq' {E : Nat → Int} {o p i : Nat} (h : Pair E o i) (k : Pair E p i) : o = p := by
  rcases Nat.lt_trichotomy o p with x | x | x
  · have := h.above p x (by have := k.lt; omega); have := h.same; have := k.same; omega
  · exact x
  · have := k.above o x (by have := h.lt; omega); have := h.same; have := k.same; omega
theorem Pair.opens {E : Nat → Int} (hE : Exc E) {o i : Nat} (h : Pair E o i) : E (o + 1) = E o + 1 := by
  have := h.above (o + 1) (by omega) (by have := h.lt; omega)
  rcases hE.step o with x | x <;> omega
theorem Pair.closes {E : Nat → Int} (hE : Exc E) {o i : Nat} (h : Pair E o i) : E (i + 1) = E i - 1 := by
  have := h.above i h.lt (Nat.le_refl _)
  have := h.same
  rcases hE.step i with x | x <;> omega
/-- What is found behind one that opens is behind its mate. -/
theorem Fwd.pair {E : Nat → Int} (hE : Exc E) {n i j : Nat} (ho : E (i + 1) = E i + 1) (h : Fwd E i n (E i) j) : Pair E i (j - 1) := by
  have h1 := h.lt
  have hne : j ≠ i + 1 := fun e => by have := h.at_; rw [e] at this; omega
  refine ⟨by omega, ?_, fun k p q => h.above k p (by omega)⟩
  rw [show j - 1 + 1 = j by omega]
  have h2 := h.above (j - 1) (by omega) (by omega)
  have h3 := h.at_
  have h4 := hE.step (j - 1)
  rw [show j - 1 + 1 = j by omega] at h4
  omega
theorem Bwd.pair {E : Nat → Int} (hE : Exc E) {i j : Nat} (ho : E (i + 1) = E i - 1) (h : Bwd E (i + 1) (E (i + 1)) j) : Pair E j i := by
  have h1 := h.lt
  have hne : j ≠ i := fun e => by have := h.at_; rw [e] at this; omega
  have h2 := h.above (j + 1) (by omega) (by omega)
  have h3 := h.at_
  have h4 := hE.step j
  refine ⟨by omega, by omega, fun k p q => by have := h.above k p (by omega); omega⟩
theorem Bwd.le {E : Nat → Int} (hE : Exc E) {a j : Nat} {m : Int} (h : Bwd E a m j) (hm : m < E a) : E j = m := by
  have h1 := h.lt
  have h3 := h.at_
  have h4 := hE.step j
  by_cases e : j + 1 = a
  · rw [e] at h4; omega
  · have := h.above (j + 1) (by omega) (by omega); omega
/-- Which pair stands around: where it opens; -1: none. -/
def RoundOK (E : Nat → Int) (i : Nat) (z : Int) : Prop :=
  ∀ a, (E (i + 1) = E i + 1 ∧ a = i ∨ E (i + 1) = E i - 1 ∧ a = i + 1) → if E a = 0 then z = -1 else ∃ j : Nat, z = (j : Int) ∧ Bwd E a (E a - 1) j
theorem RoundOK.uniq {E : Nat → Int} (hE : Exc E) {i : Nat} {y z : Int} (h : RoundOK E i y) (k : RoundOK E i z) : y = z := by
  have : ∃ a, E (i + 1) = E i + 1 ∧ a = i ∨ E (i + 1) = E i - 1 ∧ a = i + 1 := by
    rcases hE.step i with x | x
    · exact ⟨i, .inl ⟨x, rfl⟩⟩
    · exact ⟨i + 1, .inr ⟨x, rfl⟩⟩
  obtain ⟨a, ha⟩ := this
  have h1 := h a ha
  have k1 := k a ha
  by_cases e : E a = 0
  · rw [if_pos e] at h1 k1; omega
  · rw [if_neg e] at h1 k1
    obtain ⟨p, rfl, hp⟩ := h1
    obtain ⟨q, rfl, hq⟩ := k1
    rw [hp.uniq hq]
/-- What stands open at i: the places s of those that open, from without to within. -/
def Stack (E : Nat → Int) (i : Nat) (s : List Nat) : Prop := (s.length : Int) = E i ∧ ∀ j, j < s.length → s.getD j 0 < i ∧ E (s.getD j 0) = (j : Int) ∧ ∀ k, s.getD j 0 < k → k ≤ i → (j : Int) < E k
theorem Stack.nil {E : Nat → Int} (hE : Exc E) : Stack E 0 [] := ⟨by rw [hE.zero]; rfl, fun j hj => by simp at hj⟩
theorem getD_snoc (s : List Nat) (x j : Nat) : (s ++ [x]).getD j 0 = if j < s.length then s.getD j 0 else if j = s.length then x else 0 := by
  by_cases h : j < s.length
  · rw [if_pos h, List.getD_eq_getElem?_getD, List.getElem?_append_left h, ← List.getD_eq_getElem?_getD]
  · rw [if_neg h, List.getD_eq_getElem?_getD, List.getElem?_append_right (by omega)]
    by_cases e : j = s.length
    · rw [if_pos e, e, Nat.sub_self]; rfl
    · rw [if_neg e, List.getElem?_eq_none (by simp; omega)]; rfl
theorem Stack.push {E : Nat → Int} {i : Nat} {s : List Nat} (h : Stack E i s) (ho : E (i + 1) = E i + 1) : Stack E (i + 1) (s ++ [i]) := by
  refine ⟨by have := h.1; simp; omega, fun j hj => ?_⟩
  rw [getD_snoc]
  simp only [List.length_append, List.length_cons, List.length_nil] at hj
  by_cases hlt : j < s.length
  · rw [if_pos hlt]
    obtain ⟨h1, h2, h3⟩ := h.2 j hlt
    refine ⟨by omega, h2, fun k p q => ?_⟩
    by_cases e : k = i + 1
    · have := h.1; rw [e]; omega
    · exact h3 k p (by omega)
  · rw [if_neg hlt, if_pos (by omega)]
    have h1 := h.1
    refine ⟨by omega, by omega, fun k p q => ?_⟩
    obtain rfl : k = i + 1 := by omega
    omega
theorem Stack.pop {E : Nat → Int} {i : Nat} {s : List Nat} (h : Stack E i s) (ho : E (i + 1) = E i - 1) (h0 : 0 < s.length) : Stack E (i + 1) (s.take (s.length - 1)) ∧ Pair E (s.getD (s.length - 1) 0) i := by
  have hl := h.1
  constructor
  · refine ⟨by rw [List.length_take]; omega, fun j hj => ?_⟩
    rw [List.length_take] at hj
    have e : (s.take (s.length - 1)).getD j 0 = s.getD j 0 := by
      rw [List.getD_eq_getElem?_getD, List.getElem?_take, if_pos (by omega), ← List.getD_eq_getElem?_getD]
    rw [e]
    obtain ⟨h1, h2, h3⟩ := h.2 j (by omega)
    refine ⟨by omega, h2, fun k p q => ?_⟩
    by_cases e : k = i + 1
    · rw [e]; omega
    · exact h3 k p (by omega)
  · obtain ⟨h1, h2, h3⟩ := h.2 (s.length - 1) (by omega)
    refine ⟨h1, by omega, fun k p q => by have := h3 k p q; omega⟩
/-- The mates and the pairs around, as far as they are known at i. -/
structure KnownP (E : Nat → Int) (i : Nat) (y z : Nat → Int) : Prop where
  close : ∀ p, p < i → E (p + 1) = E p - 1 → ∃ o : Nat, y p = (o : Int) ∧ Pair E o p
  open_ : ∀ p, p < i → ∀ q, q < i → Pair E p q → y p = (q : Int)
  round : ∀ p, p < i → RoundOK E p (z p)
theorem KnownP.zero (E : Nat → Int) (y z : Nat → Int) : KnownP E 0 y z := ⟨fun p h => by omega, fun p h => by omega, fun p h => by omega⟩
theorem KnownP.push {E : Nat → Int} (hE : Exc E) {i : Nat} {y z z' : Nat → Int} {s : List Nat} (h : KnownP E i y z) (hs : Stack E i s) (ho : E (i + 1) = E i + 1)
    (hz : ∀ p, p ≠ i → z' p = z p) (hi : if s.length = 0 then z' i = -1 else z' i = ((s.getD (s.length - 1) 0 : Nat) : Int)) : KnownP E (i + 1) y z' := by
  refine ⟨fun p hp hc => ?_, fun p hp q hq hpq => ?_, fun p hp => ?_⟩
  · have : p ≠ i := fun e => by subst e; omega
    exact h.close p (by omega) hc
  · have h1 : q ≠ i := fun e => by subst e; have := hpq.closes hE; omega
    have h2 := hpq.lt
    exact h.open_ p (by omega) q (by omega) hpq
  · by_cases e : p = i
    · subst e
      intro a ha
      obtain rfl : a = p := by rcases ha with x | x <;> omega
      have hl := hs.1
      by_cases h0 : s.length = 0
      · rw [if_pos h0] at hi
        rw [if_pos (by omega)]
        exact hi
      · rw [if_neg h0] at hi
        rw [if_neg (by omega)]
        obtain ⟨h1, h2, h3⟩ := hs.2 (s.length - 1) (by omega)
        exact ⟨_, hi, h1, by omega, fun k p q => by have := h3 k p (by omega); omega⟩
    · rw [hz p e]; exact h.round p (by omega)
theorem KnownP.pop {E : Nat → Int} (hE : Exc E) {i o : Nat} {y z y' z' : Nat → Int} (h : KnownP E i y z) (hp : Pair E o i)
    (hy : ∀ p, p ≠ i → p ≠ o → y' p = y p) (hyi : y' i = (o : Int)) (hyo : y' o = (i : Int)) (hz : ∀ p, p ≠ i → z' p = z p) (hzi : z' i = z o) : KnownP E (i + 1) y' z' := by
  have hc := hp.closes hE
  have hop := hp.opens hE
  have hlt := hp.lt
  refine ⟨fun p hp' hc' => ?_, fun p hp' q hq hpq => ?_, fun p hp' => ?_⟩
  · by_cases e : p = i
    · subst e; exact ⟨o, hyi, hp⟩
    · have : p ≠ o := fun e => by subst e; omega
      rw [hy p e this]; exact h.close p (by omega) hc'
  · by_cases e : p = o
    · subst e
      rw [hyo, hp.uniq hpq]
    · have h1 : q ≠ i := fun e' => by subst e'; exact e (hpq.uniq' hp)
      have h2 : p ≠ i := fun e' => by subst e'; have := hpq.opens hE; omega
      have h3 := hpq.lt
      rw [hy p h2 e]; exact h.open_ p (by omega) q (by omega) hpq
  · by_cases e : p = i
    · subst e
      intro a ha
      obtain rfl : a = p + 1 := by rcases ha with x | x <;> omega
      rw [hzi, hp.same]
      have hr := h.round o hlt o (.inl ⟨hop, rfl⟩)
      by_cases h0 : E o = 0
      · rw [if_pos h0] at hr ⊢; exact hr
      · rw [if_neg h0] at hr ⊢
        obtain ⟨j, hj, hb⟩ := hr
        exact ⟨j, hj, hb.on (by omega) fun k h1 h2 => by
          by_cases e : k = o
          · rw [e]; omega
          · have := hp.above k (by omega) (by omega); omega⟩
    · rw [hz p e]; exact h.round p (by omega)
/-- What the mate of i is. -/
def MateOK (E : Nat → Int) (i : Nat) (y : Int) : Prop := ∃ q : Nat, y = (q : Int) ∧ (Pair E i q ∨ Pair E q i)
theorem MateOK.uniq {E : Nat → Int} (hE : Exc E) {i : Nat} {y z : Int} (h : MateOK E i y) (k : MateOK E i z) : y = z := by
  obtain ⟨p, rfl, hp⟩ := h
  obtain ⟨q, rfl, hq⟩ := k
  rcases hp with hp | hp <;> rcases hq with hq | hq
  · rw [hp.uniq hq]
  · have := hp.opens hE; have := hq.closes hE; omega
  · have := hp.closes hE; have := hq.opens hE; omega
  · rw [hp.uniq' hq]
theorem MateOK.back {E : Nat → Int} {i q : Nat} (h : MateOK E i (q : Int)) : MateOK E q (i : Int) := by
  obtain ⟨p, hp, h⟩ := h
  obtain rfl : q = p := by omega
  exact ⟨i, rfl, h.symm⟩
theorem KnownP.done {E : Nat → Int} (hE : Exc E) {n : Nat} {y z : Nat → Int} (h : KnownP E n y z) (hb : Bal E n) (i : Nat) (hi : i < n) : MateOK E i (y i) ∧ RoundOK E i (z i) := by
  refine ⟨?_, h.round i hi⟩
  rcases hE.step i with x | x
  · obtain ⟨j, hj⟩ := fwd_ex hb hi (hb.1 i (by omega))
    have hp := hj.pair hE x
    have h1 := hj.le
    have h2 := hj.lt
    exact ⟨j - 1, h.open_ i hi (j - 1) (by omega) hp, .inl hp⟩
  · obtain ⟨o, ho, hp⟩ := h.close i hi x
    exact ⟨o, ho, .inr hp⟩
end Go.Proofs.Ythkocodajjapmaa
namespace Go.Proofs.Ythkocodajjapmaa
open Go.RowKit
set_option linter.unusedVariables false
set_option maxRecDepth 20000
def ndv (p : Int × Int) : Value := .agg #[.int .i32 p.1, .int .i32 p.2]
/-- m nodes in a row. -/
def ndArr (T : Nat → Int × Int) (m : Nat) : Array Value := ((List.range (2 * m)).map fun j => Value.int .i32 (if j % 2 = 0 then (T (j / 2)).1 else (T (j / 2)).2)).toArray
theorem ndArr_size (T : Nat → Int × Int) (m : Nat) : (ndArr T m).size = 2 * m := by simp [ndArr]
theorem ndArr_get (T : Nat → Int × Int) (m k : Nat) (h : k < m) : (ndArr T m)[k * 2]? = some (.int .i32 (T k).1) ∧ (ndArr T m)[k * 2 + 1]? = some (.int .i32 (T k).2) := by
  constructor
  · have e1 : k * 2 % 2 = 0 := by omega
    have e2 : k * 2 / 2 = k := by omega
    have hl : k * 2 < 2 * m := by omega
    simp [ndArr, hl]
  · have e1 : (k * 2 + 1) % 2 = 1 := by omega
    have e2 : (k * 2 + 1) / 2 = k := by omega
    have hl : k * 2 + 1 < 2 * m := by omega
    simp [ndArr, hl, e1, e2]
def upd (T : Nat → Int × Int) (k : Nat) (p : Int × Int) : Nat → Int × Int := fun j => if j = k then p else T j
theorem ndArr_set (T : Nat → Int × Int) (m k : Nat) (p : Int × Int) (h : k < m) : ((ndArr T m).setIfInBounds (k * 2) (.int .i32 p.1)).setIfInBounds (k * 2 + 1) (.int .i32 p.2) = ndArr (upd T k p) m := by
  apply Array.ext
  · simp [ndArr]
  · intro i h1 h2
    have hi : i < 2 * m := by simpa [ndArr] using h2
    have s1 : i < (ndArr T m).size := by rw [ndArr_size]; exact hi
    rw [Array.getElem_setIfInBounds (by simpa using s1), Array.getElem_setIfInBounds s1]
    by_cases e1 : k * 2 + 1 = i
    · subst e1
      simp [ndArr, upd, show (k * 2 + 1) % 2 = 1 by omega, show (k * 2 + 1) / 2 = k by omega]
    · rw [if_neg e1]
      by_cases e2 : k * 2 = i
      · subst e2
        simp [ndArr, upd, show (k * 2) / 2 = k by omega]
      · rw [if_neg e2]
        simp [ndArr, upd, show i / 2 ≠ k by omega]
theorem ndArr_congr {T U : Nat → Int × Int} {m : Nat} (h : ∀ k, k < m → T k = U k) : ndArr T m = ndArr U m := by
  unfold ndArr
  congr 1
  apply List.map_congr_left
  intro j hj
  have : j < 2 * m := by simpa using hj
  rw [h (j / 2) (by omega)]
/-- m nodes, from one on, read at b. -/
def RdT (w : World) (b : Nat) (T : Nat → Int × Int) (m : Nat) : Prop := ∀ k, k < m → w.cell? ⟨b, k * 2, none⟩ = some (.int .i32 (T k).1) ∧ w.cell? ⟨b, k * 2 + 1, none⟩ = some (.int .i32 (T k).2)
theorem RdT.below {w w' : World} {b m : Nat} {T : Nat → Int × Int} (h : RdT w b T m) (hb : b < w.heap.size) (m' : Below w.heap.size w w') : RdT w' b T m := fun k hk =>
  ⟨(m'.cell (p := ⟨b, k * 2, none⟩) hb).trans (h k hk).1, (m'.cell (p := ⟨b, k * 2 + 1, none⟩) hb).trans (h k hk).2⟩
section
variable (w : World)
theorem blk_new3 (w : World) (o1 o2 : Obj) (t : TypeId) (cs : Array Value) : Blk (((w.alloc o1).alloc o2).alloc (.cells cs t)) (w.heap.size + 1 + 1) t cs := by
  have := Blk.new ((w.alloc o1).alloc o2) t cs
  rwa [World.size_alloc, World.size_alloc] at this
/-- What a node's numbers may be. -/
structure Fits (a : Int × Int) : Prop where
  a1 : -2000000 ≤ a.1
  a2 : a.1 ≤ 2000000
  b1 : -2000000 ≤ a.2
  b2 : a.2 ≤ 2147483647
  real : a = nul ∨ a.2 ≤ 0
theorem nd_fits {E : Nat → Int} (h : Exc E) {n : Nat} (hn : n ≤ 1000000) (a b : Nat) : Fits (nd E n a b) := by
  obtain ⟨h1, h2, h3, h4⟩ := nd_bound h hn a b
  refine ⟨h1, h2, h3, h4, ?_⟩
  by_cases e : n ≤ 512 * a ∨ b ≤ a
  · exact .inl (nd_nul e)
  · exact .inr (nd_low (by omega) (by omega))
theorem nul_fits : Fits nul := ⟨by decide, by decide, by decide, by decide, .inl rfl⟩
theorem min_i32 (a b : Int) (W : World) : (Builtin.min_ #[21, 21] 21 #[.int .i32 a, .int .i32 b]).run Try.prog W = .ok (.int .i32 (min a b)) W := by
  rw [run_min_int2]
  have e : (if b < a then b else a) = min a b := by split <;> omega
  rw [e]
end
end Go.Proofs.Ythkocodajjapmaa
namespace Go.Proofs.Ythkocodajjapmaa
open Go.RowKit
set_option linter.unusedVariables false
set_option maxRecDepth 20000
section
variable (w : World)
/-- H: so many times two are enough for b leaves, and no less. -/
def Lvs (b H : Nat) : Prop := b ≤ 2 ^ H ∧ ∀ h, h < H → 2 ^ h < b
theorem Lvs.uniq {b H K : Nat} (h : Lvs b H) (k : Lvs b K) : H = K := by
  rcases Nat.lt_trichotomy H K with x | x | x
  · have := k.2 H x; have := h.1; omega
  · exact x
  · have := h.2 K x; have := k.1; omega
theorem Lvs.le {b H : Nat} (h : Lvs b H) (hb : b ≤ 4096) : 2 ^ H ≤ 8192 := by
  cases H with
  | zero => decide
  | succ H => have := h.2 H (by omega); rw [Nat.pow_succ]; omega
end
end Go.Proofs.Ythkocodajjapmaa
namespace Go.Proofs.Ythkocodajjapmaa
open Go.RowKit
set_option linter.unusedVariables false
set_option maxRecDepth 20000
theorem made_nodes (M : Nat) : madeCells #[.int .i32 0, .int .i32 0] (M * 2) = ndArr (fun _ => (0, 0)) M := by
  apply Array.ext
  · simp [madeCells, ndArr]; omega
  · intro i h1 h2
    have h : i % 2 = 0 ∨ i % 2 = 1 := by omega
    rcases h with h | h <;> simp [madeCells, ndArr, h]
theorem run_copy_rowN {P : Program} (w : World) (dT sT ty elem : TypeId) (g o dLen dCap : Nat) (a : Addr) (sLen sCap sz : Nat) (cur : Array Value) (t : TypeId) (cs : List Value)
    (hu : P.underlying dT = some (.slice elem)) (hs : (P.info? elem).map (·.size) = some sz)
    (hg : w.heap[g]? = some (.cells cur t (0, 0))) (hn : cs.length = Nat.min sLen dLen * sz)
    (hsrc : ∀ j v, cs[j]? = some v → w.cell? (a.add j) = some v) (hfit : o + cs.length ≤ cur.size) (h1 : ∀ v ∈ cs, v.oneCell' = true) :
    (Builtin.copy_ #[dT, sT] ty #[.slice (some ⟨g, o, none⟩) dLen dCap, .slice (some a) sLen sCap]).run P w =
      .ok (goInt (Nat.min sLen dLen)) (w.setRow g (cur.toList.take o ++ cs ++ cur.toList.drop (o + cs.length)).toArray) := by
  have hl := run_loadCells_list (P := P) w a cs hsrc
  have hst := run_storeCells_at P g o t cs 0 cur w hg (by simpa using hfit) h1
  cases hq : P.info? elem with
  | none => simp [hq] at hs
  | some i =>
    have hi : i.size = sz := by simpa [hq] using hs
    simp [Builtin.copy_, run_underlying hu, Builtin.lenOf, Builtin.firstCells, sizeOf, typeInfo, hq, hi, ← hn, hl, hst]
/-- Nodes laid over others, from the o-th on. -/
def laid (U T : Nat → Int × Int) (o B : Nat) : Nat → Int × Int := fun k => if k < o then U k else if k < o + B then T (k - o) else U k
theorem laid_arr (U T : Nat → Int × Int) (M o B : Nat) (h : o + B ≤ M) :
    ((ndArr U M).toList.take (o * 2) ++ (ndArr T B).toList ++ (ndArr U M).toList.drop (o * 2 + (ndArr T B).toList.length)).toArray = ndArr (laid U T o B) M := by
  have hl : (ndArr T B).toList.length = 2 * B := by simp [ndArr]
  rw [hl]
  apply Array.ext'
  simp only []
  apply List.ext_getElem?
  intro i
  have hU : ∀ (X : Nat → Int × Int) (m i : Nat), (ndArr X m).toList[i]? = if i < 2 * m then some (Value.int .i32 (if i % 2 = 0 then (X (i / 2)).1 else (X (i / 2)).2)) else none := by
    intro X m i
    by_cases hi : i < 2 * m
    · rw [if_pos hi]; simp [ndArr, hi]
    · rw [if_neg hi]; simp [ndArr, Nat.le_of_not_lt hi]
  have e1 : ((ndArr U M).toList.take (o * 2)).length = o * 2 := by rw [List.length_take, Array.length_toList, ndArr_size]; omega
  rw [hU, List.append_assoc]
  by_cases h1 : i < o * 2
  · rw [List.getElem?_append_left (by rw [e1]; exact h1), List.getElem?_take, if_pos h1, hU, if_pos (show i < 2 * M by omega), if_pos (show i < 2 * M by omega)]
    have : i / 2 < o := by omega
    simp [laid, this]
  · rw [List.getElem?_append_right (by rw [e1]; omega), e1]
    by_cases h2 : i < o * 2 + 2 * B
    · rw [List.getElem?_append_left (by rw [hl]; omega), hU, if_pos (show i - o * 2 < 2 * B by omega), if_pos (show i < 2 * M by omega)]
      have k1 : ¬ i / 2 < o := by omega
      have k2 : i / 2 < o + B := by omega
      have k3 : (i - o * 2) / 2 = i / 2 - o := by omega
      have k4 : (i - o * 2) % 2 = i % 2 := by omega
      simp [laid, k1, k2, k3, k4]
    · rw [List.getElem?_append_right (by rw [hl]; omega), hl, List.getElem?_drop, hU]
      have k1 : ¬ i / 2 < o := by omega
      have k2 : ¬ i / 2 < o + B := by omega
      rw [show o * 2 + 2 * B + (i - o * 2 - 2 * B) = i by omega]
      simp [laid, k1, k2]
end Go.Proofs.Ythkocodajjapmaa
namespace Go.Proofs.Ythkocodajjapmaa
open Go.RowKit
set_option linter.unusedVariables false
set_option maxRecDepth 20000
/-- The leaves, as far as i. -/
def leavesTo (E : Nat → Int) (n K i : Nat) (U : Nat → Int × Int) : Prop := ∀ j, j < i → U (K + j) = nd E n j (j + 1)
/-- The nodes above x. -/
def nodesFrom (E : Nat → Int) (n H x : Nat) (U : Nat → Int × Int) : Prop := ∀ y h a, x < y → h ≤ H → y * 2 ^ h = 2 ^ H + a → a < 2 ^ H → U (y - 1) = nd E n a (a + 2 ^ h)
theorem nodesFrom.leaves {E : Nat → Int} {n K H : Nat} {U : Nat → Int × Int} (hK : K + 1 = 2 ^ H) (h : leavesTo E n K (K + 1) U) : nodesFrom E n H K U := fun y k a hy hk he ha => by
  cases k with
  | zero =>
    rw [Nat.pow_zero, Nat.mul_one] at he
    have := h a (by omega)
    rw [show y - 1 = K + a by omega, this]
  | succ k =>
    have := node_kids hk he ha
    have hp : 0 < 2 ^ k := Nat.two_pow_pos k
    have := node_end hk he ha
    exfalso
    have h1 : 2 ^ H ≤ y := by omega
    have h2 := Nat.mul_le_mul h1 (show 2 ≤ 2 ^ (k + 1) by rw [pow_up]; omega)
    omega
theorem nodesFrom.next {E : Nat → Int} {n H x : Nat} {U : Nat → Int × Int} (h : nodesFrom E n H x U) (hx1 : 1 ≤ x) (hx : x < 2 ^ H) : nodesFrom E n H (x - 1) (upd U (x - 1) (joinN (U (2 * x - 1)) (U (2 * x + 1 - 1)))) := fun y k a hy hk he ha => by
  by_cases e : y = x
  · subst e
    cases k with
    | zero => rw [Nat.pow_zero, Nat.mul_one] at he; omega
    | succ k =>
      obtain ⟨k1, k2, k3⟩ := node_kids hk he ha
      have h1 := h (2 * y) k a (by omega) (by omega) k1 ha
      have h2 := h (2 * y + 1) k (a + 2 ^ k) (by omega) (by omega) k2 k3
      unfold upd
      rw [if_pos rfl, h1, h2, nd_join E n _ _ _ (Nat.le_add_right _ _) (Nat.le_add_right _ _), pow_up, show a + 2 ^ k + 2 ^ k = a + 2 * 2 ^ k by omega]
  · unfold upd
    rw [if_neg (by omega)]
    exact h y k a (by omega) hk he ha
theorem nodesFrom.fits {E : Nat → Int} (hE : Exc E) {n H x : Nat} (hn : n ≤ 1000000) {U : Nat → Int × Int} (h : nodesFrom E n H x U) {y : Nat} (hy : x < y) (hy2 : y < 2 * 2 ^ H) : Fits (U (y - 1)) := by
  obtain ⟨k, a, h1, h2, h3⟩ := node_ex H y (by omega) hy2
  rw [h y k a hy h1 h2 h3]
  exact nd_fits hE hn _ _
end Go.Proofs.Ythkocodajjapmaa
namespace Go.Proofs.Ythkocodajjapmaa
open Go.RowKit
set_option linter.unusedVariables false
theorem blk_ty {w : World} {i : Nat} {T U : TypeId} {cs ds : Array Value} (h : Blk w i T cs) (k : Blk w i U ds) : T = U := by
  unfold Blk at h k
  rw [h] at k
  simp at k
  exact k.2
/-- A row's block. -/
theorem own_blk {w : World} {base n : Nat} {e : TypeId} {v : Value} {xs : List Value} (h : w.ownsRow base e 1 v n xs) {k : Nat} (hk : v.ownBlock = some k) : ∃ cs, Blk w k e cs := by
  rcases h.2 with ⟨rfl, _⟩ | ⟨g, cap, cur, rfl, _, hg, _⟩
  · simp [Value.ownBlock] at hk
  · have : k = g := by simpa [Value.ownBlock] using hk.symm
    subst this
    exact ⟨cur, hg⟩
end Go.Proofs.Ythkocodajjapmaa
namespace Go.Proofs.Ythkocodajjapmaa
open Go.RowKit
set_option linter.unusedVariables false
set_option maxRecDepth 20000
/-- How many more open than close ahead of the place i. -/
def exc (V i : Nat) : Int := 2 * ((pop V i : Nat) : Int) - (i : Int)
theorem exc_next (V i : Nat) : exc V (i + 1) = exc V i + (2 * ((V / 2 ^ i % 2 : Nat) : Int) - 1) := by
  unfold exc
  have h : pop V (i + 1) = pop V i + V / 2 ^ i % 2 := by
    rw [pop_add]
    congr 1
    simp [pop, numL, List.range_succ]
  omega
theorem exc_Exc (V : Nat) : Exc (exc V) := ⟨by unfold exc; simp [pop, numL], fun i => by have := exc_next V i; omega⟩
section
variable (p g V n q : Nat) (d : Bool) (w : World)
end
end Go.Proofs.Ythkocodajjapmaa
namespace Go.Proofs.Ythkocodajjapmaa
open Go.RowKit
set_option linter.unusedVariables false
set_option maxRecDepth 20000
theorem min_two (a b : Nat) (ha : a ≤ 2000000) (hb : b ≤ 2000000) : ∀ w, (Builtin.min_ #[3, 3] 3 #[.int .i64 (a : Int), .int .i64 (b : Int)]).run Try.prog w = .ok (.int .i64 ((min a b : Nat) : Int)) w := fun w => by
  simp [Builtin.min_, Builtin.min2]
  repeat' split
  all_goals omega
theorem mn_bound {E : Nat → Int} (hE : Exc E) {n : Nat} (hn : n ≤ 1000000) (a k : Nat) (h : a + k ≤ n) : -1000000 ≤ mn E a k ∧ mn E a k ≤ 1000000 := by
  obtain ⟨i, h1, h2, h3⟩ := mn_at E a k
  have := hE.bound i
  omega
end Go.Proofs.Ythkocodajjapmaa
namespace Go.Proofs.Ythkocodajjapmaa
open Go.RowKit
set_option linter.unusedVariables false
set_option maxRecDepth 20000
end Go.Proofs.Ythkocodajjapmaa
namespace Go.Proofs.Ythkocodajjapmaa
open Go.RowKit
set_option linter.unusedVariables false
set_option maxRecDepth 100000
end Go.Proofs.Ythkocodajjapmaa
namespace Go.Proofs.Ythkocodajjapmaa
open Go.RowKit
set_option linter.unusedVariables false
set_option maxRecDepth 20000
section
variable (p g V n q : Nat) (d : Bool) (w : World)
end
end Go.Proofs.Ythkocodajjapmaa
