/- Rank: what stands ahead of a place. Rank; At; how many there are of a bit; what stands ahead of a block. The place of a word's one with so many ones ahead of it. What else the index answers without its directory. How many are ahead of a block; how many in all. place: where the bit stands that has so many ahead of it. Select's closure, and sort.Search over it. Select. Excesses: how many more open than close ahead of a place; the least of a run; nodes of blocks in a row. Pairs of balanced parentheses; the first place beyond another where the excess is low; the document's stack. -/
import Derived.Test.YtgcbdoljapnecaaZg6
import Derived.Deep.QuietTactic
import Derived.BigQuiet
import Derived.Shelf.Spec.TrailingZeros
import Derived.Lib.Hide
namespace Go.Proofs.Ytgcbdoljapnecaa
open Go.RowKit
set_option linter.unusedVariables false

end Go.Proofs.Ytgcbdoljapnecaa
namespace Go.Proofs.Ytgcbdoljapnecaa
open Go.RowKit
set_option linter.unusedVariables false

/-! ### Rank -/
end Go.Proofs.Ytgcbdoljapnecaa
namespace Go.Proofs.Ytgcbdoljapnecaa
open Go.RowKit
set_option linter.unusedVariables false

theorem pop_next (x i : Nat) : pop x (i + 1) = pop x i + x / 2 ^ i % 2 := by
  rw [pop_add]
  congr 1
  simp [pop, numL, List.range_succ]
theorem pop_bit1 {x i : Nat} (h : x.testBit i = true) : pop x (i + 1) = pop x i + 1 := by
  rw [pop_next]
  rw [Nat.testBit_eq_decide_div_mod_eq, decide_eq_true_iff] at h
  rw [h]
theorem pop_mono (x : Nat) {a b : Nat} (h : a ≤ b) : pop x a ≤ pop x b := by
  obtain ⟨d, rfl⟩ : ∃ d, b = a + d := ⟨b - a, by omega⟩
  rw [pop_add]; omega
/-- There is a one with just so many ahead. -/
theorem one_at (x j : Nat) : ∀ c, j < pop x c → ∃ i, i < c ∧ x.testBit i = true ∧ pop x i = j := by
  intro c
  induction c with
  | zero => intro h; simp [pop, numL] at h
  | succ c ih =>
    intro h
    by_cases hb : x.testBit c = true
    · rw [pop_bit1 hb] at h
      by_cases he : pop x c = j
      · exact ⟨c, by omega, hb, he⟩
      · obtain ⟨i, h1, h2, h3⟩ := ih (by omega)
        exact ⟨i, by omega, h2, h3⟩
    · have : pop x (c + 1) = pop x c := by
        rw [pop_next]
        rw [Nat.testBit_eq_decide_div_mod_eq, decide_eq_true_iff] at hb
        omega
      rw [this] at h
      obtain ⟨i, h1, h2, h3⟩ := ih h
      exact ⟨i, by omega, h2, h3⟩
theorem one_unique {x i c : Nat} (hi : x.testBit i = true) (hc : x.testBit c = true) (he : pop x i = pop x c) : i = c := by
  rcases Nat.lt_trichotomy i c with h | h | h
  · have h1 := pop_mono x (show i + 1 ≤ c by omega)
    rw [pop_bit1 hi] at h1; omega
  · exact h
  · have h1 := pop_mono x (show c + 1 ≤ i by omega)
    rw [pop_bit1 hc] at h1; omega
/-- The word without its lowest one. -/
theorem clr_bit {y c m : Nat} (h : y = 2 ^ c * (2 * m + 1)) (i : Nat) : (y &&& (y - 1)).testBit i = (y.testBit i && decide (i ≠ c)) := by
  have h1 : y - 1 = 2 ^ c * (2 * m) + (2 ^ c - 1) := by
    have := Nat.two_pow_pos c
    rw [h, Nat.mul_add, Nat.mul_one]; omega
  have h2 : y = 2 ^ c * (2 * m + 1) + 0 := by rw [h]; rfl
  have hlt : 2 ^ c - 1 < 2 ^ c := by have := Nat.two_pow_pos c; omega
  rw [Nat.testBit_and, h1, Nat.testBit_two_pow_mul_add _ hlt]
  rw [h2, Nat.testBit_two_pow_mul_add _ (Nat.two_pow_pos c)]
  by_cases hic : i < c
  · simp [hic]
  · by_cases he : i = c
    · subst he; simp
    · obtain ⟨k, hk⟩ : ∃ k, i - c = k + 1 := ⟨i - c - 1, by omega⟩
      simp only [hic, if_false, hk, Nat.testBit_succ]
      rw [show (2 * m + 1) / 2 = m by omega, show 2 * m / 2 = m by omega]
      simp [he]
/-- y is x without its j lowest ones. -/
def Cleared (x j y : Nat) : Prop := y < 2 ^ 64 ∧ ∀ i, y.testBit i = (x.testBit i && decide (j ≤ pop x i))
theorem Cleared.first {x j y : Nat} (h : Cleared x j y) (h0 : y ≠ 0) : ∃ m, y = 2 ^ Lib.ctz 64 y * (2 * m + 1) ∧ Lib.ctz 64 y < 64 ∧ x.testBit (Lib.ctz 64 y) = true ∧ pop x (Lib.ctz 64 y) = j := by
  obtain ⟨m, hm, hc⟩ := Lib.ctzFrom_spec 64 y (by omega) h.1
  have e : Lib.ctz 64 y = Lib.ctzFrom 64 y := by simp [Lib.ctz, h0]
  rw [e]
  generalize Lib.ctzFrom 64 y = c at *
  have hb : ∀ i, y.testBit i = if i < c then false else (2 * m + 1).testBit (i - c) := fun i => by
    rw [show y = 2 ^ c * (2 * m + 1) + 0 by rw [hm]; rfl, Nat.testBit_two_pow_mul_add _ (Nat.two_pow_pos c)]
    simp
  have hyc : y.testBit c = true := by rw [hb c]; simp
  have hxc := h.2 c
  rw [hyc] at hxc
  have hx2 := Bool.and_eq_true_iff.1 hxc.symm
  have hjc : j ≤ pop x c := of_decide_eq_true hx2.2
  refine ⟨m, hm, hc, hx2.1, ?_⟩
  by_cases he : pop x c = j
  · exact he
  · obtain ⟨i, h1, h2, h3⟩ := one_at x j c (by omega)
    have := h.2 i
    rw [hb i, if_pos h1, h2, h3, decide_eq_true (Nat.le_refl j)] at this
    simp at this
theorem Cleared.next {x j y : Nat} (h : Cleared x j y) (h0 : y ≠ 0) : Cleared x (j + 1) (y &&& (y - 1)) := by
  obtain ⟨m, hm, hc, hxc, hpc⟩ := h.first h0
  refine ⟨Nat.lt_of_le_of_lt Nat.and_le_left h.1, fun i => ?_⟩
  rw [clr_bit hm i, h.2 i]
  generalize Lib.ctz 64 y = c at *
  by_cases hx : x.testBit i = true
  · rw [hx]
    by_cases hi : i = c
    · subst hi
      rw [hpc]; simp
    · have hne : pop x i ≠ j := fun e => hi (one_unique hx hxc (by rw [e, hpc]))
      simp [hi]
      omega
  · simp only [Bool.not_eq_true] at hx
    rw [hx]; simp
end Go.Proofs.Ytgcbdoljapnecaa
namespace Go.Proofs.Ytgcbdoljapnecaa
open Go.RowKit
set_option linter.unusedVariables false
section
variable (g V n q : Nat) (d : Bool) (w : World)
end
end Go.Proofs.Ytgcbdoljapnecaa
namespace Go.Proofs.Ytgcbdoljapnecaa
open Go.RowKit
set_option linter.unusedVariables false
end Go.Proofs.Ytgcbdoljapnecaa
namespace Go.Proofs.Ytgcbdoljapnecaa
open Go.RowKit
set_option linter.unusedVariables false

end Go.Proofs.Ytgcbdoljapnecaa
namespace Go.Proofs.Ytgcbdoljapnecaa
open Go.RowKit
set_option linter.unusedVariables false

structure Caps (w : World) (g : Nat) (k : Int) (b : Nat) (bit : Int) : Prop where
  c0 : w.cell? ⟨b, 0, none⟩ = some (.pointer (some ⟨g, 0, none⟩))
  c1 : w.cell? ⟨b + 1, 0, none⟩ = some (.int .i64 bit)
  c2 : w.cell? ⟨b + 2, 0, none⟩ = some (.int .i64 k)
theorem Caps.drewN {w : World} {g b : Nat} {k bit : Int} (h : Caps w g k b bit) (n : Nat) : Caps (w.drewN n) g k b bit := ⟨h.c0, h.c1, h.c2⟩
end Go.Proofs.Ytgcbdoljapnecaa
namespace Go.Proofs.Ytgcbdoljapnecaa
open Go.RowKit
set_option linter.unusedVariables false

theorem Caps.mod {w w' : World} {g b : Nat} {k bit : Int} (h : Caps w g k b bit) (m : Mod (fun i => i = g) w w') (hg : g < b) (hb : b + 3 ≤ w.heap.size) : Caps w' g k b bit :=
  ⟨(m.cell (b := b) (by omega) (by omega) 0).trans h.c0, (m.cell (b := b + 1) (by omega) (by omega) 0).trans h.c1, (m.cell (b := b + 2) (by omega) (by omega) 0).trans h.c2⟩
end Go.Proofs.Ytgcbdoljapnecaa
namespace Go.Proofs.Ytgcbdoljapnecaa
set_option linter.unusedVariables false
/-- From place to place one more, or one less. -/
structure Exc (E : Nat → Int) : Prop where
  zero : E 0 = 0
  step : ∀ i, E (i + 1) = E i + 1 ∨ E (i + 1) = E i - 1
/-- The least of the places a to a + k. -/
def mn (E : Nat → Int) (a : Nat) : Nat → Int
  | 0 => E a
  | k + 1 => min (mn E a k) (E (a + k + 1))
theorem mn_le (E : Nat → Int) (a : Nat) : ∀ k i, a ≤ i → i ≤ a + k → mn E a k ≤ E i
  | 0, i, h1, h2 => by obtain rfl : a = i := by omega
                       exact Int.le_refl _
  | k + 1, i, h1, h2 => by
    unfold mn
    by_cases h : i = a + k + 1
    · subst h; omega
    · have := mn_le E a k i h1 (by omega); omega
theorem mn_join (E : Nat → Int) (a j : Nat) : ∀ k, mn E a (j + k) = min (mn E a j) (mn E (a + j) k)
  | 0 => by
    have := mn_le E a j (a + j) (by omega) (by omega)
    show mn E a j = min (mn E a j) (E (a + j))
    omega
  | k + 1 => by
    have ih := mn_join E a j k
    show min (mn E a (j + k)) (E (a + (j + k) + 1)) = min (mn E a j) (min (mn E (a + j) k) (E (a + j + k + 1)))
    rw [ih, show a + (j + k) + 1 = a + j + k + 1 by omega]
    omega
/-- The node of no blocks. -/
def nul : Int × Int := (0, 2147483647)
/-- The node of the blocks from a on, ahead of b, of n bits. -/
def nd (E : Nat → Int) (n a b : Nat) : Int × Int :=
  if n ≤ 512 * a ∨ b ≤ a then nul else (E (min (512 * b) n) - E (512 * a), mn E (512 * a) (min (512 * b) n - 512 * a) - E (512 * a))
def joinN (a b : Int × Int) : Int × Int := if b = nul then a else (a.1 + b.1, min a.2 (a.1 + b.2))
theorem nd_nul {E : Nat → Int} {n a b : Nat} (h : n ≤ 512 * a ∨ b ≤ a) : nd E n a b = nul := by unfold nd; rw [if_pos h]
theorem nd_real {E : Nat → Int} {n a b : Nat} (h1 : 512 * a < n) (h2 : a < b) : nd E n a b = (E (min (512 * b) n) - E (512 * a), mn E (512 * a) (min (512 * b) n - 512 * a) - E (512 * a)) := by
  unfold nd; rw [if_neg (by omega)]
theorem nd_low {E : Nat → Int} {n a b : Nat} (h1 : 512 * a < n) (h2 : a < b) : (nd E n a b).2 ≤ 0 := by
  rw [nd_real h1 h2]
  have := mn_le E (512 * a) (min (512 * b) n - 512 * a) (512 * a) (by omega) (by omega)
  show _ - _ ≤ (0 : Int)
  omega
theorem nd_ne {E : Nat → Int} {n a b : Nat} (h1 : 512 * a < n) (h2 : a < b) : nd E n a b ≠ nul := fun e => by
  have := nd_low (E := E) h1 h2
  rw [e] at this
  exact absurd this (by decide)
theorem nd_join (E : Nat → Int) (n a b c : Nat) (hab : a ≤ b) (hbc : b ≤ c) : joinN (nd E n a b) (nd E n b c) = nd E n a c := by
  by_cases h1 : n ≤ 512 * b ∨ c ≤ b
  · rw [nd_nul h1]
    unfold joinN
    rw [if_pos rfl]
    by_cases h2 : n ≤ 512 * a ∨ b ≤ a
    · rw [nd_nul h2]
      by_cases h3 : n ≤ 512 * a ∨ c ≤ a
      · rw [nd_nul h3]
      · exfalso; omega
    · rw [nd_real (by omega) (by omega), nd_real (by omega) (by omega)]
      have e : min (512 * b) n = min (512 * c) n := by omega
      rw [e]
  · have hne := nd_ne (E := E) (n := n) (a := b) (b := c) (by omega) (by omega)
    unfold joinN
    rw [if_neg hne]
    by_cases h2 : b ≤ a
    · obtain rfl : a = b := by omega
      have hl := nd_low (E := E) (n := n) (a := a) (b := c) (by omega) (by omega)
      rw [nd_nul (E := E) (n := n) (a := a) (b := a) (.inr (Nat.le_refl _))]
      have e1 : (nul.1 + (nd E n a c).1) = (nd E n a c).1 := by show (0 : Int) + _ = _; omega
      have e2 : min nul.2 (nul.1 + (nd E n a c).2) = (nd E n a c).2 := by show min (2147483647 : Int) ((0 : Int) + _) = _; omega
      rw [e1, e2]
    · rw [nd_real (a := a) (b := b) (by omega) (by omega), nd_real (a := b) (b := c) (by omega) (by omega), nd_real (a := a) (b := c) (by omega) (by omega)]
      have e : min (512 * b) n = 512 * b := by omega
      rw [e]
      have hj := mn_join E (512 * a) (512 * b - 512 * a) (min (512 * c) n - 512 * b)
      rw [show 512 * b - 512 * a + (min (512 * c) n - 512 * b) = min (512 * c) n - 512 * a by omega, show 512 * a + (512 * b - 512 * a) = 512 * b by omega] at hj
      simp only [Prod.mk.injEq]
      exact ⟨by omega, by omega⟩
/-- Is there a place of these blocks where the excess is m or less? -/
def Has (E : Nat → Int) (n a b : Nat) (m : Int) : Prop := ∃ i, 512 * a ≤ i ∧ i ≤ min (512 * b) n ∧ E i ≤ m
/-- The nodes of a tree over 2 ^ H leaves: the x-th one's, so high above the leaves, are those from a on. -/
def TreeOK (E : Nat → Int) (n H : Nat) (T : Nat → Int × Int) : Prop := ∀ x h a, h ≤ H → x * 2 ^ h = 2 ^ H + a → a < 2 ^ H → T x = nd E n a (a + 2 ^ h)
theorem pow_up (h : Nat) : 2 ^ (h + 1) = 2 * 2 ^ h := by rw [Nat.pow_succ]; omega
/-- Which leaves lie below a node: the halves of them. -/
theorem node_kids {H h x a : Nat} (hh : h + 1 ≤ H) (hx : x * 2 ^ (h + 1) = 2 ^ H + a) (ha : a < 2 ^ H) :
    (2 * x) * 2 ^ h = 2 ^ H + a ∧ (2 * x + 1) * 2 ^ h = 2 ^ H + (a + 2 ^ h) ∧ a + 2 ^ h < 2 ^ H := by
  have e : (2 * x) * 2 ^ h = x * 2 ^ (h + 1) := by rw [pow_up, ← Nat.mul_assoc, Nat.mul_comm 2 x]
  refine ⟨by rw [e, hx], by rw [Nat.add_mul, e, hx]; omega, ?_⟩
  obtain ⟨d, rfl⟩ : ∃ d, H = h + 1 + d := ⟨H - (h + 1), by omega⟩
  have e2 : 2 ^ (h + 1 + d) = 2 ^ d * 2 ^ (h + 1) := by rw [Nat.pow_add, Nat.mul_comm]
  rw [e2] at hx ha ⊢
  have hp : 0 < 2 ^ h := Nat.two_pow_pos h
  rw [pow_up] at *
  generalize 2 ^ h = P at *
  generalize 2 ^ d = D at *
  have h1 : x * (2 * P) < 2 * (D * (2 * P)) := by omega
  have h2 : x < 2 * D := by
    rcases Nat.lt_or_ge x (2 * D) with h | h
    · exact h
    · have := Nat.mul_le_mul_right (2 * P) h
      rw [Nat.mul_assoc] at this; omega
  have h3 : (x + 1) * (2 * P) ≤ 2 * D * (2 * P) := Nat.mul_le_mul_right _ h2
  rw [Nat.add_mul, Nat.mul_assoc] at h3
  omega
/-- A node's end is no more than the leaves' end; its number is at most the last leaf's. -/
theorem node_end {H h x a : Nat} (hh : h ≤ H) (hx : x * 2 ^ h = 2 ^ H + a) (ha : a < 2 ^ H) : a + 2 ^ h ≤ 2 ^ H ∧ 1 ≤ x ∧ x < 2 * 2 ^ H := by
  cases h with
  | zero => simp at hx ⊢; omega
  | succ h =>
    have k := node_kids hh hx ha
    have hp : 0 < 2 ^ h := Nat.two_pow_pos h
    have h1 : x * 1 ≤ x * 2 ^ (h + 1) := Nat.mul_le_mul_left _ (Nat.two_pow_pos _)
    refine ⟨?_, ?_, by omega⟩
    · have hd : 2 ^ (h + 1) = 2 * 2 ^ h := pow_up h
      obtain ⟨d, rfl⟩ : ∃ d, H = h + 1 + d := ⟨H - (h + 1), by omega⟩
      have e2 : 2 ^ (h + 1 + d) = 2 ^ d * 2 ^ (h + 1) := by rw [Nat.pow_add, Nat.mul_comm]
      rw [e2, hd] at hx ha ⊢
      generalize 2 ^ h = P at *
      generalize 2 ^ d = D at *
      have h2 : x < 2 * D := by
        rcases Nat.lt_or_ge x (2 * D) with h | h
        · exact h
        · have := Nat.mul_le_mul_right (2 * P) h
          rw [Nat.mul_assoc] at this; omega
      have h3 : (x + 1) * (2 * P) ≤ 2 * D * (2 * P) := Nat.mul_le_mul_right _ h2
      rw [Nat.add_mul, Nat.mul_assoc] at h3
      omega
    · rcases Nat.eq_zero_or_pos x with h0 | h0
      · subst h0; have := Nat.two_pow_pos H; omega
      · exact h0
end Go.Proofs.Ytgcbdoljapnecaa
namespace Go.Proofs.Ytgcbdoljapnecaa
set_option linter.unusedVariables false
/-- Never below nought, and nought behind all. -/
def Bal (E : Nat → Int) (n : Nat) : Prop := (∀ i, i ≤ n → 0 ≤ E i) ∧ E n = 0
/-- The first place behind a where the excess is m or less. -/
structure Fwd (E : Nat → Int) (a n : Nat) (m : Int) (j : Nat) : Prop where
  lt : a < j
  le : j ≤ n
  at_ : E j ≤ m
  above : ∀ k, a < k → k < j → m < E k
/-- The last place ahead of a where the excess is m or less. -/
structure Bwd (E : Nat → Int) (a : Nat) (m : Int) (j : Nat) : Prop where
  lt : j < a
  at_ : E j ≤ m
  above : ∀ k, j < k → k < a → m < E k
theorem Fwd.uniq {E : Nat → Int} {a n : Nat} {m : Int} {i j : Nat} (h : Fwd E a n m i) (k : Fwd E a n m j) : i = j := by
  rcases Nat.lt_trichotomy i j with x | x | x
  · have := k.above i h.lt x; have := h.at_; omega
  · exact x
  · have := h.above j k.lt x; have := k.at_; omega
theorem Bwd.uniq {E : Nat → Int} {a : Nat} {m : Int} {i j : Nat} (h : Bwd E a m i) (k : Bwd E a m j) : i = j := by
  rcases Nat.lt_trichotomy i j with x | x | x
  · have := h.above j x k.lt; have := k.at_; omega
  · exact x
  · have := k.above i x h.lt; have := h.at_; omega
/-- If not so far, then from there on. -/
theorem Fwd.on {E : Nat → Int} {a b n : Nat} {m : Int} {j : Nat} (h : Fwd E b n m j) (hab : a ≤ b) (hb : ∀ k, a < k → k ≤ b → m < E k) : Fwd E a n m j :=
  ⟨by have := h.lt; omega, h.le, h.at_, fun k h1 h2 => by
    rcases Nat.lt_or_ge b k with x | x
    · exact h.above k x h2
    · exact hb k h1 x⟩
theorem Bwd.on {E : Nat → Int} {a b : Nat} {m : Int} {j : Nat} (h : Bwd E b m j) (hab : b ≤ a) (hb : ∀ k, b ≤ k → k < a → m < E k) : Bwd E a m j :=
  ⟨by have := h.lt; omega, h.at_, fun k h1 h2 => by
    rcases Nat.lt_or_ge k b with x | x
    · exact h.above k h1 x
    · exact hb k x h2⟩
/-- The first place behind a where a property holds. -/
theorem first_ex (P : Nat → Prop) (a : Nat) : ∀ d, P (a + 1 + d) → ∃ j, a < j ∧ j ≤ a + 1 + d ∧ P j ∧ ∀ k, a < k → k < j → ¬ P k
  | 0, h => ⟨a + 1, by omega, by omega, h, fun k h1 h2 => by omega⟩
  | d + 1, h => by
    by_cases hx : ∃ i, a < i ∧ i ≤ a + 1 + d ∧ P i
    · obtain ⟨i, h1, h2, h3⟩ := hx
      have := first_ex P a (i - a - 1) (by rw [show a + 1 + (i - a - 1) = i by omega]; exact h3)
      obtain ⟨j, p1, p2, p3, p4⟩ := this
      exact ⟨j, p1, by omega, p3, p4⟩
    · refine ⟨a + 1 + (d + 1), by omega, by omega, h, fun k h1 h2 hk => hx ⟨k, h1, by omega, hk⟩⟩
termination_by d => d
decreasing_by omega
theorem fwd_ex {E : Nat → Int} {a n : Nat} (h : Bal E n) (ha : a < n) {m : Int} (hm : 0 ≤ m) : ∃ j, Fwd E a n m j := by
  obtain ⟨j, h1, h2, h3, h4⟩ := first_ex (fun i => E i ≤ m) a (n - a - 1) (by show E _ ≤ m; rw [show a + 1 + (n - a - 1) = n by omega, h.2]; exact hm)
  exact ⟨j, h1, by omega, h3, fun k p q => by have := h4 k p q; omega⟩
/-- The one at o opens, and the one at i closes, a pair. -/
structure Pair (E : Nat → Int) (o i : Nat) : Prop where
  lt : o < i
  same : E (i + 1) = E o
  above : ∀ k, o < k → k ≤ i → E o < E k
theorem Pair.uniq {E : Nat → Int} {o i j : Nat} (h : Pair E o i) (k : Pair E o j) : i = j := by
  rcases Nat.lt_trichotomy i j with x | x | x
  · have := k.above (i + 1) (by have := h.lt; omega) x; have := h.same; omega
  · exact x
  · have := h.above (j + 1) (by have := k.lt; omega) x; have := k.same; omega
theorem Pair.uniq' {E : Nat → Int} {o p i : Nat} (h : Pair E o i) (k : Pair E p i) : o = p := by
  rcases Nat.lt_trichotomy o p with x | x | x
  · have := h.above p x (by have := k.lt; omega); have := h.same; have := k.same; omega
  · exact x
  · have := k.above o x (by have := h.lt; omega); have := h.same; have := k.same; omega
theorem Pair.opens {E : Nat → Int} (hE : Exc E) {o i : Nat} (h : Pair E o i) : E (o + 1) = E o + 1 := by
  have := h.above (o + 1) (by omega) (by have := h.lt; omega)
  rcases hE.step o with x | x <;> omega
theorem Pair.closes {E : Nat → Int} (hE : Exc E) {o i : Nat} (h : Pair E o i) : E (i + 1) = E i - 1 := by
  have := h.above i h.lt (Nat.le_refl _)
  have := h.same
  rcases hE.step i with x | x <;> omega
/-- What is found behind one that opens is behind its mate. -/
theorem Fwd.pair {E : Nat → Int} (hE : Exc E) {n i j : Nat} (ho : E (i + 1) = E i + 1) (h : Fwd E i n (E i) j) : Pair E i (j - 1) := by
  have h1 := h.lt
  have hne : j ≠ i + 1 := fun e => by have := h.at_; rw [e] at this; omega
  refine ⟨by omega, ?_, fun k p q => h.above k p (by omega)⟩
  rw [show j - 1 + 1 = j by omega]
  have h2 := h.above (j - 1) (by omega) (by omega)
  have h3 := h.at_
  have h4 := hE.step (j - 1)
  rw [show j - 1 + 1 = j by omega] at h4
  omega
theorem Bwd.pair {E : Nat → Int} (hE : Exc E) {i j : Nat} (ho : E (i + 1) = E i - 1) (h : Bwd E (i + 1) (E (i + 1)) j) : Pair E j i := by
  have h1 := h.lt
  have hne : j ≠ i := fun e => by have := h.at_; rw [e] at this; omega
  have h2 := h.above (j + 1) (by omega) (by omega)
  have h3 := h.at_
  have h4 := hE.step j
  refine ⟨by omega, by omega, fun k p q => by have := h.above k p (by omega); omega⟩
theorem Bwd.le {E : Nat → Int} (hE : Exc E) {a j : Nat} {m : Int} (h : Bwd E a m j) (hm : m < E a) : E j = m := by
  have h1 := h.lt
  have h3 := h.at_
  have h4 := hE.step j
  by_cases e : j + 1 = a
  · rw [e] at h4; omega
  · have := h.above (j + 1) (by omega) (by omega); omega
/-- Which pair stands around: where it opens; -1: none. -/
def RoundOK (E : Nat → Int) (i : Nat) (z : Int) : Prop :=
  ∀ a, (E (i + 1) = E i + 1 ∧ a = i ∨ E (i + 1) = E i - 1 ∧ a = i + 1) → if E a = 0 then z = -1 else ∃ j : Nat, z = (j : Int) ∧ Bwd E a (E a - 1) j
theorem RoundOK.uniq {E : Nat → Int} (hE : Exc E) {i : Nat} {y z : Int} (h : RoundOK E i y) (k : RoundOK E i z) : y = z := by
  have : ∃ a, E (i + 1) = E i + 1 ∧ a = i ∨ E (i + 1) = E i - 1 ∧ a = i + 1 := by
    rcases hE.step i with x | x
    · exact ⟨i, .inl ⟨x, rfl⟩⟩
    · exact ⟨i + 1, .inr ⟨x, rfl⟩⟩
  obtain ⟨a, ha⟩ := this
  have h1 := h a ha
  have k1 := k a ha
  by_cases e : E a = 0
  · rw [if_pos e] at h1 k1; omega
  · rw [if_neg e] at h1 k1
    obtain ⟨p, rfl, hp⟩ := h1
    obtain ⟨q, rfl, hq⟩ := k1
    rw [hp.uniq hq]
/-- What stands open at i: the places s of those that open, from without to within. -/
def Stack (E : Nat → Int) (i : Nat) (s : List Nat) : Prop := (s.length : Int) = E i ∧ ∀ j, j < s.length → s.getD j 0 < i ∧ E (s.getD j 0) = (j : Int) ∧ ∀ k, s.getD j 0 < k → k ≤ i → (j : Int) < E k
theorem Stack.nil {E : Nat → Int} (hE : Exc E) : Stack E 0 [] := ⟨by rw [hE.zero]; rfl, fun j hj => by simp at hj⟩
theorem getD_snoc (s : List Nat) (x j : Nat) : (s ++ [x]).getD j 0 = if j < s.length then s.getD j 0 else if j = s.length then x else 0 := by
  by_cases h : j < s.length
  · rw [if_pos h, List.getD_eq_getElem?_getD, List.getElem?_append_left h, ← List.getD_eq_getElem?_getD]
  · rw [if_neg h, List.getD_eq_getElem?_getD, List.getElem?_append_right (by omega)]
    by_cases e : j = s.length
    · rw [if_pos e, e, Nat.sub_self]; rfl
    · rw [if_neg e, List.getElem?_eq_none (by simp; omega)]; rfl
theorem Stack.push {E : Nat → Int} {i : Nat} {s : List Nat} (h : Stack E i s) (ho : E (i + 1) = E i + 1) : Stack E (i + 1) (s ++ [i]) := by
  refine ⟨by have := h.1; simp; omega, fun j hj => ?_⟩
  rw [getD_snoc]
  simp only [List.length_append, List.length_cons, List.length_nil] at hj
  by_cases hlt : j < s.length
  · rw [if_pos hlt]
    obtain ⟨h1, h2, h3⟩ := h.2 j hlt
    refine ⟨by omega, h2, fun k p q => ?_⟩
    by_cases e : k = i + 1
    · have := h.1; rw [e]; omega
    · exact h3 k p (by omega)
  · rw [if_neg hlt, if_pos (by omega)]
    have h1 := h.1
    refine ⟨by omega, by omega, fun k p q => ?_⟩
    obtain rfl : k = i + 1 := by omega
    omega
theorem Stack.pop {E : Nat → Int} {i : Nat} {s : List Nat} (h : Stack E i s) (ho : E (i + 1) = E i - 1) (h0 : 0 < s.length) : Stack E (i + 1) (s.take (s.length - 1)) ∧ Pair E (s.getD (s.length - 1) 0) i := by
  have hl := h.1
  constructor
  · refine ⟨by rw [List.length_take]; omega, fun j hj => ?_⟩
    rw [List.length_take] at hj
    have e : (s.take (s.length - 1)).getD j 0 = s.getD j 0 := by
      rw [List.getD_eq_getElem?_getD, List.getElem?_take, if_pos (by omega), ← List.getD_eq_getElem?_getD]
    rw [e]
    obtain ⟨h1, h2, h3⟩ := h.2 j (by omega)
    refine ⟨by omega, h2, fun k p q => ?_⟩
    by_cases e : k = i + 1
    · rw [e]; omega
    · exact h3 k p (by omega)
  · obtain ⟨h1, h2, h3⟩ := h.2 (s.length - 1) (by omega)
    refine ⟨h1, by omega, fun k p q => by have := h3 k p q; omega⟩
/-- The mates and the pairs around, as far as they are known at i. -/
structure KnownP (E : Nat → Int) (i : Nat) (y z : Nat → Int) : Prop where
  close : ∀ p, p < i → E (p + 1) = E p - 1 → ∃ o : Nat, y p = (o : Int) ∧ Pair E o p
  open_ : ∀ p, p < i → ∀ q, q < i → Pair E p q → y p = (q : Int)
  round : ∀ p, p < i → RoundOK E p (z p)
theorem KnownP.zero (E : Nat → Int) (y z : Nat → Int) : KnownP E 0 y z := ⟨fun p h => by omega, fun p h => by omega, fun p h => by omega⟩
theorem KnownP.push {E : Nat → Int} (hE : Exc E) {i : Nat} {y z z' : Nat → Int} {s : List Nat} (h : KnownP E i y z) (hs : Stack E i s) (ho : E (i + 1) = E i + 1)
    (hz : ∀ p, p ≠ i → z' p = z p) (hi : if s.length = 0 then z' i = -1 else z' i = ((s.getD (s.length - 1) 0 : Nat) : Int)) : KnownP E (i + 1) y z' := by
  refine ⟨fun p hp hc => ?_, fun p hp q hq hpq => ?_, fun p hp => ?_⟩
  · have : p ≠ i := fun e => by subst e; omega
    exact h.close p (by omega) hc
  · have h1 : q ≠ i := fun e => by subst e; have := hpq.closes hE; omega
    have h2 := hpq.lt
    exact h.open_ p (by omega) q (by omega) hpq
  · by_cases e : p = i
    · subst e
      intro a ha
      obtain rfl : a = p := by rcases ha with x | x <;> omega
      have hl := hs.1
      by_cases h0 : s.length = 0
      · rw [if_pos h0] at hi
        rw [if_pos (by omega)]
        exact hi
      · rw [if_neg h0] at hi
        rw [if_neg (by omega)]
        obtain ⟨h1, h2, h3⟩ := hs.2 (s.length - 1) (by omega)
        exact ⟨_, hi, h1, by omega, fun k p q => by have := h3 k p (by omega); omega⟩
    · rw [hz p e]; exact h.round p (by omega)
theorem KnownP.pop {E : Nat → Int} (hE : Exc E) {i o : Nat} {y z y' z' : Nat → Int} (h : KnownP E i y z) (hp : Pair E o i)
    (hy : ∀ p, p ≠ i → p ≠ o → y' p = y p) (hyi : y' i = (o : Int)) (hyo : y' o = (i : Int)) (hz : ∀ p, p ≠ i → z' p = z p) (hzi : z' i = z o) : KnownP E (i + 1) y' z' := by
  have hc := hp.closes hE
  have hop := hp.opens hE
  have hlt := hp.lt
  refine ⟨fun p hp' hc' => ?_, fun p hp' q hq hpq => ?_, fun p hp' => ?_⟩
  · by_cases e : p = i
    · subst e; exact ⟨o, hyi, hp⟩
    · have : p ≠ o := fun e => by subst e; omega
      rw [hy p e this]; exact h.close p (by omega) hc'
  · by_cases e : p = o
    · subst e
      rw [hyo, hp.uniq hpq]
    · have h1 : q ≠ i := fun e' => by subst e'; exact e (hpq.uniq' hp)
      have h2 : p ≠ i := fun e' => by subst e'; have := hpq.opens hE; omega
      have h3 := hpq.lt
      rw [hy p h2 e]; exact h.open_ p (by omega) q (by omega) hpq
  · by_cases e : p = i
    · subst e
      intro a ha
      obtain rfl : a = p + 1 := by rcases ha with x | x <;> omega
      rw [hzi, hp.same]
      have hr := h.round o hlt o (.inl ⟨hop, rfl⟩)
      by_cases h0 : E o = 0
      · rw [if_pos h0] at hr ⊢; exact hr
      · rw [if_neg h0] at hr ⊢
        obtain ⟨j, hj, hb⟩ := hr
        exact ⟨j, hj, hb.on (by omega) fun k h1 h2 => by
          by_cases e : k = o
          · rw [e]; omega
          · have := hp.above k (by omega) (by omega); omega⟩
    · rw [hz p e]; exact h.round p (by omega)
/-- What the mate of i is. -/
def MateOK (E : Nat → Int) (i : Nat) (y : Int) : Prop := ∃ q : Nat, y = (q : Int) ∧ (Pair E i q ∨ Pair E q i)
theorem MateOK.uniq {E : Nat → Int} (hE : Exc E) {i : Nat} {y z : Int} (h : MateOK E i y) (k : MateOK E i z) : y = z := by
  obtain ⟨p, rfl, hp⟩ := h
  obtain ⟨q, rfl, hq⟩ := k
  rcases hp with hp | hp <;> rcases hq with hq | hq
  · rw [hp.uniq hq]
  · have := hp.opens hE; have := hq.closes hE; omega
  · have := hp.closes hE; have := hq.opens hE; omega
  · rw [hp.uniq' hq]
theorem MateOK.back {E : Nat → Int} {i q : Nat} (h : MateOK E i (q : Int)) : MateOK E q (i : Int) := by
  obtain ⟨p, hp, h⟩ := h
  obtain rfl : q = p := by omega
  exact ⟨i, rfl, h.symm⟩
theorem KnownP.done {E : Nat → Int} (hE : Exc E) {n : Nat} {y z : Nat → Int} (h : KnownP E n y z) (hb : Bal E n) (i : Nat) (hi : i < n) : MateOK E i (y i) ∧ RoundOK E i (z i) := by
  refine ⟨?_, h.round i hi⟩
  rcases hE.step i with x | x
  · obtain ⟨j, hj⟩ := fwd_ex hb hi (hb.1 i (by omega))
    have hp := hj.pair hE x
    have h1 := hj.le
    have h2 := hj.lt
    exact ⟨j - 1, h.open_ i hi (j - 1) (by omega) hp, .inl hp⟩
  · obtain ⟨o, ho, hp⟩ := h.close i hi x
    exact ⟨o, ho, .inr hp⟩
end Go.Proofs.Ytgcbdoljapnecaa
