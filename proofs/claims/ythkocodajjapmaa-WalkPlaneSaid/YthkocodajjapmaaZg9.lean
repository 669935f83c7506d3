/- Select's closure, and sort.Search over it. Select. Excesses: how many more open than close ahead of a place; the least of a run; nodes of blocks in a row. -/
import Derived.Test.YthkocodajjapmaaZg8
import Derived.Lib.Hide
namespace Go.Proofs.Ythkocodajjapmaa
open Go.RowKit
set_option linter.unusedVariables false

/-- Whether behind block j enough bits are bit. -/
def Pst (bit : Int) (V n k j : Nat) : Bool := decide (k < cb bit V (min (512 * (j + 1)) n))
theorem pst_mono {bit : Int} {V n k i j : Nat} (h : i ≤ j) (hi : Pst bit V n k i = true) : Pst bit V n k j = true := by
  unfold Pst at *
  rw [decide_eq_true_eq] at *
  have := cb_mono bit V (show min (512 * (i + 1)) n ≤ min (512 * (j + 1)) n by omega)
  omega
structure Caps (w : World) (g : Nat) (k : Int) (b : Nat) (bit : Int) : Prop where
  c0 : w.cell? ⟨b, 0, none⟩ = some (.pointer (some ⟨g, 0, none⟩))
  c1 : w.cell? ⟨b + 1, 0, none⟩ = some (.int .i64 bit)
  c2 : w.cell? ⟨b + 2, 0, none⟩ = some (.int .i64 k)
theorem Caps.drewN {w : World} {g b : Nat} {k bit : Int} (h : Caps w g k b bit) (n : Nat) : Caps (w.drewN n) g k b bit := ⟨h.c0, h.c1, h.c2⟩
end Go.Proofs.Ythkocodajjapmaa
namespace Go.Proofs.Ythkocodajjapmaa
open Go.RowKit
set_option linter.unusedVariables false

theorem Caps.mod {w w' : World} {g b : Nat} {k bit : Int} (h : Caps w g k b bit) (m : Mod (fun i => i = g) w w') (hg : g < b) (hb : b + 3 ≤ w.heap.size) : Caps w' g k b bit :=
  ⟨(m.cell (b := b) (by omega) (by omega) 0).trans h.c0, (m.cell (b := b + 1) (by omega) (by omega) 0).trans h.c1, (m.cell (b := b + 2) (by omega) (by omega) 0).trans h.c2⟩
theorem cb_stay {bit : Int} {V p : Nat} (h : ¬ IsB bit V p) : cb bit V (p + 1) = cb bit V p := by
  unfold IsB at h
  have h3 := pop_le V p
  unfold cb
  by_cases hb : bit = 0
  · have h2 : pop V (p + 1) = pop V p + 1 := pop_bit1 (by simpa [hb] using h)
    simp only [if_pos hb]
    omega
  · simp only [if_neg hb]
    rw [pop_next]
    rw [Nat.testBit_eq_decide_div_mod_eq] at h
    simp [hb] at h
    omega
theorem cb_zero (bit : Int) (V : Nat) : cb bit V 0 = 0 := by have := cb_le bit V 0; omega
/-- Where k of them are ahead there is a place. -/
theorem cb_find (bit : Int) (V k : Nat) : ∀ n, k < cb bit V n → ∃ p, p < n ∧ IsB bit V p ∧ cb bit V p = k := by
  intro n
  induction n with
  | zero => intro h; rw [cb_zero] at h; omega
  | succ n ih =>
    intro h
    by_cases h1 : k < cb bit V n
    · obtain ⟨p, h2, h3⟩ := ih h1
      exact ⟨p, by omega, h3⟩
    · by_cases hI : IsB bit V n
      · rw [cb_next hI] at h
        exact ⟨n, by omega, hI, by omega⟩
      · rw [cb_stay hI] at h
        omega
/-- The block that the search finds. -/
theorem found_blk {bit : Int} {V n k r : Nat} (hk : k < cb bit V n) (hr : r ≤ blk n) (hlo : ∀ x, x < r → Pst bit V n k x = false) : r < blk n ∧ min (512 * r) n = 512 * r ∧ cb bit V (512 * r) ≤ k := by
  have hn : 0 < n := by
    rcases Nat.eq_zero_or_pos n with h0 | h0
    · subst h0
      rw [cb_zero] at hk; omega
    · exact h0
  have hb : 0 < blk n := by unfold blk; omega
  have h1 : r < blk n := by
    rcases Nat.lt_or_ge r (blk n) with h1 | h1
    · exact h1
    · have := hlo (blk n - 1) (by omega)
      unfold Pst at this
      rw [show min (512 * (blk n - 1 + 1)) n = n by unfold blk; omega, decide_eq_true hk] at this
      cases this
  have h2 : min (512 * r) n = 512 * r := by unfold blk at h1; omega
  refine ⟨h1, h2, ?_⟩
  rcases Nat.eq_zero_or_pos r with h0 | h0
  · subst h0
    rw [Nat.mul_zero, cb_zero]; omega
  · have := hlo (r - 1) (by omega)
    unfold Pst at this
    rw [show r - 1 + 1 = r by omega, h2] at this
    exact Nat.le_of_not_lt (of_decide_eq_false this)
end Go.Proofs.Ythkocodajjapmaa
namespace Go.Proofs.Ythkocodajjapmaa
set_option linter.unusedVariables false
/-- From place to place one more, or one less. -/
structure Exc (E : Nat → Int) : Prop where
  zero : E 0 = 0
  step : ∀ i, E (i + 1) = E i + 1 ∨ E (i + 1) = E i - 1
theorem Exc.bound {E : Nat → Int} (h : Exc E) (i : Nat) : -(i : Int) ≤ E i ∧ E i ≤ (i : Int) := by
  induction i with
  | zero => rw [h.zero]; exact ⟨by omega, by omega⟩
  | succ i ih => have := h.step i; omega
/-- The least of the places a to a + k. -/
def mn (E : Nat → Int) (a : Nat) : Nat → Int
  | 0 => E a
  | k + 1 => min (mn E a k) (E (a + k + 1))
theorem mn_le (E : Nat → Int) (a : Nat) : ∀ k i, a ≤ i → i ≤ a + k → mn E a k ≤ E i
  | 0, i, h1, h2 => by obtain rfl : a = i := by omega
                       exact Int.le_refl _
  | k + 1, i, h1, h2 => by
    unfold mn
    by_cases h : i = a + k + 1
    · subst h; omega
    · have := mn_le E a k i h1 (by omega); omega
theorem mn_at (E : Nat → Int) (a : Nat) : ∀ k, ∃ i, a ≤ i ∧ i ≤ a + k ∧ mn E a k = E i
  | 0 => ⟨a, by omega, by omega, rfl⟩
  | k + 1 => by
    obtain ⟨i, h1, h2, h3⟩ := mn_at E a k
    unfold mn
    by_cases h : mn E a k ≤ E (a + k + 1)
    · exact ⟨i, h1, by omega, by omega⟩
    · exact ⟨a + k + 1, by omega, by omega, by omega⟩
theorem mn_iff (E : Nat → Int) (a k : Nat) (m : Int) : mn E a k ≤ m ↔ ∃ i, a ≤ i ∧ i ≤ a + k ∧ E i ≤ m :=
  ⟨fun h => by obtain ⟨i, h1, h2, h3⟩ := mn_at E a k; exact ⟨i, h1, h2, by omega⟩,
   fun ⟨i, h1, h2, h3⟩ => by have := mn_le E a k i h1 h2; omega⟩
theorem mn_join (E : Nat → Int) (a j : Nat) : ∀ k, mn E a (j + k) = min (mn E a j) (mn E (a + j) k)
  | 0 => by
    have := mn_le E a j (a + j) (by omega) (by omega)
    show mn E a j = min (mn E a j) (E (a + j))
    omega
  | k + 1 => by
    have ih := mn_join E a j k
    show min (mn E a (j + k)) (E (a + (j + k) + 1)) = min (mn E a j) (min (mn E (a + j) k) (E (a + j + k + 1)))
    rw [ih, show a + (j + k) + 1 = a + j + k + 1 by omega]
    omega
/-- The node of no blocks. -/
def nul : Int × Int := (0, 2147483647)
/-- The node of the blocks from a on, ahead of b, of n bits. -/
def nd (E : Nat → Int) (n a b : Nat) : Int × Int :=
  if n ≤ 512 * a ∨ b ≤ a then nul else (E (min (512 * b) n) - E (512 * a), mn E (512 * a) (min (512 * b) n - 512 * a) - E (512 * a))
def joinN (a b : Int × Int) : Int × Int := if b = nul then a else (a.1 + b.1, min a.2 (a.1 + b.2))
theorem nd_nul {E : Nat → Int} {n a b : Nat} (h : n ≤ 512 * a ∨ b ≤ a) : nd E n a b = nul := by unfold nd; rw [if_pos h]
theorem nd_real {E : Nat → Int} {n a b : Nat} (h1 : 512 * a < n) (h2 : a < b) : nd E n a b = (E (min (512 * b) n) - E (512 * a), mn E (512 * a) (min (512 * b) n - 512 * a) - E (512 * a)) := by
  unfold nd; rw [if_neg (by omega)]
theorem nd_low {E : Nat → Int} {n a b : Nat} (h1 : 512 * a < n) (h2 : a < b) : (nd E n a b).2 ≤ 0 := by
  rw [nd_real h1 h2]
  have := mn_le E (512 * a) (min (512 * b) n - 512 * a) (512 * a) (by omega) (by omega)
  show _ - _ ≤ (0 : Int)
  omega
theorem nd_ne {E : Nat → Int} {n a b : Nat} (h1 : 512 * a < n) (h2 : a < b) : nd E n a b ≠ nul := fun e => by
  have := nd_low (E := E) h1 h2
  rw [e] at this
  exact absurd this (by decide)
theorem nd_join (E : Nat → Int) (n a b c : Nat) (hab : a ≤ b) (hbc : b ≤ c) : joinN (nd E n a b) (nd E n b c) = nd E n a c := by
  by_cases h1 : n ≤ 512 * b ∨ c ≤ b
  · rw [nd_nul h1]
    unfold joinN
    rw [if_pos rfl]
    by_cases h2 : n ≤ 512 * a ∨ b ≤ a
    · rw [nd_nul h2]
      by_cases h3 : n ≤ 512 * a ∨ c ≤ a
      · rw [nd_nul h3]
      · exfalso; omega
    · rw [nd_real (by omega) (by omega), nd_real (by omega) (by omega)]
      have e : min (512 * b) n = min (512 * c) n := by omega
      rw [e]
  · have hne := nd_ne (E := E) (n := n) (a := b) (b := c) (by omega) (by omega)
    unfold joinN
    rw [if_neg hne]
    by_cases h2 : b ≤ a
    · obtain rfl : a = b := by omega
      have hl := nd_low (E := E) (n := n) (a := a) (b := c) (by omega) (by omega)
      rw [nd_nul (E := E) (n := n) (a := a) (b := a) (.inr (Nat.le_refl _))]
      have e1 : (nul.1 + (nd E n a c).1) = (nd E n a c).1 := by show (0 : Int) + _ = _; omega
      have e2 : min nul.2 (nul.1 + (nd E n a c).2) = (nd E n a c).2 := by show min (2147483647 : Int) ((0 : Int) + _) = _; omega
      rw [e1, e2]
    · rw [nd_real (a := a) (b := b) (by omega) (by omega), nd_real (a := b) (b := c) (by omega) (by omega), nd_real (a := a) (b := c) (by omega) (by omega)]
      have e : min (512 * b) n = 512 * b := by omega
      rw [e]
      have hj := mn_join E (512 * a) (512 * b - 512 * a) (min (512 * c) n - 512 * b)
      rw [show 512 * b - 512 * a + (min (512 * c) n - 512 * b) = min (512 * c) n - 512 * a by omega, show 512 * a + (512 * b - 512 * a) = 512 * b by omega] at hj
      simp only [Prod.mk.injEq]
      exact ⟨by omega, by omega⟩
theorem nd_bound {E : Nat → Int} (h : Exc E) {n : Nat} (hn : n ≤ 1000000) (a b : Nat) : -2000000 ≤ (nd E n a b).1 ∧ (nd E n a b).1 ≤ 2000000 ∧ -2000000 ≤ (nd E n a b).2 ∧ (nd E n a b).2 ≤ 2147483647 := by
  by_cases h1 : n ≤ 512 * a ∨ b ≤ a
  · rw [nd_nul h1]; unfold nul; exact ⟨by decide, by decide, by decide, by decide⟩
  · have hl := nd_low (E := E) (n := n) (a := a) (b := b) (by omega) (by omega)
    rw [nd_real (by omega) (by omega)] at hl ⊢
    obtain ⟨i, i1, i2, i3⟩ := mn_at E (512 * a) (min (512 * b) n - 512 * a)
    have b1 := h.bound (min (512 * b) n)
    have b2 := h.bound (512 * a)
    have b3 := h.bound i
    simp only at hl ⊢
    exact ⟨by omega, by omega, by omega, by omega⟩
/-- Is there a place of these blocks where the excess is m or less? -/
def Has (E : Nat → Int) (n a b : Nat) (m : Int) : Prop := ∃ i, 512 * a ≤ i ∧ i ≤ min (512 * b) n ∧ E i ≤ m
theorem has_iff {E : Nat → Int} {n a b : Nat} (h1 : 512 * a < n) (h2 : a < b) (m : Int) : E (512 * a) + (nd E n a b).2 ≤ m ↔ Has E n a b m := by
  rw [nd_real h1 h2]
  show E (512 * a) + (mn E (512 * a) _ - E (512 * a)) ≤ m ↔ _
  rw [show E (512 * a) + (mn E (512 * a) (min (512 * b) n - 512 * a) - E (512 * a)) = mn E (512 * a) (min (512 * b) n - 512 * a) by omega, mn_iff]
  unfold Has
  exact ⟨fun ⟨i, x, y, z⟩ => ⟨i, x, by omega, z⟩, fun ⟨i, x, y, z⟩ => ⟨i, x, by omega, z⟩⟩
theorem has_back {E : Nat → Int} {n a b : Nat} (h1 : 512 * a < n) (h2 : a < b) (m : Int) : E (min (512 * b) n) - (nd E n a b).1 + (nd E n a b).2 ≤ m ↔ Has E n a b m := by
  rw [← has_iff h1 h2]
  rw [nd_real h1 h2]
  show E (min (512 * b) n) - (E (min (512 * b) n) - E (512 * a)) + _ ≤ m ↔ _
  rw [show E (min (512 * b) n) - (E (min (512 * b) n) - E (512 * a)) = E (512 * a) by omega]
theorem nd_end {E : Nat → Int} {n a b : Nat} (h1 : 512 * a < n) (h2 : a < b) : E (512 * a) + (nd E n a b).1 = E (min (512 * b) n) := by
  rw [nd_real h1 h2]
  show E (512 * a) + (E (min (512 * b) n) - E (512 * a)) = _
  omega
/-- The nodes of a tree over 2 ^ H leaves: the x-th one's, so high above the leaves, are those from a on. -/
def TreeOK (E : Nat → Int) (n H : Nat) (T : Nat → Int × Int) : Prop := ∀ x h a, h ≤ H → x * 2 ^ h = 2 ^ H + a → a < 2 ^ H → T x = nd E n a (a + 2 ^ h)
theorem pow_up (h : Nat) : 2 ^ (h + 1) = 2 * 2 ^ h := by rw [Nat.pow_succ]; omega
/-- Which leaves lie below a node: the halves of them. -/
theorem node_kids {H h x a : Nat} (hh : h + 1 ≤ H) (hx : x * 2 ^ (h + 1) = 2 ^ H + a) (ha : a < 2 ^ H) :
    (2 * x) * 2 ^ h = 2 ^ H + a ∧ (2 * x + 1) * 2 ^ h = 2 ^ H + (a + 2 ^ h) ∧ a + 2 ^ h < 2 ^ H := by
  have e : (2 * x) * 2 ^ h = x * 2 ^ (h + 1) := by rw [pow_up, ← Nat.mul_assoc, Nat.mul_comm 2 x]
  refine ⟨by rw [e, hx], by rw [Nat.add_mul, e, hx]; omega, ?_⟩
  obtain ⟨d, rfl⟩ : ∃ d, H = h + 1 + d := ⟨H - (h + 1), by omega⟩
  have e2 : 2 ^ (h + 1 + d) = 2 ^ d * 2 ^ (h + 1) := by rw [Nat.pow_add, Nat.mul_comm]
  rw [e2] at hx ha ⊢
  have hp : 0 < 2 ^ h := Nat.two_pow_pos h
  rw [pow_up] at *
  generalize 2 ^ h = P at *
  generalize 2 ^ d = D at *
  have h1 : x * (2 * P) < 2 * (D * (2 * P)) := by omega
  have h2 : x < 2 * D := by
    rcases Nat.lt_or_ge x (2 * D) with h | h
    · exact h
    · have := Nat.mul_le_mul_right (2 * P) h
      rw [Nat.mul_assoc] at this; omega
  have h3 : (x + 1) * (2 * P) ≤ 2 * D * (2 * P) := Nat.mul_le_mul_right _ h2
  rw [Nat.add_mul, Nat.mul_assoc] at h3
  omega
/-- A node's end is no more than the leaves' end; its number is at most the last leaf's. -/
theorem node_end {H h x a : Nat} (hh : h ≤ H) (hx : x * 2 ^ h = 2 ^ H + a) (ha : a < 2 ^ H) : a + 2 ^ h ≤ 2 ^ H ∧ 1 ≤ x ∧ x < 2 * 2 ^ H := by
  cases h with
  | zero => simp at hx ⊢; omega
  | succ h =>
    have k := node_kids hh hx ha
    have hp : 0 < 2 ^ h := Nat.two_pow_pos h
    have h1 : x * 1 ≤ x * 2 ^ (h + 1) := Nat.mul_le_mul_left _ (Nat.two_pow_pos _)
    refine ⟨?_, ?_, by omega⟩
    · have hd : 2 ^ (h + 1) = 2 * 2 ^ h := pow_up h
      obtain ⟨d, rfl⟩ : ∃ d, H = h + 1 + d := ⟨H - (h + 1), by omega⟩
      have e2 : 2 ^ (h + 1 + d) = 2 ^ d * 2 ^ (h + 1) := by rw [Nat.pow_add, Nat.mul_comm]
      rw [e2, hd] at hx ha ⊢
      generalize 2 ^ h = P at *
      generalize 2 ^ d = D at *
      have h2 : x < 2 * D := by
        rcases Nat.lt_or_ge x (2 * D) with h | h
        · exact h
        · have := Nat.mul_le_mul_right (2 * P) h
          rw [Nat.mul_assoc] at this; omega
      have h3 : (x + 1) * (2 * P) ≤ 2 * D * (2 * P) := Nat.mul_le_mul_right _ h2
      rw [Nat.add_mul, Nat.mul_assoc] at h3
      omega
    · rcases Nat.eq_zero_or_pos x with h0 | h0
      · subst h0; have := Nat.two_pow_pos H; omega
      · exact h0
/-- An inner node, by its kids. -/
theorem tree_kids {E : Nat → Int} {n H : Nat} {T : Nat → Int × Int} {x h a : Nat} (ht : TreeOK E n H T) (hh : h + 1 ≤ H) (hx : x * 2 ^ (h + 1) = 2 ^ H + a) (ha : a < 2 ^ H) :
    T (2 * x) = nd E n a (a + 2 ^ h) ∧ T (2 * x + 1) = nd E n (a + 2 ^ h) (a + 2 ^ h + 2 ^ h) := by
  obtain ⟨k1, k2, k3⟩ := node_kids hh hx ha
  exact ⟨ht _ h a (by omega) k1 ha, ht _ h _ (by omega) k2 k3⟩
/-- Where a node hangs: every number from 1 on is one's. -/
theorem node_ex (H : Nat) : ∀ x, 1 ≤ x → x < 2 * 2 ^ H → ∃ h a, h ≤ H ∧ x * 2 ^ h = 2 ^ H + a ∧ a < 2 ^ H := by
  induction H with
  | zero => intro x h1 h2; obtain rfl : x = 1 := by simp at h2; omega
            exact ⟨0, 0, Nat.le_refl _, rfl, by decide⟩
  | succ H ih =>
    intro x h1 h2
    have hd := pow_up H
    rcases Nat.lt_or_ge x (2 * 2 ^ H) with h | h
    · obtain ⟨k, a, p1, p2, p3⟩ := ih x h1 h
      refine ⟨k + 1, 2 * a, by omega, ?_, by omega⟩
      rw [pow_up, Nat.mul_left_comm, p2]; omega
    · exact ⟨0, x - 2 ^ (H + 1), by omega, by rw [Nat.pow_zero]; omega, by omega⟩
/-- The parent of a node that is the one met last, forth: its blocks end where the node's do. -/
theorem up_forth {H h x a : Nat} (hx : x * 2 ^ h = 2 ^ H + a) (ha : a < 2 ^ H) (hh : h ≤ H) (ho : x % 2 = 1) (he : a + 2 ^ h < 2 ^ H) :
    ∃ a', (x / 2) * 2 ^ (h + 1) = 2 ^ H + a' ∧ a' + 2 ^ (h + 1) = a + 2 ^ h ∧ h + 1 ≤ H ∧ a' < 2 ^ H := by
  have hp : 0 < 2 ^ h := Nat.two_pow_pos h
  have e : x = 2 * (x / 2) + 1 := by omega
  have hd := pow_up h
  have hlt : h < H := by
    rcases Nat.lt_or_ge h H with k | k
    · exact k
    · obtain rfl : h = H := by omega
      omega
  obtain ⟨d, rfl⟩ : ∃ d, H = h + 1 + d := ⟨H - (h + 1), by omega⟩
  have e2 : 2 ^ (h + 1 + d) = 2 ^ d * (2 * 2 ^ h) := by rw [Nat.pow_add, Nat.mul_comm, hd]
  rw [e2] at hx ha he ⊢
  rw [hd]
  generalize 2 ^ h = P at *
  have hdp : 0 < 2 ^ d := Nat.two_pow_pos d
  generalize 2 ^ d = D at *
  generalize x / 2 = y at *
  rw [e, Nat.add_mul, Nat.mul_right_comm, Nat.one_mul] at hx
  have e4 : y * (2 * P) = 2 * P * y := Nat.mul_comm _ _
  rw [Nat.mul_comm (2 * P) y] at *
  have hy : D ≤ y := by
    rcases Nat.lt_or_ge y D with k | k
    · have := Nat.mul_le_mul_right (2 * P) (show y + 1 ≤ D by omega)
      rw [Nat.add_mul] at this; omega
    · exact k
  have h3 := Nat.mul_le_mul_right (2 * P) hy
  exact ⟨y * (2 * P) - D * (2 * P), by omega, by omega, by omega, by omega⟩
/-- The parent of a node that is the one met last, back: its blocks begin where the node's do. -/
theorem up_back {H h x a : Nat} (hx : x * 2 ^ h = 2 ^ H + a) (ha : a < 2 ^ H) (hh : h ≤ H) (ho : x % 2 = 0) (he : 0 < a) :
    (x / 2) * 2 ^ (h + 1) = 2 ^ H + a ∧ h + 1 ≤ H := by
  have e : x = 2 * (x / 2) := by omega
  have hd := pow_up h
  constructor
  · rw [hd, ← Nat.mul_assoc, Nat.mul_comm _ 2, ← e, hx]
  · rcases Nat.lt_or_ge h H with k | k
    · omega
    · obtain rfl : h = H := by omega
      exfalso
      have hp : 0 < 2 ^ h := Nat.two_pow_pos h
      generalize x / 2 = y at *
      subst e
      generalize 2 ^ h = P at *
      rw [Nat.mul_right_comm] at hx
      have : y = 0 ∨ 1 ≤ y := by omega
      rcases this with rfl | hy
      · simp at hx; omega
      · have := Nat.mul_le_mul_right (2 * P) hy
        rw [Nat.mul_comm y (2 * P)] at this
        omega
end Go.Proofs.Ythkocodajjapmaa
