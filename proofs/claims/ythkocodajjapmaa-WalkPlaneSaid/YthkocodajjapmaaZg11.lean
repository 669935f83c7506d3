/- find: the first block from one on, on a way, where the excess is low. find, back: the last block up to one where the excess is low. leap, seek. Mate, Round. Letters of two sorts and what the directories say of them. The index of a word: what lies in memory, and what a question leaves of it. The index of a word: Len, At, Mate, Owner. Owner of a mixed index. New: an index of the bits that a vector has now. New: the parentheses that bits are. made: of bits; the document's example. The document's Good; ParenIs. The document's balanced ones. -/
import Derived.Test.YthkocodajjapmaaZg10
import Derived.Deep.RegionHeld3
import Derived.Test.YthkocodajjapmaaZg7
import Derived.Test.YthkocodajjapmaaZg9
import Derived.Test.YthkocodajjapmaaZg5
import Derived.Deep.RegionWith
import Derived.BigQuiet
import Derived.Test.YthkocodajjapmaaZg8
import Derived.Deep.QuietTactic
namespace Go.Proofs.Ythkocodajjapmaa
open Go.RowKit
set_option linter.unusedVariables false
set_option maxRecDepth 20000
/-- The tree of n bits, read at S. -/
structure TrAt (w : World) (E : Nat → Int) (n S H M : Nat) (T : Nat → Int × Int) : Prop where
  rd : RdT w S T M
  ok : TreeOK E n H (fun x => T (x - 1))
  lt : S < w.heap.size
  hM : M + 1 = 2 * 2 ^ H
  lv : Lvs ((n + 511) / 512) H
theorem TrAt.below {w w' : World} {E : Nat → Int} {n S H M : Nat} {T : Nat → Int × Int} (h : TrAt w E n S H M T) (m : Below w.heap.size w w') : TrAt w' E n S H M T :=
  ⟨h.rd.below h.lt m, h.ok, by have := m.size; have := h.lt; omega, h.hM, h.lv⟩
/-- x hangs so high above the leaves, over those from a on. -/
def Hang (H x h a : Nat) : Prop := x * 2 ^ h = 2 ^ H + a ∧ h ≤ H ∧ a < 2 ^ H
theorem Hang.log {H x h a : Nat} (k : Hang H x h a) : Nat.log2 x = H - h := by
  obtain ⟨h1, h2, h3⟩ := k
  have hp : 0 < 2 ^ h := Nat.two_pow_pos h
  have e1 : 2 ^ H = 2 ^ (H - h) * 2 ^ h := by rw [← Nat.pow_add, show H - h + h = H by omega]
  have x0 : x ≠ 0 := fun e => by subst e; have := Nat.two_pow_pos H; omega
  have l1 : 2 ^ (H - h) ≤ x := by
    rcases Nat.lt_or_ge x (2 ^ (H - h)) with g | g
    · have := Nat.mul_lt_mul_of_pos_right g hp; omega
    · exact g
  have l2 : x < 2 ^ (H - h + 1) := by
    rcases Nat.lt_or_ge x (2 ^ (H - h + 1)) with g | g
    · exact g
    · have := Nat.mul_le_mul_right (2 ^ h) g
      rw [pow_up, Nat.mul_assoc, ← e1] at this; omega
  have a1 := (Nat.le_log2 x0).2 l1
  have a2 := (Nat.log2_lt x0).2 l2
  omega
/-- Where x's leaves begin, counted from the last one back. -/
def posn (H x : Nat) : Nat := x * 2 ^ (H - Nat.log2 x)
theorem Hang.posn {H x h a : Nat} (k : Hang H x h a) : posn H x = 2 ^ H + a := by
  unfold Go.Proofs.Ythkocodajjapmaa.posn
  rw [k.log, show H - (H - h) = h by have := k.2.1; omega]
  exact k.1
theorem Has.sub {E : Nat → Int} {n a b c d : Nat} {m : Int} (h : Has E n b c m) (h1 : a ≤ b) (h2 : c ≤ d) : Has E n a d m := by
  obtain ⟨i, i1, i2, i3⟩ := h
  exact ⟨i, by omega, by omega, i3⟩
theorem Has.split {E : Nat → Int} {n a b c : Nat} {m : Int} (h : Has E n a c m) (hl : ¬ Has E n a b m) (hbc : b ≤ c) : Has E n b c m ∧ 512 * b < n := by
  obtain ⟨i, i1, i2, i3⟩ := h
  by_cases hi : i ≤ min (512 * b) n
  · exact absurd ⟨i, i1, hi, i3⟩ hl
  · exact ⟨⟨i, by omega, i2, i3⟩, by omega⟩
theorem Has.splitL {E : Nat → Int} {n a b c : Nat} {m : Int} (h : Has E n a c m) (hr : ¬ Has E n b c m) (hab : a ≤ b) : Has E n a b m := by
  obtain ⟨i, i1, i2, i3⟩ := h
  by_cases hi : 512 * b ≤ i
  · exact absurd ⟨i, hi, i2, i3⟩ hr
  · exact ⟨i, i1, by omega, i3⟩
/-- No such place in any of the blocks from j on, ahead of a. -/
def NoHas (E : Nat → Int) (n j a : Nat) (m : Int) : Prop := ∀ k, j ≤ k → k < a → ¬ Has E n k (k + 1) m
theorem NoHas.on {E : Nat → Int} {n j a b : Nat} {m : Int} (h : NoHas E n j a m) (k : ¬ Has E n a b m) : NoHas E n j b m := fun i h1 h2 hi => by
  rcases Nat.lt_or_ge i a with g | g
  · exact h i h1 g hi
  · exact k (hi.sub g (by omega))
theorem NoHas.back {E : Nat → Int} {n a b c : Nat} {m : Int} (h : NoHas E n b c m) (k : ¬ Has E n a b m) : NoHas E n a c m := fun i h1 h2 hi => by
  rcases Nat.lt_or_ge i b with g | g
  · exact k (hi.sub h1 (by omega))
  · exact h i g h2 hi
/-- r is the first block from j on where there is such a place. -/
structure FirstB (E : Nat → Int) (n j : Nat) (m : Int) (r : Nat) : Prop where
  le : j ≤ r
  lt : 512 * r < n
  has : Has E n r (r + 1) m
  none_ : NoHas E n j r m
/-- r is the last block up to j where there is such a place. -/
structure LastB (E : Nat → Int) (n j : Nat) (m : Int) (r : Nat) : Prop where
  le : r ≤ j
  has : Has E n r (r + 1) m
  none_ : NoHas E n (r + 1) (j + 1) m
def FindF (w : World) (E : Nat → Int) (n j : Nat) (m : Int) (e : Ending) (w' : World) : Prop := ∃ r : Nat, e = .returned (.int .i64 (r : Int)) ∧ FirstB E n j m r ∧ Below w.heap.size w w'
end Go.Proofs.Ythkocodajjapmaa
namespace Go.Proofs.Ythkocodajjapmaa
open Go.RowKit
set_option linter.unusedVariables false
set_option maxRecDepth 20000
theorem Hang.left {H x k a : Nat} (h : Hang H x k a) (h0 : 0 < a) : ∃ a', a' + 2 ^ k = a ∧ Hang H (x - 1) k a' := by
  obtain ⟨h1, h2, h3⟩ := h
  have hp : 0 < 2 ^ k := Nat.two_pow_pos k
  have e1 : 2 ^ H = 2 ^ (H - k) * 2 ^ k := by rw [← Nat.pow_add, show H - k + k = H by omega]
  have l1 : 2 ^ (H - k) < x := by
    rcases Nat.lt_or_ge (2 ^ (H - k)) x with g | g
    · exact g
    · have := Nat.mul_le_mul_right (2 ^ k) g; omega
  have l2 := Nat.mul_le_mul_right (2 ^ k) (show 2 ^ (H - k) + 1 ≤ x from l1)
  rw [Nat.add_mul, Nat.one_mul, ← e1] at l2
  have e2 : (x - 1) * 2 ^ k = 2 ^ H + a - 2 ^ k := by rw [Nat.sub_mul, Nat.one_mul, h1]
  exact ⟨a - 2 ^ k, by omega, by rw [e2]; omega, h2, by omega⟩
def FindB (w : World) (E : Nat → Int) (n j : Nat) (m : Int) (e : Ending) (w' : World) : Prop := ∃ r : Nat, e = .returned (.int .i64 (r : Int)) ∧ LastB E n j m r ∧ Below w.heap.size w w'
end Go.Proofs.Ythkocodajjapmaa
namespace Go.Proofs.Ythkocodajjapmaa
open Go.RowKit
set_option linter.unusedVariables false
set_option maxRecDepth 20000
/-- The last place is low. -/
theorem has_end {E : Nat → Int} {n b : Nat} {m : Int} (hB : Bal E n) (hb : 512 * b < n) (hm : 0 ≤ m) : ∃ t, b ≤ t ∧ 512 * t < n ∧ Has E n t (t + 1) m :=
  ⟨(n - 1) / 512, by omega, by omega, n, by omega, by omega, by rw [hB.2]; exact hm⟩
theorem has_start {E : Nat → Int} (hE : Exc E) {n b : Nat} {m : Int} (hm : 0 ≤ m) : ∃ t, t ≤ b ∧ Has E n t (t + 1) m :=
  ⟨0, by omega, 0, by omega, by omega, by rw [hE.zero]; exact hm⟩
section
variable (p g V n q : Nat) (w : World)
/-- Behind the leap it is found. -/
theorem land_f {E : Nat → Int} {n b r j i : Nat} {m : Int} (hi : i < 512 * b) (h1 : ∀ k, i < k → k ≤ 512 * b → m < E k) (hr : FirstB E n b m r) : (∀ k, i < k → k ≤ 512 * r → m < E k) ∧ ∃ k, 512 * r < k ∧ k ≤ min (512 * (r + 1)) n ∧ E k ≤ m := by
  have h2 : ∀ k, i < k → k ≤ 512 * r → m < E k := fun k p q => by
    rcases Nat.lt_or_ge (512 * b) k with x | x
    · have hx := hr.none_ ((k - 1) / 512) (by omega) (by omega)
      rcases Int.lt_or_le m (E k) with y | y
      · exact y
      · exact absurd ⟨k, by omega, by have := hr.lt; omega, y⟩ hx
    · exact h1 k p x
  refine ⟨h2, ?_⟩
  obtain ⟨k, k1, k2, k3⟩ := hr.has
  refine ⟨k, ?_, k2, k3⟩
  rcases Nat.lt_or_ge (512 * r) k with x | x
  · exact x
  · have := h2 k (by have := hr.le; omega) x; omega
theorem land_b {E : Nat → Int} {n b r a : Nat} {m : Int} (hb : 512 * (b + 1) ≤ n) (ha : 512 * (b + 1) < a) (h1 : ∀ k, 512 * (b + 1) ≤ k → k < a → m < E k) (hr : LastB E n b m r) : (∀ k, 512 * (r + 1) ≤ k → k < a → m < E k) ∧ ∃ k, 512 * r ≤ k ∧ k < 512 * (r + 1) ∧ E k ≤ m := by
  have hrl := hr.le
  have h2 : ∀ k, 512 * (r + 1) ≤ k → k < a → m < E k := fun k p q => by
    rcases Nat.lt_or_ge k (512 * (b + 1)) with x | x
    · have hx := hr.none_ (k / 512) (by omega) (by omega)
      rcases Int.lt_or_le m (E k) with y | y
      · exact y
      · exact absurd ⟨k, by omega, by omega, y⟩ hx
    · exact h1 k x q
  refine ⟨h2, ?_⟩
  obtain ⟨k, k1, k2, k3⟩ := hr.has
  refine ⟨k, k1, ?_, k3⟩
  rcases Nat.lt_or_ge k (512 * (r + 1)) with x | x
  · exact x
  · have := h2 k x (by omega); omega
end
end Go.Proofs.Ythkocodajjapmaa
namespace Go.Proofs.Ythkocodajjapmaa
open Go.RowKit
set_option linter.unusedVariables false
set_option maxRecDepth 20000
/-- What may turn: the index, and the parentheses. -/
def Two2 (g p : Nat) (i : Nat) : Prop := i = g ∨ i = p
theorem mod_g {w w' : World} {g p : Nat} (h : Mod (fun i => i = g) w w') : Mod (Two2 g p) w w' := h.mono fun _ _ h => .inl h
theorem mod_p {w w' : World} {g p : Nat} (h : Mod (fun i => i = p) w w') : Mod (Two2 g p) w w' := h.mono fun _ _ h => .inr h
theorem Mod.two {w w1 w2 : World} {g p : Nat} (h : Mod (Two2 g p) w w1) (k : Mod (Two2 g p) w1 w2) : Mod (Two2 g p) w w2 := h.trans k fun _ _ h => h
section
variable (p g V n q : Nat) (d : Bool) (w : World)
end
end Go.Proofs.Ythkocodajjapmaa
namespace Go.Proofs.Ythkocodajjapmaa
set_option linter.unusedVariables false

theorem pop_take {l : List Nat} (h : Bin l) (i : Nat) (hi : i ≤ l.length) : pop (val l) i = (l.take i).sum := by
  have h1 := pop_val (h.take i)
  rw [List.length_take, Nat.min_eq_left hi, val_take h, pop_mod] at h1
  exact h1
theorem shp_sum (ks : List Nat) (h : Kds ks) : ∀ i, i ≤ ks.length → ((shp ks).take i).sum = ah 1 ks i ∧ ah 0 ks i + ah 1 ks i = i
  | 0, _ => by rw [ah_zero, ah_zero]; simp
  | i + 1, hi => by
    obtain ⟨h1, h2⟩ := shp_sum ks h i (by omega)
    have hk := h.getD i
    rw [take_snoc (shp ks) i (by rw [shp_len]; omega), List.sum_append, h1, shp_get, ah_next 1 ks i (by omega), ah_next 0 ks i (by omega)]
    simp only [List.sum_cons, List.sum_nil]
    by_cases h3 : ks.getD i 0 / 2 = 0
    · rw [if_pos h3, if_neg (by omega)]; omega
    · rw [if_neg h3, if_pos (by omega)]; omega
/-- How many of a sort are ahead, by the directory. -/
theorem cb_ah {ks : List Nat} (h : Kds ks) (s : Nat) (hs : s < 2) (i : Nat) (hi : i ≤ ks.length) : cb (s : Int) (val (shp ks)) i = ah s ks i := by
  have hp := pop_take (shp_bin h) i (by rw [shp_len]; exact hi)
  obtain ⟨h1, h2⟩ := shp_sum ks h i hi
  unfold cb
  rcases (by omega : s = 0 ∨ s = 1) with rfl | rfl
  · rw [if_pos (show ((0 : Nat) : Int) = 0 from rfl), hp, h1]; omega
  · rw [if_neg (show ¬ ((1 : Nat) : Int) = 0 by decide), hp, h1]
theorem shp_bit {ks : List Nat} (h : Kds ks) (i : Nat) : val (shp ks) / 2 ^ i % 2 = ks.getD i 0 / 2 := by rw [val_bit (shp_bin h), shp_get]
theorem isB_shp {ks : List Nat} (h : Kds ks) (s : Nat) (hs : s < 2) (i : Nat) : IsB (s : Int) (val (shp ks)) i ↔ ks.getD i 0 / 2 = s := by
  unfold IsB
  have h1 := shp_bit h i
  have hk := h.getD i
  rw [Nat.testBit_eq_decide_div_mod_eq, h1, decide_eq_decide]
  generalize ks.getD i 0 = k at *
  rcases (by omega : s = 0 ∨ s = 1) with rfl | rfl
  · constructor
    · intro h2
      have : ¬ k / 2 = 1 := fun h3 => (h2.1 h3) rfl
      omega
    · intro h2
      exact ⟨fun h3 => by omega, fun h3 => absurd rfl h3⟩
  · constructor
    · intro h2
      exact h2.2 (by decide)
    · intro h2
      exact ⟨fun _ => by decide, fun _ => h2⟩
/-- Does the letter open? -/
theorem open_bit (s : Nat) (ks : List Nat) (i : Nat) (hi : i < ks.length) (hs : ks.getD i 0 / 2 = s) : val (ownL s ks) / 2 ^ (ah s ks i) % 2 = 1 - ks.getD i 0 % 2 := by
  rw [val_bit (ownL_bin s ks), ownL_get s ks i hi hs]
/-- What is ahead of the letter there, by the sort's excess. -/
theorem exc_pop (l : List Nat) (hb : Bin l) (n : Nat) (hn : n ≤ l.length) : exc (val l) n = 2 * ((l.take n).sum : Int) - (n : Int) := by
  unfold exc
  rw [pop_take hb n hn]
end Go.Proofs.Ythkocodajjapmaa
namespace Go.Proofs.Ythkocodajjapmaa
set_option maxRecDepth 20000
open Go.RowKit
set_option linter.unusedVariables false

/-- What a question of a mixed index may turn. -/
def MxS (gx p0 g0 p1 g1 i : Nat) : Prop := i = gx ∨ i = p0 ∨ i = g0 ∨ i = p1 ∨ i = g1
section
variable {w0 w w' : World} {m gx p0 g0 p1 g1 q : Nat} {ks : List Nat}
theorem two_mx0 (md : Mod (Two2 g0 p0) w w') : Mod (MxS gx p0 g0 p1 g1) w w' := md.mono fun i _ hi => hi.elim (fun e => .inr (.inr (.inl e))) fun e => .inr (.inl e)
theorem two_mx1 (md : Mod (Two2 g1 p1) w w') : Mod (MxS gx p0 g0 p1 g1) w w' := md.mono fun i _ hi => hi.elim (fun e => .inr (.inr (.inr (.inr e)))) fun e => .inr (.inr (.inr (.inl e)))
end
end Go.Proofs.Ythkocodajjapmaa
namespace Go.Proofs.Ythkocodajjapmaa
set_option maxRecDepth 20000
open Go.RowKit
set_option linter.unusedVariables false
section
variable {w0 w : World} {m gx p0 g0 p1 g1 q : Nat} {ks : List Nat}
/-- Whose mate the i-th letter is. -/
def MateAt (ks : List Nat) (i p : Nat) : Prop := p < ks.length ∧ ks.getD p 0 / 2 = ks.getD i 0 / 2 ∧ MateOK (exc (val (ownL (ks.getD i 0 / 2) ks))) (ah (ks.getD i 0 / 2) ks i) ((ah (ks.getD i 0 / 2) ks p : Nat) : Int)
end
end Go.Proofs.Ythkocodajjapmaa
namespace Go.Proofs.Ythkocodajjapmaa
set_option maxRecDepth 20000
open Go.RowKit
set_option linter.unusedVariables false
/-- The round letter that opens the pair around the i-th letter, among the round ones alone; -1: none. -/
def OwnZ (ks : List Nat) (i : Nat) (z : Int) : Prop :=
  if ks.getD i 0 = 1 then MateOK (exc (val (ownL 0 ks))) (ah 0 ks i) z
  else if ah 0 ks i = 0 then z = -1
  else if (ownL 0 ks).getD (ah 0 ks i - 1) 0 = 1 then z = ((ah 0 ks i - 1 : Nat) : Int)
  else RoundOK (exc (val (ownL 0 ks))) (ah 0 ks i - 1) z
def OwnAt (ks : List Nat) (i : Nat) (r : Int) : Prop := ∃ z, OwnZ ks i z ∧ ((z = -1 ∧ r = -1) ∨ ∃ p : Nat, r = (p : Int) ∧ p < ks.length ∧ ks.getD p 0 / 2 = 0 ∧ z = ((ah 0 ks p : Nat) : Int))
section
variable {w0 w : World} {m gx p0 g0 p1 g1 q : Nat} {ks : List Nat}
end
end Go.Proofs.Ythkocodajjapmaa
namespace Go.Proofs.Ythkocodajjapmaa
open Go.RowKit
set_option linter.unusedVariables false

theorem wd_piece {V n k s : Nat} (h : V < 2 ^ n) (hs : s = min 64 (n - 64 * k)) (hk : 64 * k ≤ n) : V / 2 ^ (64 * k) % 2 ^ s = wd V k := by
  unfold wd
  by_cases h64 : 64 ≤ n - 64 * k
  · rw [hs, Nat.min_eq_left h64]
  · rw [hs, Nat.min_eq_right (by omega)]
    have hlt : V / 2 ^ (64 * k) < 2 ^ (n - 64 * k) := by
      rw [Nat.div_lt_iff_lt_mul (Nat.two_pow_pos _), ← Nat.pow_add]
      rwa [show n - 64 * k + 64 * k = n by omega]
    rw [Nat.mod_eq_of_lt hlt, Nat.mod_eq_of_lt (Nat.lt_of_lt_of_le hlt (Nat.pow_le_pow_right (by omega) (by omega)))]
theorem min_s (t : Nat) (ht : t ≤ 1000000) : ∀ w, (Builtin.min_ #[3, 3] 3 #[.int .i64 64, .int .i64 (t : Int)]).run Try.prog w = .ok (.int .i64 ((min 64 t : Nat) : Int)) w := fun w => by
  simp [Builtin.min_, Builtin.min2]
  repeat' split
  all_goals omega
end Go.Proofs.Ythkocodajjapmaa
namespace Go.Proofs.Ythkocodajjapmaa
open Go.RowKit
set_option linter.unusedVariables false
set_option maxRecDepth 20000
def NewNo (w : World) (e : Ending) (w' : World) : Prop := e = .returned (.tuple #[.pointer none, .int .i64 9]) ∧ Below w.heap.size w w'
end Go.Proofs.Ythkocodajjapmaa
namespace Go.Proofs.Ythkocodajjapmaa
open Go.RowKit
set_option linter.unusedVariables false
set_option maxRecDepth 20000
def MadeNo (w : World) (A : Option Addr) (m c : Nat) (e : Ending) (w' : World) : Prop :=
  e = .returned (.tuple #[.pointer none, .slice A m c, .bool false]) ∧ Below w.heap.size w w'
/-- The document's example: 110100. -/
theorem bal_ex : Bal (exc 11) 6 := by
  refine ⟨fun i hi => ?_, by decide⟩
  have : i = 0 ∨ i = 1 ∨ i = 2 ∨ i = 3 ∨ i = 4 ∨ i = 5 ∨ i = 6 := by omega
  rcases this with rfl | rfl | rfl | rfl | rfl | rfl | rfl <;> decide
theorem pair_ex : Pair (exc 11) 0 5 := ⟨by decide, by decide, fun k h1 h2 => by
  have : k = 1 ∨ k = 2 ∨ k = 3 ∨ k = 4 ∨ k = 5 := by omega
  rcases this with rfl | rfl | rfl | rfl | rfl <;> decide⟩
theorem round_ex3 : RoundOK (exc 11) 3 0 := fun a ha => by
  obtain rfl : a = 3 := by
    rcases ha with x | x
    · exact x.2
    · exact absurd x.1 (by decide)
  rw [if_neg (by decide)]
  exact ⟨0, rfl, ⟨by decide, by decide, fun k h1 h2 => by
    have : k = 1 ∨ k = 2 := by omega
    rcases this with rfl | rfl <;> decide⟩⟩
theorem round_ex0 : RoundOK (exc 11) 0 (-1) := fun a ha => by
  obtain rfl : a = 0 := by
    rcases ha with x | x
    · exact x.2
    · exact absurd x.1 (by decide)
  rw [if_pos (by decide)]
end Go.Proofs.Ythkocodajjapmaa
namespace Go.Proofs.Ythkocodajjapmaa
open Go.RowKit
set_option linter.unusedVariables false
set_option maxRecDepth 20000
theorem exc_list {l : List Nat} (hb : Bin l) (i : Nat) : exc (val l) (i + 1) = exc (val l) i + (2 * ((l.getD i 0 : Nat) : Int) - 1) := by
  rw [exc_next, val_bit hb]
def GoodP (w : World) (l : List Nat) (m : Nat) (e : Ending) (w' : World) : Prop := w = w' ∧ ∃ r : Bool, e = .returned (.bool r) ∧ (r = true ↔ Bal (exc (val l)) m)
theorem GoodP.no {w : World} {l : List Nat} {m : Nat} {e : Ending} (he : e = .returned (.bool false)) (h : ¬ Bal (exc (val l)) m) : GoodP w l m e w := ⟨rfl, false, he, by simp [h]⟩
theorem GoodP.yes {w : World} {l : List Nat} {m : Nat} {e : Ending} (he : e = .returned (.bool true)) (h : Bal (exc (val l)) m) : GoodP w l m e w := ⟨rfl, true, he, by simp [h]⟩
set_option maxHeartbeats 4000000 in
theorem good_p (A : Option Addr) (m c B : Nat) (l : List Nat) (w : World) (hr : Rd w B A m (I64 (ofNB l))) (hb : Bin l) (hm : m ≤ 1000000) :
    Calls Try.prog 50 #[.slice A m c] w (GoodP w l m) := by
  have HR := Lib.hid hr
  have HBN := Lib.hid hb
  have HE := Lib.hid (exc_Exc (val l))
  have HX := Lib.hid (fun i => exc_list hb i)
  clear hr hb
  go_enter Try.func50, Try.ntmps50
  go_wp2_with fail
  go_loop [3, 8] (fun z x => ∃ (i : Nat) (y : Int), x = .int .i64 (i : Int) ∧ z = .int .i64 y ∧ i ≤ m ∧ -1000000 ≤ y ∧ y ≤ 1000000 ∧ Hid (exc (val l) i = y) ∧ Hid (∀ k, k ≤ i → 0 ≤ exc (val l) k)) (fun _ x => m - (intOf x).toNat)
  case atStart => exact ⟨0, 0, rfl, rfl, by omega, by omega, by omega, HE.out.zero, fun k hk => by obtain rfl : k = 0 := by omega
                                                                                                   rw [HE.out.zero]; exact Int.le_refl _⟩
  case round =>
    obtain ⟨i, y, rfl, rfl, hi, hy1, hy2, hy, hab⟩ := hrel
    by_cases hlt : i < m
    · obtain ⟨b', o, e, _, k1⟩ := HR.out.i64 (by omega)
      subst e
      have t1 := k1 i hlt
      rw [ofN_getB] at t1
      have hx := HX.out i
      have hb2 := HBN.out.getD i
      have hbd := HE.out.bound (i + 1)
      rw [hx, hy.out] at hbd
      rw [hy.out] at hx
      clear k1
      generalize l.getD i 0 = b at *
      have HXI := Lib.hid hx
      clear hx
      by_cases hb1 : b = 1
      · subst hb1
        have t2 : w.cell? ⟨b', o + i, none⟩ = some (.int .i64 1) := t1
        have HS : Hid (exc (val l) (i + 1) = y + 1) := by show _ = _; rw [HXI.out]; rfl
        clear t1
        by_cases hneg : y + 1 < 0
        · have NB : Hid (¬ Bal (exc (val l)) m) := fun hB => by have := hB.1 (i + 1) (by omega); rw [HS.out] at this; omega
          go_wp2_with fail
          go_ret
          exact GoodP.no rfl NB.out
        · have hd : decide (y + 1 < 0) = false := decide_eq_false hneg
          have HAB : Hid (∀ k, k ≤ i + 1 → 0 ≤ exc (val l) k) := fun k hk => by
            by_cases e : k = i + 1
            · rw [e, HS.out]; omega
            · exact hab.out k (by omega)
          clear hneg
          go_wp2_with fail
          go_round
          case rel => exact ⟨i + 1, y + 1, by go_num, rfl, by omega, by omega, by omega, HS.out, HAB.out⟩
          case measure => simp [intOf]; omega
      · obtain rfl : b = 0 := by omega
        have t2 : w.cell? ⟨b', o + i, none⟩ = some (.int .i64 0) := t1
        have HS : Hid (exc (val l) (i + 1) = y - 1) := by show _ = _; rw [HXI.out]; show y + (2 * 0 - 1) = y - 1; omega
        clear t1 hb1
        by_cases hneg : y - 1 < 0
        · have NB : Hid (¬ Bal (exc (val l)) m) := fun hB => by have := hB.1 (i + 1) (by omega); rw [HS.out] at this; omega
          go_wp2_with fail
          go_ret
          exact GoodP.no rfl NB.out
        · have hd : decide (y - 1 < 0) = false := decide_eq_false hneg
          have HAB : Hid (∀ k, k ≤ i + 1 → 0 ≤ exc (val l) k) := fun k hk => by
            by_cases e : k = i + 1
            · rw [e, HS.out]; omega
            · exact hab.out k (by omega)
          go_wp2_with fail
          go_round
          case rel => exact ⟨i + 1, y - 1, by go_num, rfl, by omega, by omega, by omega, HS.out, HAB.out⟩
          case measure => simp [intOf]; omega
    · obtain rfl : i = m := by omega
      by_cases hy0 : y = 0
      · have YB : Hid (Bal (exc (val l)) i) := ⟨hab.out, by rw [hy.out, hy0]⟩
        subst hy0
        go_wp2_with fail
        go_ret
        exact GoodP.yes rfl YB.out
      · have NB : Hid (¬ Bal (exc (val l)) i) := fun hB => hy0 (by rw [← hy.out]; exact hB.2)
        have g0 : (y == 0) = false := by rw [beq_eq_false_iff_ne]; exact hy0
        clear hy0
        go_wp2_with fail
        go_ret
        exact GoodP.no rfl NB.out
end Go.Proofs.Ythkocodajjapmaa
namespace Go.Proofs.Ythkocodajjapmaa
open Go.RowKit
set_option linter.unusedVariables false
set_option maxRecDepth 20000
theorem exc_snoc {l : List Nat} (hb : Bin l) {b : Nat} (h2 : b < 2) : ∀ k, k ≤ l.length → exc (val (l ++ [b])) k = exc (val l) k := by
  have hb' : Bin (l ++ [b]) := hb.append fun x hx => by simp at hx; omega
  intro k
  induction k with
  | zero => intro _; rw [(exc_Exc _).zero, (exc_Exc _).zero]
  | succ k ih =>
    intro hk
    rw [exc_list hb', exc_list hb, ih (by omega), List.getD_eq_getElem?_getD, List.getElem?_append_left (by omega), ← List.getD_eq_getElem?_getD]
theorem exc_snoc1 {l : List Nat} (hb : Bin l) {b : Nat} (h2 : b < 2) : exc (val (l ++ [b])) (l.length + 1) = exc (val l) l.length + (2 * (b : Int) - 1) := by
  have hb' : Bin (l ++ [b]) := hb.append fun x hx => by simp at hx; omega
  rw [exc_list hb', exc_snoc hb h2 _ (Nat.le_refl _), List.getD_eq_getElem?_getD, List.getElem?_append_right (Nat.le_refl _), Nat.sub_self]
  rfl
/-- Balanced so far: o stand open, and as many may still be closed. -/
structure Sofar (l : List Nat) (N o : Nat) : Prop where
  bin : Bin l
  len : l.length = N
  open_ : exc (val l) N = (o : Int)
  up : ∀ k, k ≤ N → 0 ≤ exc (val l) k
theorem Sofar.nil : Sofar [] 0 0 := ⟨Bin.nil, rfl, (exc_Exc _).zero, fun k hk => by obtain rfl : k = 0 := by omega
                                                                                    rw [(exc_Exc _).zero]; exact Int.le_refl _⟩
theorem Sofar.push {l : List Nat} {N o : Nat} (h : Sofar l N o) : Sofar (l ++ [1]) (N + 1) (o + 1) := by
  have e := exc_snoc1 h.bin (b := 1) (by omega)
  rw [h.len, h.open_] at e
  refine ⟨h.bin.append fun x hx => by simp at hx; omega, by rw [List.length_append, h.len]; rfl, by rw [e]; omega, fun k hk => ?_⟩
  by_cases hk1 : k = N + 1
  · rw [hk1, e]; omega
  · rw [exc_snoc h.bin (by omega) k (by rw [h.len]; omega)]; exact h.up k (by omega)
theorem Sofar.pop {l : List Nat} {N o : Nat} (h : Sofar l N (o + 1)) : Sofar (l ++ [0]) (N + 1) o := by
  have e := exc_snoc1 h.bin (b := 0) (by omega)
  rw [h.len, h.open_] at e
  refine ⟨h.bin.append fun x hx => by simp at hx; omega, by rw [List.length_append, h.len]; rfl, by rw [e]; omega, fun k hk => ?_⟩
  by_cases hk1 : k = N + 1
  · rw [hk1, e]; omega
  · rw [exc_snoc h.bin (by omega) k (by rw [h.len]; omega)]; exact h.up k (by omega)
def AnyP (w : World) (N : Nat) (e : Ending) (w' : World) : Prop :=
  ∃ l A c, Bin l ∧ l.length = N ∧ Bal (exc (val l)) N ∧ e = .returned (.slice A N c) ∧ N ≤ c ∧ c ≤ maxLen ∧ w'.ownsRow w.heap.size 3 1 (.slice A N c) N (I64 (ofNB l)) ∧ Below w.heap.size w w'
end Go.Proofs.Ythkocodajjapmaa
