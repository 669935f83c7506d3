/- How many bits numbers need; the bits of darts' names: mathematics. -/
import Derived.Test.YtfolefadjdcehaaZg2
import Derived.Test.YtfolefadjdcehaaZDFld
import Derived.Lib.BitFns
import Derived.Lib.ItoaNum
namespace Go.Proofs.Ytfolefadjdcehaa
set_option maxRecDepth 20000
open Go.RowKit
set_option linter.unusedVariables false
/-- How many bits the numbers below n need. -/
def lw (n : Nat) : Nat := if n < 2 then 0 else Lib.bitLen (n - 1)
theorem lw_gt {n : Nat} (h2 : 2 ≤ n) (h : n < 2 ^ 64) : 1 ≤ lw n ∧ 2 ^ (lw n - 1) < n ∧ n ≤ 2 ^ lw n := by
  unfold lw
  rw [if_neg (by omega)]
  have := Lib.bitLenAux_bounds 64 (n - 1) (by omega) (by omega)
  unfold Lib.bitLen
  omega
theorem lw_le {n : Nat} (h : n < 2 ^ 64) : n ≤ 2 ^ lw n := by
  by_cases h2 : n < 2
  · have := Nat.two_pow_pos (lw n); omega
  · exact (lw_gt (by omega) h).2.2
theorem lw_small {n : Nat} (h : n < 2) : lw n = 0 := by unfold lw; rw [if_pos h]
theorem lw_uniq {n k : Nat} (h : n < 2 ^ 64) (h1 : n ≤ 2 ^ k) (h2 : k = 0 ∨ 2 ^ (k - 1) < n) : k = lw n := by
  by_cases hn : n < 2
  · rw [lw_small hn]
    rcases h2 with h2 | h2
    · exact h2
    · have := Nat.two_pow_pos (k - 1); omega
  · obtain ⟨g1, g2, g3⟩ := lw_gt (by omega) h
    rcases Nat.lt_trichotomy k (lw n) with c | c | c
    · have := Nat.pow_le_pow_right (show 0 < 2 by decide) (show k ≤ lw n - 1 by omega); omega
    · exact c
    · rcases h2 with h2 | h2
      · omega
      · have := Nat.pow_le_pow_right (show 0 < 2 by decide) (show lw n ≤ k - 1 by omega); omega
theorem lw_le_of {n k : Nat} (h : n < 2 ^ 64) (h1 : n ≤ 2 ^ k) : lw n ≤ k := by
  by_cases hn : n < 2
  · rw [lw_small hn]; omega
  · obtain ⟨g1, g2, g3⟩ := lw_gt (by omega) h
    rcases Nat.lt_or_ge k (lw n) with c | c
    · have := Nat.pow_le_pow_right (show 0 < 2 by decide) (show k ≤ lw n - 1 by omega); omega
    · exact c
/-- The bits of an edge's name. -/
def eb (W d : Nat) : List Nat := numL (d / 2) W ++ [d % 2]
theorem eb_len (W d : Nat) : (eb W d).length = W + 1 := by simp [eb, numL_len]
theorem eb_bin (W d : Nat) : Bin (eb W d) := (numL_bin _ _).append (fun b hb => by simp at hb; omega)
/-- Of the first k edges. -/
def lbl (W : Nat) (l : List Nat) : Nat → List Nat
  | 0 => []
  | k + 1 => lbl W l k ++ eb W (l.getD (2 * k) 0)
theorem lbl_len (W : Nat) (l : List Nat) : ∀ k, (lbl W l k).length = k * (W + 1)
  | 0 => by simp [lbl]
  | k + 1 => by rw [lbl, List.length_append, lbl_len W l k, eb_len, Nat.succ_mul]
theorem lbl_bin (W : Nat) (l : List Nat) : ∀ k, Bin (lbl W l k)
  | 0 => Bin.nil
  | k + 1 => (lbl_bin W l k).append (eb_bin _ _)
/-- What an edge's bits tell. -/
def de (W V e : Nat) : Nat := 2 * (V / 2 ^ (e * (W + 1)) % 2 ^ W) + V / 2 ^ (e * (W + 1) + W) % 2
/-- The names that bits tell. -/
def decL (W V : Nat) : Nat → List Nat
  | 0 => []
  | k + 1 => decL W V k ++ [de W V k, mateN (de W V k)]
theorem decL_len (W V : Nat) : ∀ k, (decL W V k).length = 2 * k
  | 0 => by simp [decL]
  | k + 1 => by rw [decL, List.length_append, decL_len W V k]; simp; omega
theorem decL_get (W V : Nat) : ∀ {k e : Nat}, e < k → (decL W V k).getD (2 * e) 0 = de W V e ∧ (decL W V k).getD (2 * e + 1) 0 = mateN (de W V e)
  | 0, e, h => by omega
  | k + 1, e, h => by
    rw [decL]
    simp only [List.getD_eq_getElem?_getD]
    by_cases q : e = k
    · subst q
      rw [List.getElem?_append_right (by rw [decL_len]; omega), List.getElem?_append_right (by rw [decL_len]; omega), decL_len]
      simp
    · have ih := decL_get W V (k := k) (e := e) (by omega)
      simp only [List.getD_eq_getElem?_getD] at ih
      rw [List.getElem?_append_left (by rw [decL_len]; omega), List.getElem?_append_left (by rw [decL_len]; omega)]
      exact ih
theorem val_eb (W d : Nat) (h : d / 2 < 2 ^ W) : val (eb W d) = d / 2 + 2 ^ W * (d % 2) := by
  rw [eb, val_append, val_numL, numL_len, Nat.mod_eq_of_lt h]
  simp [val]
/-- Bits of names, cut: the first e edges' and what comes. -/
theorem de_lbl (W : Nat) (l : List Nat) (hl : ∀ e, e < l.length / 2 → l.getD (2 * e) 0 / 2 < 2 ^ W) : ∀ k e, e < k → k ≤ l.length / 2 → de W (val (lbl W l k)) e = l.getD (2 * e) 0 := by
  intro k
  induction k with
  | zero => intro e h; omega
  | succ k ih =>
    intro e he hk
    rw [lbl, val_append, lbl_len]
    have hV := val_lt (lbl_bin W l k)
    rw [lbl_len] at hV
    by_cases q : e = k
    · subst q
      have hd := hl e (by omega)
      generalize l.getD (2 * e) 0 = d at *
      rw [val_eb W d hd]
      generalize val (lbl W l e) = V at *
      unfold de
      generalize e * (W + 1) = s at *
      have p := Nat.two_pow_pos s
      have e1 : (V + 2 ^ s * (d / 2 + 2 ^ W * (d % 2))) / 2 ^ s = d / 2 + 2 ^ W * (d % 2) := by
        rw [Nat.add_mul_div_left _ _ p, Nat.div_eq_of_lt hV, Nat.zero_add]
      have e2 : (V + 2 ^ s * (d / 2 + 2 ^ W * (d % 2))) / 2 ^ (s + W) = d % 2 := by
        rw [Nat.pow_add, ← Nat.div_div_eq_div_mul, e1, Nat.add_mul_div_left _ _ (Nat.two_pow_pos W), Nat.div_eq_of_lt hd, Nat.zero_add]
      rw [e1, e2, Nat.add_mul_mod_self_left, Nat.mod_eq_of_lt hd]
      omega
    · rw [← ih e (by omega) (by omega)]
      generalize val (lbl W l k) = V at *
      generalize val (eb W (l.getD (2 * k) 0)) = X
      have hsk : (e + 1) * (W + 1) ≤ k * (W + 1) := Nat.mul_le_mul_right _ (by omega)
      rw [Nat.succ_mul] at hsk
      unfold de
      generalize k * (W + 1) = s at *
      generalize e * (W + 1) = t at *
      obtain ⟨r, hr⟩ : ∃ r, s = t + (W + 1) + r := ⟨s - (t + (W + 1)), by omega⟩
      have e3 : 2 ^ s = 2 ^ t * (2 ^ W * (2 * 2 ^ r)) := by rw [hr]; simp only [Nat.pow_add, Nat.pow_one]; simp only [Nat.mul_assoc]
      have e1 : (V + 2 ^ s * X) / 2 ^ t = V / 2 ^ t + 2 ^ W * (2 * 2 ^ r * X) := by
        rw [e3, Nat.mul_assoc (2 ^ t), Nat.add_mul_div_left _ _ (Nat.two_pow_pos t), Nat.mul_assoc]
      have e2 : (V + 2 ^ s * X) / 2 ^ (t + W) = V / 2 ^ (t + W) + 2 * (2 ^ r * X) := by
        rw [Nat.pow_add, ← Nat.div_div_eq_div_mul, ← Nat.div_div_eq_div_mul, e1, Nat.add_mul_div_left _ _ (Nat.two_pow_pos W), Nat.mul_assoc]
      rw [e1, e2, Nat.add_mul_mod_self_left, Nat.add_mul_mod_self_left]
theorem mateN_div (d : Nat) : mateN d / 2 = d / 2 := by rw [mateN_eq]; split <;> omega
/-- Mates stay mates. -/
def Kp (l : List Nat) : Prop := l.length % 2 = 0 ∧ ∀ e, e < l.length / 2 → l.getD (2 * e + 1) 0 = mateN (l.getD (2 * e) 0)
theorem Kp.all {l : List Nat} (h : Kp l) {d : Nat} (hd : d < l.length) : l.getD (mateN d) 0 = mateN (l.getD d 0) := by
  have hk := h.2 (d / 2) (by have := h.1; omega)
  rw [mateN_eq d]
  split
  · rw [show 2 * (d / 2) = d by omega] at hk; exact hk
  · rw [show 2 * (d / 2) = d - 1 by omega, show d - 1 + 1 = d by omega] at hk
    rw [hk, mateN_twice]
theorem Kp.of {l : List Nat} (h0 : l.length % 2 = 0) (h : ∀ d, d < l.length → l.getD (mateN d) 0 = mateN (l.getD d 0)) : Kp l :=
  ⟨h0, fun e he => by have := h (2 * e) (by omega); rwa [mateN_eq (2 * e), if_pos (by omega)] at this⟩
theorem decL_kp (W V k : Nat) : Kp (decL W V k) :=
  ⟨by rw [decL_len]; omega, fun e he => by rw [decL_len] at he; rw [(decL_get W V (by omega)).1, (decL_get W V (by omega)).2]⟩
theorem getDN_ext' {l m : List Nat} (h : l.length = m.length) (hg : ∀ i, i < l.length → l.getD i 0 = m.getD i 0) : l = m := by
  apply List.ext_getElem h
  intro i h1 h2
  have := hg i h1
  rwa [List.getD_eq_getElem?_getD, List.getD_eq_getElem?_getD, List.getElem?_eq_getElem h1, List.getElem?_eq_getElem h2] at this
/-- Decoded, what was encoded. -/
theorem decL_lbl (W : Nat) (l : List Nat) (hk : Kp l) (hl : ∀ e, e < l.length / 2 → l.getD (2 * e) 0 / 2 < 2 ^ W) : decL W (val (lbl W l (l.length / 2))) (l.length / 2) = l := by
  have h0 := hk.1
  refine getDN_ext' (by rw [decL_len]; omega) fun i hi => ?_
  rw [decL_len] at hi
  have hg := decL_get W (val (lbl W l (l.length / 2))) (k := l.length / 2) (e := i / 2) (by omega)
  have hd := de_lbl W l hl (l.length / 2) (i / 2) (by omega) (Nat.le_refl _)
  rw [hd] at hg
  by_cases q : i % 2 = 0
  · rw [show 2 * (i / 2) = i by omega] at hg; exact hg.1
  · rw [show 2 * (i / 2) + 1 = i by omega] at hg
    have := hk.2 (i / 2) (by omega)
    rw [show 2 * (i / 2) + 1 = i by omega] at this
    rw [hg.2, this]
/-- Encoded, what was decoded. -/
theorem lbl_decL (W : Nat) (v : List Nat) (hv : Bin v) (m : Nat) : ∀ k, k ≤ m → k * (W + 1) ≤ v.length → lbl W (decL W (val v) m) k = v.take (k * (W + 1)) := by
  intro k
  induction k with
  | zero => intro _ _; simp [lbl]
  | succ k ih =>
    intro hm hk
    rw [Nat.succ_mul] at hk
    rw [lbl, ih (by omega) (by omega), (decL_get W (val v) (by omega)).1]
    have hr : (k + 1) * (W + 1) = k * (W + 1) + (W + 1) := Nat.succ_mul _ _
    rw [hr]
    unfold de
    generalize k * (W + 1) = s at *
    rw [List.take_add]
    congr 1
    refine val_inj (eb_bin _ _) ((hv.drop _).take _) (by rw [eb_len, List.length_take, List.length_drop]; omega) ?_
    have hx : (2 * (val v / 2 ^ s % 2 ^ W) + val v / 2 ^ (s + W) % 2) / 2 = val v / 2 ^ s % 2 ^ W := by omega
    have hy : (2 * (val v / 2 ^ s % 2 ^ W) + val v / 2 ^ (s + W) % 2) % 2 = val v / 2 ^ (s + W) % 2 := by omega
    rw [val_eb _ _ (by rw [hx]; exact Nat.mod_lt _ (Nat.two_pow_pos W)), hx, hy, val_take (hv.drop _), val_drop hv, Nat.pow_succ, Nat.mod_mul, Nat.div_div_eq_div_mul, ← Nat.pow_add]
theorem lbl_decL_all (W : Nat) (v : List Nat) (hv : Bin v) (m : Nat) (h : v.length = m * (W + 1)) : lbl W (decL W (val v) m) m = v := by
  rw [lbl_decL W v hv m m (Nat.le_refl _) (by rw [h]; exact Nat.le_refl _), ← h, List.take_length]
end Go.Proofs.Ytfolefadjdcehaa
