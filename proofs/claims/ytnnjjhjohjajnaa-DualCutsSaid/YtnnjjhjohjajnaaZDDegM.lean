/- The vertices' degrees, those without darts too; no program in sight. -/
import Derived.Test.YtnnjjhjohjajnaaZDDeg
namespace Go.Proofs.Ytnnjjhjohjajnaa
set_option maxRecDepth 20000
set_option linter.unusedVariables false

theorem sum_bump (f : Nat → Nat) (p m : Nat) : ((List.range m).map fun j => f j + (if p = j then 1 else 0)).sum = ((List.range m).map f).sum + (if p < m then 1 else 0) := by
  induction m with
  | zero => simp
  | succ m ih =>
    rw [List.range_succ, List.map_append, List.map_append, List.sum_append, List.sum_append, ih]
    simp only [List.map_cons, List.map_nil, List.sum_cons, List.sum_nil]
    by_cases h1 : p < m
    · rw [if_pos h1, if_neg (by omega), if_pos (by omega)]; omega
    · by_cases h2 : p = m
      · rw [if_neg h1, if_pos h2, if_pos (by omega)]; omega
      · rw [if_neg h1, if_neg h2, if_neg (by omega)]; omega
theorem degs_sum {l b : List Nat} (h : Inv l b) (M : Nat) (hM : (sizes l).length ≤ M) (k : Nat) (hk : k ≤ l.length) : (sizesTo l M k).sum = k := by
  induction k with
  | zero =>
    unfold sizesTo
    have : (List.range M).map (cntN l 0) = (List.range M).map fun _ => 0 := List.map_congr_left fun i _ => by simp [cntN]
    rw [this]
    have z : ∀ L : List Nat, (L.map fun _ => 0).sum = 0 := fun L => by
      induction L with
      | nil => rfl
      | cons a L ih => rw [List.map_cons, List.sum_cons, ih]
    exact z _
  | succ k ih =>
    have ih := ih (by omega)
    have e : sizesTo l (M) (k + 1) = (List.range M).map fun j => cntN l k j + (if nameOf l k = j then 1 else 0) := by
      unfold sizesTo
      exact List.map_congr_left fun i _ => cntN_next l k i
    rw [e, sum_bump]
    have h1 : nameOf l k < (sizes l).length := by rw [sizes_len]; exact name_lt h (by omega)
    rw [if_pos (by omega)]
    unfold sizesTo at ih
    rw [ih]
theorem degs_zero (l : List Nat) (M : Nat) : sizesTo l M 0 = List.replicate M 0 := by
  unfold sizesTo
  apply List.ext_getElem (by simp)
  intro i h1 h2
  simp [cntN]
theorem cnt_out {l b : List Nat} (h : Inv l b) (j : Nat) (hj : (sizes l).length ≤ j) : cntN l l.length j = 0 := by
  unfold cntN
  rw [List.length_eq_zero_iff, List.filter_eq_nil_iff]
  intro i hi
  rw [List.mem_range] at hi
  have := name_lt h hi
  rw [sizes_len] at hj
  simp; omega
theorem degs_get {l b : List Nat} (h : Inv l b) (q j : Nat) (hj : j < (sizes l).length + q) : (((sizesTo l ((sizes l).length + q) l.length).getD j 0 : Nat) : Int) = degOf l q j := by
  rw [sizesTo_get _ _ _ _ hj]
  unfold degOf
  rw [if_neg (by omega)]
  by_cases h1 : ((sizes l).length : Int) ≤ (j : Int)
  · rw [if_pos h1, cnt_out h j (by omega)]; rfl
  · rw [if_neg h1, Int.toNat_natCast]
    have hz : (sizes l).length = met l l.length := by unfold sizes; rw [sizesTo_len]
    unfold sizes
    rw [sizesTo_get _ _ _ _ (by omega)]
theorem sum_take (L : List Nat) (i : Nat) (h : i < L.length) : (L.take (i + 1)).sum = (L.take i).sum + L.getD i 0 := by
  rw [← List.take_append_getElem h, List.sum_append, List.getD_eq_getElem?_getD, List.getElem?_eq_getElem h]
  simp
theorem sum_take_le (L : List Nat) (i : Nat) : (L.take i).sum ≤ L.sum := by
  have h := congrArg List.sum (List.take_append_drop i L)
  rw [List.sum_append] at h
  omega
end Go.Proofs.Ytnnjjhjohjajnaa
