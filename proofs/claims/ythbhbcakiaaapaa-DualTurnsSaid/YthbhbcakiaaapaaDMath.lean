/- How many numbers each orbit has, as they are met; no program in sight. -/
import Derived.Test.YthbhbcakiaaapaaPNames
namespace Go.Proofs.Ythbhbcakiaaapaa
set_option maxRecDepth 20000
set_option linter.unusedVariables false

/-- How many of the first k numbers bear the name j. -/
noncomputable def cntN (l : List Nat) (k j : Nat) : Nat := ((List.range k).filter fun i => decide (nameOf l i = j)).length
theorem cntN_next (l : List Nat) (k j : Nat) : cntN l (k + 1) j = cntN l k j + (if nameOf l k = j then 1 else 0) := by
  unfold cntN
  rw [List.range_succ, List.filter_append, List.length_append]
  by_cases h : nameOf l k = j <;> simp [h]
theorem cntN_le (l : List Nat) (k j : Nat) : cntN l k j ≤ k := by
  unfold cntN
  exact Nat.le_trans (List.length_filter_le _ _) (by simp)
/-- The sizes of the first m orbits, among the first k numbers. -/
noncomputable def sizesTo (l : List Nat) (m k : Nat) : List Nat := (List.range m).map (cntN l k)
theorem sizesTo_len (l : List Nat) (m k : Nat) : (sizesTo l m k).length = m := by simp [sizesTo]
theorem sizesTo_get (l : List Nat) (m k j : Nat) (h : j < m) : (sizesTo l m k).getD j 0 = cntN l k j := by simp [sizesTo, List.getD_eq_getElem?_getD, h]
noncomputable def met (l : List Nat) (k : Nat) : Nat := (leads l k).length
theorem met_zero (l : List Nat) : met l 0 = 0 := by simp [met, leads]
theorem met_lead (l : List Nat) (k : Nat) (h : Leads l k) : met l (k + 1) = met l k + 1 := by unfold met; rw [leads_next, if_pos h]; simp
theorem met_not (l : List Nat) (k : Nat) (h : ¬ Leads l k) : met l (k + 1) = met l k := by unfold met; rw [leads_next, if_neg h]; simp
theorem met_le (l : List Nat) (k : Nat) : met l k ≤ k := by
  unfold met leads
  exact Nat.le_trans (List.length_filter_le _ _) (by simp)
theorem name_met {l b : List Nat} (h : Inv l b) {i k : Nat} (hi : i < l.length) (hik : i < k) : nameOf l i < met l k := by
  have := lead_is h hi
  exact leads_lt l _ _ this.2.1 (by omega)
theorem name_lead {l b : List Nat} (h : Inv l b) {k : Nat} (hk : k < l.length) (hl : Leads l k) : nameOf l k = met l k := by
  unfold nameOf met
  rw [(leads_iff h hk).1 hl]
theorem name_not {l b : List Nat} (h : Inv l b) {k : Nat} (hk : k < l.length) (hl : ¬ Leads l k) : nameOf l k < met l k := by
  have h1 := lead_is h hk
  have h2 : lead l k ≠ k := fun e => hl ((leads_iff h hk).2 e)
  exact leads_lt l _ _ h1.2.1 (by omega)
theorem cntN_new {l b : List Nat} (h : Inv l b) {k : Nat} (hk : k ≤ l.length) : cntN l k (met l k) = 0 := by
  unfold cntN
  rw [List.length_eq_zero_iff, List.filter_eq_nil_iff]
  intro i hi
  rw [List.mem_range] at hi
  have := name_met h (show i < l.length by omega) hi
  simp; omega
theorem sizes_new {l b : List Nat} (h : Inv l b) {k : Nat} (hk : k ≤ l.length) : sizesTo l (met l k) k ++ [0] = sizesTo l (met l k + 1) k := by
  unfold sizesTo
  rw [List.range_succ, List.map_append, List.map_singleton, cntN_new h hk]
theorem sizes_set (l : List Nat) (m k p : Nat) (hp : p < m) (hn : nameOf l k = p) : (sizesTo l m k).set p (cntN l k p + 1) = sizesTo l m (k + 1) := by
  apply List.ext_getElem (by simp [sizesTo])
  intro i h1 h2
  rw [List.getElem_set]
  simp only [sizesTo, List.getElem_map, List.getElem_range]
  rw [cntN_next, hn]
  by_cases e : p = i
  · rw [if_pos e, if_pos e, e]
  · rw [if_neg e, if_neg e]; rfl
/-- All orbits' sizes. -/
noncomputable def sizes (l : List Nat) : List Nat := sizesTo l (met l l.length) l.length
theorem sizes_len (l : List Nat) : (sizes l).length = (orbits l).length := by simp [sizes, sizesTo, met, orbits]
end Go.Proofs.Ythbhbcakiaaapaa
