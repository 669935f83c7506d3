/- The order in which a walk meets the vertices, and its tree: mathematics. -/
import Derived.Test.YtgohdhmijfajfaaWCount
namespace Go.Proofs.Ytgohdhmijfajfaa
set_option maxRecDepth 20000
open Go.RowKit
set_option linter.unusedVariables false
/-! ### the order and the tree -/
section
/-- The vertices in the order in which they are met. -/
def ordN (sg nm : Nat → Nat) (m V r : Nat) : Nat → List Nat
  | 0 => [nm r]
  | j + 1 => if (wrun sg nm m V r j).k nm = 0 then ordN sg nm m V r j ++ [nm (mt (wrun sg nm m V r j).d)] else ordN sg nm m V r j
/-- The darts that are Open. -/
def treN (sg nm : Nat → Nat) (m V r : Nat) : Nat → List Nat
  | 0 => []
  | j + 1 => if (wrun sg nm m V r j).k nm = 0 then treN sg nm m V r j ++ [(wrun sg nm m V r j).d] else treN sg nm m V r j
theorem ord_tre (sg nm : Nat → Nat) (m V r : Nat) : ∀ j, (ordN sg nm m V r j).length = (treN sg nm m V r j).length + 1
  | 0 => rfl
  | j + 1 => by
    have ih := ord_tre sg nm m V r j
    unfold ordN treN
    split
    · rw [List.length_append, List.length_append, ih]; rfl
    · exact ih
variable {n m V : Nat} {sg nm : Nat → Nat} {r : Nat}
theorem ord_met (hs : PF n sg) (hn : n = 2 * m) (hnm : ∀ x y, x < n → y < n → (nm x = nm y ↔ Orb sg x y)) (hV : ∀ x, x < n → nm x < V) (hr : r < n) (v : Nat) : ∀ j, (wrun sg nm m V r j).M.getD v false = true ↔ v ∈ ordN sg nm m V r j
  | 0 => by
    show ((List.replicate V false).set (nm r) true).getD v false = true ↔ v ∈ [nm r]
    rw [getB_set _ _ _ _ (by simpa using hV r hr)]
    by_cases c : v = nm r
    · rw [if_pos c]; simp [c]
    · rw [if_neg c]
      simp [List.getD_eq_getElem?_getD, List.getElem?_replicate, c]
      split <;> simp
  | j + 1 => by
    have ih := ord_met hs hn hnm hV hr v j
    have hw := wok hs hn hnm hV hr j
    show (wM1 nm (wrun sg nm m V r j).M (wrun sg nm m V r j).d ((wrun sg nm m V r j).k nm)).getD v false = true ↔ _
    unfold wM1 ordN
    by_cases k : (wrun sg nm m V r j).k nm = 0
    · rw [if_pos k, if_pos k, getB_set _ _ _ _ (by rw [hw.ml]; exact hV _ (mt_lt hn hw.lt)), List.mem_append]
      by_cases c : v = nm (mt (wrun sg nm m V r j).d)
      · rw [if_pos c]; simp [c]
      · rw [if_neg c, ih]; simp [c]
    · rw [if_neg k, if_neg k]; exact ih
/-- Each Open dart leads from a vertex that was met to one that wasn't. -/
theorem tre_at (hs : PF n sg) (hn : n = 2 * m) (hnm : ∀ x y, x < n → y < n → (nm x = nm y ↔ Orb sg x y)) (hV : ∀ x, x < n → nm x < V) (hr : r < n) : ∀ N i, i < (treN sg nm m V r N).length →
    ∃ d, d < n ∧ (treN sg nm m V r N).getD i 0 = d ∧ nm d ∈ (ordN sg nm m V r N).take (i + 1) ∧ (ordN sg nm m V r N).getD (i + 1) 0 = nm (mt d) ∧ nm (mt d) ∉ (ordN sg nm m V r N).take (i + 1)
  | 0, i, h => by simp [treN] at h
  | N + 1, i, h => by
    have hot := ord_tre sg nm m V r N
    have hw := wok hs hn hnm hV hr N
    have hmet := fun v => ord_met hs hn hnm hV hr v N
    unfold treN at h ⊢
    unfold ordN
    by_cases k : (wrun sg nm m V r N).k nm = 0
    · rw [if_pos k] at h ⊢
      rw [if_pos k]
      rw [List.length_append, List.length_singleton] at h
      rcases Nat.lt_or_ge i (treN sg nm m V r N).length with c | c
      · obtain ⟨d, h1, h2, h3, h4, h5⟩ := tre_at hs hn hnm hV hr N i c
        have e1 : (ordN sg nm m V r N ++ [nm (mt (wrun sg nm m V r N).d)]).take (i + 1) = (ordN sg nm m V r N).take (i + 1) := List.take_append_of_le_length (by omega)
        refine ⟨d, h1, ?_, by rw [e1]; exact h3, ?_, by rw [e1]; exact h5⟩
        · rw [List.getD_eq_getElem?_getD, List.getElem?_append_left c, ← List.getD_eq_getElem?_getD]; exact h2
        · rw [List.getD_eq_getElem?_getD, List.getElem?_append_left (by omega), ← List.getD_eq_getElem?_getD]; exact h4
      · obtain rfl : i = (treN sg nm m V r N).length := by omega
        have e1 : (ordN sg nm m V r N ++ [nm (mt (wrun sg nm m V r N).d)]).take ((treN sg nm m V r N).length + 1) = ordN sg nm m V r N := by rw [← hot]; simp
        have hno : (wrun sg nm m V r N).M.getD (nm (mt (wrun sg nm m V r N).d)) false ≠ true := by
          rcases (wrun sg nm m V r N).kinds (nm := nm) with ⟨q, _⟩ | ⟨q, _⟩ | ⟨q, _⟩ | ⟨_, _, _, q⟩
          · omega
          · omega
          · omega
          · exact q
        refine ⟨(wrun sg nm m V r N).d, hw.lt, ?_, by rw [e1]; exact (hmet _).1 hw.md, ?_, by rw [e1]; exact fun y => hno ((hmet _).2 y)⟩
        · rw [List.getD_eq_getElem?_getD, List.getElem?_append_right (Nat.le_refl _), Nat.sub_self]; rfl
        · rw [List.getD_eq_getElem?_getD, ← hot, List.getElem?_append_right (Nat.le_refl _), Nat.sub_self]; rfl
    · rw [if_neg k] at h ⊢
      rw [if_neg k]
      exact tre_at hs hn hnm hV hr N i h
theorem tre_wcn (sg nm : Nat → Nat) (m V r : Nat) : ∀ j, (treN sg nm m V r j).length = wcn sg nm m V r 0 j
  | 0 => rfl
  | j + 1 => by
    have ih := tre_wcn sg nm m V r j
    have hN := num_next (fun i => (wrun sg nm m V r i).k nm = 0) j
    unfold wcn at ih ⊢
    unfold treN
    by_cases c : (wrun sg nm m V r j).k nm = 0
    · rw [if_pos c, hN.1 c, List.length_append, ih]; rfl
    · rw [if_neg c, hN.2 c, ih]
end
end Go.Proofs.Ytgohdhmijfajfaa
