/- The document's own answers on permutations. The document's own answers on permutations, more: how many orbits; the least of a list; a permutation by swaps. -/
import Derived.Test.YtgcbdoljapnecaaGreatZPNames
namespace Go.Proofs.YtgcbdoljapnecaaGreat
set_option maxRecDepth 20000
open Go.RowKit
set_option linter.unusedVariables false

end Go.Proofs.YtgcbdoljapnecaaGreat
namespace Go.Proofs.YtgcbdoljapnecaaGreat
set_option maxRecDepth 20000
open Go.RowKit
set_option linter.unusedVariables false

theorem good_inv {l : List Nat} (h : Good (ofN l)) : ∃ b, Inv l b := by
  have hs : ∀ v, ∃ i, v < l.length → i < l.length ∧ l.getD i 0 = v := fun v => by
    by_cases hv : v < l.length
    · obtain ⟨i, h1, h2⟩ := h.surj v (by rw [ofN_len]; exact hv)
      rw [ofN_len] at h1
      rw [ofN_get] at h2
      exact ⟨i, fun _ => ⟨h1, by omega⟩⟩
    · exact ⟨0, fun h' => absurd h' hv⟩
  let f : Nat → Nat := fun v => Classical.choose (hs v)
  have hf : ∀ v, v < l.length → f v < l.length ∧ l.getD (f v) 0 = v := fun v hv => Classical.choose_spec (hs v) hv
  have hlt : ∀ i, i < l.length → l.getD i 0 < l.length := fun i hi => by
    have := (h i (by rw [ofN_len]; exact hi)).2.1
    rw [ofN_get, ofN_len] at this
    omega
  have hg : ∀ v, v < l.length → ((List.range l.length).map f).getD v 0 = f v := fun v hv => by simp [List.getD_eq_getElem?_getD, hv]
  refine ⟨(List.range l.length).map f, by simp, hlt, fun i hi => ?_, fun i hi => ?_, fun i hi => ?_⟩
  · rw [hg i hi]; exact (hf i hi).1
  · rw [hg _ (hlt i hi)]
    have := hf _ (hlt i hi)
    exact h.inj _ _ (by rw [ofN_len]; exact this.1) (by rw [ofN_len]; exact hi) (by rw [ofN_get, ofN_get, this.2])
  · rw [hg i hi]; exact (hf i hi).2
end Go.Proofs.YtgcbdoljapnecaaGreat
