/- The document's examples of maps. -/
import Derived.Test.YthbhbcakiaaapaaDMap
namespace Go.Proofs.Ythbhbcakiaaapaa
set_option maxRecDepth 20000
open Go.RowKit
set_option linter.unusedVariables false

def idL : List Nat := [0, 1]
def swL : List Nat := [1, 0]
theorem idL_inv : Inv idL idL := by
  refine ⟨rfl, ?_, ?_, ?_, ?_⟩ <;> (intro i hi; match i, hi with
    | 0, _ => decide
    | 1, _ => decide)
theorem swL_inv : Inv swL swL := by
  refine ⟨rfl, ?_, ?_, ?_, ?_⟩ <;> (intro i hi; match i, hi with
    | 0, _ => decide
    | 1, _ => decide)
theorem phi_id : phiL idL = swL := by decide
theorem phi_sw : phiL swL = idL := by decide
theorem it_id (k : Nat) : it idL k 0 = 0 := by
  induction k with
  | zero => rfl
  | succ k ih => rw [it, ih]; rfl
theorem sizes_id : (sizes idL).length = 2 := by
  unfold sizes
  rw [sizesTo_len, show idL.length = 2 from rfl, met_lead idL 1, met_lead idL 0, met_zero]
  · intro j hj; omega
  · intro j hj
    obtain rfl : j = 0 := by omega
    rw [mem_orb idL_inv (by decide)]
    rintro ⟨k, hk⟩
    rw [it_id] at hk
    omega
theorem sizes_sw : (sizes swL).length = 1 := by
  unfold sizes
  rw [sizesTo_len, show swL.length = 2 from rfl, met_not swL 1, met_lead swL 0, met_zero]
  · intro j hj; omega
  · intro h
    exact h 0 (by omega) ((mem_orb swL_inv (by decide)).2 ⟨1, rfl⟩)
end Go.Proofs.Ythbhbcakiaaapaa
