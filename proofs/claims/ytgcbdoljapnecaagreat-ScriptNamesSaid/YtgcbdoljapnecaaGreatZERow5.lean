/- ends, isLoop, Loops of euler. Loops of euler. triangles: has each border three darts. Names and Loops of a nil map. The parts of a map as a row of five numbers each: mathematics. Rows of parts: five numbers each. -/
import Derived.Test.YtgcbdoljapnecaaGreatZENam
import Derived.Test.YtgcbdoljapnecaaGreatZDPhi
import Derived.Deep.AppendLies
namespace Go.Proofs.YtgcbdoljapnecaaGreat
set_option maxRecDepth 20000
open Go.RowKit
set_option linter.unusedVariables false
/-- The ends of an edge, the lower first. -/
noncomputable def lowE (l : List Nat) (e : Nat) : Nat := min (nameOf l (2 * e)) (nameOf l (2 * e + 1))
noncomputable def highE (l : List Nat) (e : Nat) : Nat := max (nameOf l (2 * e)) (nameOf l (2 * e + 1))
end Go.Proofs.YtgcbdoljapnecaaGreat
namespace Go.Proofs.YtgcbdoljapnecaaGreat
set_option maxRecDepth 20000
open Go.RowKit
set_option linter.unusedVariables false
end Go.Proofs.YtgcbdoljapnecaaGreat
namespace Go.Proofs.YtgcbdoljapnecaaGreat
set_option maxRecDepth 20000
open Go.RowKit
set_option linter.unusedVariables false
/-- The border of d has three darts. -/
def Tri (l : List Nat) (d : Nat) : Prop := (phiL l).getD d 0 ≠ d ∧ (phiL l).getD ((phiL l).getD ((phiL l).getD d 0) 0) 0 = d
def TriPost (w : World) (l : List Nat) (e : Ending) (w' : World) : Prop :=
  ∃ r : Bool, e = .returned (.bool r) ∧ (r = true ↔ ∀ d, d < l.length → Tri l d) ∧ Below w.heap.size w w'
theorem TriPost.no {w w' : World} {l : List Nat} {e : Ending} (d : Nat) (hd : d < l.length) (h : ¬ Tri l d) (he : e = .returned (.bool false)) (hb : Below w.heap.size w w') : TriPost w l e w' := ⟨false, he, ⟨fun c => (by cases c), fun c => absurd (c d hd) h⟩, hb⟩
end Go.Proofs.YtgcbdoljapnecaaGreat
namespace Go.Proofs.YtgcbdoljapnecaaGreat
set_option maxRecDepth 20000
open Go.RowKit
set_option linter.unusedVariables false
end Go.Proofs.YtgcbdoljapnecaaGreat
namespace Go.Proofs.YtgcbdoljapnecaaGreat
set_option maxRecDepth 20000
open Go.RowKit
set_option linter.unusedVariables false
/-- The number of the part of a dart; how many parts; which is the least dart of a part. -/
noncomputable def pq (l : List Nat) (d : Nat) : Nat := prt (part l) d
noncomputable def pN (l : List Nat) : Nat := pn (part l) l.length
open Classical in
noncomputable def rt (R : Nat → Nat → Prop) (j : Nat) : Nat := if h : ∃ d, Least R d ∧ pn R d = j then h.choose else 0
/-- What a part has of the first k darts. -/
noncomputable def pV (l : List Nat) (j k : Nat) : Nat := num (fun d => pq l d = j ∧ Leads l d) k
theorem num_le (Q : Nat → Prop) (k : Nat) : num Q k ≤ k := by
  unfold num
  exact Nat.le_trans (List.length_filter_le _ _) (by simp)
theorem num_congr {Q S : Nat → Prop} {k : Nat} (h : ∀ d, d < k → (Q d ↔ S d)) : num Q k = num S k := by
  unfold num
  congr 1
  apply List.filter_congr
  intro d hd
  have := h d (by simpa using hd)
  simp [this]
/-! ### one step of each count -/
/-! ### when a new part is met -/
section
variable {l b : List Nat}
theorem sgL_it (l : List Nat) (i : Nat) : ∀ k, itf (sgL l) k i = it l k i
  | 0 => rfl
  | k + 1 => by show sgL l (itf (sgL l) k i) = _; rw [sgL_it l i k]; rfl
theorem leads_least (h : Inv l b) {d : Nat} (hd : d ≤ l.length) : Leads l d ↔ Least (Orb (sgL l)) d := by
  unfold Leads Least
  constructor
  · intro H j hj ⟨k, e⟩
    refine H j hj ((mem_orb h (by omega)).2 ⟨k, ?_⟩)
    rw [← sgL_it]; exact e
  · intro H j hj m
    obtain ⟨k, e⟩ := (mem_orb h (by omega)).1 m
    exact H j hj ⟨k, by rw [sgL_it]; exact e⟩
/-! ### the genus -/
end
end Go.Proofs.YtgcbdoljapnecaaGreat
namespace Go.Proofs.YtgcbdoljapnecaaGreat
set_option maxRecDepth 20000
open Go.RowKit
set_option linter.unusedVariables false
section
variable {w : World} {base g n c : Nat} {e : TypeId} {y : List Int}
end
/-- A row of parts of the call's own. -/
def NewPt (w : World) (p : Nat) (z : List Int) (e : Ending) (w' : World) : Prop :=
  ∃ A c, e = .returned (.slice A p c) ∧ p ≤ c ∧ c ≤ maxLen ∧ w'.ownsRow w.heap.size 85 5 (.slice A p c) p (I64 z) ∧ Below w.heap.size w w'
theorem NewPt.mk {w w' : World} {p : Nat} {z : List Int} {e : Ending} {v : Value} (he : e = .returned v) (h : w'.ownsRow w.heap.size 85 5 v p (I64 z)) (hb : Below w.heap.size w w') : NewPt w p z e w' := by
  obtain ⟨A, c, rfl, h1, h2⟩ := own_form h
  exact ⟨A, c, he, h1, h2, h, hb⟩
end Go.Proofs.YtgcbdoljapnecaaGreat
