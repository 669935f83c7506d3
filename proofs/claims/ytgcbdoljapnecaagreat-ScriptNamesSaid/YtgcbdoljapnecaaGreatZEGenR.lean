/- How many vertices, faces and parts a list has, reckoned. The parts together: sums. Doubles of euler: edges between the same two vertices. Doubles, Simple, Triangulation of euler: the walks. The document's Genus; a tree's edges. -/
import Derived.Test.YtgcbdoljapnecaaGreatZEPartsW
import Derived.Test.YtgcbdoljapnecaaGreatZERow5
import Derived.Maps.OwnOps
import Derived.Maps.Views
import Derived.Maps.Keyed
import Derived.WideKeyEntry
import Derived.DeepKeys4
import Derived.Deep.RegionWith
namespace Go.Proofs.YtgcbdoljapnecaaGreat
set_option maxRecDepth 20000
open Go.RowKit
set_option linter.unusedVariables false
def goB (l : List Nat) (d : Nat) : Nat → Nat → Bool
  | 0, _ => true
  | f + 1, x => if x < d then false else goB l d f (l.getD x 0)
def leadB (l : List Nat) (d : Nat) : Bool := goB l d l.length d
/-- How many orbits. -/
def metB (l : List Nat) : Nat := ((List.range l.length).filter (leadB l)).length
theorem goB_iff (l : List Nat) (d : Nat) : ∀ f x, goB l d f x = true ↔ ∀ k, k < f → d ≤ itf (sgL l) k x
  | 0, x => ⟨fun _ k h => absurd h (by omega), fun _ => rfl⟩
  | f + 1, x => by
    unfold goB
    by_cases h : x < d
    · rw [if_pos h]
      constructor
      · intro c; cases c
      · intro c; have := c 0 (by omega); have e : itf (sgL l) 0 x = x := rfl; omega
    · rw [if_neg h, goB_iff l d f]
      constructor
      · intro c k hk
        cases k with
        | zero => show d ≤ x; omega
        | succ k => rw [itf_succ]; exact c k (by omega)
      · intro c k hk
        have := c (k + 1) (by omega)
        rwa [itf_succ] at this
section
variable {l b : List Nat}
theorem leadB_iff (h : Inv l b) {d : Nat} (hd : d < l.length) : leadB l d = true ↔ Leads l d := by
  unfold leadB
  rw [goB_iff, leads_orb h hd]
  constructor
  · intro H x hx
    have hx' : x ∈ way l d (per l d) := hx
    obtain ⟨j, hj, e⟩ := mem_way.1 hx'
    have hp := per_le h hd
    have := H j (by omega)
    rw [sgL_it, e] at this
    exact this
  · intro H k _
    have := H (itf (sgL l) k d) ((mem_orb h hd).2 ⟨k, by rw [sgL_it]⟩)
    exact this
theorem met_is (h : Inv l b) : met l l.length = metB l := by
  unfold met leads metB
  congr 1
  apply List.filter_congr
  intro d hd
  have hd : d < l.length := by simpa using hd
  rw [Bool.eq_iff_iff, leadB_iff h hd, decide_eq_true_iff]
end
section
variable {l b : List Nat}
end
end Go.Proofs.YtgcbdoljapnecaaGreat
namespace Go.Proofs.YtgcbdoljapnecaaGreat
set_option maxRecDepth 20000
open Go.RowKit
set_option linter.unusedVariables false
noncomputable def vcell (l : List Nat) (j : Nat) : Nat := if j < pN l then pV l j l.length else 1
section
variable {l b : List Nat}
end
end Go.Proofs.YtgcbdoljapnecaaGreat
namespace Go.Proofs.YtgcbdoljapnecaaGreat
set_option maxRecDepth 20000
open Go.RowKit Go.Maps
set_option linter.unusedVariables false
/-- How many of the first k edges are between a and c. -/
noncomputable def prN (l : List Nat) (a c k : Nat) : Nat := num (fun e => lowE l e = a ∧ highE l e = c) k
def kP (a c : Nat) : Lit := .string (keyBytes [.int .i64 (a : Int), .int .i64 (c : Int)])
structure PM (D : DataW Unit) (l : List Nat) (k : Nat) : Prop where
  isMap : Maps.IsMap D
  at_ : ∀ a c : Nat, a ≤ 1000000 → c ≤ 1000000 → a ≠ c → D.atKey (kP a c) (.lit (.int .i64 0)) = .lit (.int .i64 (prN l a c k : Nat))
theorem PM.zero (l : List Nat) : PM (.map []) l 0 := ⟨isMap_empty, fun a c _ _ _ => by simp [DataW.atKey, prN, num]⟩
theorem PM.loop {D : DataW Unit} {l : List Nat} {k : Nat} (h : PM D l k) (e : lowE l k = highE l k) : PM D l (k + 1) :=
  ⟨h.isMap, fun a c ha hc hne => by
    rw [h.at_ a c ha hc hne]
    unfold prN
    rw [(num_next _ k).2 (fun x => hne (by rw [← x.1, ← x.2, e]))]⟩
end Go.Proofs.YtgcbdoljapnecaaGreat
namespace Go.Proofs.YtgcbdoljapnecaaGreat
set_option maxRecDepth 20000
open Go.RowKit Go.Maps
set_option linter.unusedVariables false
def BoolPost (P : Prop) (w : World) (e : Ending) (w' : World) : Prop := ∃ r : Bool, e = .returned (.bool r) ∧ (r = true ↔ P) ∧ Below w.heap.size w w'
theorem BoolPost.no {P : Prop} {w w' : World} {e : Ending} (he : e = .returned (.bool false)) (h : ¬ P) (hb : Below w.heap.size w w') : BoolPost P w e w' := ⟨false, he, ⟨fun c => (by cases c), fun c => absurd c h⟩, hb⟩
/-! ### of nil -/
end Go.Proofs.YtgcbdoljapnecaaGreat
namespace Go.Proofs.YtgcbdoljapnecaaGreat
set_option maxRecDepth 20000
open Go.RowKit
set_option linter.unusedVariables false
/-! ### edges that are neither loops nor doubles -/
section
variable {l b : List Nat}
theorem name_orb (h : Inv l b) {i j : Nat} (hi : i < l.length) (hj : j < l.length) (e : nameOf l i = nameOf l j) : Orb (sgL l) i j := by
  have hq := (sgL_pf h).eqv
  have key : ∀ x, x < l.length → Orb (sgL l) (lead l x) x := fun x hx => by
    obtain ⟨h1, h2, h3⟩ := lead_is h hx
    obtain ⟨t, et⟩ := (mem_orb h (by omega)).1 h3
    exact ⟨t, by rw [sgL_it]; exact et⟩
  have hl : lead l i = lead l j := by
    unfold nameOf at e
    obtain ⟨a1, a2, _⟩ := lead_is h hi
    obtain ⟨b1, b2, _⟩ := lead_is h hj
    rcases Nat.lt_trichotomy (lead l i) (lead l j) with c | c | c
    · have := leads_lt l _ _ a2 c; omega
    · exact c
    · have := leads_lt l _ _ b2 c; omega
  have li := (lead_is h hi).1
  have h1 := key i hi
  have h2 := key j hj
  rw [← hl] at h2
  exact hq.trans _ _ _ hi (by omega) hj (hq.symm _ _ (by omega) hi h1) h2
end
end Go.Proofs.YtgcbdoljapnecaaGreat
