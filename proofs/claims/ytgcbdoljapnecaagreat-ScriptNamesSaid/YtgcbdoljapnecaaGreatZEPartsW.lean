/- Genus, Planar, Connected of a map. made: a map of numbers, and the document's (layer 8). The document's names of parts, while they sink. The document's Names of parts. The document's count of orbits in a part. The document's Parts. The document's Parts: the walk. -/
import Derived.Test.YtgcbdoljapnecaaGreatZEParts
import Derived.Test.YtgcbdoljapnecaaGreatZDPhi
namespace Go.Proofs.YtgcbdoljapnecaaGreat
set_option maxRecDepth 20000
open Go.RowKit
set_option linter.unusedVariables false
section
variable {l b : List Nat}
end
end Go.Proofs.YtgcbdoljapnecaaGreat
namespace Go.Proofs.YtgcbdoljapnecaaGreat
set_option maxRecDepth 20000
open Go.RowKit
set_option linter.unusedVariables false
end Go.Proofs.YtgcbdoljapnecaaGreat
namespace Go.Proofs.YtgcbdoljapnecaaGreat
set_option maxRecDepth 20000
open Go.RowKit
set_option linter.unusedVariables false
structure NmOk (l N : List Nat) : Prop where
  len : N.length = l.length
  le : ∀ d, d < l.length → N.getD d 0 ≤ d
  inp : ∀ d, d < l.length → part l d (N.getD d 0)
def Shut (l N : List Nat) (d : Nat) : Prop := N.getD (l.getD d 0) 0 = N.getD d 0 ∧ N.getD (mateN d) 0 = N.getD d 0
theorem getDN_set (y : List Nat) (k j v : Nat) (hk : k < y.length) : (y.set k v).getD j 0 = if j = k then v else y.getD j 0 := by
  rw [List.getD_eq_getElem?_getD, List.getD_eq_getElem?_getD, List.getElem?_set]
  by_cases h : k = j
  · subst h; simp [hk]
  · simp [h, Ne.symm h]
theorem sum_set : ∀ (N : List Nat) (i v : Nat), i < N.length → (N.set i v).sum + N.getD i 0 = N.sum + v
  | [], i, v, h => by simp at h
  | a :: r, 0, v, h => by simp; omega
  | a :: r, i + 1, v, h => by
    have := sum_set r i v (by simpa using h)
    simp at this ⊢
    omega
section
variable {l b N : List Nat}
theorem NmOk.start (h : Inv l b) (he : l.length % 2 = 0) : NmOk l (List.range l.length) := by
  have e : ∀ d, d < l.length → (List.range l.length).getD d 0 = d := fun d hd => by simp [List.getD_eq_getElem?_getD, List.getElem?_range hd]
  exact ⟨by simp, fun d hd => by rw [e d hd]; exact Nat.le_refl _, fun d hd => by rw [e d hd]; exact (part_eqv h he).refl d hd⟩
/-- What is told by x sinks at d. -/
theorem NmOk.put (h : Inv l b) (he : l.length % 2 = 0) (H : NmOk l N) {d x : Nat} (hd : d < l.length) (hx : x < l.length) (r : part l d x) (lt : N.getD x 0 < N.getD d 0) :
    NmOk l (N.set d (N.getD x 0)) ∧ (N.set d (N.getD x 0)).sum < N.sum := by
  have hq := part_eqv h he
  have hl := H.len
  refine ⟨⟨by simp [hl], fun y hy => ?_, fun y hy => ?_⟩, ?_⟩
  · rw [getDN_set _ _ _ _ (by omega)]
    by_cases e : y = d
    · subst e; rw [if_pos rfl]; have := H.le y hy; omega
    · rw [if_neg e]; exact H.le y hy
  · rw [getDN_set _ _ _ _ (by omega)]
    by_cases e : y = d
    · subst e; rw [if_pos rfl]
      have h1 := H.le x hx
      exact hq.trans _ _ _ hd hx (by omega) r (H.inp x hx)
    · rw [if_neg e]; exact H.inp y hy
  · have := sum_set N d (N.getD x 0) (by omega)
    omega
theorem NmOk.done (h : Inv l b) (he : l.length % 2 = 0) (H : NmOk l N) (hs : ∀ d, d < l.length → Shut l N d) {d : Nat} (hd : d < l.length) : N.getD d 0 = rep (part l) d := by
  have hpf := sgL_pf h
  have hn : l.length = 2 * (l.length / 2) := by omega
  have hq := part_eqv h he
  obtain ⟨h1, h2, h3⟩ := rep_is hq hd
  have hp : rep (part l) d < l.length := by omega
  have key := part_closed (S := fun i => N.getD i 0 = N.getD (rep (part l) d) 0) hpf hn
    (fun i hi s => by have := (hs i hi).1; show N.getD (sgL l i) 0 = _; unfold sgL; rw [this]; exact s)
    (fun i hi s => by have := (hs i hi).2; rw [mt_mateN] at this; show N.getD (mt i) 0 = _; rw [this]; exact s) _ d hp hd h2
  rw [key.1 rfl]
  have a := H.le _ hp
  have c := H.inp _ hp
  by_cases e : N.getD (rep (part l) d) 0 = rep (part l) d
  · exact e
  · exact absurd (hq.symm _ _ hp (by omega) c) (h3 _ (by omega))
end
theorem ofN_setN (N : List Nat) (i v : Nat) : (ofN N).set i (v : Int) = ofN (N.set i v) := by simp [ofN, List.map_set]
end Go.Proofs.YtgcbdoljapnecaaGreat
namespace Go.Proofs.YtgcbdoljapnecaaGreat
set_option maxRecDepth 20000
open Go.RowKit
set_option linter.unusedVariables false
end Go.Proofs.YtgcbdoljapnecaaGreat
namespace Go.Proofs.YtgcbdoljapnecaaGreat
set_option maxRecDepth 20000
open Go.RowKit
set_option linter.unusedVariables false
theorem leads_orb {l b : List Nat} (h : Inv l b) {k : Nat} (hk : k < l.length) : Leads l k ↔ ∀ x, x ∈ orb l k → k ≤ x := by
  rw [leads_least h (Nat.le_of_lt hk)]
  have hq := (sgL_pf h).eqv
  constructor
  · intro H x hx
    have hxl := orb_lt h hk hx
    obtain ⟨t, e⟩ := (mem_orb h hk).1 hx
    rcases Nat.lt_or_ge x k with c | c
    · exact absurd (hq.symm _ _ hk hxl ⟨t, by rw [sgL_it]; exact e⟩) (H x c)
    · exact c
  · intro H j hj o
    obtain ⟨t, e⟩ := hq.symm _ _ (by omega) hk o
    have := H j ((mem_orb h hk).2 ⟨t, by rw [← sgL_it]; exact e⟩)
    omega
end Go.Proofs.YtgcbdoljapnecaaGreat
namespace Go.Proofs.YtgcbdoljapnecaaGreat
set_option maxRecDepth 20000
open Go.RowKit
set_option linter.unusedVariables false
section
variable {l b : List Nat}
theorem enames_get (l : List Nat) {d : Nat} (hd : d < l.length) : (enames l).getD d 0 = pq l d := by unfold enames prts; rw [map_rangeN _ _ _ hd]; rfl
end
end Go.Proofs.YtgcbdoljapnecaaGreat
namespace Go.Proofs.YtgcbdoljapnecaaGreat
set_option maxRecDepth 20000
open Go.RowKit
set_option linter.unusedVariables false
end Go.Proofs.YtgcbdoljapnecaaGreat
