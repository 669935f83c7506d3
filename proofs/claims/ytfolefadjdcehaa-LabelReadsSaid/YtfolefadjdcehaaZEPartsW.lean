/- Genus, Planar, Connected of a map. made: a map of numbers, and the document's (layer 8). The document's names of parts, while they sink. The document's Names of parts. The document's count of orbits in a part. The document's Parts. The document's Parts: the walk. -/
import Derived.Test.YtfolefadjdcehaaZEParts
import Derived.Test.YtfolefadjdcehaaZDPhi
namespace Go.Proofs.Ytfolefadjdcehaa
set_option maxRecDepth 20000
open Go.RowKit
set_option linter.unusedVariables false
noncomputable def pgen (l : List Nat) (j : Nat) : Nat := if j < pN l then (pG l j).toNat else 0
noncomputable def genusTo (l : List Nat) (k : Nat) : Nat := ((List.range k).map (pgen l)).sum
noncomputable def genusN (l : List Nat) : Nat := genusTo l (pN l)
theorem genusTo_next (l : List Nat) (k : Nat) : genusTo l (k + 1) = genusTo l k + pgen l k := by
  unfold genusTo; rw [List.range_succ, List.map_append, List.sum_append]; simp
theorem genusTo_lone (l : List Nat) : ∀ c, genusTo l (pN l + c) = genusN l
  | 0 => rfl
  | c + 1 => by
    rw [← Nat.add_assoc, genusTo_next, genusTo_lone l c]
    unfold pgen; rw [if_neg (by omega)]; rfl
theorem pN_le (l : List Nat) : pN l ≤ l.length := pn_le _ _
section
variable {l b : List Nat}
theorem pgen_is (h : Inv l b) (he : l.length % 2 = 0) (hp : Inv (phiL l) (phiB l b)) (j : Nat) : pcL l (5 * j + 4) = (pgen l j : Int) ∧ pgen l j ≤ l.length := by
  unfold pcL pgen
  rw [show (5 * j + 4) / 5 = j by omega]
  by_cases hj : j < pN l
  · rw [if_pos hj, if_pos hj, pc_4, if_pos hj]
    obtain ⟨G, hG, hE⟩ := pG_is h he hp hj
    have := pE_le l j l.length
    have := pN_le l
    rw [hG]
    exact ⟨by omega, by omega⟩
  · rw [if_neg hj, if_neg hj, if_neg (by omega), if_neg (by omega), if_neg (by omega)]
    exact ⟨rfl, by omega⟩
theorem genusTo_le (h : Inv l b) (he : l.length % 2 = 0) (hp : Inv (phiL l) (phiB l b)) : ∀ k, genusTo l k ≤ k * l.length
  | 0 => by simp [genusTo]
  | k + 1 => by
    rw [genusTo_next, Nat.add_mul, Nat.one_mul]
    have := genusTo_le h he hp k
    have := (pgen_is h he hp k).2
    omega
end
end Go.Proofs.Ytfolefadjdcehaa
namespace Go.Proofs.Ytfolefadjdcehaa
set_option maxRecDepth 20000
open Go.RowKit
set_option linter.unusedVariables false
end Go.Proofs.Ytfolefadjdcehaa
namespace Go.Proofs.Ytfolefadjdcehaa
set_option maxRecDepth 20000
open Go.RowKit
set_option linter.unusedVariables false
structure NmOk (l N : List Nat) : Prop where
  len : N.length = l.length
  le : ∀ d, d < l.length → N.getD d 0 ≤ d
  inp : ∀ d, d < l.length → part l d (N.getD d 0)
def Shut (l N : List Nat) (d : Nat) : Prop := N.getD (l.getD d 0) 0 = N.getD d 0 ∧ N.getD (mateN d) 0 = N.getD d 0
theorem getDN_set (y : List Nat) (k j v : Nat) (hk : k < y.length) : (y.set k v).getD j 0 = if j = k then v else y.getD j 0 := by
  rw [List.getD_eq_getElem?_getD, List.getD_eq_getElem?_getD, List.getElem?_set]
  by_cases h : k = j
  · subst h; simp [hk]
  · simp [h, Ne.symm h]
theorem sum_set : ∀ (N : List Nat) (i v : Nat), i < N.length → (N.set i v).sum + N.getD i 0 = N.sum + v
  | [], i, v, h => by simp at h
  | a :: r, 0, v, h => by simp; omega
  | a :: r, i + 1, v, h => by
    have := sum_set r i v (by simpa using h)
    simp at this ⊢
    omega
section
variable {l b N : List Nat}
theorem NmOk.start (h : Inv l b) (he : l.length % 2 = 0) : NmOk l (List.range l.length) := by
  have e : ∀ d, d < l.length → (List.range l.length).getD d 0 = d := fun d hd => by simp [List.getD_eq_getElem?_getD, List.getElem?_range hd]
  exact ⟨by simp, fun d hd => by rw [e d hd]; exact Nat.le_refl _, fun d hd => by rw [e d hd]; exact (part_eqv h he).refl d hd⟩
/-- What is told by x sinks at d. -/
theorem NmOk.put (h : Inv l b) (he : l.length % 2 = 0) (H : NmOk l N) {d x : Nat} (hd : d < l.length) (hx : x < l.length) (r : part l d x) (lt : N.getD x 0 < N.getD d 0) :
    NmOk l (N.set d (N.getD x 0)) ∧ (N.set d (N.getD x 0)).sum < N.sum := by
  have hq := part_eqv h he
  have hl := H.len
  refine ⟨⟨by simp [hl], fun y hy => ?_, fun y hy => ?_⟩, ?_⟩
  · rw [getDN_set _ _ _ _ (by omega)]
    by_cases e : y = d
    · subst e; rw [if_pos rfl]; have := H.le y hy; omega
    · rw [if_neg e]; exact H.le y hy
  · rw [getDN_set _ _ _ _ (by omega)]
    by_cases e : y = d
    · subst e; rw [if_pos rfl]
      have h1 := H.le x hx
      exact hq.trans _ _ _ hd hx (by omega) r (H.inp x hx)
    · rw [if_neg e]; exact H.inp y hy
  · have := sum_set N d (N.getD x 0) (by omega)
    omega
theorem NmOk.done (h : Inv l b) (he : l.length % 2 = 0) (H : NmOk l N) (hs : ∀ d, d < l.length → Shut l N d) {d : Nat} (hd : d < l.length) : N.getD d 0 = rep (part l) d := by
  have hpf := sgL_pf h
  have hn : l.length = 2 * (l.length / 2) := by omega
  have hq := part_eqv h he
  obtain ⟨h1, h2, h3⟩ := rep_is hq hd
  have hp : rep (part l) d < l.length := by omega
  have key := part_closed (S := fun i => N.getD i 0 = N.getD (rep (part l) d) 0) hpf hn
    (fun i hi s => by have := (hs i hi).1; show N.getD (sgL l i) 0 = _; unfold sgL; rw [this]; exact s)
    (fun i hi s => by have := (hs i hi).2; rw [mt_mateN] at this; show N.getD (mt i) 0 = _; rw [this]; exact s) _ d hp hd h2
  rw [key.1 rfl]
  have a := H.le _ hp
  have c := H.inp _ hp
  by_cases e : N.getD (rep (part l) d) 0 = rep (part l) d
  · exact e
  · exact absurd (hq.symm _ _ hp (by omega) c) (h3 _ (by omega))
end
/-- The measure of the sinking. -/
def msum (wr : World) (gn n : Nat) : Nat := ((rowOf wr gn n).map Int.toNat).sum
def bOf : Value → Nat
  | .bool true => 1
  | _ => 0
theorem toNat_ofN (N : List Nat) : (ofN N).map Int.toNat = N := by
  unfold ofN
  rw [List.map_map]
  conv => rhs; rw [← List.map_id N]
  apply List.map_congr_left
  intro x _
  simp
theorem msum_is {wr : World} {B gn n c : Nat} {N : List Nat} (h : wr.ownsRow B 3 1 (.slice (some ⟨gn, 0, none⟩) n c) n (I64 (ofN N))) : msum wr gn n = N.sum := by
  unfold msum
  rw [rowOf_is h, toNat_ofN]
theorem ofN_setN (N : List Nat) (i v : Nat) : (ofN N).set i (v : Int) = ofN (N.set i v) := by simp [ofN, List.map_set]
theorem own_setN {w : World} {base : Nat} {g n c : Nat} {y : List Nat} (h : w.ownsRow base 3 1 (.slice (some ⟨g, 0, none⟩) n c) n (I64 (ofN y))) (k v : Nat) :
    (w.setCell ⟨g, k, none⟩ (.int .i64 (v : Int))).ownsRow base 3 1 (.slice (some ⟨g, 0, none⟩) n c) n (I64 (ofN (y.set k v))) := by
  rw [← ofN_setN]; exact own_setI h k _
theorem ofN_of {y : List Int} {N : List Nat} (hl : y.length = N.length) (h : ∀ i, i < N.length → y.getD i 0 = (N.getD i 0 : Nat)) : y = ofN N :=
  getDI_ext (by rw [hl, ofN_len]) fun i hi => by rw [h i (by omega), ofN_get]
end Go.Proofs.Ytfolefadjdcehaa
namespace Go.Proofs.Ytfolefadjdcehaa
set_option maxRecDepth 20000
open Go.RowKit
set_option linter.unusedVariables false
end Go.Proofs.Ytfolefadjdcehaa
namespace Go.Proofs.Ytfolefadjdcehaa
set_option maxRecDepth 20000
open Go.RowKit
set_option linter.unusedVariables false
theorem leads_orb {l b : List Nat} (h : Inv l b) {k : Nat} (hk : k < l.length) : Leads l k ↔ ∀ x, x ∈ orb l k → k ≤ x := by
  rw [leads_least h (Nat.le_of_lt hk)]
  have hq := (sgL_pf h).eqv
  constructor
  · intro H x hx
    have hxl := orb_lt h hk hx
    obtain ⟨t, e⟩ := (mem_orb h hk).1 hx
    rcases Nat.lt_or_ge x k with c | c
    · exact absurd (hq.symm _ _ hk hxl ⟨t, by rw [sgL_it]; exact e⟩) (H x c)
    · exact c
  · intro H j hj o
    obtain ⟨t, e⟩ := hq.symm _ _ (by omega) hk o
    have := H j ((mem_orb h hk).2 ⟨t, by rw [← sgL_it]; exact e⟩)
    omega
theorem getD_orb_mem {L : List Nat} {i : Nat} (h : i < L.length) : L.getD i 0 ∈ L := by
  rw [List.getD_eq_getElem?_getD, List.getElem?_eq_getElem h]; exact List.getElem_mem h
theorem mem_getD {L : List Nat} {x : Nat} (h : x ∈ L) : ∃ i, i < L.length ∧ L.getD i 0 = x := by
  obtain ⟨i, hi, e⟩ := List.mem_iff_getElem.1 h
  exact ⟨i, hi, by rw [List.getD_eq_getElem?_getD, List.getElem?_eq_getElem hi]; exact e⟩
end Go.Proofs.Ytfolefadjdcehaa
namespace Go.Proofs.Ytfolefadjdcehaa
set_option maxRecDepth 20000
open Go.RowKit
set_option linter.unusedVariables false
section
variable {l b : List Nat}
theorem pq_mate (h : Inv l b) (he : l.length % 2 = 0) {e : Nat} (hE : 2 * e + 1 < l.length) : pq l (2 * e + 1) = pq l (2 * e) := by
  have hpf := sgL_pf h
  unfold pq
  rw [prt_iff (part_eqv h he) hE (by omega)]
  exact (part_eqv h he).symm _ _ (by omega) hE (gk_edge hpf e _ (by omega))
theorem num_two (h : Inv l b) (he : l.length % 2 = 0) (j : Nat) : num (fun d => pq l d = j) l.length = 2 * pE l j l.length := by
  have key : ∀ k, k ≤ l.length / 2 → num (fun d => pq l d = j) (2 * k) = 2 * pE l j (2 * k) := fun k => by
    induction k with
    | zero => intro _; simp [num, pE]
    | succ k ih =>
      intro hk
      have ih' := ih (by omega)
      have hm := pq_mate h he (show 2 * k + 1 < l.length by omega)
      rw [show 2 * (k + 1) = 2 * k + 1 + 1 by omega]
      have n1 : pE l j (2 * k + 1 + 1) = pE l j (2 * k + 1) := pE_else (.inl (by omega))
      rw [n1]
      by_cases e : pq l (2 * k) = j
      · have a1 := (num_next (fun d => pq l d = j) (2 * k)).1 e
        have a2 := (num_next (fun d => pq l d = j) (2 * k + 1)).1 (by rw [hm]; exact e)
        have a3 := pE_yes (l := l) (k := 2 * k) (by omega)
        rw [e] at a3
        omega
      · have a1 := (num_next (fun d => pq l d = j) (2 * k)).2 e
        have a2 := (num_next (fun d => pq l d = j) (2 * k + 1)).2 (by rw [hm]; exact e)
        have a3 : pE l j (2 * k + 1) = pE l j (2 * k) := pE_else (.inr e)
        omega
  have := key (l.length / 2) (Nat.le_refl _)
  rwa [show 2 * (l.length / 2) = l.length by omega] at this
theorem enames_get (l : List Nat) {d : Nat} (hd : d < l.length) : (enames l).getD d 0 = pq l d := by unfold enames prts; rw [map_rangeN _ _ _ hd]; rfl
theorem num_enames (l : List Nat) (S : Nat → Prop) (j : Nat) : num (fun d => (enames l).getD d 0 = j ∧ S d) l.length = num (fun d => pq l d = j ∧ S d) l.length :=
  num_congr fun d hd => by rw [enames_get l hd]
theorem partsC_new (h : Inv l b) (he : l.length % 2 = 0) (hp : Inv (phiL l) (phiB l b)) {k p G : Nat} (hk : k < l.length) (H : Least (part l) k) (hp1 : p = pn (part l) k) (hG : pG l p = (G : Int)) :
    partsC l p ++ [(k : Int), (pV l p l.length : Int), (pE l p l.length : Int), (pB l p l.length : Int), (G : Int)] = partsC l (p + 1) := by
  have hlt : p < pN l := by rw [hp1]; exact pn_lt _ H hk
  unfold partsC
  rw [range_five]
  have e : ∀ f, f < 5 → pcL l (5 * p + f) = pc l l.length l.length l.length (pN l) (5 * p + f) := fun f hf => by unfold pcL; rw [if_pos (by omega)]
  have e0 := e 0 (by omega)
  rw [Nat.add_zero] at e0
  rw [e0, e 1 (by omega), e 2 (by omega), e 3 (by omega), e 4 (by omega), pc_0, pc_1, pc_2, pc_3, pc_4, if_pos hlt, hG, hp1, rt_of H]
end
end Go.Proofs.Ytfolefadjdcehaa
namespace Go.Proofs.Ytfolefadjdcehaa
set_option maxRecDepth 20000
open Go.RowKit
set_option linter.unusedVariables false
end Go.Proofs.Ytfolefadjdcehaa
