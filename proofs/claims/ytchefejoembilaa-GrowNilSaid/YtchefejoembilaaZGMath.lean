/- Darts put behind one another, and taken out: mathematics. -/
import Derived.Test.YtchefejoembilaaZUNamesM
namespace Go.Proofs.Ytchefejoembilaa
set_option maxRecDepth 20000
open Go.RowKit
set_option linter.unusedVariables false
theorem getDN_set' (y : List Nat) (k j : Nat) (v : Nat) (hk : k < y.length) : (y.set k v).getD j 0 = if j = k then v else y.getD j 0 := by
  by_cases e : j = k
  · subst e; simp [List.getD_eq_getElem?_getD, hk]
  · rw [if_neg e]; simp [List.getD_eq_getElem?_getD, Ne.symm e]
def edgL (l : List Nat) : List Nat := l ++ [l.length, l.length + 1]
def putL (l : List Nat) (d a : Nat) : List Nat := (l.set a d).set d (l.getD a 0)
def putB (l b : List Nat) (d a : Nat) : List Nat := (b.set d a).set (l.getD a 0) d
def takL (l b : List Nat) (d : Nat) : List Nat := (l.set (b.getD d 0) (l.getD d 0)).set d d
def takB (l b : List Nat) (d : Nat) : List Nat := (b.set (l.getD d 0) (b.getD d 0)).set d d
theorem edg_len (l : List Nat) : (edgL l).length = l.length + 2 := by simp [edgL]
theorem put_len (l : List Nat) (d a : Nat) : (putL l d a).length = l.length := by simp [putL]
theorem putB_len (l b : List Nat) (d a : Nat) : (putB l b d a).length = b.length := by simp [putB]
theorem tak_len (l b : List Nat) (d : Nat) : (takL l b d).length = l.length := by simp [takL]
theorem takB_len (l b : List Nat) (d : Nat) : (takB l b d).length = b.length := by simp [takB]
theorem edg_old (l : List Nat) {i : Nat} (hi : i < l.length) : sgL (edgL l) i = sgL l i := by
  show (edgL l).getD i 0 = l.getD i 0
  unfold edgL; simp [List.getD_eq_getElem?_getD, List.getElem?_append_left hi]
theorem edg_new (l : List Nat) {i : Nat} (h1 : l.length ≤ i) (h2 : i < l.length + 2) : sgL (edgL l) i = i := by
  show (edgL l).getD i 0 = i
  unfold edgL
  rw [List.getD_eq_getElem?_getD, List.getElem?_append_right h1]
  have : i = l.length ∨ i = l.length + 1 := by omega
  rcases this with rfl | rfl
  · simp
  · rw [show l.length + 1 - l.length = 1 by omega]; simp
section
variable {l b : List Nat}
theorem put_get (h : Inv l b) {d a : Nat} (hd : d < l.length) (ha : a < l.length) (al : sgL l d = d) (i : Nat) : sgL (putL l d a) i = sgL l (swp d a i) := by
  show (putL l d a).getD i 0 = _
  unfold putL
  rw [getDN_set' _ _ _ _ (by simpa using hd), getDN_set' _ _ _ _ ha]
  unfold swp
  by_cases c : i = d
  · rw [if_pos c, if_pos c]; rfl
  · rw [if_neg c, if_neg c]
    by_cases c2 : i = a
    · rw [if_pos c2, if_pos c2, al]
    · rw [if_neg c2, if_neg c2]; rfl
theorem putB_get (h : Inv l b) {d a : Nat} (hd : d < l.length) (ha : a < l.length) (al : sgL l d = d) {i : Nat} (hi : i < l.length) : sgL (putB l b d a) i = swp d a (sgL b i) := by
  show (putB l b d a).getD i 0 = _
  have hla := h.lt a ha
  have hbd : sgL b d = d := by have := h.lb d hd; rw [show l.getD d 0 = d from al] at this; exact this
  unfold putB
  rw [getDN_set' _ _ _ _ (by simp [h.len]; exact hla), getDN_set' _ _ _ _ (by rw [h.len]; exact hd)]
  unfold swp
  by_cases c : i = l.getD a 0
  · have : sgL b i = a := by rw [c]; exact h.lb a ha
    rw [if_pos c, this]
    by_cases c2 : a = d
    · rw [if_pos c2, c2]
    · rw [if_neg c2, if_pos rfl]
  · rw [if_neg c]
    by_cases c2 : i = d
    · rw [if_pos c2, c2, hbd, if_pos rfl]
    · have n1 : sgL b i ≠ d := fun q => c2 (by have := h.bl i hi; rw [show b.getD i 0 = d from q] at this; rw [← this]; exact al)
      have n2 : sgL b i ≠ a := fun q => c (by have := h.bl i hi; rw [show b.getD i 0 = a from q] at this; exact this.symm)
      rw [if_neg c2, if_neg n1, if_neg n2]; rfl
theorem swp_lt' {n a c i : Nat} (ha : a < n) (hc : c < n) (hi : i < n) : swp a c i < n := swp_lt ha hc hi
theorem put_inv (h : Inv l b) {d a : Nat} (hd : d < l.length) (ha : a < l.length) (al : sgL l d = d) : Inv (putL l d a) (putB l b d a) := by
  have g := put_get h hd ha al
  have gb := fun {i} (hi : i < l.length) => putB_get h hd ha al hi
  have hl := put_len l d a
  have sl := h.lt
  have sb := h.lt'
  refine ⟨by rw [putB_len, hl, h.len], fun i hi => ?_, fun i hi => ?_, fun i hi => ?_, fun i hi => ?_⟩
  all_goals rw [hl] at hi
  · show sgL _ i < _
    rw [g, hl]; exact sl _ (swp_lt hd ha hi)
  · show sgL _ i < _
    rw [gb hi, hl]; exact swp_lt hd ha (sb i hi)
  · show sgL _ (sgL _ i) = i
    have h1 := swp_lt hd ha hi
    have h2 : sgL l (swp d a i) < l.length := sl _ h1
    rw [g, gb h2]
    show swp d a (b.getD (l.getD _ 0) 0) = i
    rw [h.lb _ h1, swp_swp]
  · show sgL _ (sgL _ i) = i
    rw [g, gb hi, swp_swp]
    exact h.bl i hi
theorem tak_get (h : Inv l b) {d : Nat} (hd : d < l.length) (i : Nat) : sgL (takL l b d) i = sgL l (swp d (sgL b d) i) := by
  show (takL l b d).getD i 0 = _
  have hbl := h.lt' d hd
  unfold takL
  rw [getDN_set' _ _ _ _ (by simpa using hd), getDN_set' _ _ _ _ hbl]
  unfold swp
  by_cases c : i = d
  · rw [if_pos c, if_pos c]; exact (h.bl d hd).symm
  · rw [if_neg c, if_neg c]
    by_cases c2 : i = b.getD d 0
    · rw [if_pos c2, if_pos (show i = sgL b d from c2)]; rfl
    · rw [if_neg c2, if_neg (show ¬ i = sgL b d from c2)]; rfl
theorem takB_get (h : Inv l b) {d : Nat} (hd : d < l.length) {i : Nat} (hi : i < l.length) : sgL (takB l b d) i = swp d (sgL b d) (sgL b i) := by
  show (takB l b d).getD i 0 = _
  have hll := h.lt d hd
  unfold takB
  rw [getDN_set' _ _ _ _ (by simp [h.len]; exact hd), getDN_set' _ _ _ _ (by rw [h.len]; exact hll)]
  unfold swp
  by_cases c : i = d
  · rw [if_pos c, c]
    by_cases c2 : sgL b d = d
    · rw [if_pos c2, c2]
    · rw [if_neg c2, if_pos rfl]
  · rw [if_neg c]
    by_cases c2 : i = l.getD d 0
    · have : sgL b i = d := by rw [c2]; exact h.lb d hd
      rw [if_pos c2, this, if_pos rfl]; rfl
    · have n1 : sgL b i ≠ d := fun q => c2 (by have := h.bl i hi; rw [show b.getD i 0 = d from q] at this; exact this.symm)
      have n2 : sgL b i ≠ sgL b d := fun q => c (by
        have h1 := h.bl i hi
        have h2 := h.bl d hd
        rw [show b.getD i 0 = b.getD d 0 from q] at h1
        omega)
      rw [if_neg c2, if_neg n1, if_neg n2]; rfl
theorem tak_inv (h : Inv l b) {d : Nat} (hd : d < l.length) : Inv (takL l b d) (takB l b d) := by
  have g := tak_get h hd
  have gb := fun {i} (hi : i < l.length) => takB_get h hd hi
  have hl := tak_len l b d
  have sl := h.lt
  have sb := h.lt'
  have ha := sb d hd
  refine ⟨by rw [takB_len, hl, h.len], fun i hi => ?_, fun i hi => ?_, fun i hi => ?_, fun i hi => ?_⟩
  all_goals rw [hl] at hi
  · show sgL _ i < _
    rw [g, hl]; exact sl _ (swp_lt hd ha hi)
  · show sgL _ i < _
    rw [gb hi, hl]; exact swp_lt hd ha (sb i hi)
  · show sgL _ (sgL _ i) = i
    have h1 : swp d (sgL b d) i < l.length := swp_lt hd ha hi
    have h2 : sgL l (swp d (sgL b d) i) < l.length := sl _ h1
    rw [g, gb h2]
    show swp d _ (b.getD (l.getD _ 0) 0) = i
    rw [h.lb _ h1, swp_swp]
  · show sgL _ (sgL _ i) = i
    rw [g, gb hi, swp_swp]
    exact h.bl i hi
theorem tak_one (h : Inv l b) {d : Nat} (hd : d < l.length) : sgL (takL l b d) d = d := by
  rw [tak_get h hd]
  have : swp d (sgL b d) d = sgL b d := by unfold swp; rw [if_pos rfl]
  rw [this]; exact h.bl d hd
theorem edg_inv (h : Inv l b) : Inv (edgL l) (edgL b) := by
  have hl := edg_len l
  have hbl : b.length = l.length := h.len
  have gl : ∀ i, i < l.length + 2 → sgL (edgL l) i < l.length + 2 := fun i hi => by
    by_cases c : i < l.length
    · rw [edg_old l c]; have := h.lt i c; show l.getD i 0 < _; omega
    · rw [edg_new l (by omega) hi]; exact hi
  refine ⟨by rw [edg_len, edg_len, hbl], fun i hi => ?_, fun i hi => ?_, fun i hi => ?_, fun i hi => ?_⟩
  all_goals rw [hl] at hi
  · rw [hl]; exact gl i hi
  · rw [hl]
    show sgL (edgL b) i < _
    by_cases c : i < b.length
    · rw [edg_old b c]; have := h.lt' i (by omega); show b.getD i 0 < _; omega
    · rw [edg_new b (by omega) (by omega)]; exact hi
  · show sgL (edgL b) (sgL (edgL l) i) = i
    by_cases c : i < l.length
    · rw [edg_old l c, edg_old b (by have := h.lt i c; show l.getD i 0 < _; omega)]; exact h.lb i c
    · rw [edg_new l (by omega) hi, edg_new b (by omega) (by omega)]
  · show sgL (edgL l) (sgL (edgL b) i) = i
    by_cases c : i < b.length
    · rw [edg_old b c, edg_old l (by have := h.lt' i (by omega); show b.getD i 0 < _; omega)]; exact h.bl i (by omega)
    · rw [edg_new b (by omega) (by omega), edg_new l (by omega) hi]
/-- One that stands alone stays so when another is put elsewhere. -/
theorem put_other (h : Inv l b) {d a i : Nat} (hd : d < l.length) (ha : a < l.length) (al : sgL l d = d) (h1 : i ≠ d) (h2 : i ≠ a) : sgL (putL l d a) i = sgL l i := by
  rw [put_get h hd ha al]
  unfold swp
  rw [if_neg h1, if_neg h2]
theorem tak_other (h : Inv l b) {d i : Nat} (hd : d < l.length) (h1 : i ≠ d) (h2 : i ≠ sgL b d) : sgL (takL l b d) i = sgL l i := by
  rw [tak_get h hd]
  unfold swp
  rw [if_neg h1, if_neg h2]
end
end Go.Proofs.Ytchefejoembilaa
