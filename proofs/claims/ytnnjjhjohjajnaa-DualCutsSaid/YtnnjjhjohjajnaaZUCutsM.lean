/- A filtered row of darts around a vertex: who stands behind whom. -/
import Derived.Test.YtnnjjhjohjajnaaZUApartM
import Derived.Test.YtnnjjhjohjajnaaZUFrom
namespace Go.Proofs.Ytnnjjhjohjajnaa
set_option maxRecDepth 20000
open Go.RowKit
set_option linter.unusedVariables false
/-- The one behind the i-th, around. -/
def nxt (v : List Nat) (i : Nat) : Nat := if i + 1 < v.length then v.getD (i + 1) 0 else v.getD 0 0
/-- Around the list goes f. -/
def Cyc (f : Nat → Nat) (O : List Nat) : Prop := ∀ i, i < O.length → nxt O i = f (O.getD i 0)
theorem Cyc.it {f : Nat → Nat} {O : List Nat} (h : Cyc f O) {a : Nat} (ha : a < O.length) : ∀ s, itf f s (O.getD a 0) = O.getD ((a + s) % O.length) 0
  | 0 => by rw [Nat.add_zero, Nat.mod_eq_of_lt ha]; rfl
  | s + 1 => by
    have ih := h.it ha s
    have hlt : (a + s) % O.length < O.length := Nat.mod_lt _ (by omega)
    show f (itf f s (O.getD a 0)) = _
    rw [ih, ← h _ hlt]
    unfold nxt
    have hm : (a + (s + 1)) % O.length = ((a + s) % O.length + 1) % O.length := by rw [← Nat.add_assoc, Nat.mod_add_mod]
    rw [hm]
    by_cases c : (a + s) % O.length + 1 < O.length
    · rw [if_pos c, Nat.mod_eq_of_lt c]
    · rw [if_neg c]
      have : (a + s) % O.length + 1 = O.length := by omega
      rw [this, Nat.mod_self]
theorem filter_split (S : Nat → Bool) : ∀ (O : List Nat) (i : Nat), i < (O.filter S).length → ∃ A x B, O = A ++ x :: B ∧ (A.filter S).length = i ∧ S x = true ∧ (O.filter S).getD i 0 = x
  | [], i, h => by simp at h
  | y :: O, i, h => by
    by_cases c : S y = true
    · rw [List.filter_cons_of_pos c] at h ⊢
      cases i with
      | zero => exact ⟨[], y, O, rfl, rfl, c, rfl⟩
      | succ i =>
        obtain ⟨A, x, B, e1, e2, e3, e4⟩ := filter_split S O i (by simpa using h)
        exact ⟨y :: A, x, B, by rw [e1]; rfl, by rw [List.filter_cons_of_pos c, List.length_cons, e2], e3, by simpa using e4⟩
    · rw [List.filter_cons_of_neg c] at h ⊢
      obtain ⟨A, x, B, e1, e2, e3, e4⟩ := filter_split S O i h
      exact ⟨y :: A, x, B, by rw [e1]; rfl, by rw [List.filter_cons_of_neg c, e2], e3, e4⟩
theorem filter_head (S : Nat → Bool) : ∀ (R : List Nat) (y : Nat) (T : List Nat), R.filter S = y :: T → ∃ k, k < R.length ∧ R.getD k 0 = y ∧ S y = true ∧ ∀ j, j < k → ¬ S (R.getD j 0) = true
  | [], y, T, h => by simp at h
  | z :: R, y, T, h => by
    by_cases c : S z = true
    · rw [List.filter_cons_of_pos c] at h
      cases h
      exact ⟨0, by simp, rfl, c, fun j hj => by omega⟩
    · rw [List.filter_cons_of_neg c] at h
      obtain ⟨k, h1, h2, h3, h4⟩ := filter_head S R y T h
      refine ⟨k + 1, by simpa using h1, by simpa using h2, h3, fun j hj => ?_⟩
      cases j with
      | zero => simpa using c
      | succ j => simpa using h4 j (by omega)
/-- Of a filtered row the one behind another is the first that is left, going on by f. -/
theorem Cyc.fst {f : Nat → Nat} {O : List Nat} (h : Cyc f O) (S : Nat → Bool) {i : Nat} (hi : i < (O.filter S).length) : Fst f (fun y => S y = true) ((O.filter S).getD i 0) (nxt (O.filter S) i) := by
  obtain ⟨A, x, B, e1, e2, e3, e4⟩ := filter_split S O i hi
  have hn : O.length = A.length + 1 + B.length := by rw [e1]; simp; omega
  have ha : A.length < O.length := by omega
  have hx : O.getD A.length 0 = x := by rw [e1]; simp [List.getD_eq_getElem?_getD]
  have hit := h.it ha
  rw [hx] at hit
  have hR : ∀ j, j < O.length → (B ++ (A ++ [x])).getD j 0 = itf f (j + 1) x := fun j hj => by
    rw [hit]
    by_cases c : j < B.length
    · rw [Nat.mod_eq_of_lt (by omega), e1]
      simp only [List.getD_eq_getElem?_getD]
      rw [List.getElem?_append_left c, List.getElem?_append_right (by omega), show A.length + (j + 1) - A.length = j + 1 by omega, List.getElem?_cons_succ]
    · have hm : (A.length + (j + 1)) % O.length = j - B.length := by
        rw [show A.length + (j + 1) = (j - B.length) + O.length by omega, Nat.add_mod_right, Nat.mod_eq_of_lt (by omega)]
      rw [hm]
      simp only [List.getD_eq_getElem?_getD]
      rw [List.getElem?_append_right (by omega)]
      generalize hk : j - B.length = k
      rw [e1]
      by_cases d : k < A.length
      · rw [List.getElem?_append_left d, List.getElem?_append_left d]
      · obtain rfl : k = A.length := by omega
        simp
  have hv : O.filter S = A.filter S ++ x :: B.filter S := by rw [e1, List.filter_append, List.filter_cons_of_pos e3]
  have hfl : ∃ T, (B ++ (A ++ [x])).filter S = nxt (O.filter S) i :: T := by
    rw [List.filter_append, List.filter_append, List.filter_cons_of_pos e3, List.filter_nil]
    unfold nxt
    rw [hv]
    cases hB : B.filter S with
    | nil =>
      rw [if_neg (by simp; omega)]
      cases hA : A.filter S with
      | nil => exact ⟨[], rfl⟩
      | cons a T => exact ⟨T ++ [x], rfl⟩
    | cons y T =>
      rw [if_pos (by simp; omega)]
      refine ⟨T ++ (A.filter S ++ [x]), ?_⟩
      rw [← e2]
      simp [List.getD_eq_getElem?_getD]
  obtain ⟨T, hT⟩ := hfl
  obtain ⟨k, k1, k2, k3, k4⟩ := filter_head S _ _ _ hT
  have hl : (B ++ (A ++ [x])).length = O.length := by rw [hn]; simp; omega
  rw [hl] at k1
  rw [e4]
  refine ⟨k + 1, by omega, by rw [← hR k k1]; exact k2, k3, fun s hs1 hs2 => ?_⟩
  have := k4 (s - 1) (by omega)
  rw [hR (s - 1) (by omega), show s - 1 + 1 = s by omega] at this
  exact this
section
variable {l b : List Nat}
/-- Around a vertex goes l. -/
theorem orb_cyc (h : Inv l b) {d : Nat} (hd : d < l.length) : Cyc (sgL l) (orb l d) := by
  intro i hi
  have hl : (orb l d).length = per l d := by unfold orb; exact way_len _ _ _
  rw [hl] at hi
  have hg : ∀ k, k < per l d → (orb l d).getD k 0 = it l k d := fun k hk => by
    unfold orb; exact way_get l d _ k hk
  unfold nxt
  rw [hl, hg i hi]
  by_cases c : i + 1 < per l d
  · rw [if_pos c, hg _ c]; rfl
  · rw [if_neg c, hg 0 (by omega)]
    have hp := (per_is h hd).2.1
    have : i + 1 = per l d := by omega
    rw [← this] at hp
    exact hp.symm
/-- The darts of a vertex without the edge's: behind each stands the next one that is left. -/
theorem flt_cut (h : Inv l b) {e d : Nat} (he : e < l.length / 2) (hd : d < l.length) {i : Nat} (hi : i < (fltE e (orb l d)).length) :
    nxt (fltE e (orb l d)) i = sk l e ((fltE e (orb l d)).getD i 0) := by
  have hf := (orb_cyc h hd).fst (fun x => decide (x / 2 ≠ e)) hi
  have hm : (fltE e (orb l d)).getD i 0 ∈ fltE e (orb l d) := by
    rw [List.getD_eq_getElem?_getD, List.getElem?_eq_getElem hi]; exact List.getElem_mem hi
  have hm2 := List.mem_filter.1 hm
  have hx : (fltE e (orb l d)).getD i 0 < l.length := by
    obtain ⟨t, ht⟩ := (mem_orb h hd).1 hm2.1
    rw [← ht]; exact it_lt h hd t
  have hk := sk_fst h he hx (by simpa using hm2.2)
  obtain ⟨t, t1, t2, t3, t4⟩ := hf
  refine Fst.uniq (f := sgL l) (S := fun y => y / 2 ≠ e) ⟨t, t1, t2, of_decide_eq_true t3, fun s s1 s2 c => t4 s s1 s2 (decide_eq_true c)⟩ hk
end
end Go.Proofs.Ytnnjjhjohjajnaa
