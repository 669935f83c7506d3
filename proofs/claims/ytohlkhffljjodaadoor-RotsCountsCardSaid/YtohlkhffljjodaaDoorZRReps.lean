/- A text whose lines are the vertices of a map, each from any of its darts on, in any order. -/
import Derived.Test.YtohlkhffljjodaaDoorZRBack
namespace Go.Proofs.YtohlkhffljjodaaDoor
set_option linter.unusedVariables false
set_option maxRecDepth 20000
/-- One dart of each vertex. -/
structure Reps (l D : List Nat) : Prop where
  lt : ∀ i, i < D.length → D.getD i 0 < l.length
  apart : ∀ i j, i < D.length → j < D.length → D.getD j 0 ∈ orb l (D.getD i 0) → i = j
  all : ∀ x, x < l.length → ∃ i, i < D.length ∧ x ∈ orb l (D.getD i 0)
  sum : (D.map fun d => (orb l d).length).sum = l.length
noncomputable def rowsD (l D : List Nat) : List (List Int) := D.map fun d => ofN (orb l d)
theorem rowsD_len (l D : List Nat) : (rowsD l D).length = D.length := by simp [rowsD]
theorem rowsD_get (l D : List Nat) (k : Nat) (hk : k < D.length) : (rowsD l D).getD k [] = ofN (orb l (D.getD k 0)) := by
  unfold rowsD
  rw [List.getD_eq_getElem?_getD, List.getElem?_map, List.getD_eq_getElem?_getD, List.getElem?_eq_getElem hk]; rfl
theorem orb_pos {l b : List Nat} (h : Inv l b) {i : Nat} (hi : i < l.length) : 0 < (orb l i).length := by
  unfold orb; rw [way_len]; have := (per_is h hi).1; omega
theorem orb_getD {l b : List Nat} (h : Inv l b) {i : Nat} (hi : i < l.length) (j : Nat) (hj : j < (orb l i).length) : (orb l i).getD j 0 = it l j i := by
  unfold orb at hj ⊢
  rw [way_len] at hj
  exact way_get l i _ j hj
theorem Reps.leads {l b : List Nat} (h : Inv l b) : Reps l (leads l l.length) := by
  have hm : ∀ i, i < (Proofs.YtohlkhffljjodaaDoor.leads l l.length).length → (Proofs.YtohlkhffljjodaaDoor.leads l l.length).getD i 0 < l.length ∧ Leads l ((Proofs.YtohlkhffljjodaaDoor.leads l l.length).getD i 0) := fun i hi => mem_leads.1 (getD_mem _ i hi)
  refine ⟨fun i hi => (hm i hi).1, fun i j hi hj e => ?_, fun x hx => ?_, ?_⟩
  · have e2 := lead_of_mem h (hm i hi).1 e
    rw [(leads_iff h (hm j hj).1).1 (hm j hj).2, (leads_iff h (hm i hi).1).1 (hm i hi).2] at e2
    have a := leads_place l l.length i hi
    have c := leads_place l l.length j hj
    rw [e2] at c
    omega
  · obtain ⟨i, h1, h2, h3⟩ := exists_lead h hx
    have : i ∈ Proofs.YtohlkhffljjodaaDoor.leads l l.length := mem_leads.2 ⟨by omega, h2⟩
    obtain ⟨k, hk, e⟩ := List.getElem_of_mem this
    refine ⟨k, hk, ?_⟩
    rw [List.getD_eq_getElem?_getD, List.getElem?_eq_getElem hk]
    show x ∈ orb l _
    rw [e]; exact h3
  · have := count_all h
    unfold orbits at this
    rw [List.map_map] at this
    exact this
theorem sumTo_sum (rs : List (List Int)) : ∀ k, k ≤ rs.length → sumTo rs k = ((rs.take k).map List.length).sum
  | 0, _ => by simp [sumTo]
  | k + 1, hk => by
    have ih := sumTo_sum rs k (by omega)
    unfold sumTo
    rw [ih, List.take_succ_eq_append_getElem (by omega), List.map_append, List.sum_append, List.getD_eq_getElem?_getD, List.getElem?_eq_getElem (by omega)]
    simp
theorem Reps.rows {l b D : List Nat} (h : Inv l b) (R : Reps l D) : RowsOf l (rowsD l D) := by
  refine ⟨fun k hk i hi => ?_, fun k k' i i' hk hk' hi hi' e => ?_, fun x hx => ?_, ?_⟩
  · rw [rowsD_len] at hk
    have hd := R.lt k hk
    rw [rowsD_get l D k hk] at hi ⊢
    rw [ofN_len] at hi ⊢
    rw [ofN_get, ofN_get, Int.toNat_natCast]
    have hx : (orb l (D.getD k 0)).getD i 0 < l.length := orb_lt h hd (getD_mem _ i hi)
    refine ⟨by omega, by omega, ?_⟩
    have hp : 0 < (orb l (D.getD k 0)).length := by omega
    rw [orb_getD h hd i hi, orb_getD h hd _ (Nat.mod_lt _ hp)]
    congr 1
    have hper := per_is h hd
    have hpl : (orb l (D.getD k 0)).length = per l (D.getD k 0) := by unfold orb; rw [way_len]
    rw [hpl, ← it_mod hper.2.1]; rfl
  · rw [rowsD_len] at hk hk'
    rw [rowsD_get l D k hk, ofN_len] at hi
    rw [rowsD_get l D k' hk', ofN_len] at hi'
    rw [rowsD_get l D k hk, rowsD_get l D k' hk', ofN_get, ofN_get] at e
    have e' : (orb l (D.getD k 0)).getD i 0 = (orb l (D.getD k' 0)).getD i' 0 := by omega
    have m1 := getD_mem (orb l (D.getD k 0)) i hi
    have m2 := getD_mem (orb l (D.getD k' 0)) i' hi'
    have hkk : k = k' := by
      refine R.apart k k' hk hk' ?_
      rw [e'] at m1
      exact orb_trans h (R.lt k hk) m1 (orb_symm h (R.lt k' hk') m2)
    subst hkk
    refine ⟨rfl, ?_⟩
    have nd := orb_nodup h (R.lt k hk)
    generalize D.getD k 0 = d at e' nd hi hi'
    rw [List.getD_eq_getElem?_getD, List.getD_eq_getElem?_getD, List.getElem?_eq_getElem hi, List.getElem?_eq_getElem hi'] at e'
    have e2 : (orb l d)[i] = (orb l d)[i'] := e'
    rcases Nat.lt_trichotomy i i' with c | c | c
    · exact absurd e2 ((List.pairwise_iff_getElem.1 nd) i i' hi hi' c)
    · exact c
    · exact absurd e2.symm ((List.pairwise_iff_getElem.1 nd) i' i hi' hi c)
  · obtain ⟨k, hk, hm⟩ := R.all x hx
    obtain ⟨i, hi, e⟩ := List.getElem_of_mem hm
    refine ⟨k, i, by rw [rowsD_len]; exact hk, by rw [rowsD_get l D k hk, ofN_len]; exact hi, ?_⟩
    rw [rowsD_get l D k hk, ofN_get, List.getD_eq_getElem?_getD, List.getElem?_eq_getElem hi]
    show ((_ : Nat) : Int) = _
    rw [← e]; rfl
  · rw [sumTo_sum _ _ (Nat.le_refl _), List.take_length]
    unfold rowsD
    rw [List.map_map, ← R.sum]
    congr 1
    apply List.map_congr_left
    intro d _
    show (ofN _).length = _
    rw [ofN_len]
/-- The lines of a map, its vertices in some order, each from some dart on. -/
noncomputable def textD (l D : List Nat) (root lone : Int) : List Int := linesB ([((l.length / 2 : Nat) : Int), root, lone] :: rowsD l D)
theorem textD_leads (l : List Nat) (root lone : Int) : textL l root lone = textD l (leads l l.length) root lone := by
  unfold textL textD linesB vtxB rowsD
  rw [List.map_cons, List.flatten_cons, List.map_map]; rfl
theorem rowsD_small {l b D : List Nat} (h : Inv l b) (R : Reps l D) (hl : l.length < 1000000000) : ∀ r ∈ rowsD l D, r ≠ [] ∧ ∀ x ∈ r, 0 ≤ x ∧ x < 1000000000 := by
  intro r hr
  unfold rowsD at hr
  simp only [List.mem_map] at hr
  obtain ⟨d, hd, rfl⟩ := hr
  obtain ⟨k, hk, e⟩ := List.getElem_of_mem hd
  have hdl := R.lt k hk
  rw [List.getD_eq_getElem?_getD, List.getElem?_eq_getElem hk] at hdl
  have hdl : d < l.length := by rw [← e]; exact hdl
  refine ⟨fun e => ?_, fun x hx => ?_⟩
  · have := orb_pos h hdl
    have := congrArg List.length e
    rw [ofN_len, List.length_nil] at this; omega
  · unfold ofN at hx
    simp only [List.mem_map] at hx
    obtain ⟨y, hy, rfl⟩ := hx
    have := orb_lt h hdl hy
    omega
theorem head_small {E : Nat} {root lone : Int} (hE : E < 1000000000) (hr : -1 ≤ root ∧ root < 1000000000) (hl : 0 ≤ lone ∧ lone < 1000000000) : ∀ x ∈ [(E : Int), root, lone], -1 ≤ x ∧ x < 1000000000 := by
  intro x hx
  simp at hx
  rcases hx with rfl | rfl | rfl <;> omega
theorem textD_read {l b D : List Nat} (h : Inv l b) (R : Reps l D) (hl : l.length < 1000000000) {root lone : Int} (hr : -1 ≤ root ∧ root < 1000000000) (hlo : 0 ≤ lone ∧ lone < 1000000000) :
    lineF 0 (splitL 10 (textD l D root lone)) = .ok ([((l.length / 2 : Nat) : Int), root, lone] :: rowsD l D) :=
  lines_read rfl (by simp; omega) (by simp; omega) (head_small (by omega) hr hlo) (rowsD_small h R hl)
theorem textD_byt {l b D : List Nat} (h : Inv l b) (R : Reps l D) (hl : l.length < 1000000000) {root lone : Int} (hr : -1 ≤ root ∧ root < 1000000000) (hlo : 0 ≤ lone ∧ lone < 1000000000) : Byt (textD l D root lone) := by
  refine lines_byt _ fun r hm x hx => ?_
  rcases List.mem_cons.1 hm with rfl | hm
  · exact (head_small (by omega) hr hlo x hx).1
  · have := ((rowsD_small h R hl r hm).2 x hx).1; omega
theorem lineB_count {r : List Int} (h : ∀ x ∈ r, -1 ≤ x) : (lineB r).count 10 = 1 := by
  rw [lineB_words, List.count_append, List.count_eq_zero.2 (fun hm => by have := words_byt r h _ hm; omega)]
  rfl
theorem linesB_count : ∀ rs : List (List Int), (∀ r ∈ rs, ∀ x ∈ r, -1 ≤ x) → (linesB rs).count 10 = rs.length
  | [], _ => rfl
  | r :: rs, h => by
    have ih := linesB_count rs fun s hs => h s (by simp [hs])
    have e : linesB (r :: rs) = lineB r ++ linesB rs := by unfold linesB; simp
    rw [e, List.count_append, lineB_count (h r (by simp)), ih, List.length_cons]; omega
theorem textD_count {l b D : List Nat} (h : Inv l b) (R : Reps l D) (hl : l.length < 1000000000) {root lone : Int} (hr : -1 ≤ root ∧ root < 1000000000) (hlo : 0 ≤ lone ∧ lone < 1000000000) : (textD l D root lone).count 10 = D.length + 1 := by
  unfold textD
  rw [linesB_count, List.length_cons, rowsD_len]
  intro r hm x hx
  rcases List.mem_cons.1 hm with rfl | hm
  · exact (head_small (by omega) hr hlo x hx).1
  · have := ((rowsD_small h R hl r hm).2 x hx).1; omega
theorem linesB_len : ∀ rs : List (List Int), (∀ r ∈ rs, ∀ k, -9223372036854775808 ≤ r.getD k 0 ∧ r.getD k 0 ≤ 9223372036854775807) → (linesB rs).length ≤ 22 * (rs.map List.length).sum + rs.length
  | [], _ => by simp [linesB]
  | r :: rs, h => by
    have ih := linesB_len rs fun s hs => h s (by simp [hs])
    have e : linesB (r :: rs) = lineB r ++ linesB rs := by unfold linesB; simp
    have := lineB_len (h r (by simp))
    rw [e, List.length_append, List.map_cons, List.sum_cons, List.length_cons]; omega
theorem textD_len {l b D : List Nat} (h : Inv l b) (R : Reps l D) (hl : l.length < 1000000000) {root lone : Int} (hr : -1 ≤ root ∧ root < 1000000000) (hlo : 0 ≤ lone ∧ lone < 1000000000) : (textD l D root lone).length ≤ 22 * (l.length + 3) + D.length + 1 := by
  have hb : ∀ r : List Int, (∀ x ∈ r, -1 ≤ x ∧ x < 1000000000) → ∀ k, -9223372036854775808 ≤ r.getD k 0 ∧ r.getD k 0 ≤ 9223372036854775807 := fun r hr k => by
    by_cases hk : k < r.length
    · have hm : r.getD k 0 ∈ r := by rw [List.getD_eq_getElem?_getD, List.getElem?_eq_getElem hk]; exact List.getElem_mem _
      have := hr _ hm; omega
    · have e : r.getD k 0 = 0 := by rw [List.getD_eq_getElem?_getD, List.getElem?_eq_none (by omega)]; rfl
      rw [e]; omega
  have := linesB_len ([((l.length / 2 : Nat) : Int), root, lone] :: rowsD l D) fun r hm => hb r fun x hx => by
    rcases List.mem_cons.1 hm with rfl | hm
    · exact head_small (by omega) hr hlo x hx
    · have := (rowsD_small h R hl r hm).2 x hx; omega
  unfold textD
  have e : ((rowsD l D).map List.length).sum = l.length := by
    unfold rowsD
    rw [List.map_map, ← R.sum]
    congr 1
    apply List.map_congr_left
    intro d _
    show (ofN _).length = _
    rw [ofN_len]
  rw [List.map_cons, List.sum_cons, e] at this
  simp only [List.length_cons, List.length_nil, rowsD_len] at this
  omega
theorem Reps.len_le {l b D : List Nat} (h : Inv l b) (R : Reps l D) : D.length ≤ l.length := by
  rw [← R.sum]
  have : ∀ (E : List Nat), (∀ d ∈ E, 0 < (orb l d).length) → E.length ≤ (E.map fun d => (orb l d).length).sum := fun E => by
    induction E with
    | nil => intro _; simp
    | cons d E ih => intro hE; have := ih fun x hx => hE x (by simp [hx]); have := hE d (by simp); simp; omega
  refine this D fun d hd => ?_
  obtain ⟨k, hk, e⟩ := List.getElem_of_mem hd
  have hdl := R.lt k hk
  rw [List.getD_eq_getElem?_getD, List.getElem?_eq_getElem hk] at hdl
  exact orb_pos h (by rw [← e]; exact hdl)
end Go.Proofs.YtohlkhffljjodaaDoor
