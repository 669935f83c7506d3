/- Rows that are turns: one dart of each vertex; as long a text, as many lines, whichever it is. -/
import Derived.Test.YtohlkhffljjodaaDoorZRCntM
namespace Go.Proofs.YtohlkhffljjodaaDoor
set_option linter.unusedVariables false
set_option maxRecDepth 20000
theorem row_is {l b : List Nat} {rs : List (List Int)} (h : Inv l b) (R : RowsOf l rs) {k : Nat} (hk : k < rs.length) (hne : rs.getD k [] ≠ []) : ((rs.getD k []).getD 0 0).toNat < l.length ∧ rs.getD k [] = ofN (orb l ((rs.getD k []).getD 0 0).toNat) := by
  have T := R.turn k hk
  have O := R.once k k
  have hp : 0 < (rs.getD k []).length := List.length_pos_iff.2 hne
  generalize rs.getD k [] = row at *
  obtain ⟨a0, a1, _⟩ := T 0 hp
  obtain ⟨d, hd⟩ : ∃ d : Nat, row.getD 0 0 = (d : Int) := ⟨(row.getD 0 0).toNat, by omega⟩
  have hdl : d < l.length := by omega
  rw [hd, Int.toNat_natCast]
  refine ⟨hdl, ?_⟩
  have E : ∀ i, i < row.length → row.getD i 0 = ((it l i d : Nat) : Int) := fun i => by
    induction i with
    | zero => intro _; exact hd
    | succ i ih =>
      intro hi
      have e := ih (by omega)
      have t := (T i (by omega)).2.2
      rw [e, Int.toNat_natCast, Nat.mod_eq_of_lt hi] at t
      rw [t]; rfl
  have hper : per l d = row.length := by
    refine per_unique (per_is h hdl) ⟨hp, ?_, fun j j1 j2 e => ?_⟩
    · have e := E (row.length - 1) (by omega)
      have t := (T (row.length - 1) (by omega)).2.2
      rw [e, Int.toNat_natCast, show row.length - 1 + 1 = row.length by omega, Nat.mod_self, hd] at t
      have t' : l.getD (it l (row.length - 1) d) 0 = d := by omega
      have e2 : it l (row.length - 1 + 1) d = d := t'
      rwa [show row.length - 1 + 1 = row.length by omega] at e2
    · have := E j (by omega)
      rw [e, ← hd] at this
      have := (O j 0 hk hk j2 hp this).2
      omega
  apply List.ext_getElem
  · rw [ofN_len]; unfold orb; rw [way_len, hper]
  · intro i h1 h2
    have e1 := E i h1
    rw [List.getD_eq_getElem?_getD, List.getElem?_eq_getElem h1] at e1
    have hio : i < (orb l d).length := by rw [ofN_len] at h2; exact h2
    have e2 := ofN_get (orb l d) i
    rw [orb_getD h hdl i hio, List.getD_eq_getElem?_getD, List.getElem?_eq_getElem h2] at e2
    exact e1.trans e2.symm
theorem rows_reps {l b : List Nat} {rs : List (List Int)} (h : Inv l b) (R : RowsOf l rs) (hne : ∀ k, k < rs.length → rs.getD k [] ≠ []) : ∃ D, Reps l D ∧ rs = rowsD l D ∧ D.length = rs.length := by
  obtain ⟨D, hD⟩ : ∃ D, D = rs.map fun r => (r.getD 0 0).toNat := ⟨_, rfl⟩
  have hl : D.length = rs.length := by rw [hD]; simp
  have get : ∀ k, k < rs.length → D.getD k 0 = ((rs.getD k []).getD 0 0).toNat := fun k hk => by
    rw [hD, List.getD_eq_getElem?_getD, List.getElem?_map, List.getElem?_eq_getElem hk]
    show (_ : Nat) = ((rs[k]?.getD []).getD 0 0).toNat
    rw [List.getElem?_eq_getElem hk]; rfl
  have row : ∀ k, k < rs.length → D.getD k 0 < l.length ∧ rs.getD k [] = ofN (orb l (D.getD k 0)) := fun k hk => by
    rw [get k hk]; exact row_is h R hk (hne k hk)
  refine ⟨D, ⟨fun i hi => (row i (by omega)).1, fun i j hi hj e => ?_, fun x hx => ?_, ?_⟩, ?_, hl⟩
  · rw [hl] at hi hj
    obtain ⟨m, hm, em⟩ := List.getElem_of_mem e
    have e1 := (row i hi).2
    have e2 := (row j hj).2
    have p2 := orb_pos h (row j hj).1
    refine (R.once i j m 0 hi hj (by rw [e1, ofN_len]; exact hm) (by rw [e2, ofN_len]; exact p2) ?_).1
    rw [e1, e2, ofN_get, ofN_get, orb_getD h (row j hj).1 0 p2, List.getD_eq_getElem?_getD, List.getElem?_eq_getElem hm]
    show (((orb l (D.getD i 0))[m] : Nat) : Int) = ((D.getD j 0 : Nat) : Int)
    rw [em]
  · obtain ⟨k, i, hk, hi, e⟩ := R.all x hx
    refine ⟨k, by omega, ?_⟩
    rw [(row k hk).2] at hi e
    rw [ofN_len] at hi
    rw [ofN_get] at e
    have := getD_mem (orb l (D.getD k 0)) i hi
    rwa [show (orb l (D.getD k 0)).getD i 0 = x by omega] at this
  · have s := R.sum
    rw [sumTo_sum _ _ (Nat.le_refl _), List.take_length] at s
    rw [← s]
    congr 1
    apply List.ext_getElem
    · simp [hl]
    · intro k h1 h2
      have hk : k < rs.length := by simpa using h2
      have e := (row k hk).2
      have e := congrArg List.length e
      rw [ofN_len, List.getD_eq_getElem?_getD, List.getElem?_eq_getElem hk, List.getD_eq_getElem?_getD, List.getElem?_eq_getElem (by omega)] at e
      simpa using e.symm
  · apply List.ext_getElem
    · rw [rowsD_len, hl]
    · intro k h1 h2
      have e := (row k h1).2
      rw [← rowsD_get l D k (by omega), List.getD_eq_getElem?_getD, List.getElem?_eq_getElem h1, List.getD_eq_getElem?_getD, List.getElem?_eq_getElem h2] at e
      exact e
theorem reps_perm {l b D : List Nat} (h : Inv l b) (R : Reps l D) : List.Perm (D.map (orb l)).flatten (List.range l.length) := by
  refine (List.perm_ext_iff_of_nodup ?_ List.nodup_range).2 fun x => ?_
  · refine List.pairwise_flatten.2 ⟨fun o ho => ?_, ?_⟩
    · simp only [List.mem_map] at ho
      obtain ⟨d, hd, rfl⟩ := ho
      obtain ⟨k, hk, e⟩ := List.getElem_of_mem hd
      have hdl := R.lt k hk
      rw [List.getD_eq_getElem?_getD, List.getElem?_eq_getElem hk] at hdl
      exact orb_nodup h (by rw [← e]; exact hdl)
    · refine List.pairwise_map.2 (List.pairwise_iff_getElem.2 fun i j hi hj hij x hx y hy e => ?_)
      subst e
      have gi : D.getD i 0 = D[i] := by rw [List.getD_eq_getElem?_getD, List.getElem?_eq_getElem hi]; rfl
      have gj : D.getD j 0 = D[j] := by rw [List.getD_eq_getElem?_getD, List.getElem?_eq_getElem hj]; rfl
      rw [← gi] at hx
      rw [← gj] at hy
      have := R.apart i j hi hj (orb_trans h (R.lt i hi) hx (orb_symm h (R.lt j hj) hy))
      omega
  · simp only [List.mem_flatten, List.mem_map, List.mem_range]
    constructor
    · rintro ⟨_, ⟨d, hd, rfl⟩, hx⟩
      obtain ⟨k, hk, e⟩ := List.getElem_of_mem hd
      have hdl := R.lt k hk
      rw [List.getD_eq_getElem?_getD, List.getElem?_eq_getElem hk] at hdl
      exact orb_lt h (by rw [← e]; exact hdl) hx
    · intro hx
      obtain ⟨i, hi, e⟩ := R.all x hx
      exact ⟨_, ⟨D.getD i 0, getD_mem D i hi, rfl⟩, e⟩
theorem words_len : ∀ zs : List Int, zs ≠ [] → (wordsB zs).length + 1 = (zs.map fun x => (decB x).length + 1).sum
  | [], h => absurd rfl h
  | [x], _ => by simp [wordsB]
  | x :: y :: r, _ => by
    have ih := words_len (y :: r) (by simp)
    show (decB x ++ 32 :: wordsB (y :: r)).length + 1 = _
    rw [List.length_append, List.length_cons, List.map_cons, List.sum_cons, ← ih]; omega
theorem linesB_length : ∀ rs : List (List Int), (∀ r ∈ rs, r ≠ []) → (linesB rs).length = (rs.map fun r => (r.map fun x => (decB x).length + 1).sum).sum
  | [], _ => rfl
  | r :: rs, h => by
    have ih := linesB_length rs fun s hs => h s (by simp [hs])
    have e : linesB (r :: rs) = lineB r ++ linesB rs := by unfold linesB; simp
    rw [e, List.length_append, ih, lineB_words, List.length_append, List.length_singleton, words_len r (h r (by simp)), List.map_cons, List.sum_cons]
theorem sum_flatten (g : Nat → Nat) : ∀ L : List (List Nat), (L.flatten.map g).sum = (L.map fun o => (o.map g).sum).sum
  | [] => rfl
  | o :: L => by rw [List.flatten_cons, List.map_append, List.sum_append, sum_flatten g L, List.map_cons, List.sum_cons]
/-- However the vertices are told, a map's text is as long. -/
theorem textD_length {l b D : List Nat} (h : Inv l b) (R : Reps l D) (hl : l.length < 1000000000) (root lone : Int) : (textD l D root lone).length = (([((l.length / 2 : Nat) : Int), root, lone]).map fun x => (decB x).length + 1).sum + ((List.range l.length).map fun (x : Nat) => (decB (x : Int)).length + 1).sum := by
  unfold textD
  rw [linesB_length _ fun r hr => by
    rcases List.mem_cons.1 hr with rfl | hr
    · simp
    · exact (rowsD_small h R hl r hr).1]
  rw [List.map_cons, List.sum_cons]
  congr 1
  have p := ((reps_perm h R).map fun (x : Nat) => (decB (x : Int)).length + 1).sum_nat
  rw [← p, sum_flatten, List.map_map]
  unfold rowsD
  rw [List.map_map]
  congr 1
  apply List.map_congr_left
  intro d _
  show ((ofN (orb l d)).map _).sum = _
  unfold ofN
  rw [List.map_map]; rfl
/-- As many vertices as orbits. -/
theorem reps_len {l b D : List Nat} (h : Inv l b) (R : Reps l D) : D.length = (leads l l.length).length := by
  have hlt : ∀ i, i < D.length → D[i]! = D.getD i 0 := fun i hi => by simp [List.getD_eq_getElem?_getD, hi]
  have p : List.Perm (D.map (nameOf l)) (List.range (orbits l).length) := by
    refine (List.perm_ext_iff_of_nodup ?_ List.nodup_range).2 fun k => ?_
    · refine List.pairwise_map.2 (List.pairwise_iff_getElem.2 fun i j hi hj hij e => ?_)
      have gi : D.getD i 0 = D[i] := by rw [List.getD_eq_getElem?_getD, List.getElem?_eq_getElem hi]; rfl
      have gj : D.getD j 0 = D[j] := by rw [List.getD_eq_getElem?_getD, List.getElem?_eq_getElem hj]; rfl
      rw [← gi, ← gj] at e
      have li := R.lt i hi
      have lj := R.lt j hj
      have hk := name_lt h li
      have m1 := (name_row h hk li).1 rfl
      have m2 := (name_row h hk lj).1 e.symm
      rw [orbits_get l _ hk] at m1 m2
      have hL := (lead_get hk).1
      have := R.apart i j hi hj (orb_trans h li (orb_symm h hL m1) m2)
      omega
    · simp only [List.mem_map, List.mem_range]
      constructor
      · rintro ⟨d, hd, rfl⟩
        obtain ⟨i, hi, e⟩ := List.getElem_of_mem hd
        have hdl := R.lt i hi
        rw [List.getD_eq_getElem?_getD, List.getElem?_eq_getElem hi] at hdl
        exact name_lt h (by rw [← e]; exact hdl)
      · intro hk
        have hL := lead_get hk
        obtain ⟨i, hi, e⟩ := R.all _ hL.1
        refine ⟨D.getD i 0, getD_mem D i hi, ?_⟩
        rw [name_row h hk (R.lt i hi), orbits_get l k hk]
        exact orb_symm h (R.lt i hi) e
  have := p.length_eq
  simpa [orbits] using this
end Go.Proofs.YtohlkhffljjodaaDoor
