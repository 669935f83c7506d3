/- Plain mathematics of permutations as lists of numbers; no program in sight. -/
namespace Go.Proofs.Ythbhbcakiaaapaa
set_option maxRecDepth 20000

/-- A map of 0 .. n-1 into itself that takes no two to one meets all. -/
theorem inj_surj (n : Nat) : ∀ f : Nat → Nat, (∀ i, i < n → f i < n) → (∀ i j, i < n → j < n → f i = f j → i = j) → ∀ v, v < n → ∃ i, i < n ∧ f i = v := by
  induction n with
  | zero => intro f _ _ v hv; omega
  | succ n ih =>
    intro f hr hi v hv
    have hg := ih (fun i => if f i = n then f n else f i) (fun i h => by
      show (if f i = n then f n else f i) < n
      split
      · rename_i e
        have h1 := hr n (by omega)
        have h2 : f n ≠ n := fun e2 => by have := hi i n (by omega) (by omega) (by rw [e, e2]); omega
        omega
      · have := hr i (by omega); omega) (fun i j h1 h2 e => by
      split at e <;> split at e
      · rename_i a b; exact hi i j (by omega) (by omega) (by rw [a, b])
      · rename_i a b; have := hi n j (by omega) (by omega) e; omega
      · rename_i a b; have := hi i n (by omega) (by omega) e; omega
      · exact hi i j (by omega) (by omega) e)
    by_cases hm : v = f n
    · exact ⟨n, by omega, hm.symm⟩
    · by_cases hvn : v = n
      · subst hvn
        have hlt : f v < v := by have := hr v (by omega); omega
        obtain ⟨i, h1, h2⟩ := hg (f v) hlt
        split at h2
        · rename_i e; exact ⟨i, by omega, e⟩
        · have := hi i v (by omega) (by omega) h2; omega
      · obtain ⟨i, h1, h2⟩ := hg v (by omega)
        split at h2
        · exact absurd h2.symm hm
        · exact ⟨i, by omega, h2⟩

/-- b is the way back of l. -/
structure Inv (l b : List Nat) : Prop where
  len : b.length = l.length
  lt : ∀ i, i < l.length → l.getD i 0 < l.length
  lt' : ∀ i, i < l.length → b.getD i 0 < l.length
  lb : ∀ i, i < l.length → b.getD (l.getD i 0) 0 = i
  bl : ∀ i, i < l.length → l.getD (b.getD i 0) 0 = i

theorem getD_ext {l m : List Nat} (h : l.length = m.length) (hg : ∀ i, i < l.length → l.getD i 0 = m.getD i 0) : l = m := by
  apply List.ext_getElem h
  intro i h1 h2
  have := hg i h1
  rwa [List.getD_eq_getElem?_getD, List.getD_eq_getElem?_getD, List.getElem?_eq_getElem h1, List.getElem?_eq_getElem h2] at this
theorem Inv.symm {l b : List Nat} (h : Inv l b) : Inv b l :=
  ⟨h.len.symm, fun i hi => by rw [h.len]; exact h.lt' i (by rw [← h.len]; exact hi), fun i hi => by rw [h.len]; exact h.lt i (by rw [← h.len]; exact hi),
    fun i hi => h.bl i (by rw [← h.len]; exact hi), fun i hi => h.lb i (by rw [← h.len]; exact hi)⟩
theorem Inv.unique {l b c : List Nat} (h : Inv l b) (k : Inv l c) : b = c := by
  refine getD_ext (by rw [h.len, k.len]) fun i hi => ?_
  rw [h.len] at hi
  have h1 := h.lb _ (k.lt' i hi)
  rwa [k.bl i hi] at h1
theorem Inv.inj {l b : List Nat} (h : Inv l b) (i j : Nat) (hi : i < l.length) (hj : j < l.length) (e : l.getD i 0 = l.getD j 0) : i = j := by
  rw [← h.lb i hi, ← h.lb j hj, e]

/-- The list says a permutation: each number is in range, and none stands twice. -/
def Good (z : List Int) : Prop := ∀ i, i < z.length → 0 ≤ z.getD i 0 ∧ z.getD i 0 < (z.length : Int) ∧ ∀ j, j < i → z.getD j 0 ≠ z.getD i 0
def ofN (l : List Nat) : List Int := l.map fun (x : Nat) => (x : Int)
theorem ofN_len (l : List Nat) : (ofN l).length = l.length := by simp [ofN]
theorem ofN_get (l : List Nat) (i : Nat) : (ofN l).getD i 0 = ((l.getD i 0 : Nat) : Int) := by
  rw [List.getD_eq_getElem?_getD, List.getD_eq_getElem?_getD]
  simp only [ofN, List.getElem?_map]
  cases l[i]? <;> simp
theorem ofN_inj {l m : List Nat} (h : ofN l = ofN m) : l = m := by
  refine getD_ext (by rw [← ofN_len l, h, ofN_len]) fun i _ => ?_
  have := congrArg (fun q => q.getD i 0) h
  simp only [ofN_get] at this
  omega

theorem Good.inj {z : List Int} (h : Good z) (i j : Nat) (hi : i < z.length) (hj : j < z.length) (e : z.getD i 0 = z.getD j 0) : i = j := by
  rcases Nat.lt_trichotomy i j with h1 | h1 | h1
  · exact absurd e ((h j hj).2.2 i h1)
  · exact h1
  · exact absurd e.symm ((h i hi).2.2 j h1)
theorem Good.surj {z : List Int} (h : Good z) (v : Nat) (hv : v < z.length) : ∃ i, i < z.length ∧ z.getD i 0 = (v : Int) := by
  obtain ⟨i, h1, h2⟩ := inj_surj z.length (fun i => (z.getD i 0).toNat) (fun i hi => by have := h i hi; show (z.getD i 0).toNat < _; omega)
    (fun i j hi hj e => h.inj i j hi hj (by have h1 := h i hi; have h2 := h j hj; omega)) v hv
  exact ⟨i, h1, by have := h i h1; omega⟩
/-- Where the way back has been found out, all of it. -/
theorem Good.inv {z : List Int} (h : Good z) (y : List Int) (hy : y.length = z.length)
    (hb : ∀ v, v < z.length → (y.getD v 0 = -1 ∧ ∀ j, j < z.length → z.getD j 0 ≠ (v : Int)) ∨ ∃ j, j < z.length ∧ y.getD v 0 = (j : Int) ∧ z.getD j 0 = (v : Int)) :
    ∃ l b : List Nat, z = ofN l ∧ y = ofN b ∧ Inv l b := by
  have each : ∀ v, v < z.length → ∃ j, j < z.length ∧ y.getD v 0 = (j : Int) ∧ z.getD j 0 = (v : Int) := fun v hv => by
    rcases hb v hv with ⟨_, hn⟩ | h1
    · obtain ⟨i, h1, h2⟩ := h.surj v hv
      exact absurd h2 (hn i h1)
    · exact h1
  have back : ∀ q : List Int, (∀ i, i < q.length → 0 ≤ q.getD i 0) → q = ofN (q.map Int.toNat) := fun q hq => by
    apply List.ext_getElem (by simp [ofN])
    intro i h1 h2
    have := hq i h1
    rw [List.getD_eq_getElem?_getD, List.getElem?_eq_getElem h1] at this
    simp at this
    simp [ofN]; omega
  have gz : ∀ i, (z.map Int.toNat).getD i 0 = (z.getD i 0).toNat := fun i => by
    rw [List.getD_eq_getElem?_getD, List.getD_eq_getElem?_getD, List.getElem?_map]; cases z[i]? <;> simp
  have gy : ∀ i, (y.map Int.toNat).getD i 0 = (y.getD i 0).toNat := fun i => by
    rw [List.getD_eq_getElem?_getD, List.getD_eq_getElem?_getD, List.getElem?_map]; cases y[i]? <;> simp
  have toN : ∀ k : Nat, ((k : Int)).toNat = k := fun k => by omega
  refine ⟨z.map Int.toNat, y.map Int.toNat, back z fun i hi => (h i hi).1, back y fun i hi => by obtain ⟨j, _, e, _⟩ := each i (by omega); omega, ⟨by simp [hy], ?_, ?_, ?_, ?_⟩⟩
  · intro i hi
    rw [List.length_map] at hi ⊢
    rw [gz]
    have := h i hi
    omega
  · intro i hi
    rw [List.length_map] at hi ⊢
    rw [gy]
    obtain ⟨j, h1, e, _⟩ := each i hi
    rw [e, toN]; exact h1
  · intro i hi
    rw [List.length_map] at hi
    rw [gy, gz]
    have hzi := h i hi
    obtain ⟨j, h1, e, e2⟩ := each (z.getD i 0).toNat (by omega)
    rw [e, toN]
    exact h.inj j i h1 hi (by rw [e2]; omega)
  · intro i hi
    rw [List.length_map] at hi
    rw [gz, gy]
    obtain ⟨j, h1, e, e2⟩ := each i hi
    rw [e, toN, e2, toN]
theorem Inv.good {l b : List Nat} (h : Inv l b) : Good (ofN l) := by
  intro i hi
  rw [ofN_len] at hi ⊢
  rw [ofN_get]
  refine ⟨by omega, by have := h.lt i hi; omega, fun j hj e => ?_⟩
  rw [ofN_get] at e
  have := h.inj j i (by omega) hi (by omega)
  omega

/-! ### The document's question: does each number stand in it once? -/
def cnt (z : List Int) (i : Int) (k : Nat) : Nat := (z.take k).count i
theorem cnt_next (z : List Int) (i : Int) (k : Nat) (hk : k < z.length) : cnt z i (k + 1) = cnt z i k + (if z.getD k 0 = i then 1 else 0) := by
  unfold cnt
  rw [← List.take_append_getElem hk, List.count_append]
  have e : z.getD k 0 = z[k] := by simp [List.getD_eq_getElem?_getD, List.getElem?_eq_getElem hk]
  rw [e]
  by_cases h : z[k] = i
  · rw [if_pos h, h]; simp
  · rw [if_neg h, List.count_cons_of_ne (by simpa using h)]; simp
theorem cnt_le (z : List Int) (i : Int) (k : Nat) : cnt z i k ≤ k := by
  unfold cnt
  exact Nat.le_trans List.count_le_length (by rw [List.length_take]; omega)
theorem cnt_pos {z : List Int} {i : Int} : ∀ k, k ≤ z.length → 0 < cnt z i k → ∃ j, j < k ∧ z.getD j 0 = i := by
  intro k
  induction k with
  | zero => intro _ h; simp [cnt] at h
  | succ k ih =>
    intro hk h
    rw [cnt_next z i k (by omega)] at h
    by_cases e : z.getD k 0 = i
    · exact ⟨k, by omega, e⟩
    · rw [if_neg e] at h
      obtain ⟨j, h1, h2⟩ := ih (by omega) (by omega)
      exact ⟨j, by omega, h2⟩
theorem cnt_one {z : List Int} (h : Good z) {i : Int} : ∀ k, k ≤ z.length → cnt z i k ≤ 1 ∧ (cnt z i k = 0 → ∀ j, j < k → z.getD j 0 ≠ i) := by
  intro k
  induction k with
  | zero => intro _; simp [cnt]
  | succ k ih =>
    intro hk
    have := ih (by omega)
    rw [cnt_next z i k (by omega)]
    by_cases e : z.getD k 0 = i
    · have h0 : cnt z i k = 0 := by
        rcases Nat.eq_zero_or_pos (cnt z i k) with h0 | h0
        · exact h0
        · obtain ⟨j, h1, h2⟩ := cnt_pos k (by omega) h0
          exact absurd (h2.trans e.symm) ((h k (by omega)).2.2 j h1)
      rw [if_pos e, h0]
      exact ⟨by omega, fun hh => by omega⟩
    · rw [if_neg e]
      refine ⟨by omega, fun hh j hj => ?_⟩
      by_cases hjk : j = k
      · subst hjk; exact e
      · exact this.2 (by omega) j (by omega)
def Once (z : List Int) : Prop := ∀ i, i < z.length → cnt z (i : Int) z.length = 1
theorem once_iff (z : List Int) : Once z ↔ Good z := by
  constructor
  · intro h
    -- a place for each number; no two have one; so each place has a number
    have hp : ∀ i, ∃ j, i < z.length → j < z.length ∧ z.getD j 0 = (i : Int) := fun i => by
      by_cases hi : i < z.length
      · obtain ⟨j, h1, h2⟩ := cnt_pos z.length (Nat.le_refl _) (by rw [h i hi]; omega : 0 < cnt z (i : Int) z.length)
        exact ⟨j, fun _ => ⟨h1, h2⟩⟩
      · exact ⟨0, fun h' => absurd h' hi⟩
    let f : Nat → Nat := fun i => Classical.choose (hp i)
    have hf : ∀ i, i < z.length → f i < z.length ∧ z.getD (f i) 0 = (i : Int) := fun i hi => Classical.choose_spec (hp i) hi
    have hs := inj_surj z.length f (fun i hi => (hf i hi).1) (fun i j hi hj e => by
      have h1 := (hf i hi).2
      have h2 := (hf j hj).2
      rw [e] at h1
      omega)
    intro i hi
    obtain ⟨a, ha, hfa⟩ := hs i hi
    have hza := (hf a ha).2
    rw [hfa] at hza
    refine ⟨by omega, by omega, fun j hj e => ?_⟩
    obtain ⟨b, hb, hfb⟩ := hs j (by omega)
    have hzb := (hf b hb).2
    rw [hfb] at hzb
    have : a = b := by omega
    subst this
    omega
  · intro h i hi
    obtain ⟨j, h1, h2⟩ := h.surj i hi
    have := cnt_one h (i := (i : Int)) z.length (Nat.le_refl _)
    rcases Nat.eq_zero_or_pos (cnt z (i : Int) z.length) with h0 | h0
    · exact absurd h2 (this.2 h0 j h1)
    · omega
end Go.Proofs.Ythbhbcakiaaapaa
