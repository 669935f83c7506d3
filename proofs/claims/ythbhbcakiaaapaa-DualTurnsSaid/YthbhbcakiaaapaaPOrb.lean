/- Plain mathematics of orbits; no program in sight. -/
import Derived.Test.YthbhbcakiaaapaaPMath
namespace Go.Proofs.Ythbhbcakiaaapaa
set_option maxRecDepth 20000

/-- Where i goes by k steps. -/
def it (l : List Nat) : Nat → Nat → Nat
  | 0, i => i
  | k + 1, i => l.getD (it l k i) 0
theorem it_lt {l b : List Nat} (h : Inv l b) {i : Nat} (hi : i < l.length) : ∀ k, it l k i < l.length
  | 0 => hi
  | k + 1 => h.lt _ (it_lt h hi k)
theorem it_add (l : List Nat) (a : Nat) (i : Nat) : ∀ k, it l (k + a) i = it l k (it l a i)
  | 0 => by rw [Nat.zero_add]; rfl
  | k + 1 => by rw [Nat.succ_add]; show l.getD _ 0 = l.getD _ 0; rw [it_add l a i k]
theorem it_inj {l b : List Nat} (h : Inv l b) {i j : Nat} (hi : i < l.length) (hj : j < l.length) : ∀ k, it l k i = it l k j → i = j
  | 0, e => e
  | k + 1, e => it_inj h hi hj k (h.inj _ _ (it_lt h hi k) (it_lt h hj k) e)

/-- k is the number of steps till i comes again. -/
def IsPer (l : List Nat) (i k : Nat) : Prop := 1 ≤ k ∧ it l k i = i ∧ ∀ j, 1 ≤ j → j < k → it l j i ≠ i
theorem exists_back {l b : List Nat} (h : Inv l b) {i : Nat} (hi : i < l.length) : ∃ k, 1 ≤ k ∧ k ≤ l.length ∧ it l k i = i := by
  apply Classical.byContradiction
  intro hno
  have hne : ∀ k, 1 ≤ k → k ≤ l.length → it l k i ≠ i := fun k h1 h2 e => hno ⟨k, h1, h2, e⟩
  have key : ∀ a c, a < c → c < l.length + 1 → it l a i ≠ it l c i := fun a c hac hc e => by
    have : c = (c - a) + a := by omega
    rw [this, Nat.add_comm, it_add] at e
    exact hne (c - a) (by omega) (by omega) (it_inj h (it_lt h hi _) hi a e.symm)
  obtain ⟨j, h1, h2⟩ := inj_surj (l.length + 1) (fun k => it l k i) (fun k _ => by have := it_lt h hi k; show it l k i < _; omega)
    (fun a c ha hc e => by
      rcases Nat.lt_trichotomy a c with h1 | h1 | h1
      · exact absurd e (key a c h1 hc)
      · exact h1
      · exact absurd e.symm (key c a h1 ha)) l.length (by omega)
  have := it_lt h hi j
  omega
theorem least_of {p : Nat → Prop} : ∀ n, p n → ∃ k, k ≤ n ∧ p k ∧ ∀ j, j < k → ¬ p j := by
  intro n
  induction n using Nat.strongRecOn with
  | ind n ih =>
    intro hn
    by_cases hex : ∃ j, j < n ∧ p j
    · obtain ⟨j, h1, h2⟩ := hex
      obtain ⟨k, h3, h4, h5⟩ := ih j h1 h2
      exact ⟨k, by omega, h4, h5⟩
    · exact ⟨n, Nat.le_refl _, hn, fun j hj hp => hex ⟨j, hj, hp⟩⟩
theorem exists_per {l b : List Nat} (h : Inv l b) {i : Nat} (hi : i < l.length) : ∃ k, IsPer l i k := by
  obtain ⟨k, h1, _, h2⟩ := exists_back h hi
  obtain ⟨m, h3, h4, h5⟩ := least_of (p := fun j => 1 ≤ j ∧ it l j i = i) k ⟨h1, h2⟩
  exact ⟨m, h4.1, h4.2, fun j hj hjm e => h5 j hjm ⟨hj, e⟩⟩
theorem per_unique {l : List Nat} {i k m : Nat} (h : IsPer l i k) (h' : IsPer l i m) : k = m := by
  rcases Nat.lt_trichotomy k m with h1 | h1 | h1
  · exact absurd h.2.1 (h'.2.2 k h.1 h1)
  · exact h1
  · exact absurd h'.2.1 (h.2.2 m h'.1 h1)
noncomputable def per (l : List Nat) (i : Nat) : Nat := by
  classical exact if h : ∃ k, IsPer l i k then Classical.choose h else 0
theorem per_is {l b : List Nat} (h : Inv l b) {i : Nat} (hi : i < l.length) : IsPer l i (per l i) := by
  unfold per
  rw [dif_pos (exists_per h hi)]
  exact Classical.choose_spec (exists_per h hi)
theorem per_le {l b : List Nat} (h : Inv l b) {i : Nat} (hi : i < l.length) : per l i ≤ l.length := by
  obtain ⟨k, h1, h2, h3⟩ := exists_back h hi
  have hp := per_is h hi
  rcases Nat.lt_or_ge l.length (per l i) with h4 | h4
  · exact absurd h3 (hp.2.2 k h1 (by omega))
  · exact h4
/-- The first k of the way from i. -/
def way (l : List Nat) (i k : Nat) : List Nat := (List.range k).map fun j => it l j i
noncomputable def orb (l : List Nat) (i : Nat) : List Nat := way l i (per l i)
theorem way_len (l : List Nat) (i k : Nat) : (way l i k).length = k := by simp [way]
theorem way_next (l : List Nat) (i k : Nat) : way l i (k + 1) = way l i k ++ [it l k i] := by simp [way, List.range_succ]
theorem way_get (l : List Nat) (i k j : Nat) (hj : j < k) : (way l i k).getD j 0 = it l j i := by
  simp [way, List.getD_eq_getElem?_getD, hj]
theorem mem_way {l : List Nat} {i k x : Nat} : x ∈ way l i k ↔ ∃ j, j < k ∧ it l j i = x := by simp [way]
theorem it_mul {l : List Nat} {i k : Nat} (h : it l k i = i) : ∀ m, it l (m * k) i = i
  | 0 => by rw [Nat.zero_mul]; rfl
  | m + 1 => by rw [Nat.succ_mul, it_add, h, it_mul h m]
theorem it_mod {l : List Nat} {i k : Nat} (h : it l k i = i) (j : Nat) : it l j i = it l (j % k) i := by
  have : j = j % k + (j / k) * k := by rw [Nat.mul_comm]; have := Nat.mod_add_div j k; omega
  rw [this, it_add, it_mul h, ← this]
theorem mem_orb {l b : List Nat} (h : Inv l b) {i : Nat} (hi : i < l.length) {x : Nat} : x ∈ orb l i ↔ ∃ j, it l j i = x := by
  have hp := per_is h hi
  unfold orb
  rw [mem_way]
  constructor
  · rintro ⟨j, _, e⟩; exact ⟨j, e⟩
  · rintro ⟨j, e⟩; exact ⟨j % per l i, Nat.mod_lt _ hp.1, by rw [← it_mod hp.2.1]; exact e⟩
theorem orb_self {l b : List Nat} (h : Inv l b) {i : Nat} (hi : i < l.length) : i ∈ orb l i := (mem_orb h hi).2 ⟨0, rfl⟩
theorem orb_lt {l b : List Nat} (h : Inv l b) {i x : Nat} (hi : i < l.length) (hx : x ∈ orb l i) : x < l.length := by
  obtain ⟨j, rfl⟩ := (mem_orb h hi).1 hx
  exact it_lt h hi j
theorem orb_symm {l b : List Nat} (h : Inv l b) {i x : Nat} (hi : i < l.length) (hx : x ∈ orb l i) : i ∈ orb l x := by
  have hxl := orb_lt h hi hx
  obtain ⟨j, e⟩ := (mem_orb h hi).1 hx
  have hp := per_is h hi
  refine (mem_orb h hxl).2 ⟨j * per l i - j, ?_⟩
  have hj : j ≤ j * per l i := Nat.le_mul_of_pos_right j hp.1
  rw [← e, ← it_add, Nat.sub_add_cancel hj, it_mul hp.2.1]
theorem orb_trans {l b : List Nat} (h : Inv l b) {i x y : Nat} (hi : i < l.length) (hx : x ∈ orb l i) (hy : y ∈ orb l x) : y ∈ orb l i := by
  have hxl := orb_lt h hi hx
  obtain ⟨j, rfl⟩ := (mem_orb h hi).1 hx
  obtain ⟨k, rfl⟩ := (mem_orb h hxl).1 hy
  exact (mem_orb h hi).2 ⟨k + j, it_add l j i k⟩
theorem orb_nodup {l b : List Nat} (h : Inv l b) {i : Nat} (hi : i < l.length) : (orb l i).Nodup := by
  have hp := per_is h hi
  unfold orb way
  rw [List.nodup_iff_pairwise_ne, List.pairwise_map]
  refine (List.pairwise_lt_range).imp_of_mem ?_
  intro a c ha hc hac e
  simp at ha hc
  have : c = (c - a) + a := by omega
  rw [this, Nat.add_comm, it_add] at e
  exact hp.2.2 (c - a) (by omega) (by omega) (it_inj h (it_lt h hi _) hi a e.symm)

/-! ### Leaders: the least numbers of orbits -/
def Leads (l : List Nat) (i : Nat) : Prop := ∀ j, j < i → i ∉ orb l j
noncomputable instance (l : List Nat) (i : Nat) : Decidable (Leads l i) := Classical.propDecidable _
/-- The leaders ahead of k. -/
noncomputable def leads (l : List Nat) (k : Nat) : List Nat := (List.range k).filter fun i => decide (Leads l i)
theorem leads_next (l : List Nat) (k : Nat) : leads l (k + 1) = leads l k ++ (if Leads l k then [k] else []) := by
  unfold leads
  rw [List.range_succ, List.filter_append]
  by_cases h : Leads l k <;> simp [h]
theorem mem_leads {l : List Nat} {k i : Nat} : i ∈ leads l k ↔ i < k ∧ Leads l i := by simp [leads]
/-- x's own leader. -/
theorem exists_lead {l b : List Nat} (h : Inv l b) {x : Nat} (hx : x < l.length) : ∃ i, i ≤ x ∧ Leads l i ∧ x ∈ orb l i := by
  obtain ⟨i, h1, h2, h3⟩ := least_of (p := fun j => x ∈ orb l j) x (orb_self h hx)
  refine ⟨i, h1, fun j hj hm => h3 j hj ?_, h2⟩
  exact orb_trans h (by omega) hm h2
theorem lead_unique {l b : List Nat} (h : Inv l b) {x i j : Nat} (hi : i < l.length) (hj : j < l.length) (li : Leads l i) (lj : Leads l j) (hxi : x ∈ orb l i) (hxj : x ∈ orb l j) : i = j := by
  rcases Nat.lt_trichotomy i j with h1 | h1 | h1
  · exact absurd (orb_trans h hi hxi (orb_symm h hj hxj)) (lj i h1)
  · exact h1
  · exact absurd (orb_trans h hj hxj (orb_symm h hi hxi)) (li j h1)
noncomputable def lead (l : List Nat) (x : Nat) : Nat := by
  classical exact if h : ∃ i, i ≤ x ∧ Leads l i ∧ x ∈ orb l i then Classical.choose h else 0
theorem lead_is {l b : List Nat} (h : Inv l b) {x : Nat} (hx : x < l.length) : lead l x ≤ x ∧ Leads l (lead l x) ∧ x ∈ orb l (lead l x) := by
  unfold lead
  rw [dif_pos (exists_lead h hx)]
  exact Classical.choose_spec (exists_lead h hx)
theorem lead_eq {l b : List Nat} (h : Inv l b) {x i : Nat} (hx : x < l.length) (hi : i < l.length) (li : Leads l i) (hm : x ∈ orb l i) : lead l x = i :=
  lead_unique h (by have := (lead_is h hx).1; omega) hi (lead_is h hx).2.1 li (lead_is h hx).2.2 hm
theorem leads_iff {l b : List Nat} (h : Inv l b) {i : Nat} (hi : i < l.length) : Leads l i ↔ lead l i = i := by
  constructor
  · intro li; exact lead_eq h hi hi li (orb_self h hi)
  · intro e; rw [← e]; exact (lead_is h hi).2.1
theorem lead_of_mem {l b : List Nat} (h : Inv l b) {x i : Nat} (hi : i < l.length) (hm : x ∈ orb l i) : lead l x = lead l i := by
  have hx := orb_lt h hi hm
  have := lead_is h hi
  exact lead_eq h hx (by omega) this.2.1 (orb_trans h (by omega) this.2.2 hm)
theorem mem_of_lead {l b : List Nat} (h : Inv l b) {x i : Nat} (hx : x < l.length) (hi : i < l.length) (e : lead l x = lead l i) : x ∈ orb l i := by
  have h1 := lead_is h hx
  have h2 := lead_is h hi
  rw [e] at h1
  exact orb_trans h hi (orb_symm h (by omega) h2.2.2) h1.2.2
/-- The place of x's orbit among all. -/
noncomputable def nameOf (l : List Nat) (x : Nat) : Nat := (leads l (lead l x)).length
noncomputable def names (l : List Nat) : List Nat := (List.range l.length).map (nameOf l)
theorem names_len (l : List Nat) : (names l).length = l.length := by simp [names]
theorem names_get (l : List Nat) (x : Nat) (hx : x < l.length) : (names l).getD x 0 = nameOf l x := by
  simp [names, List.getD_eq_getElem?_getD, hx]
noncomputable def orbits (l : List Nat) : List (List Nat) := (leads l l.length).map (orb l)
theorem leads_mono (l : List Nat) (a : Nat) : ∀ c, a ≤ c → (leads l a).length ≤ (leads l c).length := by
  intro c
  induction c with
  | zero =>
    intro h
    have e : a = 0 := by omega
    rw [e]
    exact Nat.le_refl _
  | succ c ih =>
    intro h
    rw [leads_next, List.length_append]
    by_cases e : a = c + 1
    · subst e; rw [leads_next, List.length_append]; exact Nat.le_refl _
    · have := ih (by omega); omega
theorem leads_lt (l : List Nat) (a c : Nat) (ha : Leads l a) (hac : a < c) : (leads l a).length < (leads l c).length := by
  have h1 := leads_mono l (a + 1) c hac
  rw [leads_next, if_pos ha] at h1
  simp at h1
  omega
/-- The k-th leader has k leaders ahead. -/
theorem leads_place (l : List Nat) : ∀ c k, k < (leads l c).length → (leads l ((leads l c).getD k 0)).length = k := by
  intro c
  induction c with
  | zero => intro k hk; simp [leads] at hk
  | succ c ih =>
    intro k hk
    rw [leads_next] at hk ⊢
    by_cases hL : Leads l c
    · rw [if_pos hL] at hk ⊢
      rw [List.length_append] at hk
      simp at hk
      by_cases e : k < (leads l c).length
      · rw [show (leads l c ++ [c]).getD k 0 = (leads l c).getD k 0 by simp [List.getD_eq_getElem?_getD, List.getElem?_append_left e]]
        exact ih k e
      · obtain rfl : k = (leads l c).length := by omega
        rw [show (leads l c ++ [c]).getD (leads l c).length 0 = c by simp [List.getD_eq_getElem?_getD]]
    · rw [if_neg hL, List.append_nil] at hk ⊢
      exact ih k hk
/-- How many numbers the orbits of the leaders ahead of k have. -/
theorem count_leads {l b : List Nat} (h : Inv l b) : ∀ k, k ≤ l.length → ((leads l k).map fun i => (orb l i).length).sum = ((List.range l.length).filter fun x => decide (lead l x < k)).length := by
  intro k
  induction k with
  | zero =>
    intro _
    rw [List.filter_eq_nil_iff.2 (by simp)]
    rfl
  | succ k ih =>
    intro hk
    have ih := ih (by omega)
    rw [leads_next, List.map_append, List.sum_append, ih]
    have hsplit : ((List.range l.length).filter fun x => decide (lead l x < k + 1)).length = ((List.range l.length).filter fun x => decide (lead l x < k)).length + ((List.range l.length).filter fun x => decide (lead l x = k)).length := by
      generalize List.range l.length = R
      induction R with
      | nil => rfl
      | cons a R ih2 =>
        simp only [List.filter_cons]
        rcases Nat.lt_trichotomy (lead l a) k with h1 | h1 | h1
        · rw [if_pos (by simp; omega), if_pos (by simp; omega), if_neg (by simp; omega)]; simp only [List.length_cons]; omega
        · rw [if_pos (by simp; omega), if_neg (by simp; omega), if_pos (by simp; omega)]; simp only [List.length_cons]; omega
        · rw [if_neg (by simp; omega), if_neg (by simp; omega), if_neg (by simp; omega)]; exact ih2
    rw [hsplit]
    congr 1
    by_cases hL : Leads l k
    · rw [if_pos hL]
      simp only [List.map_cons, List.map_nil, List.sum_cons, List.sum_nil, Nat.add_zero]
      apply List.Perm.length_eq
      rw [List.perm_ext_iff_of_nodup (orb_nodup h (by omega)) (List.Nodup.sublist List.filter_sublist List.nodup_range)]
      intro x
      simp only [List.mem_filter, List.mem_range, decide_eq_true_eq]
      constructor
      · intro hx
        have hxl := orb_lt h (by omega) hx
        exact ⟨hxl, lead_eq h hxl (by omega) hL hx⟩
      · rintro ⟨hxl, e⟩
        have := (lead_is h hxl).2.2
        rwa [e] at this
    · rw [if_neg hL]
      symm
      show _ = 0
      rw [List.length_eq_zero_iff, List.filter_eq_nil_iff]
      intro x hx e
      simp at hx e
      exact hL (by rw [← e]; exact (lead_is h hx).2.1)
theorem count_all {l b : List Nat} (h : Inv l b) : ((orbits l).map List.length).sum = l.length := by
  unfold orbits
  rw [List.map_map]
  have := count_leads h l.length (Nat.le_refl _)
  rw [show (List.length ∘ orb l) = fun i => (orb l i).length from rfl, this]
  rw [List.filter_eq_self.2 (fun x hx => by simp at hx; have := (lead_is h hx).1; simp; omega)]
  simp
end Go.Proofs.Ythbhbcakiaaapaa
