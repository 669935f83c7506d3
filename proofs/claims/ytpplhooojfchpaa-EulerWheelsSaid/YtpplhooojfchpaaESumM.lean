/- How many vertices, faces and parts a list has, reckoned. The parts together: sums. -/
import Derived.Test.YtpplhooojfchpaaEOf
namespace Go.Proofs.Ytpplhooojfchpaa
set_option maxRecDepth 20000
open Go.RowKit
set_option linter.unusedVariables false
def goB (l : List Nat) (d : Nat) : Nat → Nat → Bool
  | 0, _ => true
  | f + 1, x => if x < d then false else goB l d f (l.getD x 0)
def leadB (l : List Nat) (d : Nat) : Bool := goB l d l.length d
/-- How many orbits. -/
def metB (l : List Nat) : Nat := ((List.range l.length).filter (leadB l)).length
theorem goB_iff (l : List Nat) (d : Nat) : ∀ f x, goB l d f x = true ↔ ∀ k, k < f → d ≤ itf (sgL l) k x
  | 0, x => ⟨fun _ k h => absurd h (by omega), fun _ => rfl⟩
  | f + 1, x => by
    unfold goB
    by_cases h : x < d
    · rw [if_pos h]
      constructor
      · intro c; cases c
      · intro c; have := c 0 (by omega); have e : itf (sgL l) 0 x = x := rfl; omega
    · rw [if_neg h, goB_iff l d f]
      constructor
      · intro c k hk
        cases k with
        | zero => show d ≤ x; omega
        | succ k => rw [itf_succ]; exact c k (by omega)
      · intro c k hk
        have := c (k + 1) (by omega)
        rwa [itf_succ] at this
section
variable {l b : List Nat}
theorem leadB_iff (h : Inv l b) {d : Nat} (hd : d < l.length) : leadB l d = true ↔ Leads l d := by
  unfold leadB
  rw [goB_iff, leads_orb h hd]
  constructor
  · intro H x hx
    have hx' : x ∈ way l d (per l d) := hx
    obtain ⟨j, hj, e⟩ := mem_way.1 hx'
    have hp := per_le h hd
    have := H j (by omega)
    rw [sgL_it, e] at this
    exact this
  · intro H k _
    have := H (itf (sgL l) k d) ((mem_orb h hd).2 ⟨k, by rw [sgL_it]⟩)
    exact this
theorem met_is (h : Inv l b) : met l l.length = metB l := by
  unfold met leads metB
  congr 1
  apply List.filter_congr
  intro d hd
  have hd : d < l.length := by simpa using hd
  rw [Bool.eq_iff_iff, leadB_iff h hd, decide_eq_true_iff]
theorem sizes_is (h : Inv l b) : (sizes l).length = metB l := by
  unfold sizes; rw [sizesTo_len, met_is h]
theorem num_leads (h : Inv l b) : num (fun d => Leads l d) l.length = metB l := by
  unfold num metB
  congr 1
  apply List.filter_congr
  intro d hd
  have hd : d < l.length := by simpa using hd
  rw [Bool.eq_iff_iff, leadB_iff h hd, decide_eq_true_iff]
end
/-- Those that are seen to be together with 0. -/
def nearB (l : List Nat) (v : List Bool) : List Bool := (List.range l.length).map fun d => v.getD d false || v.getD (mt d) false || v.getD (l.getD d 0) false
def nearsB (l : List Nat) : Nat → List Bool
  | 0 => (List.range l.length).map fun d => d == 0
  | k + 1 => nearB l (nearsB l k)
def oneB (l : List Nat) (k : Nat) : Bool := (List.range l.length).all fun d => (nearsB l k).getD d false
theorem map_rangeB (f : Nat → Bool) (n i : Nat) : ((List.range n).map f).getD i false = (decide (i < n) && f i) := by
  by_cases h : i < n
  · simp [List.getD_eq_getElem?_getD, List.getElem?_range h, h]
  · have : (List.map f (List.range n))[i]? = none := by rw [List.getElem?_eq_none_iff]; simpa using h
    rw [List.getD_eq_getElem?_getD, this]
    simp [h]
section
variable {l b : List Nat}
theorem nearsB_ok (h : Inv l b) (he : l.length % 2 = 0) : ∀ k d, (nearsB l k).getD d false = true → d < l.length ∧ part l 0 d
  | 0, d, e => by
    unfold nearsB at e
    rw [map_rangeB] at e
    simp at e
    obtain ⟨e1, e2⟩ := e
    subst e2
    exact ⟨e1, (part_eqv h he).refl 0 e1⟩
  | k + 1, d, e => by
    have hq := part_eqv h he
    have hpf := sgL_pf h
    unfold nearsB nearB at e
    rw [map_rangeB] at e
    simp only [Bool.and_eq_true, Bool.or_eq_true, decide_eq_true_iff] at e
    obtain ⟨hd, e⟩ := e
    refine ⟨hd, ?_⟩
    rcases e with (e | e) | e
    · exact (nearsB_ok h he k d e).2
    · obtain ⟨h1, h2⟩ := nearsB_ok h he k _ e
      exact hq.trans _ _ _ (by omega) h1 hd h2 (hq.symm _ _ hd h1 (gk_mt hpf (by omega) d hd))
    · obtain ⟨h1, h2⟩ := nearsB_ok h he k _ e
      exact hq.trans _ _ _ (by omega) h1 hd h2 (hq.symm _ _ hd h1 (gk_sig hpf d _))
theorem oneB_ok (h : Inv l b) (he : l.length % 2 = 0) {k : Nat} (e : oneB l k = true) : ∀ d, d < l.length → part l 0 d := fun d hd => by
  unfold oneB at e
  rw [List.all_eq_true] at e
  exact (nearsB_ok h he k d (e d (by simpa using hd))).2
theorem num_even (n : Nat) : num (fun d => d % 2 = 0) (2 * n) = n := by
  induction n with
  | zero => rfl
  | succ n ih =>
    rw [show 2 * (n + 1) = 2 * n + 1 + 1 by omega, (num_next _ (2 * n + 1)).2 (by omega), (num_next _ (2 * n)).1 (by omega), ih]
/-- A map of one part. -/
theorem one_part (h : Inv l b) (he : l.length % 2 = 0) (h0 : 0 < l.length) (H : ∀ d, d < l.length → part l 0 d) :
    pN l = 1 ∧ metB l + metB (phiL l) + 2 * genusN l = l.length / 2 + 2 := by
  have hq := part_eqv h he
  have hp := phi_inv h he
  have h1 : pN l = 1 := by
    unfold pN pn
    exact cls_one hq h0 fun i hi => ⟨fun _ => H i hi, fun _ => trivial⟩
  refine ⟨h1, ?_⟩
  have hpq : ∀ d, d < l.length → pq l d = 0 := fun d hd => by
    have := pq_lt h he hd hd
    have := pq_lt h he hd (show d < d + 1 by omega)
    have := pn_mono (part l) (show d + 1 ≤ l.length by omega)
    have : pn (part l) l.length = 1 := h1
    omega
  obtain ⟨G, hG, hE⟩ := pG_is h he hp (j := 0) (by rw [h1]; omega)
  have eV : pV l 0 l.length = metB l := by
    rw [← num_leads h]
    exact num_congr fun d hd => ⟨fun x => x.2, fun x => ⟨hpq d hd, x⟩⟩
  have eB : pB l 0 l.length = metB (phiL l) := by
    rw [← num_leads hp, phiL_len]
    exact num_congr fun d hd => ⟨fun x => x.2, fun x => ⟨hpq d hd, x⟩⟩
  have eE : pE l 0 l.length = l.length / 2 := by
    have : pE l 0 l.length = num (fun d => d % 2 = 0) l.length := num_congr fun d hd => ⟨fun x => x.2, fun x => ⟨hpq d hd, x⟩⟩
    rw [this]
    have := num_even (l.length / 2)
    rwa [show 2 * (l.length / 2) = l.length by omega] at this
  have eg : genusN l = G := by
    unfold genusN
    rw [h1]
    unfold genusTo pgen
    simp [h1, hG]
  rw [eV, eB, eE] at hE
  rw [eg]; exact hE
end
end Go.Proofs.Ytpplhooojfchpaa
namespace Go.Proofs.Ytpplhooojfchpaa
set_option maxRecDepth 20000
open Go.RowKit
set_option linter.unusedVariables false
noncomputable def sumN (f : Nat → Nat) (p : Nat) : Nat := ((List.range p).map f).sum
theorem sumN_next (f : Nat → Nat) (p : Nat) : sumN f (p + 1) = sumN f p + f p := by unfold sumN; rw [List.range_succ, List.map_append, List.sum_append]; simp
theorem sumN_congr {f g : Nat → Nat} : ∀ {p : Nat}, (∀ j, j < p → f j = g j) → sumN f p = sumN g p
  | 0, _ => rfl
  | p + 1, h => by rw [sumN_next, sumN_next, sumN_congr fun j hj => h j (by omega), h p (by omega)]
theorem sumN_inc {f g : Nat → Nat} {q : Nat} (hq : g q = f q + 1) (h : ∀ j, j ≠ q → g j = f j) : ∀ p, q < p → sumN g p = sumN f p + 1
  | 0, hp => absurd hp (by omega)
  | p + 1, hp => by
    rw [sumN_next, sumN_next]
    by_cases e : q = p
    · subst e
      rw [hq, sumN_congr (g := f) fun j hj => h j (by omega)]; omega
    · rw [sumN_inc hq h p (by omega), h p (fun c => e c.symm)]; omega
theorem sumN_zero (p : Nat) : sumN (fun _ => 0) p = 0 := by
  induction p with
  | zero => rfl
  | succ p ih => rw [sumN_next, ih]
theorem sum_parts {l : List Nat} {p n : Nat} (hp : ∀ d, d < n → pq l d < p) (S : Nat → Prop) : ∀ k, k ≤ n → sumN (fun j => num (fun d => pq l d = j ∧ S d) k) p = num S k
  | 0, _ => by
    have : ∀ Q : Nat → Prop, num Q 0 = 0 := fun Q => rfl
    rw [this]
    exact (sumN_congr fun j _ => this _).trans (sumN_zero p)
  | k + 1, hk => by
    have ih := sum_parts hp S k (by omega)
    by_cases s : S k
    · rw [(num_next S k).1 s, ← ih]
      exact sumN_inc (q := pq l k) ((num_next _ k).1 ⟨rfl, s⟩) (fun j hj => (num_next _ k).2 fun x => hj x.1.symm) p (hp k (by omega))
    · rw [(num_next S k).2 s, ← ih]
      exact sumN_congr fun j _ => (num_next _ k).2 fun x => s x.2
noncomputable def vcell (l : List Nat) (j : Nat) : Nat := if j < pN l then pV l j l.length else 1
noncomputable def ecell (l : List Nat) (j : Nat) : Nat := if j < pN l then pE l j l.length else 0
noncomputable def bcell (l : List Nat) (j : Nat) : Nat := if j < pN l then pB l j l.length else 1
theorem cell_1 (l : List Nat) (j : Nat) : pcL l (5 * j + 1) = vcell l j := by
  unfold pcL vcell
  rw [show (5 * j + 1) / 5 = j by omega, pc_1, if_neg (show ¬ (5 * j + 1) % 5 = 0 by omega), if_pos (show (5 * j + 1) % 5 = 1 by omega)]
  split <;> rfl
theorem cell_2 (l : List Nat) (j : Nat) : pcL l (5 * j + 2) = ecell l j := by
  unfold pcL ecell
  rw [show (5 * j + 2) / 5 = j by omega, pc_2, if_neg (show ¬ (5 * j + 2) % 5 = 0 by omega), if_neg (show ¬ (5 * j + 2) % 5 = 1 by omega), if_neg (show ¬ (5 * j + 2) % 5 = 3 by omega)]
  split <;> rfl
theorem cell_3 (l : List Nat) (j : Nat) : pcL l (5 * j + 3) = bcell l j := by
  unfold pcL bcell
  rw [show (5 * j + 3) / 5 = j by omega, pc_3, if_neg (show ¬ (5 * j + 3) % 5 = 0 by omega), if_neg (show ¬ (5 * j + 3) % 5 = 1 by omega), if_pos (show (5 * j + 3) % 5 = 3 by omega)]
  split <;> rfl
section
variable {l b : List Nat}
theorem cell_euler (h : Inv l b) (he : l.length % 2 = 0) (j : Nat) : vcell l j + bcell l j + 2 * pgen l j = ecell l j + 2 ∧ vcell l j ≤ l.length + 1 ∧ bcell l j ≤ l.length + 1 ∧ ecell l j ≤ l.length := by
  unfold vcell bcell ecell pgen
  by_cases hj : j < pN l
  · rw [if_pos hj, if_pos hj, if_pos hj, if_pos hj]
    obtain ⟨G, hG, hE⟩ := pG_is h he (phi_inv h he) hj
    rw [hG]
    have := pV_le l j l.length
    have := pE_le l j l.length
    have := pB_le l j l.length
    exact ⟨by simpa using hE, by omega, by omega, by omega⟩
  · rw [if_neg hj, if_neg hj, if_neg hj, if_neg hj]
    exact ⟨rfl, by omega, by omega, by omega⟩
theorem sum_lone {f : Nat → Nat} {p q : Nat} (h : ∀ j, p ≤ j → f j = q) : ∀ c, sumN f (p + c) = sumN f p + q * c
  | 0 => by simp
  | c + 1 => by rw [← Nat.add_assoc, sumN_next, sum_lone h c, h _ (by omega), Nat.mul_add]; omega
theorem sum_v (h : Inv l b) (he : l.length % 2 = 0) (c : Nat) : sumN (vcell l) (pN l + c) = (sizes l).length + c := by
  rw [sum_lone (q := 1) (fun j hj => by unfold vcell; rw [if_neg (by omega)]), Nat.one_mul]
  congr 1
  rw [sumN_congr (g := fun j => num (fun d => pq l d = j ∧ Leads l d) l.length) (fun j hj => by unfold vcell; rw [if_pos hj]; rfl), sum_parts (p := pN l) (n := l.length) (fun d hd => pq_lt h he hd hd) _ _ (Nat.le_refl _), num_leads h, sizes_is h]
theorem sum_b (h : Inv l b) (he : l.length % 2 = 0) (c : Nat) : sumN (bcell l) (pN l + c) = (sizes (phiL l)).length + c := by
  have hp := phi_inv h he
  rw [sum_lone (q := 1) (fun j hj => by unfold bcell; rw [if_neg (by omega)]), Nat.one_mul]
  congr 1
  have e := num_leads hp
  rw [phiL_len] at e
  rw [sumN_congr (g := fun j => num (fun d => pq l d = j ∧ Leads (phiL l) d) l.length) (fun j hj => by unfold bcell; rw [if_pos hj]; rfl), sum_parts (p := pN l) (n := l.length) (fun d hd => pq_lt h he hd hd) _ _ (Nat.le_refl _), e, sizes_is hp]
theorem sum_e (h : Inv l b) (he : l.length % 2 = 0) (c : Nat) : sumN (ecell l) (pN l + c) = l.length / 2 := by
  rw [sum_lone (q := 0) (fun j hj => by unfold ecell; rw [if_neg (by omega)]), Nat.zero_mul, Nat.add_zero]
  rw [sumN_congr (g := fun j => num (fun d => pq l d = j ∧ d % 2 = 0) l.length) (fun j hj => by unfold ecell; rw [if_pos hj]; rfl), sum_parts (p := pN l) (n := l.length) (fun d hd => pq_lt h he hd hd) _ _ (Nat.le_refl _)]
  have := num_even (l.length / 2)
  rwa [show 2 * (l.length / 2) = l.length by omega] at this
end
theorem sumN_le {f : Nat → Nat} {m : Nat} (h : ∀ j, f j ≤ m) : ∀ p, sumN f p ≤ p * m
  | 0 => by simp [sumN]
  | p + 1 => by rw [sumN_next, Nat.add_mul, Nat.one_mul]; have := sumN_le h p; have := h p; omega
end Go.Proofs.Ytpplhooojfchpaa
