/- The map with an edge made one: vertices, faces, parts, genus. -/
import Derived.Test.YtnnjjhjohjajnaaZUCutsO
namespace Go.Proofs.Ytnnjjhjohjajnaa
set_option maxRecDepth 20000
open Go.RowKit
set_option linter.unusedVariables false
section
variable {l b : List Nat}
open Classical in
/-- Classes of what is left of n numbers, two taken out. -/
theorem un_cls {e : Nat} (hE : 2 * e + 2 ≤ l.length) {Q R : Nat → Nat → Prop} (hQ : ∀ j k, j < l.length - 2 → k < l.length - 2 → (Q j k ↔ R (unN e j) (unN e k))) :
    cls Q (fun _ => True) (l.length - 2) = cls (isoR (isoR R (2 * e)) (2 * e + 1)) (fun i => (True ∧ i ≠ 2 * e) ∧ i ≠ 2 * e + 1) l.length := by
  have hc : cntE e l.length = l.length - 2 := by unfold cntE; rw [if_neg (by omega), if_neg (by omega)]
  have e1 : num (fun i => ((True ∧ i ≠ 2 * e) ∧ i ≠ 2 * e + 1) ∧ Least (isoR (isoR R (2 * e)) (2 * e + 1)) i) l.length = (((List.range l.length).filter (fun d => decide (d / 2 ≠ e))).filter (fun i => decide (Least (isoR (isoR R (2 * e)) (2 * e + 1)) i))).length := by
    unfold num
    rw [List.filter_filter]
    congr 1
    apply List.filter_congr
    intro i _
    rw [← Bool.decide_and, decide_eq_decide]
    constructor
    · rintro ⟨⟨⟨_, a⟩, c⟩, q⟩; exact ⟨q, by omega⟩
    · rintro ⟨q, a⟩; exact ⟨⟨⟨trivial, by omega⟩, by omega⟩, q⟩
  rw [cls_num, cls_num]
  unfold num at e1 ⊢
  rw [e1, filt_un, List.filter_map, List.length_map, hc]
  congr 1
  apply List.filter_congr
  intro j hj
  have hj : j < l.length - 2 := by simpa using hj
  rw [Bool.eq_iff_iff]
  simp only [Function.comp_apply, decide_eq_true_eq]
  have hn := (unN_is e j).1
  constructor
  · rintro ⟨_, H⟩ i hi r
    rcases r with r | ⟨r1, r2, r | ⟨r3, r4, r5⟩⟩
    · omega
    · omega
    · have ci : i / 2 ≠ e := by omega
      have := unN_lt hE hj
      have hil : i < l.length := by omega
      have hcl := calN_lt e i l.length ci hil hE
      have hcu := calN_un e i ci
      have hlt : calN e i < j := by
        rcases Nat.lt_or_ge (calN e i) j with c | c
        · exact c
        · rcases Nat.lt_or_ge j (calN e i) with c' | c'
          · have := un_mono (e := e) c'; omega
          · have : calN e i = j := by omega
            rw [this] at hcu; omega
      exact H _ hlt ((hQ _ _ hcl hj).2 (by rw [hcu]; exact r5))
  · intro H
    refine ⟨trivial, fun j' hj' r => H (unN e j') (un_mono hj') ?_⟩
    have hn' := (unN_is e j').1
    exact .inr ⟨by omega, by omega, .inr ⟨by omega, by omega, (hQ _ _ (by omega) hj).1 r⟩⟩
/-- All of a row that tells are of one orbit. -/
theorem tells_orb {n e : Nat} {T v : List Nat} (h : Tells n e T v) {i k : Nat} (hi : i < v.length) (hk : k < v.length) : Orb (sgL T) (calN e (v.getD i 0)) (calN e (v.getD k 0)) := by
  have hc : Cyc (sgL T) (v.map (calN e)) := by
    have g : ∀ j, j < v.length → (v.map (calN e)).getD j 0 = calN e (v.getD j 0) := fun j hj => by
      simp [List.getD_eq_getElem?_getD, List.getElem?_eq_getElem hj]
    intro j hj
    rw [List.length_map] at hj
    rw [g j hj]
    have ht := (h j hj).2.2.2.2
    show _ = T.getD _ 0
    rw [← ht]
    unfold nxt
    rw [List.length_map]
    split
    · next c => rw [g _ c]
    · rw [g 0 (by omega)]
  have g : ∀ j, j < v.length → (v.map (calN e)).getD j 0 = calN e (v.getD j 0) := fun j hj => by
    simp [List.getD_eq_getElem?_getD, List.getElem?_eq_getElem hj]
  have hit := hc.it (a := i) (by rw [List.length_map]; exact hi) (k + v.length - i)
  rw [List.length_map, g i hi, show i + (k + v.length - i) = k + v.length by omega, Nat.add_mod_right, Nat.mod_eq_of_lt hk, g k hk] at hit
  exact ⟨_, hit⟩
theorem mem_getE {v : List Nat} {x : Nat} (h : x ∈ v) : ∃ i, i < v.length ∧ v.getD i 0 = x := by
  obtain ⟨i, hi, e⟩ := List.getElem_of_mem h
  exact ⟨i, hi, by rw [List.getD_eq_getElem?_getD, List.getElem?_eq_getElem hi]; exact e⟩
theorem tells_mem {n e : Nat} {T v : List Nat} (h : Tells n e T v) {x y : Nat} (hx : x ∈ v) (hy : y ∈ v) : Orb (sgL T) (calN e x) (calN e y) := by
  obtain ⟨i, hi, rfl⟩ := mem_getE hx
  obtain ⟨k, hk, rfl⟩ := mem_getE hy
  exact tells_orb h hi hk
theorem outE (h : Inv l b) {e : Nat} (he : e < l.length / 2) (hne : nameOf l (2 * e) ≠ nameOf l (2 * e + 1)) {x : Nat} (hx : x < l.length) (hxe : x / 2 ≠ e) : outN (phiL l) e (sgL l x) / 2 ≠ e := by
  have h0 : 2 * e < l.length := by omega
  have h1 : 2 * e + 1 < l.length := by omega
  have hpf := sgL_pf h
  have z1 : (phiL l).getD (2 * e + 1) 0 = sgL l (2 * e) := by
    have := phi_at l h1
    have e1 : mt (2 * e + 1) = 2 * e := by unfold mt; rw [if_neg (by omega)]; omega
    rw [e1] at this; exact this
  have z0 : (phiL l).getD (2 * e) 0 = sgL l (2 * e + 1) := by
    have := phi_at l h0
    have e1 : mt (2 * e) = 2 * e + 1 := by unfold mt; rw [if_pos (by omega)]
    rw [e1] at this; exact this
  have no1 : sgL l (2 * e + 1) ≠ 2 * e := fun c => hne ((name_iff h h0 h1).2 (hpf.eqv.symm _ _ h1 h0 ⟨1, c⟩))
  have no2 : sgL l (2 * e) ≠ 2 * e + 1 := fun c => hne ((name_iff h h0 h1).2 ⟨1, c⟩)
  have inj := hpf.inj
  unfold outN
  split
  · assumption
  · next c =>
    have hc : sgL l x = 2 * e ∨ sgL l x = 2 * e + 1 := by omega
    rcases hc with hc | hc <;> rw [hc]
    · rw [z0]
      split
      · assumption
      · next d =>
        have hd : sgL l (2 * e + 1) = 2 * e + 1 := by omega
        rw [hd, z1]
        intro c2
        have : sgL l (2 * e) = 2 * e := by omega
        have := inj x (2 * e) hx h0 (by rw [hc, this])
        omega
    · rw [z1]
      split
      · assumption
      · next d =>
        have hd : sgL l (2 * e) = 2 * e := by omega
        rw [hd, z0]
        intro c2
        have : sgL l (2 * e + 1) = 2 * e + 1 := by omega
        have := inj x (2 * e + 1) hx h1 (by rw [hc, this])
        omega
/-- Vertices of the shrunk map. -/
theorem shr_orb (h : Inv l b) {e : Nat} (hE : 2 * e + 2 ≤ l.length) (he : e < l.length / 2) (hne : nameOf l (2 * e) ≠ nameOf l (2 * e + 1)) {j k : Nat} (hj : j < l.length - 2) (hk : k < l.length - 2) :
    Orb (sgL (woN l (phiL l) e)) j k ↔ joinR (Orb (sgL l)) (2 * e) (2 * e + 1) (unN e j) (unN e k) := by
  have hpf := sgL_pf h
  have h0 : 2 * e < l.length := by omega
  have h1 : 2 * e + 1 < l.length := by omega
  have hq := joinR.eqv hpf.eqv h0 h1
  have z1 : (phiL l).getD (2 * e + 1) 0 = sgL l (2 * e) := by
    have := phi_at l h1
    have e1 : mt (2 * e + 1) = 2 * e := by unfold mt; rw [if_neg (by omega)]; omega
    rw [e1] at this; exact this
  have z0 : (phiL l).getD (2 * e) 0 = sgL l (2 * e + 1) := by
    have := phi_at l h0
    have e1 : mt (2 * e) = 2 * e + 1 := by unfold mt; rw [if_pos (by omega)]
    rw [e1] at this; exact this
  have r01 : joinR (Orb (sgL l)) (2 * e) (2 * e + 1) (2 * e) (2 * e + 1) := .inr (.inl ⟨⟨0, rfl⟩, ⟨0, rfl⟩⟩)
  have r10 := hq.symm _ _ h0 h1 r01
  have st : ∀ x, joinR (Orb (sgL l)) (2 * e) (2 * e + 1) x (sgL l x) := fun x => .inl ⟨1, rfl⟩
  have lt := hpf.lt
  have out : ∀ y, y < l.length → joinR (Orb (sgL l)) (2 * e) (2 * e + 1) y (outN (phiL l) e y) := fun y hy => by
    have one : ∀ y, y < l.length → y / 2 = e → joinR (Orb (sgL l)) (2 * e) (2 * e + 1) y ((phiL l).getD y 0) ∧ (phiL l).getD y 0 < l.length := fun y hy c => by
      have : y = 2 * e ∨ y = 2 * e + 1 := by omega
      rcases this with rfl | rfl
      · rw [z0]; exact ⟨hq.trans _ _ _ h0 h1 (lt _ h1) r01 (st _), lt _ h1⟩
      · rw [z1]; exact ⟨hq.trans _ _ _ h1 h0 (lt _ h0) r10 (st _), lt _ h0⟩
    unfold outN
    split
    · exact hq.refl _ hy
    · next c =>
      obtain ⟨a1, a2⟩ := one y hy (by omega)
      split
      · exact a1
      · next d =>
        obtain ⟨b1, b2⟩ := one _ a2 (by omega)
        exact hq.trans _ _ _ hy a2 b2 a1 b1
  have step : ∀ j, j < l.length - 2 → joinR (Orb (sgL l)) (2 * e) (2 * e + 1) (unN e j) (unN e (sgL (woN l (phiL l) e) j)) ∧ sgL (woN l (phiL l) e) j < l.length - 2 := fun j hj => by
    have hu := unN_lt hE hj
    have hn := (unN_is e j).1
    rcases cov_any h he hu hn with ⟨v, hv, hx⟩ | ⟨_, hx⟩ | ⟨_, hx⟩
    all_goals (
      have ht : ∃ w, Tells l.length e (woN l (phiL l) e) w ∧ unN e j ∈ w := by
        first
          | (obtain ⟨d, d1, d2, d3, rfl⟩ := oth_mem hv
             exact ⟨_, tells_oth h (phiL l) he (leads_in.1 d1).1 (fun x hx => oth_clear h he (leads_in.1 d1).1 d2 d3 hx), hx⟩)
          | exact ⟨_, tells_one h he hne, List.mem_append.2 (.inr hx)⟩
          | exact ⟨_, tells_one h he hne, List.mem_append.2 (.inl hx)⟩
      obtain ⟨w, hw, hm⟩ := ht
      obtain ⟨i, hi, hix⟩ := mem_getE hm
      obtain ⟨_, _, q1, q2, q3⟩ := hw i hi
      rw [hix, (unN_is e j).2] at q3
      have hs : sgL (woN l (phiL l) e) j = calN e (nxt w i) := q3.symm
      rw [hs]
      have hval := woN_get l (phiL l) e j hE hj
      have hcl := cal_ltE hE q1 q2
      refine ⟨?_, hcl⟩
      rw [calN_un e _ q2]
      have e2 : calN e (nxt w i) = calN e (outN (phiL l) e (sgL l (unN e j))) := by rw [← hs]; exact hval
      have hol : nxt w i = outN (phiL l) e (sgL l (unN e j)) := by
        have hoe : outN (phiL l) e (sgL l (unN e j)) / 2 ≠ e := outE h he hne hu hn
        have := congrArg (unN e) e2
        rwa [calN_un e _ q2, calN_un e _ hoe] at this
      rw [hol]
      have hlu := lt _ hu
      exact hq.trans _ _ _ hu hlu (by rw [← hol]; exact q1) (st _) (out _ hlu))
  constructor
  · rintro ⟨s, rfl⟩
    have : ∀ s, joinR (Orb (sgL l)) (2 * e) (2 * e + 1) (unN e j) (unN e (itf (sgL (woN l (phiL l) e)) s j)) ∧ itf (sgL (woN l (phiL l) e)) s j < l.length - 2 := fun s => by
      induction s with
      | zero => exact ⟨hq.refl _ (unN_lt hE hj), hj⟩
      | succ s ih =>
        obtain ⟨c1, c2⟩ := step _ ih.2
        exact ⟨hq.trans _ _ _ (unN_lt hE hj) (unN_lt hE ih.2) (unN_lt hE c2) ih.1 c1, c2⟩
    exact (this s).1
  · intro r
    have hu := unN_lt hE hj
    have hv := unN_lt hE hk
    have hnu := (unN_is e j)
    have hnv := (unN_is e k)
    have inU : ∀ x, x < l.length → x / 2 ≠ e → (Orb (sgL l) x (2 * e) ∨ Orb (sgL l) x (2 * e + 1)) → x ∈ fltE e (orb l (2 * e + 1)) ++ fltE e (orb l (2 * e)) := fun x hx hxe o => by
      rcases o with o | o
      · obtain ⟨t, ht⟩ := hpf.eqv.symm _ _ hx h0 o
        exact List.mem_append.2 (.inr (mem_fltE ((mem_orb h h0).2 ⟨t, by rw [← sgL_it]; exact ht⟩) hxe))
      · obtain ⟨t, ht⟩ := hpf.eqv.symm _ _ hx h1 o
        exact List.mem_append.2 (.inl (mem_fltE ((mem_orb h h1).2 ⟨t, by rw [← sgL_it]; exact ht⟩) hxe))
    have fin : ∀ w, Tells l.length e (woN l (phiL l) e) w → unN e j ∈ w → unN e k ∈ w → Orb (sgL (woN l (phiL l) e)) j k := fun w hw m1 m2 => by
      have := tells_mem hw m1 m2
      rwa [hnu.2, hnv.2] at this
    have sym := hpf.eqv.symm
    have tr := hpf.eqv.trans
    by_cases cu : Orb (sgL l) (unN e j) (2 * e) ∨ Orb (sgL l) (unN e j) (2 * e + 1)
    · have cv : Orb (sgL l) (unN e k) (2 * e) ∨ Orb (sgL l) (unN e k) (2 * e + 1) := by
        rcases r with r | ⟨r1, r2⟩ | ⟨r1, r2⟩
        · rcases cu with c | c
          · exact .inl (tr _ _ _ hv hu h0 (sym _ _ hu hv r) c)
          · exact .inr (tr _ _ _ hv hu h1 (sym _ _ hu hv r) c)
        · exact .inr (sym _ _ h1 hv r2)
        · exact .inl (sym _ _ h0 hv r2)
      exact fin _ (tells_one h he hne) (inU _ hu hnu.1 cu) (inU _ hv hnv.1 cv)
    · have r' : Orb (sgL l) (unN e j) (unN e k) := by
        rcases r with r | ⟨r1, _⟩ | ⟨r1, _⟩
        · exact r
        · exact absurd (.inl r1) cu
        · exact absurd (.inr r1) cu
      obtain ⟨t, ht⟩ := r'
      refine fin (orb l (unN e j)) (tells_oth h (phiL l) he hu fun x hx c => ?_) ((mem_orb h hu).2 ⟨0, rfl⟩) ((mem_orb h hu).2 ⟨t, by rw [← sgL_it]; exact ht⟩)
      obtain ⟨t', ht'⟩ := (mem_orb h hu).1 hx
      have o : Orb (sgL l) (unN e j) x := ⟨t', by rw [sgL_it]; exact ht'⟩
      have : x = 2 * e ∨ x = 2 * e + 1 := by omega
      rcases this with rfl | rfl
      · exact cu (.inl o)
      · exact cu (.inr o)
end
end Go.Proofs.Ytnnjjhjohjajnaa
