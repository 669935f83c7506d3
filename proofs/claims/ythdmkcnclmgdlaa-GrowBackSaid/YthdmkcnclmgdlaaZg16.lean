/- The map seen from its faces: mathematics. A map without an edge: as many vertices, and edges cut out in any order. The document's from: an orbit without an edge's darts. A filtered row of darts around a vertex: who stands behind whom. -/
import Derived.Test.YthdmkcnclmgdlaaZg3
import Derived.Test.YthdmkcnclmgdlaaZUCut
import Derived.Test.YthdmkcnclmgdlaaZEGenR
import Derived.Test.YthdmkcnclmgdlaaZPNames
import Derived.Test.YthdmkcnclmgdlaaZENam
namespace Go.Proofs.Ythdmkcnclmgdlaa
set_option maxRecDepth 20000
open Go.RowKit
set_option linter.unusedVariables false
section
variable {l b : List Nat}
theorem phi_twice (h : Inv l b) (he : l.length % 2 = 0) : phiL (phiL l) = l := by
  have hl := phiL_len l
  have hl2 := phiL_len (phiL l)
  apply List.ext_getElem (by rw [hl2, hl])
  intro i h1 h2
  have a : i < (phiL l).length := by rw [hl]; exact h2
  have hm := mateN_lt he h2
  have e := phiL_get (phiL l) i a
  rw [phiL_get l (mateN i) hm, mt_mateN, mt_mateN, mt_mt] at e
  simpa [List.getD_eq_getElem?_getD, List.getElem?_eq_getElem h1, List.getElem?_eq_getElem h2] using e
theorem part_dual1 (h : Inv l b) (he : l.length % 2 = 0) {i j : Nat} (hi : i < l.length) (hj : j < l.length) (r : part (phiL l) i j) : part l i j := by
  have hp := phi_inv h he
  have hpf := sgL_pf h
  have hq := part_eqv h he
  have hpf2 : PF l.length (sgL (phiL l)) := by have := sgL_pf hp; rwa [phiL_len] at this
  have r' : gk (sgL (phiL l)) (l.length / 2) i j := by unfold part at r; rwa [phiL_len] at r
  refine (part_closed (S := fun x => part l i x) hpf2 (m := l.length / 2) (by omega) (fun x hx s => ?_) (fun x hx s => ?_) i j hi hj r').1 (hq.refl i hi)
  · have hm : mt x < l.length := mt_lt (m := l.length / 2) (by omega) hx
    have e : sgL (phiL l) x = sgL l (mt x) := by unfold sgL; rw [phiL_get _ _ hx, mt_mateN]
    have hs : sgL l (mt x) < l.length := hpf.lt _ hm
    show part l i (sgL (phiL l) x)
    rw [e]
    have s' : part l i x := s
    exact hq.trans _ _ _ hi hm hs (hq.trans _ _ _ hi hx hm s' (gk_mt hpf (by omega) x hx)) (gk_sig hpf (mt x) (l.length / 2))
  · have hm : mt x < l.length := mt_lt (m := l.length / 2) (by omega) hx
    exact hq.trans _ _ _ hi hx hm s (gk_mt hpf (by omega) x hx)
theorem part_dual (h : Inv l b) (he : l.length % 2 = 0) {i j : Nat} (hi : i < l.length) (hj : j < l.length) : part (phiL l) i j ↔ part l i j := by
  refine ⟨part_dual1 h he hi hj, fun r => ?_⟩
  have hp := phi_inv h he
  have hl := phiL_len l
  refine part_dual1 hp (by rw [hl]; exact he) (by rw [hl]; exact hi) (by rw [hl]; exact hj) ?_
  rw [phi_twice h he]; exact r
theorem pN_dual (h : Inv l b) (he : l.length % 2 = 0) : pN (phiL l) = pN l := by
  unfold pN
  rw [phiL_len]
  exact pn_both (fun i j hi hj => part_dual h he hi hj) _ (Nat.le_refl _)
theorem pq_dual (h : Inv l b) (he : l.length % 2 = 0) {d : Nat} (hd : d < l.length) : pq (phiL l) d = pq l d := by
  have hb := part_eqv (phi_inv h he) (by rw [phiL_len]; exact he)
  rw [phiL_len] at hb
  have hp := fun i j hi hj => part_dual h he (i := i) (j := j) hi hj
  have e := rep_both hb (part_eqv h he) hp hd
  have := (rep_is (part_eqv h he) hd).1
  unfold pq prt
  rw [e]
  exact pn_both hp _ (by omega)
theorem pG_dual (h : Inv l b) (he : l.length % 2 = 0) (j : Nat) : pG (phiL l) j = pG l j := by
  have e1 : pV (phiL l) j (phiL l).length = num (fun d => pq l d = j ∧ Leads (phiL l) d) l.length := by
    unfold pV
    rw [phiL_len]
    exact num_congr fun d hd => by rw [pq_dual h he hd]
  have e2 : pE (phiL l) j (phiL l).length = pE l j l.length := by
    unfold pE
    rw [phiL_len]
    exact num_congr fun d hd => by rw [pq_dual h he hd]
  have e3 : num (fun d => pq (phiL l) d = j ∧ Leads (phiL (phiL l)) d) (phiL l).length = pV l j l.length := by
    unfold pV
    rw [phiL_len, phi_twice h he]
    exact num_congr fun d hd => by rw [pq_dual h he hd]
  unfold pG
  rw [e1, e2, e3]
  congr 1
  omega
theorem genus_dual (h : Inv l b) (he : l.length % 2 = 0) : genusN (phiL l) = genusN l := by
  unfold genusN genusTo
  rw [pN_dual h he]
  congr 1
  apply List.map_congr_left
  intro j _
  unfold pgen
  rw [pN_dual h he, pG_dual h he]
end
end Go.Proofs.Ythdmkcnclmgdlaa
namespace Go.Proofs.Ythdmkcnclmgdlaa
set_option maxRecDepth 20000
open Go.RowKit
set_option linter.unusedVariables false
/-! ### one taken out of its class -/
def isoR (R : Nat → Nat → Prop) (a : Nat) : Nat → Nat → Prop := fun i j => i = j ∨ (i ≠ a ∧ j ≠ a ∧ R i j)
theorem isoR.eqv {n : Nat} {R : Nat → Nat → Prop} (h : Eqv n R) (a : Nat) : Eqv n (isoR R a) := by
  refine ⟨fun i hi => .inl rfl, fun i j hi hj => ?_, fun i j k hi hj hk => ?_⟩
  · rintro (r | ⟨r1, r2, r3⟩)
    · exact .inl r.symm
    · exact .inr ⟨r2, r1, h.symm i j hi hj r3⟩
  · rintro (r | ⟨r1, r2, r3⟩) (s | ⟨s1, s2, s3⟩)
    · exact .inl (r.trans s)
    · subst r; exact .inr ⟨s1, s2, s3⟩
    · subst s; exact .inr ⟨r1, r2, r3⟩
    · exact .inr ⟨r1, s2, h.trans i j k hi hj hk r3 s3⟩
theorem cls_less {n : Nat} {R : Nat → Nat → Prop} {P : Nat → Prop} {a : Nat} (ha : a < n) (pa : P a) (la : Least R a) : cls R (fun i => P i ∧ i ≠ a) n + 1 = cls R P n := by
  unfold cls
  refine @filter_less (List.range n) (List.nodup_range) (fun i => P i ∧ Least R i) (fun i => (P i ∧ i ≠ a) ∧ Least R i) (fun _ => @instDecidableAnd _ _ (Classical.propDecidable _) (Classical.propDecidable _)) (fun _ => @instDecidableAnd _ _ (Classical.propDecidable _) (Classical.propDecidable _)) a (by simpa using ha) ⟨pa, la⟩ fun i hi => ?_
  constructor
  · rintro ⟨⟨p, q⟩, l⟩; exact ⟨⟨p, l⟩, q⟩
  · rintro ⟨⟨p, l⟩, q⟩; exact ⟨⟨p, q⟩, l⟩
theorem iso_least {R : Nat → Nat → Prop} (a : Nat) : Least (isoR R a) a := fun j hj r => by
  rcases r with r | ⟨_, r, _⟩
  · omega
  · exact r rfl
theorem cls_iso_yes {n : Nat} {R : Nat → Nat → Prop} {P : Nat → Prop} (h : Eqv n R) (hP : ∀ i j, i < n → j < n → R i j → P i → P j) {a y : Nat} (ha : a < n) (pa : P a) (hy : y < n) (hya : y ≠ a) (r : R a y) :
    cls (isoR R a) (fun i => P i ∧ i ≠ a) n = cls R P n := by
  have e1 := cls_less (R := isoR R a) (P := P) ha pa (iso_least a)
  have e2 := cls_join (P := P) (isoR.eqv h a) (fun i j hi hj r p => by
    rcases r with r | ⟨_, _, r⟩
    · subst r; exact p
    · exact hP i j hi hj r p) ha hy pa (hP a y ha hy r pa) (by
    rintro (q | ⟨q, _⟩)
    · exact hya q.symm
    · exact q rfl)
  have e3 : cls (joinR (isoR R a) a y) P n = cls R P n := by
    apply cls_congr
    intro i j hi hj _
    constructor
    · rintro ((q | ⟨_, _, q⟩) | ⟨q | ⟨_, q, _⟩, q' | ⟨_, _, q'⟩⟩ | ⟨q | ⟨_, _, q⟩, q' | ⟨q', _⟩⟩)
      · subst q; exact h.refl i hi
      · exact q
      · subst q; subst q'; exact r
      · subst q; exact h.trans i y j hi hy hj r q'
      · exact absurd rfl q
      · exact absurd rfl q
      · subst q; subst q'; exact h.symm _ _ hj hi r
      · exact absurd rfl q'
      · subst q'; exact h.trans i y a hi hy ha q (h.symm _ _ ha hy r)
      · exact absurd rfl q'
    · intro q
      by_cases ci : i = a
      · subst ci
        by_cases cj : j = i
        · exact .inl (.inl cj.symm)
        · by_cases cy : j = y
          · subst cy; exact .inr (.inl ⟨.inl rfl, .inl rfl⟩)
          · exact .inr (.inl ⟨.inl rfl, .inr ⟨hya, cj, h.trans y i j hy hi hj (h.symm _ _ hi hy r) q⟩⟩)
      · by_cases cj : j = a
        · subst cj
          exact .inr (.inr ⟨.inr ⟨ci, hya, h.trans i j y hi hj hy q r⟩, .inl rfl⟩)
        · exact .inl (.inr ⟨ci, cj, q⟩)
  rw [e3] at e2
  omega
theorem cls_iso_no {n : Nat} {R : Nat → Nat → Prop} {P : Nat → Prop} (h : Eqv n R) {a : Nat} (ha : a < n) (pa : P a) (r : ∀ y, y < n → R a y → y = a) :
    cls (isoR R a) (fun i => P i ∧ i ≠ a) n + 1 = cls R P n := by
  have e1 := cls_less (R := isoR R a) (P := P) ha pa (iso_least a)
  have e3 : cls (isoR R a) P n = cls R P n := by
    apply cls_congr
    intro i j hi hj _
    constructor
    · rintro (q | ⟨_, _, q⟩)
      · subst q; exact h.refl i hi
      · exact q
    · intro q
      by_cases ci : i = a
      · subst ci; exact .inl (r j hj q).symm
      · by_cases cj : j = a
        · subst cj; exact .inl (r i hi (h.symm _ _ hi hj q))
        · exact .inr ⟨ci, cj, q⟩
  omega
open Classical in
/-- Two taken out. -/
theorem cls_out2 {n : Nat} {R : Nat → Nat → Prop} (h : Eqv n R) {a c : Nat} (ha : a < n) (hc : c < n) (hac : a ≠ c) :
    cls (isoR (isoR R a) c) (fun i => (True ∧ i ≠ a) ∧ i ≠ c) n + (if ∃ y, y < n ∧ y ≠ a ∧ R a y then 0 else 1) + (if ∃ y, y < n ∧ y ≠ a ∧ y ≠ c ∧ R c y then 0 else 1) = cls R (fun _ => True) n := by
  have h1 : cls (isoR R a) (fun i => True ∧ i ≠ a) n + (if ∃ y, y < n ∧ y ≠ a ∧ R a y then 0 else 1) = cls R (fun _ => True) n := by
    split
    · next q => obtain ⟨y, q1, q2, q3⟩ := q; exact cls_iso_yes h (fun _ _ _ _ _ _ => trivial) ha trivial q1 q2 q3
    · next q => exact cls_iso_no h ha trivial fun y hy r => Classical.byContradiction fun q' => q ⟨y, hy, q', r⟩
  have hP : ∀ i j, i < n → j < n → isoR R a i j → (True ∧ i ≠ a) → (True ∧ j ≠ a) := fun i j _ _ r p => by
    rcases r with r | ⟨_, r, _⟩
    · subst r; exact p
    · exact ⟨trivial, r⟩
  have h2 : cls (isoR (isoR R a) c) (fun i => (True ∧ i ≠ a) ∧ i ≠ c) n + (if ∃ y, y < n ∧ y ≠ a ∧ y ≠ c ∧ R c y then 0 else 1) = cls (isoR R a) (fun i => True ∧ i ≠ a) n := by
    split
    · next q => obtain ⟨y, q1, q2, q3, q4⟩ := q; exact cls_iso_yes (isoR.eqv h a) hP hc ⟨trivial, fun e => hac e.symm⟩ q1 q3 (.inr ⟨fun e => hac e.symm, q2, q4⟩)
    · next q =>
      refine cls_iso_no (isoR.eqv h a) hc ⟨trivial, fun e => hac e.symm⟩ fun y hy r => Classical.byContradiction fun q' => ?_
      rcases r with r | ⟨r1, r2, r3⟩
      · exact q' r.symm
      · exact q ⟨y, hy, r2, q', r3⟩
  omega
section
variable {l b : List Nat}
/-- One step around the vertex, the edge e left out. -/
def sk (l : List Nat) (e d : Nat) : Nat := outN l e (l.getD d 0)
theorem sk_lt (h : Inv l b) (e : Nat) {d : Nat} (hd : d < l.length) : sk l e d < l.length := out_lt h (fun k hk => h.lt k hk) (h.lt d hd)
theorem sk_orb (l : List Nat) (e d : Nat) : ∃ t, itf (sgL l) t d = sk l e d := by
  unfold sk outN
  split
  · exact ⟨1, rfl⟩
  · split
    · exact ⟨2, rfl⟩
    · exact ⟨3, rfl⟩
theorem orb_sk (h : Inv l b) {e : Nat} (he : e < l.length / 2) : ∀ t d d', d < l.length → d / 2 ≠ e → d' / 2 ≠ e → itf (sgL l) t d = d' → ∃ s, itf (sk l e) s d = d' := by
  intro t
  induction t using Nat.strongRecOn with
  | ind t ih =>
    intro d d' hd cd cd' q
    have ho := out_s h hd cd he
    have hlt := sk_lt h e hd
    have go : ∀ t', t' < t → itf (sgL l) t' (sk l e d) = d' → ∃ s, itf (sk l e) s d = d' := fun t' ht q' => by
      obtain ⟨s, hs⟩ := ih t' ht (sk l e d) d' hlt ho cd' q'
      exact ⟨s + 1, by rw [itf_succ]; exact hs⟩
    match t, q with
    | 0, q => exact ⟨0, q⟩
    | t + 1, q =>
      rw [itf_succ] at q
      by_cases c1 : sgL l d / 2 = e
      · match t, q with
        | 0, q => exact absurd c1 (by rw [show sgL l d = d' from q]; exact cd')
        | t + 1, q =>
          rw [itf_succ] at q
          by_cases c2 : sgL l (sgL l d) / 2 = e
          · match t, q with
            | 0, q => exact absurd c2 (by rw [show sgL l (sgL l d) = d' from q]; exact cd')
            | t + 1, q =>
              rw [itf_succ] at q
              refine go t (by omega) ?_
              have : sk l e d = sgL l (sgL l (sgL l d)) := by unfold sk outN; rw [if_neg (fun x => x c1), if_neg (fun x => x c2)]; rfl
              rw [this]; exact q
          · refine go t (by omega) ?_
            have : sk l e d = sgL l (sgL l d) := by unfold sk outN; rw [if_neg (fun x => x c1), if_pos (show l.getD (l.getD d 0) 0 / 2 ≠ e from c2)]; rfl
            rw [this]; exact q
      · refine go t (by omega) ?_
        have : sk l e d = sgL l d := by unfold sk outN; rw [if_pos (show l.getD d 0 / 2 ≠ e from c1)]; rfl
        rw [this]; exact q
theorem unN_lt {e j n : Nat} (hE : 2 * e + 2 ≤ n) (hj : j < n - 2) : unN e j < n := by unfold unN; split <;> omega
theorem un_step (h : Inv l b) {e j : Nat} (hE : 2 * e + 2 ≤ l.length) (hj : j < l.length - 2) : unN e (sgL (woN l l e) j) = sk l e (unN e j) ∧ sgL (woN l l e) j < l.length - 2 := by
  have hu := unN_lt hE hj
  have hn := (unN_is e j).1
  have ho := out_s h hu hn (show e < l.length / 2 by omega)
  unfold sgL
  rw [woN_get l l e j hE hj]
  exact ⟨calN_un e _ ho, calN_lt e _ _ ho (sk_lt h e hu) hE⟩
theorem un_it (h : Inv l b) {e : Nat} (hE : 2 * e + 2 ≤ l.length) {j : Nat} (hj : j < l.length - 2) : ∀ s, unN e (itf (sgL (woN l l e)) s j) = itf (sk l e) s (unN e j) ∧ itf (sgL (woN l l e)) s j < l.length - 2
  | 0 => ⟨rfl, hj⟩
  | s + 1 => by
    obtain ⟨e1, l1⟩ := un_it h hE hj s
    obtain ⟨e2, l2⟩ := un_step h hE l1
    exact ⟨by show unN e (sgL (woN l l e) _) = sk l e _; rw [e2, e1], l2⟩
theorem un_inj {e i j : Nat} (q : unN e i = unN e j) : i = j := by unfold unN at q; split at q <;> split at q <;> omega
theorem un_mono {e i j : Nat} (q : i < j) : unN e i < unN e j := by unfold unN; split <;> split <;> omega
theorem sk_it_orb (h : Inv l b) (e : Nat) {d : Nat} (hd : d < l.length) : ∀ s, ∃ t, itf (sgL l) t d = itf (sk l e) s d
  | 0 => ⟨0, rfl⟩
  | s + 1 => by
    obtain ⟨t, ht⟩ := sk_it_orb h e hd s
    obtain ⟨u, hu⟩ := sk_orb l e (itf (sk l e) s d)
    exact ⟨u + t, by rw [itf_add, ht, hu]; rfl⟩
theorem cut_orb (h : Inv l b) {e : Nat} (hE : 2 * e + 2 ≤ l.length) {j k : Nat} (hj : j < l.length - 2) (hk : k < l.length - 2) : Orb (sgL (woN l l e)) j k ↔ Orb (sgL l) (unN e j) (unN e k) := by
  constructor
  · rintro ⟨s, hs⟩
    obtain ⟨t, ht⟩ := sk_it_orb h e (unN_lt hE hj) s
    refine ⟨t, ?_⟩
    rw [ht, ← (un_it h hE hj s).1, hs]
  · rintro ⟨t, ht⟩
    obtain ⟨s, hs⟩ := orb_sk h (show e < l.length / 2 by omega) t _ _ (unN_lt hE hj) (unN_is e j).1 (unN_is e k).1 ht
    refine ⟨s, un_inj (e := e) ?_⟩
    rw [(un_it h hE hj s).1, hs]
theorem cls_num (R : Nat → Nat → Prop) (P : Nat → Prop) (n : Nat) : cls R P n = num (fun d => P d ∧ Least R d) n := by
  unfold cls num
  congr 1
  apply List.filter_congr
  intro d _
  rw [decide_eq_decide]
open Classical in
theorem cut_cls (h : Inv l b) {e : Nat} (hE : 2 * e + 2 ≤ l.length) :
    cls (Orb (sgL (woN l l e))) (fun _ => True) (l.length - 2) = cls (isoR (isoR (Orb (sgL l)) (2 * e)) (2 * e + 1)) (fun i => (True ∧ i ≠ 2 * e) ∧ i ≠ 2 * e + 1) l.length := by
  have hc : cntE e l.length = l.length - 2 := by unfold cntE; rw [if_neg (by omega), if_neg (by omega)]
  have e1 : num (fun i => ((True ∧ i ≠ 2 * e) ∧ i ≠ 2 * e + 1) ∧ Least (isoR (isoR (Orb (sgL l)) (2 * e)) (2 * e + 1)) i) l.length = (((List.range l.length).filter (fun d => decide (d / 2 ≠ e))).filter (fun i => decide (Least (isoR (isoR (Orb (sgL l)) (2 * e)) (2 * e + 1)) i))).length := by
    unfold num
    rw [List.filter_filter]
    congr 1
    apply List.filter_congr
    intro i _
    rw [← Bool.decide_and, decide_eq_decide]
    constructor
    · rintro ⟨⟨⟨_, a⟩, c⟩, q⟩; exact ⟨q, by omega⟩
    · rintro ⟨q, a⟩; exact ⟨⟨⟨trivial, by omega⟩, by omega⟩, q⟩
  rw [cls_num, cls_num]
  unfold num at e1 ⊢
  rw [e1, filt_un, List.filter_map, List.length_map, hc]
  congr 1
  apply List.filter_congr
  intro j hj
  have hj : j < l.length - 2 := by simpa using hj
  rw [Bool.eq_iff_iff]
  simp only [Function.comp_apply, decide_eq_true_eq]
  have hn := (unN_is e j).1
  constructor
  · rintro ⟨_, H⟩ i hi r
    rcases r with r | ⟨r1, r2, r | ⟨r3, r4, r5⟩⟩
    · omega
    · omega
    · have ci : i / 2 ≠ e := by omega
      have := unN_lt hE hj
      have hil : i < l.length := by omega
      have hcl := calN_lt e i l.length ci hil hE
      have hcu := calN_un e i ci
      have hlt : calN e i < j := by
        rcases Nat.lt_or_ge (calN e i) j with c | c
        · exact c
        · rcases Nat.lt_or_ge j (calN e i) with c' | c'
          · have := un_mono (e := e) c'; omega
          · have : calN e i = j := by omega
            rw [this] at hcu; omega
      exact H _ hlt ((cut_orb h hE hcl hj).2 (by rw [hcu]; exact r5))
  · intro H
    refine ⟨trivial, fun j' hj' r => H (unN e j') (un_mono hj') ?_⟩
    have hn' := (unN_is e j').1
    exact .inr ⟨by omega, by omega, .inr ⟨by omega, by omega, (cut_orb h hE (by omega) hj).1 r⟩⟩
theorem orb_name (h : Inv l b) {i j : Nat} (hi : i < l.length) (o : Orb (sgL l) i j) : nameOf l j = nameOf l i := by
  obtain ⟨t, ht⟩ := o
  have hm : j ∈ orb l i := (mem_orb h hi).2 ⟨t, by rw [← sgL_it]; exact ht⟩
  unfold nameOf
  rw [lead_of_mem h hi hm]
theorem num_less {n a : Nat} {Q : Nat → Prop} (ha : a < n) (q : Q a) : num (fun i => Q i ∧ i ≠ a) n + 1 = num Q n := by
  unfold num
  exact @filter_less (List.range n) (List.nodup_range) Q (fun i => Q i ∧ i ≠ a) (fun _ => Classical.propDecidable _) (fun _ => Classical.propDecidable _) a (by simpa using ha) q fun i _ => Iff.rfl
theorem num_none {n : Nat} {Q : Nat → Prop} : num Q n = 0 ↔ ∀ y, y < n → ¬ Q y := by
  refine ⟨fun h y hy q => ?_, fun h => num_zero h⟩
  have := num_less hy q
  omega
theorem deg_num (h : Inv l b) (lone : Int) (hl : 0 ≤ lone) {a : Nat} (ha : a < l.length) : degOf l lone (nameOf l a : Nat) = (num (fun i => Orb (sgL l) a i) l.length : Nat) := by
  have hm := name_met h ha ha
  have hs : (sizes l).length = met l l.length := by unfold sizes; rw [sizesTo_len]
  unfold degOf
  rw [if_neg (by omega), if_neg (by omega), Int.toNat_natCast]
  unfold sizes
  rw [sizesTo_get _ _ _ _ hm]
  congr 1
  unfold cntN num
  congr 1
  apply List.filter_congr
  intro i hi
  have hi : i < l.length := by simpa using hi
  rw [decide_eq_decide]
  exact ⟨fun q => name_orb h ha hi q.symm, fun q => orb_name h ha q⟩
theorem zerTo_one (x : Int) : zerTo [x] 1 = if x = 0 then 1 else 0 := by
  have z0 : zerTo [x] 0 = 0 := rfl
  split
  · next q => rw [zerTo_yes _ 0 (by exact q), z0]
  · next q => rw [zerTo_no _ 0 (by exact q), z0]
theorem zerTo_two (x y : Int) : zerTo [x, y] 2 = (if x = 0 then 1 else 0) + if y = 0 then 1 else 0 := by
  have z0 : zerTo [x, y] 0 = 0 := rfl
  have z1 : zerTo [x, y] 1 = if x = 0 then 1 else 0 := by
    split
    · next q => rw [zerTo_yes _ 0 (by exact q), z0]
    · next q => rw [zerTo_no _ 0 (by exact q), z0]
  split
  · next q =>
    rw [if_pos q] at z1
    split
    · next p => rw [zerTo_yes _ 1 (by exact p), z1]
    · next p => rw [zerTo_no _ 1 (by exact p), z1]
  · next q =>
    rw [if_neg q] at z1
    split
    · next p => rw [zerTo_yes _ 1 (by exact p), z1]
    · next p => rw [zerTo_no _ 1 (by exact p), z1]
open Classical in
/-- Without an edge there are as many vertices: those that lose all their darts are lone. -/
theorem cut_verts (h : Inv l b) {b' : List Nat} {e : Nat} (hE : 2 * e + 2 ≤ l.length) (h' : Inv (woN l l e) b') (lone : Int) (hl : 0 ≤ lone) :
    metB (woN l l e) + zerTo (besN l lone e) (besN l lone e).length = metB l := by
  have hq := (sgL_pf h).eqv
  have hwl := woN_len l l e hE
  have ha : 2 * e < l.length := by omega
  have hc : 2 * e + 1 < l.length := by omega
  have k1 := leads_cls h'
  rw [hwl, cut_cls h hE] at k1
  have k2 := cls_out2 hq ha hc (by omega)
  rw [leads_cls h, k1] at k2
  have na := num_less (Q := fun i => Orb (sgL l) (2 * e) i) ha (hq.refl _ ha)
  have nc := num_less (Q := fun i => Orb (sgL l) (2 * e + 1) i) hc (hq.refl _ hc)
  have da := deg_num h lone hl ha
  have dc := deg_num h lone hl hc
  unfold besN
  by_cases q : nameOf l (2 * e) = nameOf l (2 * e + 1)
  · have o := name_orb h ha hc q
    rw [if_pos q]
    have nac := num_less (Q := fun i => Orb (sgL l) (2 * e) i ∧ i ≠ 2 * e) hc ⟨o, by omega⟩
    rw [if_pos ⟨2 * e + 1, hc, by omega, o⟩] at k2
    show _ + zerTo _ 1 = _
    rw [zerTo_one, da]
    have hn := num_none (n := l.length) (Q := fun i => (Orb (sgL l) (2 * e) i ∧ i ≠ 2 * e) ∧ i ≠ 2 * e + 1)
    by_cases z : num (fun i => (Orb (sgL l) (2 * e) i ∧ i ≠ 2 * e) ∧ i ≠ 2 * e + 1) l.length = 0
    · have := hn.1 z
      rw [if_neg (fun ⟨y, y1, y2, y3, y4⟩ => this y y1 ⟨⟨hq.trans _ _ _ ha hc y1 o y4, y2⟩, y3⟩)] at k2
      rw [if_pos (by omega)]
      omega
    · have : ∃ y, y < l.length ∧ y ≠ 2 * e ∧ y ≠ 2 * e + 1 ∧ Orb (sgL l) (2 * e + 1) y := Classical.byContradiction fun hx => z (hn.2 fun y hy ⟨⟨y1, y2⟩, y3⟩ => hx ⟨y, hy, y2, y3, hq.trans _ _ _ hc ha hy (hq.symm _ _ ha hc o) y1⟩)
      rw [if_pos this] at k2
      rw [if_neg (by omega)]
      omega
  · have o : ¬ Orb (sgL l) (2 * e) (2 * e + 1) := fun o => q (orb_name h ha o).symm
    rw [if_neg q]
    show _ + zerTo _ 2 = _
    rw [zerTo_two, da, dc]
    have hna := num_none (n := l.length) (Q := fun i => Orb (sgL l) (2 * e) i ∧ i ≠ 2 * e)
    have hnc := num_none (n := l.length) (Q := fun i => Orb (sgL l) (2 * e + 1) i ∧ i ≠ 2 * e + 1)
    have s1 : (if ∃ y, y < l.length ∧ y ≠ 2 * e ∧ Orb (sgL l) (2 * e) y then 0 else 1) = (if ((num (fun i => Orb (sgL l) (2 * e) i) l.length : Nat) : Int) - 1 = 0 then 1 else 0) := by
      by_cases z : num (fun i => Orb (sgL l) (2 * e) i ∧ i ≠ 2 * e) l.length = 0
      · have := hna.1 z
        rw [if_neg (fun ⟨y, y1, y2, y3⟩ => this y y1 ⟨y3, y2⟩), if_pos (by omega)]
      · have : ∃ y, y < l.length ∧ y ≠ 2 * e ∧ Orb (sgL l) (2 * e) y := Classical.byContradiction fun hx => z (hna.2 fun y hy ⟨y1, y2⟩ => hx ⟨y, hy, y2, y1⟩)
        rw [if_pos this, if_neg (by omega)]
    have s2 : (if ∃ y, y < l.length ∧ y ≠ 2 * e ∧ y ≠ 2 * e + 1 ∧ Orb (sgL l) (2 * e + 1) y then 0 else 1) = (if ((num (fun i => Orb (sgL l) (2 * e + 1) i) l.length : Nat) : Int) - 1 = 0 then 1 else 0) := by
      by_cases z : num (fun i => Orb (sgL l) (2 * e + 1) i ∧ i ≠ 2 * e + 1) l.length = 0
      · have := hnc.1 z
        rw [if_neg (fun ⟨y, y1, y2, y3, y4⟩ => this y y1 ⟨y4, y3⟩), if_pos (by omega)]
      · have : ∃ y, y < l.length ∧ y ≠ 2 * e ∧ y ≠ 2 * e + 1 ∧ Orb (sgL l) (2 * e + 1) y := Classical.byContradiction fun hx => z (hnc.2 fun y hy ⟨y1, y2⟩ => hx ⟨y, hy, (fun c => o (hq.symm _ _ hc ha (by rw [c] at y1; exact y1))), y2, y1⟩)
        rw [if_pos this, if_neg (by omega)]
    rw [s1, s2] at k2
    omega
/-- The first one in S behind x. -/
def Fst (f : Nat → Nat) (S : Nat → Prop) (x y : Nat) : Prop := ∃ t, 1 ≤ t ∧ itf f t x = y ∧ S y ∧ ∀ s, 1 ≤ s → s < t → ¬ S (itf f s x)
theorem Fst.uniq {f : Nat → Nat} {S : Nat → Prop} {x y z : Nat} (a : Fst f S x y) (b : Fst f S x z) : y = z := by
  obtain ⟨t, t1, t2, t3, t4⟩ := a
  obtain ⟨u, u1, u2, u3, u4⟩ := b
  rcases Nat.lt_trichotomy t u with c | c | c
  · exact absurd (by rw [t2]; exact t3) (u4 t t1 c)
  · rw [← t2, ← u2, c]
  · exact absurd (by rw [u2]; exact u3) (t4 u u1 c)
theorem sk_fst (h : Inv l b) {e d : Nat} (he : e < l.length / 2) (hd : d < l.length) (cd : d / 2 ≠ e) : Fst (sgL l) (fun y => y / 2 ≠ e) d (sk l e d) := by
  have ho : sk l e d / 2 ≠ e := out_s h hd cd he
  by_cases c1 : l.getD d 0 / 2 = e
  · by_cases c2 : l.getD (l.getD d 0) 0 / 2 = e
    · have q : sk l e d = l.getD (l.getD (l.getD d 0) 0) 0 := by unfold sk outN; rw [if_neg (fun x => x c1), if_neg (fun x => x c2)]
      refine ⟨3, by omega, q.symm, ho, fun s s1 s2 => ?_⟩
      rcases (show s = 1 ∨ s = 2 by omega) with rfl | rfl
      · exact fun x => x c1
      · exact fun x => x c2
    · have q : sk l e d = l.getD (l.getD d 0) 0 := by unfold sk outN; rw [if_neg (fun x => x c1), if_pos c2]
      refine ⟨2, by omega, q.symm, ho, fun s s1 s2 => ?_⟩
      obtain rfl : s = 1 := by omega
      exact fun x => x c1
  · have q : sk l e d = l.getD d 0 := by unfold sk outN; rw [if_pos c1]
    exact ⟨1, by omega, q.symm, ho, fun s s1 s2 => by omega⟩
theorem Fst.trans {n : Nat} {f g : Nat → Nat} {S S' : Nat → Prop} (hg : ∀ x, x < n → S x → Fst f S x (g x) ∧ g x < n) :
    ∀ t x y, x < n → S x → 1 ≤ t → itf g t x = y → S' y → (∀ s, 1 ≤ s → s < t → ¬ S' (itf g s x)) → Fst f (fun y => S y ∧ S' y) x y
  | 0, x, y, hx, sx, h1, _, _, _ => by omega
  | t + 1, x, y, hx, sx, _, h2, h3, h4 => by
    obtain ⟨⟨u, u1, u2, u3, u4⟩, hgx⟩ := hg x hx sx
    rcases Nat.eq_zero_or_pos t with rfl | ht
    · have e : g x = y := h2
      exact ⟨u, u1, by rw [u2, e], ⟨by rw [← e]; exact u3, h3⟩, fun s s1 s2 c => u4 s s1 s2 c.1⟩
    · have hn : ¬ S' (g x) := h4 1 (by omega) (by omega)
      obtain ⟨v, v1, v2, v3, v4⟩ := Fst.trans hg t (g x) y hgx u3 ht (by rw [itf_succ] at h2; exact h2) h3 (fun s s1 s2 => by
        have := h4 (s + 1) (by omega) (by omega)
        rwa [itf_succ] at this)
      refine ⟨v + u, by omega, by rw [itf_add, u2]; exact v2, v3, fun s s1 s2 c => ?_⟩
      rcases Nat.lt_trichotomy s u with q | q | q
      · exact u4 s s1 q c.1
      · subst q; rw [u2] at c; exact hn c.2
      · have := v4 (s - u) (by omega) (by omega)
        rw [← u2, ← itf_add, show s - u + u = s by omega] at this
        exact this c
theorem un_un {i k j : Nat} (h : i < k) : unN k (unN i j) = unN i (unN (k - 1) j) := by
  unfold unN
  repeat' split
  all_goals omega
/-- Behind an edge that was cut out, a second one: the first dart of neither. -/
theorem sk_two (h : Inv l b) {b' : List Nat} {k i q : Nat} (hk : 2 * k + 2 ≤ l.length) (h' : Inv (woN l l k) b') (hi : 2 * i + 2 ≤ l.length - 2) (hq : ∀ d, unN k d / 2 = q ↔ d / 2 = i) {j : Nat} (hj : j < l.length - 4) :
    Fst (sgL l) (fun y => y / 2 ≠ k ∧ y / 2 ≠ q) (unN k (unN i j)) (unN k (unN i ((woN (woN l l k) (woN l l k) i).getD j 0))) := by
  have hwl := woN_len l l k hk
  have hu : unN i j < l.length - 2 := unN_lt hi (by omega)
  have hn := (unN_is i j).1
  have hf := sk_fst h' (e := i) (by rw [hwl]; omega) (by rw [hwl]; exact hu) hn
  have hs := (un_step h' (e := i) (j := j) (by rw [hwl]; exact hi) (by rw [hwl]; omega)).1
  unfold sgL at hs
  rw [hs]
  generalize sk (woN l l k) i (unN i j) = y at hf
  obtain ⟨t, t1, t2, t3, t4⟩ := hf
  refine Fst.trans (n := l.length) (S := fun y => y / 2 ≠ k) (S' := fun y => y / 2 ≠ q) (g := sk l k) (fun x hx sx => ⟨sk_fst h (by omega) hx sx, sk_lt h k hx⟩) t _ _ (unN_lt hk hu) (unN_is k _).1 t1 ?_ (fun c => t3 ((hq _).1 c)) fun s s1 s2 c => ?_
  · rw [← (un_it h hk hu t).1, t2]
  · rw [← (un_it h hk hu s).1] at c
    exact t4 s s1 s2 fun c' => c ((hq _).2 c')
/-- Two edges cut out: in any order it is the same. -/
theorem cut_swap (h : Inv l b) {i k : Nat} (hik : i < k) (hk : 2 * k + 2 ≤ l.length) : woN (woN l l k) (woN l l k) i = woN (woN l l i) (woN l l i) (k - 1) := by
  obtain ⟨b1, h1⟩ := cut_inv h hk
  obtain ⟨b2, h2⟩ := cut_inv h (show 2 * i + 2 ≤ l.length by omega)
  have l1 := woN_len l l k hk
  have l2 := woN_len l l i (by omega)
  have l3 := woN_len (woN l l k) (woN l l k) i (by omega)
  have l4 := woN_len (woN l l i) (woN l l i) (k - 1) (by omega)
  apply List.ext_getElem (by omega)
  intro j hj1 hj2
  have hj : j < l.length - 4 := by omega
  have f1 := sk_two h hk h1 (i := i) (q := i) (by omega) (fun d => by unfold unN; split <;> omega) hj
  have f2 := sk_two h (show 2 * i + 2 ≤ l.length by omega) h2 (i := k - 1) (q := k) (by omega) (fun d => by unfold unN; split <;> omega) hj
  have f3 : Fst (sgL l) (fun y => y / 2 ≠ k ∧ y / 2 ≠ i) (unN k (unN i j)) (unN i (unN (k - 1) ((woN (woN l l i) (woN l l i) (k - 1)).getD j 0))) := by
    obtain ⟨t, t1, t2, t3, t4⟩ := f2
    rw [un_un hik]
    exact ⟨t, t1, t2, ⟨t3.2, t3.1⟩, fun s s1 s2 c => t4 s s1 s2 ⟨c.2, c.1⟩⟩
  have e := f1.uniq f3
  rw [← un_un hik] at e
  have e2 := un_inj (un_inj e)
  simpa [List.getD_eq_getElem?_getD, List.getElem?_eq_getElem hj1, List.getElem?_eq_getElem hj2] using e2
/-- Mirrored, and dual, in any order it is as many vertices. -/
theorem dm_verts (h : Inv l b) (he : l.length % 2 = 0) : metB (phiL b) = metB (phiB l b) := by
  have hp := phi_inv h he
  have hl := phiL_len l
  have hbl : b.length = l.length := h.len
  have hpb := phi_inv h.symm (by rw [hbl]; exact he)
  have hp1 : Inv (phiL b) (phiB b l) := hpb
  have e1 : metB (phiB l b) = metB (phiL l) := by
    rw [← sizes_is hp.symm, ← sizes_is hp]; exact sizes_both hp
  have half : ∀ {l b : List Nat}, Inv l b → l.length % 2 = 0 → metB (phiL b) ≤ metB (phiL l) := fun {l b} h he => by
    have hp := phi_inv h he
    have hl := phiL_len l
    have hbl : b.length = l.length := h.len
    have hpb := phi_inv h.symm (by rw [hbl]; exact he)
    have k1 := leads_cls hp
    have k2 := leads_cls hpb
    rw [phiL_len] at k1 k2
    rw [hbl] at k2
    rw [← k1, ← k2]
    have hq := (sgL_pf hp).eqv
    rw [hl] at hq
    have tw := cls_twist (n := l.length) (P := fun _ => True) hq mt (fun i hi => mt_lt (m := l.length / 2) (by omega) hi) (fun i _ => mt_mt i) (fun _ _ => Iff.rfl) (fun _ _ _ _ _ => Iff.rfl)
    have c1 : cls (Orb (sgL (phiL b))) (fun _ => True) l.length = cls (fun i j => Orb (sgL (phiL l)) (mt i) (mt j)) (fun _ => True) l.length := cls_congr fun i j hi hj _ => phi_orb h he hi hj
    rw [c1]
    have n1 : ∀ R, cls R (fun _ => True) l.length = num (fun d => True ∧ Least R d) l.length := fun R => by
      unfold cls num
      congr 1
      apply List.filter_congr
      intro d _
      rw [decide_eq_decide]
    rw [n1, n1]
    exact tw
  rw [e1]
  have a1 := half h he
  have a2 := half h.symm (by rw [hbl]; exact he)
  omega
end
end Go.Proofs.Ythdmkcnclmgdlaa
namespace Go.Proofs.Ythdmkcnclmgdlaa
set_option maxRecDepth 100000
open Go.RowKit
set_option linter.unusedVariables false
/-- A list without the darts of the edge e. -/
def fltE (e : Nat) (L : List Nat) : List Nat := L.filter fun x => decide (x / 2 ≠ e)
theorem take_snocE (L : List Nat) {k : Nat} (h : k < L.length) : L.take (k + 1) = L.take k ++ [L.getD k 0] := by
  rw [List.take_add_one, List.getD_eq_getElem?_getD, List.getElem?_eq_getElem h]; rfl
theorem fltE_yes (e : Nat) (L : List Nat) {k : Nat} (h : k < L.length) (c : L.getD k 0 / 2 ≠ e) : fltE e (L.take (k + 1)) = fltE e (L.take k) ++ [L.getD k 0] := by
  unfold fltE; rw [take_snocE L h, List.filter_append, List.filter_cons_of_pos (by rw [decide_eq_true_iff]; exact c)]; rfl
theorem fltE_no (e : Nat) (L : List Nat) {k : Nat} (h : k < L.length) (c : L.getD k 0 / 2 = e) : fltE e (L.take (k + 1)) = fltE e (L.take k) := by
  unfold fltE; rw [take_snocE L h, List.filter_append, List.filter_cons_of_neg (by rw [decide_eq_true_iff]; exact fun h => h c)]; simp
theorem orb_leF {l b : List Nat} (h : Inv l b) {i : Nat} (hi : i < l.length) : (orb l i).length ≤ l.length := by
  unfold orb; rw [way_len]; exact per_le h hi
end Go.Proofs.Ythdmkcnclmgdlaa
namespace Go.Proofs.Ythdmkcnclmgdlaa
set_option maxRecDepth 20000
open Go.RowKit
set_option linter.unusedVariables false
/-- The one behind the i-th, around. -/
def nxt (v : List Nat) (i : Nat) : Nat := if i + 1 < v.length then v.getD (i + 1) 0 else v.getD 0 0
/-- Around the list goes f. -/
def CycU (f : Nat → Nat) (O : List Nat) : Prop := ∀ i, i < O.length → nxt O i = f (O.getD i 0)
theorem CycU.it {f : Nat → Nat} {O : List Nat} (h : CycU f O) {a : Nat} (ha : a < O.length) : ∀ s, itf f s (O.getD a 0) = O.getD ((a + s) % O.length) 0
  | 0 => by rw [Nat.add_zero, Nat.mod_eq_of_lt ha]; rfl
  | s + 1 => by
    have ih := h.it ha s
    have hlt : (a + s) % O.length < O.length := Nat.mod_lt _ (by omega)
    show f (itf f s (O.getD a 0)) = _
    rw [ih, ← h _ hlt]
    unfold nxt
    have hm : (a + (s + 1)) % O.length = ((a + s) % O.length + 1) % O.length := by rw [← Nat.add_assoc, Nat.mod_add_mod]
    rw [hm]
    by_cases c : (a + s) % O.length + 1 < O.length
    · rw [if_pos c, Nat.mod_eq_of_lt c]
    · rw [if_neg c]
      have : (a + s) % O.length + 1 = O.length := by omega
      rw [this, Nat.mod_self]
theorem filter_split (S : Nat → Bool) : ∀ (O : List Nat) (i : Nat), i < (O.filter S).length → ∃ A x B, O = A ++ x :: B ∧ (A.filter S).length = i ∧ S x = true ∧ (O.filter S).getD i 0 = x
  | [], i, h => by simp at h
  | y :: O, i, h => by
    by_cases c : S y = true
    · rw [List.filter_cons_of_pos c] at h ⊢
      cases i with
      | zero => exact ⟨[], y, O, rfl, rfl, c, rfl⟩
      | succ i =>
        obtain ⟨A, x, B, e1, e2, e3, e4⟩ := filter_split S O i (by simpa using h)
        exact ⟨y :: A, x, B, by rw [e1]; rfl, by rw [List.filter_cons_of_pos c, List.length_cons, e2], e3, by simpa using e4⟩
    · rw [List.filter_cons_of_neg c] at h ⊢
      obtain ⟨A, x, B, e1, e2, e3, e4⟩ := filter_split S O i h
      exact ⟨y :: A, x, B, by rw [e1]; rfl, by rw [List.filter_cons_of_neg c, e2], e3, e4⟩
theorem filter_head (S : Nat → Bool) : ∀ (R : List Nat) (y : Nat) (T : List Nat), R.filter S = y :: T → ∃ k, k < R.length ∧ R.getD k 0 = y ∧ S y = true ∧ ∀ j, j < k → ¬ S (R.getD j 0) = true
  | [], y, T, h => by simp at h
  | z :: R, y, T, h => by
    by_cases c : S z = true
    · rw [List.filter_cons_of_pos c] at h
      cases h
      exact ⟨0, by simp, rfl, c, fun j hj => by omega⟩
    · rw [List.filter_cons_of_neg c] at h
      obtain ⟨k, h1, h2, h3, h4⟩ := filter_head S R y T h
      refine ⟨k + 1, by simpa using h1, by simpa using h2, h3, fun j hj => ?_⟩
      cases j with
      | zero => simpa using c
      | succ j => simpa using h4 j (by omega)
/-- Of a filtered row the one behind another is the first that is left, going on by f. -/
theorem CycU.fst {f : Nat → Nat} {O : List Nat} (h : CycU f O) (S : Nat → Bool) {i : Nat} (hi : i < (O.filter S).length) : Fst f (fun y => S y = true) ((O.filter S).getD i 0) (nxt (O.filter S) i) := by
  obtain ⟨A, x, B, e1, e2, e3, e4⟩ := filter_split S O i hi
  have hn : O.length = A.length + 1 + B.length := by rw [e1]; simp; omega
  have ha : A.length < O.length := by omega
  have hx : O.getD A.length 0 = x := by rw [e1]; simp [List.getD_eq_getElem?_getD]
  have hit := h.it ha
  rw [hx] at hit
  have hR : ∀ j, j < O.length → (B ++ (A ++ [x])).getD j 0 = itf f (j + 1) x := fun j hj => by
    rw [hit]
    by_cases c : j < B.length
    · rw [Nat.mod_eq_of_lt (by omega), e1]
      simp only [List.getD_eq_getElem?_getD]
      rw [List.getElem?_append_left c, List.getElem?_append_right (by omega), show A.length + (j + 1) - A.length = j + 1 by omega, List.getElem?_cons_succ]
    · have hm : (A.length + (j + 1)) % O.length = j - B.length := by
        rw [show A.length + (j + 1) = (j - B.length) + O.length by omega, Nat.add_mod_right, Nat.mod_eq_of_lt (by omega)]
      rw [hm]
      simp only [List.getD_eq_getElem?_getD]
      rw [List.getElem?_append_right (by omega)]
      generalize hk : j - B.length = k
      rw [e1]
      by_cases d : k < A.length
      · rw [List.getElem?_append_left d, List.getElem?_append_left d]
      · obtain rfl : k = A.length := by omega
        simp
  have hv : O.filter S = A.filter S ++ x :: B.filter S := by rw [e1, List.filter_append, List.filter_cons_of_pos e3]
  have hfl : ∃ T, (B ++ (A ++ [x])).filter S = nxt (O.filter S) i :: T := by
    rw [List.filter_append, List.filter_append, List.filter_cons_of_pos e3, List.filter_nil]
    unfold nxt
    rw [hv]
    cases hB : B.filter S with
    | nil =>
      rw [if_neg (by simp; omega)]
      cases hA : A.filter S with
      | nil => exact ⟨[], rfl⟩
      | cons a T => exact ⟨T ++ [x], rfl⟩
    | cons y T =>
      rw [if_pos (by simp; omega)]
      refine ⟨T ++ (A.filter S ++ [x]), ?_⟩
      rw [← e2]
      simp [List.getD_eq_getElem?_getD]
  obtain ⟨T, hT⟩ := hfl
  obtain ⟨k, k1, k2, k3, k4⟩ := filter_head S _ _ _ hT
  have hl : (B ++ (A ++ [x])).length = O.length := by rw [hn]; simp; omega
  rw [hl] at k1
  rw [e4]
  refine ⟨k + 1, by omega, by rw [← hR k k1]; exact k2, k3, fun s hs1 hs2 => ?_⟩
  have := k4 (s - 1) (by omega)
  rw [hR (s - 1) (by omega), show s - 1 + 1 = s by omega] at this
  exact this
section
variable {l b : List Nat}
/-- Around a vertex goes l. -/
theorem orb_cyc (h : Inv l b) {d : Nat} (hd : d < l.length) : CycU (sgL l) (orb l d) := by
  intro i hi
  have hl : (orb l d).length = per l d := by unfold orb; exact way_len _ _ _
  rw [hl] at hi
  have hg : ∀ k, k < per l d → (orb l d).getD k 0 = it l k d := fun k hk => by
    unfold orb; exact way_get l d _ k hk
  unfold nxt
  rw [hl, hg i hi]
  by_cases c : i + 1 < per l d
  · rw [if_pos c, hg _ c]; rfl
  · rw [if_neg c, hg 0 (by omega)]
    have hp := (per_is h hd).2.1
    have : i + 1 = per l d := by omega
    rw [← this] at hp
    exact hp.symm
/-- The darts of a vertex without the edge's: behind each stands the next one that is left. -/
theorem flt_cut (h : Inv l b) {e d : Nat} (he : e < l.length / 2) (hd : d < l.length) {i : Nat} (hi : i < (fltE e (orb l d)).length) :
    nxt (fltE e (orb l d)) i = sk l e ((fltE e (orb l d)).getD i 0) := by
  have hf := (orb_cyc h hd).fst (fun x => decide (x / 2 ≠ e)) hi
  have hm : (fltE e (orb l d)).getD i 0 ∈ fltE e (orb l d) := by
    rw [List.getD_eq_getElem?_getD, List.getElem?_eq_getElem hi]; exact List.getElem_mem hi
  have hm2 := List.mem_filter.1 hm
  have hx : (fltE e (orb l d)).getD i 0 < l.length := by
    obtain ⟨t, ht⟩ := (mem_orb h hd).1 hm2.1
    rw [← ht]; exact it_lt h hd t
  have hk := sk_fst h he hx (by simpa using hm2.2)
  obtain ⟨t, t1, t2, t3, t4⟩ := hf
  refine Fst.uniq (f := sgL l) (S := fun y => y / 2 ≠ e) ⟨t, t1, t2, of_decide_eq_true t3, fun s s1 s2 c => t4 s s1 s2 (decide_eq_true c)⟩ hk
end
end Go.Proofs.Ythdmkcnclmgdlaa
