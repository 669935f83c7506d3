/- A map turned the other way: mathematics. A map by other names: mathematics. -/
import Derived.Test.YthdmkcnclmgdlaaZEGenR
namespace Go.Proofs.Ythdmkcnclmgdlaa
set_option maxRecDepth 20000
open Go.RowKit
set_option linter.unusedVariables false
/-- A predicate on numbers that is taken into another one without two going to one has no more. -/
theorem num_inj {A B : Nat → Prop} {n : Nat} (f : Nat → Nat) (hf : ∀ x, x < n → A x → f x < n ∧ B (f x)) (hi : ∀ x y, x < n → y < n → A x → A y → f x = f y → x = y) : num A n ≤ num B n := by
  have key : ∀ k, k ≤ n → num A k = num (fun y => B y ∧ ∃ x, x < k ∧ A x ∧ f x = y) n := fun k => by
    induction k with
    | zero =>
      intro _
      have : num (fun y => B y ∧ ∃ x, x < 0 ∧ A x ∧ f x = y) n = 0 := num_zero fun d _ ⟨_, x, hx, _⟩ => by omega
      rw [this]; rfl
    | succ k ih =>
      intro hk
      have ih' := ih (by omega)
      by_cases a : A k
      · rw [(num_next A k).1 a, ih']
        obtain ⟨h1, h2⟩ := hf k (by omega) a
        unfold num
        refine @filter_less (List.range n) (List.nodup_range) (fun y => B y ∧ ∃ x, x < k + 1 ∧ A x ∧ f x = y) (fun y => B y ∧ ∃ x, x < k ∧ A x ∧ f x = y) (fun _ => Classical.propDecidable _) (fun _ => Classical.propDecidable _) (f k) (by simpa using h1) ⟨h2, k, by omega, a, rfl⟩ fun i _ => ?_
        constructor
        · rintro ⟨b, x, hx, ax, e⟩
          refine ⟨⟨b, x, by omega, ax, e⟩, fun c => ?_⟩
          have := hi x k (by omega) (by omega) ax a (by rw [e, c])
          omega
        · rintro ⟨⟨b, x, hx, ax, e⟩, hne⟩
          refine ⟨b, x, ?_, ax, e⟩
          rcases Nat.lt_or_ge x k with c | c
          · exact c
          · have : x = k := by omega
            subst this
            exact absurd e.symm hne
      · rw [(num_next A k).2 a, ih']
        exact num_congr fun y _ => ⟨fun ⟨b, x, hx, ax, e⟩ => ⟨b, x, by omega, ax, e⟩, fun ⟨b, x, hx, ax, e⟩ => by
          refine ⟨b, x, ?_, ax, e⟩
          rcases Nat.lt_or_ge x k with c | c
          · exact c
          · have : x = k := by omega
            subst this
            exact absurd ax a⟩
  rw [key n (Nat.le_refl _)]
  have : ∀ k, num (fun y => B y ∧ ∃ x, x < n ∧ A x ∧ f x = y) k ≤ num B k := fun k => by
    induction k with
    | zero => exact Nat.le_refl _
    | succ k ih =>
      by_cases b : B k
      · rw [(num_next B k).1 b]
        by_cases c : B k ∧ ∃ x, x < n ∧ A x ∧ f x = k
        · rw [(num_next _ k).1 c]; omega
        · rw [(num_next _ k).2 c]; omega
      · rw [(num_next B k).2 b, (num_next _ k).2 fun c => b c.1]; exact ih
  exact this n
/-- Classes seen through an exchange of numbers are as many. -/
theorem cls_twist {n : Nat} {R : Nat → Nat → Prop} {P : Nat → Prop} (h : Eqv n R) (s : Nat → Nat) (hs : ∀ i, i < n → s i < n) (hss : ∀ i, i < n → s (s i) = i) (hP : ∀ i, i < n → (P (s i) ↔ P i)) (hR : ∀ i j, i < n → j < n → R i j → (P i ↔ P j)) :
    num (fun d => P d ∧ Least (fun i j => R (s i) (s j)) d) n ≤ num (fun d => P d ∧ Least R d) n := by
  refine num_inj (fun d => rep R (s d)) (fun x hx ⟨p, l⟩ => ?_) (fun x y hx hy ⟨_, lx⟩ ⟨_, ly⟩ e => ?_)
  · obtain ⟨h1, h2, h3⟩ := rep_is h (hs x hx)
    have hr : rep R (s x) < n := by have := hs x hx; omega
    exact ⟨hr, (hR _ _ hr (hs x hx) h2).2 ((hP x hx).2 p), h3⟩
  · have h1 : R (s x) (s y) := (rep_iff h (hs x hx) (hs y hy)).2 e
    rcases Nat.lt_trichotomy x y with c | c | c
    · exact absurd h1 (ly x c)
    · exact c
    · exact absurd (h.symm _ _ (hs x hx) (hs y hy) h1) (lx y c)
section
variable {l b : List Nat}
theorem inv_it (h : Inv l b) {i : Nat} (hi : i < l.length) : ∀ k, itf (sgL b) k (itf (sgL l) k i) = i
  | 0 => rfl
  | k + 1 => by
    have hlt : itf (sgL l) k i < l.length := (sgL_pf h).itlt hi k
    rw [itf_succ]
    have : sgL b (itf (sgL l) (k + 1) i) = itf (sgL l) k i := by
      show sgL b (sgL l (itf (sgL l) k i)) = _
      unfold sgL at *
      exact h.lb _ hlt
    rw [this]; exact inv_it h hi k
theorem orb_inv1 (h : Inv l b) {i j : Nat} (hi : i < l.length) (hj : j < l.length) (o : Orb (sgL l) i j) : Orb (sgL b) i j := by
  have hb := h.symm
  have hl : b.length = l.length := h.len
  obtain ⟨k, e⟩ := o
  have := inv_it h hi k
  rw [e] at this
  exact (sgL_pf hb).eqv.symm _ _ (by rw [hl]; exact hj) (by rw [hl]; exact hi) ⟨k, this⟩
theorem orb_both (h : Inv l b) {i j : Nat} (hi : i < l.length) (hj : j < l.length) : Orb (sgL b) i j ↔ Orb (sgL l) i j := by
  have hl : b.length = l.length := h.len
  exact ⟨fun o => orb_inv1 h.symm (by rw [hl]; exact hi) (by rw [hl]; exact hj) o, orb_inv1 h hi hj⟩
theorem gk_both (h : Inv l b) (he : l.length % 2 = 0) : ∀ k, k ≤ l.length / 2 → ∀ i j, i < l.length → j < l.length → (gk (sgL b) k i j ↔ gk (sgL l) k i j)
  | 0, _, i, j, hi, hj => orb_both h hi hj
  | k + 1, hk, i, j, hi, hj => by
    have ih := gk_both h he k (by omega)
    show joinR _ _ _ i j ↔ joinR _ _ _ i j
    unfold joinR
    rw [ih i j hi hj, ih i (2 * k) hi (by omega), ih (2 * k + 1) j (by omega) hj, ih i (2 * k + 1) hi (by omega), ih (2 * k) j (by omega) hj]
theorem part_both (h : Inv l b) (he : l.length % 2 = 0) {i j : Nat} (hi : i < l.length) (hj : j < l.length) : part b i j ↔ part l i j := by
  have hl : b.length = l.length := h.len
  unfold part
  rw [hl]
  exact gk_both h he _ (Nat.le_refl _) i j hi hj
theorem least_both {n : Nat} {R S : Nat → Nat → Prop} (h : ∀ i j, i < n → j < n → (R i j ↔ S i j)) {d : Nat} (hd : d < n) : Least R d ↔ Least S d :=
  ⟨fun H j hj r => H j hj ((h j d (by omega) hd).2 r), fun H j hj r => H j hj ((h j d (by omega) hd).1 r)⟩
theorem pn_both {n : Nat} {R S : Nat → Nat → Prop} (h : ∀ i j, i < n → j < n → (R i j ↔ S i j)) : ∀ k, k ≤ n → pn R k = pn S k
  | 0, _ => rfl
  | k + 1, hk => by
    have ih := pn_both h k (by omega)
    have e := least_both h (show k < n by omega)
    by_cases c : Least R k
    · rw [(pn_next R k).1 c, (pn_next S k).1 (e.1 c), ih]
    · rw [(pn_next R k).2 c, (pn_next S k).2 (fun x => c (e.2 x)), ih]
theorem rep_both {n : Nat} {R S : Nat → Nat → Prop} (hR : Eqv n R) (hS : Eqv n S) (h : ∀ i j, i < n → j < n → (R i j ↔ S i j)) {i : Nat} (hi : i < n) : rep R i = rep S i := by
  obtain ⟨h1, h2, h3⟩ := rep_is hS hi
  have hp : rep S i < n := by omega
  exact rep_of hR hp hi ((h _ _ hp hi).2 h2) ((least_both h hp).2 h3)
theorem pq_both (h : Inv l b) (he : l.length % 2 = 0) {d : Nat} (hd : d < l.length) : pq b d = pq l d := by
  have hl : b.length = l.length := h.len
  have hb := part_eqv h.symm (by rw [hl]; exact he)
  rw [hl] at hb
  have hp := fun i j hi hj => part_both h he (i := i) (j := j) hi hj
  have e := rep_both hb (part_eqv h he) hp hd
  have := (rep_is (part_eqv h he) hd).1
  unfold pq prt
  rw [e]
  exact pn_both hp _ (by omega)
theorem pN_both (h : Inv l b) (he : l.length % 2 = 0) : pN b = pN l := by
  have hl : b.length = l.length := h.len
  unfold pN
  rw [hl]
  exact pn_both (fun i j hi hj => part_both h he hi hj) _ (Nat.le_refl _)
theorem leads_both (h : Inv l b) {d : Nat} (hd : d < l.length) : Leads b d ↔ Leads l d := by
  have hl : b.length = l.length := h.len
  rw [leads_least h (by omega), leads_least h.symm (by omega)]
  exact least_both (fun i j hi hj => orb_both h hi hj) hd
theorem phi_mirror (h : Inv l b) (he : l.length % 2 = 0) {i : Nat} (hi : i < l.length) : ∀ k, itf (sgL (phiL b)) k i = mt (itf (sgL (phiB l b)) k (mt i)) ∧ itf (sgL (phiB l b)) k (mt i) < l.length
  | 0 => ⟨by show i = mt (mt i); unfold mt; split <;> split <;> omega, mt_lt (m := l.length / 2) (by omega) hi⟩
  | k + 1 => by
    obtain ⟨e, lt⟩ := phi_mirror h he hi k
    have hl : b.length = l.length := h.len
    obtain ⟨x, hx⟩ : ∃ x, x = itf (sgL (phiB l b)) k (mt i) := ⟨_, rfl⟩
    rw [← hx] at e lt
    have hbl := h.symm.lt x (by rw [hl]; exact lt)
    rw [hl] at hbl
    have e2 : sgL (phiB l b) x = mt (b.getD x 0) := by
      unfold sgL phiB
      rw [comp_get _ _ _ (by rw [hl]; exact lt), mateL_get _ _ hbl, mt_mateN]
    refine ⟨?_, ?_⟩
    · show sgL (phiL b) (itf (sgL (phiL b)) k i) = mt (sgL (phiB l b) (itf (sgL (phiB l b)) k (mt i)))
      rw [e, ← hx, e2]
      have hm : mt x < b.length := by rw [hl]; exact mt_lt (m := l.length / 2) (by omega) lt
      show (phiL b).getD (mt x) 0 = _
      have mm : ∀ x, mt (mt x) = x := fun x => by unfold mt; split <;> split <;> omega
      rw [phiL_get _ _ hm, mt_mateN, mm, mm]
    · show sgL (phiB l b) (itf (sgL (phiB l b)) k (mt i)) < l.length
      rw [← hx, e2]
      exact mt_lt (m := l.length / 2) (by omega) hbl
theorem mt_mt (x : Nat) : mt (mt x) = x := by unfold mt; split <;> split <;> omega
theorem phi_orb (h : Inv l b) (he : l.length % 2 = 0) {i j : Nat} (hi : i < l.length) (hj : j < l.length) : Orb (sgL (phiL b)) i j ↔ Orb (sgL (phiL l)) (mt i) (mt j) := by
  have hp := phi_inv h he
  have hpl := phiL_len l
  have hmi : mt i < (phiL l).length := by rw [hpl]; exact mt_lt (m := l.length / 2) (by omega) hi
  have hmj : mt j < (phiL l).length := by rw [hpl]; exact mt_lt (m := l.length / 2) (by omega) hj
  rw [← orb_both hp hmi hmj]
  constructor
  · rintro ⟨k, e⟩
    refine ⟨k, ?_⟩
    rw [(phi_mirror h he hi k).1] at e
    rw [← e, mt_mt]
  · rintro ⟨k, e⟩
    refine ⟨k, ?_⟩
    rw [(phi_mirror h he hi k).1, e, mt_mt]
theorem pB_half (h : Inv l b) (he : l.length % 2 = 0) (j : Nat) : pB b j b.length ≤ pB l j l.length := by
  have hl : b.length = l.length := h.len
  have hp := phi_inv h he
  have hpf : Eqv l.length (Orb (sgL (phiL l))) := by have := (sgL_pf hp).eqv; rwa [phiL_len] at this
  have hpb := phi_inv h.symm (by rw [hl]; exact he)
  have e1 : pB b j b.length = num (fun d => (d < l.length ∧ pq l d = j) ∧ Least (fun x y => Orb (sgL (phiL l)) (mt x) (mt y)) d) l.length := by
    unfold pB
    rw [hl]
    refine num_congr fun d hd => ?_
    rw [pq_both h he hd, leads_least hpb (by rw [phiL_len]; omega), least_both (fun x y hx hy => phi_orb h he hx hy) hd]
    exact ⟨fun ⟨x, y⟩ => ⟨⟨hd, x⟩, y⟩, fun ⟨⟨_, x⟩, y⟩ => ⟨x, y⟩⟩
  have e2 : pB l j l.length = num (fun d => (d < l.length ∧ pq l d = j) ∧ Least (Orb (sgL (phiL l))) d) l.length := by
    unfold pB
    refine num_congr fun d hd => ?_
    rw [leads_least hp (by rw [phiL_len]; omega)]
    exact ⟨fun ⟨x, y⟩ => ⟨⟨hd, x⟩, y⟩, fun ⟨⟨_, x⟩, y⟩ => ⟨x, y⟩⟩
  rw [e1, e2]
  have hq := part_eqv h he
  have hpf2 := sgL_pf h
  refine cls_twist hpf mt (fun i hi => mt_lt (m := l.length / 2) (by omega) hi) (fun i _ => mt_mt i) (fun i hi => ?_) (fun x y hx hy o => ?_)
  · have hm : mt i < l.length := mt_lt (m := l.length / 2) (by omega) hi
    have : pq l (mt i) = pq l i := (prt_iff hq hm hi).2 (hq.symm _ _ hi hm (gk_mt hpf2 (by omega) i hi))
    rw [this]
    exact ⟨fun ⟨_, z⟩ => ⟨hi, z⟩, fun ⟨_, z⟩ => ⟨hm, z⟩⟩
  · have hfk : part l x y := by
      obtain ⟨k, e⟩ := o
      have hpf3 : PF l.length (sgL (phiL l)) := by have := sgL_pf hp; rwa [phiL_len] at this
      exact fk_sub hpf2 (by omega) _ (Nat.le_refl _) x y hx ⟨k, by rw [← (orb_congr hpf3 (fun i hi => phi_fk he hi) hx k).1]; exact e⟩
    have : pq l x = pq l y := (prt_iff hq hx hy).2 hfk
    rw [this]
    exact ⟨fun ⟨_, z⟩ => ⟨hy, z⟩, fun ⟨_, z⟩ => ⟨hx, z⟩⟩
theorem pB_both (h : Inv l b) (he : l.length % 2 = 0) (j : Nat) : pB b j b.length = pB l j l.length := by
  have hl : b.length = l.length := h.len
  exact Nat.le_antisymm (pB_half h he j) (pB_half h.symm (by rw [hl]; exact he) j)
theorem pV_both (h : Inv l b) (he : l.length % 2 = 0) (j : Nat) : pV b j b.length = pV l j l.length := by
  have hl : b.length = l.length := h.len
  unfold pV
  rw [hl]
  exact num_congr fun d hd => by rw [pq_both h he hd, leads_both h hd]
theorem pE_both (h : Inv l b) (he : l.length % 2 = 0) (j : Nat) : pE b j b.length = pE l j l.length := by
  have hl : b.length = l.length := h.len
  unfold pE
  rw [hl]
  exact num_congr fun d hd => by rw [pq_both h he hd]
theorem pG_both (h : Inv l b) (he : l.length % 2 = 0) (j : Nat) : pG b j = pG l j := by
  have e := pB_both h he j
  unfold pB at e
  unfold pG
  rw [pV_both h he, pE_both h he, e]
theorem rt_both (h : Inv l b) (he : l.length % 2 = 0) {j : Nat} (hj : j < pN l) : rt (part b) j = rt (part l) j := by
  have hp := fun i j hi hj => part_both h he (i := i) (j := j) hi hj
  obtain ⟨d, hd, H, e⟩ := part_has l l.length j hj
  have H2 := (least_both hp hd).2 H
  rw [← e, rt_of H, ← pn_both hp d (by omega), rt_of H2]
theorem partsC_both (h : Inv l b) (he : l.length % 2 = 0) (c : Nat) : partsC b c = partsC l c := by
  unfold partsC
  apply List.map_congr_left
  intro i _
  unfold pcL
  rw [pN_both h he]
  by_cases c : i / 5 < pN l
  · rw [if_pos c, if_pos c]
    unfold pc
    rw [rt_both h he c, pV_both h he, pE_both h he, pB_both h he, pG_both h he]
  · rw [if_neg c, if_neg c]
theorem leadsL_both (h : Inv l b) {k : Nat} (hk : k ≤ l.length) : leads b k = leads l k := by
  unfold leads
  apply List.filter_congr
  intro d hd
  have hd : d < k := by simpa using hd
  rw [decide_eq_decide]
  exact leads_both h (by omega)
theorem name_both (h : Inv l b) {x : Nat} (hx : x < l.length) : nameOf b x = nameOf l x := by
  have hl : b.length = l.length := h.len
  obtain ⟨h1, h2, h3⟩ := lead_is h hx
  have hlt : lead l x < l.length := by omega
  have hm : x ∈ orb b (lead l x) := by
    obtain ⟨t, e⟩ := (mem_orb h hlt).1 h3
    obtain ⟨t', e'⟩ := (orb_both h hlt hx).2 ⟨t, by rw [sgL_it]; exact e⟩
    exact (mem_orb h.symm (by omega)).2 ⟨t', by rw [← sgL_it]; exact e'⟩
  have e := lead_eq h.symm (by omega) (by omega) ((leads_both h hlt).2 h2) hm
  unfold nameOf
  rw [e, leadsL_both h (by omega)]
theorem ends_both (h : Inv l b) (he : l.length % 2 = 0) {e : Nat} (hE : e < l.length / 2) : lowE b e = lowE l e ∧ highE b e = highE l e := by
  unfold lowE highE
  rw [name_both h (show 2 * e < l.length by omega), name_both h (show 2 * e + 1 < l.length by omega)]
  exact ⟨rfl, rfl⟩
theorem loops_both (h : Inv l b) (he : l.length % 2 = 0) : loopsN b (b.length / 2) = loopsN l (l.length / 2) := by
  have hl : b.length = l.length := h.len
  rw [hl]
  unfold loopsN
  congr 1
  apply List.filter_congr
  intro e hE
  obtain ⟨h1, h2⟩ := ends_both h he (show e < l.length / 2 by simpa using hE)
  rw [h1, h2]
theorem dbl_both (h : Inv l b) (he : l.length % 2 = 0) : dblN b (b.length / 2) = dblN l (l.length / 2) := by
  have hl : b.length = l.length := h.len
  rw [hl]
  unfold dblN
  refine num_congr fun e hE => ?_
  obtain ⟨h1, h2⟩ := ends_both h he hE
  have : prN b (lowE b e) (highE b e) e = prN l (lowE l e) (highE l e) e := by
    unfold prN
    rw [h1, h2]
    refine num_congr fun f hf => ?_
    obtain ⟨g1, g2⟩ := ends_both h he (show f < l.length / 2 by omega)
    rw [g1, g2]
  rw [h1, h2] at this ⊢
  rw [this]
theorem sizes_both (h : Inv l b) : (sizes b).length = (sizes l).length := by
  have hl : b.length = l.length := h.len
  unfold sizes
  rw [sizesTo_len, sizesTo_len]
  unfold met
  rw [hl, leadsL_both h (Nat.le_refl _)]
theorem tri_it (l : List Nat) (d : Nat) : Tri l d ↔ itf (sgL (phiL l)) 1 d ≠ d ∧ itf (sgL (phiL l)) 3 d = d := Iff.rfl
theorem tri_half (h : Inv l b) (he : l.length % 2 = 0) (H : ∀ d, d < l.length → Tri l d) : ∀ d, d < b.length → Tri b d := fun d hd => by
  have hl : b.length = l.length := h.len
  rw [hl] at hd
  have hp := phi_inv h he
  have hm : mt d < l.length := mt_lt (m := l.length / 2) (by omega) hd
  have hm' : mt d < (phiL l).length := by rw [phiL_len]; exact hm
  rw [tri_it, (phi_mirror h he hd 1).1, (phi_mirror h he hd 3).1]
  obtain ⟨t1, t3⟩ := (tri_it l _).1 (H _ hm)
  have i1 := inv_it hp hm' 1
  have i3 := inv_it hp hm' 3
  rw [t3] at i3
  refine ⟨fun e => ?_, by rw [i3, mt_mt]⟩
  have e1 : itf (sgL (phiB l b)) 1 (mt d) = mt d := by have := congrArg mt e; rwa [mt_mt] at this
  have hb : (phiB l b).length = (phiL l).length := hp.len
  have pfb := sgL_pf hp.symm
  have lt1 : itf (sgL (phiL l)) 1 (mt d) < (phiB l b).length := by rw [hb]; exact (sgL_pf hp).itlt hm' 1
  exact t1 (pfb.inj _ _ lt1 (by rw [hb]; exact hm') (by
    show itf (sgL (phiB l b)) 1 (itf (sgL (phiL l)) 1 (mt d)) = itf (sgL (phiB l b)) 1 (mt d)
    rw [i1, e1]))
theorem genus_both (h : Inv l b) (he : l.length % 2 = 0) : genusN b = genusN l := by
  unfold genusN genusTo
  rw [pN_both h he]
  congr 1
  apply List.map_congr_left
  intro j _
  unfold pgen
  rw [pN_both h he, pG_both h he]
theorem triang_both (h : Inv l b) (he : l.length % 2 = 0) (lone : Nat) : TriangN b lone ↔ TriangN l lone := by
  have hl : b.length = l.length := h.len
  unfold TriangN
  rw [pN_both h he, sizes_both h, genus_both h he, loops_both h he, dbl_both h he]
  have e : (∀ d, d < b.length → Tri b d) ↔ ∀ d, d < l.length → Tri l d := ⟨fun H => tri_half h.symm (by rw [hl]; exact he) H, tri_half h he⟩
  rw [e]
end
end Go.Proofs.Ythdmkcnclmgdlaa
namespace Go.Proofs.Ythdmkcnclmgdlaa
set_option maxRecDepth 20000
open Go.RowKit
set_option linter.unusedVariables false
/-- Classes that are taken into others, apart ones into apart ones, are no more. -/
theorem num_map {n : Nat} {R S : Nat → Nat → Prop} {P P' : Nat → Prop} (hR : Eqv n R) (hS : Eqv n S) (f : Nat → Nat) (hf : ∀ i, i < n → f i < n) (hP : ∀ i, i < n → P i → P' (f i)) (hP' : ∀ i j, i < n → j < n → S i j → P' j → P' i)
    (hi : ∀ i j, i < n → j < n → S (f i) (f j) → R i j) : num (fun d => P d ∧ Least R d) n ≤ num (fun d => P' d ∧ Least S d) n := by
  refine num_inj (fun d => rep S (f d)) (fun x hx ⟨p, l⟩ => ?_) (fun x y hx hy ⟨_, lx⟩ ⟨_, ly⟩ e => ?_)
  · obtain ⟨h1, h2, h3⟩ := rep_is hS (hf x hx)
    have hfx := hf x hx
    exact ⟨by omega, hP' _ _ (by omega) hfx h2 (hP x hx p), h3⟩
  · have h1 : S (f x) (f y) := (rep_iff hS (hf x hx) (hf y hy)).2 e
    have h2 := hi x y hx hy h1
    rcases Nat.lt_trichotomy x y with c | c | c
    · exact absurd h2 (ly x c)
    · exact c
    · exact absurd (hR.symm _ _ hx hy h2) (lx y c)
theorem cls_numC (R : Nat → Nat → Prop) (P : Nat → Prop) (n : Nat) : cls R P n = num (fun d => P d ∧ Least R d) n := by
  unfold cls num
  congr 1
  apply List.filter_congr
  intro d _
  rw [decide_eq_decide]
/-- Names that keep mates: p takes each dart to its name, and q back. -/
structure Nam (n : Nat) (p q : List Nat) : Prop where
  inv : Inv p q
  len : p.length = n
  ev : n % 2 = 0
  mt : ∀ d, d < n → sgL p (mt d) = mt (sgL p d)
theorem Nam.lt {n : Nat} {p q : List Nat} (h : Nam n p q) {d : Nat} (hd : d < n) : sgL p d < n := by have := h.inv.lt d (by rw [h.len]; exact hd); rw [h.len] at this; exact this
theorem Nam.lt' {n : Nat} {p q : List Nat} (h : Nam n p q) {d : Nat} (hd : d < n) : sgL q d < n := by have := h.inv.lt' d (by rw [h.len]; exact hd); rw [h.len] at this; exact this
theorem Nam.qp {n : Nat} {p q : List Nat} (h : Nam n p q) {d : Nat} (hd : d < n) : sgL q (sgL p d) = d := h.inv.lb d (by rw [h.len]; exact hd)
theorem Nam.pq {n : Nat} {p q : List Nat} (h : Nam n p q) {d : Nat} (hd : d < n) : sgL p (sgL q d) = d := h.inv.bl d (by rw [h.len]; exact hd)
theorem mt_twice (d : Nat) : Go.Proofs.Ythdmkcnclmgdlaa.mt (Go.Proofs.Ythdmkcnclmgdlaa.mt d) = d := mt_mt d
theorem mt_in {n d : Nat} (he : n % 2 = 0) (hd : d < n) : Go.Proofs.Ythdmkcnclmgdlaa.mt d < n := mt_lt (m := n / 2) (by omega) hd
theorem Nam.symm {n : Nat} {p q : List Nat} (h : Nam n p q) : Nam n q p := by
  refine ⟨h.inv.symm, by rw [h.inv.len, h.len], h.ev, fun d hd => ?_⟩
  have h1 := h.lt' hd
  have h2 := h.mt _ h1
  rw [h.pq hd] at h2
  have h3 := h.qp (mt_in h.ev h1)
  rw [h2] at h3
  exact h3
/-- The map of l by the names of p. -/
def cjL (p q l : List Nat) : List Nat := (List.range l.length).map fun i => sgL p (sgL l (sgL q i))
theorem cjL_len (p q l : List Nat) : (cjL p q l).length = l.length := by simp [cjL]
theorem cjL_get (p q l : List Nat) {i : Nat} (hi : i < l.length) : sgL (cjL p q l) i = sgL p (sgL l (sgL q i)) := by
  show (cjL p q l).getD i 0 = _
  simp [cjL, List.getD_eq_getElem?_getD, hi]
section
variable {l b p q : List Nat}
theorem cj_at (h : Nam l.length p q) {i : Nat} (hi : i < l.length) : sgL (cjL p q l) (sgL p i) = sgL p (sgL l i) := by
  rw [cjL_get _ _ _ (h.lt hi), h.qp hi]
theorem cj_inv (h : Nam l.length p q) (hl : Inv l b) : Inv (cjL p q l) (cjL p q b) := by
  have hbl := hl.len
  have key : ∀ {x y : List Nat}, Inv x y → Nam x.length p q → ∀ i, i < x.length → sgL (cjL p q y) (sgL (cjL p q x) i) = i := fun {x y} hxy hn i hi => by
    have hi' := hn.lt' hi
    have hx := hxy.lt _ hi'
    have hn' : Nam y.length p q := by rw [hxy.len]; exact hn
    rw [cjL_get _ _ _ hi]
    have e : sgL (cjL p q y) (sgL p (sgL x (sgL q i))) = sgL p (sgL y (sgL x (sgL q i))) := cj_at hn' (by rw [hxy.len]; exact hx)
    rw [e]
    have : sgL y (sgL x (sgL q i)) = sgL q i := hxy.lb _ hi'
    rw [this, hn.pq hi]
  have hnb : Nam b.length p q := by rw [hbl]; exact h
  refine ⟨by rw [cjL_len, cjL_len, hbl], fun i hi => ?_, fun i hi => ?_, fun i hi => ?_, fun i hi => ?_⟩ <;> rw [cjL_len] at hi <;> try rw [cjL_len]
  · have := cjL_get p q l hi
    show sgL (cjL p q l) i < _
    rw [this]; exact h.lt (hl.lt _ (h.lt' hi))
  · have := cjL_get p q b (by rw [hbl]; exact hi)
    show sgL (cjL p q b) i < _
    rw [this]
    have h2 := hl.lt' _ (h.lt' hi)
    exact h.lt h2
  · exact key hl h i hi
  · exact key hl.symm hnb i (by rw [hbl]; exact hi)
theorem phi_at (l : List Nat) {d : Nat} (hd : d < l.length) : sgL (phiL l) d = sgL l (mt d) := by
  show (phiL l).getD d 0 = _
  rw [phiL_get _ _ hd, mt_mateN]; rfl
theorem cj_phi (h : Nam l.length p q) : phiL (cjL p q l) = cjL p q (phiL l) := by
  have hl1 : (phiL (cjL p q l)).length = l.length := by rw [phiL_len, cjL_len]
  have hl2 : (cjL p q (phiL l)).length = l.length := by rw [cjL_len, phiL_len]
  refine getD_ext (by rw [hl1, hl2]) fun i hi => ?_
  rw [hl1] at hi
  have hq := h.lt' hi
  show sgL (phiL (cjL p q l)) i = sgL (cjL p q (phiL l)) i
  rw [phi_at _ (by rw [cjL_len]; exact hi), cjL_get _ _ _ (mt_in h.ev hi), h.symm.mt _ hi, cjL_get p q (phiL l) (by rw [phiL_len]; exact hi), phi_at _ hq]
theorem cj_back (h : Nam l.length p q) (hl : Inv l b) : cjL q p (cjL p q l) = l := by
  refine getD_ext (by rw [cjL_len, cjL_len]) fun i hi => ?_
  rw [cjL_len, cjL_len] at hi
  show sgL (cjL q p (cjL p q l)) i = sgL l i
  rw [cjL_get _ _ _ (by rw [cjL_len]; exact hi), cj_at h hi]
  exact h.qp (hl.lt _ hi)
theorem cj_it (h : Nam l.length p q) (hl : Inv l b) {i : Nat} (hi : i < l.length) : ∀ k, itf (sgL (cjL p q l)) k (sgL p i) = sgL p (itf (sgL l) k i)
  | 0 => rfl
  | k + 1 => by
    have ih := cj_it h hl hi k
    show sgL (cjL p q l) (itf (sgL (cjL p q l)) k (sgL p i)) = sgL p (sgL l (itf (sgL l) k i))
    rw [ih]
    exact cj_at h ((sgL_pf hl).itlt hi k)
theorem cj_orb (h : Nam l.length p q) (hl : Inv l b) {i j : Nat} (hi : i < l.length) (hj : j < l.length) : Orb (sgL (cjL p q l)) (sgL p i) (sgL p j) ↔ Orb (sgL l) i j := by
  constructor
  · rintro ⟨k, e⟩
    rw [cj_it h hl hi] at e
    have := congrArg (sgL q) e
    rw [h.qp ((sgL_pf hl).itlt hi k), h.qp hj] at this
    exact ⟨k, this⟩
  · rintro ⟨k, e⟩
    exact ⟨k, by rw [cj_it h hl hi, e]⟩
theorem cj_met (h : Nam l.length p q) (hl : Inv l b) : metB (cjL p q l) = metB l := by
  have hc := cj_inv h hl
  have key : ∀ {x y s t : List Nat}, Nam x.length s t → Inv x y → metB x ≤ metB (cjL s t x) := fun {x y s t} hn hx => by
    have hcx := cj_inv hn hx
    have e1 := leads_cls hx
    have e2 := leads_cls hcx
    rw [cjL_len] at e2
    rw [← e1, ← e2, cls_numC, cls_numC]
    have hS := (sgL_pf hcx).eqv
    rw [cjL_len] at hS
    exact num_map (sgL_pf hx).eqv hS (sgL s) (fun i hi => hn.lt hi) (fun _ _ _ => trivial) (fun _ _ _ _ _ _ => trivial) (fun i j hi hj o => (cj_orb hn hx hi hj).1 o)
  have h1 := key h hl
  have h2 := key (x := cjL p q l) (s := q) (t := p) (by rw [cjL_len]; exact h.symm) hc
  rw [cj_back h hl] at h2
  omega
theorem cj_sizes (h : Nam l.length p q) (hl : Inv l b) : (sizes (cjL p q l)).length = (sizes l).length := by
  rw [sizes_is (cj_inv h hl), sizes_is hl, cj_met h hl]
theorem cj_part1 (h : Nam l.length p q) (hl : Inv l b) {i j : Nat} (hi : i < l.length) (hj : j < l.length) (r : part l i j) : part (cjL p q l) (sgL p i) (sgL p j) := by
  have hc := cj_inv h hl
  have hpf := sgL_pf hl
  have hpc : PF l.length (sgL (cjL p q l)) := by have := sgL_pf hc; rwa [cjL_len] at this
  have hq := part_eqv hc (by rw [cjL_len]; exact h.ev)
  rw [cjL_len] at hq
  have ev := h.ev
  refine (part_closed (S := fun x => part (cjL p q l) (sgL p i) (sgL p x)) hpf (m := l.length / 2) (by omega) (fun x hx s => ?_) (fun x hx s => ?_) i j hi hj r).1 (hq.refl _ (h.lt hi))
  · have e := cj_at h hx
    have s1 : part (cjL p q l) (sgL p x) (sgL p (sgL l x)) := by rw [← e]; unfold part; exact gk_sig hpc _ _
    exact hq.trans _ _ _ (h.lt hi) (h.lt hx) (h.lt (hpf.lt _ hx)) s s1
  · have e := h.mt x hx
    have s1 : part (cjL p q l) (sgL p x) (sgL p (mt x)) := by rw [e]; unfold part; rw [cjL_len]; exact gk_mt hpc (by omega) _ (h.lt hx)
    exact hq.trans _ _ _ (h.lt hi) (h.lt hx) (h.lt (mt_in ev hx)) s s1
theorem cj_part (h : Nam l.length p q) (hl : Inv l b) {i j : Nat} (hi : i < l.length) (hj : j < l.length) : part (cjL p q l) (sgL p i) (sgL p j) ↔ part l i j := by
  refine ⟨fun r => ?_, cj_part1 h hl hi hj⟩
  have hc := cj_inv h hl
  have := cj_part1 (l := cjL p q l) (p := q) (q := p) (by rw [cjL_len]; exact h.symm) hc (by rw [cjL_len]; exact h.lt hi) (by rw [cjL_len]; exact h.lt hj) r
  rw [cj_back h hl, h.qp hi, h.qp hj] at this
  exact this
theorem cj_pN (h : Nam l.length p q) (hl : Inv l b) : pN (cjL p q l) = pN l := by
  have hc := cj_inv h hl
  have key : ∀ {x y s t : List Nat}, Nam x.length s t → Inv x y → pN x ≤ pN (cjL s t x) := fun {x y s t} hn hx => by
    have hcx := cj_inv hn hx
    unfold pN pn
    rw [cjL_len, cls_numC, cls_numC]
    have hS := part_eqv hcx (by rw [cjL_len]; exact hn.ev)
    rw [cjL_len] at hS
    exact num_map (part_eqv hx hn.ev) hS (sgL s) (fun i hi => hn.lt hi) (fun _ _ _ => trivial) (fun _ _ _ _ _ _ => trivial) (fun i j hi hj o => (cj_part hn hx hi hj).1 o)
  have h1 := key h hl
  have h2 := key (x := cjL p q l) (s := q) (t := p) (by rw [cjL_len]; exact h.symm) hc
  rw [cj_back h hl] at h2
  omega
/-- All genera at once: Euler's count. -/
theorem genus_count (hl : Inv l b) (he : l.length % 2 = 0) : (sizes l).length + (sizes (phiL l)).length + 2 * genusN l = l.length / 2 + 2 * pN l := by
  have sv := sum_v hl he 0
  have sb := sum_b hl he 0
  have se := sum_e hl he 0
  have key : ∀ k, sumN (vcell l) k + sumN (bcell l) k + 2 * genusTo l k = sumN (ecell l) k + 2 * k := fun k => by
    induction k with
    | zero => simp [sumN, genusTo]
    | succ k ih =>
      rw [sumN_next, sumN_next, sumN_next, genusTo_next]
      have := (cell_euler hl he k).1
      omega
  have := key (pN l + 0)
  rw [sv, sb, se] at this
  unfold genusN
  simpa using this
theorem cj_genus (h : Nam l.length p q) (hl : Inv l b) : genusN (cjL p q l) = genusN l := by
  have hc := cj_inv h hl
  have e1 := genus_count hl h.ev
  have e2 := genus_count hc (by rw [cjL_len]; exact h.ev)
  have hp := phi_inv hl h.ev
  have e3 := cj_sizes h hl
  have e4 := cj_sizes (l := phiL l) (by rw [phiL_len]; exact h) hp
  rw [cj_phi h, e3, e4, cj_pN h hl, cjL_len] at e2
  omega
/-! ### edges between the same two -/
theorem name_iff (hl : Inv l b) {i j : Nat} (hi : i < l.length) (hj : j < l.length) : nameOf l i = nameOf l j ↔ Orb (sgL l) i j := by
  refine ⟨name_orb hl hi hj, fun o => ?_⟩
  obtain ⟨h1, h2, h3⟩ := lead_is hl hi
  have hlt : lead l i < l.length := by omega
  obtain ⟨t, e⟩ := (mem_orb hl hlt).1 h3
  rw [← sgL_it] at e
  have o2 : Orb (sgL l) (lead l i) j := (sgL_pf hl).eqv.trans _ i _ hlt hi hj ⟨t, e⟩ o
  obtain ⟨t2, e2⟩ := o2
  have := lead_eq hl hj hlt h2 ((mem_orb hl hlt).2 ⟨t2, by rw [← sgL_it]; exact e2⟩)
  unfold nameOf
  rw [this]
/-- Between the same two, in any order. -/
def sameE (l : List Nat) (e f : Nat) : Prop := lowE l e = lowE l f ∧ highE l e = highE l f
theorem sameE.eqv (l : List Nat) (m : Nat) : Eqv m (sameE l) := ⟨fun _ _ => ⟨rfl, rfl⟩, fun _ _ _ _ h => ⟨h.1.symm, h.2.symm⟩, fun _ _ _ _ _ _ h k => ⟨h.1.trans k.1, h.2.trans k.2⟩⟩
theorem good_least (l : List Nat) (e : Nat) : GoodE l e ↔ lowE l e ≠ highE l e ∧ Least (sameE l) e := by
  unfold GoodE
  refine and_congr_right fun _ => ⟨fun h j hj r => h ?_, fun h k => ?_⟩
  · unfold prN
    rcases Nat.eq_zero_or_pos (num (fun f => lowE l f = lowE l e ∧ highE l f = highE l e) e) with c | c
    · exfalso
      unfold num at c
      have := List.length_eq_zero_iff.1 c
      rw [List.filter_eq_nil_iff] at this
      exact this j (by simpa using hj) (by simp only [decide_eq_true_eq]; exact r)
    · exact c
  · obtain ⟨f, hf, r⟩ := num_has k
    exact h f hf r
def fE (p : List Nat) (e : Nat) : Nat := sgL p (2 * e) / 2
theorem fE_two (h : Nam l.length p q) {e : Nat} (hE : e < l.length / 2) : (sgL p (2 * e) = 2 * fE p e ∧ sgL p (2 * e + 1) = 2 * fE p e + 1) ∨ (sgL p (2 * e) = 2 * fE p e + 1 ∧ sgL p (2 * e + 1) = 2 * fE p e) := by
  have e1 : mt (2 * e) = 2 * e + 1 := by unfold mt; rw [if_pos (by omega)]
  have h1 := h.mt (2 * e) (by omega)
  rw [e1] at h1
  unfold fE
  rw [h1]
  unfold mt
  split <;> omega
theorem fE_lt (h : Nam l.length p q) {e : Nat} (hE : e < l.length / 2) : fE p e < l.length / 2 := by
  have := h.lt (d := 2 * e) (by omega)
  have := h.ev
  unfold fE; omega
theorem cj_name (h : Nam l.length p q) (hl : Inv l b) {i j : Nat} (hi : i < l.length) (hj : j < l.length) : nameOf (cjL p q l) (sgL p i) = nameOf (cjL p q l) (sgL p j) ↔ nameOf l i = nameOf l j := by
  rw [name_iff (cj_inv h hl) (by rw [cjL_len]; exact h.lt hi) (by rw [cjL_len]; exact h.lt hj), cj_orb h hl hi hj, name_iff hl hi hj]
theorem cj_loop (h : Nam l.length p q) (hl : Inv l b) {e : Nat} (hE : e < l.length / 2) : lowE (cjL p q l) (fE p e) = highE (cjL p q l) (fE p e) ↔ lowE l e = highE l e := by
  have c := cj_name h hl (i := 2 * e) (j := 2 * e + 1) (by omega) (by omega)
  unfold lowE highE
  rcases fE_two h hE with ⟨a1, a2⟩ | ⟨a1, a2⟩ <;> rw [a1, a2] at c
  · generalize nameOf (cjL p q l) (2 * fE p e) = x1 at *
    generalize nameOf (cjL p q l) (2 * fE p e + 1) = x2 at *
    generalize nameOf l (2 * e) = y1 at *
    generalize nameOf l (2 * e + 1) = y2 at *
    omega
  · generalize nameOf (cjL p q l) (2 * fE p e) = x1 at *
    generalize nameOf (cjL p q l) (2 * fE p e + 1) = x2 at *
    generalize nameOf l (2 * e) = y1 at *
    generalize nameOf l (2 * e + 1) = y2 at *
    omega
theorem mm_iff (a b c d : Nat) : (min a b = min c d ∧ max a b = max c d) ↔ (a = c ∧ b = d) ∨ (a = d ∧ b = c) := by omega
theorem cj_same (h : Nam l.length p q) (hl : Inv l b) {e f : Nat} (hE : e < l.length / 2) (hF : f < l.length / 2) (s : sameE (cjL p q l) (fE p e) (fE p f)) : sameE l e f := by
  have n1 := cj_name h hl (i := 2 * e) (j := 2 * f) (by omega) (by omega)
  have n2 := cj_name h hl (i := 2 * e) (j := 2 * f + 1) (by omega) (by omega)
  have n3 := cj_name h hl (i := 2 * e + 1) (j := 2 * f) (by omega) (by omega)
  have n4 := cj_name h hl (i := 2 * e + 1) (j := 2 * f + 1) (by omega) (by omega)
  unfold sameE lowE highE at s ⊢
  rw [mm_iff] at s ⊢
  rw [← n1, ← n2, ← n3, ← n4]
  rcases fE_two h hE with ⟨a1, a2⟩ | ⟨a1, a2⟩ <;> rcases fE_two h hF with ⟨b1, b2⟩ | ⟨b1, b2⟩ <;> rw [a1, a2, b1, b2]
  · exact s
  · exact s.symm
  · exact (s.imp And.symm And.symm).symm
  · exact s.imp And.symm And.symm
theorem loopsN_num (l : List Nat) (k : Nat) : loopsN l k = num (fun e => lowE l e = highE l e) k := by
  unfold loopsN num
  congr 1
  apply List.filter_congr
  intro d _
  rw [decide_eq_decide]
theorem cj_dbl (h : Nam l.length p q) (hl : Inv l b) : dblN (cjL p q l) ((cjL p q l).length / 2) = dblN l (l.length / 2) := by
  have hc := cj_inv h hl
  have goodN : ∀ x : List Nat, num (GoodE x) (x.length / 2) = num (fun d => lowE x d ≠ highE x d ∧ Least (sameE x) d) (x.length / 2) := fun x => num_congr fun e _ => good_least x e
  have k1 : ∀ {x y s t : List Nat}, Nam x.length s t → Inv x y → num (GoodE x) (x.length / 2) ≤ num (GoodE (cjL s t x)) (x.length / 2) := fun {x y s t} hn hx => by
    have g2 := goodN (cjL s t x)
    rw [cjL_len] at g2
    rw [goodN, g2]
    refine num_map (sameE.eqv x _) (sameE.eqv _ _) (fE s) (fun i hi => fE_lt hn hi) (fun i hi c => ?_) (fun i j hi hj r c => ?_) (fun i j hi hj r => cj_same hn hx hi hj r)
    · exact fun e => c ((cj_loop hn hx hi).1 e)
    · rw [r.1, r.2]; exact c
  have inj : ∀ {x y s t : List Nat}, Nam x.length s t → Inv x y → ∀ i j, i < x.length / 2 → j < x.length / 2 → fE s i = fE s j → i = j := fun {x y s t} hn hx i j hi hj e => by
    have qi := hn.qp (d := 2 * i) (by omega)
    have qi' := hn.qp (d := 2 * i + 1) (by omega)
    have qj := hn.qp (d := 2 * j) (by omega)
    have qj' := hn.qp (d := 2 * j + 1) (by omega)
    rcases fE_two hn hi with ⟨a1, a2⟩ | ⟨a1, a2⟩ <;> rcases fE_two hn hj with ⟨b1, b2⟩ | ⟨b1, b2⟩ <;> rw [a1] at qi <;> rw [a2] at qi' <;> rw [b1] at qj <;> rw [b2] at qj' <;> rw [e] at qi qi' <;> omega
  have k2 : ∀ {x y s t : List Nat}, Nam x.length s t → Inv x y → loopsN x (x.length / 2) ≤ loopsN (cjL s t x) (x.length / 2) := fun {x y s t} hn hx => by
    rw [loopsN_num, loopsN_num]
    exact num_inj (fE s) (fun e hE c => ⟨fE_lt hn hE, (cj_loop hn hx hE).2 c⟩) (fun i j hi hj _ _ e => inj hn hx i j hi hj e)
  have hs : Nam (cjL p q l).length q p := by rw [cjL_len]; exact h.symm
  have a1 := k1 h hl
  have a2 := k1 hs hc
  have b1 := k2 h hl
  have b2 := k2 hs hc
  rw [cj_back h hl, cjL_len] at a2 b2
  have c1 := edges_are l (l.length / 2)
  have c2 := edges_are (cjL p q l) (l.length / 2)
  rw [cjL_len]
  omega
end
end Go.Proofs.Ythdmkcnclmgdlaa
