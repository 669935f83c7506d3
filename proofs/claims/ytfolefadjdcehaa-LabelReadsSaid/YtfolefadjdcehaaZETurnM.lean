/- A map turned the other way: mathematics. -/
import Derived.Test.YtfolefadjdcehaaZEGenR
namespace Go.Proofs.Ytfolefadjdcehaa
set_option maxRecDepth 20000
open Go.RowKit
set_option linter.unusedVariables false
/-- A predicate on numbers that is taken into another one without two going to one has no more. -/
theorem num_inj {A B : Nat → Prop} {n : Nat} (f : Nat → Nat) (hf : ∀ x, x < n → A x → f x < n ∧ B (f x)) (hi : ∀ x y, x < n → y < n → A x → A y → f x = f y → x = y) : num A n ≤ num B n := by
  have key : ∀ k, k ≤ n → num A k = num (fun y => B y ∧ ∃ x, x < k ∧ A x ∧ f x = y) n := fun k => by
    induction k with
    | zero =>
      intro _
      have : num (fun y => B y ∧ ∃ x, x < 0 ∧ A x ∧ f x = y) n = 0 := num_zero fun d _ ⟨_, x, hx, _⟩ => by omega
      rw [this]; rfl
    | succ k ih =>
      intro hk
      have ih' := ih (by omega)
      by_cases a : A k
      · rw [(num_next A k).1 a, ih']
        obtain ⟨h1, h2⟩ := hf k (by omega) a
        unfold num
        refine @filter_less (List.range n) (List.nodup_range) (fun y => B y ∧ ∃ x, x < k + 1 ∧ A x ∧ f x = y) (fun y => B y ∧ ∃ x, x < k ∧ A x ∧ f x = y) (fun _ => Classical.propDecidable _) (fun _ => Classical.propDecidable _) (f k) (by simpa using h1) ⟨h2, k, by omega, a, rfl⟩ fun i _ => ?_
        constructor
        · rintro ⟨b, x, hx, ax, e⟩
          refine ⟨⟨b, x, by omega, ax, e⟩, fun c => ?_⟩
          have := hi x k (by omega) (by omega) ax a (by rw [e, c])
          omega
        · rintro ⟨⟨b, x, hx, ax, e⟩, hne⟩
          refine ⟨b, x, ?_, ax, e⟩
          rcases Nat.lt_or_ge x k with c | c
          · exact c
          · have : x = k := by omega
            subst this
            exact absurd e.symm hne
      · rw [(num_next A k).2 a, ih']
        exact num_congr fun y _ => ⟨fun ⟨b, x, hx, ax, e⟩ => ⟨b, x, by omega, ax, e⟩, fun ⟨b, x, hx, ax, e⟩ => by
          refine ⟨b, x, ?_, ax, e⟩
          rcases Nat.lt_or_ge x k with c | c
          · exact c
          · have : x = k := by omega
            subst this
            exact absurd ax a⟩
  rw [key n (Nat.le_refl _)]
  have : ∀ k, num (fun y => B y ∧ ∃ x, x < n ∧ A x ∧ f x = y) k ≤ num B k := fun k => by
    induction k with
    | zero => exact Nat.le_refl _
    | succ k ih =>
      by_cases b : B k
      · rw [(num_next B k).1 b]
        by_cases c : B k ∧ ∃ x, x < n ∧ A x ∧ f x = k
        · rw [(num_next _ k).1 c]; omega
        · rw [(num_next _ k).2 c]; omega
      · rw [(num_next B k).2 b, (num_next _ k).2 fun c => b c.1]; exact ih
  exact this n
/-- Classes seen through an exchange of numbers are as many. -/
theorem cls_twist {n : Nat} {R : Nat → Nat → Prop} {P : Nat → Prop} (h : Eqv n R) (s : Nat → Nat) (hs : ∀ i, i < n → s i < n) (hss : ∀ i, i < n → s (s i) = i) (hP : ∀ i, i < n → (P (s i) ↔ P i)) (hR : ∀ i j, i < n → j < n → R i j → (P i ↔ P j)) :
    num (fun d => P d ∧ Least (fun i j => R (s i) (s j)) d) n ≤ num (fun d => P d ∧ Least R d) n := by
  refine num_inj (fun d => rep R (s d)) (fun x hx ⟨p, l⟩ => ?_) (fun x y hx hy ⟨_, lx⟩ ⟨_, ly⟩ e => ?_)
  · obtain ⟨h1, h2, h3⟩ := rep_is h (hs x hx)
    have hr : rep R (s x) < n := by have := hs x hx; omega
    exact ⟨hr, (hR _ _ hr (hs x hx) h2).2 ((hP x hx).2 p), h3⟩
  · have h1 : R (s x) (s y) := (rep_iff h (hs x hx) (hs y hy)).2 e
    rcases Nat.lt_trichotomy x y with c | c | c
    · exact absurd h1 (ly x c)
    · exact c
    · exact absurd (h.symm _ _ (hs x hx) (hs y hy) h1) (lx y c)
section
variable {l b : List Nat}
theorem inv_it (h : Inv l b) {i : Nat} (hi : i < l.length) : ∀ k, itf (sgL b) k (itf (sgL l) k i) = i
  | 0 => rfl
  | k + 1 => by
    have hlt : itf (sgL l) k i < l.length := (sgL_pf h).itlt hi k
    rw [itf_succ]
    have : sgL b (itf (sgL l) (k + 1) i) = itf (sgL l) k i := by
      show sgL b (sgL l (itf (sgL l) k i)) = _
      unfold sgL at *
      exact h.lb _ hlt
    rw [this]; exact inv_it h hi k
theorem orb_inv1 (h : Inv l b) {i j : Nat} (hi : i < l.length) (hj : j < l.length) (o : Orb (sgL l) i j) : Orb (sgL b) i j := by
  have hb := h.symm
  have hl : b.length = l.length := h.len
  obtain ⟨k, e⟩ := o
  have := inv_it h hi k
  rw [e] at this
  exact (sgL_pf hb).eqv.symm _ _ (by rw [hl]; exact hj) (by rw [hl]; exact hi) ⟨k, this⟩
theorem orb_both (h : Inv l b) {i j : Nat} (hi : i < l.length) (hj : j < l.length) : Orb (sgL b) i j ↔ Orb (sgL l) i j := by
  have hl : b.length = l.length := h.len
  exact ⟨fun o => orb_inv1 h.symm (by rw [hl]; exact hi) (by rw [hl]; exact hj) o, orb_inv1 h hi hj⟩
theorem gk_both (h : Inv l b) (he : l.length % 2 = 0) : ∀ k, k ≤ l.length / 2 → ∀ i j, i < l.length → j < l.length → (gk (sgL b) k i j ↔ gk (sgL l) k i j)
  | 0, _, i, j, hi, hj => orb_both h hi hj
  | k + 1, hk, i, j, hi, hj => by
    have ih := gk_both h he k (by omega)
    show joinR _ _ _ i j ↔ joinR _ _ _ i j
    unfold joinR
    rw [ih i j hi hj, ih i (2 * k) hi (by omega), ih (2 * k + 1) j (by omega) hj, ih i (2 * k + 1) hi (by omega), ih (2 * k) j (by omega) hj]
theorem part_both (h : Inv l b) (he : l.length % 2 = 0) {i j : Nat} (hi : i < l.length) (hj : j < l.length) : part b i j ↔ part l i j := by
  have hl : b.length = l.length := h.len
  unfold part
  rw [hl]
  exact gk_both h he _ (Nat.le_refl _) i j hi hj
theorem least_both {n : Nat} {R S : Nat → Nat → Prop} (h : ∀ i j, i < n → j < n → (R i j ↔ S i j)) {d : Nat} (hd : d < n) : Least R d ↔ Least S d :=
  ⟨fun H j hj r => H j hj ((h j d (by omega) hd).2 r), fun H j hj r => H j hj ((h j d (by omega) hd).1 r)⟩
theorem pn_both {n : Nat} {R S : Nat → Nat → Prop} (h : ∀ i j, i < n → j < n → (R i j ↔ S i j)) : ∀ k, k ≤ n → pn R k = pn S k
  | 0, _ => rfl
  | k + 1, hk => by
    have ih := pn_both h k (by omega)
    have e := least_both h (show k < n by omega)
    by_cases c : Least R k
    · rw [(pn_next R k).1 c, (pn_next S k).1 (e.1 c), ih]
    · rw [(pn_next R k).2 c, (pn_next S k).2 (fun x => c (e.2 x)), ih]
theorem rep_both {n : Nat} {R S : Nat → Nat → Prop} (hR : Eqv n R) (hS : Eqv n S) (h : ∀ i j, i < n → j < n → (R i j ↔ S i j)) {i : Nat} (hi : i < n) : rep R i = rep S i := by
  obtain ⟨h1, h2, h3⟩ := rep_is hS hi
  have hp : rep S i < n := by omega
  exact rep_of hR hp hi ((h _ _ hp hi).2 h2) ((least_both h hp).2 h3)
theorem pq_both (h : Inv l b) (he : l.length % 2 = 0) {d : Nat} (hd : d < l.length) : pq b d = pq l d := by
  have hl : b.length = l.length := h.len
  have hb := part_eqv h.symm (by rw [hl]; exact he)
  rw [hl] at hb
  have hp := fun i j hi hj => part_both h he (i := i) (j := j) hi hj
  have e := rep_both hb (part_eqv h he) hp hd
  have := (rep_is (part_eqv h he) hd).1
  unfold pq prt
  rw [e]
  exact pn_both hp _ (by omega)
theorem pN_both (h : Inv l b) (he : l.length % 2 = 0) : pN b = pN l := by
  have hl : b.length = l.length := h.len
  unfold pN
  rw [hl]
  exact pn_both (fun i j hi hj => part_both h he hi hj) _ (Nat.le_refl _)
theorem leads_both (h : Inv l b) {d : Nat} (hd : d < l.length) : Leads b d ↔ Leads l d := by
  have hl : b.length = l.length := h.len
  rw [leads_least h (by omega), leads_least h.symm (by omega)]
  exact least_both (fun i j hi hj => orb_both h hi hj) hd
theorem phi_mirror (h : Inv l b) (he : l.length % 2 = 0) {i : Nat} (hi : i < l.length) : ∀ k, itf (sgL (phiL b)) k i = mt (itf (sgL (phiB l b)) k (mt i)) ∧ itf (sgL (phiB l b)) k (mt i) < l.length
  | 0 => ⟨by show i = mt (mt i); unfold mt; split <;> split <;> omega, mt_lt (m := l.length / 2) (by omega) hi⟩
  | k + 1 => by
    obtain ⟨e, lt⟩ := phi_mirror h he hi k
    have hl : b.length = l.length := h.len
    obtain ⟨x, hx⟩ : ∃ x, x = itf (sgL (phiB l b)) k (mt i) := ⟨_, rfl⟩
    rw [← hx] at e lt
    have hbl := h.symm.lt x (by rw [hl]; exact lt)
    rw [hl] at hbl
    have e2 : sgL (phiB l b) x = mt (b.getD x 0) := by
      unfold sgL phiB
      rw [comp_get _ _ _ (by rw [hl]; exact lt), mateL_get _ _ hbl, mt_mateN]
    refine ⟨?_, ?_⟩
    · show sgL (phiL b) (itf (sgL (phiL b)) k i) = mt (sgL (phiB l b) (itf (sgL (phiB l b)) k (mt i)))
      rw [e, ← hx, e2]
      have hm : mt x < b.length := by rw [hl]; exact mt_lt (m := l.length / 2) (by omega) lt
      show (phiL b).getD (mt x) 0 = _
      have mm : ∀ x, mt (mt x) = x := fun x => by unfold mt; split <;> split <;> omega
      rw [phiL_get _ _ hm, mt_mateN, mm, mm]
    · show sgL (phiB l b) (itf (sgL (phiB l b)) k (mt i)) < l.length
      rw [← hx, e2]
      exact mt_lt (m := l.length / 2) (by omega) hbl
theorem mt_mt (x : Nat) : mt (mt x) = x := by unfold mt; split <;> split <;> omega
theorem phi_orb (h : Inv l b) (he : l.length % 2 = 0) {i j : Nat} (hi : i < l.length) (hj : j < l.length) : Orb (sgL (phiL b)) i j ↔ Orb (sgL (phiL l)) (mt i) (mt j) := by
  have hp := phi_inv h he
  have hpl := phiL_len l
  have hmi : mt i < (phiL l).length := by rw [hpl]; exact mt_lt (m := l.length / 2) (by omega) hi
  have hmj : mt j < (phiL l).length := by rw [hpl]; exact mt_lt (m := l.length / 2) (by omega) hj
  rw [← orb_both hp hmi hmj]
  constructor
  · rintro ⟨k, e⟩
    refine ⟨k, ?_⟩
    rw [(phi_mirror h he hi k).1] at e
    rw [← e, mt_mt]
  · rintro ⟨k, e⟩
    refine ⟨k, ?_⟩
    rw [(phi_mirror h he hi k).1, e, mt_mt]
theorem pB_half (h : Inv l b) (he : l.length % 2 = 0) (j : Nat) : pB b j b.length ≤ pB l j l.length := by
  have hl : b.length = l.length := h.len
  have hp := phi_inv h he
  have hpf : Eqv l.length (Orb (sgL (phiL l))) := by have := (sgL_pf hp).eqv; rwa [phiL_len] at this
  have hpb := phi_inv h.symm (by rw [hl]; exact he)
  have e1 : pB b j b.length = num (fun d => (d < l.length ∧ pq l d = j) ∧ Least (fun x y => Orb (sgL (phiL l)) (mt x) (mt y)) d) l.length := by
    unfold pB
    rw [hl]
    refine num_congr fun d hd => ?_
    rw [pq_both h he hd, leads_least hpb (by rw [phiL_len]; omega), least_both (fun x y hx hy => phi_orb h he hx hy) hd]
    exact ⟨fun ⟨x, y⟩ => ⟨⟨hd, x⟩, y⟩, fun ⟨⟨_, x⟩, y⟩ => ⟨x, y⟩⟩
  have e2 : pB l j l.length = num (fun d => (d < l.length ∧ pq l d = j) ∧ Least (Orb (sgL (phiL l))) d) l.length := by
    unfold pB
    refine num_congr fun d hd => ?_
    rw [leads_least hp (by rw [phiL_len]; omega)]
    exact ⟨fun ⟨x, y⟩ => ⟨⟨hd, x⟩, y⟩, fun ⟨⟨_, x⟩, y⟩ => ⟨x, y⟩⟩
  rw [e1, e2]
  have hq := part_eqv h he
  have hpf2 := sgL_pf h
  refine cls_twist hpf mt (fun i hi => mt_lt (m := l.length / 2) (by omega) hi) (fun i _ => mt_mt i) (fun i hi => ?_) (fun x y hx hy o => ?_)
  · have hm : mt i < l.length := mt_lt (m := l.length / 2) (by omega) hi
    have : pq l (mt i) = pq l i := (prt_iff hq hm hi).2 (hq.symm _ _ hi hm (gk_mt hpf2 (by omega) i hi))
    rw [this]
    exact ⟨fun ⟨_, z⟩ => ⟨hi, z⟩, fun ⟨_, z⟩ => ⟨hm, z⟩⟩
  · have hfk : part l x y := by
      obtain ⟨k, e⟩ := o
      have hpf3 : PF l.length (sgL (phiL l)) := by have := sgL_pf hp; rwa [phiL_len] at this
      exact fk_sub hpf2 (by omega) _ (Nat.le_refl _) x y hx ⟨k, by rw [← (orb_congr hpf3 (fun i hi => phi_fk he hi) hx k).1]; exact e⟩
    have : pq l x = pq l y := (prt_iff hq hx hy).2 hfk
    rw [this]
    exact ⟨fun ⟨_, z⟩ => ⟨hy, z⟩, fun ⟨_, z⟩ => ⟨hx, z⟩⟩
theorem pB_both (h : Inv l b) (he : l.length % 2 = 0) (j : Nat) : pB b j b.length = pB l j l.length := by
  have hl : b.length = l.length := h.len
  exact Nat.le_antisymm (pB_half h he j) (pB_half h.symm (by rw [hl]; exact he) j)
theorem pV_both (h : Inv l b) (he : l.length % 2 = 0) (j : Nat) : pV b j b.length = pV l j l.length := by
  have hl : b.length = l.length := h.len
  unfold pV
  rw [hl]
  exact num_congr fun d hd => by rw [pq_both h he hd, leads_both h hd]
theorem pE_both (h : Inv l b) (he : l.length % 2 = 0) (j : Nat) : pE b j b.length = pE l j l.length := by
  have hl : b.length = l.length := h.len
  unfold pE
  rw [hl]
  exact num_congr fun d hd => by rw [pq_both h he hd]
theorem pG_both (h : Inv l b) (he : l.length % 2 = 0) (j : Nat) : pG b j = pG l j := by
  have e := pB_both h he j
  unfold pB at e
  unfold pG
  rw [pV_both h he, pE_both h he, e]
theorem rt_both (h : Inv l b) (he : l.length % 2 = 0) {j : Nat} (hj : j < pN l) : rt (part b) j = rt (part l) j := by
  have hp := fun i j hi hj => part_both h he (i := i) (j := j) hi hj
  obtain ⟨d, hd, H, e⟩ := part_has l l.length j hj
  have H2 := (least_both hp hd).2 H
  rw [← e, rt_of H, ← pn_both hp d (by omega), rt_of H2]
theorem partsC_both (h : Inv l b) (he : l.length % 2 = 0) (c : Nat) : partsC b c = partsC l c := by
  unfold partsC
  apply List.map_congr_left
  intro i _
  unfold pcL
  rw [pN_both h he]
  by_cases c : i / 5 < pN l
  · rw [if_pos c, if_pos c]
    unfold pc
    rw [rt_both h he c, pV_both h he, pE_both h he, pB_both h he, pG_both h he]
  · rw [if_neg c, if_neg c]
theorem leadsL_both (h : Inv l b) {k : Nat} (hk : k ≤ l.length) : leads b k = leads l k := by
  unfold leads
  apply List.filter_congr
  intro d hd
  have hd : d < k := by simpa using hd
  rw [decide_eq_decide]
  exact leads_both h (by omega)
theorem name_both (h : Inv l b) {x : Nat} (hx : x < l.length) : nameOf b x = nameOf l x := by
  have hl : b.length = l.length := h.len
  obtain ⟨h1, h2, h3⟩ := lead_is h hx
  have hlt : lead l x < l.length := by omega
  have hm : x ∈ orb b (lead l x) := by
    obtain ⟨t, e⟩ := (mem_orb h hlt).1 h3
    obtain ⟨t', e'⟩ := (orb_both h hlt hx).2 ⟨t, by rw [sgL_it]; exact e⟩
    exact (mem_orb h.symm (by omega)).2 ⟨t', by rw [← sgL_it]; exact e'⟩
  have e := lead_eq h.symm (by omega) (by omega) ((leads_both h hlt).2 h2) hm
  unfold nameOf
  rw [e, leadsL_both h (by omega)]
theorem ends_both (h : Inv l b) (he : l.length % 2 = 0) {e : Nat} (hE : e < l.length / 2) : lowE b e = lowE l e ∧ highE b e = highE l e := by
  unfold lowE highE
  rw [name_both h (show 2 * e < l.length by omega), name_both h (show 2 * e + 1 < l.length by omega)]
  exact ⟨rfl, rfl⟩
theorem loops_both (h : Inv l b) (he : l.length % 2 = 0) : loopsN b (b.length / 2) = loopsN l (l.length / 2) := by
  have hl : b.length = l.length := h.len
  rw [hl]
  unfold loopsN
  congr 1
  apply List.filter_congr
  intro e hE
  obtain ⟨h1, h2⟩ := ends_both h he (show e < l.length / 2 by simpa using hE)
  rw [h1, h2]
theorem dbl_both (h : Inv l b) (he : l.length % 2 = 0) : dblN b (b.length / 2) = dblN l (l.length / 2) := by
  have hl : b.length = l.length := h.len
  rw [hl]
  unfold dblN
  refine num_congr fun e hE => ?_
  obtain ⟨h1, h2⟩ := ends_both h he hE
  have : prN b (lowE b e) (highE b e) e = prN l (lowE l e) (highE l e) e := by
    unfold prN
    rw [h1, h2]
    refine num_congr fun f hf => ?_
    obtain ⟨g1, g2⟩ := ends_both h he (show f < l.length / 2 by omega)
    rw [g1, g2]
  rw [h1, h2] at this ⊢
  rw [this]
theorem sizes_both (h : Inv l b) : (sizes b).length = (sizes l).length := by
  have hl : b.length = l.length := h.len
  unfold sizes
  rw [sizesTo_len, sizesTo_len]
  unfold met
  rw [hl, leadsL_both h (Nat.le_refl _)]
theorem tri_it (l : List Nat) (d : Nat) : Tri l d ↔ itf (sgL (phiL l)) 1 d ≠ d ∧ itf (sgL (phiL l)) 3 d = d := Iff.rfl
theorem tri_half (h : Inv l b) (he : l.length % 2 = 0) (H : ∀ d, d < l.length → Tri l d) : ∀ d, d < b.length → Tri b d := fun d hd => by
  have hl : b.length = l.length := h.len
  rw [hl] at hd
  have hp := phi_inv h he
  have hm : mt d < l.length := mt_lt (m := l.length / 2) (by omega) hd
  have hm' : mt d < (phiL l).length := by rw [phiL_len]; exact hm
  rw [tri_it, (phi_mirror h he hd 1).1, (phi_mirror h he hd 3).1]
  obtain ⟨t1, t3⟩ := (tri_it l _).1 (H _ hm)
  have i1 := inv_it hp hm' 1
  have i3 := inv_it hp hm' 3
  rw [t3] at i3
  refine ⟨fun e => ?_, by rw [i3, mt_mt]⟩
  have e1 : itf (sgL (phiB l b)) 1 (mt d) = mt d := by have := congrArg mt e; rwa [mt_mt] at this
  have hb : (phiB l b).length = (phiL l).length := hp.len
  have pfb := sgL_pf hp.symm
  have lt1 : itf (sgL (phiL l)) 1 (mt d) < (phiB l b).length := by rw [hb]; exact (sgL_pf hp).itlt hm' 1
  exact t1 (pfb.inj _ _ lt1 (by rw [hb]; exact hm') (by
    show itf (sgL (phiB l b)) 1 (itf (sgL (phiL l)) 1 (mt d)) = itf (sgL (phiB l b)) 1 (mt d)
    rw [i1, e1]))
theorem genus_both (h : Inv l b) (he : l.length % 2 = 0) : genusN b = genusN l := by
  unfold genusN genusTo
  rw [pN_both h he]
  congr 1
  apply List.map_congr_left
  intro j _
  unfold pgen
  rw [pN_both h he, pG_both h he]
theorem triang_both (h : Inv l b) (he : l.length % 2 = 0) (lone : Nat) : TriangN b lone ↔ TriangN l lone := by
  have hl : b.length = l.length := h.len
  unfold TriangN
  rw [pN_both h he, sizes_both h, genus_both h he, loops_both h he, dbl_both h he]
  have e : (∀ d, d < b.length → Tri b d) ↔ ∀ d, d < l.length → Tri l d := ⟨fun H => tri_half h.symm (by rw [hl]; exact he) H, tri_half h he⟩
  rw [e]
end
end Go.Proofs.Ytfolefadjdcehaa
