/- The canonical map of a map of one part: mathematics. The parts in their order: mathematics. The canonical map of a map of any parts: mathematics. A part's darts, rising, stand for the darts of a map of its own: mathematics. The walk of a part, made a map of its own, is the part's walk: mathematics. -/
import Derived.Test.YtgcbdoljapnecaaGreatZg7
namespace Go.Proofs.YtgcbdoljapnecaaGreat
set_option maxRecDepth 20000
open Go.RowKit
set_option linter.unusedVariables false
set_option linter.unusedSimpArgs false
/-- The darts that a walk looks at. -/
noncomputable def wlk (l : List Nat) (r : Nat) : List Nat :=
  (List.range (wN (sgL l) (nameOf l) (l.length / 2) (orbits l).length r)).map fun j => (wrun (sgL l) (nameOf l) (l.length / 2) (orbits l).length r j).d
section
variable {l b : List Nat}
theorem one_nm (hl : Inv l b) : ∀ x y, x < l.length → y < l.length → (nameOf l x = nameOf l y ↔ Orb (sgL l) x y) := fun x y hx hy => name_iff hl hx hy
theorem wlk_lt (hl : Inv l b) (he : l.length % 2 = 0) {r : Nat} (hr : r < l.length) : ∀ d ∈ wlk l r, d < l.length := fun d hd => by
  obtain ⟨j, _, rfl⟩ := List.mem_map.1 hd
  exact (wok (sgL_pf hl) (show l.length = 2 * (l.length / 2) by omega) (one_nm hl) (fun x hx => name_lt hl hx) hr j).lt
theorem wlk_part (hl : Inv l b) (he : l.length % 2 = 0) {r d : Nat} (hr : r < l.length) (hd : d < l.length) : d ∈ wlk l r ↔ part l r d := by
  have k := wpart (sgL_pf hl) (show l.length = 2 * (l.length / 2) by omega) (one_nm hl) (fun x hx => name_lt hl hx) hr hd
  unfold part
  rw [k]
  unfold wlk
  rw [List.mem_map]
  exact ⟨fun ⟨j, hj, e⟩ => ⟨j, List.mem_range.1 hj, e⟩, fun ⟨j, hj, e⟩ => ⟨j, List.mem_range.2 hj, e⟩⟩
theorem wlk_head (hl : Inv l b) (he : l.length % 2 = 0) {r : Nat} (hr : r < l.length) : ∃ ds, wlk l r = r :: ds := by
  obtain ⟨n1, _⟩ := wN_is (sgL_pf hl) (show l.length = 2 * (l.length / 2) by omega) (one_nm hl) (fun x hx => name_lt hl hx) hr
  unfold wlk
  obtain ⟨N, hN⟩ : ∃ N, wN (sgL l) (nameOf l) (l.length / 2) (orbits l).length r = N + 1 := ⟨wN (sgL l) (nameOf l) (l.length / 2) (orbits l).length r - 1, by omega⟩
  rw [hN, List.range_succ_eq_map, List.map_cons]
  exact ⟨_, rfl⟩
theorem wlk_map {p q : List Nat} (h : Nam l.length p q) (hl : Inv l b) {r : Nat} (hr : r < l.length) : wlk (cjL p q l) (sgL p r) = (wlk l r).map (sgL p) := by
  have he := h.ev
  have hn : l.length = 2 * (l.length / 2) := by omega
  have hc := cj_inv h hl
  have hpr := h.lt hr
  have hs1 := sgL_pf hl
  have hs2 : PF l.length (sgL (cjL p q l)) := by have := sgL_pf hc; rwa [cjL_len] at this
  have nm2 : ∀ x y, x < l.length → y < l.length → (nameOf (cjL p q l) x = nameOf (cjL p q l) y ↔ Orb (sgL (cjL p q l)) x y) := by have := one_nm hc; rwa [cjL_len] at this
  have v2 : ∀ x, x < l.length → nameOf (cjL p q l) x < (orbits (cjL p q l)).length := fun x hx => name_lt hc (by rw [cjL_len]; exact hx)
  have key := fun j => (wrun_map h.inc hn hn (sg := sgL l) (sg' := sgL (cjL p q l)) (nm := nameOf l) (nm' := nameOf (cjL p q l)) (fun d hd => hl.lt d hd) (fun d hd => cj_at h hd) (fun x y hx hy => cj_name h hl hx hy) (fun d hd => name_lt hl hd) v2 hr j).1
  obtain ⟨a1, a2, a3, a4⟩ := wN_is hs1 hn (one_nm hl) (fun x hx => name_lt hl hx) hr
  obtain ⟨b1, b2, b3, b4⟩ := wN_is hs2 hn nm2 v2 hpr
  have eN : wN (sgL (cjL p q l)) (nameOf (cjL p q l)) (l.length / 2) (orbits (cjL p q l)).length (sgL p r) = wN (sgL l) (nameOf l) (l.length / 2) (orbits l).length r := by
    refine Nat.le_antisymm ?_ ?_
    · refine Nat.le_of_not_lt fun c => b4 _ a1 c ?_
      rw [(key _).d, a3]
    · refine Nat.le_of_not_lt fun c => a4 _ b1 c ?_
      have k := (key (wN (sgL (cjL p q l)) (nameOf (cjL p q l)) (l.length / 2) (orbits (cjL p q l)).length (sgL p r))).d
      rw [b3] at k
      exact h.inc.inj _ _ (key _).lt hr k.symm
  unfold wlk
  rw [cjL_len, eN, List.map_map]
  exact List.map_congr_left fun j _ => (key j).d
/-- The names P are those of l's walk from r. -/
structure CanN (l : List Nat) (r : Nat) (P Q : List Nat) : Prop where
  nam : Nam l.length P Q
  is : (lookL l.length (wlk l r)).1 = ofN P
theorem CanN.root {r : Nat} {P Q : List Nat} (h : CanN l r P Q) (hl : Inv l b) (hr : r < l.length) : sgL P r = 0 := by
  have he := h.nam.ev
  obtain ⟨ds, e⟩ := wlk_head hl he hr
  have hlt := wlk_lt hl he hr
  have k := (LK.start l.length).first he ds hr (fun d hd => hlt d (by rw [e]; exact List.mem_cons_of_mem _ hd)) (by simp [List.getD_eq_getElem?_getD, hr])
  have g : (lookL l.length (wlk l r)).1.getD r 0 = ((0 : Nat) : Int) := by rw [e]; exact k
  rw [h.is, ofN_get] at g
  have : ((sgL P r : Nat) : Int) = ((0 : Nat) : Int) := g
  omega
theorem CanN.turn {l' p q : List Nat} {r r' : Nat} {P Q P' Q' : List Nat} (h : CanN l r P Q) (h' : CanN l' r' P' Q') (hl : Inv l b) (hr : r < l.length) (t : Trn l l' r r' p q) : (∀ d, d < l.length → sgL P' (sgL p d) = sgL P d) ∧ cjL P' Q' l' = cjL P Q l := by
  obtain ⟨hN, rfl, rfl⟩ := t
  have hn' : Nam l.length P' Q' := by have := h'.nam; rwa [cjL_len] at this
  have e1 := h'.is
  rw [cjL_len, wlk_map hN hl hr] at e1
  have lm := (look_map hN (wlk l r) (wlk_lt hl hN.ev hr)).2
  rw [e1, h.is] at lm
  have he : ∀ d, d < l.length → sgL P' (sgL p d) = sgL P d := fun d hd => by
    have := lm d hd
    rw [ofN_get, ofN_get] at this
    have k : ((sgL P' (sgL p d) : Nat) : Int) = ((sgL P d : Nat) : Int) := this
    omega
  exact ⟨he, cj_once hN h.nam hn' (fun d hd => hl.lt d hd) he⟩
/-- Two maps of one part have one canonical map just if the one is taken to the other. -/
theorem CanN.iff {l' b' : List Nat} {r r' : Nat} {P Q P' Q' : List Nat} (h : CanN l r P Q) (h' : CanN l' r' P' Q') (hl : Inv l b) (hl' : Inv l' b') (hr : r < l.length) (hr' : r' < l'.length) : cjL P' Q' l' = cjL P Q l ↔ ∃ p q, Trn l l' r r' p q := by
  constructor
  · intro e
    exact ⟨_, _, Trn.ofSame hl hl' hr hr' ⟨h.nam, rfl, h.root hl hr⟩ ⟨h'.nam, e, h'.root hl' hr'⟩⟩
  · rintro ⟨p, q, t⟩
    exact (h.turn h' hl hr t).2
/-- The canonical map of a canonical map: itself, by the names that it has. -/
theorem CanN.again {r : Nat} {P Q P' Q' : List Nat} (h : CanN l r P Q) (h' : CanN (cjL P Q l) (sgL P r) P' Q') (hl : Inv l b) (hr : r < l.length) : (∀ d, d < l.length → sgL P' d = d) ∧ cjL P' Q' (cjL P Q l) = cjL P Q l := by
  obtain ⟨k1, k2⟩ := h.turn h' hl hr ⟨h.nam, rfl, rfl⟩
  refine ⟨fun d hd => ?_, k2⟩
  have := k1 _ (h.nam.lt' hd)
  rwa [h.nam.pq hd] at this
end
end Go.Proofs.YtgcbdoljapnecaaGreat
namespace Go.Proofs.YtgcbdoljapnecaaGreat
set_option maxRecDepth 20000
open Go.RowKit
set_option linter.unusedVariables false
set_option linter.unusedSimpArgs false
section
variable {l b : List Nat}
theorem part_mt (hl : Inv l b) (he : l.length % 2 = 0) {d : Nat} (hd : d < l.length) : part l d (mt d) := by
  unfold part; exact gk_mt (sgL_pf hl) (by omega) _ hd
/-- Walked one after another, the parts have names one after another, each beginning with its first dart's. -/
theorem parts_order (hl : Inv l b) (he : l.length % 2 = 0) : ∀ (st : List Nat) (y : List Int) (nx : Nat) (z : List Nat), LK l.length y nx z → (∀ s ∈ st, s < l.length ∧ ∀ d, d < l.length → part l s d → y.getD d 0 = -1) → st.Pairwise (fun s s' => ¬ part l s s') →
    st.Pairwise (fun s s' => (((st.flatMap (wlk l)).foldl lookS (y, nx)).1.getD s 0 < ((st.flatMap (wlk l)).foldl lookS (y, nx)).1.getD s' 0)) ∧
    ∀ s ∈ st, (nx : Int) ≤ ((st.flatMap (wlk l)).foldl lookS (y, nx)).1.getD s 0 ∧ ∀ d, d < l.length → part l s d → ((st.flatMap (wlk l)).foldl lookS (y, nx)).1.getD s 0 ≤ ((st.flatMap (wlk l)).foldl lookS (y, nx)).1.getD d 0
  | [], y, nx, z, _, _, _ => ⟨List.Pairwise.nil, fun s hs => by cases hs⟩
  | s :: st, y, nx, z, h, hst, hpw => by
    have hq := part_eqv hl he
    obtain ⟨hs, hun⟩ := hst s (List.mem_cons_self ..)
    have hsu := hun s hs (hq.refl s hs)
    have hwl := wlk_lt hl he hs
    obtain ⟨ds, hds⟩ := wlk_head hl he hs
    rw [List.pairwise_cons] at hpw
    obtain ⟨hp1, hp2⟩ := hpw
    have M := LK.more he (wlk l s) y nx z hwl h
    obtain ⟨⟨z', hz'⟩, mle, mkeep, mlate, miff⟩ := M
    have T1 : ((wlk l s).foldl lookS (y, nx)).1.getD s 0 = (nx : Int) := by
      rw [hds]; exact h.first he ds hs (fun d hd => hwl d (by rw [hds]; exact List.mem_cons_of_mem _ hd)) hsu
    have T2 := hz'.named hs (by rw [T1]; omega)
    rw [T1] at T2
    have hlt' : ∀ d ∈ st.flatMap (wlk l), d < l.length := fun d hd => by
      obtain ⟨s', hs', hd'⟩ := List.mem_flatMap.1 hd
      exact wlk_lt hl he (hst s' (List.mem_cons_of_mem _ hs')).1 d hd'
    have hst' : ∀ s' ∈ st, s' < l.length ∧ ∀ d, d < l.length → part l s' d → ((wlk l s).foldl lookS (y, nx)).1.getD d 0 = -1 := fun s' hs' => by
      obtain ⟨k1, k2⟩ := hst s' (List.mem_cons_of_mem _ hs')
      refine ⟨k1, fun d hd hp => Classical.byContradiction fun c => ?_⟩
      have hmd := mt_in he hd
      have hn := hp1 s' hs'
      rcases (miff d hd).1 c with c | c | c
      · exact c (k2 d hd hp)
      · exact hn (hq.trans _ _ _ hs hd k1 ((wlk_part hl he hs hd).1 c) (hq.symm _ _ k1 hd hp))
      · exact hn (hq.trans _ _ _ hs hmd k1 ((wlk_part hl he hs hmd).1 c) (hq.trans _ _ _ hmd hd k1 (hq.symm _ _ hd hmd (part_mt hl he hd)) (hq.symm _ _ k1 hd hp)))
    obtain ⟨I1, I2⟩ := parts_order hl he st _ _ z' hz' hst' hp2
    have M2 := LK.more he (st.flatMap (wlk l)) _ _ z' hlt' hz'
    have eF : ((s :: st).flatMap (wlk l)).foldl lookS (y, nx) = (st.flatMap (wlk l)).foldl lookS ((wlk l s).foldl lookS (y, nx)) := by
      rw [List.flatMap_cons, List.foldl_append]
    have hall : ∀ d ∈ (s :: st).flatMap (wlk l), d < l.length := fun d hd => by
      rw [List.flatMap_cons, List.mem_append] at hd
      exact hd.elim (hwl d) (hlt' d)
    have MW := LK.more he ((s :: st).flatMap (wlk l)) y nx z hall h
    rw [eF] at MW ⊢
    have F1 : ((st.flatMap (wlk l)).foldl lookS ((wlk l s).foldl lookS (y, nx))).1.getD s 0 = (nx : Int) := by
      rw [M2.keep s hs (by show List.getD _ s 0 ≠ -1; rw [T1]; omega)]; exact T1
    refine ⟨List.Pairwise.cons (fun s' hs' => ?_) I1, fun s' hs' => ?_⟩
    · have k := (I2 s' hs').1
      rw [F1]
      have k' : ((((wlk l s).foldl lookS (y, nx)).2 : Nat) : Int) ≤ ((st.flatMap (wlk l)).foldl lookS ((wlk l s).foldl lookS (y, nx))).1.getD s' 0 := k
      omega
    · rcases List.mem_cons.1 hs' with c | c
      · subst c
        refine ⟨by rw [F1]; exact Int.le_refl _, fun d hd hp => ?_⟩
        rw [F1]
        rcases MW.late d hd (hun d hd hp) with k | k
        · exact absurd k ((MW.iff d hd).2 (.inr (.inl (List.mem_flatMap.2 ⟨s', List.mem_cons_self .., (wlk_part hl he hs hd).2 hp⟩))))
        · exact k.1
      · obtain ⟨k1, k2⟩ := I2 s' c
        have k1' : ((((wlk l s).foldl lookS (y, nx)).2 : Nat) : Int) ≤ ((st.flatMap (wlk l)).foldl lookS ((wlk l s).foldl lookS (y, nx))).1.getD s' 0 := k1
        exact ⟨by omega, k2⟩
end
end Go.Proofs.YtgcbdoljapnecaaGreat
namespace Go.Proofs.YtgcbdoljapnecaaGreat
set_option maxRecDepth 20000
open Go.RowKit
set_option linter.unusedVariables false
set_option linter.unusedSimpArgs false
theorem sorted_eq : ∀ a b : List Nat, a.Pairwise (· < ·) → b.Pairwise (· < ·) → (∀ x, x ∈ a ↔ x ∈ b) → a = b
  | [], [], _, _, _ => rfl
  | [], y :: b, _, _, h => absurd ((h y).2 (List.mem_cons_self ..)) (by simp)
  | x :: a, [], _, _, h => absurd ((h x).1 (List.mem_cons_self ..)) (by simp)
  | x :: a, y :: b, ha, hb, h => by
    rw [List.pairwise_cons] at ha hb
    have hxy : x = y := by
      rcases List.mem_cons.1 ((h x).1 (List.mem_cons_self ..)) with c | c
      · exact c
      · rcases List.mem_cons.1 ((h y).2 (List.mem_cons_self ..)) with k | k
        · exact k.symm
        · have := ha.1 y k
          have := hb.1 x c
          omega
    subst hxy
    rw [sorted_eq a b ha.2 hb.2 fun z => ⟨fun hz => ?_, fun hz => ?_⟩]
    · rcases List.mem_cons.1 ((h z).1 (List.mem_cons_of_mem _ hz)) with c | c
      · have := ha.1 z hz; omega
      · exact c
    · rcases List.mem_cons.1 ((h z).2 (List.mem_cons_of_mem _ hz)) with c | c
      · have := hb.1 z hz; omega
      · exact c
open Classical in
/-- The darts that the parts are walked from, in their order. -/
noncomputable def starts (l : List Nat) (r : Nat) : List Nat := r :: (List.range l.length).filter fun d => decide (Least (part l) d ∧ ¬ part l r d)
section
variable {l b : List Nat}
theorem starts_mem {r d : Nat} : d ∈ starts l r ↔ d = r ∨ (d < l.length ∧ Least (part l) d ∧ ¬ part l r d) := by
  simp [starts]
theorem starts_lt {r : Nat} (hr : r < l.length) : ∀ s ∈ starts l r, s < l.length := fun s hs => by
  rcases starts_mem.1 hs with c | c
  · rw [c]; exact hr
  · exact c.1
theorem starts_pw {r : Nat} : (starts l r).Pairwise (fun s s' => ¬ part l s s') := by
  unfold starts
  refine List.Pairwise.cons (fun s hs => ?_) ?_
  · simp at hs; exact hs.2.2
  · refine List.Pairwise.imp_of_mem (fun {a c} ha hc hac => ?_) (List.pairwise_lt_range.filter _)
    simp at hc
    exact hc.2.1 a hac
theorem starts_all (hl : Inv l b) (he : l.length % 2 = 0) {r : Nat} (hr : r < l.length) {d : Nat} (hd : d < l.length) : ∃ s ∈ starts l r, part l s d := by
  have hq := part_eqv hl he
  by_cases c : part l r d
  · exact ⟨r, starts_mem.2 (.inl rfl), c⟩
  · obtain ⟨N, hN, hp, hle⟩ := least_k (p := fun k => part l k d) d (hq.refl d hd)
    have hNl : N < l.length := by omega
    exact ⟨N, starts_mem.2 (.inr ⟨hNl, fun j hj hpj => hle j hj (hq.trans _ _ _ (by omega) hNl hd hpj hp), fun hrN => c (hq.trans _ _ _ hr hNl hd hrN hp)⟩), hp⟩
/-- The names P are the canonical ones. -/
structure CanA (l : List Nat) (r : Nat) (P Q : List Nat) : Prop where
  nam : Nam l.length P Q
  is : (lookL l.length ((starts l r).flatMap (wlk l))).1 = ofN P
theorem looks_lt (hl : Inv l b) (he : l.length % 2 = 0) {r : Nat} (hr : r < l.length) : ∀ d ∈ (starts l r).flatMap (wlk l), d < l.length := fun d hd => by
  obtain ⟨s, hs, hd'⟩ := List.mem_flatMap.1 hd
  exact wlk_lt hl he (starts_lt hr s hs) d hd'
theorem canA_is (hl : Inv l b) (he : l.length % 2 = 0) {r : Nat} (hr : r < l.length) : ∃ P Q, CanA l r P Q := by
  obtain ⟨P, Q, e, h⟩ := look_all he _ (looks_lt hl he hr) fun d hd => by
    obtain ⟨s, hs, hp⟩ := starts_all hl he hr hd
    exact .inl (List.mem_flatMap.2 ⟨s, hs, (wlk_part hl he (starts_lt hr s hs) hd).2 hp⟩)
  exact ⟨P, Q, h, e⟩
theorem CanA.least {r : Nat} {P Q : List Nat} (h : CanA l r P Q) (hl : Inv l b) (hr : r < l.length) {s d : Nat} (hs : s ∈ starts l r) (hd : d < l.length) (hp : part l s d) : sgL P s ≤ sgL P d := by
  have he := h.nam.ev
  have k := ((parts_order hl he (starts l r) _ _ _ (LK.start l.length) (fun s hs => ⟨starts_lt hr s hs, fun d hd _ => by simp [List.getD_eq_getElem?_getD, hd]⟩) starts_pw).2 s hs).2 d hd hp
  have e : ((starts l r).flatMap (wlk l)).foldl lookS (List.replicate l.length (-1), 0) = lookL l.length ((starts l r).flatMap (wlk l)) := rfl
  rw [e, h.is, ofN_get, ofN_get] at k
  have k' : ((sgL P s : Nat) : Int) ≤ ((sgL P d : Nat) : Int) := k
  omega
theorem CanA.rises {r : Nat} {P Q : List Nat} (h : CanA l r P Q) (hl : Inv l b) (hr : r < l.length) : (starts l r).Pairwise (fun s s' => sgL P s < sgL P s') := by
  have he := h.nam.ev
  have k := (parts_order hl he (starts l r) _ _ _ (LK.start l.length) (fun s hs => ⟨starts_lt hr s hs, fun d hd _ => by simp [List.getD_eq_getElem?_getD, hd]⟩) starts_pw).1
  have e : ((starts l r).flatMap (wlk l)).foldl lookS (List.replicate l.length (-1), 0) = lookL l.length ((starts l r).flatMap (wlk l)) := rfl
  rw [e, h.is] at k
  refine k.imp fun {s s'} k => ?_
  rw [ofN_get, ofN_get] at k
  have k' : ((sgL P s : Nat) : Int) < ((sgL P s' : Nat) : Int) := k
  omega
/-- By the canonical names the parts are walked in the same order. -/
theorem CanA.starts {r : Nat} {P Q : List Nat} (h : CanA l r P Q) (hl : Inv l b) (hr : r < l.length) : starts (cjL P Q l) (sgL P r) = (Go.Proofs.YtgcbdoljapnecaaGreat.starts l r).map (sgL P) := by
  have he := h.nam.ev
  have hq := part_eqv hl he
  have hri := h.rises hl hr
  have hle := fun {s d : Nat} (hs : s ∈ Go.Proofs.YtgcbdoljapnecaaGreat.starts l r) (hd : d < l.length) (hp : part l s d) => h.least hl hr hs hd hp
  have hal := fun {d : Nat} (hd : d < l.length) => starts_all hl he hr hd
  have hmem := fun {d : Nat} => @starts_mem l r d
  have e0 : Go.Proofs.YtgcbdoljapnecaaGreat.starts l r = r :: (Go.Proofs.YtgcbdoljapnecaaGreat.starts l r).tail := rfl
  have e1 : Go.Proofs.YtgcbdoljapnecaaGreat.starts (cjL P Q l) (sgL P r) = sgL P r :: (Go.Proofs.YtgcbdoljapnecaaGreat.starts (cjL P Q l) (sgL P r)).tail := rfl
  have ht : ∀ d, d ∈ (Go.Proofs.YtgcbdoljapnecaaGreat.starts l r).tail ↔ d < l.length ∧ Least (part l) d ∧ ¬ part l r d := fun d => by simp [Go.Proofs.YtgcbdoljapnecaaGreat.starts]
  have ht' : ∀ d, d ∈ (Go.Proofs.YtgcbdoljapnecaaGreat.starts (cjL P Q l) (sgL P r)).tail ↔ d < l.length ∧ Least (part (cjL P Q l)) d ∧ ¬ part (cjL P Q l) (sgL P r) d := fun d => by simp [Go.Proofs.YtgcbdoljapnecaaGreat.starts, cjL_len]
  rw [e1, e0, List.map_cons]
  congr 1
  refine sorted_eq _ _ ?_ ?_ fun x => ?_
  · show List.Pairwise _ (List.filter _ _)
    exact List.pairwise_lt_range.filter _
  · rw [e0, List.pairwise_cons] at hri
    exact List.pairwise_map.2 hri.2
  · rw [ht', List.mem_map]
    constructor
    · rintro ⟨hx, hL, hn⟩
      have hd := h.nam.lt' hx
      have hPd := h.nam.pq hx
      obtain ⟨s, hs, hp⟩ := hal hd
      have hsl := starts_lt hr s hs
      have k := hle hs hd hp
      have hc := (cj_part h.nam hl hsl hd).2 hp
      rw [hPd] at k hc
      have ePs : sgL P s = x := by
        rcases Nat.lt_or_ge (sgL P s) x with c | c
        · exact absurd hc (hL _ c)
        · omega
      rcases hmem.1 hs with c | c
      · refine absurd ?_ hn
        rw [← c]; exact hc
      · exact ⟨s, (ht s).2 c, ePs⟩
    · rintro ⟨d, hd, rfl⟩
      have hd' := (ht d).1 hd
      have hds : d ∈ Go.Proofs.YtgcbdoljapnecaaGreat.starts l r := hmem.2 (.inr hd')
      refine ⟨h.nam.lt hd'.1, fun j hj hp => ?_, fun hp => hd'.2.2 ((cj_part h.nam hl hr hd'.1).1 hp)⟩
      have hjl : j < l.length := Nat.lt_trans hj (h.nam.lt hd'.1)
      have hq' := h.nam.lt' hjl
      have hPj := h.nam.pq hjl
      rw [← hPj] at hp
      have := hle hds hq' (hq.symm _ _ hq' hd'.1 ((cj_part h.nam hl hq' hd'.1).1 hp))
      rw [hPj] at this
      omega
theorem CanA.looks {r : Nat} {P Q : List Nat} (h : CanA l r P Q) (hl : Inv l b) (hr : r < l.length) : (Go.Proofs.YtgcbdoljapnecaaGreat.starts (cjL P Q l) (sgL P r)).flatMap (wlk (cjL P Q l)) = ((Go.Proofs.YtgcbdoljapnecaaGreat.starts l r).flatMap (wlk l)).map (sgL P) := by
  rw [h.starts hl hr, List.flatMap_map, List.map_flatMap]
  have hlt := fun s hs => starts_lt (l := l) hr s hs
  generalize Go.Proofs.YtgcbdoljapnecaaGreat.starts l r = st at hlt
  induction st with
  | nil => rfl
  | cons s st ih =>
    rw [List.flatMap_cons, List.flatMap_cons, ih fun s' hs' => hlt s' (List.mem_cons_of_mem _ hs')]
    congr 1
    exact wlk_map h.nam hl (hlt s (List.mem_cons_self ..))
/-- The canonical names of the canonical map are those that it has. -/
theorem CanA.again {r : Nat} {P Q P' Q' : List Nat} (h : CanA l r P Q) (h' : CanA (cjL P Q l) (sgL P r) P' Q') (hl : Inv l b) (hr : r < l.length) : P' = List.range l.length := by
  have k := h'.is
  rw [cjL_len, h.looks hl hr, look_self h.nam _ (looks_lt hl h.nam.ev hr) h.is] at k
  have hlen := h'.nam.len
  rw [cjL_len] at hlen
  refine getDN_extC (by rw [hlen, List.length_range]) fun i hi => ?_
  have := congrArg (fun y => y.getD i 0) k
  simp only [ofN_get] at this
  omega
/-- And the canonical map of a canonical map is itself. -/
theorem CanA.own {r : Nat} {P Q P' Q' : List Nat} (h : CanA l r P Q) (h' : CanA (cjL P Q l) (sgL P r) P' Q') (hl : Inv l b) (hr : r < l.length) : cjL P' Q' (cjL P Q l) = cjL P Q l := by
  have e := h.again h' hl hr
  have hn := h'.nam
  rw [cjL_len] at hn
  have g : ∀ i, i < l.length → sgL P' i = i := fun i hi => by rw [e]; simp [sgL, List.getD_eq_getElem?_getD, hi]
  have g' : ∀ i, i < l.length → sgL Q' i = i := fun i hi => by
    have := hn.pq hi
    rwa [g _ (hn.lt' hi)] at this
  have hc := cj_inv h.nam hl
  refine getDN_extC (by rw [cjL_len]) fun i hi => ?_
  rw [cjL_len, cjL_len] at hi
  have e1 : (cjL P' Q' (cjL P Q l)).getD i 0 = sgL P' (sgL (cjL P Q l) (sgL Q' i)) := cjL_get _ _ _ (by rw [cjL_len]; exact hi)
  rw [e1, g' i hi]
  refine g _ ?_
  have := hc.lt i (by rw [cjL_len]; exact hi)
  rwa [cjL_len] at this
/-- Of one part: the names by its walk. -/
theorem CanA.one {r : Nat} {P Q : List Nat} (h : CanA l r P Q) (hl : Inv l b) (hr : r < l.length) (hp : ∀ j, j < l.length → part l r j) : CanN l r P Q := by
  refine ⟨h.nam, ?_⟩
  have e : Go.Proofs.YtgcbdoljapnecaaGreat.starts l r = [r] := by
    show r :: List.filter _ _ = [r]
    rw [List.filter_eq_nil_iff.2 fun d hd => ?_]
    simp only [decide_eq_true_eq]
    exact fun k => k.2 (hp d (List.mem_range.1 hd))
  have k := h.is
  rw [e, List.flatMap_cons, List.flatMap_nil, List.append_nil] at k
  exact k
end
end Go.Proofs.YtgcbdoljapnecaaGreat
namespace Go.Proofs.YtgcbdoljapnecaaGreat
set_option maxRecDepth 20000
open Go.RowKit
set_option linter.unusedVariables false
set_option linter.unusedSimpArgs false
def bothD (E : List Nat) : List Nat := E.flatMap fun e => [2 * e, 2 * e + 1]
theorem bothD_len : ∀ E : List Nat, (bothD E).length = 2 * E.length
  | [] => rfl
  | e :: E => by
    have := bothD_len E
    unfold bothD at this ⊢
    rw [List.flatMap_cons, List.length_append, this]
    simp only [List.length_cons, List.length_nil]
    omega
theorem bothD_get : ∀ (E : List Nat) (i : Nat), i < 2 * E.length → (bothD E).getD i 0 = 2 * E.getD (i / 2) 0 + i % 2
  | [], i, h => by simp at h
  | e :: E, 0, h => by simp [bothD]
  | e :: E, 1, h => by simp [bothD]
  | e :: E, i + 2, h => by
    have ih := bothD_get E i (by simp only [List.length_cons] at h; omega)
    have e1 : (bothD (e :: E)).getD (i + 2) 0 = (bothD E).getD i 0 := by
      unfold bothD
      rw [List.flatMap_cons]
      simp [List.getD_eq_getElem?_getD]
    have e2 : (e :: E).getD ((i + 2) / 2) 0 = E.getD (i / 2) 0 := by
      rw [show (i + 2) / 2 = i / 2 + 1 by omega]
      simp [List.getD_eq_getElem?_getD]
    rw [e1, e2, ih]
    omega
theorem bothD_mem {E : List Nat} {d : Nat} : d ∈ bothD E ↔ d / 2 ∈ E := by
  unfold bothD
  rw [List.mem_flatMap]
  constructor
  · rintro ⟨e, he, hd⟩
    simp only [List.mem_cons, List.not_mem_nil, or_false] at hd
    rwa [show d / 2 = e by omega]
  · exact fun h => ⟨d / 2, h, by simp only [List.mem_cons, List.not_mem_nil, or_false]; omega⟩
theorem bothD_rises : ∀ {E : List Nat}, E.Pairwise (· < ·) → (bothD E).Pairwise (· < ·)
  | [], _ => List.Pairwise.nil
  | e :: E, h => by
    rw [List.pairwise_cons] at h
    have ih := bothD_rises h.2
    have hm : ∀ d ∈ bothD E, 2 * e + 1 < d := fun d hd => by have := h.1 _ (bothD_mem.1 hd); omega
    show List.Pairwise _ ((2 * e) :: (2 * e + 1) :: bothD E)
    refine List.Pairwise.cons (fun d hd => ?_) (List.Pairwise.cons hm ih)
    rcases List.mem_cons.1 hd with c | c
    · omega
    · have := hm d c; omega
theorem rises_get {D : List Nat} (h : D.Pairwise (· < ·)) {i j : Nat} (hij : i < j) (hj : j < D.length) : D.getD i 0 < D.getD j 0 := by
  have := List.pairwise_iff_getElem.1 h i j (by omega) hj hij
  rw [List.getD_eq_getElem?_getD, List.getD_eq_getElem?_getD, List.getElem?_eq_getElem hj, List.getElem?_eq_getElem (show i < D.length by omega)]
  exact this
open Classical in
/-- A part's darts, rising. -/
noncomputable def own (l : List Nat) (r : Nat) : List Nat := (List.range l.length).filter fun d => decide (part l r d)
section
variable {l b : List Nat}
theorem own_mem {r d : Nat} : d ∈ own l r ↔ d < l.length ∧ part l r d := by simp [own]
open Classical in
theorem own_both (hl : Inv l b) (he : l.length % 2 = 0) {r : Nat} (hr : r < l.length) : ∃ E : List Nat, own l r = bothD E ∧ E.Pairwise (· < ·) := by
  have hq := part_eqv hl he
  have hE : ((List.range (l.length / 2)).filter fun e => decide (part l r (2 * e))).Pairwise (· < ·) := List.pairwise_lt_range.filter _
  refine ⟨(List.range (l.length / 2)).filter fun e => decide (part l r (2 * e)), sorted_eq _ _ (List.pairwise_lt_range.filter _) (bothD_rises hE) fun d => ?_, hE⟩
  rw [own_mem, bothD_mem, List.mem_filter, List.mem_range]
  simp only [decide_eq_true_eq]
  have key : d < l.length → (part l r d ↔ part l r (2 * (d / 2))) := fun hd => by
    by_cases c : d % 2 = 0
    · rw [show 2 * (d / 2) = d by omega]
    · have hm : mt d = 2 * (d / 2) := by unfold mt; rw [if_neg c]; omega
      have hmd := mt_in he hd
      rw [← hm]
      exact ⟨fun p => hq.trans _ _ _ hr hd hmd p (part_mt hl he hd), fun p => hq.trans _ _ _ hr hmd hd p (hq.symm _ _ hd hmd (part_mt hl he hd))⟩
  exact ⟨fun ⟨h1, h2⟩ => ⟨by omega, (key h1).1 h2⟩, fun ⟨h1, h2⟩ => ⟨by omega, (key (by omega)).2 h2⟩⟩
/-- Mates stand side by side there, too. -/
theorem own_inc (hl : Inv l b) (he : l.length % 2 = 0) {r : Nat} (hr : r < l.length) : Inc (own l r).length l.length (sgL (own l r)) := by
  obtain ⟨E, hE, hp⟩ := own_both hl he hr
  have hD := bothD_rises hp
  have hlen := bothD_len E
  have hlt : ∀ d ∈ own l r, d < l.length := fun d hd => (own_mem.1 hd).1
  rw [hE] at hlt ⊢
  refine ⟨by omega, fun x hx => hlt _ ?_, fun x hx => ?_, fun x y hx hy e => ?_⟩
  · show (bothD E).getD x 0 ∈ _
    rw [List.getD_eq_getElem?_getD, List.getElem?_eq_getElem hx]
    exact List.getElem_mem hx
  · have hm := mt_in (n := (bothD E).length) (by omega) hx
    have e1 : sgL (bothD E) x = 2 * E.getD (x / 2) 0 + x % 2 := bothD_get E x (by omega)
    have e2 : sgL (bothD E) (Go.Proofs.YtgcbdoljapnecaaGreat.mt x) = 2 * E.getD (Go.Proofs.YtgcbdoljapnecaaGreat.mt x / 2) 0 + Go.Proofs.YtgcbdoljapnecaaGreat.mt x % 2 := bothD_get E _ (by omega)
    have e3 : Go.Proofs.YtgcbdoljapnecaaGreat.mt x / 2 = x / 2 := by unfold Go.Proofs.YtgcbdoljapnecaaGreat.mt; split <;> omega
    rw [e1, e2, e3]
    unfold Go.Proofs.YtgcbdoljapnecaaGreat.mt
    by_cases c : x % 2 = 0
    · rw [if_pos c, if_pos (by omega)]; omega
    · rw [if_neg c, if_neg (by omega)]; omega
  · have e' : (bothD E).getD x 0 = (bothD E).getD y 0 := e
    rcases Nat.lt_trichotomy x y with c | c | c
    · have := rises_get hD c hy; omega
    · exact c
    · have := rises_get hD c hx; omega
end
end Go.Proofs.YtgcbdoljapnecaaGreat
namespace Go.Proofs.YtgcbdoljapnecaaGreat
set_option maxRecDepth 20000
open Go.RowKit
set_option linter.unusedVariables false
set_option linter.unusedSimpArgs false
/-- A is the map that lies in l at the darts that g gives. -/
structure Lies (l A : List Nat) (g : Nat → Nat) : Prop where
  inc : Inc A.length l.length g
  sig : ∀ i, i < A.length → g (sgL A i) = sgL l (g i)
section
variable {l b A B : List Nat} {g : Nat → Nat}
theorem Lies.it (h : Lies l A g) (hA : Inv A B) {i : Nat} (hi : i < A.length) : ∀ k, itf (sgL l) k (g i) = g (itf (sgL A) k i)
  | 0 => rfl
  | k + 1 => by
    have ih := h.it hA hi k
    show sgL l (itf (sgL l) k (g i)) = g (sgL A (itf (sgL A) k i))
    rw [ih, h.sig _ ((sgL_pf hA).itlt hi k)]
theorem Lies.orb (h : Lies l A g) (hA : Inv A B) {i j : Nat} (hi : i < A.length) (hj : j < A.length) : Orb (sgL l) (g i) (g j) ↔ Orb (sgL A) i j := by
  constructor
  · rintro ⟨k, e⟩
    rw [h.it hA hi] at e
    exact ⟨k, h.inc.inj _ _ ((sgL_pf hA).itlt hi k) hj e⟩
  · rintro ⟨k, e⟩
    exact ⟨k, by rw [h.it hA hi, e]⟩
theorem Lies.walk (h : Lies l A g) (hA : Inv A B) (hl : Inv l b) (he : l.length % 2 = 0) {r : Nat} (hr : r < A.length) : (wlk A r).map g = wlk l (g r) := by
  have hev := h.inc.ev
  have hn : A.length = 2 * (A.length / 2) := by omega
  have hn' : l.length = 2 * (l.length / 2) := by omega
  have hpr := h.inc.lt r hr
  have hnm : ∀ x y, x < A.length → y < A.length → (nameOf l (g x) = nameOf l (g y) ↔ nameOf A x = nameOf A y) := fun x y hx hy => by
    rw [name_iff hl (h.inc.lt x hx) (h.inc.lt y hy), name_iff hA hx hy, h.orb hA hx hy]
  have key := fun j => (wrun_map h.inc hn hn' (sg := sgL A) (sg' := sgL l) (nm := nameOf A) (nm' := nameOf l) (fun d hd => hA.lt d hd) (fun d hd => (h.sig d hd).symm) hnm (fun d hd => name_lt hA hd) (fun d hd => name_lt hl hd) hr j).1
  obtain ⟨a1, a2, a3, a4⟩ := wN_is (sgL_pf hA) hn (one_nm hA) (fun x hx => name_lt hA hx) hr
  obtain ⟨b1, b2, b3, b4⟩ := wN_is (sgL_pf hl) hn' (one_nm hl) (fun x hx => name_lt hl hx) hpr
  have eN : wN (sgL l) (nameOf l) (l.length / 2) (orbits l).length (g r) = wN (sgL A) (nameOf A) (A.length / 2) (orbits A).length r := by
    refine Nat.le_antisymm ?_ ?_
    · refine Nat.le_of_not_lt fun c => b4 _ a1 c ?_
      rw [(key _).d, a3]
    · refine Nat.le_of_not_lt fun c => a4 _ b1 c ?_
      have k := (key (wN (sgL l) (nameOf l) (l.length / 2) (orbits l).length (g r))).d
      rw [b3] at k
      exact h.inc.inj _ _ (key _).lt hr k.symm
  unfold wlk
  rw [eN, List.map_map]
  exact List.map_congr_left fun j _ => ((key j).d).symm
end
/-- The part of r in l, by where its darts stand. -/
theorem own_lies {l b A : List Nat} (hl : Inv l b) (he : l.length % 2 = 0) {r : Nat} (hr : r < l.length) (hlen : A.length = (own l r).length) (hs : ∀ i, i < A.length → sgL (own l r) (sgL A i) = sgL l (sgL (own l r) i)) : Lies l A (sgL (own l r)) :=
  ⟨by rw [hlen]; exact own_inc hl he hr, hs⟩
/-- A map that lies in a map whose turns are turns has turns. -/
theorem lies_pf {l b A : List Nat} {g : Nat → Nat} (h : Lies l A g) (hl : Inv l b) (hlt : ∀ i, i < A.length → sgL A i < A.length) : PF A.length (sgL A) :=
  ⟨hlt, fun i j hi hj e => h.inc.inj i j hi hj ((sgL_pf hl).inj _ _ (h.inc.lt i hi) (h.inc.lt j hj) (by rw [← h.sig i hi, ← h.sig j hj, e]))⟩
end Go.Proofs.YtgcbdoljapnecaaGreat
