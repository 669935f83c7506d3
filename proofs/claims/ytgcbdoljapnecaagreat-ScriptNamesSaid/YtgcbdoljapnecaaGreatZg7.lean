/- Names by the order of looking, and the walk, of a map by other names: mathematics. What is looked at later is named later: mathematics. Turns of one map into another: mathematics. How many turns a map of one part has: mathematics. -/
import Derived.Test.YtgcbdoljapnecaaGreatZg6
namespace Go.Proofs.YtgcbdoljapnecaaGreat
set_option maxRecDepth 20000
open Go.RowKit
set_option linter.unusedVariables false
set_option linter.unusedSimpArgs false
theorem getDN_extC {l m : List Nat} (h : l.length = m.length) (hg : ∀ i, i < l.length → l.getD i 0 = m.getD i 0) : l = m := by
  apply List.ext_getElem h
  intro i h1 h2
  have := hg i h1
  rwa [List.getD_eq_getElem?_getD, List.getD_eq_getElem?_getD, List.getElem?_eq_getElem h1, List.getElem?_eq_getElem h2] at this
/-- Looked at by other names, each dart gets the name that it got. -/
theorem look_map {n : Nat} {p q : List Nat} (h : Nam n p q) (ds : List Nat) (hds : ∀ d ∈ ds, d < n) :
    (lookL n (ds.map (sgL p))).2 = (lookL n ds).2 ∧ ∀ d, d < n → (lookL n (ds.map (sgL p))).1.getD (sgL p d) 0 = (lookL n ds).1.getD d 0 := by
  have he := h.ev
  suffices H : ∀ (ds : List Nat) (s s' : List Int × Nat), (∀ d ∈ ds, d < n) → s.1.length = n → s'.1.length = n → s'.2 = s.2 → (∀ d, d < n → s'.1.getD (sgL p d) 0 = s.1.getD d 0) →
      ((ds.map (sgL p)).foldl lookS s').2 = (ds.foldl lookS s).2 ∧ ∀ d, d < n → ((ds.map (sgL p)).foldl lookS s').1.getD (sgL p d) 0 = (ds.foldl lookS s).1.getD d 0 by
    refine H ds _ _ hds (by simp) (by simp) rfl fun d hd => ?_
    have h1 := h.lt hd
    simp only [List.getD_eq_getElem?_getD, List.getElem?_replicate, h1, hd, if_true]
  intro ds
  induction ds with
  | nil => exact fun s s' _ _ _ h1 h2 => ⟨h1, h2⟩
  | cons x ds ih =>
    intro s s' hd hl hl' h1 h2
    have hx := hd x (List.mem_cons_self ..)
    rw [List.map_cons, List.foldl_cons, List.foldl_cons]
    have hpx := h.lt hx
    have hmx := mt_in he hx
    have hmp := mt_in he hpx
    by_cases c : s.1.getD x 0 = -1
    · have e1 : lookS s x = ((s.1.set x (s.2 : Int)).set (mt x) ((s.2 + 1 : Nat) : Int), s.2 + 2) := by unfold lookS; rw [if_pos c]
      have e2 : lookS s' (sgL p x) = ((s'.1.set (sgL p x) (s.2 : Int)).set (mt (sgL p x)) ((s.2 + 1 : Nat) : Int), s.2 + 2) := by unfold lookS; rw [if_pos (by rw [h2 x hx]; exact c), h1]
      rw [e1, e2]
      refine ih _ _ (fun y hy => hd y (List.mem_cons_of_mem _ hy)) (by simp [hl]) (by simp [hl']) rfl fun d hdn => ?_
      show ((s'.1.set (sgL p x) (s.2 : Int)).set (mt (sgL p x)) ((s.2 + 1 : Nat) : Int)).getD (sgL p d) 0 = ((s.1.set x (s.2 : Int)).set (mt x) ((s.2 + 1 : Nat) : Int)).getD d 0
      rw [getDI_set _ _ _ _ (by rw [List.length_set, hl']; exact hmp), getDI_set _ _ _ _ (by rw [hl']; exact hpx), getDI_set _ _ _ _ (by rw [List.length_set, hl]; exact hmx), getDI_set _ _ _ _ (by rw [hl]; exact hx)]
      have k1 : (sgL p d = mt (sgL p x)) ↔ d = mt x := by
        rw [← h.mt x hx]
        exact ⟨fun e => h.inv.inj d (mt x) (by rw [h.len]; exact hdn) (by rw [h.len]; exact hmx) e, fun e => by rw [e]⟩
      have k2 : (sgL p d = sgL p x) ↔ d = x := ⟨fun e => h.inv.inj d x (by rw [h.len]; exact hdn) (by rw [h.len]; exact hx) e, fun e => by rw [e]⟩
      by_cases c1 : d = mt x
      · rw [if_pos (k1.2 c1), if_pos c1]
      · rw [if_neg (fun e => c1 (k1.1 e)), if_neg c1]
        by_cases c2 : d = x
        · rw [if_pos (k2.2 c2), if_pos c2]
        · rw [if_neg (fun e => c2 (k2.1 e)), if_neg c2]; exact h2 d hdn
    · have e1 : lookS s x = s := by unfold lookS; rw [if_neg c]
      have e2 : lookS s' (sgL p x) = s' := by unfold lookS; rw [if_neg (by rw [h2 x hx]; exact c)]
      rw [e1, e2]
      exact ih _ _ (fun y hy => hd y (List.mem_cons_of_mem _ hy)) hl hl' h1 h2
/-- Darts put among others, mates among mates. -/
structure Inc (n n' : Nat) (g : Nat → Nat) : Prop where
  ev : n % 2 = 0
  lt : ∀ x, x < n → g x < n'
  mt : ∀ x, x < n → g (Go.Proofs.YtgcbdoljapnecaaGreat.mt x) = Go.Proofs.YtgcbdoljapnecaaGreat.mt (g x)
  inj : ∀ x y, x < n → y < n → g x = g y → x = y
theorem Nam.inc {n : Nat} {p q : List Nat} (h : Nam n p q) : Inc n n (sgL p) :=
  ⟨h.ev, fun x hx => h.lt hx, fun x hx => h.mt x hx, fun x y hx hy e => h.inv.inj x y (by rw [h.len]; exact hx) (by rw [h.len]; exact hy) e⟩
theorem half_iff {n n' : Nat} {g : Nat → Nat} (h : Inc n n' g) {a b : Nat} (ha : a < n) (hb : b < n) : g a / 2 = g b / 2 ↔ a / 2 = b / 2 := by
  have hm := mt_in h.ev hb
  have key : ∀ x y : Nat, x / 2 = y / 2 ↔ x = y ∨ x = mt y := fun x y => by unfold mt; split <;> omega
  rw [key, key, ← h.mt b hb]
  constructor
  · rintro (e | e)
    · exact .inl (h.inj a b ha hb e)
    · exact .inr (h.inj a (mt b) ha hm e)
  · rintro (e | e)
    · exact .inl (by rw [e])
    · exact .inr (by rw [e])
/-- Two walks that go side by side. -/
structure WSim (n : Nat) (g : Nat → Nat) (nm nm' : Nat → Nat) (s s' : WS) : Prop where
  lt : s.d < n
  d : s'.d = g s.d
  k : ∀ x, x < n → s'.K.getD (g x / 2) 0 = s.K.getD (x / 2) 0
  m : ∀ x, x < n → s'.M.getD (nm' (g x)) false = s.M.getD (nm x) false
theorem WSim.kind {n n' : Nat} {g : Nat → Nat} (h : Inc n n' g) {nm nm' : Nat → Nat} {s s' : WS} (w : WSim n g nm nm' s s') : s'.k nm' = s.k nm := by
  have hm := mt_in h.ev w.lt
  unfold WS.k wKd
  rw [w.d, w.k s.d w.lt, ← h.mt s.d w.lt, w.m _ hm]
theorem WSim.next {n n' m m' V V' : Nat} {g : Nat → Nat} (h : Inc n n' g) (hn : n = 2 * m) (hn' : n' = 2 * m') {sg sg' nm nm' : Nat → Nat} (hs : ∀ d, d < n → sg d < n) (hsg : ∀ d, d < n → sg' (g d) = g (sg d))
    (hnm : ∀ a b, a < n → b < n → (nm' (g a) = nm' (g b) ↔ nm a = nm b)) (hv : ∀ d, d < n → nm d < V) (hv' : ∀ d, d < n' → nm' d < V') {s s' : WS} (hk : s.K.length = m) (hk' : s'.K.length = m') (hM : s.M.length = V) (hM' : s'.M.length = V')
    (w : WSim n g nm nm' s s') : WSim n g nm nm' (s.next sg nm) (s'.next sg' nm') := by
  have hm := mt_in h.ev w.lt
  have hkd := w.kind h
  have hpl := h.lt _ w.lt
  refine ⟨?_, ?_, fun x hx => ?_, fun x hx => ?_⟩
  · show wNx sg s.d (s.k nm) < n
    unfold wNx
    split
    · exact hs _ hm
    · exact hs _ w.lt
  · show wNx sg' s'.d (s'.k nm') = g (wNx sg s.d (s.k nm))
    rw [hkd, w.d]
    unfold wNx
    split
    · rw [← h.mt s.d w.lt, hsg _ hm]
    · rw [hsg _ w.lt]
  · show (wK1 s'.K s'.d (s'.k nm')).getD (g x / 2) 0 = (wK1 s.K s.d (s.k nm)).getD (x / 2) 0
    rw [hkd, w.d]
    unfold wK1
    split
    · rw [getI_set _ _ _ _ (by rw [hk']; omega), getI_set _ _ _ _ (by rw [hk]; have := w.lt; omega)]
      by_cases c : x / 2 = s.d / 2
      · rw [if_pos ((half_iff h hx w.lt).2 c), if_pos c]
      · rw [if_neg (fun e => c ((half_iff h hx w.lt).1 e)), if_neg c]; exact w.k x hx
    · exact w.k x hx
  · show (wM1 nm' s'.M s'.d (s'.k nm')).getD (nm' (g x)) false = (wM1 nm s.M s.d (s.k nm)).getD (nm x) false
    rw [hkd, w.d]
    unfold wM1
    split
    · rw [← h.mt s.d w.lt, getB_set _ _ _ _ (by rw [hM']; exact hv' _ (h.lt _ hm)), getB_set _ _ _ _ (by rw [hM]; exact hv _ hm)]
      by_cases c : nm x = nm (mt s.d)
      · rw [if_pos ((hnm x _ hx hm).2 c), if_pos c]
      · rw [if_neg (fun e => c ((hnm x _ hx hm).1 e)), if_neg c]; exact w.m x hx
    · exact w.m x hx
theorem next_lens {sg nm : Nat → Nat} {s : WS} : (s.next sg nm).K.length = s.K.length ∧ (s.next sg nm).M.length = s.M.length := by
  constructor
  · show (wK1 _ _ _).length = _
    unfold wK1; split <;> simp
  · show (wM1 _ _ _ _).length = _
    unfold wM1; split <;> simp
/-- The walk of a map that lies in another, by other names, is the walk there by those names: so it is of a map by other names, and of a part by names of its own. -/
theorem wrun_map {n n' m m' V V' : Nat} {g : Nat → Nat} (h : Inc n n' g) (hn : n = 2 * m) (hn' : n' = 2 * m') {sg sg' nm nm' : Nat → Nat} (hs : ∀ d, d < n → sg d < n) (hsg : ∀ d, d < n → sg' (g d) = g (sg d))
    (hnm : ∀ a b, a < n → b < n → (nm' (g a) = nm' (g b) ↔ nm a = nm b)) (hv : ∀ d, d < n → nm d < V) (hv' : ∀ d, d < n' → nm' d < V') {r : Nat} (hr : r < n) :
    ∀ j, WSim n g nm nm' (wrun sg nm m V r j) (wrun sg' nm' m' V' (g r) j) ∧ (wrun sg nm m V r j).K.length = m ∧ (wrun sg' nm' m' V' (g r) j).K.length = m' ∧ (wrun sg nm m V r j).M.length = V ∧ (wrun sg' nm' m' V' (g r) j).M.length = V'
  | 0 => by
    refine ⟨⟨hr, rfl, fun x hx => ?_, fun x hx => ?_⟩, by simp [wrun], by simp [wrun], by simp [wrun], by simp [wrun]⟩
    · have h1 : g x / 2 < m' := by have := h.lt x hx; omega
      have h2 : x / 2 < m := by omega
      show (List.replicate m' (-1 : Int)).getD _ 0 = (List.replicate m (-1 : Int)).getD _ 0
      simp only [List.getD_eq_getElem?_getD, List.getElem?_replicate, h1, h2, if_true]
    · show ((List.replicate V' false).set (nm' (g r)) true).getD (nm' (g x)) false = ((List.replicate V false).set (nm r) true).getD (nm x) false
      rw [getB_set _ _ _ _ (by simp; exact hv' _ (h.lt _ hr)), getB_set _ _ _ _ (by simp; exact hv _ hr)]
      have hf : ∀ (W k : Nat), (List.replicate W false).getD k false = false := fun W k => by
        rw [List.getD_eq_getElem?_getD, List.getElem?_replicate]; split <;> rfl
      by_cases c : nm x = nm r
      · rw [if_pos ((hnm x r hx hr).2 c), if_pos c]
      · rw [if_neg (fun e => c ((hnm x r hx hr).1 e)), if_neg c, hf, hf]
  | j + 1 => by
    obtain ⟨w, a1, a2, a3, a4⟩ := wrun_map h hn hn' hs hsg hnm hv hv' hr j
    have l1 := @next_lens sg nm (wrun sg nm m V r j)
    have l2 := @next_lens sg' nm' (wrun sg' nm' m' V' (g r) j)
    exact ⟨w.next h hn hn' hs hsg hnm hv hv' a1 a2 a3 a4, l1.1.trans a1, l2.1.trans a2, l1.2.trans a3, l2.2.trans a4⟩
/-- A map by its own names, and another of its names by theirs, that call each dart the same: one map. -/
theorem cj_once {l p q P1 Q1 P2 Q2 : List Nat} (h : Nam l.length p q) (h1 : Nam l.length P1 Q1) (h2 : Nam l.length P2 Q2) (hl : ∀ d, d < l.length → sgL l d < l.length) (he : ∀ d, d < l.length → sgL P2 (sgL p d) = sgL P1 d) :
    cjL P2 Q2 (cjL p q l) = cjL P1 Q1 l := by
  refine getDN_extC (by rw [cjL_len, cjL_len, cjL_len]) fun i hi => ?_
  rw [cjL_len, cjL_len] at hi
  have e1 : (cjL P2 Q2 (cjL p q l)).getD i 0 = sgL P2 (sgL (cjL p q l) (sgL Q2 i)) := cjL_get _ _ _ (by rw [cjL_len]; exact hi)
  have e2 : (cjL P1 Q1 l).getD i 0 = sgL P1 (sgL l (sgL Q1 i)) := cjL_get _ _ _ hi
  have hq := h1.lt' hi
  have e3 : sgL Q2 i = sgL p (sgL Q1 i) := by
    have k1 := he _ hq
    rw [h1.pq hi] at k1
    have k2 := h2.qp (h.lt hq)
    rw [k1] at k2
    exact k2
  rw [e1, e2, e3, cj_at h hq, he _ (hl _ hq)]
end Go.Proofs.YtgcbdoljapnecaaGreat
namespace Go.Proofs.YtgcbdoljapnecaaGreat
set_option maxRecDepth 20000
open Go.RowKit
set_option linter.unusedVariables false
set_option linter.unusedSimpArgs false
/-- What looking at more does to the names so far. -/
structure LMore (n : Nat) (ds : List Nat) (s t : List Int × Nat) : Prop where
  lk : ∃ z, LK n t.1 t.2 z
  le : s.2 ≤ t.2
  keep : ∀ d, d < n → s.1.getD d 0 ≠ -1 → t.1.getD d 0 = s.1.getD d 0
  late : ∀ d, d < n → s.1.getD d 0 = -1 → t.1.getD d 0 = -1 ∨ (s.2 : Int) ≤ t.1.getD d 0 ∧ t.1.getD d 0 < (t.2 : Int)
  iff : ∀ d, d < n → (t.1.getD d 0 ≠ -1 ↔ s.1.getD d 0 ≠ -1 ∨ d ∈ ds ∨ mt d ∈ ds)
theorem lookS_get {n : Nat} {y : List Int} {nx d : Nat} (hl : y.length = n) (he : n % 2 = 0) (hd : d < n) (c : y.getD d 0 = -1) (i : Nat) :
    (lookS (y, nx) d).1.getD i 0 = if i = mt d then ((nx + 1 : Nat) : Int) else if i = d then (nx : Int) else y.getD i 0 := by
  have hm := mt_in he hd
  have e : lookS (y, nx) d = ((y.set d (nx : Int)).set (mt d) ((nx + 1 : Nat) : Int), nx + 2) := by unfold lookS; rw [if_pos c]
  rw [e]
  show ((y.set d (nx : Int)).set (mt d) ((nx + 1 : Nat) : Int)).getD i 0 = _
  rw [getDI_set _ _ _ _ (by rw [List.length_set, hl]; exact hm), getDI_set _ _ _ _ (by rw [hl]; exact hd)]
theorem LK.named {n : Nat} {y : List Int} {nx : Nat} {z : List Nat} (h : LK n y nx z) {d : Nat} (hd : d < n) (c : y.getD d 0 ≠ -1) : 0 ≤ y.getD d 0 ∧ y.getD d 0 < (nx : Int) := by
  obtain ⟨v, hv, e, _⟩ := h.zy d hd c
  rw [e]; omega
theorem LK.both {n : Nat} {y : List Int} {nx : Nat} {z : List Nat} (h : LK n y nx z) (he : n % 2 = 0) {d : Nat} (hd : d < n) (c : y.getD d 0 ≠ -1) : y.getD (Go.Proofs.YtgcbdoljapnecaaGreat.mt d) 0 ≠ -1 := fun e => c (by
  have := h.mate he (mt_in he hd) e
  rwa [mt_mt] at this)
theorem LK.more {n : Nat} (he : n % 2 = 0) : ∀ (ds : List Nat) (y : List Int) (nx : Nat) (z : List Nat), (∀ d ∈ ds, d < n) → LK n y nx z → LMore n ds (y, nx) (ds.foldl lookS (y, nx))
  | [], y, nx, z, _, h => ⟨⟨z, h⟩, Nat.le_refl _, fun d _ _ => rfl, fun d _ c => .inl c, fun d _ => by simp⟩
  | x :: ds, y, nx, z, hds, h => by
    have hx := hds x (List.mem_cons_self ..)
    have hm := mt_in he hx
    rw [List.foldl_cons]
    by_cases c : y.getD x 0 = -1
    · have e : lookS (y, nx) x = ((y.set x (nx : Int)).set (Go.Proofs.YtgcbdoljapnecaaGreat.mt x) ((nx + 1 : Nat) : Int), nx + 2) := by unfold lookS; rw [if_pos c]
      have G := lookS_get (nx := nx) h.len he hx c
      have h2 := h.mate he hx c
      rw [e] at G ⊢
      have M := LK.more he ds _ _ _ (fun d hd => hds d (List.mem_cons_of_mem _ hd)) (h.next he hx c)
      obtain ⟨lk, le, keep, late, hif⟩ := M
      have keep : ∀ d, d < n → ((y.set x (nx : Int)).set (Go.Proofs.YtgcbdoljapnecaaGreat.mt x) ((nx + 1 : Nat) : Int)).getD d 0 ≠ -1 → (ds.foldl lookS ((y.set x (nx : Int)).set (Go.Proofs.YtgcbdoljapnecaaGreat.mt x) ((nx + 1 : Nat) : Int), nx + 2)).1.getD d 0 = ((y.set x (nx : Int)).set (Go.Proofs.YtgcbdoljapnecaaGreat.mt x) ((nx + 1 : Nat) : Int)).getD d 0 := keep
      have G : ∀ i, ((y.set x (nx : Int)).set (Go.Proofs.YtgcbdoljapnecaaGreat.mt x) ((nx + 1 : Nat) : Int)).getD i 0 = if i = Go.Proofs.YtgcbdoljapnecaaGreat.mt x then ((nx + 1 : Nat) : Int) else if i = x then (nx : Int) else y.getD i 0 := G
      have le : nx + 2 ≤ (ds.foldl lookS ((y.set x (nx : Int)).set (Go.Proofs.YtgcbdoljapnecaaGreat.mt x) ((nx + 1 : Nat) : Int), nx + 2)).2 := le
      refine ⟨lk, by show nx ≤ _; omega, fun d hd k => ?_, fun d hd k => ?_, fun d hd => ?_⟩
      · have k' : y.getD d 0 ≠ -1 := k
        have n1 : d ≠ Go.Proofs.YtgcbdoljapnecaaGreat.mt x := fun e => k' (by rw [e]; exact h2)
        have n2 : d ≠ x := fun e => k' (by rw [e]; exact c)
        have g : ((y.set x (nx : Int)).set (Go.Proofs.YtgcbdoljapnecaaGreat.mt x) ((nx + 1 : Nat) : Int)).getD d 0 = y.getD d 0 := by rw [G, if_neg n1, if_neg n2]
        rw [keep d hd (by rw [g]; exact k'), g]
      · by_cases c1 : d = Go.Proofs.YtgcbdoljapnecaaGreat.mt x
        · have g := G d
          rw [if_pos c1] at g
          right
          rw [keep d hd (by rw [g]; omega), g]
          show (nx : Int) ≤ _ ∧ _
          omega
        · by_cases c2 : d = x
          · have g := G d
            rw [if_neg c1, if_pos c2] at g
            right
            rw [keep d hd (by rw [g]; omega), g]
            show (nx : Int) ≤ _ ∧ _
            omega
          · have g := G d
            rw [if_neg c1, if_neg c2] at g
            have k' : y.getD d 0 = -1 := k
            rcases late d hd (by show List.getD _ d 0 = -1; rw [g]; exact k') with l | ⟨l1, l2⟩
            · exact .inl l
            · right
              have l1' : ((nx + 2 : Nat) : Int) ≤ _ := l1
              refine ⟨?_, l2⟩
              show (nx : Int) ≤ _
              omega
      · rw [hif d hd]
        show (List.getD _ d 0 ≠ -1 ∨ _) ↔ (y.getD d 0 ≠ -1 ∨ _)
        rw [G]
        have hmm : Go.Proofs.YtgcbdoljapnecaaGreat.mt d = x ↔ d = Go.Proofs.YtgcbdoljapnecaaGreat.mt x := ⟨fun e => by rw [← e, mt_mt], fun e => by rw [e, mt_mt]⟩
        simp only [List.mem_cons, hmm]
        by_cases c1 : d = Go.Proofs.YtgcbdoljapnecaaGreat.mt x
        · rw [if_pos c1]
          exact ⟨fun _ => .inr (.inr (.inl c1)), fun _ => .inl (by omega)⟩
        · rw [if_neg c1]
          by_cases c2 : d = x
          · rw [if_pos c2]
            exact ⟨fun _ => .inr (.inl (.inl c2)), fun _ => .inl (by omega)⟩
          · rw [if_neg c2]
            constructor
            · rintro (a | a | a)
              · exact .inl a
              · exact .inr (.inl (.inr a))
              · exact .inr (.inr (.inr a))
            · rintro (a | (a | a) | (a | a))
              · exact .inl a
              · exact absurd a c2
              · exact .inr (.inl a)
              · exact absurd a c1
              · exact .inr (.inr a)
    · have e : lookS (y, nx) x = (y, nx) := by unfold lookS; rw [if_neg c]
      rw [e]
      obtain ⟨lk, le, keep, late, hif⟩ := LK.more he ds y nx z (fun d hd => hds d (List.mem_cons_of_mem _ hd)) h
      refine ⟨lk, le, keep, late, fun d hd => ?_⟩
      rw [hif d hd]
      have hmm : Go.Proofs.YtgcbdoljapnecaaGreat.mt d = x → y.getD d 0 ≠ -1 := fun e => by
        have := h.both he hx c
        rwa [← e, mt_mt] at this
      simp only [List.mem_cons]
      constructor
      · rintro (a | a | a)
        · exact .inl a
        · exact .inr (.inl (.inr a))
        · exact .inr (.inr (.inr a))
      · rintro (a | (a | a) | (a | a))
        · exact .inl a
        · exact .inl (by rw [a]; exact c)
        · exact .inr (.inl a)
        · exact .inl (hmm a)
        · exact .inr (.inr a)
/-- The first that is looked at anew has the next name, and keeps it. -/
theorem LK.first {n : Nat} {y : List Int} {nx : Nat} {z : List Nat} (h : LK n y nx z) (he : n % 2 = 0) {x : Nat} (ds : List Nat) (hx : x < n) (hds : ∀ d ∈ ds, d < n) (c : y.getD x 0 = -1) : ((x :: ds).foldl lookS (y, nx)).1.getD x 0 = (nx : Int) := by
  have e : lookS (y, nx) x = ((y.set x (nx : Int)).set (Go.Proofs.YtgcbdoljapnecaaGreat.mt x) ((nx + 1 : Nat) : Int), nx + 2) := by unfold lookS; rw [if_pos c]
  have g := lookS_get (nx := nx) h.len he hx c x
  rw [if_neg (Ne.symm (cmt_ne x)), if_pos rfl] at g
  rw [List.foldl_cons]
  rw [e] at g ⊢
  have M := LK.more he ds _ _ _ hds (h.next he hx c)
  rw [M.keep x hx (by rw [g]; omega), g]
/-- All that are looked at, or whose mates are, have names. -/
theorem look_all {n : Nat} (he : n % 2 = 0) (ds : List Nat) (hds : ∀ d ∈ ds, d < n) (hall : ∀ d, d < n → d ∈ ds ∨ mt d ∈ ds) : ∃ L z, (lookL n ds).1 = ofN L ∧ Nam n L z := by
  have M := LK.more he ds _ _ _ hds (LK.start n)
  obtain ⟨z, hz⟩ := M.lk
  obtain ⟨L, e, hN⟩ := hz.done he fun d hd => (M.iff d hd).2 (.inr (hall d hd))
  exact ⟨L, z, e, hN⟩
/-- By its own names, everything has the name that it has. -/
theorem look_self {n : Nat} {p q : List Nat} (h : Nam n p q) (ds : List Nat) (hds : ∀ d ∈ ds, d < n) (e : (lookL n ds).1 = ofN p) : (lookL n (ds.map (sgL p))).1 = ofN (List.range n) := by
  obtain ⟨z, hz⟩ := LK.look h.ev (ds.map (sgL p)) fun d hd => by
    obtain ⟨x, hx, rfl⟩ := List.mem_map.1 hd
    exact h.lt (hds x hx)
  refine getDI_ext (by rw [hz.len, ofN_len, List.length_range]) fun i hi => ?_
  rw [hz.len] at hi
  have hq := h.lt' hi
  have k := (look_map h ds hds).2 _ hq
  rw [h.pq hi] at k
  rw [k, e, ofN_get, ofN_get]
  have : sgL p (sgL q i) = i := h.pq hi
  unfold sgL at this
  rw [show p.getD (sgL q i) 0 = i from this]
  simp [List.getD_eq_getElem?_getD, hi]
end Go.Proofs.YtgcbdoljapnecaaGreat
namespace Go.Proofs.YtgcbdoljapnecaaGreat
set_option maxRecDepth 20000
open Go.RowKit
set_option linter.unusedVariables false
set_option linter.unusedSimpArgs false
/-- One behind the other. -/
def compL (p p' : List Nat) : List Nat := p.map (sgL p')
theorem compL_len (p p' : List Nat) : (compL p p').length = p.length := by simp [compL]
theorem compL_get {p p' : List Nat} {d : Nat} (hd : d < p.length) : sgL (compL p p') d = sgL p' (sgL p d) := by
  show (compL p p').getD d 0 = _
  simp [compL, sgL, List.getD_eq_getElem?_getD, hd]
theorem Nam.comp {n : Nat} {p q p' q' : List Nat} (h : Nam n p q) (h' : Nam n p' q') : Nam n (compL p p') (compL q' q) := by
  have l1 := h.len
  have l2 := h'.len
  have l3 : q.length = n := h.symm.len
  have l4 : q'.length = n := h'.symm.len
  have g1 : ∀ d, d < n → sgL (compL p p') d = sgL p' (sgL p d) := fun d hd => compL_get (by rw [l1]; exact hd)
  have g2 : ∀ d, d < n → sgL (compL q' q) d = sgL q (sgL q' d) := fun d hd => compL_get (by rw [l4]; exact hd)
  have c1 : (compL p p').length = n := by rw [compL_len, l1]
  refine ⟨⟨by rw [compL_len, c1, l4], fun i hi => ?_, fun i hi => ?_, fun i hi => ?_, fun i hi => ?_⟩, c1, h.ev, fun d hd => ?_⟩
  · rw [c1] at hi ⊢; show sgL (compL p p') i < n; rw [g1 i hi]; exact h'.lt (h.lt hi)
  · rw [c1] at hi ⊢; show sgL (compL q' q) i < n; rw [g2 i hi]; exact h.lt' (h'.lt' hi)
  · rw [c1] at hi; show sgL (compL q' q) (sgL (compL p p') i) = i; rw [g1 i hi, g2 _ (h'.lt (h.lt hi)), h'.qp (h.lt hi), h.qp hi]
  · rw [c1] at hi; show sgL (compL p p') (sgL (compL q' q) i) = i; rw [g2 i hi, g1 _ (h.lt' (h'.lt' hi)), h.pq (h'.lt' hi), h'.pq hi]
  · rw [g1 _ (mt_in h.ev hd), g1 d hd, h.mt d hd, h'.mt _ (h.lt hd)]
theorem cj_comp {l p q p' q' : List Nat} (h : Nam l.length p q) (h' : Nam l.length p' q') (hl : ∀ d, d < l.length → sgL l d < l.length) : cjL (compL p p') (compL q' q) l = cjL p' q' (cjL p q l) := by
  refine getDN_extC (by rw [cjL_len, cjL_len, cjL_len]) fun i hi => ?_
  rw [cjL_len] at hi
  have e1 : (cjL (compL p p') (compL q' q) l).getD i 0 = sgL (compL p p') (sgL l (sgL (compL q' q) i)) := cjL_get _ _ _ hi
  have e2 : (cjL p' q' (cjL p q l)).getD i 0 = sgL p' (sgL (cjL p q l) (sgL q' i)) := cjL_get _ _ _ (by rw [cjL_len]; exact hi)
  have hq := h'.lt' hi
  have e3 : sgL (compL q' q) i = sgL q (sgL q' i) := compL_get (by rw [h'.symm.len]; exact hi)
  have e4 : sgL (compL p p') (sgL l (sgL q (sgL q' i))) = sgL p' (sgL p (sgL l (sgL q (sgL q' i)))) := compL_get (by rw [h.len]; exact hl _ (h.lt' hq))
  rw [e1, e2, cjL_get _ _ _ hq, e3, e4]
/-- p takes l to l', and r to r'. -/
structure Trn (l l' : List Nat) (r r' : Nat) (p q : List Nat) : Prop where
  nam : Nam l.length p q
  img : cjL p q l = l'
  root : sgL p r = r'
theorem Trn.len {l l' p q : List Nat} {r r' : Nat} (t : Trn l l' r r' p q) : l'.length = l.length := by rw [← t.img, cjL_len]
theorem Trn.symm {l l' b p q : List Nat} {r r' : Nat} (hl : Inv l b) (hr : r < l.length) (t : Trn l l' r r' p q) : Trn l' l r' r q p :=
  ⟨by rw [t.len]; exact t.nam.symm, by rw [← t.img]; exact cj_back t.nam hl, by rw [← t.root]; exact t.nam.qp hr⟩
theorem Trn.trans {l l' l2 b p q p' q' : List Nat} {r r' r2 : Nat} (hl : Inv l b) (hr : r < l.length) (t : Trn l l' r r' p q) (t' : Trn l' l2 r' r2 p' q') : Trn l l2 r r2 (compL p p') (compL q' q) := by
  have hn : Nam l.length p' q' := by have := t'.nam; rwa [t.len] at this
  exact ⟨t.nam.comp hn, by rw [cj_comp t.nam hn fun d hd => hl.lt d hd, t.img, t'.img], by rw [compL_get (by rw [t.nam.len]; exact hr), t.root, t'.root]⟩
/-- Two maps whose canonical maps are the same, roots and all, are taken to one another. -/
theorem Trn.ofSame {l l' c P Q P' Q' b b' : List Nat} {r r' k : Nat} (hl : Inv l b) (hl' : Inv l' b') (hr : r < l.length) (hr' : r' < l'.length) (h : Trn l c r k P Q) (h' : Trn l' c r' k P' Q') : Trn l l' r r' (compL P Q') (compL P' Q) :=
  h.trans hl hr (h'.symm hl' hr')
end Go.Proofs.YtgcbdoljapnecaaGreat
namespace Go.Proofs.YtgcbdoljapnecaaGreat
set_option maxRecDepth 20000
open Go.RowKit
set_option linter.unusedVariables false
set_option linter.unusedSimpArgs false
theorem cnum_or {P Q : Nat → Prop} (h : ∀ e, P e → ¬ Q e) : ∀ k, num P k + num Q k = num (fun e => P e ∨ Q e) k
  | 0 => rfl
  | k + 1 => by
    have ih := cnum_or h k
    by_cases p : P k
    · rw [(num_next P k).1 p, (num_next Q k).2 (h k p), (num_next (fun e => P e ∨ Q e) k).1 (.inl p)]; omega
    · rw [(num_next P k).2 p]
      by_cases q : Q k
      · rw [(num_next Q k).1 q, (num_next (fun e => P e ∨ Q e) k).1 (.inr q)]; omega
      · rw [(num_next Q k).2 q, (num_next (fun e => P e ∨ Q e) k).2 (fun x => x.elim p q)]; omega
end Go.Proofs.YtgcbdoljapnecaaGreat
