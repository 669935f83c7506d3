/- Names by the order in which darts are looked at: mathematics. The walk around a spanning tree: mathematics. -/
import Derived.Test.YtgcbdoljapnecaaGreatZg3
import Derived.Test.YtgcbdoljapnecaaGreatZENam
namespace Go.Proofs.YtgcbdoljapnecaaGreat
set_option maxRecDepth 20000
open Go.RowKit
set_option linter.unusedVariables false
set_option linter.unusedSimpArgs false
/-- The names so far, and the next. -/
def lookS (s : List Int × Nat) (d : Nat) : List Int × Nat :=
  if s.1.getD d 0 = -1 then ((s.1.set d (s.2 : Int)).set (mt d) ((s.2 + 1 : Nat) : Int), s.2 + 2) else s
def lookL (n : Nat) (ds : List Nat) : List Int × Nat := ds.foldl lookS (List.replicate n (-1), 0)
theorem lookL_snoc (n : Nat) (ds : List Nat) (d : Nat) : lookL n (ds ++ [d]) = lookS (lookL n ds) d := by simp [lookL]
theorem cmt_ne (d : Nat) : mt d ≠ d := by unfold mt; split <;> omega
theorem cmt_inj {a b : Nat} (h : mt a = mt b) : a = b := by have := congrArg mt h; rwa [mt_mt, mt_mt] at this
/-- What the names so far are. -/
structure LK (n : Nat) (y : List Int) (nx : Nat) (z : List Nat) : Prop where
  len : y.length = n
  zl : z.length = nx
  ev : nx % 2 = 0
  zlt : ∀ v, v < nx → z.getD v 0 < n
  yz : ∀ v, v < nx → y.getD (z.getD v 0) 0 = (v : Int)
  zy : ∀ d, d < n → y.getD d 0 ≠ -1 → ∃ v, v < nx ∧ y.getD d 0 = (v : Int) ∧ z.getD v 0 = d
  mt : ∀ d v : Nat, d < n → y.getD d 0 = (v : Int) → y.getD (Go.Proofs.YtgcbdoljapnecaaGreat.mt d) 0 = ((Go.Proofs.YtgcbdoljapnecaaGreat.mt v : Nat) : Int)
theorem LK.start (n : Nat) : LK n (List.replicate n (-1)) 0 [] := by
  have hr : ∀ d, d < n → (List.replicate n (-1 : Int)).getD d 0 = -1 := fun d hd => by simp [List.getD_eq_getElem?_getD, hd]
  exact ⟨by simp, rfl, rfl, fun v hv => by omega, fun v hv => by omega, fun d hd h => absurd (hr d hd) h, fun d v hd h => by rw [hr d hd] at h; omega⟩
theorem LK.mate {n : Nat} {y : List Int} {nx : Nat} {z : List Nat} (h : LK n y nx z) (he : n % 2 = 0) {d : Nat} (hd : d < n) (h1 : y.getD d 0 = -1) : y.getD (Go.Proofs.YtgcbdoljapnecaaGreat.mt d) 0 = -1 := by
  have hm := mt_in he hd
  by_cases c : y.getD (Go.Proofs.YtgcbdoljapnecaaGreat.mt d) 0 = -1
  · exact c
  · obtain ⟨v, _, e, _⟩ := h.zy _ hm c
    have := h.mt _ v hm e
    rw [mt_mt] at this
    omega
theorem LK.next {n : Nat} {y : List Int} {nx : Nat} {z : List Nat} (h : LK n y nx z) (he : n % 2 = 0) {d : Nat} (hd : d < n) (h1 : y.getD d 0 = -1) :
    LK n ((y.set d (nx : Int)).set (Go.Proofs.YtgcbdoljapnecaaGreat.mt d) ((nx + 1 : Nat) : Int)) (nx + 2) (z ++ [d, Go.Proofs.YtgcbdoljapnecaaGreat.mt d]) := by
  have hm := mt_in he hd
  have h2 := h.mate he hd h1
  have hne := cmt_ne d
  have hl := h.len
  have hz := h.zl
  have hev := h.ev
  have Y : ∀ i, ((y.set d (nx : Int)).set (Go.Proofs.YtgcbdoljapnecaaGreat.mt d) ((nx + 1 : Nat) : Int)).getD i 0 = if i = Go.Proofs.YtgcbdoljapnecaaGreat.mt d then ((nx + 1 : Nat) : Int) else if i = d then (nx : Int) else y.getD i 0 := fun i => by
    rw [getDI_set _ _ _ _ (by rw [List.length_set, hl]; exact hm), getDI_set _ _ _ _ (by rw [hl]; exact hd)]
  have Z : ∀ v, (z ++ [d, Go.Proofs.YtgcbdoljapnecaaGreat.mt d]).getD v 0 = if v < nx then z.getD v 0 else if v = nx then d else if v = nx + 1 then Go.Proofs.YtgcbdoljapnecaaGreat.mt d else 0 := fun v => by
    rw [List.getD_eq_getElem?_getD]
    by_cases c : v < nx
    · rw [List.getElem?_append_left (by omega), if_pos c, List.getD_eq_getElem?_getD]
    · rw [List.getElem?_append_right (by omega), if_neg c, hz]
      by_cases c2 : v = nx
      · subst c2; simp
      · by_cases c3 : v = nx + 1
        · subst c3; simp
        · rw [if_neg c2, if_neg c3, List.getElem?_eq_none (by simp; omega)]; rfl
  have old : ∀ v, v < nx → z.getD v 0 ≠ d ∧ z.getD v 0 ≠ Go.Proofs.YtgcbdoljapnecaaGreat.mt d := fun v hv => by
    have := h.yz v hv
    refine ⟨fun e => ?_, fun e => ?_⟩ <;> rw [e] at this <;> omega
  refine ⟨by rw [List.length_set, List.length_set, hl], by simp [hz], by omega, fun v hv => ?_, fun v hv => ?_, fun i hi hn => ?_, fun i v hi hv => ?_⟩
  · rw [Z]
    split
    · exact h.zlt v (by assumption)
    · split
      · exact hd
      · rw [if_pos (by omega)]; exact hm
  · rw [Z]
    by_cases c : v < nx
    · rw [if_pos c, Y, if_neg (old v c).2, if_neg (old v c).1]; exact h.yz v c
    · rw [if_neg c]
      by_cases c2 : v = nx
      · rw [if_pos c2, Y, if_neg (Ne.symm hne), if_pos rfl, c2]
      · rw [if_neg c2, if_pos (show v = nx + 1 by omega), Y, if_pos rfl, show v = nx + 1 by omega]
  · rw [Y] at hn ⊢
    by_cases c : i = Go.Proofs.YtgcbdoljapnecaaGreat.mt d
    · exact ⟨nx + 1, by omega, by rw [if_pos c], by rw [Z, if_neg (by omega), if_neg (by omega), if_pos rfl, c]⟩
    · rw [if_neg c] at hn ⊢
      by_cases c2 : i = d
      · exact ⟨nx, by omega, by rw [if_pos c2], by rw [Z, if_neg (by omega), if_pos rfl, c2]⟩
      · rw [if_neg c2] at hn ⊢
        obtain ⟨v, hv, e1, e2⟩ := h.zy i hi hn
        exact ⟨v, by omega, e1, by rw [Z, if_pos hv, e2]⟩
  · rw [Y] at hv ⊢
    by_cases c : i = Go.Proofs.YtgcbdoljapnecaaGreat.mt d
    · rw [if_pos c] at hv
      have hvn : v = nx + 1 := by omega
      subst c
      rw [mt_mt, if_neg (Ne.symm hne), if_pos rfl, hvn]
      have : Go.Proofs.YtgcbdoljapnecaaGreat.mt (nx + 1) = nx := by unfold Go.Proofs.YtgcbdoljapnecaaGreat.mt; rw [if_neg (by omega)]; omega
      rw [this]
    · rw [if_neg c] at hv
      by_cases c2 : i = d
      · rw [if_pos c2] at hv
        have hvn : v = nx := by omega
        subst c2
        rw [if_pos rfl, hvn]
        have : Go.Proofs.YtgcbdoljapnecaaGreat.mt nx = nx + 1 := by unfold Go.Proofs.YtgcbdoljapnecaaGreat.mt; rw [if_pos (by omega)]
        rw [this]
      · rw [if_neg c2] at hv
        have k1 : Go.Proofs.YtgcbdoljapnecaaGreat.mt i ≠ Go.Proofs.YtgcbdoljapnecaaGreat.mt d := fun e => c2 (cmt_inj e)
        have k2 : Go.Proofs.YtgcbdoljapnecaaGreat.mt i ≠ d := fun e => c (by rw [← e, mt_mt])
        rw [if_neg k1, if_neg k2]
        exact h.mt i v hi hv
theorem LK.look {n : Nat} (he : n % 2 = 0) (ds : List Nat) (hds : ∀ d ∈ ds, d < n) : ∃ z, LK n (lookL n ds).1 (lookL n ds).2 z := by
  suffices H : ∀ (ds : List Nat) (s : List Int × Nat) (z : List Nat), (∀ d ∈ ds, d < n) → LK n s.1 s.2 z → ∃ z, LK n (ds.foldl lookS s).1 (ds.foldl lookS s).2 z from H ds _ [] hds (LK.start n)
  intro ds
  induction ds with
  | nil => exact fun s z _ h => ⟨z, h⟩
  | cons d ds ih =>
    intro s z hd h
    rw [List.foldl_cons]
    by_cases c : s.1.getD d 0 = -1
    · have e : lookS s d = ((s.1.set d (s.2 : Int)).set (Go.Proofs.YtgcbdoljapnecaaGreat.mt d) ((s.2 + 1 : Nat) : Int), s.2 + 2) := by unfold lookS; rw [if_pos c]
      rw [e]
      exact ih _ _ (fun x hx => hd x (List.mem_cons_of_mem _ hx)) (h.next he (hd d (List.mem_cons_self ..)) c)
    · have e : lookS s d = s := by unfold lookS; rw [if_neg c]
      rw [e]
      exact ih _ _ (fun x hx => hd x (List.mem_cons_of_mem _ hx)) h
/-- When all are named, the names are names that keep mates. -/
theorem LK.done {n : Nat} {y : List Int} {nx : Nat} {z : List Nat} (h : LK n y nx z) (he : n % 2 = 0) (hall : ∀ d, d < n → y.getD d 0 ≠ -1) : ∃ L, y = ofN L ∧ Nam n L z := by
  have hy : ∀ d, d < n → (y.getD d 0).toNat < nx ∧ ((y.getD d 0).toNat : Int) = y.getD d 0 ∧ z.getD (y.getD d 0).toNat 0 = d := fun d hd => by
    obtain ⟨v, hv, e1, e2⟩ := h.zy d hd (hall d hd)
    rw [e1]
    exact ⟨by simpa using hv, by simp, by simpa using e2⟩
  have hn : n = nx := by
    rcases Nat.lt_trichotomy n nx with c | c | c
    · obtain ⟨x, hx, e⟩ := inj_surj nx (fun v => z.getD v 0) (fun v hv => Nat.lt_trans (h.zlt v hv) c) (fun a b ha hb e => by
        have h1 := h.yz a ha
        have h2 := h.yz b hb
        have e' : z.getD a 0 = z.getD b 0 := e
        rw [e', h2] at h1; omega) n c
      have := h.zlt x hx
      have e' : z.getD x 0 = n := e
      omega
    · exact c
    · obtain ⟨x, hx, e⟩ := inj_surj n (fun d => (y.getD d 0).toNat) (fun d hd => Nat.lt_trans (hy d hd).1 c) (fun a b ha hb e => by
        have h1 := (hy a ha).2.2
        have h2 := (hy b hb).2.2
        have e' : (y.getD a 0).toNat = (y.getD b 0).toNat := e
        rw [e', h2] at h1; exact h1.symm) nx c
      have := (hy x hx).1
      have e' : (y.getD x 0).toNat = nx := e
      omega
  subst hn
  obtain ⟨L, hL⟩ : ∃ L, L = y.map Int.toNat := ⟨_, rfl⟩
  have hLl : L.length = n := by rw [hL, List.length_map, h.len]
  have hLg : ∀ d, d < n → L.getD d 0 = (y.getD d 0).toNat := fun d hd => by
    rw [hL]; simp [List.getD_eq_getElem?_getD, List.getElem?_eq_getElem (show d < y.length by rw [h.len]; exact hd)]
  have hyL : y = ofN L := getDI_ext (by rw [ofN_len, hLl, h.len]) fun d hd => by
    rw [h.len] at hd
    rw [ofN_get, hLg d hd, (hy d hd).2.1]
  refine ⟨L, hyL, ⟨⟨?_, ?_, ?_, ?_, ?_⟩, hLl, he, ?_⟩⟩
  · rw [h.zl, hLl]
  · intro i hi; rw [hLl] at hi ⊢; rw [hLg i hi]; exact (hy i hi).1
  · intro i hi; rw [hLl] at hi ⊢; exact h.zlt i hi
  · intro i hi; rw [hLl] at hi; rw [hLg i hi]; exact (hy i hi).2.2
  · intro i hi
    rw [hLl] at hi
    have h1 := h.yz i hi
    rw [hLg _ (h.zlt i hi), h1]; simp
  · intro d hd
    have h1 := h.mt d _ hd (hy d hd).2.1.symm
    show L.getD (Go.Proofs.YtgcbdoljapnecaaGreat.mt d) 0 = Go.Proofs.YtgcbdoljapnecaaGreat.mt (L.getD d 0)
    rw [hLg _ (mt_in he hd), h1, hLg d hd]; simp
end Go.Proofs.YtgcbdoljapnecaaGreat
namespace Go.Proofs.YtgcbdoljapnecaaGreat
set_option linter.unusedVariables false
/-! ### the walk -/
def wKd (nm : Nat → Nat) (K : List Int) (M : List Bool) (d : Nat) : Nat := if K.getD (d / 2) 0 = 0 then 1 else if K.getD (d / 2) 0 = 2 then 3 else if M.getD (nm (mt d)) false = true then 2 else 0
def wK1 (K : List Int) (d k : Nat) : List Int := if k % 2 = 0 then K.set (d / 2) k else K
def wM1 (nm : Nat → Nat) (M : List Bool) (d k : Nat) : List Bool := if k = 0 then M.set (nm (mt d)) true else M
def wNx (sg : Nat → Nat) (d k : Nat) : Nat := if k < 2 then sg (mt d) else sg d
structure WS where
  d : Nat
  K : List Int
  M : List Bool
def WS.k (nm : Nat → Nat) (s : WS) : Nat := wKd nm s.K s.M s.d
def WS.next (sg nm : Nat → Nat) (s : WS) : WS := ⟨wNx sg s.d (s.k nm), wK1 s.K s.d (s.k nm), wM1 nm s.M s.d (s.k nm)⟩
def wrun (sg nm : Nat → Nat) (m V r : Nat) : Nat → WS
  | 0 => ⟨r, List.replicate m (-1), (List.replicate V false).set (nm r) true⟩
  | j + 1 => (wrun sg nm m V r j).next sg nm
/-- Around the tree of K. -/
def fK (sg : Nat → Nat) (K : List Int) (d : Nat) : Nat := sg (if K.getD (d / 2) 0 = 0 then mt d else d)
theorem mt_half (d : Nat) : mt d / 2 = d / 2 := by unfold mt; split <;> omega
theorem mt_mt' (d : Nat) : mt (mt d) = d := by unfold mt; split <;> split <;> omega
theorem fK_pf {n m : Nat} {sg : Nat → Nat} (h : PF n sg) (hn : n = 2 * m) (K : List Int) : PF n (fK sg K) := by
  refine ⟨fun i hi => ?_, fun i j hi hj e => ?_⟩
  · unfold fK
    split
    · exact h.lt _ (mt_lt hn hi)
    · exact h.lt _ hi
  · unfold fK at e
    have hi' := mt_lt hn hi
    have hj' := mt_lt hn hj
    split at e
    · next a =>
      split at e
      · have := h.inj _ _ hi' hj' e
        have := congrArg mt this
        rwa [mt_mt', mt_mt'] at this
      · next c =>
        have := h.inj _ _ hi' hj e
        rw [← this, mt_half] at c
        exact absurd a c
    · next a =>
      split at e
      · next c =>
        have := h.inj _ _ hi hj' e
        rw [this, mt_half] at a
        exact absurd c a
      · exact h.inj _ _ hi hj e
/-- What is known of a walk's state. -/
structure WOk (n m V : Nat) (sg nm : Nat → Nat) (r : Nat) (s : WS) : Prop where
  lt : s.d < n
  kl : s.K.length = m
  ml : s.M.length = V
  ks : ∀ e, e < m → s.K.getD e 0 = -1 ∨ s.K.getD e 0 = 0 ∨ s.K.getD e 0 = 2
  md : s.M.getD (nm s.d) false = true
  me : ∀ d, d < n → s.K.getD (d / 2) 0 ≠ -1 → s.M.getD (nm d) false = true
  mo : ∀ x, x < n → (Orb (fK sg s.K) r x ↔ s.M.getD (nm x) false = true)
theorem getB_set (y : List Bool) (k j : Nat) (v : Bool) (hk : k < y.length) : (y.set k v).getD j false = if j = k then v else y.getD j false := by
  by_cases e : j = k
  · subst e; simp [List.getD_eq_getElem?_getD, hk]
  · rw [if_neg e]; simp [List.getD_eq_getElem?_getD, Ne.symm e]
theorem getI_set (y : List Int) (k j : Nat) (v : Int) (hk : k < y.length) : (y.set k v).getD j 0 = if j = k then v else y.getD j 0 := by
  by_cases e : j = k
  · subst e; simp [List.getD_eq_getElem?_getD, hk]
  · rw [if_neg e]; simp [List.getD_eq_getElem?_getD, Ne.symm e]
section
variable {n m V : Nat} {sg nm : Nat → Nat} {r : Nat}
/-- Two that agree on all that one comes to have the same orbit there. -/
theorem orb_same {f g : Nat → Nat} {S : Nat → Prop} (hs : ∀ x, S x → f x = g x) (hc : ∀ x, S x → S (g x)) {i : Nat} (hi : S i) : ∀ k, itf f k i = itf g k i ∧ S (itf g k i)
  | 0 => ⟨rfl, hi⟩
  | k + 1 => by
    obtain ⟨e, s⟩ := orb_same hs hc hi k
    exact ⟨by show f (itf f k i) = g (itf g k i); rw [e, hs _ s], hc _ s⟩
theorem nm_it (hs : PF n sg) (hnm : ∀ x y, x < n → y < n → (nm x = nm y ↔ Orb sg x y)) {x : Nat} (hx : x < n) : nm (sg x) = nm x := ((hnm x (sg x) hx (hs.lt x hx)).2 ⟨1, rfl⟩).symm
theorem WOk.start (hs : PF n sg) (hn : n = 2 * m) (hnm : ∀ x y, x < n → y < n → (nm x = nm y ↔ Orb sg x y)) (hV : ∀ x, x < n → nm x < V) (hr : r < n) : WOk n m V sg nm r (wrun sg nm m V r 0) := by
  have hk : ∀ e, e < m → (List.replicate m (-1 : Int)).getD e 0 = -1 := fun e he => by simp [List.getD_eq_getElem?_getD, he]
  have hm : ∀ x, ((List.replicate V false).set (nm r) true).getD x false = decide (x = nm r) := fun x => by
    rw [getB_set _ _ _ _ (by simpa using hV r hr)]
    by_cases c : x = nm r
    · rw [if_pos c, decide_eq_true_iff.2 c]
    · rw [if_neg c, decide_eq_false_iff_not.2 c]
      simp [List.getD_eq_getElem?_getD, List.getElem?_replicate]
      split <;> rfl
  refine ⟨hr, by simp [wrun], by simp [wrun], fun e he => .inl (hk e he), ?_, fun d hd c => absurd (hk _ (by omega)) c, fun x hx => ?_⟩
  · show _ = true; rw [wrun, hm]; simp
  · show Orb (fK sg (List.replicate m (-1))) r x ↔ ((List.replicate V false).set (nm r) true).getD (nm x) false = true
    rw [hm, decide_eq_true_iff]
    have hf : ∀ y, y < n → fK sg (List.replicate m (-1)) y = sg y := fun y hy => by unfold fK; rw [if_neg (by rw [hk _ (by omega)]; omega)]
    constructor
    · rintro ⟨k, e⟩
      have := (orb_same (S := fun y => y < n) hf (fun y hy => hs.lt y hy) hr k).1
      exact ((hnm r x hr hx).2 ⟨k, by rw [← this]; exact e⟩).symm
    · intro e
      obtain ⟨k, e⟩ := (hnm r x hr hx).1 e.symm
      have := (orb_same (S := fun y => y < n) hf (fun y hy => hs.lt y hy) hr k).1
      exact ⟨k, by rw [this]; exact e⟩
/-- The four kinds. -/
theorem WS.kinds (s : WS) : (s.k nm = 1 ∧ s.K.getD (s.d / 2) 0 = 0) ∨ (s.k nm = 3 ∧ s.K.getD (s.d / 2) 0 = 2) ∨ (s.k nm = 2 ∧ s.K.getD (s.d / 2) 0 ≠ 0 ∧ s.K.getD (s.d / 2) 0 ≠ 2 ∧ s.M.getD (nm (mt s.d)) false = true) ∨ (s.k nm = 0 ∧ s.K.getD (s.d / 2) 0 ≠ 0 ∧ s.K.getD (s.d / 2) 0 ≠ 2 ∧ s.M.getD (nm (mt s.d)) false ≠ true) := by
  unfold WS.k wKd
  by_cases a : s.K.getD (s.d / 2) 0 = 0
  · exact .inl ⟨by rw [if_pos a], a⟩
  · by_cases c : s.K.getD (s.d / 2) 0 = 2
    · exact .inr (.inl ⟨by rw [if_neg a, if_pos c], c⟩)
    · by_cases q : s.M.getD (nm (mt s.d)) false = true
      · exact .inr (.inr (.inl ⟨by rw [if_neg a, if_neg c, if_pos q], a, c, q⟩))
      · exact .inr (.inr (.inr ⟨by rw [if_neg a, if_neg c, if_neg q], a, c, q⟩))
theorem WOk.next (hs : PF n sg) (hn : n = 2 * m) (hnm : ∀ x y, x < n → y < n → (nm x = nm y ↔ Orb sg x y)) (hV : ∀ x, x < n → nm x < V) (hr : r < n) {s : WS} (h : WOk n m V sg nm r s) : WOk n m V sg nm r (s.next sg nm) := by
  have hd := h.lt
  have hmd : mt s.d < n := mt_lt hn hd
  have he : s.d / 2 < m := by omega
  have nsg : ∀ x, x < n → nm (sg x) = nm x := fun x hx => nm_it hs hnm hx
  unfold WS.next
  rcases s.kinds (nm := nm) with ⟨k, a⟩ | ⟨k, a⟩ | ⟨k, a, c, q⟩ | ⟨k, a, c, q⟩
  · rw [k]
    refine ⟨by show wNx sg s.d 1 < n; unfold wNx; rw [if_pos (by omega)]; exact hs.lt _ hmd, h.kl, h.ml, h.ks, ?_, h.me, h.mo⟩
    show s.M.getD (nm (wNx sg s.d 1)) false = true
    unfold wNx
    rw [if_pos (by omega), nsg _ hmd]
    exact h.me _ hmd (by rw [mt_half, a]; omega)
  · rw [k]
    refine ⟨by show wNx sg s.d 3 < n; unfold wNx; rw [if_neg (by omega)]; exact hs.lt _ hd, h.kl, h.ml, h.ks, ?_, h.me, h.mo⟩
    show s.M.getD (nm (wNx sg s.d 3)) false = true
    unfold wNx
    rw [if_neg (by omega), nsg _ hd]
    exact h.md
  · rw [k]
    have hK : ∀ e, (wK1 s.K s.d 2).getD e 0 = if e = s.d / 2 then 2 else s.K.getD e 0 := fun e => by
      unfold wK1; rw [if_pos (by omega)]; exact getI_set _ _ _ _ (by rw [h.kl]; exact he)
    refine ⟨by show wNx sg s.d 2 < n; unfold wNx; rw [if_neg (by omega)]; exact hs.lt _ hd, by show (wK1 s.K s.d 2).length = m; unfold wK1; rw [if_pos (by omega), List.length_set]; exact h.kl, h.ml, fun e hem => ?_, ?_, fun d hdn => ?_, fun x hx => ?_⟩
    · show (wK1 s.K s.d 2).getD e 0 = -1 ∨ _
      rw [hK]
      split
      · exact .inr (.inr rfl)
      · exact h.ks e hem
    · show s.M.getD (nm (wNx sg s.d 2)) false = true
      unfold wNx
      rw [if_neg (by omega), nsg _ hd]
      exact h.md
    · show (wK1 s.K s.d 2).getD (d / 2) 0 ≠ -1 → s.M.getD (nm d) false = true
      rw [hK]
      split
      · next x =>
        intro _
        have : d = s.d ∨ d = mt s.d := by unfold mt; split <;> omega
        rcases this with rfl | rfl
        · exact h.md
        · exact q
      · exact h.me d hdn
    · show Orb (fK sg (wK1 s.K s.d 2)) r x ↔ s.M.getD (nm x) false = true
      rw [← h.mo x hx]
      have : fK sg (wK1 s.K s.d 2) = fK sg s.K := by
        funext y
        unfold fK
        rw [hK]
        by_cases c' : y / 2 = s.d / 2
        · rw [if_pos c', if_neg (by omega), if_neg (by rw [c']; exact a)]
        · rw [if_neg c']
      rw [this]
  · rw [k]
    have q' : s.M.getD (nm (mt s.d)) false = false := by simpa using q
    have hK : ∀ e, (wK1 s.K s.d 0).getD e 0 = if e = s.d / 2 then 0 else s.K.getD e 0 := fun e => by
      unfold wK1; rw [if_pos (by omega)]; exact getI_set _ _ _ _ (by rw [h.kl]; exact he)
    have hM : ∀ v, (wM1 nm s.M s.d 0).getD v false = if v = nm (mt s.d) then true else s.M.getD v false := fun v => by
      unfold wM1; rw [if_pos rfl]; exact getB_set _ _ _ _ (by rw [h.ml]; exact hV _ hmd)
    have hfp := fK_pf hs hn s.K
    refine ⟨by show wNx sg s.d 0 < n; unfold wNx; rw [if_pos (by omega)]; exact hs.lt _ hmd, by show (wK1 s.K s.d 0).length = m; unfold wK1; rw [if_pos (by omega), List.length_set]; exact h.kl, by show (wM1 nm s.M s.d 0).length = V; unfold wM1; rw [if_pos rfl, List.length_set]; exact h.ml, fun e hem => ?_, ?_, fun d hdn => ?_, fun x hx => ?_⟩
    · show (wK1 s.K s.d 0).getD e 0 = -1 ∨ _
      rw [hK]
      split
      · exact .inr (.inl rfl)
      · exact h.ks e hem
    · show (wM1 nm s.M s.d 0).getD (nm (wNx sg s.d 0)) false = true
      unfold wNx
      rw [if_pos (by omega), nsg _ hmd, hM, if_pos rfl]
    · show (wK1 s.K s.d 0).getD (d / 2) 0 ≠ -1 → (wM1 nm s.M s.d 0).getD (nm d) false = true
      rw [hK, hM]
      intro x
      split
      · rfl
      · split at x
        · next y z =>
          have : d = s.d ∨ d = mt s.d := by unfold mt; split <;> omega
          rcases this with rfl | rfl
          · exact h.md
          · exact absurd rfl y
        · exact h.me d hdn x
    · show Orb (fK sg (wK1 s.K s.d 0)) r x ↔ (wM1 nm s.M s.d 0).getD (nm x) false = true
      -- the two cycles become one
      have hd2 : s.d = 2 * (s.d / 2) ∨ s.d = 2 * (s.d / 2) + 1 := by omega
      have hsw : ∀ y, swp s.d (mt s.d) y = if y / 2 = s.d / 2 then mt y else y := fun y => by
        unfold swp mt
        repeat' split
        all_goals omega
      have hfe : fK sg (wK1 s.K s.d 0) = fun i => fK sg s.K (swp s.d (mt s.d) i) := by
        funext y
        unfold fK
        rw [hK, hsw]
        by_cases c' : y / 2 = s.d / 2
        · rw [if_pos c', if_pos rfl, if_pos c', if_neg (by rw [mt_half, c']; exact a)]
        · rw [if_neg c', if_neg c']
      have hno : ¬ Orb (fK sg s.K) s.d (mt s.d) := fun o => by
        have hE := hfp.eqv
        have o1 := (h.mo s.d hd).2 h.md
        have := (h.mo (mt s.d) hmd).1 (hE.trans _ _ _ hr hd hmd o1 o)
        exact q this
      have hab := orb_meet hfp hd hmd hno
      have hfp2 := (hfp.swap hd hmd).eqv
      have hj : joinR (Orb fun i => fK sg s.K (swp s.d (mt s.d) i)) s.d (mt s.d) r x ↔ Orb (fun i => fK sg s.K (swp s.d (mt s.d) i)) r x := by
        constructor
        · rintro (y | ⟨y1, y2⟩ | ⟨y1, y2⟩)
          · exact y
          · exact hfp2.trans _ _ _ hr hd hx y1 (hfp2.trans _ _ _ hd hmd hx hab y2)
          · exact hfp2.trans _ _ _ hr hmd hx y1 (hfp2.trans _ _ _ hmd hd hx (hfp2.symm _ _ hd hmd hab) y2)
        · exact .inl
      rw [hfe, ← hj, ← orb_join hfp hd hmd r x hr hx, hM]
      -- around the new vertex
      have hv : ∀ y, y < n → nm y = nm (mt s.d) → fK sg s.K y = sg y := fun y hy e => by
        unfold fK
        by_cases z : s.K.getD (y / 2) 0 = 0
        · have := h.me y hy (by rw [z]; omega)
          rw [e] at this
          exact absurd this q
        · rw [if_neg z]
      have hnew : Orb (fK sg s.K) (mt s.d) x ↔ nm x = nm (mt s.d) := by
        have key := fun t => orb_same (f := fK sg s.K) (g := sg) (S := fun y => y < n ∧ nm y = nm (mt s.d)) (fun y hy => hv y hy.1 hy.2) (fun y hy => ⟨hs.lt y hy.1, by rw [nsg y hy.1]; exact hy.2⟩) (i := mt s.d) ⟨hmd, rfl⟩ t
        constructor
        · rintro ⟨t, e⟩
          have := key t
          rw [← e, this.1]; exact this.2.2
        · intro e
          obtain ⟨t, e⟩ := (hnm _ _ hmd hx).1 e.symm
          exact ⟨t, by rw [(key t).1]; exact e⟩
      have o1 := (h.mo s.d hd).2 h.md
      have o2 : ¬ Orb (fK sg s.K) r (mt s.d) := fun o => q ((h.mo _ hmd).1 o)
      unfold joinR
      rw [h.mo x hx, hnew]
      constructor
      · rintro (y | ⟨_, y⟩ | ⟨y, _⟩)
        · split
          · rfl
          · exact y
        · rw [if_pos y]
        · exact absurd y o2
      · intro y
        split at y
        · next z => exact .inr (.inl ⟨o1, z⟩)
        · exact .inl y
theorem wok (hs : PF n sg) (hn : n = 2 * m) (hnm : ∀ x y, x < n → y < n → (nm x = nm y ↔ Orb sg x y)) (hV : ∀ x, x < n → nm x < V) (hr : r < n) : ∀ j, WOk n m V sg nm r (wrun sg nm m V r j)
  | 0 => .start hs hn hnm hV hr
  | j + 1 => (wok hs hn hnm hV hr j).next hs hn hnm hV hr
end
section
variable {n m V : Nat} {sg nm : Nat → Nat} {r : Nat}
/-- An edge's kind stays. -/
theorem wkeep (hs : PF n sg) (hn : n = 2 * m) (hnm : ∀ x y, x < n → y < n → (nm x = nm y ↔ Orb sg x y)) (hV : ∀ x, x < n → nm x < V) (hr : r < n) (e : Nat) (he : e < m) (j : Nat) : ∀ i, (wrun sg nm m V r j).K.getD e 0 ≠ -1 → (wrun sg nm m V r (j + i)).K.getD e 0 = (wrun sg nm m V r j).K.getD e 0
  | 0, _ => rfl
  | i + 1, h => by
    have ih := wkeep hs hn hnm hV hr e he j i h
    have hw := wok hs hn hnm hV hr (j + i)
    rw [← ih] at h ⊢
    show ((wrun sg nm m V r (j + i)).next sg nm).K.getD e 0 = _
    generalize wrun sg nm m V r (j + i) = s at *
    have hse : s.d / 2 < s.K.length := by rw [hw.kl]; have := hw.lt; omega
    unfold WS.next
    rcases s.kinds (nm := nm) with ⟨k, a⟩ | ⟨k, a⟩ | ⟨k, a, c, q⟩ | ⟨k, a, c, q⟩
    · rw [k]; rfl
    · rw [k]; rfl
    · rw [k]
      show (wK1 s.K s.d 2).getD e 0 = _
      unfold wK1
      rw [if_pos (by omega), getI_set _ _ _ _ hse]
      split
      · next x => subst x; rcases hw.ks _ he with y | y | y <;> omega
      · rfl
    · rw [k]
      show (wK1 s.K s.d 0).getD e 0 = _
      unfold wK1
      rw [if_pos (by omega), getI_set _ _ _ _ hse]
      split
      · next x => subst x; rcases hw.ks _ he with y | y | y <;> omega
      · rfl
/-- Of what was looked at the edge has its kind. -/
theorem wkind (hs : PF n sg) (hn : n = 2 * m) (hnm : ∀ x y, x < n → y < n → (nm x = nm y ↔ Orb sg x y)) (hV : ∀ x, x < n → nm x < V) (hr : r < n) {i j : Nat} (hij : i < j) :
    (wrun sg nm m V r j).K.getD ((wrun sg nm m V r i).d / 2) 0 = if (wrun sg nm m V r i).k nm < 2 then 0 else 2 := by
  have hw := wok hs hn hnm hV hr i
  have he : (wrun sg nm m V r i).d / 2 < m := by have := hw.lt; omega
  have h1 : (wrun sg nm m V r (i + 1)).K.getD ((wrun sg nm m V r i).d / 2) 0 = if (wrun sg nm m V r i).k nm < 2 then 0 else 2 := by
    show ((wrun sg nm m V r i).next sg nm).K.getD _ 0 = _
    generalize wrun sg nm m V r i = s at *
    have hse : s.d / 2 < s.K.length := by rw [hw.kl]; exact he
    unfold WS.next
    rcases s.kinds (nm := nm) with ⟨k, a⟩ | ⟨k, a⟩ | ⟨k, a, c, q⟩ | ⟨k, a, c, q⟩
    · rw [k]; exact a
    · rw [k]; exact a
    · rw [k]
      show (wK1 s.K s.d 2).getD _ 0 = _
      unfold wK1
      rw [if_pos (by omega), getI_set _ _ _ _ hse, if_pos rfl]; rfl
    · rw [k]
      show (wK1 s.K s.d 0).getD _ 0 = _
      unfold wK1
      rw [if_pos (by omega), getI_set _ _ _ _ hse, if_pos rfl]; rfl
  have h2 := wkeep hs hn hnm hV hr _ he (i + 1) (j - (i + 1)) (by rw [h1]; split <;> omega)
  rw [show i + 1 + (j - (i + 1)) = j by omega] at h2
  rw [h2, h1]
/-- Where a dart leads to is told by its edge's kind, that never changes. -/
theorem wnext (hs : PF n sg) (hn : n = 2 * m) (hnm : ∀ x y, x < n → y < n → (nm x = nm y ↔ Orb sg x y)) (hV : ∀ x, x < n → nm x < V) (hr : r < n) {i j : Nat} (hij : i < j) :
    (wrun sg nm m V r (i + 1)).d = fK sg (wrun sg nm m V r j).K (wrun sg nm m V r i).d := by
  have h := wkind hs hn hnm hV hr hij
  unfold fK
  rw [h]
  show wNx sg (wrun sg nm m V r i).d ((wrun sg nm m V r i).k nm) = _
  unfold wNx
  split
  · rw [if_pos rfl]
  · rw [if_neg (by omega)]
/-- Whatever comes again first is the root. -/
theorem wback (hs : PF n sg) (hn : n = 2 * m) (hnm : ∀ x y, x < n → y < n → (nm x = nm y ↔ Orb sg x y)) (hV : ∀ x, x < n → nm x < V) (hr : r < n) : ∀ i j, i < j → (wrun sg nm m V r i).d = (wrun sg nm m V r j).d → (wrun sg nm m V r (j - i)).d = r
  | 0, j, _, e => e.symm
  | i + 1, j, h, e => by
    have hfp := fK_pf hs hn (wrun sg nm m V r j).K
    have e1 := wnext hs hn hnm hV hr (show i < j by omega)
    have e2 := wnext hs hn hnm hV hr (i := j - 1) (j := j) (by omega)
    rw [show j - 1 + 1 = j by omega] at e2
    rw [e1, e2] at e
    have := hfp.inj _ _ (wok hs hn hnm hV hr i).lt (wok hs hn hnm hV hr (j - 1)).lt e
    have := wback hs hn hnm hV hr i (j - 1) (by omega) this
    rwa [show j - 1 - i = j - (i + 1) by omega] at this
/-- The walk ends. -/
theorem wends (hs : PF n sg) (hn : n = 2 * m) (hnm : ∀ x y, x < n → y < n → (nm x = nm y ↔ Orb sg x y)) (hV : ∀ x, x < n → nm x < V) (hr : r < n) : ∃ N, 1 ≤ N ∧ N ≤ n ∧ (wrun sg nm m V r N).d = r ∧ ∀ j, 1 ≤ j → j < N → (wrun sg nm m V r j).d ≠ r := by
  have : ∃ i j, i < j ∧ j ≤ n ∧ (wrun sg nm m V r i).d = (wrun sg nm m V r j).d := Classical.byContradiction fun hx => by
    have hinj : ∀ a b, a < n + 1 → b < n + 1 → (wrun sg nm m V r a).d = (wrun sg nm m V r b).d → a = b := fun a b ha hb e => by
      rcases Nat.lt_trichotomy a b with x | x | x
      · exact absurd ⟨a, b, x, by omega, e⟩ hx
      · exact x
      · exact absurd ⟨b, a, x, by omega, e.symm⟩ hx
    obtain ⟨k, hk, e⟩ := inj_surj (n + 1) (fun k => (wrun sg nm m V r k).d) (fun k _ => by have := (wok hs hn hnm hV hr k).lt; show (wrun sg nm m V r k).d < n + 1; omega) hinj n (by omega)
    have := (wok hs hn hnm hV hr k).lt
    have e' : (wrun sg nm m V r k).d = n := e
    omega
  obtain ⟨i, j, hij, hjn, e⟩ := this
  have hb := wback hs hn hnm hV hr i j hij e
  obtain ⟨N, hN, hp, hl⟩ := least_k (p := fun k => 1 ≤ k ∧ (wrun sg nm m V r k).d = r) (j - i) ⟨by omega, hb⟩
  exact ⟨N, hp.1, by omega, hp.2, fun k k1 k2 k3 => hl k k2 ⟨k1, k3⟩⟩
open Classical in
/-- How long the walk is. -/
noncomputable def wN (sg nm : Nat → Nat) (m V r : Nat) : Nat := if h : ∃ N, 1 ≤ N ∧ (wrun sg nm m V r N).d = r ∧ ∀ j, 1 ≤ j → j < N → (wrun sg nm m V r j).d ≠ r then h.choose else 0
theorem wN_is (hs : PF n sg) (hn : n = 2 * m) (hnm : ∀ x y, x < n → y < n → (nm x = nm y ↔ Orb sg x y)) (hV : ∀ x, x < n → nm x < V) (hr : r < n) :
    1 ≤ wN sg nm m V r ∧ wN sg nm m V r ≤ n ∧ (wrun sg nm m V r (wN sg nm m V r)).d = r ∧ ∀ j, 1 ≤ j → j < wN sg nm m V r → (wrun sg nm m V r j).d ≠ r := by
  obtain ⟨N, n1, n2, n3, n4⟩ := wends hs hn hnm hV hr
  have hx : ∃ N, 1 ≤ N ∧ (wrun sg nm m V r N).d = r ∧ ∀ j, 1 ≤ j → j < N → (wrun sg nm m V r j).d ≠ r := ⟨N, n1, n3, n4⟩
  have e : wN sg nm m V r = hx.choose := by unfold wN; rw [dif_pos hx]
  obtain ⟨c1, c2, c3⟩ := hx.choose_spec
  rw [← e] at c1 c2 c3
  refine ⟨c1, ?_, c2, c3⟩
  rcases Nat.lt_or_ge N (wN sg nm m V r) with x | x
  · exact absurd n3 (c3 N n1 x)
  · omega
/-- The walk is the orbit of the root around its tree. -/
theorem worb (hs : PF n sg) (hn : n = 2 * m) (hnm : ∀ x y, x < n → y < n → (nm x = nm y ↔ Orb sg x y)) (hV : ∀ x, x < n → nm x < V) (hr : r < n) (N : Nat) : ∀ j, j ≤ N → itf (fK sg (wrun sg nm m V r N).K) j r = (wrun sg nm m V r j).d
  | 0, _ => rfl
  | j + 1, h => by
    rw [wnext hs hn hnm hV hr (show j < N by omega)]
    show fK _ _ (itf _ j r) = _
    rw [worb hs hn hnm hV hr N j (by omega)]
/-- It looks at just the darts of the part. -/
theorem wpart (hs : PF n sg) (hn : n = 2 * m) (hnm : ∀ x y, x < n → y < n → (nm x = nm y ↔ Orb sg x y)) (hV : ∀ x, x < n → nm x < V) (hr : r < n) {x : Nat} (hx : x < n) : gk sg m r x ↔ ∃ j, j < wN sg nm m V r ∧ (wrun sg nm m V r j).d = x := by
  obtain ⟨n1, n2, n3, n4⟩ := wN_is hs hn hnm hV hr
  have hw := wok hs hn hnm hV hr (wN sg nm m V r)
  have ho : ∀ x, x < n → (Orb (fK sg (wrun sg nm m V r (wN sg nm m V r)).K) r x ↔ ∃ j, j < wN sg nm m V r ∧ (wrun sg nm m V r j).d = x) := fun x hx => by
    constructor
    · rintro ⟨k, e⟩
      have hb : itf (fK sg (wrun sg nm m V r (wN sg nm m V r)).K) (wN sg nm m V r) r = r := by rw [worb hs hn hnm hV hr _ _ (Nat.le_refl _)]; exact n3
      have hmod : itf (fK sg (wrun sg nm m V r (wN sg nm m V r)).K) (k % wN sg nm m V r) r = x := by
        have h1 := itf_mul hb (k / wN sg nm m V r)
        rw [← Nat.mod_add_div k (wN sg nm m V r), itf_add, Nat.mul_comm, h1] at e
        exact e
      have hlt : k % wN sg nm m V r < wN sg nm m V r := Nat.mod_lt _ (by omega)
      exact ⟨_, hlt, by rw [← worb hs hn hnm hV hr _ _ (Nat.le_of_lt hlt)]; exact hmod⟩
    · rintro ⟨j, hj, e⟩
      exact ⟨j, by rw [worb hs hn hnm hV hr _ _ (Nat.le_of_lt hj)]; exact e⟩
  rw [← ho x hx, hw.mo x hx]
  have hsS : ∀ i, i < n → (wrun sg nm m V r (wN sg nm m V r)).M.getD (nm i) false = true → (wrun sg nm m V r (wN sg nm m V r)).M.getD (nm (sg i)) false = true := fun i hi c => by rw [nm_it hs hnm hi]; exact c
  have hsm : ∀ i, i < n → (wrun sg nm m V r (wN sg nm m V r)).M.getD (nm i) false = true → (wrun sg nm m V r (wN sg nm m V r)).M.getD (nm (mt i)) false = true := fun i hi c => by
    obtain ⟨j, hj, e⟩ := (ho i hi).1 ((hw.mo i hi).2 c)
    have hk := wkind hs hn hnm hV hr hj
    refine hw.me (mt i) (mt_lt hn hi) ?_
    rw [mt_half, ← e, hk]
    split <;> omega
  constructor
  · intro g
    exact (part_closed hs hn (S := fun i => (wrun sg nm m V r (wN sg nm m V r)).M.getD (nm i) false = true) hsS hsm r x hr hx g).1 ((hw.mo r hr).1 ⟨0, rfl⟩)
  · intro c
    obtain ⟨j, hj, e⟩ := (ho x hx).1 ((hw.mo x hx).2 c)
    have hE := gk_eqv hs hn m (Nat.le_refl _)
    have key : ∀ j, gk sg m r (wrun sg nm m V r j).d := fun j => by
      induction j with
      | zero => exact hE.refl r hr
      | succ j ih =>
        have hl := (wok hs hn hnm hV hr j).lt
        have hm := mt_lt hn hl
        show gk sg m r (wNx sg _ _)
        unfold wNx
        split
        · exact hE.trans _ _ _ hr hm (hs.lt _ hm) (hE.trans _ _ _ hr hl hm ih (gk_mt hs hn _ hl)) (gk_sig hs _ m)
        · exact hE.trans _ _ _ hr hl (hs.lt _ hl) ih (gk_sig hs _ m)
    rw [← e]; exact key j
end
end Go.Proofs.YtgcbdoljapnecaaGreat
