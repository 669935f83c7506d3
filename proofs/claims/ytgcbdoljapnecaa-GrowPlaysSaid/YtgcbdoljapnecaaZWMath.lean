/- The walk around a spanning tree: mathematics. -/
import Derived.Test.YtgcbdoljapnecaaZENam
namespace Go.Proofs.Ytgcbdoljapnecaa
set_option linter.unusedVariables false
/-! ### the walk -/
def wKd (nm : Nat → Nat) (K : List Int) (M : List Bool) (d : Nat) : Nat := if K.getD (d / 2) 0 = 0 then 1 else if K.getD (d / 2) 0 = 2 then 3 else if M.getD (nm (mt d)) false = true then 2 else 0
def wK1 (K : List Int) (d k : Nat) : List Int := if k % 2 = 0 then K.set (d / 2) k else K
def wM1 (nm : Nat → Nat) (M : List Bool) (d k : Nat) : List Bool := if k = 0 then M.set (nm (mt d)) true else M
def wNx (sg : Nat → Nat) (d k : Nat) : Nat := if k < 2 then sg (mt d) else sg d
structure WS where
  d : Nat
  K : List Int
  M : List Bool
def WS.k (nm : Nat → Nat) (s : WS) : Nat := wKd nm s.K s.M s.d
def WS.next (sg nm : Nat → Nat) (s : WS) : WS := ⟨wNx sg s.d (s.k nm), wK1 s.K s.d (s.k nm), wM1 nm s.M s.d (s.k nm)⟩
/-- Around the tree of K. -/
def fK (sg : Nat → Nat) (K : List Int) (d : Nat) : Nat := sg (if K.getD (d / 2) 0 = 0 then mt d else d)
theorem mt_half (d : Nat) : mt d / 2 = d / 2 := by unfold mt; split <;> omega
theorem mt_mt' (d : Nat) : mt (mt d) = d := by unfold mt; split <;> split <;> omega
theorem mt_ne (d : Nat) : mt d ≠ d := by unfold mt; split <;> omega
theorem fK_pf {n m : Nat} {sg : Nat → Nat} (h : PF n sg) (hn : n = 2 * m) (K : List Int) : PF n (fK sg K) := by
  refine ⟨fun i hi => ?_, fun i j hi hj e => ?_⟩
  · unfold fK
    split
    · exact h.lt _ (mt_lt hn hi)
    · exact h.lt _ hi
  · unfold fK at e
    have hi' := mt_lt hn hi
    have hj' := mt_lt hn hj
    split at e
    · next a =>
      split at e
      · have := h.inj _ _ hi' hj' e
        have := congrArg mt this
        rwa [mt_mt', mt_mt'] at this
      · next c =>
        have := h.inj _ _ hi' hj e
        rw [← this, mt_half] at c
        exact absurd a c
    · next a =>
      split at e
      · next c =>
        have := h.inj _ _ hi hj' e
        rw [this, mt_half] at a
        exact absurd c a
      · exact h.inj _ _ hi hj e
/-- What is known of a walk's state. -/
structure WOk (n m V : Nat) (sg nm : Nat → Nat) (r : Nat) (s : WS) : Prop where
  lt : s.d < n
  kl : s.K.length = m
  ml : s.M.length = V
  ks : ∀ e, e < m → s.K.getD e 0 = -1 ∨ s.K.getD e 0 = 0 ∨ s.K.getD e 0 = 2
  md : s.M.getD (nm s.d) false = true
  me : ∀ d, d < n → s.K.getD (d / 2) 0 ≠ -1 → s.M.getD (nm d) false = true
  mo : ∀ x, x < n → (Orb (fK sg s.K) r x ↔ s.M.getD (nm x) false = true)
theorem getB_set (y : List Bool) (k j : Nat) (v : Bool) (hk : k < y.length) : (y.set k v).getD j false = if j = k then v else y.getD j false := by
  by_cases e : j = k
  · subst e; simp [List.getD_eq_getElem?_getD, hk]
  · rw [if_neg e]; simp [List.getD_eq_getElem?_getD, Ne.symm e]
theorem getI_set (y : List Int) (k j : Nat) (v : Int) (hk : k < y.length) : (y.set k v).getD j 0 = if j = k then v else y.getD j 0 := by
  by_cases e : j = k
  · subst e; simp [List.getD_eq_getElem?_getD, hk]
  · rw [if_neg e]; simp [List.getD_eq_getElem?_getD, Ne.symm e]
section
variable {n m V : Nat} {sg nm : Nat → Nat} {r : Nat}
/-- Two that agree on all that one comes to have the same orbit there. -/
theorem orb_same {f g : Nat → Nat} {S : Nat → Prop} (hs : ∀ x, S x → f x = g x) (hc : ∀ x, S x → S (g x)) {i : Nat} (hi : S i) : ∀ k, itf f k i = itf g k i ∧ S (itf g k i)
  | 0 => ⟨rfl, hi⟩
  | k + 1 => by
    obtain ⟨e, s⟩ := orb_same hs hc hi k
    exact ⟨by show f (itf f k i) = g (itf g k i); rw [e, hs _ s], hc _ s⟩
theorem nm_it (hs : PF n sg) (hnm : ∀ x y, x < n → y < n → (nm x = nm y ↔ Orb sg x y)) {x : Nat} (hx : x < n) : nm (sg x) = nm x := ((hnm x (sg x) hx (hs.lt x hx)).2 ⟨1, rfl⟩).symm
/-- The four kinds. -/
theorem WS.kinds (s : WS) : (s.k nm = 1 ∧ s.K.getD (s.d / 2) 0 = 0) ∨ (s.k nm = 3 ∧ s.K.getD (s.d / 2) 0 = 2) ∨ (s.k nm = 2 ∧ s.K.getD (s.d / 2) 0 ≠ 0 ∧ s.K.getD (s.d / 2) 0 ≠ 2 ∧ s.M.getD (nm (mt s.d)) false = true) ∨ (s.k nm = 0 ∧ s.K.getD (s.d / 2) 0 ≠ 0 ∧ s.K.getD (s.d / 2) 0 ≠ 2 ∧ s.M.getD (nm (mt s.d)) false ≠ true) := by
  unfold WS.k wKd
  by_cases a : s.K.getD (s.d / 2) 0 = 0
  · exact .inl ⟨by rw [if_pos a], a⟩
  · by_cases c : s.K.getD (s.d / 2) 0 = 2
    · exact .inr (.inl ⟨by rw [if_neg a, if_pos c], c⟩)
    · by_cases q : s.M.getD (nm (mt s.d)) false = true
      · exact .inr (.inr (.inl ⟨by rw [if_neg a, if_neg c, if_pos q], a, c, q⟩))
      · exact .inr (.inr (.inr ⟨by rw [if_neg a, if_neg c, if_neg q], a, c, q⟩))
theorem WOk.next (hs : PF n sg) (hn : n = 2 * m) (hnm : ∀ x y, x < n → y < n → (nm x = nm y ↔ Orb sg x y)) (hV : ∀ x, x < n → nm x < V) (hr : r < n) {s : WS} (h : WOk n m V sg nm r s) : WOk n m V sg nm r (s.next sg nm) := by
  have hd := h.lt
  have hmd : mt s.d < n := mt_lt hn hd
  have he : s.d / 2 < m := by omega
  have nsg : ∀ x, x < n → nm (sg x) = nm x := fun x hx => nm_it hs hnm hx
  unfold WS.next
  rcases s.kinds (nm := nm) with ⟨k, a⟩ | ⟨k, a⟩ | ⟨k, a, c, q⟩ | ⟨k, a, c, q⟩
  · rw [k]
    refine ⟨by show wNx sg s.d 1 < n; unfold wNx; rw [if_pos (by omega)]; exact hs.lt _ hmd, h.kl, h.ml, h.ks, ?_, h.me, h.mo⟩
    show s.M.getD (nm (wNx sg s.d 1)) false = true
    unfold wNx
    rw [if_pos (by omega), nsg _ hmd]
    exact h.me _ hmd (by rw [mt_half, a]; omega)
  · rw [k]
    refine ⟨by show wNx sg s.d 3 < n; unfold wNx; rw [if_neg (by omega)]; exact hs.lt _ hd, h.kl, h.ml, h.ks, ?_, h.me, h.mo⟩
    show s.M.getD (nm (wNx sg s.d 3)) false = true
    unfold wNx
    rw [if_neg (by omega), nsg _ hd]
    exact h.md
  · rw [k]
    have hK : ∀ e, (wK1 s.K s.d 2).getD e 0 = if e = s.d / 2 then 2 else s.K.getD e 0 := fun e => by
      unfold wK1; rw [if_pos (by omega)]; exact getI_set _ _ _ _ (by rw [h.kl]; exact he)
    refine ⟨by show wNx sg s.d 2 < n; unfold wNx; rw [if_neg (by omega)]; exact hs.lt _ hd, by show (wK1 s.K s.d 2).length = m; unfold wK1; rw [if_pos (by omega), List.length_set]; exact h.kl, h.ml, fun e hem => ?_, ?_, fun d hdn => ?_, fun x hx => ?_⟩
    · show (wK1 s.K s.d 2).getD e 0 = -1 ∨ _
      rw [hK]
      split
      · exact .inr (.inr rfl)
      · exact h.ks e hem
    · show s.M.getD (nm (wNx sg s.d 2)) false = true
      unfold wNx
      rw [if_neg (by omega), nsg _ hd]
      exact h.md
    · show (wK1 s.K s.d 2).getD (d / 2) 0 ≠ -1 → s.M.getD (nm d) false = true
      rw [hK]
      split
      · next x =>
        intro _
        have : d = s.d ∨ d = mt s.d := by unfold mt; split <;> omega
        rcases this with rfl | rfl
        · exact h.md
        · exact q
      · exact h.me d hdn
    · show Orb (fK sg (wK1 s.K s.d 2)) r x ↔ s.M.getD (nm x) false = true
      rw [← h.mo x hx]
      have : fK sg (wK1 s.K s.d 2) = fK sg s.K := by
        funext y
        unfold fK
        rw [hK]
        by_cases c' : y / 2 = s.d / 2
        · rw [if_pos c', if_neg (by omega), if_neg (by rw [c']; exact a)]
        · rw [if_neg c']
      rw [this]
  · rw [k]
    have q' : s.M.getD (nm (mt s.d)) false = false := by simpa using q
    have hK : ∀ e, (wK1 s.K s.d 0).getD e 0 = if e = s.d / 2 then 0 else s.K.getD e 0 := fun e => by
      unfold wK1; rw [if_pos (by omega)]; exact getI_set _ _ _ _ (by rw [h.kl]; exact he)
    have hM : ∀ v, (wM1 nm s.M s.d 0).getD v false = if v = nm (mt s.d) then true else s.M.getD v false := fun v => by
      unfold wM1; rw [if_pos rfl]; exact getB_set _ _ _ _ (by rw [h.ml]; exact hV _ hmd)
    have hfp := fK_pf hs hn s.K
    refine ⟨by show wNx sg s.d 0 < n; unfold wNx; rw [if_pos (by omega)]; exact hs.lt _ hmd, by show (wK1 s.K s.d 0).length = m; unfold wK1; rw [if_pos (by omega), List.length_set]; exact h.kl, by show (wM1 nm s.M s.d 0).length = V; unfold wM1; rw [if_pos rfl, List.length_set]; exact h.ml, fun e hem => ?_, ?_, fun d hdn => ?_, fun x hx => ?_⟩
    · show (wK1 s.K s.d 0).getD e 0 = -1 ∨ _
      rw [hK]
      split
      · exact .inr (.inl rfl)
      · exact h.ks e hem
    · show (wM1 nm s.M s.d 0).getD (nm (wNx sg s.d 0)) false = true
      unfold wNx
      rw [if_pos (by omega), nsg _ hmd, hM, if_pos rfl]
    · show (wK1 s.K s.d 0).getD (d / 2) 0 ≠ -1 → (wM1 nm s.M s.d 0).getD (nm d) false = true
      rw [hK, hM]
      intro x
      split
      · rfl
      · split at x
        · next y z =>
          have : d = s.d ∨ d = mt s.d := by unfold mt; split <;> omega
          rcases this with rfl | rfl
          · exact h.md
          · exact absurd rfl y
        · exact h.me d hdn x
    · show Orb (fK sg (wK1 s.K s.d 0)) r x ↔ (wM1 nm s.M s.d 0).getD (nm x) false = true
      -- the two cycles become one
      have hd2 : s.d = 2 * (s.d / 2) ∨ s.d = 2 * (s.d / 2) + 1 := by omega
      have hsw : ∀ y, swp s.d (mt s.d) y = if y / 2 = s.d / 2 then mt y else y := fun y => by
        unfold swp mt
        repeat' split
        all_goals omega
      have hfe : fK sg (wK1 s.K s.d 0) = fun i => fK sg s.K (swp s.d (mt s.d) i) := by
        funext y
        unfold fK
        rw [hK, hsw]
        by_cases c' : y / 2 = s.d / 2
        · rw [if_pos c', if_pos rfl, if_pos c', if_neg (by rw [mt_half, c']; exact a)]
        · rw [if_neg c', if_neg c']
      have hno : ¬ Orb (fK sg s.K) s.d (mt s.d) := fun o => by
        have hE := hfp.eqv
        have o1 := (h.mo s.d hd).2 h.md
        have := (h.mo (mt s.d) hmd).1 (hE.trans _ _ _ hr hd hmd o1 o)
        exact q this
      have hab := orb_meet hfp hd hmd hno
      have hfp2 := (hfp.swap hd hmd).eqv
      have hj : joinR (Orb fun i => fK sg s.K (swp s.d (mt s.d) i)) s.d (mt s.d) r x ↔ Orb (fun i => fK sg s.K (swp s.d (mt s.d) i)) r x := by
        constructor
        · rintro (y | ⟨y1, y2⟩ | ⟨y1, y2⟩)
          · exact y
          · exact hfp2.trans _ _ _ hr hd hx y1 (hfp2.trans _ _ _ hd hmd hx hab y2)
          · exact hfp2.trans _ _ _ hr hmd hx y1 (hfp2.trans _ _ _ hmd hd hx (hfp2.symm _ _ hd hmd hab) y2)
        · exact .inl
      rw [hfe, ← hj, ← orb_join hfp hd hmd r x hr hx, hM]
      -- around the new vertex
      have hv : ∀ y, y < n → nm y = nm (mt s.d) → fK sg s.K y = sg y := fun y hy e => by
        unfold fK
        by_cases z : s.K.getD (y / 2) 0 = 0
        · have := h.me y hy (by rw [z]; omega)
          rw [e] at this
          exact absurd this q
        · rw [if_neg z]
      have hnew : Orb (fK sg s.K) (mt s.d) x ↔ nm x = nm (mt s.d) := by
        have key := fun t => orb_same (f := fK sg s.K) (g := sg) (S := fun y => y < n ∧ nm y = nm (mt s.d)) (fun y hy => hv y hy.1 hy.2) (fun y hy => ⟨hs.lt y hy.1, by rw [nsg y hy.1]; exact hy.2⟩) (i := mt s.d) ⟨hmd, rfl⟩ t
        constructor
        · rintro ⟨t, e⟩
          have := key t
          rw [← e, this.1]; exact this.2.2
        · intro e
          obtain ⟨t, e⟩ := (hnm _ _ hmd hx).1 e.symm
          exact ⟨t, by rw [(key t).1]; exact e⟩
      have o1 := (h.mo s.d hd).2 h.md
      have o2 : ¬ Orb (fK sg s.K) r (mt s.d) := fun o => q ((h.mo _ hmd).1 o)
      unfold joinR
      rw [h.mo x hx, hnew]
      constructor
      · rintro (y | ⟨_, y⟩ | ⟨y, _⟩)
        · split
          · rfl
          · exact y
        · rw [if_pos y]
        · exact absurd y o2
      · intro y
        split at y
        · next z => exact .inr (.inl ⟨o1, z⟩)
        · exact .inl y
end
section
variable {n m V : Nat} {sg nm : Nat → Nat} {r : Nat}
end
end Go.Proofs.Ytgcbdoljapnecaa
