/- A turn from one map to another, followed by a queue: mathematics. -/
import Derived.Test.YtoncollcefanjaaZg22
import Derived.Test.YtoncollcefanjaaZg7
import Derived.Test.YtoncollcefanjaaZg11
namespace Go.Proofs.Ytoncollcefanjaa
set_option maxRecDepth 20000
open Go.RowKit
set_option linter.unusedVariables false
set_option linter.unusedSimpArgs false
/-- What was followed: the queue's darts, and where they go; i of them were taken out, j of whose two steps are done. -/
structure Tq (l l' : List Nat) (r r' : Nat) (Q : List Nat) (img : List Int) (i j : Nat) : Prop where
  il : img.length = l.length
  nd : Q.Nodup
  lt : ∀ x ∈ Q, x < l.length
  mem : ∀ x, x < l.length → (x ∈ Q ↔ img.getD x 0 ≠ -1)
  to_ : ∀ x, x < l.length → img.getD x 0 ≠ -1 → ∃ y : Nat, y < l.length ∧ img.getD x 0 = (y : Int)
  rt : r ∈ Q ∧ img.getD r 0 = (r' : Int)
  cl : ∀ k s, s < 2 → k < Q.length → (k < i ∨ (k = i ∧ s < j)) → img.getD (stp l s (Q.getD k 0)) 0 ≠ -1 ∧ ∀ y : Nat, img.getD (Q.getD k 0) 0 = (y : Int) → img.getD (stp l s (Q.getD k 0)) 0 = ((stp l' s y : Nat) : Int)
  tr : ∀ p q, Trn l l' r r' p q → ∀ x ∈ Q, img.getD x 0 = ((sgL p x : Nat) : Int)
section
variable {l b l' b' : List Nat} {r r' : Nat} {Q : List Nat} {img : List Int} {i j : Nat}
theorem trn_stp' {p q : List Nat} (t : Trn l l' r r' p q) (s : Nat) {x : Nat} (hx : x < l.length) : sgL p (stp l s x) = stp l' s (sgL p x) := by
  have := t.map x hx
  unfold stp
  split
  · exact this.1
  · exact this.2
theorem Tq.start (hr : r < l.length) (hr' : r' < l.length) : Tq l l' r r' [r] ((List.replicate l.length (-1)).set r (r' : Int)) 0 0 := by
  have g : ∀ x, x < l.length → ((List.replicate l.length (-1 : Int)).set r (r' : Int)).getD x 0 = if x = r then (r' : Int) else -1 := fun x hx => by
    rw [getDI_set _ _ _ _ (by simpa using hr)]
    split
    · rfl
    · simp [List.getD_eq_getElem?_getD, hx]
  refine ⟨by simp, by simp, fun x hx => by simp at hx; omega, fun x hx => ?_, fun x hx h => ?_, ⟨by simp, by rw [g r hr, if_pos rfl]⟩, fun k s hs hk h => by omega, fun p q t x hx => ?_⟩
  · rw [g x hx, List.mem_singleton]
    by_cases e : x = r
    · rw [if_pos e]; simp [e]
    · rw [if_neg e]; simp [e]
  · rw [g x hx] at h ⊢
    by_cases e : x = r
    · rw [if_pos e]; exact ⟨r', hr', rfl⟩
    · rw [if_neg e] at h; exact absurd rfl h
  · rw [List.mem_singleton] at hx
    rw [hx, g r hr, if_pos rfl, t.root]
theorem Tq.in_ (h : Tq l l' r r' Q img i j) {k : Nat} (hk : k < Q.length) : Q.getD k 0 < l.length := h.lt _ (by
  rw [List.getD_eq_getElem?_getD, List.getElem?_eq_getElem hk]
  exact List.getElem_mem _)
theorem Tq.at_ (h : Tq l l' r r' Q img i j) {k : Nat} (hk : k < Q.length) : ∃ f : Nat, f < l.length ∧ img.getD (Q.getD k 0) 0 = (f : Int) :=
  h.to_ _ (h.in_ hk) ((h.mem _ (h.in_ hk)).1 (by
    rw [List.getD_eq_getElem?_getD, List.getElem?_eq_getElem hk]
    exact List.getElem_mem _))
theorem Tq.len (h : Tq l l' r r' Q img i j) : Q.length ≤ l.length := nodup_le h.nd h.lt
theorem Tq.no (h : Tq l l' r r' Q img i j) (hl : Inv l b) (he : l.length % 2 = 0) (hi : i < Q.length) {f z : Nat} (hf : img.getD (Q.getD i 0) 0 = (f : Int)) (hz : img.getD (stp l j (Q.getD i 0)) 0 = (z : Int)) (hne : z ≠ stp l' j f) : ¬ ∃ p q, Trn l l' r r' p q := by
  rintro ⟨p, q, t⟩
  have hd := h.in_ hi
  have hm : Q.getD i 0 ∈ Q := by
    rw [List.getD_eq_getElem?_getD, List.getElem?_eq_getElem hi]
    exact List.getElem_mem _
  have e1 := h.tr p q t _ hm
  have hs := stp_lt hl he j hd
  have e2 := h.tr p q t _ ((h.mem _ hs).2 (by rw [hz]; omega))
  rw [trn_stp' t j hd] at e2
  rw [hf] at e1
  rw [hz] at e2
  have e3 : f = sgL p (Q.getD i 0) := by omega
  rw [← e3] at e2
  omega
theorem Tq.old (h : Tq l l' r r' Q img i j) {f : Nat} (hf : img.getD (Q.getD i 0) 0 = (f : Int)) (hz : img.getD (stp l j (Q.getD i 0)) 0 = ((stp l' j f : Nat) : Int)) : Tq l l' r r' Q img i (j + 1) :=
  ⟨h.il, h.nd, h.lt, h.mem, h.to_, h.rt, fun k s hs hk hor => by
    by_cases c : k = i ∧ s = j
    · obtain ⟨rfl, rfl⟩ := c
      rw [hz]
      refine ⟨by omega, fun y hy => ?_⟩
      rw [hf] at hy
      have : f = y := by omega
      rw [this]
    · exact h.cl k s hs hk (by omega), h.tr⟩
theorem Tq.new (h : Tq l l' r r' Q img i j) (hl : Inv l b) (hl' : Inv l' b') (hlen : l'.length = l.length) (he : l.length % 2 = 0) (hi : i < Q.length) {f : Nat} (hfl : f < l.length) (hf : img.getD (Q.getD i 0) 0 = (f : Int)) (hu : img.getD (stp l j (Q.getD i 0)) 0 = -1) :
    Tq l l' r r' (Q ++ [stp l j (Q.getD i 0)]) (img.set (stp l j (Q.getD i 0)) ((stp l' j f : Nat) : Int)) i (j + 1) := by
  have hd := h.in_ hi
  have hs := stp_lt hl he j hd
  have hy : stp l' j f < l.length := by have := stp_lt hl' (by rw [hlen]; exact he) j (x := f) (by rw [hlen]; exact hfl); rwa [hlen] at this
  have hdm : Q.getD i 0 ∈ Q := by
    rw [List.getD_eq_getElem?_getD, List.getElem?_eq_getElem hi]
    exact List.getElem_mem _
  have hdx : Q.getD i 0 ≠ stp l j (Q.getD i 0) := fun e => by rw [← e, hf] at hu; omega
  generalize hX : stp l j (Q.getD i 0) = x at *
  have hxQ : x ∉ Q := fun c => (h.mem x hs).1 c hu
  have g : ∀ z, (img.set x ((stp l' j f : Nat) : Int)).getD z 0 = if z = x then ((stp l' j f : Nat) : Int) else img.getD z 0 := fun z => getDI_set _ _ _ _ (by rw [h.il]; exact hs)
  have gl : ∀ k, k < Q.length → (Q ++ [x]).getD k 0 = Q.getD k 0 := fun k hk => getD_left Q x k hk
  refine ⟨by rw [List.length_set, h.il], ?_, fun z hz => ?_, fun z hz => ?_, fun z hz hne => ?_, ⟨List.mem_append_left _ h.rt.1, ?_⟩, fun k s hs2 hk hor => ?_, fun p q t z hz => ?_⟩
  · rw [List.nodup_append]
    refine ⟨h.nd, by simp, fun a ha c hc => ?_⟩
    rw [List.mem_singleton] at hc
    intro e
    rw [e, hc] at ha
    exact hxQ ha
  · rcases List.mem_append.1 hz with c | c
    · exact h.lt z c
    · rw [List.mem_singleton] at c; rw [c]; exact hs
  · rw [g, List.mem_append, List.mem_singleton]
    by_cases e : z = x
    · rw [if_pos e]; simp [e]
    · rw [if_neg e, ← h.mem z hz]; simp [e]
  · rw [g] at hne ⊢
    by_cases e : z = x
    · rw [if_pos e]; exact ⟨_, hy, rfl⟩
    · rw [if_neg e] at hne ⊢; exact h.to_ z hz hne
  · rw [g, if_neg (fun e => by rw [← e] at hxQ; exact hxQ h.rt.1)]; exact h.rt.2
  · have hkQ : k < Q.length := by omega
    rw [gl k hkQ]
    have hkm : Q.getD k 0 ∈ Q := by
      rw [List.getD_eq_getElem?_getD, List.getElem?_eq_getElem hkQ]
      exact List.getElem_mem _
    have hkx : Q.getD k 0 ≠ x := fun e => hxQ (e ▸ hkm)
    rw [g (Q.getD k 0), if_neg hkx]
    by_cases c : k = i ∧ s = j
    · obtain ⟨rfl, rfl⟩ := c
      rw [hX, g x, if_pos rfl]
      refine ⟨by omega, fun y hy => ?_⟩
      rw [hf] at hy
      have : f = y := by omega
      rw [this]
    · have hc := h.cl k s hs2 hkQ (by omega)
      have hne : stp l s (Q.getD k 0) ≠ x := fun e => by rw [e] at hc; exact hc.1 hu
      rw [g, if_neg hne]
      exact hc
  · rw [g]
    by_cases e : z = x
    · rw [if_pos e, e]
      have e1 := h.tr p q t _ hdm
      rw [hf] at e1
      have e3 : f = sgL p (Q.getD i 0) := by omega
      rw [e3, ← trn_stp' t j hd, hX]
    · rw [if_neg e]
      rcases List.mem_append.1 hz with c | c
      · exact h.tr p q t z c
      · rw [List.mem_singleton] at c; exact absurd c e
theorem Tq.next (h : Tq l l' r r' Q img i 2) : Tq l l' r r' Q img (i + 1) 0 :=
  ⟨h.il, h.nd, h.lt, h.mem, h.to_, h.rt, fun k s hs hk hor => h.cl k s hs hk (by omega), h.tr⟩
/-- In the end all darts were followed. -/
theorem Tq.all (h : Tq l l' r r' Q img Q.length 0) (hl : Inv l b) (he : l.length % 2 = 0) (hr : r < l.length) (hp : ∀ j, j < l.length → part l r j) : ∀ d, d < l.length → d ∈ Q := by
  have key : ∀ s, s < 2 → ∀ d, d < l.length → d ∈ Q → stp l s d ∈ Q := fun s hs d hd hm => by
    obtain ⟨k, hk, e⟩ := mem_getD hm
    have := (h.cl k s hs hk (.inl hk)).1
    rw [e] at this
    exact (h.mem _ (stp_lt hl he s hd)).2 this
  exact one_closed hl he hr hp h.rt.1 (fun d hd hm => key 0 (by omega) d hd hm) (fun d hd hm => key 1 (by omega) d hd hm)
theorem Tq.full (h : Tq l l' r r' Q img Q.length 0) (hl : Inv l b) (he : l.length % 2 = 0) (hr : r < l.length) (hp : ∀ j, j < l.length → part l r j) : Q.length = l.length := by
  refine Nat.le_antisymm h.len ?_
  have hall := h.all hl he hr hp
  have := num_mem h.nd h.lt
  rw [← this]
  have e : num (fun x => x ∈ Q) l.length = num (fun _ => True) l.length := num_congr fun x hx => ⟨fun _ => trivial, fun _ => hall x hx⟩
  rw [e, cnum_all]
  exact Nat.le_refl _
/-- The one goes to the other just if each dart is gone to once. -/
theorem Tq.done (h : Tq l l' r r' Q img Q.length 0) (hl : Inv l b) (hlen : l'.length = l.length) (he : l.length % 2 = 0) (hr : r < l.length) (hp : ∀ j, j < l.length → part l r j) :
    (∃ p q, Trn l l' r r' p q) ↔ ∀ y, y < l.length → num (fun x => img.getD x 0 = ((y : Nat) : Int)) l.length = 1 := by
  have hall := h.all hl he hr hp
  constructor
  · rintro ⟨p, q, t⟩ y hy
    have e : ∀ x, x < l.length → img.getD x 0 = ((sgL p x : Nat) : Int) := fun x hx => h.tr p q t x (hall x hx)
    have hq := t.nam.lt' hy
    have h1 := num_mem (n := l.length) (Q := [sgL q y]) (by simp) (by intro x hx; rw [List.mem_singleton] at hx; rw [hx]; exact hq)
    have h2 : num (fun x => img.getD x 0 = ((y : Nat) : Int)) l.length = num (fun x => x ∈ [sgL q y]) l.length := num_congr fun x hx => by
      rw [e x hx, List.mem_singleton]
      constructor
      · intro c
        have c' : sgL p x = y := by omega
        rw [← c', t.nam.qp hx]
      · intro c
        rw [c, t.nam.pq hy]
    rw [h2, h1]; rfl
  · intro hc
    obtain ⟨f, hf⟩ : ∃ f : Nat → Nat, ∀ x, x < l.length → f x < l.length ∧ img.getD x 0 = ((f x : Nat) : Int) := by
      refine ⟨fun x => (img.getD x 0).toNat, fun x hx => ?_⟩
      obtain ⟨y, hy, e⟩ := h.to_ x hx ((h.mem x hx).1 (hall x hx))
      show (img.getD x 0).toNat < _ ∧ img.getD x 0 = (((img.getD x 0).toNat : Nat) : Int)
      rw [e]; exact ⟨by omega, by omega⟩
    have step : ∀ s, s < 2 → ∀ d, d < l.length → f (stp l s d) = stp l' s (f d) := fun s hs d hd => by
      obtain ⟨k, hk, e⟩ := mem_getD (hall d hd)
      have := (h.cl k s hs hk (.inl hk)).2 (f d) (by rw [e]; exact (hf d hd).2)
      rw [e, (hf _ (stp_lt hl he s hd)).2] at this
      omega
    obtain ⟨p, q, t, _⟩ := Trn.ofMap (l' := l') (f := f) hl he hlen (fun d hd => (hf d hd).1) (fun d e hd h2 hde => by
      by_cases c : d = e
      · exact c
      · exfalso
        have h1 := hc (f d) (hf d hd).1
        have h3 := num_mem (n := l.length) (Q := [d, e]) (by simp; exact c) (by intro x hx; simp at hx; omega)
        have h4 := num_inj (A := fun x => x ∈ [d, e]) (B := fun x => img.getD x 0 = ((f d : Nat) : Int)) (n := l.length) id (fun x hx hm => ⟨hx, by
          simp only [List.mem_cons, List.not_mem_nil, or_false] at hm
          rcases hm with rfl | rfl
          · exact (hf _ hx).2
          · show img.getD _ 0 = _
            rw [hde]; exact (hf _ hx).2⟩) (fun _ _ _ _ _ _ e => e)
        rw [h3, h1] at h4
        simp at h4) (fun d hd => step 0 (by omega) d hd) (fun d hd => step 1 (by omega) d hd) hr
    have hfr : f r = r' := by have := (hf r hr).2; rw [h.rt.2] at this; omega
    rw [hfr] at t
    exact ⟨p, q, t⟩
end
end Go.Proofs.Ytoncollcefanjaa
