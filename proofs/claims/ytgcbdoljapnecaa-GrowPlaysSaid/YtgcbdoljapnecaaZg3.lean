/- A map turned the other way: mathematics. A map by other names: mathematics. -/
import Derived.Test.YtgcbdoljapnecaaZEGenR
namespace Go.Proofs.Ytgcbdoljapnecaa
set_option maxRecDepth 20000
open Go.RowKit
set_option linter.unusedVariables false
/-- A predicate on numbers that is taken into another one without two going to one has no more. -/
theorem num_inj {A B : Nat → Prop} {n : Nat} (f : Nat → Nat) (hf : ∀ x, x < n → A x → f x < n ∧ B (f x)) (hi : ∀ x y, x < n → y < n → A x → A y → f x = f y → x = y) : num A n ≤ num B n := by
  have key : ∀ k, k ≤ n → num A k = num (fun y => B y ∧ ∃ x, x < k ∧ A x ∧ f x = y) n := fun k => by
    induction k with
    | zero =>
      intro _
      have : num (fun y => B y ∧ ∃ x, x < 0 ∧ A x ∧ f x = y) n = 0 := num_zero fun d _ ⟨_, x, hx, _⟩ => by omega
      rw [this]; rfl
    | succ k ih =>
      intro hk
      have ih' := ih (by omega)
      by_cases a : A k
      · rw [(num_next A k).1 a, ih']
        obtain ⟨h1, h2⟩ := hf k (by omega) a
        unfold num
        refine @filter_less (List.range n) (List.nodup_range) (fun y => B y ∧ ∃ x, x < k + 1 ∧ A x ∧ f x = y) (fun y => B y ∧ ∃ x, x < k ∧ A x ∧ f x = y) (fun _ => Classical.propDecidable _) (fun _ => Classical.propDecidable _) (f k) (by simpa using h1) ⟨h2, k, by omega, a, rfl⟩ fun i _ => ?_
        constructor
        · rintro ⟨b, x, hx, ax, e⟩
          refine ⟨⟨b, x, by omega, ax, e⟩, fun c => ?_⟩
          have := hi x k (by omega) (by omega) ax a (by rw [e, c])
          omega
        · rintro ⟨⟨b, x, hx, ax, e⟩, hne⟩
          refine ⟨b, x, ?_, ax, e⟩
          rcases Nat.lt_or_ge x k with c | c
          · exact c
          · have : x = k := by omega
            subst this
            exact absurd e.symm hne
      · rw [(num_next A k).2 a, ih']
        exact num_congr fun y _ => ⟨fun ⟨b, x, hx, ax, e⟩ => ⟨b, x, by omega, ax, e⟩, fun ⟨b, x, hx, ax, e⟩ => by
          refine ⟨b, x, ?_, ax, e⟩
          rcases Nat.lt_or_ge x k with c | c
          · exact c
          · have : x = k := by omega
            subst this
            exact absurd ax a⟩
  rw [key n (Nat.le_refl _)]
  have : ∀ k, num (fun y => B y ∧ ∃ x, x < n ∧ A x ∧ f x = y) k ≤ num B k := fun k => by
    induction k with
    | zero => exact Nat.le_refl _
    | succ k ih =>
      by_cases b : B k
      · rw [(num_next B k).1 b]
        by_cases c : B k ∧ ∃ x, x < n ∧ A x ∧ f x = k
        · rw [(num_next _ k).1 c]; omega
        · rw [(num_next _ k).2 c]; omega
      · rw [(num_next B k).2 b, (num_next _ k).2 fun c => b c.1]; exact ih
  exact this n
section
variable {l b : List Nat}
theorem mt_mt (x : Nat) : mt (mt x) = x := by unfold mt; split <;> split <;> omega
end
end Go.Proofs.Ytgcbdoljapnecaa
namespace Go.Proofs.Ytgcbdoljapnecaa
set_option maxRecDepth 20000
open Go.RowKit
set_option linter.unusedVariables false
/-- Names that keep mates: p takes each dart to its name, and q back. -/
structure Nam (n : Nat) (p q : List Nat) : Prop where
  inv : Inv p q
  len : p.length = n
  ev : n % 2 = 0
  mt : ∀ d, d < n → sgL p (mt d) = mt (sgL p d)
theorem Nam.lt {n : Nat} {p q : List Nat} (h : Nam n p q) {d : Nat} (hd : d < n) : sgL p d < n := by have := h.inv.lt d (by rw [h.len]; exact hd); rw [h.len] at this; exact this
theorem Nam.lt' {n : Nat} {p q : List Nat} (h : Nam n p q) {d : Nat} (hd : d < n) : sgL q d < n := by have := h.inv.lt' d (by rw [h.len]; exact hd); rw [h.len] at this; exact this
theorem Nam.qp {n : Nat} {p q : List Nat} (h : Nam n p q) {d : Nat} (hd : d < n) : sgL q (sgL p d) = d := h.inv.lb d (by rw [h.len]; exact hd)
theorem Nam.pq {n : Nat} {p q : List Nat} (h : Nam n p q) {d : Nat} (hd : d < n) : sgL p (sgL q d) = d := h.inv.bl d (by rw [h.len]; exact hd)
theorem mt_in {n d : Nat} (he : n % 2 = 0) (hd : d < n) : Go.Proofs.Ytgcbdoljapnecaa.mt d < n := mt_lt (m := n / 2) (by omega) hd
theorem Nam.symm {n : Nat} {p q : List Nat} (h : Nam n p q) : Nam n q p := by
  refine ⟨h.inv.symm, by rw [h.inv.len, h.len], h.ev, fun d hd => ?_⟩
  have h1 := h.lt' hd
  have h2 := h.mt _ h1
  rw [h.pq hd] at h2
  have h3 := h.qp (mt_in h.ev h1)
  rw [h2] at h3
  exact h3
section
variable {l b p q : List Nat}
theorem phi_at (l : List Nat) {d : Nat} (hd : d < l.length) : sgL (phiL l) d = sgL l (mt d) := by
  show (phiL l).getD d 0 = _
  rw [phiL_get _ _ hd, mt_mateN]; rfl
/-! ### edges between the same two -/
theorem name_iff (hl : Inv l b) {i j : Nat} (hi : i < l.length) (hj : j < l.length) : nameOf l i = nameOf l j ↔ Orb (sgL l) i j := by
  refine ⟨name_orb hl hi hj, fun o => ?_⟩
  obtain ⟨h1, h2, h3⟩ := lead_is hl hi
  have hlt : lead l i < l.length := by omega
  obtain ⟨t, e⟩ := (mem_orb hl hlt).1 h3
  rw [← sgL_it] at e
  have o2 : Orb (sgL l) (lead l i) j := (sgL_pf hl).eqv.trans _ i _ hlt hi hj ⟨t, e⟩ o
  obtain ⟨t2, e2⟩ := o2
  have := lead_eq hl hj hlt h2 ((mem_orb hl hlt).2 ⟨t2, by rw [← sgL_it]; exact e2⟩)
  unfold nameOf
  rw [this]
/-- Between the same two, in any order. -/
def sameE (l : List Nat) (e f : Nat) : Prop := lowE l e = lowE l f ∧ highE l e = highE l f
theorem sameE.eqv (l : List Nat) (m : Nat) : Eqv m (sameE l) := ⟨fun _ _ => ⟨rfl, rfl⟩, fun _ _ _ _ h => ⟨h.1.symm, h.2.symm⟩, fun _ _ _ _ _ _ h k => ⟨h.1.trans k.1, h.2.trans k.2⟩⟩
end
end Go.Proofs.Ytgcbdoljapnecaa
