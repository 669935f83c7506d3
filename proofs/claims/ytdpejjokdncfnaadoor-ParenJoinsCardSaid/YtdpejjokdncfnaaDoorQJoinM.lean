/- Balanced ones behind one another, and within a pair; several in one memory. -/
import Derived.Test.YtdpejjokdncfnaaDoorQPst
namespace Go.Proofs.YtdpejjokdncfnaaDoor
open Go.RowKit
set_option linter.unusedVariables false
set_option maxRecDepth 20000
theorem exc_pre {la lb : List Nat} (ha : Bin la) (hb : Bin lb) : ∀ k, k ≤ la.length → exc (val (la ++ lb)) k = exc (val la) k := by
  have hab : Bin (la ++ lb) := ha.append hb
  intro k
  induction k with
  | zero => intro _; rw [(exc_Exc _).zero, (exc_Exc _).zero]
  | succ k ih =>
    intro hk
    rw [exc_list hab, exc_list ha, ih (by omega), List.getD_eq_getElem?_getD, List.getElem?_append_left (by omega), ← List.getD_eq_getElem?_getD]
theorem exc_append {la lb : List Nat} (ha : Bin la) (hb : Bin lb) : ∀ k, k ≤ lb.length → exc (val (la ++ lb)) (la.length + k) = exc (val la) la.length + exc (val lb) k := by
  have hab : Bin (la ++ lb) := ha.append hb
  intro k
  induction k with
  | zero => intro _; rw [Nat.add_zero, exc_pre ha hb _ (Nat.le_refl _), (exc_Exc _).zero]; omega
  | succ k ih =>
    intro hk
    rw [← Nat.add_assoc, exc_list hab, exc_list hb, ih (by omega), List.getD_eq_getElem?_getD, List.getElem?_append_right (by omega), show la.length + k - la.length = k by omega, ← List.getD_eq_getElem?_getD]
    omega
theorem bal_append {la lb : List Nat} (ha : Bin la) (hb : Bin lb) (h : Bal (exc (val la)) la.length) (k : Bal (exc (val lb)) lb.length) : Bal (exc (val (la ++ lb))) (la.length + lb.length) := by
  refine ⟨fun i hi => ?_, ?_⟩
  · by_cases hl : i ≤ la.length
    · rw [exc_pre ha hb i hl]; exact h.1 i hl
    · have := exc_append ha hb (i - la.length) (by omega)
      rw [show la.length + (i - la.length) = i by omega, h.2] at this
      rw [this]
      have := k.1 (i - la.length) (by omega)
      omega
  · rw [exc_append ha hb _ (Nat.le_refl _), h.2, k.2]; rfl
theorem Pair.shift {E E' : Nat → Int} {s n o i : Nat} {t : Int} (h : ∀ k, k ≤ n → E' (s + k) = t + E k) (hp : Pair E o i) (hi : i < n) : Pair E' (s + o) (s + i) := by
  have h1 := hp.lt
  refine ⟨by omega, ?_, fun k k1 k2 => ?_⟩
  · rw [Nat.add_assoc, h (i + 1) (by omega), h o (by omega), hp.same]
  · have := hp.above (k - s) (by omega) (by omega)
    have e := h (k - s) (by omega)
    rw [show s + (k - s) = k by omega] at e
    rw [e, h o (by omega)]
    omega
theorem MateOK.shift {E E' : Nat → Int} (hE : Exc E) {s n i : Nat} {t y : Int} (h : ∀ k, k ≤ n → E' (s + k) = t + E k) (hB : Bal E n) (hi : i < n) (hm : MateOK E i y) : MateOK E' (s + i) ((s : Int) + y) := by
  obtain ⟨q, rfl, hq⟩ := hm.lt hE hB hi
  refine ⟨s + q, by omega, ?_⟩
  obtain ⟨q', e, hp⟩ := hm
  obtain rfl : q = q' := by omega
  rcases hp with hp | hp
  · exact .inl (hp.shift h hq)
  · exact .inr (hp.shift h hi)
theorem wrap_exc {la : List Nat} (ha : Bin la) : ∀ k, k ≤ la.length → exc (val (([1] ++ la) ++ [0])) (1 + k) = 1 + exc (val la) k := by
  have h1 : Bin [1] := fun x hx => by simp at hx; omega
  have h0 : Bin [0] := fun x hx => by simp at hx; omega
  intro k hk
  rw [exc_pre (h1.append ha) h0 _ (by rw [List.length_append]; simp; omega)]
  have := exc_append h1 ha k hk
  rw [show exc (val [1]) [1].length = 1 by decide] at this
  exact this
theorem wrap_end {la : List Nat} (ha : Bin la) (h : Bal (exc (val la)) la.length) : exc (val (([1] ++ la) ++ [0])) (la.length + 2) = 0 := by
  have h1 : Bin [1] := fun x hx => by simp at hx; omega
  have := exc_snoc1 (h1.append ha) (b := 0) (by omega)
  have e := exc_append h1 ha la.length (Nat.le_refl _)
  rw [show exc (val [1]) [1].length = 1 by decide, h.2] at e
  have hl : ([1] ++ la).length = la.length + 1 := by simp
  rw [hl] at this
  rw [show [1].length + la.length = la.length + 1 by simp; omega] at e
  rw [show la.length + 2 = la.length + 1 + 1 by omega, this, e]
  rfl
theorem wrap_bal {la : List Nat} (ha : Bin la) (h : Bal (exc (val la)) la.length) : Bal (exc (val (([1] ++ la) ++ [0]))) (la.length + 2) := by
  refine ⟨fun i hi => ?_, wrap_end ha h⟩
  by_cases h0 : i = 0
  · subst h0; rw [(exc_Exc _).zero]; exact Int.le_refl _
  · by_cases h2 : i = la.length + 2
    · subst h2; rw [wrap_end ha h]; exact Int.le_refl _
    · have := wrap_exc ha (i - 1) (by omega)
      rw [show 1 + (i - 1) = i by omega] at this
      rw [this]
      have := h.1 (i - 1) (by omega)
      omega
theorem wrap_pair {la : List Nat} (ha : Bin la) (h : Bal (exc (val la)) la.length) : Pair (exc (val (([1] ++ la) ++ [0]))) 0 (la.length + 1) := by
  refine ⟨by omega, ?_, fun k k1 k2 => ?_⟩
  · rw [show la.length + 1 + 1 = la.length + 2 by omega, wrap_end ha h, (exc_Exc _).zero]
  · have := wrap_exc ha (k - 1) (by omega)
    rw [show 1 + (k - 1) = k by omega] at this
    rw [this, (exc_Exc _).zero]
    have := h.1 (k - 1) (by omega)
    omega
theorem idx_off2 {w w' : World} {S : Nat → Prop} {g V n q : Nat} {d : Bool} (h : IdxAt w g V n d q) (m : Mod S w w') (hg : ¬ S g) (hS : ∀ i, S i → ∃ T cs, Blk w i T cs ∧ T ≠ 55 ∧ T ≠ 61) : IdxAt w' g V n d q := by
  obtain ⟨h1, h2, A, c, H, h3, h4, h5⟩ := h
  refine ⟨h1, h2, A, c, H, h3.mod m hg, own_mod h4 m fun k hk hx => ?_, ?_⟩
  · obtain ⟨T, cs, hb, e2, _⟩ := hS k hx
    exact own_ne h4 hb (Ne.symm e2) hk
  · cases d with
    | false => exact h5
    | true =>
      obtain ⟨S', c', e, ho⟩ := h5
      exact ⟨S', c', e, own_mod ho m fun k hk hx => by
        obtain ⟨T, cs, hb, _, e3⟩ := hS k hx
        exact own_ne ho hb (Ne.symm e3) hk⟩
/-- What is asked of others leaves these as they are. -/
theorem Pst.off {w wr w' : World} {p g V n q p' g' V' n' q' : Nat} {d d' : Bool} (h : Pst w wr p g V n q d) (k : Pst w wr p' g' V' n' q' d') (hpp : p ≠ p') (hgg : g ≠ g') (m : Mod (Two2 g' p') wr w') : Pst w w' p g V n q d := by
  obtain ⟨h1, ⟨r, k1, hk1, hx⟩, H, hb, ht⟩ := h.at_
  obtain ⟨h1', ⟨r', k1', hk1', hx'⟩, H', hb', ht'⟩ := k.at_
  obtain ⟨_, _, A', c', I', hib', _⟩ := hx'
  have hgb : ∃ cs, Blk wr g 88 cs := by obtain ⟨_, _, A, c, I, hib, _⟩ := hx; exact ⟨_, hib⟩
  obtain ⟨cg, hgb⟩ := hgb
  have hgp : g ≠ p' := fun e => absurd (blk_ty hgb (by rw [e]; exact hb')) (by decide)
  have hpg : p ≠ g' := fun e => absurd (blk_ty hb (by rw [e]; exact hib')) (by decide)
  have hS : ∀ i, Two2 g' p' i → ∃ T cs, Blk wr i T cs ∧ T ≠ 55 ∧ T ≠ 61 := fun i hi => by
    rcases hi with rfl | rfl
    · exact ⟨_, _, hib', by decide, by decide⟩
    · exact ⟨_, _, hb', by decide, by decide⟩
  refine ⟨⟨h1, ⟨r, k1, hk1, idx_off2 hx m (fun hi => by rcases hi with e | e; exact hgg e; exact hgp e) hS⟩, H, hb.mod m (fun hi => by rcases hi with e | e; exact hpg e; exact hpp e), ?_⟩, h.nul, h.gl, h.bel.trans (m.belowB h.bel.size fun i hi hx => by have := k.gl; rcases hx with hx | hx <;> omega)⟩
  cases d with
  | false => exact ht
  | true =>
    obtain ⟨S', M, K, T, t1, t2, t3, t4⟩ := ht
    exact ⟨S', M, K, T, t1, t2, t3.mod m fun hi => by
      rcases hi with e | e
      · exact absurd (blk_ty t3 (by rw [e]; exact hib')) (by decide)
      · exact absurd (blk_ty t3 (by rw [e]; exact hb')) (by decide), t4⟩
end Go.Proofs.YtdpejjokdncfnaaDoor
