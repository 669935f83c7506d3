/- Pairs of letters of one sort: that no two cross is that each letter's mate is its pair's. What maps that are answer: Degree, Rooted, Same; the document's Vertices and Borders. The vertices' degrees, those without darts too; no program in sight. Counting by a Go map: what its datum is when the first k numbers' names have been counted; no walk. The document's walk: its maps. -/
import Derived.Test.YthkocodajjapmaaZg7
import Derived.Test.YthkocodajjapmaaZg12
import Derived.Test.YthkocodajjapmaaZDPhi
import Derived.Test.YthkocodajjapmaaZg1
import Derived.BigQuiet
import Derived.Maps.OwnSet
import Derived.Test.YthkocodajjapmaaZWOf
namespace Go.Proofs.Ythkocodajjapmaa
set_option linter.unusedVariables false
/-- A pairing of the places of letters: of one sort, the first one opens. -/
structure Prg (ks : List Nat) (tw : Nat → Nat) : Prop where
  kd : Kds ks
  lt : ∀ j, j < ks.length → tw j < ks.length
  tt : ∀ j, j < ks.length → tw (tw j) = j
  ne : ∀ j, j < ks.length → tw j ≠ j
  sort : ∀ j, j < ks.length → ks.getD (tw j) 0 / 2 = ks.getD j 0 / 2
  opn : ∀ j, j < ks.length → (ks.getD j 0 % 2 = 0 ↔ j < tw j)
/-- p opens, and is not shut ahead of x. -/
def UA (ks : List Nat) (tw : Nat → Nat) (s x p : Nat) : Prop := ks.getD p 0 / 2 = s ∧ p < tw p ∧ x ≤ tw p
instance (ks : List Nat) (tw : Nat → Nat) (s x : Nat) : DecidablePred (UA ks tw s x) := fun p => by unfold UA; exact inferInstance
def UU (ks : List Nat) (tw : Nat → Nat) (s x : Nat) : List Nat := (List.range x).filter fun p => decide (UA ks tw s x p)
section
variable {ks : List Nat} {tw : Nat → Nat} {s : Nat}
theorem step_s {i : Nat} (hi : i < ks.length) (hs : ks.getD i 0 / 2 = s) : exc (val (ownL s ks)) (ah s ks i + 1) = exc (val (ownL s ks)) (ah s ks i) + (2 * ((1 - ks.getD i 0 % 2 : Nat) : Int) - 1) := by
  rw [exc_list (ownL_bin s ks), ownL_get s ks i hi hs]
theorem filter_same (x : Nat) {A B : Nat → Prop} [DecidablePred A] [DecidablePred B] (h : ∀ p, p < x → (A p ↔ B p)) : ((List.range x).filter fun p => decide (A p)) = (List.range x).filter fun p => decide (B p) :=
  List.filter_congr fun p hp => by rw [decide_eq_decide]; exact h p (by simpa using hp)
theorem UU_skip (h : Prg ks tw) {x : Nat} (hx : x < ks.length) (hs : ks.getD x 0 / 2 ≠ s) : UU ks tw s (x + 1) = UU ks tw s x := by
  unfold UU
  rw [List.range_succ, List.filter_append, List.filter_cons, if_neg (by rw [decide_eq_true_iff]; exact fun a => hs a.1), List.filter_nil, List.append_nil]
  refine filter_same x fun p hp => ⟨fun ⟨a, b, c⟩ => ⟨a, b, by omega⟩, fun ⟨a, b, c⟩ => ⟨a, b, ?_⟩⟩
  have : tw p ≠ x := fun e => hs (by rw [← e, h.sort p (by omega)]; exact a)
  omega
theorem UU_open (h : Prg ks tw) {x : Nat} (hx : x < ks.length) (hs : ks.getD x 0 / 2 = s) (ho : x < tw x) : UU ks tw s (x + 1) = UU ks tw s x ++ [x] := by
  unfold UU
  rw [List.range_succ, List.filter_append, List.filter_cons, if_pos (by rw [decide_eq_true_iff]; exact ⟨hs, ho, ho⟩), List.filter_nil]
  congr 1
  refine filter_same x fun p hp => ⟨fun ⟨a, b, c⟩ => ⟨a, b, by omega⟩, fun ⟨a, b, c⟩ => ⟨a, b, ?_⟩⟩
  have : tw p ≠ x := fun e => by
    have := h.tt p (by omega)
    rw [e] at this; omega
  omega
theorem UU_close (h : Prg ks tw) {x : Nat} (hx : x < ks.length) (hs : ks.getD x 0 / 2 = s) (hc : tw x < x) : (UU ks tw s (x + 1)).length + 1 = (UU ks tw s x).length := by
  unfold UU
  rw [List.range_succ, List.filter_append, List.filter_cons, if_neg (by rw [decide_eq_true_iff]; exact fun a => by have := a.2.1; omega), List.filter_nil, List.append_nil]
  have htt := h.tt x hx
  refine filter_less List.nodup_range (UA ks tw s x) (UA ks tw s (x + 1)) (tw x) (by simp; omega) ⟨by rw [h.sort x hx]; exact hs, by rw [htt]; omega, by rw [htt]; exact Nat.le_refl _⟩ fun p hp => ?_
  have hp' : p < x := by simpa using hp
  constructor
  · rintro ⟨a, b, c⟩
    exact ⟨⟨a, b, by omega⟩, fun e => by subst e; rw [htt] at c; omega⟩
  · rintro ⟨⟨a, b, c⟩, d⟩
    refine ⟨a, b, ?_⟩
    have : tw p ≠ x := fun e => d (by rw [← e, h.tt p (by omega)])
    omega
/-- The excess is how many stand open. -/
theorem exc_UU (h : Prg ks tw) : ∀ x, x ≤ ks.length → exc (val (ownL s ks)) (ah s ks x) = ((UU ks tw s x).length : Int)
  | 0, _ => by rw [ah_zero, (exc_Exc _).zero]; rfl
  | x + 1, hx => by
    have ih := exc_UU h x (by omega)
    have hk := h.kd.getD x
    by_cases hs : ks.getD x 0 / 2 = s
    · have hst := step_s (ks := ks) (i := x) (by omega) hs
      rw [ah_next s ks x (by omega), if_pos hs, hst, ih]
      have ho := h.opn x (by omega)
      by_cases q : x < tw x
      · rw [UU_open h (by omega) hs q, List.length_append, ho.2 q]; simp
      · have hne := h.ne x (by omega)
        have := UU_close h (show x < ks.length by omega) hs (by omega)
        have : ¬ ks.getD x 0 % 2 = 0 := fun e => q (ho.1 e)
        rw [show ks.getD x 0 % 2 = 1 by omega]
        omega
    · rw [ah_next s ks x (by omega), if_neg hs, UU_skip h (by omega) hs]; exact ih
theorem prg_bal (h : Prg ks tw) : Bal (exc (val (ownL s ks))) (ownL s ks).length := by
  have hend : exc (val (ownL s ks)) (ownL s ks).length = 0 := by
    rw [← ah_all s ks, exc_UU h ks.length (Nat.le_refl _)]
    have : UU ks tw s ks.length = [] := by
      unfold UU
      rw [List.filter_eq_nil_iff]
      intro p hp
      rw [decide_eq_true_iff]
      intro a
      have := h.lt p (by simpa using hp)
      have := a.2.2
      omega
    rw [this]; rfl
  refine ⟨fun y hy => ?_, hend⟩
  rcases Nat.lt_or_ge y (ownL s ks).length with c | c
  · obtain ⟨i, hi, _, e⟩ := ah_find s ks y c
    rw [← e, exc_UU h i (by omega)]; omega
  · rw [show y = (ownL s ks).length by omega, hend]; exact Int.le_refl _
/-- No two pairs of the sort cross. -/
def NX (ks : List Nat) (tw : Nat → Nat) (s : Nat) : Prop := ∀ i k, i < k → k < tw i → tw i < tw k → i < ks.length → k < ks.length → ks.getD i 0 / 2 = s → ks.getD k 0 / 2 = s → False
theorem range_split {i x : Nat} (h : i < x) : List.range x = List.range i ++ i :: (List.range (x - i - 1)).map (fun t => i + 1 + t) := by
  have e := List.range_add (n := i + 1) (m := x - i - 1)
  rw [show i + 1 + (x - i - 1) = x by omega, List.range_succ] at e
  rw [e, List.append_assoc]; rfl
theorem UU_last (h : Prg ks tw) (hX : NX ks tw s) {x : Nat} (hx : x < ks.length) (hs : ks.getD x 0 / 2 = s) (hc : tw x < x) : UU ks tw s x = UU ks tw s (x + 1) ++ [tw x] := by
  have htt := h.tt x hx
  have hti := h.lt x hx
  have hsi : ks.getD (tw x) 0 / 2 = s := by rw [h.sort x hx]; exact hs
  have no : ∀ y, y = x ∨ y = x + 1 → ((List.range (x - tw x - 1)).map (fun t => tw x + 1 + t)).filter (fun p => decide (UA ks tw s y p)) = [] := fun y hy => by
    rw [List.filter_eq_nil_iff]
    intro p hp
    obtain ⟨t, ht, rfl⟩ := List.mem_map.1 hp
    have ht' : t < x - tw x - 1 := by simpa using ht
    rw [decide_eq_true_iff]
    rintro ⟨a, b, c⟩
    have hne : tw (tw x + 1 + t) ≠ x := fun e => by
      have := h.tt (tw x + 1 + t) (by omega)
      rw [e] at this; omega
    exact hX (tw x) (tw x + 1 + t) (by omega) (by rw [htt]; omega) (by rw [htt]; omega) hti (by omega) hsi a
  have e1 : UU ks tw s x = ((List.range (tw x)).filter fun p => decide (UA ks tw s x p)) ++ [tw x] := by
    unfold UU
    rw [range_split hc, List.filter_append, List.filter_cons, if_pos (by rw [decide_eq_true_iff]; exact ⟨hsi, by rw [htt]; omega, by rw [htt]; exact Nat.le_refl _⟩), no x (.inl rfl)]
  have e2 : UU ks tw s (x + 1) = ((List.range (tw x)).filter fun p => decide (UA ks tw s x p)) := by
    unfold UU
    rw [List.range_succ, List.filter_append, range_split hc, List.filter_append, List.filter_cons, if_neg (by rw [decide_eq_true_iff]; exact fun a => by have := a.2.2; rw [htt] at this; omega), no (x + 1) (.inr rfl), List.append_nil,
      List.filter_cons, if_neg (by rw [decide_eq_true_iff]; exact fun a => by have := a.2.1; omega), List.filter_nil, List.append_nil]
    refine filter_same _ fun p hp => ⟨fun ⟨a, b, c⟩ => ⟨a, b, by omega⟩, fun ⟨a, b, c⟩ => ⟨a, b, ?_⟩⟩
    have : tw p ≠ x := fun e => by
      have := h.tt p (by omega)
      rw [e] at this; omega
    omega
  rw [e1, e2]
theorem stk_UU (h : Prg ks tw) (hX : NX ks tw s) : ∀ x, x ≤ ks.length → Stack (exc (val (ownL s ks))) (ah s ks x) ((UU ks tw s x).map (ah s ks))
  | 0, _ => by rw [ah_zero]; exact Stack.nil (exc_Exc _)
  | x + 1, hx => by
    have ih := stk_UU h hX x (by omega)
    have hk := h.kd.getD x
    by_cases hs : ks.getD x 0 / 2 = s
    · have hst := step_s (ks := ks) (i := x) (by omega) hs
      have ho := h.opn x (by omega)
      rw [ah_next s ks x (by omega), if_pos hs]
      by_cases q : x < tw x
      · rw [UU_open h (by omega) hs q, List.map_append]
        rw [ho.2 q] at hst
        exact ih.push (by rw [hst]; rfl)
      · have hne := h.ne x (by omega)
        have hm : ks.getD x 0 % 2 = 1 := by have : ¬ ks.getD x 0 % 2 = 0 := fun e => q (ho.1 e); omega
        rw [hm] at hst
        have hst' : exc (val (ownL s ks)) (ah s ks x + 1) = exc (val (ownL s ks)) (ah s ks x) - 1 := by rw [hst]; omega
        have hl := UU_last h hX (show x < ks.length by omega) hs (by omega)
        rw [hl, List.map_append] at ih
        have := (ih.pop hst' (by simp)).1
        rwa [List.length_append, List.length_map, List.length_map, List.length_singleton, Nat.add_sub_cancel, List.take_left' (by rw [List.length_map])] at this
    · rw [ah_next s ks x (by omega), if_neg hs, UU_skip h (by omega) hs]; exact ih
/-- Where no two cross, each letter's mate is its pair's. -/
theorem mate_close (h : Prg ks tw) (hX : NX ks tw s) {x : Nat} (hx : x < ks.length) (hs : ks.getD x 0 / 2 = s) (hc : tw x < x) : Pair (exc (val (ownL s ks))) (ah s ks (tw x)) (ah s ks x) := by
  have ih := stk_UU h hX x (by omega)
  have hst := step_s (ks := ks) (i := x) hx hs
  have ho := h.opn x hx
  have hk := h.kd.getD x
  have hm : ks.getD x 0 % 2 = 1 := by have : ¬ ks.getD x 0 % 2 = 0 := fun e => by have := ho.1 e; omega
                                      omega
  rw [hm] at hst
  have hst' : exc (val (ownL s ks)) (ah s ks x + 1) = exc (val (ownL s ks)) (ah s ks x) - 1 := by rw [hst]; omega
  have hl := UU_last h hX hx hs hc
  rw [hl, List.map_append] at ih
  have hp := (ih.pop hst' (by simp)).2
  rw [List.length_append, List.length_map, List.length_map, List.length_singleton, Nat.add_sub_cancel, List.getD_eq_getElem?_getD, List.getElem?_append_right (by rw [List.length_map]; exact Nat.le_refl _), List.length_map, Nat.sub_self] at hp
  exact hp
theorem mate_of (h : Prg ks tw) (hX : NX ks tw s) {x : Nat} (hx : x < ks.length) (hs : ks.getD x 0 / 2 = s) : MateAt ks x (tw x) := by
  refine ⟨h.lt x hx, h.sort x hx, ?_⟩
  rw [hs]
  have hne := h.ne x hx
  rcases Nat.lt_or_ge (tw x) x with c | c
  · exact ⟨_, rfl, .inr (mate_close h hX hx hs c)⟩
  · have h2 := mate_close h hX (h.lt x hx) (by rw [h.sort x hx]; exact hs) (by rw [h.tt x hx]; omega)
    rw [h.tt x hx] at h2
    exact ⟨_, rfl, .inl h2⟩
/-- Where each letter's mate is its pair's, no two cross. -/
theorem mate_nx (h : Prg ks tw) (hM : ∀ x, x < ks.length → ks.getD x 0 / 2 = s → MateAt ks x (tw x)) : NX ks tw s := fun i k h1 h2 h3 hi hk si sk => by
  have hE := exc_Exc (val (ownL s ks))
  have pr : ∀ x, x < ks.length → ks.getD x 0 / 2 = s → x < tw x → Pair (exc (val (ownL s ks))) (ah s ks x) (ah s ks (tw x)) := fun x hx hs ho => by
    obtain ⟨_, _, q, hq, hp⟩ := hM x hx hs
    rw [hs] at hq hp
    obtain rfl : q = ah s ks (tw x) := by omega
    have hlt : ah s ks x < ah s ks (tw x) := by
      have a := ah_next s ks x hx
      rw [if_pos hs] at a
      have htl := h.lt x hx
      have b := ah_mono s ks (x + 1) (tw x - (x + 1)) (by omega)
      rw [show x + 1 + (tw x - (x + 1)) = tw x by omega] at b
      omega
    rcases hp with hp | hp
    · exact hp
    · have := hp.lt; omega
  have hti := h.lt i hi
  have htk := h.lt k hk
  have p1 := pr i hi si (by omega)
  have p2 := pr k hk sk (by omega)
  have lt2 : ∀ a b, a < b → b < ks.length → ks.getD a 0 / 2 = s → ah s ks a < ah s ks b := fun a b hab hb hs => by
    have x := ah_next s ks a (by omega)
    rw [if_pos hs] at x
    have y := ah_mono s ks (a + 1) (b - (a + 1)) (by omega)
    rw [show a + 1 + (b - (a + 1)) = b by omega] at y
    omega
  have a1 := lt2 i k h1 hk si
  have a2 := lt2 k (tw i) h2 hti sk
  have a3 := lt2 (tw i) (tw k) h3 htk (by rw [h.sort i hi]; exact si)
  have c1 := p1.above (ah s ks k) a1 (by omega)
  have c2 := p2.above (ah s ks (tw i) + 1) (by omega) (by omega)
  have := p1.same
  omega
end
end Go.Proofs.Ythkocodajjapmaa
namespace Go.Proofs.Ythkocodajjapmaa
open Go.RowKit
set_option linter.unusedVariables false

/-- How many darts the vertex v has, or -1. -/
noncomputable def degOf (l : List Nat) (lone v : Int) : Int :=
  if v < 0 ∨ ((sizes l).length : Int) + lone ≤ v then -1 else if ((sizes l).length : Int) ≤ v then 0 else ((sizes l).getD v.toNat 0 : Nat)
/-! ### The document's Vertices and Borders -/
end Go.Proofs.Ythkocodajjapmaa
namespace Go.Proofs.Ythkocodajjapmaa
set_option maxRecDepth 20000
set_option linter.unusedVariables false

theorem sum_bump (f : Nat → Nat) (p m : Nat) : ((List.range m).map fun j => f j + (if p = j then 1 else 0)).sum = ((List.range m).map f).sum + (if p < m then 1 else 0) := by
  induction m with
  | zero => simp
  | succ m ih =>
    rw [List.range_succ, List.map_append, List.map_append, List.sum_append, List.sum_append, ih]
    simp only [List.map_cons, List.map_nil, List.sum_cons, List.sum_nil]
    by_cases h1 : p < m
    · rw [if_pos h1, if_neg (by omega), if_pos (by omega)]; omega
    · by_cases h2 : p = m
      · rw [if_neg h1, if_pos h2, if_pos (by omega)]; omega
      · rw [if_neg h1, if_neg h2, if_neg (by omega)]; omega
theorem degs_sum {l b : List Nat} (h : Inv l b) (M : Nat) (hM : (sizes l).length ≤ M) (k : Nat) (hk : k ≤ l.length) : (sizesTo l M k).sum = k := by
  induction k with
  | zero =>
    unfold sizesTo
    have : (List.range M).map (cntN l 0) = (List.range M).map fun _ => 0 := List.map_congr_left fun i _ => by simp [cntN]
    rw [this]
    have z : ∀ L : List Nat, (L.map fun _ => 0).sum = 0 := fun L => by
      induction L with
      | nil => rfl
      | cons a L ih => rw [List.map_cons, List.sum_cons, ih]
    exact z _
  | succ k ih =>
    have ih := ih (by omega)
    have e : sizesTo l (M) (k + 1) = (List.range M).map fun j => cntN l k j + (if nameOf l k = j then 1 else 0) := by
      unfold sizesTo
      exact List.map_congr_left fun i _ => cntN_next l k i
    rw [e, sum_bump]
    have h1 : nameOf l k < (sizes l).length := by rw [sizes_len]; exact name_lt h (by omega)
    rw [if_pos (by omega)]
    unfold sizesTo at ih
    rw [ih]
theorem degs_zero (l : List Nat) (M : Nat) : sizesTo l M 0 = List.replicate M 0 := by
  unfold sizesTo
  apply List.ext_getElem (by simp)
  intro i h1 h2
  simp [cntN]
theorem cnt_out {l b : List Nat} (h : Inv l b) (j : Nat) (hj : (sizes l).length ≤ j) : cntN l l.length j = 0 := by
  unfold cntN
  rw [List.length_eq_zero_iff, List.filter_eq_nil_iff]
  intro i hi
  rw [List.mem_range] at hi
  have := name_lt h hi
  rw [sizes_len] at hj
  simp; omega
theorem degs_get {l b : List Nat} (h : Inv l b) (q j : Nat) (hj : j < (sizes l).length + q) : (((sizesTo l ((sizes l).length + q) l.length).getD j 0 : Nat) : Int) = degOf l q j := by
  rw [sizesTo_get _ _ _ _ hj]
  unfold degOf
  rw [if_neg (by omega)]
  by_cases h1 : ((sizes l).length : Int) ≤ (j : Int)
  · rw [if_pos h1, cnt_out h j (by omega)]; rfl
  · rw [if_neg h1, Int.toNat_natCast]
    have hz : (sizes l).length = met l l.length := by unfold sizes; rw [sizesTo_len]
    unfold sizes
    rw [sizesTo_get _ _ _ _ (by omega)]
theorem sum_take (L : List Nat) (i : Nat) (h : i < L.length) : (L.take (i + 1)).sum = (L.take i).sum + L.getD i 0 := by
  rw [← List.take_append_getElem h, List.sum_append, List.getD_eq_getElem?_getD, List.getElem?_eq_getElem h]
  simp
theorem sum_take_le (L : List Nat) (i : Nat) : (L.take i).sum ≤ L.sum := by
  have h := congrArg List.sum (List.take_append_drop i L)
  rw [List.sum_append] at h
  omega
end Go.Proofs.Ythkocodajjapmaa
namespace Go.Proofs.Ythkocodajjapmaa
set_option maxRecDepth 20000
open Go.RowKit Go.Maps
set_option linter.unusedVariables false

theorem name_inj {l b : List Nat} (h : Inv l b) {x y : Nat} (hx : x < l.length) (hy : y < l.length) (e : nameOf l x = nameOf l y) : lead l x = lead l y := by
  have h1 := (lead_is h hx).2.1
  have h2 := (lead_is h hy).2.1
  rcases Nat.lt_trichotomy (lead l x) (lead l y) with hlt | heq | hgt
  · have := leads_lt l _ _ h1 hlt
    unfold nameOf at e; omega
  · exact heq
  · have := leads_lt l _ _ h2 hgt
    unfold nameOf at e; omega
theorem cnt_orb {l b : List Nat} (h : Inv l b) {d : Nat} (hd : d < l.length) : cntN l l.length (nameOf l d) = (orb l d).length := by
  unfold cntN
  apply List.Perm.length_eq
  refine (List.perm_ext_iff_of_nodup (List.Pairwise.filter _ List.nodup_range) (orb_nodup h hd)).2 fun x => ?_
  rw [List.mem_filter, List.mem_range, decide_eq_true_iff]
  constructor
  · rintro ⟨h1, h2⟩
    exact mem_of_lead h h1 hd (name_inj h h1 hd h2)
  · intro hx
    refine ⟨orb_lt h hd hx, ?_⟩
    unfold nameOf
    rw [lead_of_mem h hd hx]

def kI (j : Nat) : Lit := .int .i64 (j : Int)
theorem kI_ne {i j : Nat} (h : i ≠ j) : kI i ≠ kI j := by
  intro e
  unfold kI at e
  simp only [Lit.int.injEq, true_and] at e
  omega
theorem kI_key (j : Nat) : WideAt.IsKeyLit (kI j) := by
  unfold kI; simp [WideAt.IsKeyLit]
/-- The datum of a map that has counted the names of the first k numbers. -/
structure MC {H : Type} (D : DataW H) (l : List Nat) (k : Nat) : Prop where
  tidy : Tidy D
  has_ : ∀ j : Nat, Maps.has D (kI j) = decide (j < met l k)
  size_ : Maps.size D = met l k
  at_ : ∀ j : Nat, D.atKey (kI j) (.lit (.int .i64 0)) = .lit (.int .i64 ((cntN l k j : Nat) : Int))
theorem MC.zero {H : Type} (l : List Nat) : MC (H := H) (.map []) l 0 where
  tidy := tidy_empty
  has_ := fun j => by rw [met_zero]; simp [Maps.has]
  size_ := by rw [met_zero]; rfl
  at_ := fun j => by simp [DataW.atKey, cntN]
theorem MC.step {H : Type} {D : DataW H} {l b : List Nat} (hi : Inv l b) {k : Nat} (hk : k < l.length) (h : MC D l k) :
    MC (D.put (kI (nameOf l k)) (.lit (.int .i64 ((cntN l k (nameOf l k) : Nat) + 1 : Int)))) l (k + 1) where
  tidy := h.tidy.put (kI_key _) _
  has_ := fun j => by
    by_cases hj : j = nameOf l k
    · subst hj
      rw [has_put_same h.tidy.isMap (kI_key _)]
      exact (decide_eq_true (name_met hi hk (Nat.lt_succ_self k))).symm
    · rw [has_put_other (kI_ne hj), h.has_]
      rw [decide_eq_decide]
      by_cases hl : Leads l k
      · have := name_lead hi hk hl
        rw [met_lead l k hl]; omega
      · rw [met_not l k hl]
  size_ := by
    rw [size_put h.tidy, h.has_, h.size_]
    by_cases hl : Leads l k
    · have := name_lead hi hk hl
      rw [met_lead l k hl, if_neg (by simp; omega)]
    · have := name_not hi hk hl
      rw [met_not l k hl, if_pos (by simpa using this)]
  at_ := fun j => by
    by_cases hj : j = nameOf l k
    · subst hj
      rw [atKey_put_same h.tidy.isMap (kI_key _), cntN_next, if_pos rfl]; rfl
    · rw [atKey_put_other (kI_ne hj), h.at_, cntN_next, if_neg (fun e => hj e.symm)]; rfl
theorem own_map_below {H : Type} {P : Program} {k : TypeId} {R : Value → Option (DataW H × List MemPlace)} {w w' : World} {b n : Nat} {D : DataW H} (h : w.ownsMap P k R b n D) (m : Below w.heap.size w w') : w'.ownsMap P k R b n D := by
  have hlt := h.lt
  obtain ⟨es, clock, hb, F, hs, hD⟩ := h
  exact ⟨es, clock, (m.block b hlt).trans hb, F, hs, hD⟩
theorem mlaw : Keyed Try.prog 3 := int_keyed Try.underlying3
theorem mzero (w : World) : (zeroValue 3).run Try.prog w = .ok (.int .i64 0) w := by kernel_rfl
theorem mkey (j : Nat) (hj : j ≤ 1000000) : keyOf Try.prog 3 (.int .i64 (j : Int)) = some (kI j) := keyOf_int_mk Try.underlying3 (by simp [Lit.wf, IntKind.min, IntKind.max, IntKind.bits, IntKind.signed]; omega)
abbrev OwnM (w : World) (g n : Nat) (D : DataW Unit) : Prop := w.ownsMap Try.prog 3 (plainElem Try.prog 3) g n D
theorem look_m {w : World} {g n k : Nat} {D : DataW Unit} {l : List Nat} (h : OwnM w g n D) (hm : MC D l k) (j : Nat) (hj : j ≤ 1000000) :
    (Instr.lookup 38 (.map (some g)) (.int .i64 (j : Int)) false).run Try.prog w = .ok (.int .i64 ((cntN l k j : Nat) : Int)) w := by
  obtain ⟨c, hrun, hat, _⟩ := World.ownsMap.lookup_int h mlaw Try.underlying38 Try.underlying3 (mzero _) (mkey j hj)
  rw [hm.at_] at hat
  simp only [DataW.lit.injEq, Lit.int.injEq, true_and] at hat
  rw [hat]; exact hrun
end Go.Proofs.Ythkocodajjapmaa
namespace Go.Proofs.Ythkocodajjapmaa
set_option maxRecDepth 20000
open Go.RowKit Go.Maps
set_option linter.unusedVariables false
/-- A map bears the kinds of the edges that were looked at. -/
structure MF (D : DataW Unit) (K : List Int) : Prop where
  tidy : Tidy D
  has_ : ∀ e, e < K.length → Maps.has D (kI e) = decide (K.getD e 0 ≠ -1)
  at_ : ∀ e, e < K.length → D.atKey (kI e) (.lit (.int .i64 0)) = .lit (.int .i64 (if K.getD e 0 = -1 then 0 else K.getD e 0))
theorem MF.zero (m : Nat) : MF (.map []) (List.replicate m (-1)) where
  tidy := tidy_empty
  has_ := fun e he => by
    have : (List.replicate m (-1 : Int)).getD e 0 = -1 := by simp at he; simp [List.getD_eq_getElem?_getD, he]
    rw [this]; simp [Maps.has]
  at_ := fun e he => by
    have : (List.replicate m (-1 : Int)).getD e 0 = -1 := by simp at he; simp [List.getD_eq_getElem?_getD, he]
    rw [this]; simp [DataW.atKey]
theorem MF.put {D : DataW Unit} {K : List Int} (h : MF D K) {e : Nat} (he : e < K.length) (v : Int) (hv : v ≠ -1) : MF (D.put (kI e) (.lit (.int .i64 v))) (K.set e v) where
  tidy := h.tidy.put (kI_key _) _
  has_ := fun j hj => by
    rw [List.length_set] at hj
    rw [getI_set _ _ _ _ he]
    by_cases c : j = e
    · subst c
      rw [has_put_same h.tidy.isMap (kI_key _), if_pos rfl]; simp [hv]
    · rw [has_put_other (kI_ne c), h.has_ j hj, if_neg c]
  at_ := fun j hj => by
    rw [List.length_set] at hj
    rw [getI_set _ _ _ _ he]
    by_cases c : j = e
    · subst c
      rw [atKey_put_same h.tidy.isMap (kI_key _), if_pos rfl, if_neg hv]
    · rw [atKey_put_other (kI_ne c), h.at_ j hj, if_neg c]
/-- A map bears the vertices that were met. -/
structure MM (D : DataW Unit) (M : List Bool) : Prop where
  tidy : Tidy D
  at_ : ∀ v, v < M.length → D.atKey (kI v) (.lit (.int .i64 0)) = .lit (.int .i64 (if M.getD v false = true then 1 else 0))
theorem MM.zero (V : Nat) : MM (.map []) (List.replicate V false) where
  tidy := tidy_empty
  at_ := fun v hv => by
    have : (List.replicate V false).getD v false = false := by simp [List.getD_eq_getElem?_getD, List.getElem?_replicate]; split <;> rfl
    rw [this]; simp [DataW.atKey]
theorem MM.put {D : DataW Unit} {M : List Bool} (h : MM D M) {v : Nat} (hv : v < M.length) : MM (D.put (kI v) (.lit (.int .i64 1))) (M.set v true) where
  tidy := h.tidy.put (kI_key _) _
  at_ := fun j hj => by
    rw [List.length_set] at hj
    rw [getB_set _ _ _ _ hv]
    by_cases c : j = v
    · subst c
      rw [atKey_put_same h.tidy.isMap (kI_key _), if_pos rfl, if_pos rfl]
    · rw [atKey_put_other (kI_ne c), h.at_ j hj, if_neg c]
theorem look_f {w : World} {g n : Nat} {D : DataW Unit} {K : List Int} (h : OwnM w g n D) (hm : MF D K) (e : Nat) (he : e < K.length) (hj : e ≤ 1000000) :
    (Instr.lookup 38 (.map (some g)) (.int .i64 (e : Int)) true).run Try.prog w = .ok (.tuple #[.int .i64 (if K.getD e 0 = -1 then 0 else K.getD e 0), .bool (decide (K.getD e 0 ≠ -1))]) w := by
  obtain ⟨v, ps, hrun, hat⟩ := World.ownsMap.look_ok h mlaw Try.underlying38 (mzero _) (plainElem_int Try.underlying3 (by decide)) (mkey e hj)
  rw [hm.at_ e he] at hat
  rw [hm.has_ e he] at hrun
  obtain ⟨c, rfl, hc, _⟩ := plainElem_int_inv Try.underlying3 hat
  simp only [Prod.mk.injEq, DataW.lit.injEq, Lit.int.injEq, true_and] at hc
  rw [hc.1]; exact hrun
theorem look_met {w : World} {g n : Nat} {D : DataW Unit} {M : List Bool} (h : OwnM w g n D) (hm : MM D M) (v : Nat) (hv : v < M.length) (hj : v ≤ 1000000) :
    (Instr.lookup 38 (.map (some g)) (.int .i64 (v : Int)) false).run Try.prog w = .ok (.int .i64 (if M.getD v false = true then 1 else 0)) w := by
  obtain ⟨c, hrun, hat, _⟩ := World.ownsMap.lookup_int h mlaw Try.underlying38 Try.underlying3 (mzero _) (mkey v hj)
  rw [hm.at_ v hv] at hat
  simp only [DataW.lit.injEq, Lit.int.injEq, true_and] at hat
  rw [hat]; exact hrun
theorem put_m {w : World} {g n : Nat} {D : DataW Unit} (h : OwnM w g n D) (hn : n < 1000000) (e : Nat) (hj : e ≤ 1000000) (v : Int) (hv : -9223372036854775808 ≤ v ∧ v ≤ 9223372036854775807) :
    ∃ w', (Instr.mapUpdate 38 (.map (some g)) (.int .i64 (e : Int)) (.int .i64 v)).run Try.prog w = .ok () w' ∧ OwnM w' g (n + 1) (D.put (kI e) (.lit (.int .i64 v))) ∧ w.grownBy w' (some g) :=
  World.ownsMap.update h mlaw Try.underlying38 (by unfold maxLen; omega) (mkey e hj) (plainElem_int Try.underlying3 (WalkArith.wf_i64 (by omega)))
end Go.Proofs.Ythkocodajjapmaa
