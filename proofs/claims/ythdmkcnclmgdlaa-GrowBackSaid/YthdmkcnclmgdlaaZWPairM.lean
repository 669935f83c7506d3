/- Pairs of letters of one sort: that no two cross is that each letter's mate is its pair's. -/
import Derived.Test.YthdmkcnclmgdlaaZWChord
import Derived.Test.YthdmkcnclmgdlaaZg8
namespace Go.Proofs.Ythdmkcnclmgdlaa
set_option linter.unusedVariables false
/-- A pairing of the places of letters: of one sort, the first one opens. -/
structure Prg (ks : List Nat) (tw : Nat → Nat) : Prop where
  kd : Kds ks
  lt : ∀ j, j < ks.length → tw j < ks.length
  tt : ∀ j, j < ks.length → tw (tw j) = j
  ne : ∀ j, j < ks.length → tw j ≠ j
  sort : ∀ j, j < ks.length → ks.getD (tw j) 0 / 2 = ks.getD j 0 / 2
  opn : ∀ j, j < ks.length → (ks.getD j 0 % 2 = 0 ↔ j < tw j)
/-- p opens, and is not shut ahead of x. -/
def UA (ks : List Nat) (tw : Nat → Nat) (s x p : Nat) : Prop := ks.getD p 0 / 2 = s ∧ p < tw p ∧ x ≤ tw p
instance (ks : List Nat) (tw : Nat → Nat) (s x : Nat) : DecidablePred (UA ks tw s x) := fun p => by unfold UA; exact inferInstance
def UU (ks : List Nat) (tw : Nat → Nat) (s x : Nat) : List Nat := (List.range x).filter fun p => decide (UA ks tw s x p)
section
variable {ks : List Nat} {tw : Nat → Nat} {s : Nat}
theorem step_s {i : Nat} (hi : i < ks.length) (hs : ks.getD i 0 / 2 = s) : exc (val (ownL s ks)) (ah s ks i + 1) = exc (val (ownL s ks)) (ah s ks i) + (2 * ((1 - ks.getD i 0 % 2 : Nat) : Int) - 1) := by
  rw [exc_list (ownL_bin s ks), ownL_get s ks i hi hs]
theorem filter_same (x : Nat) {A B : Nat → Prop} [DecidablePred A] [DecidablePred B] (h : ∀ p, p < x → (A p ↔ B p)) : ((List.range x).filter fun p => decide (A p)) = (List.range x).filter fun p => decide (B p) :=
  List.filter_congr fun p hp => by rw [decide_eq_decide]; exact h p (by simpa using hp)
theorem UU_skip (h : Prg ks tw) {x : Nat} (hx : x < ks.length) (hs : ks.getD x 0 / 2 ≠ s) : UU ks tw s (x + 1) = UU ks tw s x := by
  unfold UU
  rw [List.range_succ, List.filter_append, List.filter_cons, if_neg (by rw [decide_eq_true_iff]; exact fun a => hs a.1), List.filter_nil, List.append_nil]
  refine filter_same x fun p hp => ⟨fun ⟨a, b, c⟩ => ⟨a, b, by omega⟩, fun ⟨a, b, c⟩ => ⟨a, b, ?_⟩⟩
  have : tw p ≠ x := fun e => hs (by rw [← e, h.sort p (by omega)]; exact a)
  omega
theorem UU_open (h : Prg ks tw) {x : Nat} (hx : x < ks.length) (hs : ks.getD x 0 / 2 = s) (ho : x < tw x) : UU ks tw s (x + 1) = UU ks tw s x ++ [x] := by
  unfold UU
  rw [List.range_succ, List.filter_append, List.filter_cons, if_pos (by rw [decide_eq_true_iff]; exact ⟨hs, ho, ho⟩), List.filter_nil]
  congr 1
  refine filter_same x fun p hp => ⟨fun ⟨a, b, c⟩ => ⟨a, b, by omega⟩, fun ⟨a, b, c⟩ => ⟨a, b, ?_⟩⟩
  have : tw p ≠ x := fun e => by
    have := h.tt p (by omega)
    rw [e] at this; omega
  omega
theorem UU_close (h : Prg ks tw) {x : Nat} (hx : x < ks.length) (hs : ks.getD x 0 / 2 = s) (hc : tw x < x) : (UU ks tw s (x + 1)).length + 1 = (UU ks tw s x).length := by
  unfold UU
  rw [List.range_succ, List.filter_append, List.filter_cons, if_neg (by rw [decide_eq_true_iff]; exact fun a => by have := a.2.1; omega), List.filter_nil, List.append_nil]
  have htt := h.tt x hx
  refine filter_less List.nodup_range (UA ks tw s x) (UA ks tw s (x + 1)) (tw x) (by simp; omega) ⟨by rw [h.sort x hx]; exact hs, by rw [htt]; omega, by rw [htt]; exact Nat.le_refl _⟩ fun p hp => ?_
  have hp' : p < x := by simpa using hp
  constructor
  · rintro ⟨a, b, c⟩
    exact ⟨⟨a, b, by omega⟩, fun e => by subst e; rw [htt] at c; omega⟩
  · rintro ⟨⟨a, b, c⟩, d⟩
    refine ⟨a, b, ?_⟩
    have : tw p ≠ x := fun e => d (by rw [← e, h.tt p (by omega)])
    omega
/-- The excess is how many stand open. -/
theorem exc_UU (h : Prg ks tw) : ∀ x, x ≤ ks.length → exc (val (ownL s ks)) (ah s ks x) = ((UU ks tw s x).length : Int)
  | 0, _ => by rw [ah_zero, (exc_Exc _).zero]; rfl
  | x + 1, hx => by
    have ih := exc_UU h x (by omega)
    have hk := h.kd.getD x
    by_cases hs : ks.getD x 0 / 2 = s
    · have hst := step_s (ks := ks) (i := x) (by omega) hs
      rw [ah_next s ks x (by omega), if_pos hs, hst, ih]
      have ho := h.opn x (by omega)
      by_cases q : x < tw x
      · rw [UU_open h (by omega) hs q, List.length_append, ho.2 q]; simp
      · have hne := h.ne x (by omega)
        have := UU_close h (show x < ks.length by omega) hs (by omega)
        have : ¬ ks.getD x 0 % 2 = 0 := fun e => q (ho.1 e)
        rw [show ks.getD x 0 % 2 = 1 by omega]
        omega
    · rw [ah_next s ks x (by omega), if_neg hs, UU_skip h (by omega) hs]; exact ih
theorem prg_bal (h : Prg ks tw) : Bal (exc (val (ownL s ks))) (ownL s ks).length := by
  have hend : exc (val (ownL s ks)) (ownL s ks).length = 0 := by
    rw [← ah_all s ks, exc_UU h ks.length (Nat.le_refl _)]
    have : UU ks tw s ks.length = [] := by
      unfold UU
      rw [List.filter_eq_nil_iff]
      intro p hp
      rw [decide_eq_true_iff]
      intro a
      have := h.lt p (by simpa using hp)
      have := a.2.2
      omega
    rw [this]; rfl
  refine ⟨fun y hy => ?_, hend⟩
  rcases Nat.lt_or_ge y (ownL s ks).length with c | c
  · obtain ⟨i, hi, _, e⟩ := ah_find s ks y c
    rw [← e, exc_UU h i (by omega)]; omega
  · rw [show y = (ownL s ks).length by omega, hend]; exact Int.le_refl _
/-- No two pairs of the sort cross. -/
def NX (ks : List Nat) (tw : Nat → Nat) (s : Nat) : Prop := ∀ i k, i < k → k < tw i → tw i < tw k → i < ks.length → k < ks.length → ks.getD i 0 / 2 = s → ks.getD k 0 / 2 = s → False
theorem range_split {i x : Nat} (h : i < x) : List.range x = List.range i ++ i :: (List.range (x - i - 1)).map (fun t => i + 1 + t) := by
  have e := List.range_add (n := i + 1) (m := x - i - 1)
  rw [show i + 1 + (x - i - 1) = x by omega, List.range_succ] at e
  rw [e, List.append_assoc]; rfl
theorem UU_last (h : Prg ks tw) (hX : NX ks tw s) {x : Nat} (hx : x < ks.length) (hs : ks.getD x 0 / 2 = s) (hc : tw x < x) : UU ks tw s x = UU ks tw s (x + 1) ++ [tw x] := by
  have htt := h.tt x hx
  have hti := h.lt x hx
  have hsi : ks.getD (tw x) 0 / 2 = s := by rw [h.sort x hx]; exact hs
  have no : ∀ y, y = x ∨ y = x + 1 → ((List.range (x - tw x - 1)).map (fun t => tw x + 1 + t)).filter (fun p => decide (UA ks tw s y p)) = [] := fun y hy => by
    rw [List.filter_eq_nil_iff]
    intro p hp
    obtain ⟨t, ht, rfl⟩ := List.mem_map.1 hp
    have ht' : t < x - tw x - 1 := by simpa using ht
    rw [decide_eq_true_iff]
    rintro ⟨a, b, c⟩
    have hne : tw (tw x + 1 + t) ≠ x := fun e => by
      have := h.tt (tw x + 1 + t) (by omega)
      rw [e] at this; omega
    exact hX (tw x) (tw x + 1 + t) (by omega) (by rw [htt]; omega) (by rw [htt]; omega) hti (by omega) hsi a
  have e1 : UU ks tw s x = ((List.range (tw x)).filter fun p => decide (UA ks tw s x p)) ++ [tw x] := by
    unfold UU
    rw [range_split hc, List.filter_append, List.filter_cons, if_pos (by rw [decide_eq_true_iff]; exact ⟨hsi, by rw [htt]; omega, by rw [htt]; exact Nat.le_refl _⟩), no x (.inl rfl)]
  have e2 : UU ks tw s (x + 1) = ((List.range (tw x)).filter fun p => decide (UA ks tw s x p)) := by
    unfold UU
    rw [List.range_succ, List.filter_append, range_split hc, List.filter_append, List.filter_cons, if_neg (by rw [decide_eq_true_iff]; exact fun a => by have := a.2.2; rw [htt] at this; omega), no (x + 1) (.inr rfl), List.append_nil,
      List.filter_cons, if_neg (by rw [decide_eq_true_iff]; exact fun a => by have := a.2.1; omega), List.filter_nil, List.append_nil]
    refine filter_same _ fun p hp => ⟨fun ⟨a, b, c⟩ => ⟨a, b, by omega⟩, fun ⟨a, b, c⟩ => ⟨a, b, ?_⟩⟩
    have : tw p ≠ x := fun e => by
      have := h.tt p (by omega)
      rw [e] at this; omega
    omega
  rw [e1, e2]
theorem stk_UU (h : Prg ks tw) (hX : NX ks tw s) : ∀ x, x ≤ ks.length → Stack (exc (val (ownL s ks))) (ah s ks x) ((UU ks tw s x).map (ah s ks))
  | 0, _ => by rw [ah_zero]; exact Stack.nil (exc_Exc _)
  | x + 1, hx => by
    have ih := stk_UU h hX x (by omega)
    have hk := h.kd.getD x
    by_cases hs : ks.getD x 0 / 2 = s
    · have hst := step_s (ks := ks) (i := x) (by omega) hs
      have ho := h.opn x (by omega)
      rw [ah_next s ks x (by omega), if_pos hs]
      by_cases q : x < tw x
      · rw [UU_open h (by omega) hs q, List.map_append]
        rw [ho.2 q] at hst
        exact ih.push (by rw [hst]; rfl)
      · have hne := h.ne x (by omega)
        have hm : ks.getD x 0 % 2 = 1 := by have : ¬ ks.getD x 0 % 2 = 0 := fun e => q (ho.1 e); omega
        rw [hm] at hst
        have hst' : exc (val (ownL s ks)) (ah s ks x + 1) = exc (val (ownL s ks)) (ah s ks x) - 1 := by rw [hst]; omega
        have hl := UU_last h hX (show x < ks.length by omega) hs (by omega)
        rw [hl, List.map_append] at ih
        have := (ih.pop hst' (by simp)).1
        rwa [List.length_append, List.length_map, List.length_map, List.length_singleton, Nat.add_sub_cancel, List.take_left' (by rw [List.length_map])] at this
    · rw [ah_next s ks x (by omega), if_neg hs, UU_skip h (by omega) hs]; exact ih
/-- Where no two cross, each letter's mate is its pair's. -/
theorem mate_close (h : Prg ks tw) (hX : NX ks tw s) {x : Nat} (hx : x < ks.length) (hs : ks.getD x 0 / 2 = s) (hc : tw x < x) : Pair (exc (val (ownL s ks))) (ah s ks (tw x)) (ah s ks x) := by
  have ih := stk_UU h hX x (by omega)
  have hst := step_s (ks := ks) (i := x) hx hs
  have ho := h.opn x hx
  have hk := h.kd.getD x
  have hm : ks.getD x 0 % 2 = 1 := by have : ¬ ks.getD x 0 % 2 = 0 := fun e => by have := ho.1 e; omega
                                      omega
  rw [hm] at hst
  have hst' : exc (val (ownL s ks)) (ah s ks x + 1) = exc (val (ownL s ks)) (ah s ks x) - 1 := by rw [hst]; omega
  have hl := UU_last h hX hx hs hc
  rw [hl, List.map_append] at ih
  have hp := (ih.pop hst' (by simp)).2
  rw [List.length_append, List.length_map, List.length_map, List.length_singleton, Nat.add_sub_cancel, List.getD_eq_getElem?_getD, List.getElem?_append_right (by rw [List.length_map]; exact Nat.le_refl _), List.length_map, Nat.sub_self] at hp
  exact hp
theorem mate_of (h : Prg ks tw) (hX : NX ks tw s) {x : Nat} (hx : x < ks.length) (hs : ks.getD x 0 / 2 = s) : MateAt ks x (tw x) := by
  refine ⟨h.lt x hx, h.sort x hx, ?_⟩
  rw [hs]
  have hne := h.ne x hx
  rcases Nat.lt_or_ge (tw x) x with c | c
  · exact ⟨_, rfl, .inr (mate_close h hX hx hs c)⟩
  · have h2 := mate_close h hX (h.lt x hx) (by rw [h.sort x hx]; exact hs) (by rw [h.tt x hx]; omega)
    rw [h.tt x hx] at h2
    exact ⟨_, rfl, .inl h2⟩
/-- Where each letter's mate is its pair's, no two cross. -/
theorem mate_nx (h : Prg ks tw) (hM : ∀ x, x < ks.length → ks.getD x 0 / 2 = s → MateAt ks x (tw x)) : NX ks tw s := fun i k h1 h2 h3 hi hk si sk => by
  have hE := exc_Exc (val (ownL s ks))
  have pr : ∀ x, x < ks.length → ks.getD x 0 / 2 = s → x < tw x → Pair (exc (val (ownL s ks))) (ah s ks x) (ah s ks (tw x)) := fun x hx hs ho => by
    obtain ⟨_, _, q, hq, hp⟩ := hM x hx hs
    rw [hs] at hq hp
    obtain rfl : q = ah s ks (tw x) := by omega
    have hlt : ah s ks x < ah s ks (tw x) := by
      have a := ah_next s ks x hx
      rw [if_pos hs] at a
      have htl := h.lt x hx
      have b := ah_mono s ks (x + 1) (tw x - (x + 1)) (by omega)
      rw [show x + 1 + (tw x - (x + 1)) = tw x by omega] at b
      omega
    rcases hp with hp | hp
    · exact hp
    · have := hp.lt; omega
  have hti := h.lt i hi
  have htk := h.lt k hk
  have p1 := pr i hi si (by omega)
  have p2 := pr k hk sk (by omega)
  have lt2 : ∀ a b, a < b → b < ks.length → ks.getD a 0 / 2 = s → ah s ks a < ah s ks b := fun a b hab hb hs => by
    have x := ah_next s ks a (by omega)
    rw [if_pos hs] at x
    have y := ah_mono s ks (a + 1) (b - (a + 1)) (by omega)
    rw [show a + 1 + (b - (a + 1)) = b by omega] at y
    omega
  have a1 := lt2 i k h1 hk si
  have a2 := lt2 k (tw i) h2 hti sk
  have a3 := lt2 (tw i) (tw k) h3 htk (by rw [h.sort i hi]; exact si)
  have c1 := p1.above (ah s ks k) a1 (by omega)
  have c2 := p2.above (ah s ks (tw i) + 1) (by omega) (by omega)
  have := p1.same
  omega
end
end Go.Proofs.Ythdmkcnclmgdlaa
