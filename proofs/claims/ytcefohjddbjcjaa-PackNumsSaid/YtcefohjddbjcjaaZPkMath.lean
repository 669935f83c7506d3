/- Numbers as bytes, seven bits each: mathematics. -/
import Derived.Test.YtcefohjddbjcjaaZBMath
import Derived.Test.YtcefohjddbjcjaaZBList
import Derived.Lib.BitFns
import Derived.Lib.ItoaNum
namespace Go.Proofs.Ytcefohjddbjcjaa
set_option maxRecDepth 20000
set_option linter.unusedVariables false
/-- A number's bytes. -/
def numB (x : Nat) : List Nat := if x < 128 then [x] else (128 + x % 128) :: numB (x / 128)
termination_by x
decreasing_by omega
theorem numB_small {x : Nat} (h : x < 128) : numB x = [x] := by rw [numB, if_pos h]
theorem numB_big {x : Nat} (h : ¬ x < 128) : numB x = (128 + x % 128) :: numB (x / 128) := by rw [numB, if_neg h]
theorem numB_ind {P : Nat → Prop} (h0 : ∀ x, x < 128 → P x) (h1 : ∀ x, 128 ≤ x → P (x / 128) → P x) (x : Nat) : P x := by
  induction x using Nat.strongRecOn with
  | ind x ih =>
    by_cases h : x < 128
    · exact h0 x h
    · exact h1 x (by omega) (ih (x / 128) (by omega))
theorem numB_pos (x : Nat) : 1 ≤ (numB x).length := by
  by_cases h : x < 128
  · rw [numB_small h]; simp
  · rw [numB_big h]; simp
theorem numB_lt (x : Nat) : ∀ b ∈ numB x, b < 256 := by
  refine numB_ind (P := fun x => ∀ b ∈ numB x, b < 256) (fun x h b hb => ?_) (fun x h ih b hb => ?_) x
  · rw [numB_small h] at hb; simp at hb; omega
  · rw [numB_big (by omega)] at hb
    rcases List.mem_cons.1 hb with rfl | hb
    · omega
    · exact ih b hb
theorem numB_len : ∀ (k x : Nat), 1 ≤ k → x < 128 ^ k → (numB x).length ≤ k
  | 0, x, h, _ => by omega
  | k + 1, x, _, hx => by
    by_cases h : x < 128
    · rw [numB_small h]; simp
    · rw [numB_big h]
      have hk : 1 ≤ k := by
        rcases Nat.eq_zero_or_pos k with rfl | c
        · simp at hx; omega
        · exact c
      have := numB_len k (x / 128) hk (by rw [Nat.pow_succ] at hx; exact (Nat.div_lt_iff_lt_mul (by decide)).2 hx)
      simp; omega
theorem numB_len10 {x : Nat} (h : x < 2 ^ 64) : (numB x).length ≤ 10 := numB_len 10 x (by decide) (Nat.lt_of_lt_of_le h (by decide))
/-- The number of bytes, seven bits each. -/
def v128 : List Nat → Nat
  | [] => 0
  | d :: l => d % 128 + 128 * v128 l
theorem v128_append (l m : List Nat) : v128 (l ++ m) = v128 l + 128 ^ l.length * v128 m := by
  induction l with
  | nil => simp [v128]
  | cons d l ih => rw [List.cons_append, v128, v128, ih, List.length_cons, Nat.pow_succ]; rw [Nat.mul_add, Nat.mul_comm (128 ^ l.length) 128, Nat.mul_assoc]; omega
theorem v128_lt (l : List Nat) : v128 l < 128 ^ l.length := by
  induction l with
  | nil => simp [v128]
  | cons d l ih => rw [v128, List.length_cons, Nat.pow_succ]; omega
theorem v128_numB (x : Nat) : v128 (numB x) = x := by
  refine numB_ind (P := fun x => v128 (numB x) = x) (fun x h => ?_) (fun x h ih => ?_) x
  · rw [numB_small h]; simp [v128]; omega
  · rw [numB_big (by omega), v128, ih]; omega
/-- All but the last are 128 or more, the last is below, and no nought but alone. -/
theorem numB_form (x : Nat) : ∃ l d, numB x = l ++ [d] ∧ (∀ b ∈ l, 128 ≤ b) ∧ d < 128 ∧ (l = [] ∨ d ≠ 0) := by
  refine numB_ind (P := fun x => ∃ l d, numB x = l ++ [d] ∧ (∀ b ∈ l, 128 ≤ b) ∧ d < 128 ∧ (l = [] ∨ d ≠ 0)) (fun x h => ?_) (fun x h ih => ?_) x
  · exact ⟨[], x, (by rw [numB_small h]; rfl), (fun b hb => by cases hb), h, .inl rfl⟩
  · obtain ⟨l, d, e, h1, h2, h3⟩ := ih
    refine ⟨(128 + x % 128) :: l, d, by rw [numB_big (by omega), e]; rfl, fun b hb => ?_, h2, .inr ?_⟩
    · rcases List.mem_cons.1 hb with rfl | hb
      · omega
      · exact h1 b hb
    · rcases h3 with rfl | h3
      · intro hd
        subst hd
        have hv := v128_numB (x / 128)
        rw [e] at hv
        simp [v128] at hv
        omega
      · exact h3
theorem numB_of (l : List Nat) (d : Nat) (hl : ∀ b ∈ l, 128 ≤ b ∧ b < 256) (hd : d < 128) (h0 : l = [] ∨ d ≠ 0) : numB (v128 (l ++ [d])) = l ++ [d] := by
  induction l with
  | nil => simp [v128]; rw [Nat.mod_eq_of_lt hd, numB_small hd]
  | cons b l ih =>
    have hb := hl b (List.mem_cons_self ..)
    have ih2 := ih (fun c hc => hl c (List.mem_cons_of_mem _ hc)) (by
      rcases h0 with h0 | h0
      · cases h0
      · exact .inr h0)
    have hne : d ≠ 0 := by
      rcases h0 with h0 | h0
      · cases h0
      · exact h0
    have hpos : 1 ≤ v128 (l ++ [d]) := by
      rw [v128_append]
      have := Nat.pow_pos (n := l.length) (show 0 < 128 by decide)
      have h1 : v128 [d] = d := by simp [v128]; omega
      rw [h1]
      have := Nat.mul_le_mul this (show 1 ≤ d by omega)
      omega
    rw [List.cons_append, v128, numB_big (by omega)]
    have e1 : (b % 128 + 128 * v128 (l ++ [d])) % 128 = b % 128 := by omega
    have e2 : (b % 128 + 128 * v128 (l ++ [d])) / 128 = v128 (l ++ [d]) := by omega
    rw [e1, e2, ih2]
    congr 1
    omega
/-- Bytes that begin with so many of 128 or more and one below begin with no other number's bytes. -/
theorem numB_pre {l : List Nat} {d : Nat} {rest : List Nat} {x : Nat} {r : List Nat} (hl : ∀ b ∈ l, 128 ≤ b) (hd : d < 128) (h : l ++ d :: rest = numB x ++ r) : numB x = l ++ [d] ∧ r = rest := by
  obtain ⟨m, c, e, h1, h2, h3⟩ := numB_form x
  rw [e] at h ⊢
  clear e h3
  induction l generalizing m with
  | nil =>
    cases m with
    | nil => simp at h; obtain ⟨rfl, rfl⟩ := h; exact ⟨rfl, rfl⟩
    | cons a m =>
      simp at h
      have := h1 a (List.mem_cons_self ..)
      omega
  | cons a l ih =>
    cases m with
    | nil =>
      simp at h
      have := hl a (List.mem_cons_self ..)
      omega
    | cons a' m =>
      simp at h
      obtain ⟨rfl, h⟩ := h
      obtain ⟨e1, e2⟩ := ih (fun b hb => hl b (List.mem_cons_of_mem _ hb)) m (by simpa using h) (fun b hb => h1 b (List.mem_cons_of_mem _ hb))
      exact ⟨by rw [List.cons_append, List.cons_append, e1], e2⟩
theorem numB_uniq {x y : Nat} {r s : List Nat} (h : numB x ++ r = numB y ++ s) : x = y ∧ r = s := by
  obtain ⟨l, d, e, h1, h2, _⟩ := numB_form x
  have h' := h
  rw [e, List.append_assoc, List.singleton_append] at h'
  obtain ⟨e1, e2⟩ := numB_pre h1 h2 h'
  have : numB x = numB y := by rw [e, e1]
  have hx := v128_numB x
  rw [this, v128_numB] at hx
  exact ⟨hx.symm, e2.symm⟩
/-- What bytes begin with: some number's bytes, or none's. -/
def Begins (bs : List Nat) (x : Nat) : Prop := x < 2 ^ 64 ∧ ∃ rest, bs = numB x ++ rest
/-- .. if the first so many are 128 or more. -/
theorem begins_len {bs : List Nat} {x i : Nat} (h : Begins bs x) (hi : ∀ j, j < i → 128 ≤ bs.getD j 0) (hil : i ≤ bs.length) : i < (numB x).length := by
  obtain ⟨_, rest, rfl⟩ := h
  obtain ⟨l, d, e, h1, h2, _⟩ := numB_form x
  rcases Nat.lt_or_ge i (numB x).length with c | c
  · exact c
  · have hl : (numB x).length = l.length + 1 := by rw [e]; simp
    have := hi l.length (by omega)
    rw [e] at this
    simp [List.getD_eq_getElem?_getD] at this
    omega
theorem begins_no {bs : List Nat} {x : Nat} (hi : ∀ j, j < bs.length → 128 ≤ bs.getD j 0) : ¬ Begins bs x := fun h => by
  have h1 := begins_len h hi (Nat.le_refl _)
  obtain ⟨_, rest, rfl⟩ := h
  simp at h1
  omega
theorem begins_10 {bs : List Nat} {x : Nat} (hi : ∀ j, j < 10 → 128 ≤ bs.getD j 0) (hl : 10 ≤ bs.length) : ¬ Begins bs x := fun h => by
  have h1 := begins_len h hi hl
  have := numB_len10 h.1
  omega
/-- .. and the next is below. -/
theorem begins_at {bs : List Nat} {x i : Nat} (h : Begins bs x) (hi : ∀ j, j < i → 128 ≤ bs.getD j 0) (hil : i < bs.length) (hd : bs.getD i 0 < 128) : numB x = bs.take (i + 1) ∧ x = v128 (bs.take (i + 1)) := by
  obtain ⟨_, rest, e⟩ := h
  have hs : bs = bs.take i ++ bs.getD i 0 :: bs.drop (i + 1) := by
    rw [List.getD_eq_getElem?_getD, List.getElem?_eq_getElem hil]
    simp
  have ht : bs.take (i + 1) = bs.take i ++ [bs.getD i 0] := by
    rw [List.take_add_one, List.getD_eq_getElem?_getD, List.getElem?_eq_getElem hil]; rfl
  have hg : ∀ b ∈ bs.take i, 128 ≤ b := fun b hb => by
    obtain ⟨j, hj, rfl⟩ := List.getElem_of_mem hb
    rw [List.length_take] at hj
    have := hi j (by omega)
    rw [List.getD_eq_getElem?_getD, List.getElem?_eq_getElem (by omega)] at this
    simpa [List.getElem_take] using this
  have h1 := numB_pre (x := x) (r := rest) hg hd (by rw [← hs, e])
  rw [ht]
  exact ⟨h1.1, by rw [← h1.1, v128_numB]⟩
theorem begins_yes {bs : List Nat} {i : Nat} (hb : ∀ b ∈ bs, b < 256) (hi : ∀ j, j < i → 128 ≤ bs.getD j 0) (hil : i < bs.length) (hd : bs.getD i 0 < 128) (h0 : i = 0 ∨ bs.getD i 0 ≠ 0) : numB (v128 (bs.take (i + 1))) = bs.take (i + 1) := by
  have ht : bs.take (i + 1) = bs.take i ++ [bs.getD i 0] := by
    rw [List.take_add_one, List.getD_eq_getElem?_getD, List.getElem?_eq_getElem hil]; rfl
  rw [ht]
  refine numB_of _ _ (fun b hbm => ⟨?_, hb b (List.mem_of_mem_take hbm)⟩) hd ?_
  · obtain ⟨j, hj, rfl⟩ := List.getElem_of_mem hbm
    rw [List.length_take] at hj
    have := hi j (by omega)
    rw [List.getD_eq_getElem?_getD, List.getElem?_eq_getElem (by omega)] at this
    simpa [List.getElem_take] using this
  · rcases h0 with rfl | h0
    · exact .inl (by simp)
    · exact .inr h0
theorem begins_zero {bs : List Nat} {x i : Nat} (hi : ∀ j, j < i → 128 ≤ bs.getD j 0) (hil : i < bs.length) (hd : bs.getD i 0 = 0) (h0 : 0 < i) : ¬ Begins bs x := fun h => by
  have h1 := (begins_at h hi hil (by omega)).1
  obtain ⟨l, d, e, _, _, h3⟩ := numB_form x
  have ht : bs.take (i + 1) = bs.take i ++ [bs.getD i 0] := by
    rw [List.take_add_one, List.getD_eq_getElem?_getD, List.getElem?_eq_getElem hil]; rfl
  rw [e, ht] at h1
  obtain ⟨e1, e2⟩ := List.append_inj' h1 rfl
  rcases h3 with h3 | h3
  · rw [h3] at e1
    have := congrArg List.length e1
    rw [List.length_take] at this
    simp at this; omega
  · rw [hd] at e2
    exact h3 (by simpa using e2)
/-- A digit that is too great. -/
theorem begins_over {bs : List Nat} {x i : Nat} (hi : ∀ j, j < i → 128 ≤ bs.getD j 0) (hil : i < bs.length) (hov : 64 < Lib.bitLen (bs.getD i 0 % 128) + 7 * i) : ¬ Begins bs x := fun h => by
  have h1 := begins_len h hi (by omega)
  have h10 := numB_len10 h.1
  obtain ⟨hx, rest, e⟩ := h
  have hv := v128_numB x
  have hg : bs.getD i 0 = (numB x).getD i 0 := by
    rw [e, List.getD_eq_getElem?_getD, List.getD_eq_getElem?_getD, List.getElem?_append_left h1]
  have hsp : numB x = (numB x).take i ++ (numB x).getD i 0 :: (numB x).drop (i + 1) := by
    rw [List.getD_eq_getElem?_getD, List.getElem?_eq_getElem h1]
    simp
  rw [hsp, v128_append, v128, List.length_take, Nat.min_eq_left (by omega), ← hg] at hv
  generalize bs.getD i 0 = b at *
  by_cases hd : b % 128 = 0
  · rw [hd] at hov
    have : Lib.bitLen 0 = 0 := by decide
    omega
  · obtain ⟨g1, g2, g3⟩ := Lib.bitLenAux_bounds 64 (b % 128) (by omega) hd
    have hle : 2 ^ (Lib.bitLen (b % 128) - 1) ≤ b % 128 := g2
    have h7 : (128 : Nat) ^ i = 2 ^ (7 * i) := by rw [Nat.pow_mul]
    have hm : 2 ^ (7 * i) * 2 ^ (Lib.bitLen (b % 128) - 1) ≤ 128 ^ i * (b % 128 + 128 * v128 (List.drop (i + 1) (numB x))) := by
      rw [h7]
      exact Nat.mul_le_mul_left _ (by omega)
    rw [← Nat.pow_add] at hm
    have : 2 ^ 64 ≤ 2 ^ (7 * i + (Lib.bitLen (b % 128) - 1)) := Nat.pow_le_pow_right (by decide) (by
      have : 1 ≤ Lib.bitLen (b % 128) := g1
      omega)
    omega
end Go.Proofs.Ytcefohjddbjcjaa
