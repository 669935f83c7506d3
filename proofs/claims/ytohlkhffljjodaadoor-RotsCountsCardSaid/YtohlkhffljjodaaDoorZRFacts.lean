/- What lines that were read are: how long, how big, and that none is -1. -/
import Derived.Test.YtohlkhffljjodaaDoorZRTurns
namespace Go.Proofs.YtohlkhffljjodaaDoor
open Go.RowKit
set_option linter.unusedVariables false
set_option maxRecDepth 20000

theorem numR_bd {x : List Int} {v : Int} (h : numR x = some v) : -1 ≤ v ∧ v < 1000000000 := by
  unfold numR at h
  split at h
  · simp only [Option.some.injEq] at h; omega
  · split at h
    · simp at h
    · rename_i hn
      split at h
      · rename_i hd
        simp only [Option.some.injEq] at h
        have h1 := decL_lt x hd
        have h2 : x.length ≤ 9 := by
          by_cases e : 9 < x.length
          · exact absurd (.inr (.inl e)) hn
          · omega
        have : 10 ^ x.length ≤ 10 ^ 9 := Nat.pow_le_pow_right (by omega) h2
        omega
      · simp at h
theorem allNum_bd : ∀ (ls : List (List Int)) (r : List Int), allNum ls = some r → ∀ v ∈ r, -1 ≤ v ∧ v < 1000000000 := by
  intro ls
  induction ls with
  | nil => intro r h; simp [allNum] at h; subst h; intro v hv; simp at hv
  | cons x ls ih =>
    intro r h
    unfold allNum at h
    cases hx : numR x with
    | none => rw [hx] at h; simp at h
    | some v =>
      rw [hx] at h
      simp only [Option.map_eq_some_iff] at h
      obtain ⟨r', h1, rfl⟩ := h
      intro u hu
      rcases List.mem_cons.1 hu with rfl | hu
      · exact numR_bd hx
      · exact ih r' h1 u hu
theorem okRow_is {x : List Int} {f : Bool} {r : List Int} (h : okRow x f = some r) : fitsR r f = true ∧ (∀ v ∈ r, -1 ≤ v ∧ v < 1000000000) ∧ r.length = (splitL 32 x).length := by
  unfold okRow at h
  cases hx : rowR x with
  | none => rw [hx] at h; simp at h
  | some q =>
    rw [hx] at h
    simp only at h
    split at h
    · rename_i hf
      simp only [Option.some.injEq] at h
      subst h
      exact ⟨hf, allNum_bd _ _ hx, allNum_len _ _ hx⟩
    · simp at h
theorem lineF_is : ∀ (ls : List (List Int)) (s : Nat) (rs : List (List Int)), lineF s ls = .ok rs → rs.length + 1 = ls.length ∧ s + rs.length ≠ 0 ∧ ∀ j, j < rs.length → okRow (ls.getD j []) (s + j == 0) = some (rs.getD j []) := by
  intro ls
  induction ls with
  | nil => intro s rs h; simp [lineF] at h
  | cons x ls ih =>
    intro s rs h
    cases ls with
    | nil =>
      unfold lineF at h
      split at h
      · rename_i e
        simp only [Except.ok.injEq] at h
        subst h
        exact ⟨rfl, by simpa using e.2, fun j hj => by simp at hj⟩
      · simp at h
    | cons y r =>
      unfold lineF at h
      cases hx : okRow x (s == 0) with
      | none => rw [hx] at h; simp at h
      | some v =>
        rw [hx] at h
        simp only at h
        cases hl : lineF (s + 1) (y :: r) with
        | error e => rw [hl] at h; simp at h
        | ok vs =>
          rw [hl] at h
          simp only [Except.ok.injEq] at h
          subst h
          obtain ⟨h1, h2, h3⟩ := ih (s + 1) vs hl
          refine ⟨by simp at h1 ⊢; omega, by simp, fun j hj => ?_⟩
          cases j with
          | zero => simpa using hx
          | succ j =>
            have := h3 j (by simpa using hj)
            rw [List.getD_cons_succ, List.getD_cons_succ, show s + (j + 1) = s + 1 + j by omega]
            exact this
theorem lineF_pos : ∀ (ls : List (List Int)) (s k : Nat), lineF s ls = .error k → 1 ≤ k := by
  intro ls
  induction ls with
  | nil => intro s k h; simp [lineF] at h; omega
  | cons x ls ih =>
    intro s k h
    cases ls with
    | nil =>
      unfold lineF at h
      split at h
      · simp at h
      · simp only [Except.error.injEq] at h; omega
    | cons y r =>
      unfold lineF at h
      cases hx : okRow x (s == 0) with
      | none => rw [hx] at h; simp only [Except.error.injEq] at h; omega
      | some v =>
        rw [hx] at h
        simp only at h
        cases hl : lineF (s + 1) (y :: r) with
        | error e => rw [hl] at h; simp only [Except.error.injEq] at h; have := ih _ _ hl; omega
        | ok vs => rw [hl] at h; simp at h
theorem sumTo_cons (v : List Int) (vs : List (List Int)) : ∀ k, sumTo (v :: vs) (k + 1) = v.length + sumTo vs k := by
  intro k
  induction k with
  | zero => show 0 + _ = _ + 0; simp
  | succ k ih =>
    show sumTo (v :: vs) (k + 1) + ((v :: vs).getD (k + 1) []).length = v.length + (sumTo vs k + (vs.getD k []).length)
    rw [ih, List.getD_cons_succ]; omega
def lenS : List (List Int) → Nat
  | [] => 0
  | x :: r => x.length + 1 + lenS r
theorem lenS_split (c : Int) : ∀ l, lenS (splitL c l) = l.length + 1 := by
  intro l
  induction l with
  | nil => rfl
  | cons b l ih =>
    unfold splitL
    split
    · simp [lenS, ih]; omega
    · cases hs : splitL c l with
      | nil => exact absurd hs (splitL_ne c l)
      | cons x r => rw [hs] at ih; simp [headL, lenS] at ih ⊢; omega
theorem sumTo_lenS : ∀ (ls rs : List (List Int)), rs.length ≤ ls.length → (∀ j, j < rs.length → (rs.getD j []).length ≤ (ls.getD j []).length + 1) → sumTo rs rs.length ≤ lenS ls := by
  intro ls
  induction ls with
  | nil =>
    intro rs h _
    have e : rs = [] := List.eq_nil_of_length_eq_zero (by simpa using h)
    rw [e]; exact Nat.le_refl _
  | cons x ls ih =>
    intro rs h hr
    cases rs with
    | nil => exact Nat.zero_le _
    | cons v vs =>
      have h0 := hr 0 (by simp)
      simp only [List.getD_cons_zero] at h0
      have := ih vs (by simpa using h) fun j hj => by
        have := hr (j + 1) (by simpa using hj)
        rwa [List.getD_cons_succ, List.getD_cons_succ] at this
      rw [List.length_cons, sumTo_cons]
      show _ ≤ x.length + 1 + lenS ls
      omega
/-- All that lines that were read are. -/
theorem lines_are {l : List Int} {rs : List (List Int)} (h : lineF 0 (splitL 10 l) = .ok rs) :
    rs.length ≤ l.length ∧ rs ≠ [] ∧ (rs.getD 0 []).length = 3 ∧ 0 ≤ (rs.getD 0 []).getD 0 0 ∧ (rs.getD 0 []).getD 0 0 < 1000000000 ∧ sumTo rs rs.length ≤ l.length + 1 ∧ (∀ k, 1 ≤ k → k < rs.length → ∀ x ∈ rs.getD k [], 0 ≤ x ∧ x < 1000000000) := by
  obtain ⟨h1, h2, h3⟩ := lineF_is _ _ _ h
  have hne : rs ≠ [] := fun e => h2 (by rw [e]; rfl)
  have hpos : 0 < rs.length := List.length_pos_iff.2 hne
  have hl := splitL_len 10 l
  obtain ⟨f0, b0, _⟩ := okRow_is (h3 0 hpos)
  have h30 : (rs.getD 0 []).length = 3 ∧ (rs.getD 0 []).getD 0 0 ≠ -1 := by
    unfold fitsR at f0
    simp at f0
    exact ⟨f0.1.1, by simpa using f0.1.2⟩
  have hm : (rs.getD 0 []).getD 0 0 ∈ rs.getD 0 [] := by
    rw [List.getD_eq_getElem?_getD (l := rs.getD 0 []), List.getElem?_eq_getElem (by omega)]
    exact List.getElem_mem _
  have hb := b0 _ hm
  refine ⟨by omega, hne, h30.1, by omega, hb.2, ?_, ?_⟩
  · rw [← lenS_split 10 l]
    refine sumTo_lenS _ _ (by omega) fun j hj => ?_
    have := (okRow_is (h3 j hj)).2.2
    rw [this]
    exact splitL_len 32 _
  · intro k hk hkr x hx
    obtain ⟨f, b, _⟩ := okRow_is (h3 k hkr)
    have := b x hx
    have hk0 : (0 + k == 0) = false := beq_eq_false_iff_ne.2 (by omega)
    rw [hk0] at f
    unfold fitsR at f
    simp at f
    have hx1 : x ≠ -1 := fun e => f (by rw [e] at hx; simpa using hx)
    omega
end Go.Proofs.YtohlkhffljjodaaDoor
