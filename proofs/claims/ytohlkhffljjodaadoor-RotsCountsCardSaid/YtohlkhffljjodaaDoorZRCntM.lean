/- A text that is read is the text of what was read; how many numbers it has, how long it is. -/
import Derived.Test.YtohlkhffljjodaaDoorZRTurnM
namespace Go.Proofs.YtohlkhffljjodaaDoor
set_option linter.unusedVariables false
set_option maxRecDepth 20000
/-! ### words, back -/
theorem snoc_ind {P : List Int → Prop} (h0 : P []) (h1 : ∀ x b, P x → P (x ++ [b])) : ∀ x, P x := by
  intro x
  have : ∀ n (x : List Int), x.length = n → P x := fun n => by
    induction n with
    | zero => intro x hx; rw [List.eq_nil_of_length_eq_zero hx]; exact h0
    | succ n ih =>
      intro x hx
      have hne : x ≠ [] := fun e => by rw [e] at hx; simp at hx
      rw [← List.dropLast_concat_getLast hne]
      exact h1 _ _ (ih _ (by rw [List.length_dropLast, hx]; rfl))
  exact this _ x rfl
theorem decD_back : ∀ x : List Int, x ≠ [] → (∀ b ∈ x, Dig b) → (x.getD 0 0 ≠ 48 ∨ x.length = 1) → decD (decL x).toNat = x := by
  refine snoc_ind (fun h => absurd rfl h) fun x b ih _ hd hh => ?_
  have hb : Dig b := hd b (by simp)
  unfold Dig at hb
  by_cases hx : x = []
  · subst hx
    have e : decL ([] ++ [b]) = b - 48 := by simp [decL]
    rw [e, decD_small (by omega)]
    simp; omega
  · have hdx : ∀ c ∈ x, Dig c := fun c hc => hd c (by simp [hc])
    have hh' : x.getD 0 0 ≠ 48 := by
      rcases hh with h | h
      · cases x with
        | nil => exact absurd rfl hx
        | cons a r => simpa using h
      · rw [List.length_append, List.length_singleton] at h
        exact absurd (List.eq_nil_of_length_eq_zero (by omega)) hx
    have e := ih hx hdx (.inl hh')
    have hge := (decL_lt x hdx).1
    have h1 : 1 ≤ decL x := by
      rcases Int.lt_or_le (decL x) 1 with c | c
      · exfalso
        have : decL x = 0 := by omega
        rw [this] at e
        have e : decD 0 = x := e
        rw [decD_small (by omega)] at e
        rw [← e] at hh'
        exact hh' rfl
      · exact c
    rw [decL_snoc]
    have hn : ¬ (10 * decL x + (b - 48)).toNat < 10 := by omega
    rw [decD_big hn, show (10 * decL x + (b - 48)).toNat / 10 = (decL x).toNat by omega, show (10 * decL x + (b - 48)).toNat % 10 = (b - 48).toNat by omega, e]
    congr 2
    omega
theorem numR_back {x : List Int} {v : Int} (h : numR x = some v) : x = decB v ∧ -1 ≤ v ∧ v < 1000000000 := by
  have hb := numR_bd h
  refine ⟨?_, hb⟩
  unfold numR at h
  split at h
  · next e => simp only [Option.some.injEq] at h; rw [← h, decB_m1, e]
  · split at h
    · cases h
    · next hn =>
      split at h
      · next hd =>
        simp only [Option.some.injEq] at h
        rw [← h]
        have h0 := (decL_lt x hd).1
        have e : decL x = ((decL x).toNat : Int) := by omega
        rw [e, decB_nat]
        refine (decD_back x (fun e => hn (.inl e)) hd ?_).symm
        by_cases c : x.getD 0 0 = 48
        · right
          have : ¬ 1 < x.length := fun l => hn (.inr (.inr ⟨c, l⟩))
          have : x.length ≠ 0 := fun l => hn (.inl (List.eq_nil_of_length_eq_zero l))
          omega
        · exact .inl c
      · cases h
def joinL (c : Int) : List (List Int) → List Int
  | [] => []
  | [x] => x
  | x :: y :: r => x ++ c :: joinL c (y :: r)
theorem join_split (c : Int) : ∀ l : List Int, joinL c (splitL c l) = l
  | [] => rfl
  | b :: l => by
    have ih := join_split c l
    rw [splitL_cons]
    cases hs : splitL c l with
    | nil => exact absurd hs (splitL_ne c l)
    | cons x r =>
      rw [hs] at ih
      by_cases e : b = c
      · rw [if_pos e, e]
        show [] ++ c :: joinL c (x :: r) = _
        rw [ih]; rfl
      · rw [if_neg e]
        show joinL c ((b :: x) :: r) = _
        cases r with
        | nil => show b :: x = b :: l; rw [← ih]; rfl
        | cons y r => show (b :: x) ++ c :: joinL c (y :: r) = b :: l; rw [← ih]; rfl
theorem words_join : ∀ zs : List Int, wordsB zs = joinL 32 (zs.map decB)
  | [] => rfl
  | [x] => rfl
  | x :: y :: r => by
    show decB x ++ 32 :: wordsB (y :: r) = decB x ++ 32 :: joinL 32 ((y :: r).map decB)
    rw [words_join (y :: r)]
theorem allNum_back : ∀ (ls : List (List Int)) (zs : List Int), allNum ls = some zs → ls = zs.map decB ∧ ∀ v ∈ zs, -1 ≤ v ∧ v < 1000000000
  | [], zs, h => by
    simp [allNum] at h
    subst h
    exact ⟨rfl, by simp⟩
  | x :: ls, zs, h => by
    unfold allNum at h
    cases hx : numR x with
    | none => rw [hx] at h; simp at h
    | some v =>
      rw [hx] at h
      simp only [Option.map_eq_some_iff] at h
      obtain ⟨r, h1, rfl⟩ := h
      obtain ⟨e, b⟩ := allNum_back ls r h1
      obtain ⟨e2, b2⟩ := numR_back hx
      exact ⟨by rw [List.map_cons, ← e, ← e2], fun u hu => by rcases List.mem_cons.1 hu with rfl | hu; exact b2; exact b u hu⟩
theorem rowR_back {x zs : List Int} (h : rowR x = some zs) : x = wordsB zs ∧ zs ≠ [] ∧ ∀ v ∈ zs, -1 ≤ v ∧ v < 1000000000 := by
  obtain ⟨e, b⟩ := allNum_back _ _ h
  refine ⟨?_, fun z => ?_, b⟩
  · rw [words_join, ← e, join_split]
  · rw [z] at e; exact splitL_ne 32 x e
theorem lines_join : ∀ rs : List (List Int), joinL 10 (rs.map wordsB ++ [[]]) = linesB rs
  | [] => rfl
  | r :: rs => by
    have ih := lines_join rs
    have e : linesB (r :: rs) = wordsB r ++ 10 :: linesB rs := by unfold linesB; simp [lineB_words]
    rw [e, ← ih]
    cases rs with
    | nil => rfl
    | cons s rs => rfl
theorem lines_back {p : List Int} {rs : List (List Int)} (h : lineF 0 (splitL 10 p) = .ok rs) : p = linesB rs ∧ (∀ r ∈ rs, r ≠ [] ∧ ∀ v ∈ r, -1 ≤ v ∧ v < 1000000000) ∧ ∀ j, j < rs.length → fitsR (rs.getD j []) (j == 0) = true := by
  obtain ⟨h1, h2, h3⟩ := lineF_is _ _ _ h
  have hrow : ∀ j, j < rs.length → rowR ((splitL 10 p).getD j []) = some (rs.getD j []) ∧ fitsR (rs.getD j []) (j == 0) = true := fun j hj => by
    have h4 := h3 j hj
    rw [Nat.zero_add] at h4
    have f := (okRow_is h4).1
    unfold okRow at h4
    cases hr : rowR ((splitL 10 p).getD j []) with
    | none => rw [hr] at h4; simp at h4
    | some v =>
      rw [hr] at h4
      simp only at h4
      split at h4
      · simp only [Option.some.injEq] at h4; exact ⟨by rw [h4], f⟩
      · cases h4
  have hend := lineF_end (splitL 10 p) 0 rs.length rs h1.symm rfl h3
  rw [h] at hend
  have hlast : (splitL 10 p).getD rs.length [] = [] := by
    split at hend
    · next c => exact c.1
    · cases hend
  have hls : splitL 10 p = rs.map wordsB ++ [[]] := by
    apply List.ext_getElem
    · simp [← h1]
    · intro j a b
      by_cases c : j < rs.length
      · have e := (rowR_back (hrow j c).1).1
        rw [List.getD_eq_getElem?_getD, List.getElem?_eq_getElem a, List.getD_eq_getElem?_getD, List.getElem?_eq_getElem c] at e
        rw [List.getElem_append_left (by simpa using c), List.getElem_map]
        exact e
      · have hj : j = rs.length := by omega
        subst hj
        rw [List.getD_eq_getElem?_getD, List.getElem?_eq_getElem a] at hlast
        rw [List.getElem_append_right (by simp)]
        simpa using hlast
  refine ⟨?_, fun r hr => ?_, fun j hj => (hrow j hj).2⟩
  · rw [← join_split 10 p, hls, lines_join]
  · obtain ⟨j, hj, e⟩ := List.getElem_of_mem hr
    have := (rowR_back (hrow j hj).1).2
    rw [List.getD_eq_getElem?_getD, List.getElem?_eq_getElem hj] at this
    rw [← e]; exact this
/-! ### how many numbers -/
/-- The numbers behind the first line, from here on: in the first line?, the byte ahead. -/
def cntW : Bool → Int → List Int → Nat
  | _, _, [] => 0
  | f, p, b :: l => (if (f && b != 10) = false ∧ (b = 32 ∨ b = 10 ∧ p ≠ 10) then 1 else 0) + cntW (f && b != 10) b l
theorem cntW_first (rest : List Int) : ∀ (x : List Int) (p : Int), (∀ b ∈ x, b ≠ 10) → (x ≠ [] ∨ p ≠ 10) → cntW true p (x ++ 10 :: rest) = 1 + cntW false 10 rest
  | [], p, _, h => by
    have hp : p ≠ 10 := h.resolve_left fun c => c rfl
    show (if (true && (10 : Int) != 10) = false ∧ _ then 1 else 0) + cntW (true && (10 : Int) != 10) 10 rest = _
    rw [if_pos ⟨rfl, .inr ⟨rfl, hp⟩⟩]; rfl
  | b :: x, p, h, _ => by
    have hb : b ≠ 10 := h b (by simp)
    have hbb : (true && b != 10) = true := by simp [hb]
    show (if (true && b != 10) = false ∧ _ then 1 else 0) + cntW (true && b != 10) b (x ++ 10 :: rest) = _
    rw [hbb, if_neg (by simp), cntW_first rest x b (fun c hc => h c (by simp [hc])) (.inr hb), Nat.zero_add]
theorem cntW_word (rest : List Int) : ∀ (x : List Int) (p : Int), (∀ b ∈ x, b ≠ 10 ∧ b ≠ 32) → cntW false p (x ++ rest) = cntW false (x.getLast?.getD p) rest
  | [], p, _ => rfl
  | b :: x, p, h => by
    have hb := h b (by simp)
    show (if (false && b != 10) = false ∧ (b = 32 ∨ b = 10 ∧ p ≠ 10) then 1 else 0) + cntW (false && b != 10) b (x ++ rest) = _
    rw [if_neg (by rintro ⟨_, c | c⟩; exact hb.2 c; exact hb.1 c.1), Nat.zero_add]
    show cntW false b (x ++ rest) = _
    rw [cntW_word rest x b fun c hc => h c (by simp [hc])]
    congr 1
    cases x with
    | nil => rfl
    | cons y r => simp [List.getLast?_cons]
theorem decB_ne (x : Int) (h : -1 ≤ x) : decB x ≠ [] := by
  by_cases hx : 0 ≤ x
  · obtain ⟨u, rfl⟩ : ∃ u : Nat, x = (u : Int) := ⟨x.toNat, by omega⟩
    rw [decB_nat]; exact (decD_facts u).2.2.1
  · obtain rfl : x = -1 := by omega
    rw [decB_m1]; simp
theorem decB_last (x : Int) (h : -1 ≤ x) (p : Int) : (decB x).getLast?.getD p ≠ 10 := by
  have hne := decB_ne x h
  cases hq : (decB x).getLast? with
  | none => exact absurd (List.getLast?_eq_none_iff.1 hq) hne
  | some v =>
    have := decB_byt x h v (List.mem_of_getLast? hq)
    show v ≠ 10
    omega
theorem cntW_line (rest : List Int) : ∀ (r : List Int) (p : Int), r ≠ [] → (∀ x ∈ r, -1 ≤ x) → cntW false p (wordsB r ++ 10 :: rest) = r.length + cntW false 10 rest
  | [], _, h, _ => absurd rfl h
  | [x], p, _, h => by
    show cntW false p (decB x ++ 10 :: rest) = _
    have hx := h x (by simp)
    rw [cntW_word _ _ _ fun b hb => by have := decB_byt x hx b hb; omega]
    show (if (false && (10 : Int) != 10) = false ∧ _ then 1 else 0) + cntW (false && (10 : Int) != 10) 10 rest = _
    rw [if_pos ⟨rfl, .inr ⟨rfl, decB_last x hx p⟩⟩]; rfl
  | x :: y :: r, p, _, h => by
    have hx := h x (by simp)
    show cntW false p ((decB x ++ 32 :: wordsB (y :: r)) ++ 10 :: rest) = _
    rw [List.append_assoc, cntW_word _ _ _ fun b hb => by have := decB_byt x hx b hb; omega]
    show (if (false && (32 : Int) != 10) = false ∧ _ then 1 else 0) + cntW (false && (32 : Int) != 10) 32 (wordsB (y :: r) ++ 10 :: rest) = _
    rw [if_pos ⟨rfl, .inl rfl⟩]
    show 1 + cntW false 32 _ = _
    rw [cntW_line rest (y :: r) 32 (by simp) fun z hz => h z (by simp [hz])]
    simp; omega
theorem cntW_lines : ∀ (rs : List (List Int)), (∀ r ∈ rs, r ≠ [] ∧ ∀ x ∈ r, -1 ≤ x) → cntW false 10 (linesB rs) = (rs.map List.length).sum
  | [], _ => rfl
  | r :: rs, h => by
    have e : linesB (r :: rs) = wordsB r ++ 10 :: linesB rs := by unfold linesB; simp [lineB_words]
    rw [e, cntW_line _ r 10 (h r (by simp)).1 (h r (by simp)).2, cntW_lines rs fun s hs => h s (by simp [hs])]
    simp
theorem wordsB_ne {r : List Int} (h0 : r ≠ []) (h : ∀ x ∈ r, -1 ≤ x) : wordsB r ≠ [] := by
  cases r with
  | nil => exact absurd rfl h0
  | cons x s =>
    have := decB_ne x (h x (by simp))
    cases s with
    | nil => exact this
    | cons y t => intro e; exact this (List.append_eq_nil_iff.1 e).1
theorem cntW_all {f : List Int} {rs : List (List Int)} (p : Int) (hf : f ≠ [] ∧ ∀ x ∈ f, -1 ≤ x) (hr : ∀ r ∈ rs, r ≠ [] ∧ ∀ x ∈ r, -1 ≤ x) : cntW true p (linesB (f :: rs)) = 1 + (rs.map List.length).sum := by
  have e : linesB (f :: rs) = wordsB f ++ 10 :: linesB rs := by unfold linesB; simp [lineB_words]
  rw [e, cntW_first _ _ _ (fun b hb => by have := words_byt f hf.2 b hb; omega) (.inl (wordsB_ne hf.1 hf.2)), cntW_lines rs hr]
theorem lines_head {f : List Int} {rs : List (List Int)} (hf : f ≠ [] ∧ ∀ x ∈ f, -1 ≤ x) : (linesB (f :: rs)).getD 0 0 ≠ 10 := by
  have e : linesB (f :: rs) = wordsB f ++ 10 :: linesB rs := by unfold linesB; simp [lineB_words]
  have hne := wordsB_ne hf.1 hf.2
  have hb := words_byt f hf.2
  rw [e]
  cases hw : wordsB f with
  | nil => exact absurd hw hne
  | cons a r => rw [hw] at hb; have := hb a (by simp); show a ≠ 10; omega
/-! ### rows that were read as turns -/
theorem putN_back {l : List Nat} {row : List Int} (hrow : ∀ i, i < row.length → 0 ≤ row.getD i 0) : ∀ (i : Nat) (t s : List Int), i ≤ row.length → t.length = l.length → putN row l.length t i = some s →
    s.length = l.length ∧ (∀ j, j < i → row.getD j 0 < (l.length : Int) ∧ t.getD (row.getD j 0).toNat 0 = -1 ∧ s.getD (row.getD j 0).toNat 0 = row.getD ((j + 1) % row.length) 0) ∧
    (∀ j k, j < k → k < i → row.getD j 0 ≠ row.getD k 0) ∧ ∀ x : Nat, (∀ j, j < i → row.getD j 0 ≠ (x : Int)) → s.getD x 0 = t.getD x 0
  | 0, t, s, _, ht, h => by
    simp [putN] at h
    subst h
    exact ⟨ht, fun j hj => by omega, fun j k _ hk => by omega, fun _ _ => rfl⟩
  | i + 1, t, s, hi, ht, h => by
    unfold putN at h
    cases hp : putN row l.length t i with
    | none => rw [hp] at h; simp at h
    | some u =>
      rw [hp] at h
      simp only at h
      obtain ⟨i1, i2, i3, i4⟩ := putN_back hrow i t u (by omega) ht hp
      split at h
      · cases h
      · next hc =>
        simp only [Option.some.injEq] at h
        have hr0 := hrow i (by omega)
        have hlt : row.getD i 0 < (l.length : Int) := by
          rcases Int.lt_or_le (row.getD i 0) (l.length : Int) with c | c
          · exact c
          · exact absurd (.inl c) hc
        have hfree : u.getD (row.getD i 0).toNat 0 = -1 := Classical.byContradiction fun c => hc (.inr c)
        have hnew : ∀ j, j < i → row.getD j 0 ≠ row.getD i 0 := fun j hj e => by
          have := (i2 j hj).2.2
          rw [e, hfree] at this
          have hm : (j + 1) % row.length < row.length := Nat.mod_lt _ (by omega)
          have := hrow _ hm
          omega
        have gs : ∀ x, s.getD x 0 = if x = (row.getD i 0).toNat then row.getD ((i + 1) % row.length) 0 else u.getD x 0 := fun x => by
          rw [← h]
          by_cases c : x = (row.getD i 0).toNat
          · subst c
            rw [if_pos rfl, List.getD_eq_getElem?_getD, List.getElem?_set_self (by omega)]; rfl
          · rw [if_neg c, List.getD_eq_getElem?_getD, List.getElem?_set_ne (fun z => c z.symm), ← List.getD_eq_getElem?_getD]
        refine ⟨by rw [← h, List.length_set, i1], fun j hj => ?_, fun j k hjk hk => ?_, fun x hx => ?_⟩
        · by_cases c : j = i
          · subst c
            refine ⟨hlt, ?_, by rw [gs, if_pos rfl]⟩
            have := i4 (row.getD j 0).toNat fun k hk e => hnew k hk (by omega)
            rw [← this]; exact hfree
          · obtain ⟨a1, a2, a3⟩ := i2 j (by omega)
            refine ⟨a1, a2, ?_⟩
            have := hnew j (by omega)
            have := hrow j (by omega)
            rw [gs, if_neg (by omega)]; exact a3
        · by_cases c : k = i
          · subst c; exact hnew j hjk
          · exact i3 j k hjk (by omega)
        · have := hx i (by omega)
          rw [gs, if_neg (by omega)]
          exact i4 x fun j hj => hx j (by omega)
theorem turns_back {l b : List Nat} {rs : List (List Int)} {E : Int} (h : Inv l b) (hr : ∀ k, k < rs.length → ∀ i, i < (rs.getD k []).length → 0 ≤ (rs.getD k []).getD i 0) (ht : turnsR rs E = some (ofN l)) : RowsOf l rs ∧ ((l.length : Nat) : Int) = 2 * E := by
  have hlen := turnsR_len ht
  rw [ofN_len] at hlen
  unfold turnsR at ht
  split at ht
  · next hs =>
    rw [← hlen] at hs ht
    have key : ∀ k, k ≤ rs.length → ∀ s, putR rs l.length k = some s → s.length = l.length ∧
        (∀ j i, j < k → i < (rs.getD j []).length → (rs.getD j []).getD i 0 < (l.length : Int) ∧ s.getD ((rs.getD j []).getD i 0).toNat 0 = (rs.getD j []).getD ((i + 1) % (rs.getD j []).length) 0) ∧
        (∀ j j' i i', j < k → j' < k → i < (rs.getD j []).length → i' < (rs.getD j' []).length → (rs.getD j []).getD i 0 = (rs.getD j' []).getD i' 0 → j = j' ∧ i = i') ∧
        ∀ x, x < l.length → (∀ j i, j < k → i < (rs.getD j []).length → (rs.getD j []).getD i 0 ≠ (x : Int)) → s.getD x 0 = -1 := fun k => by
      induction k with
      | zero =>
        intro _ s hs
        simp [putR] at hs
        subst hs
        refine ⟨by simp, fun j i hj => by omega, fun j j' i i' hj => by omega, fun x hx _ => ?_⟩
        rw [List.getD_eq_getElem?_getD]; simp [hx]
      | succ k ih =>
        intro hk s hs
        unfold putR at hs
        cases hp : putR rs l.length k with
        | none => rw [hp] at hs; simp at hs
        | some t =>
          rw [hp] at hs
          simp only at hs
          obtain ⟨a1, a2, a3, a4⟩ := ih (by omega) t hp
          obtain ⟨b1, b2, b3, b4⟩ := putN_back (l := l) (hr k (by omega)) _ t s (Nat.le_refl _) a1 hs
          -- what stands in row k was free
          have cross : ∀ j i i', j < k → i < (rs.getD j []).length → i' < (rs.getD k []).length → (rs.getD j []).getD i 0 ≠ (rs.getD k []).getD i' 0 := fun j i i' hj hi hi' e => by
            have c1 := (a2 j i hj hi).2
            have c2 := (b2 i' hi').2.1
            rw [e, c2] at c1
            have hm : (i + 1) % (rs.getD j []).length < (rs.getD j []).length := Nat.mod_lt _ (by omega)
            have := hr j (by omega) _ hm
            omega
          have inrow : ∀ i i', i < (rs.getD k []).length → i' < (rs.getD k []).length → (rs.getD k []).getD i 0 = (rs.getD k []).getD i' 0 → i = i' := fun i i' hi hi' e => by
            rcases Nat.lt_trichotomy i i' with c | c | c
            · exact absurd e (b3 i i' c hi')
            · exact c
            · exact absurd e.symm (b3 i' i c hi)
          refine ⟨b1, fun j i hj hi => ?_, fun j j' i i' hj hj' hi hi' e => ?_, fun x hx hno => ?_⟩
          · by_cases c : j = k
            · subst c; exact ⟨(b2 i hi).1, (b2 i hi).2.2⟩
            · obtain ⟨c1, c2⟩ := a2 j i (by omega) hi
              refine ⟨c1, ?_⟩
              have h0 := hr j (by omega) i hi
              rw [b4 ((rs.getD j []).getD i 0).toNat fun i' hi' e => cross j i i' (by omega) hi hi' (by omega)]
              exact c2
          · by_cases c : j = k
            · by_cases d : j' = k
              · subst c; subst d; exact ⟨rfl, inrow i i' hi hi' e⟩
              · subst c; exact absurd e.symm (cross j' i' i (by omega) hi' hi)
            · by_cases d : j' = k
              · subst d; exact absurd e (cross j i i' (by omega) hi hi')
              · exact a3 j j' i i' (by omega) (by omega) hi hi' e
          · rw [b4 x fun i hi => hno k i (by omega) hi]
            exact a4 x hx fun j i hj hi => hno j i (by omega) hi
    obtain ⟨c1, c2, c3, c4⟩ := key rs.length (Nat.le_refl _) _ ht
    refine ⟨⟨fun k hk i hi => ?_, c3, fun x hx => ?_, hlen.symm⟩, hs⟩
    · obtain ⟨d1, d2⟩ := c2 k i hk hi
      rw [ofN_get] at d2
      exact ⟨hr k hk i hi, d1, d2.symm⟩
    · refine Classical.byContradiction fun hno => ?_
      have := c4 x hx fun j i hj hi e => hno ⟨j, i, hj, hi, e⟩
      rw [ofN_get] at this
      omega
  · cases ht
end Go.Proofs.YtohlkhffljjodaaDoor
