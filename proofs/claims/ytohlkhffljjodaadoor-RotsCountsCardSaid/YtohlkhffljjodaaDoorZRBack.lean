/- A text that was printed, read again. -/
import Derived.Test.YtohlkhffljjodaaDoorZRRefP
namespace Go.Proofs.YtohlkhffljjodaaDoor
set_option linter.unusedVariables false
set_option maxRecDepth 20000
/-! ### numbers -/
def decD (u : Nat) : List Int := (Lib.decDigits u).map fun (b : UInt8) => (b.toNat : Int)
theorem decD_small {u : Nat} (h : u < 10) : decD u = [((48 + u : Nat) : Int)] := by
  unfold decD
  rw [Lib.decDigits_one h]
  simp; omega
theorem decD_big {u : Nat} (h : ¬ u < 10) : decD u = decD (u / 10) ++ [((48 + u % 10 : Nat) : Int)] := by
  unfold decD
  rw [Lib.decDigits, dif_neg h]
  simp; omega
theorem decB_nat (u : Nat) : decB (u : Int) = decD u := by
  unfold decB decD Lib.itoa
  rw [if_neg (by omega), Int.toNat_natCast]
theorem decB_m1 : decB (-1) = [45, 49] := by
  unfold decB Lib.itoa
  rw [if_pos (by omega), show (-1 : Int).natAbs = 1 from rfl, Lib.decDigits_one (by omega)]; rfl
theorem decD_facts (u : Nat) : (∀ b ∈ decD u, Dig b) ∧ decL (decD u) = (u : Int) ∧ decD u ≠ [] ∧ (1 ≤ u → (decD u).getD 0 0 ≠ 48) ∧ ∀ k, 1 ≤ k → u < 10 ^ k → (decD u).length ≤ k := by
  induction u using Nat.strongRecOn with
  | ind u ih =>
    by_cases h : u < 10
    · rw [decD_small h]
      refine ⟨fun b hb => ?_, ?_, by simp, fun h1 => ?_, fun k hk _ => ?_⟩
      · simp at hb; subst hb; unfold Dig; omega
      · simp [decL]; omega
      · simp; omega
      · simpa using hk
    · obtain ⟨i1, i2, i3, i4, i5⟩ := ih (u / 10) (by omega)
      rw [decD_big h]
      refine ⟨fun b hb => ?_, ?_, by simp, fun h1 => ?_, fun k hk hu => ?_⟩
      · rcases List.mem_append.1 hb with c | c
        · exact i1 b c
        · simp at c; subst c; unfold Dig; omega
      · rw [decL_snoc, i2]; omega
      · have := i4 (by omega)
        cases hd : decD (u / 10) with
        | nil => exact absurd hd i3
        | cons a r => rw [hd] at this; simpa using this
      · obtain ⟨k, rfl⟩ : ∃ j, k = j + 1 := ⟨k - 1, by omega⟩
        have hk1 : 1 ≤ k := by
          rcases Nat.eq_zero_or_pos k with c | c
          · subst c; simp at hu; omega
          · exact c
        have := i5 k hk1 (by rw [Nat.pow_succ] at hu; omega)
        rw [List.length_append, List.length_singleton]; omega
theorem numR_decB (x : Int) (h0 : -1 ≤ x) (h1 : x < 1000000000) : numR (decB x) = some x := by
  by_cases hx : 0 ≤ x
  · obtain ⟨u, rfl⟩ : ∃ u : Nat, x = (u : Int) := ⟨x.toNat, by omega⟩
    rw [decB_nat]
    obtain ⟨f1, f2, f3, f4, f5⟩ := decD_facts u
    have hne : decD u ≠ [45, 49] := fun e => by have := f1 45 (by rw [e]; simp); unfold Dig at this; omega
    have h9 := f5 9 (by omega) (by omega)
    rw [numR_dec hne ?_ fun k hk => f1 _ (by rw [List.getD_eq_getElem?_getD, List.getElem?_eq_getElem hk]; exact List.getElem_mem _), f2]
    rintro (c | c | ⟨c, d⟩)
    · exact f3 c
    · omega
    · by_cases hu : u < 10
      · rw [decD_small hu] at d; simp at d
      · exact f4 (by omega) c
  · obtain rfl : x = -1 := by omega
    rw [decB_m1]; rfl
theorem decB_byt (x : Int) (h0 : -1 ≤ x) : ∀ b ∈ decB x, (48 ≤ b ∧ b ≤ 57) ∨ b = 45 := by
  by_cases hx : 0 ≤ x
  · obtain ⟨u, rfl⟩ : ∃ u : Nat, x = (u : Int) := ⟨x.toNat, by omega⟩
    rw [decB_nat]
    exact fun b hb => .inl ((decD_facts u).1 b hb)
  · obtain rfl : x = -1 := by omega
    rw [decB_m1]
    intro b hb
    simp at hb; omega
/-! ### words and lines -/
theorem splitL_cons (c b : Int) (l : List Int) : splitL c (b :: l) = if b = c then [] :: splitL c l else headL b (splitL c l) := rfl
theorem split_end (c : Int) : ∀ x : List Int, (∀ b ∈ x, b ≠ c) → splitL c x = [x]
  | [], _ => rfl
  | b :: x, h => by
    rw [splitL_cons, if_neg (h b (by simp)), split_end c x fun d hd => h d (by simp [hd])]; rfl
theorem split_at (c : Int) (y : List Int) : ∀ x : List Int, (∀ b ∈ x, b ≠ c) → splitL c (x ++ c :: y) = x :: splitL c y
  | [], _ => by show splitL c (c :: y) = _; rw [splitL_cons, if_pos rfl]
  | b :: x, h => by
    show splitL c (b :: (x ++ c :: y)) = _
    rw [splitL_cons, if_neg (h b (by simp)), split_at c y x fun d hd => h d (by simp [hd])]; rfl
/-- A line's numbers, each behind a blank but the first. -/
def wordsB : List Int → List Int
  | [] => []
  | [x] => decB x
  | x :: y :: r => decB x ++ 32 :: wordsB (y :: r)
theorem wordsB_snoc (x : Int) : ∀ zs : List Int, zs ≠ [] → wordsB (zs ++ [x]) = wordsB zs ++ 32 :: decB x
  | [], h => absurd rfl h
  | [y], _ => rfl
  | y :: z :: r, _ => by
    have ih := wordsB_snoc x (z :: r) (by simp)
    show decB y ++ 32 :: wordsB (z :: r ++ [x]) = (decB y ++ 32 :: wordsB (z :: r)) ++ 32 :: decB x
    rw [ih]; simp
theorem preB_words (zs : List Int) : ∀ k, k ≤ zs.length → preB zs k = wordsB (zs.take k)
  | 0, _ => rfl
  | k + 1, hk => by
    have ih := preB_words zs k (by omega)
    unfold preB
    rw [ih, take_snoc zs k (by omega)]
    by_cases h0 : k = 0
    · subst h0; simp [wordsB]
    · rw [if_neg h0, wordsB_snoc _ _ (by
        intro e
        have := congrArg List.length e
        rw [List.length_take, List.length_nil] at this; omega)]
      simp
theorem lineB_words (zs : List Int) : lineB zs = wordsB zs ++ [10] := by
  unfold lineB
  rw [preB_words zs zs.length (Nat.le_refl _), List.take_length]
theorem words_split : ∀ zs : List Int, zs ≠ [] → (∀ x ∈ zs, -1 ≤ x) → splitL 32 (wordsB zs) = zs.map decB
  | [], h, _ => absurd rfl h
  | [x], _, h => split_end 32 _ fun b hb => by have := decB_byt x (h x (by simp)) b hb; omega
  | x :: y :: r, _, h => by
    show splitL 32 (decB x ++ 32 :: wordsB (y :: r)) = _
    rw [split_at 32 _ _ fun b hb => by have := decB_byt x (h x (by simp)) b hb; omega, words_split (y :: r) (by simp) fun z hz => h z (by simp [hz])]
    rfl
theorem words_rowR {zs : List Int} (h0 : zs ≠ []) (h : ∀ x ∈ zs, -1 ≤ x ∧ x < 1000000000) : rowR (wordsB zs) = some zs := by
  unfold rowR
  rw [words_split zs h0 fun x hx => (h x hx).1]
  refine allNum_some _ _ (by simp) fun j hj => ?_
  have hj' : j < zs.length := by simpa using hj
  have e1 : (zs.map decB).getD j [] = decB (zs.getD j 0) := by
    rw [List.getD_eq_getElem?_getD, List.getD_eq_getElem?_getD, List.getElem?_map, List.getElem?_eq_getElem hj']; rfl
  have hm : zs.getD j 0 ∈ zs := by rw [List.getD_eq_getElem?_getD, List.getElem?_eq_getElem hj']; exact List.getElem_mem _
  rw [e1]
  exact numR_decB _ (h _ hm).1 (h _ hm).2
theorem words_byt : ∀ zs : List Int, (∀ x ∈ zs, -1 ≤ x) → ∀ b ∈ wordsB zs, (48 ≤ b ∧ b ≤ 57) ∨ b = 45 ∨ b = 32
  | [], _ => by intro b hb; simp [wordsB] at hb
  | [x], h => fun b hb => by have := decB_byt x (h x (by simp)) b hb; omega
  | x :: y :: r, h => fun b hb => by
    have hb' : b ∈ decB x ++ 32 :: wordsB (y :: r) := hb
    rcases List.mem_append.1 hb' with c | c
    · have := decB_byt x (h x (by simp)) b c; omega
    · rcases List.mem_cons.1 c with c | c
      · exact .inr (.inr c)
      · exact words_byt (y :: r) (fun z hz => h z (by simp [hz])) b c
/-- Lines, one behind the other. -/
def linesB (rs : List (List Int)) : List Int := (rs.map lineB).flatten
theorem lines_split : ∀ rs : List (List Int), (∀ r ∈ rs, ∀ x ∈ r, -1 ≤ x) → splitL 10 (linesB rs) = rs.map wordsB ++ [[]]
  | [], _ => rfl
  | r :: rs, h => by
    have e : linesB (r :: rs) = wordsB r ++ 10 :: linesB rs := by unfold linesB; simp [lineB_words]
    rw [e, split_at 10 _ _ fun b hb => by have := words_byt r (h r (by simp)) b hb; omega, lines_split rs fun s hs => h s (by simp [hs])]
    rfl
theorem lines_byt (rs : List (List Int)) (h : ∀ r ∈ rs, ∀ x ∈ r, -1 ≤ x) : Byt (linesB rs) := by
  intro b hb
  unfold linesB at hb
  simp only [List.mem_flatten, List.mem_map] at hb
  obtain ⟨_, ⟨r, hr, rfl⟩, hb⟩ := hb
  rw [lineB_words] at hb
  rcases List.mem_append.1 hb with c | c
  · have := words_byt r (h r hr) b c; omega
  · simp at c; omega
/-- Lines that may be a map's are read as they are. -/
theorem lines_read {f : List Int} {rs : List (List Int)} (hf : f.length = 3) (f0 : f.getD 0 0 ≠ -1) (f2 : f.getD 2 0 ≠ -1) (hfb : ∀ x ∈ f, -1 ≤ x ∧ x < 1000000000) (hr : ∀ r ∈ rs, r ≠ [] ∧ ∀ x ∈ r, 0 ≤ x ∧ x < 1000000000) :
    lineF 0 (splitL 10 (linesB (f :: rs))) = .ok (f :: rs) := by
  have hall : ∀ r ∈ f :: rs, ∀ x ∈ r, -1 ≤ x := fun r hm x hx => by
    rcases List.mem_cons.1 hm with rfl | hm
    · exact (hfb x hx).1
    · have := ((hr r hm).2 x hx).1; omega
  rw [lines_split _ hall, lineF_end _ 0 (rs.length + 1) (f :: rs) (by simp) (by simp) fun j hj => ?_]
  · have e : ((f :: rs).map wordsB ++ [[]]).getD (rs.length + 1) [] = [] := by
      rw [List.getD_eq_getElem?_getD, List.getElem?_append_right (by simp)]
      simp
    rw [if_pos ⟨e, by omega⟩]
  · have hj' : j < (f :: rs).length := by simpa using hj
    have e1 : ((f :: rs).map wordsB ++ [[]]).getD j [] = wordsB ((f :: rs).getD j []) := by
      rw [List.getD_eq_getElem?_getD, List.getElem?_append_left (by simpa using hj'), List.getElem?_map, List.getD_eq_getElem?_getD, List.getElem?_eq_getElem hj']; rfl
    rw [e1]
    unfold okRow
    cases j with
    | zero =>
      have e2 : (f :: rs).getD 0 [] = f := rfl
      rw [e2, words_rowR (by intro e; rw [e] at hf; simp at hf) hfb]
      simp only
      rw [if_pos (by unfold fitsR; rw [if_pos (by rfl), decide_eq_true hf, decide_eq_true f0, decide_eq_true f2]; rfl)]
    | succ j =>
      have hjr : j < rs.length := by simpa using hj'
      have e2 : (f :: rs).getD (j + 1) [] = rs[j] := by rw [List.getD_eq_getElem?_getD, List.getElem?_cons_succ, List.getElem?_eq_getElem hjr]; rfl
      have hm : rs[j] ∈ rs := List.getElem_mem _
      rw [e2, words_rowR (hr _ hm).1 fun x hx => by have := (hr _ hm).2 x hx; omega]
      simp only
      rw [if_pos (by
        unfold fitsR
        rw [if_neg (by simp)]
        simp
        intro c
        have := ((hr _ hm).2 _ c).1; omega)]
/-! ### turns -/
theorem putN_ok {l : List Nat} {row : List Int} (hrow : ∀ i, i < row.length → 0 ≤ row.getD i 0 ∧ row.getD i 0 < (l.length : Int) ∧ row.getD ((i + 1) % row.length) 0 = ((l.getD (row.getD i 0).toNat 0 : Nat) : Int)) (hnd : ∀ i j, i < row.length → j < row.length → row.getD i 0 = row.getD j 0 → i = j)
    {t : List Int} (ht : t.length = l.length) (hfree : ∀ i, i < row.length → t.getD (row.getD i 0).toNat 0 = -1) : ∀ i, i ≤ row.length → ∃ s, putN row l.length t i = some s ∧ s.length = l.length ∧
      ∀ x, x < l.length → s.getD x 0 = if ∃ j, j < i ∧ row.getD j 0 = (x : Int) then ((l.getD x 0 : Nat) : Int) else t.getD x 0
  | 0, _ => ⟨t, rfl, ht, fun x _ => by rw [if_neg (fun ⟨j, hj, _⟩ => by omega)]⟩
  | i + 1, hi => by
    obtain ⟨s, h1, h2, h3⟩ := putN_ok hrow hnd ht hfree i (by omega)
    obtain ⟨r0, r1, r2⟩ := hrow i (by omega)
    obtain ⟨x, hx⟩ : ∃ x : Nat, row.getD i 0 = (x : Int) := ⟨(row.getD i 0).toNat, by omega⟩
    have hxl : x < l.length := by omega
    have hs : s.getD x 0 = -1 := by
      rw [h3 x hxl, if_neg (fun ⟨j, hj, e⟩ => by have := hnd j i (by omega) (by omega) (by rw [e, hx]); omega)]
      have := hfree i (by omega)
      rw [hx] at this; exact this
    refine ⟨s.set x ((l.getD x 0 : Nat) : Int), ?_, by rw [List.length_set, h2], fun y hy => ?_⟩
    · unfold putN
      rw [h1]
      simp only
      rw [hx] at r2 ⊢
      rw [Int.toNat_natCast, if_neg (by
        rintro (c | c)
        · omega
        · exact c hs), r2, Int.toNat_natCast]
    · by_cases e : y = x
      · subst e
        rw [if_pos ⟨i, by omega, hx⟩, List.getD_eq_getElem?_getD, List.getElem?_set_self (by omega)]; rfl
      · rw [List.getD_eq_getElem?_getD, List.getElem?_set_ne (fun z => e z.symm), ← List.getD_eq_getElem?_getD, h3 y hy]
        by_cases c : ∃ j, j < i ∧ row.getD j 0 = (y : Int)
        · rw [if_pos c, if_pos (by obtain ⟨j, hj, e⟩ := c; exact ⟨j, by omega, e⟩)]
        · rw [if_neg c, if_neg (by
            rintro ⟨j, hj, e'⟩
            by_cases q : j = i
            · subst q; rw [hx] at e'; omega
            · exact c ⟨j, by omega, e'⟩)]
/-- Rows that are the turns of l, each dart once. -/
structure RowsOf (l : List Nat) (rs : List (List Int)) : Prop where
  turn : ∀ k, k < rs.length → ∀ i, i < (rs.getD k []).length → 0 ≤ (rs.getD k []).getD i 0 ∧ (rs.getD k []).getD i 0 < (l.length : Int) ∧ (rs.getD k []).getD ((i + 1) % (rs.getD k []).length) 0 = ((l.getD ((rs.getD k []).getD i 0).toNat 0 : Nat) : Int)
  once : ∀ k k' i i', k < rs.length → k' < rs.length → i < (rs.getD k []).length → i' < (rs.getD k' []).length → (rs.getD k []).getD i 0 = (rs.getD k' []).getD i' 0 → k = k' ∧ i = i'
  all : ∀ x, x < l.length → ∃ k i, k < rs.length ∧ i < (rs.getD k []).length ∧ (rs.getD k []).getD i 0 = (x : Int)
  sum : sumTo rs rs.length = l.length
open Classical in
theorem rows_turns {l : List Nat} {rs : List (List Int)} (h : RowsOf l rs) (he : l.length % 2 = 0) : turnsR rs ((l.length / 2 : Nat) : Int) = some (ofN l) := by
  have key : ∀ k, k ≤ rs.length → ∃ s, putR rs l.length k = some s ∧ s.length = l.length ∧ ∀ x, x < l.length → s.getD x 0 = if ∃ j i, j < k ∧ i < (rs.getD j []).length ∧ (rs.getD j []).getD i 0 = (x : Int) then ((l.getD x 0 : Nat) : Int) else -1 := fun k => by
    induction k with
    | zero =>
      intro _
      refine ⟨_, rfl, by simp, fun x hx => ?_⟩
      rw [if_neg (fun ⟨j, _, hj, _⟩ => by omega), List.getD_eq_getElem?_getD]
      simp [hx]
    | succ k ih =>
      intro hk
      obtain ⟨t, h1, h2, h3⟩ := ih (by omega)
      obtain ⟨s, g1, g2, g3⟩ := putN_ok (l := l) (h.turn k (by omega)) (fun i j hi hj e => (h.once k k i j (by omega) (by omega) hi hj e).2) h2 (fun i hi => by
        have hr := h.turn k (by omega) i hi
        rw [h3 _ (by omega), if_neg]
        rintro ⟨j, i', hj, hi', e⟩
        have := h.once j k i' i (by omega) (by omega) hi' hi (by rw [e]; omega)
        omega) (rs.getD k []).length (Nat.le_refl _)
      refine ⟨s, by unfold putR; rw [h1]; exact g1, g2, fun x hx => ?_⟩
      rw [g3 x hx, h3 x hx]
      by_cases c : ∃ j, j < (rs.getD k []).length ∧ (rs.getD k []).getD j 0 = (x : Int)
      · rw [if_pos c, if_pos (by obtain ⟨j, hj, e⟩ := c; exact ⟨k, j, by omega, hj, e⟩)]
      · rw [if_neg c]
        by_cases d : ∃ j i, j < k ∧ i < (rs.getD j []).length ∧ (rs.getD j []).getD i 0 = (x : Int)
        · rw [if_pos d, if_pos (by obtain ⟨j, i, hj, r⟩ := d; exact ⟨j, i, by omega, r⟩)]
        · rw [if_neg d, if_neg (by
            rintro ⟨j, i, hj, hi, e⟩
            by_cases q : j = k
            · subst q; exact c ⟨i, hi, e⟩
            · exact d ⟨j, i, by omega, hi, e⟩)]
  unfold turnsR
  rw [h.sum, if_pos (by omega)]
  obtain ⟨s, h1, h2, h3⟩ := key rs.length (Nat.le_refl _)
  rw [h1]
  congr 1
  apply List.ext_getElem
  · rw [h2, ofN_len]
  · intro x hx1 hx2
    have hx : x < l.length := by rw [h2] at hx1; exact hx1
    have e := h3 x hx
    rw [if_pos (by obtain ⟨k, i, a, b, c⟩ := h.all x hx; exact ⟨k, i, a, b, c⟩), List.getD_eq_getElem?_getD, List.getElem?_eq_getElem hx1] at e
    have e2 := ofN_get l x
    rw [List.getD_eq_getElem?_getD, List.getElem?_eq_getElem hx2] at e2
    exact e.trans e2.symm
end Go.Proofs.YtohlkhffljjodaaDoor
