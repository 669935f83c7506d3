/- Lines in another order, each from another dart on; a text's lines, byte by byte. -/
import Derived.Test.YtohlkhffljjodaaDoorZRPrints
import Derived.Lib.ConvBytes
namespace Go.Proofs.YtohlkhffljjodaaDoor
set_option linter.unusedVariables false
set_option maxRecDepth 20000
theorem getD_set_self {l : List Nat} {i v : Nat} (h : i < l.length) : (l.set i v).getD i 0 = v := by
  rw [List.getD_eq_getElem?_getD, List.getElem?_set_self h]; rfl
theorem getD_set_other {l : List Nat} {i j v : Nat} (h : i ≠ j) : (l.set i v).getD j 0 = l.getD j 0 := by
  rw [List.getD_eq_getElem?_getD, List.getElem?_set_ne h, ← List.getD_eq_getElem?_getD]
theorem sum_set (f : Nat → Nat) : ∀ (M : List Nat) (i a : Nat), i < M.length → ((M.set i a).map f).sum + f (M.getD i 0) = (M.map f).sum + f a
  | [], i, _, h => by simp at h
  | x :: M, 0, a, _ => by simp; omega
  | x :: M, i + 1, a, h => by
    have := sum_set f M i a (by simpa using h)
    simp at this ⊢; omega
theorem Reps.swap {l D : List Nat} (R : Reps l D) {i k : Nat} (hi : i < D.length) (hk : k < D.length) : Reps l ((D.set i (D.getD k 0)).set k (D.getD i 0)) := by
  have len : ((D.set i (D.getD k 0)).set k (D.getD i 0)).length = D.length := by simp
  let sw : Nat → Nat := fun j => if j = k then i else if j = i then k else j
  have swl : ∀ j, j < D.length → sw j < D.length := fun j hj => by show (if j = k then i else if j = i then k else j) < _; split <;> (try split) <;> assumption
  have get : ∀ j, j < D.length → ((D.set i (D.getD k 0)).set k (D.getD i 0)).getD j 0 = D.getD (sw j) 0 := fun j hj => by
    show _ = D.getD (if j = k then i else if j = i then k else j) 0
    by_cases c : j = k
    · subst c; rw [if_pos rfl, getD_set_self (by simpa using hj)]
    · rw [if_neg c, getD_set_other (Ne.symm c)]
      by_cases d : j = i
      · subst d; rw [if_pos rfl, getD_set_self hj]
      · rw [if_neg d, getD_set_other (Ne.symm d)]
  have swi : ∀ a b, a < D.length → b < D.length → sw a = sw b → a = b := fun a b _ _ e => by
    have e : (if a = k then i else if a = i then k else a) = (if b = k then i else if b = i then k else b) := e
    repeat' split at e
    all_goals omega
  have sws : ∀ j, sw (sw j) = j := fun j => by
    show (if (if j = k then i else if j = i then k else j) = k then i else if (if j = k then i else if j = i then k else j) = i then k else (if j = k then i else if j = i then k else j)) = j
    repeat' split
    all_goals omega
  refine ⟨fun j hj => ?_, fun a b ha hb e => ?_, fun x hx => ?_, ?_⟩
  · rw [len] at hj; rw [get j hj]; exact R.lt _ (swl j hj)
  · rw [len] at ha hb
    rw [get a ha, get b hb] at e
    exact swi a b ha hb (R.apart _ _ (swl a ha) (swl b hb) e)
  · obtain ⟨j, hj, e⟩ := R.all x hx
    exact ⟨sw j, by rw [len]; exact swl j hj, by rw [get _ (swl j hj), sws]; exact e⟩
  · have s1 := sum_set (fun d => (orb l d).length) D i (D.getD k 0) hi
    have s2 := sum_set (fun d => (orb l d).length) (D.set i (D.getD k 0)) k (D.getD i 0) (by simpa using hk)
    have e : (D.set i (D.getD k 0)).getD k 0 = D.getD k 0 := by
      by_cases c : i = k
      · subst c; exact getD_set_self hi
      · exact getD_set_other c
    rw [e] at s2
    have := R.sum
    omega
theorem per_orb {l b : List Nat} (h : Inv l b) {i x : Nat} (hi : i < l.length) (hx : x ∈ orb l i) : per l x = per l i := by
  obtain ⟨j, hj⟩ := (mem_orb h hi).1 hx
  have hxl := orb_lt h hi hx
  have hp := per_is h hi
  refine per_unique (per_is h hxl) ⟨hp.1, ?_, fun m m1 m2 e => ?_⟩
  · rw [← hj, ← it_add, Nat.add_comm, it_add, hp.2.1]
  · rw [← hj, ← it_add, Nat.add_comm, it_add] at e
    exact hp.2.2 m m1 m2 (it_inj h (it_lt h hi m) hi j e)
theorem orb_len_eq {l b : List Nat} (h : Inv l b) {i x : Nat} (hi : i < l.length) (hx : x ∈ orb l i) : (orb l x).length = (orb l i).length := by
  unfold orb; rw [way_len, way_len]; exact per_orb h hi hx
theorem Reps.rot {l b D E : List Nat} (h : Inv l b) (R : Reps l D) (hl : E.length = D.length) (hE : ∀ i, i < D.length → E.getD i 0 ∈ orb l (D.getD i 0)) : Reps l E := by
  have lt : ∀ i, i < D.length → E.getD i 0 < l.length := fun i hi => orb_lt h (R.lt i hi) (hE i hi)
  refine ⟨fun i hi => lt i (by omega), fun i j hi hj e => ?_, fun x hx => ?_, ?_⟩
  · rw [hl] at hi hj
    refine R.apart i j hi hj ?_
    have e1 := orb_trans h (R.lt i hi) (hE i hi) e
    exact orb_trans h (R.lt i hi) e1 (orb_symm h (R.lt j hj) (hE j hj))
  · obtain ⟨i, hi, e⟩ := R.all x hx
    exact ⟨i, by omega, orb_trans h (lt i hi) (orb_symm h (R.lt i hi) (hE i hi)) e⟩
  · rw [← R.sum]
    congr 1
    apply List.ext_getElem
    · simp [hl]
    · intro i h1 h2
      have hi : i < D.length := by simpa using h2
      have hi' : i < E.length := by simpa using h1
      have := orb_len_eq h (R.lt i hi) (hE i hi)
      rw [List.getD_eq_getElem?_getD, List.getD_eq_getElem?_getD, List.getElem?_eq_getElem hi, List.getElem?_eq_getElem hi'] at this
      simpa using this
theorem orb_next {l b : List Nat} (h : Inv l b) {d : Nat} (hd : d < l.length) : orb l (l.getD d 0) = (orb l d).drop 1 ++ [d] := by
  have hm : l.getD d 0 ∈ orb l d := (mem_orb h hd).2 ⟨1, rfl⟩
  have hp := per_is h hd
  have hlen := orb_len_eq h hd hm
  have hpl : (orb l d).length = per l d := by unfold orb; rw [way_len]
  have hnl := h.lt d hd
  have hpos := orb_pos h hd
  refine getD_ext (by rw [hlen, List.length_append, List.length_drop]; simp; omega) fun i hi => ?_
  rw [hlen] at hi
  rw [orb_getD h hnl i (by rw [hlen]; exact hi)]
  have e1 : it l i (l.getD d 0) = it l (i + 1) d := (it_add l 1 d i).symm
  rw [e1]
  by_cases c : i + 1 < (orb l d).length
  · rw [List.getD_eq_getElem?_getD, List.getElem?_append_left (by rw [List.length_drop]; omega), List.getElem?_drop, Nat.add_comm 1 i, ← List.getD_eq_getElem?_getD, orb_getD h hd _ c]
  · rw [List.getD_eq_getElem?_getD, List.getElem?_append_right (by rw [List.length_drop]; omega), List.length_drop, show i - ((orb l d).length - 1) = 0 by omega]
    show it l (i + 1) d = d
    rw [show i + 1 = per l d by omega]; exact hp.2.1
theorem orb_head {l b : List Nat} (h : Inv l b) {d : Nat} (hd : d < l.length) : ∃ r, orb l d = d :: r := by
  have hp := orb_pos h hd
  cases e : orb l d with
  | nil => rw [e] at hp; simp at hp
  | cons x r =>
    have := orb_getD h hd 0 hp
    rw [e] at this
    exact ⟨r, by rw [show x = d from this]⟩
/-- A line turned at its first blank: from the next dart on. -/
theorem words_turn {l b : List Nat} (h : Inv l b) {d : Nat} (hd : d < l.length) : ((orb l d).length = 1 ∧ orb l (l.getD d 0) = orb l d ∧ wordsB (ofN (orb l d)) = decB (d : Int)) ∨
    ∃ r, r ≠ [] ∧ wordsB (ofN (orb l d)) = decB (d : Int) ++ 32 :: r ∧ wordsB (ofN (orb l (l.getD d 0))) = r ++ 32 :: decB (d : Int) := by
  obtain ⟨r, hr⟩ := orb_head h hd
  have hn := orb_next h hd
  rw [hr] at hn ⊢
  cases r with
  | nil => exact .inl ⟨rfl, by rw [hn]; rfl, rfl⟩
  | cons y s =>
    refine .inr ⟨wordsB (ofN (y :: s)), ?_, rfl, ?_⟩
    · intro e
      have hy : (decD y).length ≤ (wordsB (ofN (y :: s))).length := by
        cases s with
        | nil => show _ ≤ (decB (y : Int)).length; rw [decB_nat]; exact Nat.le_refl _
        | cons z t => show _ ≤ (decB (y : Int) ++ 32 :: wordsB (ofN (z :: t))).length; rw [decB_nat, List.length_append]; omega
      rw [e] at hy
      exact (decD_facts y).2.2.1 (List.eq_nil_of_length_eq_zero (by simpa using hy))
    · rw [hn]
      show wordsB (ofN ((y :: s) ++ [d])) = _
      rw [ofN_append]
      exact wordsB_snoc _ _ (by simp [ofN])
/-! ### a text, byte by byte -/
theorem split_snoc (c b : Int) : ∀ (x : List Int) (done : List (List Int)) (cur : List Int), splitL c x = done ++ [cur] → splitL c (x ++ [b]) = if b = c then done ++ [cur] ++ [[]] else done ++ [cur ++ [b]]
  | [], done, cur, h => by
    have h' : ([[]] : List (List Int)) = done ++ [cur] := h
    have hd : done = [] := by
      cases done with
      | nil => rfl
      | cons a r => simp at h'
    subst hd
    have hc : cur = [] := by simpa using h'.symm
    subst hc
    show splitL c [b] = _
    rw [splitL_cons]
    rfl
  | a :: x, done, cur, h => by
    have ih := split_snoc c b x
    show splitL c (a :: (x ++ [b])) = _
    rw [splitL_cons] at h ⊢
    by_cases e : a = c
    · rw [if_pos e] at h ⊢
      cases done with
      | nil =>
        have := splitL_ne c x
        simp at h
        exact absurd h.2 this
      | cons d0 done =>
        simp only [List.cons_append, List.cons.injEq] at h
        rw [ih done cur h.2, h.1]
        split <;> rfl
    · rw [if_neg e] at h ⊢
      cases hs : splitL c x with
      | nil => exact absurd hs (splitL_ne c x)
      | cons y r =>
        rw [hs] at h
        simp only [headL] at h
        cases done with
        | nil =>
          simp only [List.nil_append, List.cons.injEq] at h
          obtain ⟨h1, rfl⟩ := h
          rw [ih [] y (by rw [hs]; rfl), ← h1]
          split <;> rfl
        | cons d0 done =>
          simp only [List.cons_append, List.cons.injEq] at h
          obtain ⟨h1, rfl⟩ := h
          rw [ih (y :: done) cur (by rw [hs]; rfl), ← h1]
          split <;> rfl
open Go.RowKit in
/-- A string's bytes, in new memory. -/
theorem conv_str (tx : List Int) (h : Byt tx) (hl : tx.length ≤ maxLen) (w : World) : ∃ (W' : World) (c : Nat), (convert 9 22 (.string (strOfNums tx))).run Tryd.prog w = .ok (.slice (some ⟨w.heap.size, 0, none⟩) tx.length c) W' ∧ tx.length ≤ c ∧ c ≤ maxLen ∧ Below w.heap.size w W' ∧ w.heap.size + 1 = W'.heap.size ∧
    Rd W' W'.heap.size (some ⟨w.heap.size, 0, none⟩) tx.length (Z8 tx) := by
  have hr := Lib.run_convert_string_bytes (P := Tryd.prog) w 9 22 5 (strOfNums tx) Tryd.underlying9 Tryd.underlying22 Tryd.underlying5
  rw [strOfNums_size] at hr
  refine ⟨_, _, hr, grownCap_ge _ _ _ _, grownCap_le_maxLen _ _ _ _ hl, ⟨?_, ?_, ?_, ?_, fun k hk => Lib.bytesWorld_at_old w _ _ k hk⟩, (Lib.bytesWorld_size w _ _).symm, ⟨Z8_len tx, fun _ => ⟨_, 0, rfl, by rw [Lib.bytesWorld_size]; omega, fun j hj => ?_⟩⟩⟩
  · rfl
  · rfl
  · rfl
  · rw [Lib.bytesWorld_size]; omega
  · rw [Z8_len] at hj
    rw [Nat.zero_add, Lib.bytesWorld_cell w _ _ j (by rw [strOfNums_size]; exact hj), Z8_get]
    congr 2
    rw [strOfNums_data, List.getD_eq_getElem?_getD, List.getElem?_map, List.getElem?_eq_getElem hj]
    have := h _ (List.getElem_mem hj)
    show ((UInt8.ofNat (tx[j]).toNat).toNat : Int) = tx[j]
    rw [UInt8.toNat_ofNat']
    omega
end Go.Proofs.YtohlkhffljjodaaDoor
