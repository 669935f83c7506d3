/- Plain mathematics of the code: spans that are doubled, what goes out, and what a reader of it finds; no program in sight. -/

namespace Go.Proofs.Ytcefohjddbjcjaa
set_option linter.unusedVariables false

/-- Which way a span is doubled, if it is. -/
def wayOf (lo hi : Nat) : Option Nat :=
  if hi < 2147483648 then some 0 else if 2147483648 ≤ lo then some 2 else if 1073741824 ≤ lo ∧ hi < 3221225472 then some 1 else none
def dbl (x w : Nat) : Nat := 2 * (x - w * 1073741824)
theorem wayOf_le {lo hi w : Nat} (h : wayOf lo hi = some w) (hl : lo ≤ hi) : w ≤ 2 ∧ w * 1073741824 ≤ lo ∧ (hi < 4294967296 → hi < w * 1073741824 + 2147483648) := by
  unfold wayOf at h
  split at h
  · have e := Option.some.inj h; exact ⟨by omega, by omega, by omega⟩
  · split at h
    · have e := Option.some.inj h; exact ⟨by omega, by omega, by omega⟩
    · split at h
      · have e := Option.some.inj h; exact ⟨by omega, by omega, by omega⟩
      · cases h
theorem wayOf_none {lo hi : Nat} (h : wayOf lo hi = none) : lo < 2147483648 ∧ 2147483648 ≤ hi ∧ (lo < 1073741824 ∨ 3221225472 ≤ hi) := by
  unfold wayOf at h
  split at h
  · cases h
  · split at h
    · cases h
    · split at h
      · cases h
      · omega
/-- All the ways that a span is doubled, one behind the other, and the span in the end. -/
def wid : Nat → Nat → Nat → List Nat × Nat × Nat
  | 0, lo, hi => ([], lo, hi)
  | f + 1, lo, hi => match wayOf lo hi with
    | none => ([], lo, hi)
    | some w => (w :: (wid f (dbl lo w) (dbl hi w + 1)).1, (wid f (dbl lo w) (dbl hi w + 1)).2)
theorem wid_none {f lo hi : Nat} (h : wayOf lo hi = none) : wid f lo hi = ([], lo, hi) := by
  cases f with
  | zero => rfl
  | succ f => simp only [wid, h]
theorem wid_some {f lo hi w : Nat} (h : wayOf lo hi = some w) : wid (f + 1) lo hi = (w :: (wid f (dbl lo w) (dbl hi w + 1)).1, (wid f (dbl lo w) (dbl hi w + 1)).2) := by
  simp only [wid, h]
/-- So much is left to double. -/
def Left (f lo hi : Nat) : Prop := lo ≤ hi ∧ hi < 4294967296 ∧ 8589934592 ≤ (hi - lo + 1) * 2 ^ f
theorem Left.pos {f lo hi : Nat} (h : Left f lo hi) : 0 < f := by
  obtain ⟨h1, h2, h3⟩ := h
  rcases Nat.eq_zero_or_pos f with rfl | hf
  · omega
  · exact hf
theorem Left.step {f lo hi w : Nat} (h : Left (f + 1) lo hi) (hw : wayOf lo hi = some w) : Left f (dbl lo w) (dbl hi w + 1) := by
  obtain ⟨h1, h2, h3⟩ := h
  obtain ⟨w1, w2, w3⟩ := wayOf_le hw h1
  have w3 := w3 h2
  have hd : dbl hi w + 1 - dbl lo w + 1 = 2 * (hi - lo + 1) := by unfold dbl; omega
  refine ⟨by unfold dbl; omega, by unfold dbl; omega, ?_⟩
  rw [hd, show 2 * (hi - lo + 1) * 2 ^ f = (hi - lo + 1) * 2 ^ (f + 1) by rw [Nat.pow_succ, Nat.mul_comm 2, Nat.mul_assoc, Nat.mul_comm 2]]
  exact h3
theorem Left.start {lo hi : Nat} (h : lo ≤ hi) (h2 : hi < 4294967296) : Left 33 lo hi := ⟨h, h2, by omega⟩
/-- The end of it. -/
theorem wid_end : ∀ (f lo hi : Nat), Left f lo hi → wayOf (wid f lo hi).2.1 (wid f lo hi).2.2 = none ∧ (wid f lo hi).2.1 ≤ (wid f lo hi).2.2 ∧ (wid f lo hi).2.2 < 4294967296 ∧ (∀ w ∈ (wid f lo hi).1, w ≤ 2) ∧ (wid f lo hi).1.length ≤ f
  | 0, lo, hi, h => absurd h.pos (by omega)
  | f + 1, lo, hi, h => by
    cases hw : wayOf lo hi with
    | none =>
      rw [wid_none hw]
      exact ⟨hw, h.1, h.2.1, (fun w hw' => by cases hw'), by simp⟩
    | some w =>
      have ih := wid_end f _ _ (h.step hw)
      rw [wid_some hw]
      refine ⟨ih.1, ih.2.1, ih.2.2.1, fun x hx => ?_, by simp; exact ih.2.2.2.2⟩
      rcases List.mem_cons.1 hx with rfl | hx
      · exact (wayOf_le hw h.1).1
      · exact ih.2.2.2.1 x hx

/-- The middle of a span. -/
def midOf (lo hi z o : Nat) : Nat := lo + (hi - lo + 1) * z / (z + o) - 1
theorem mid_in {lo hi z o : Nat} (h : wayOf lo hi = none) (hz : 1 ≤ z) (ho : 1 ≤ o) (hs : z + o < 65536) :
    1 ≤ (hi - lo + 1) * z / (z + o) ∧ lo ≤ midOf lo hi z o ∧ midOf lo hi z o < hi := by
  have hn := wayOf_none h
  have h1 : 1 ≤ (hi - lo + 1) * z / (z + o) := by
    rw [Nat.le_div_iff_mul_le (by omega), Nat.one_mul]
    refine Nat.le_trans ?_ (Nat.mul_le_mul_left _ hz)
    omega
  have h2 : (hi - lo + 1) * z / (z + o) < hi - lo + 1 := by
    rw [Nat.div_lt_iff_lt_mul (by omega)]
    exact Nat.mul_lt_mul_of_pos_left (by omega) (by omega)
  unfold midOf
  generalize (hi - lo + 1) * z / (z + o) = x at *
  omega

/-- What the coder knows behind some bits. -/
structure Es where
  lo : Nat
  hi : Nat
  ways : List Nat
  zs : List Nat
  os : List Nat
  c : Nat
def halve (z o x : Nat) : Nat := if z + o = 65536 then (x + 1) / 2 else x
def Es.z (s : Es) : Nat := s.zs.getD s.c 0
def Es.o (s : Es) : Nat := s.os.getD s.c 0
def Es.mid (s : Es) : Nat := midOf s.lo s.hi s.z s.o
def nLo (s : Es) (b : Nat) : Nat := if b = 0 then s.lo else s.mid + 1
def nHi (s : Es) (b : Nat) : Nat := if b = 0 then s.mid else s.hi
def upZ (s : Es) (b : Nat) : Nat := if b = 0 then s.z + 1 else s.z
def upO (s : Es) (b : Nat) : Nat := if b = 0 then s.o else s.o + 1
def estep (k : Nat) (s : Es) (b : Nat) : Es :=
  ⟨(wid 33 (nLo s b) (nHi s b)).2.1, (wid 33 (nLo s b) (nHi s b)).2.2, s.ways ++ (wid 33 (nLo s b) (nHi s b)).1,
    s.zs.set s.c (halve (upZ s b) (upO s b) (upZ s b)), s.os.set s.c (halve (upZ s b) (upO s b) (upO s b)), (2 * s.c + b) % 2 ^ k⟩
def e0 (k : Nat) : Es := ⟨0, 4294967295, [], List.replicate (2 ^ k) 1, List.replicate (2 ^ k) 1, 0⟩
def est (k : Nat) (l : List Nat) : Es := l.foldl (estep k) (e0 k)
theorem est_nil (k : Nat) : est k [] = e0 k := rfl
theorem est_snoc (k : Nat) (l : List Nat) (b : Nat) : est k (l ++ [b]) = estep k (est k l) b := by simp [est]
structure Ei (k : Nat) (s : Es) : Prop where
  none_ : wayOf s.lo s.hi = none
  le : s.lo ≤ s.hi
  lt : s.hi < 4294967296
  lz : s.zs.length = 2 ^ k
  lo_ : s.os.length = 2 ^ k
  cl : s.c < 2 ^ k
  zp : ∀ i, i < 2 ^ k → 1 ≤ s.zs.getD i 0
  op : ∀ i, i < 2 ^ k → 1 ≤ s.os.getD i 0
  sum : ∀ i, i < 2 ^ k → s.zs.getD i 0 + s.os.getD i 0 < 65536
  ws : ∀ w ∈ s.ways, w ≤ 2
theorem getD_rep (n i x : Nat) (h : i < n) : (List.replicate n x).getD i 0 = x := by
  simp [List.getD_eq_getElem?_getD, List.getElem?_replicate, h]
theorem getD_setN (y : List Nat) (k j v : Nat) (hk : k < y.length) : (y.set k v).getD j 0 = if j = k then v else y.getD j 0 := by
  rw [List.getD_eq_getElem?_getD, List.getD_eq_getElem?_getD, List.getElem?_set]
  by_cases h : k = j
  · subst h; simp [hk]
  · simp [h, Ne.symm h]
theorem e0_ok (k : Nat) : Ei k (e0 k) := by
  refine ⟨(by decide : wayOf 0 4294967295 = none), (by decide : 0 ≤ 4294967295), (by decide : 4294967295 < 4294967296), by simp [e0], by simp [e0], Nat.two_pow_pos k, fun i h => ?_, fun i h => ?_, fun i h => ?_, fun w h => by cases h⟩
  · show 1 ≤ (List.replicate (2 ^ k) 1).getD i 0
    rw [getD_rep _ _ _ h]; omega
  · show 1 ≤ (List.replicate (2 ^ k) 1).getD i 0
    rw [getD_rep _ _ _ h]; omega
  · show (List.replicate (2 ^ k) 1).getD i 0 + (List.replicate (2 ^ k) 1).getD i 0 < 65536
    rw [getD_rep _ _ _ h]; omega
theorem Ei.mid_in {k : Nat} {s : Es} (h : Ei k s) : 1 ≤ (s.hi - s.lo + 1) * s.z / (s.z + s.o) ∧ s.lo ≤ s.mid ∧ s.mid < s.hi :=
  Go.Proofs.Ytcefohjddbjcjaa.mid_in h.none_ (h.zp _ h.cl) (h.op _ h.cl) (h.sum _ h.cl)
theorem Ei.narrow {k : Nat} {s : Es} (h : Ei k s) (b : Nat) : nLo s b ≤ nHi s b ∧ nHi s b < 4294967296 ∧ s.lo ≤ nLo s b ∧ nHi s b ≤ s.hi := by
  obtain ⟨m0, m1, m2⟩ := h.mid_in
  have := h.lt
  unfold nLo nHi
  split <;> omega
theorem halve_in {z o : Nat} (hz : 1 ≤ z) (ho : 1 ≤ o) (h : z + o ≤ 65536) : 1 ≤ halve z o z ∧ 1 ≤ halve z o o ∧ halve z o z + halve z o o < 65536 := by
  unfold halve
  split <;> omega
theorem Ei.up {k : Nat} {s : Es} (h : Ei k s) (b : Nat) : 1 ≤ upZ s b ∧ 1 ≤ upO s b ∧ upZ s b + upO s b ≤ 65536 := by
  have h1 : 1 ≤ s.z := h.zp _ h.cl
  have h2 : 1 ≤ s.o := h.op _ h.cl
  have h3 : s.z + s.o < 65536 := h.sum _ h.cl
  unfold upZ upO
  split <;> omega
theorem Ei.step {k : Nat} {s : Es} (h : Ei k s) (b : Nat) : Ei k (estep k s b) := by
  obtain ⟨n1, n2, n3, n4⟩ := h.narrow b
  have we := wid_end 33 _ _ (Left.start n1 n2)
  obtain ⟨u1, u2, u3⟩ := h.up b
  obtain ⟨v1, v2, v3⟩ := halve_in u1 u2 u3
  refine ⟨we.1, we.2.1, we.2.2.1, by simp [estep, h.lz], by simp [estep, h.lo_], Nat.mod_lt _ (Nat.two_pow_pos k), fun i hi => ?_, fun i hi => ?_, fun i hi => ?_, fun w hw => ?_⟩
  · show 1 ≤ (s.zs.set s.c _).getD i 0
    rw [getD_setN _ _ _ _ (by rw [h.lz]; exact h.cl)]
    split
    · exact v1
    · exact h.zp i hi
  · show 1 ≤ (s.os.set s.c _).getD i 0
    rw [getD_setN _ _ _ _ (by rw [h.lo_]; exact h.cl)]
    split
    · exact v2
    · exact h.op i hi
  · show (s.zs.set s.c _).getD i 0 + (s.os.set s.c _).getD i 0 < 65536
    rw [getD_setN _ _ _ _ (by rw [h.lz]; exact h.cl), getD_setN _ _ _ _ (by rw [h.lo_]; exact h.cl)]
    split
    · exact v3
    · exact h.sum i hi
  · rcases List.mem_append.1 hw with hw | hw
    · exact h.ws w hw
    · exact we.2.2.2.1 w hw
theorem est_ok (k : Nat) (l : List Nat) : Ei k (est k l) := by
  suffices ∀ s, Ei k s → Ei k (l.foldl (estep k) s) from this _ (e0_ok k)
  induction l with
  | nil => exact fun s h => h
  | cons b l ih => exact fun s h => ih _ (h.step b)
theorem est_ways (k : Nat) (l : List Nat) : (est k l).ways.length ≤ 33 * l.length := by
  suffices ∀ s, Ei k s → (l.foldl (estep k) s).ways.length ≤ s.ways.length + 33 * l.length by
    have := this _ (e0_ok k)
    simpa [e0, est] using this
  induction l with
  | nil => intro s _; simp
  | cons b l ih =>
    intro s h
    have h1 := ih _ (h.step b)
    obtain ⟨n1, n2, _, _⟩ := h.narrow b
    have h2 := (wid_end 33 _ _ (Left.start n1 n2)).2.2.2.2
    have h3 : (estep k s b).ways.length = s.ways.length + (wid 33 (nLo s b) (nHi s b)).1.length := by simp [estep]
    simp only [List.foldl_cons, List.length_cons]
    omega

/-- What goes out at a doubling: bits, and how many wait. -/
def tellE (s : List Nat × Nat) (w : Nat) : List Nat × Nat :=
  if w = 0 then (s.1 ++ 0 :: List.replicate s.2 1, 0) else if w = 2 then (s.1 ++ 1 :: List.replicate s.2 0, 0) else (s.1, s.2 + 1)
def outs (ws : List Nat) : List Nat × Nat := ws.foldl tellE ([], 0)
theorem outs_snoc (ws : List Nat) (w : Nat) : outs (ws ++ [w]) = tellE (outs ws) w := by simp [outs]
def fin (t : List Nat × Nat) (lo : Nat) : List Nat := if lo < 1073741824 then t.1 ++ 0 :: List.replicate (t.2 + 1) 1 else t.1 ++ 1 :: List.replicate (t.2 + 1) 0
/-- The code. -/
def codeOf (k : Nat) (l : List Nat) : List Nat := fin (outs (est k l).ways) (est k l).lo
theorem tellE_len (s : List Nat × Nat) (w : Nat) : (tellE s w).1.length + (tellE s w).2 = s.1.length + s.2 + 1 := by
  unfold tellE
  split
  · simp; omega
  · split
    · simp; omega
    · simp; omega
theorem outs_len (ws : List Nat) : (outs ws).1.length + (outs ws).2 = ws.length := by
  suffices ∀ s, (ws.foldl tellE s).1.length + (ws.foldl tellE s).2 = s.1.length + s.2 + ws.length by simpa [outs] using this ([], 0)
  induction ws with
  | nil => intro s; simp
  | cons w ws ih => intro s; simp only [List.foldl_cons, List.length_cons]; rw [ih, tellE_len]; omega
theorem code_len (k : Nat) (l : List Nat) : (codeOf k l).length = (est k l).ways.length + 2 := by
  have := outs_len (est k l).ways
  unfold codeOf fin
  split <;> simp <;> omega
def BinB (l : List Nat) : Prop := ∀ b ∈ l, b < 2
theorem BinB.append {l m : List Nat} (h : BinB l) (k : BinB m) : BinB (l ++ m) := fun x hx => by
  rcases List.mem_append.1 hx with hx | hx
  · exact h x hx
  · exact k x hx
theorem BinB.one {b : Nat} (n c : Nat) (hb : b < 2) (hc : c < 2) : BinB (b :: List.replicate n c) := fun x hx => by
  rcases List.mem_cons.1 hx with rfl | hx
  · exact hb
  · rw [(List.mem_replicate.1 hx).2]; exact hc
theorem outs_bin (ws : List Nat) : BinB (outs ws).1 := by
  suffices ∀ s : List Nat × Nat, BinB s.1 → BinB (ws.foldl tellE s).1 from this _ (fun x hx => by cases hx)
  induction ws with
  | nil => exact fun s h => h
  | cons w ws ih =>
    refine fun s h => ih _ ?_
    unfold tellE
    split
    · exact h.append (.one _ _ (by omega) (by omega))
    · split
      · exact h.append (.one _ _ (by omega) (by omega))
      · exact h
theorem code_bin (k : Nat) (l : List Nat) : BinB (codeOf k l) := by
  unfold codeOf fin
  split
  · exact (outs_bin _).append (.one _ _ (by omega) (by omega))
  · exact (outs_bin _).append (.one _ _ (by omega) (by omega))

/-- Bits as a number, the first one the highest. -/
def M (l : List Nat) : Nat := l.foldl (fun a b => 2 * a + b) 0
theorem M_snoc (l : List Nat) (b : Nat) : M (l ++ [b]) = 2 * M l + b := by simp [M]
theorem M_ones (l : List Nat) : ∀ n, M (l ++ List.replicate n 1) + 1 = (M l + 1) * 2 ^ n
  | 0 => by simp
  | n + 1 => by
    have ih := M_ones l n
    rw [List.replicate_succ', ← List.append_assoc, M_snoc, Nat.pow_succ, ← Nat.mul_assoc, ← ih]
    omega
theorem M_zeros (l : List Nat) : ∀ n, M (l ++ List.replicate n 0) = M l * 2 ^ n
  | 0 => by simp
  | n + 1 => by
    have ih := M_zeros l n
    rw [List.replicate_succ', ← List.append_assoc, M_snoc, Nat.pow_succ, ← Nat.mul_assoc, ← ih]
    omega
theorem M_low (l : List Nat) (n : Nat) : M (l ++ 0 :: List.replicate n 1) + 1 = (2 * M l + 1) * 2 ^ n := by
  have := M_ones (l ++ [0]) n
  rw [M_snoc] at this
  simpa using this
theorem M_high (l : List Nat) (n : Nat) : M (l ++ 1 :: List.replicate n 0) = (2 * M l + 1) * 2 ^ n := by
  have := M_zeros (l ++ [1]) n
  rw [M_snoc] at this
  simpa using this
/-- How far the numbers have gone. -/
def S (ws : List Nat) : Nat := ws.foldl (fun a w => 2 * a + w) 0
theorem S_snoc (ws : List Nat) (w : Nat) : S (ws ++ [w]) = 2 * S ws + w := by simp [S]
theorem snoc_ind {α : Type} {P : List α → Prop} (h0 : P []) (h1 : ∀ l b, P l → P (l ++ [b])) (l : List α) : P l := by
  rw [← List.reverse_reverse l]
  induction l.reverse with
  | nil => exact h0
  | cons b r ih => rw [List.reverse_cons]; exact h1 _ b ih
theorem outs_S (ws : List Nat) : (∀ w ∈ ws, w ≤ 2) → S ws + 1 = (2 * M (outs ws).1 + 1) * 2 ^ (outs ws).2 := by
  induction ws using snoc_ind with
  | h0 => intro _; rfl
  | h1 ws w ih =>
    intro h
    have ih := ih fun x hx => h x (List.mem_append_left _ hx)
    have hw : w ≤ 2 := h w (by simp)
    rw [S_snoc, outs_snoc]
    unfold tellE
    generalize (outs ws).1 = O at *
    generalize (outs ws).2 = m at *
    split
    · subst w
      have := M_low O m
      simp only [Nat.pow_zero, Nat.mul_one]
      omega
    · split
      · subst w
        have := M_high O m
        simp only [Nat.pow_zero, Nat.mul_one]
        omega
      · obtain rfl : w = 1 := by omega
        simp only [Nat.pow_succ, ← Nat.mul_assoc]
        omega
def endOf (lo : Nat) : Nat := if lo < 1073741824 then 1 else 2
theorem code_M (k : Nat) (l : List Nat) : M (codeOf k l) = 2 * S (est k l).ways + endOf (est k l).lo := by
  have h := outs_S (est k l).ways (est_ok k l).ws
  unfold codeOf fin endOf
  generalize (outs (est k l).ways).1 = O at *
  generalize (outs (est k l).ways).2 = m at *
  split
  · have := M_low O (m + 1)
    rw [Nat.pow_succ, ← Nat.mul_assoc] at this
    omega
  · have := M_high O (m + 1)
    rw [Nat.pow_succ, ← Nat.mul_assoc] at this
    omega

/-- The first m bits of a code as a number; behind it stand noughts. -/
def top (C : List Nat) : Nat → Nat
  | 0 => 0
  | m + 1 => 2 * top C m + C.getD m 0
theorem top_take (C : List Nat) : ∀ m, m ≤ C.length → top C m = M (C.take m)
  | 0, _ => rfl
  | m + 1, h => by
    rw [top, top_take C m (by omega), List.take_succ_eq_append_getElem (by omega), M_snoc]
    simp [List.getD_eq_getElem?_getD, List.getElem?_eq_getElem (show m < C.length by omega)]
theorem top_all (C : List Nat) : top C C.length = M C := by rw [top_take C _ (Nat.le_refl _), List.take_length]
theorem top_up (C : List Nat) (h : BinB C) (m : Nat) : ∀ j, top C m * 2 ^ j ≤ top C (m + j) ∧ top C (m + j) < (top C m + 1) * 2 ^ j
  | 0 => by simp
  | j + 1 => by
    obtain ⟨h1, h2⟩ := top_up C h m j
    have hb : C.getD (m + j) 0 < 2 := by
      by_cases hj : m + j < C.length
      · rw [List.getD_eq_getElem?_getD, List.getElem?_eq_getElem hj]; exact h _ (List.getElem_mem hj)
      · rw [List.getD_eq_getElem?_getD, List.getElem?_eq_none (by omega)]; decide
    rw [← Nat.add_assoc, top, Nat.pow_succ, ← Nat.mul_assoc, ← Nat.mul_assoc]
    omega
theorem top_over (C : List Nat) : ∀ j, top C (C.length + j) = M C * 2 ^ j
  | 0 => by simp [top_all]
  | j + 1 => by
    rw [← Nat.add_assoc, top, top_over C j, List.getD_eq_getElem?_getD, List.getElem?_eq_none (by omega), Nat.pow_succ, ← Nat.mul_assoc (M C)]
    generalize M C * 2 ^ j = x
    simp only [Option.getD_none]
    omega
theorem top_floor (C : List Nat) (h : BinB C) (m : Nat) : top C m * 2 ^ C.length ≤ M C * 2 ^ m ∧ M C * 2 ^ m < (top C m + 1) * 2 ^ C.length := by
  rcases Nat.le_total m C.length with hm | hm
  · obtain ⟨j, hj⟩ := Nat.exists_eq_add_of_le hm
    have h1 := top_up C h m j
    rw [← hj, top_all] at h1
    rw [hj, Nat.pow_add, Nat.mul_comm (2 ^ m), ← Nat.mul_assoc, ← Nat.mul_assoc]
    exact ⟨Nat.mul_le_mul_right _ h1.1, Nat.mul_lt_mul_of_pos_right h1.2 (Nat.two_pow_pos m)⟩
  · obtain ⟨j, hj⟩ := Nat.exists_eq_add_of_le hm
    rw [hj, top_over, Nat.pow_add, Nat.mul_assoc, Nat.mul_comm (2 ^ j)]
    refine ⟨Nat.le_refl _, ?_⟩
    have : 0 < 2 ^ C.length := Nat.two_pow_pos _
    rw [Nat.add_mul, Nat.mul_assoc, Nat.mul_comm (2 ^ j)]
    omega
/-- The code's number lies within a span, d doublings in. -/
def Nst (Y n lo hi S d : Nat) : Prop := (lo + 2147483648 * S) * 2 ^ n ≤ Y * 2 ^ (32 + d) ∧ Y * 2 ^ (32 + d) < (hi + 1 + 2147483648 * S) * 2 ^ n
theorem Nst.wide {Y n lo hi lo' hi' S d : Nat} (h : Nst Y n lo' hi' S d) (h1 : lo ≤ lo') (h2 : hi' ≤ hi) : Nst Y n lo hi S d :=
  ⟨Nat.le_trans (Nat.mul_le_mul_right _ (by omega)) h.1, Nat.lt_of_lt_of_le h.2 (Nat.mul_le_mul_right _ (by omega))⟩
theorem Nst.undbl {Y n lo hi S d w : Nat} (h : Nst Y n (dbl lo w) (dbl hi w + 1) (2 * S + w) (d + 1)) (hl : w * 1073741824 ≤ lo) (hh : lo ≤ hi) : Nst Y n lo hi S d := by
  obtain ⟨h1, h2⟩ := h
  have e1 : dbl lo w + 2147483648 * (2 * S + w) = 2 * (lo + 2147483648 * S) := by unfold dbl; omega
  have e2 : dbl hi w + 1 + 1 + 2147483648 * (2 * S + w) = 2 * (hi + 1 + 2147483648 * S) := by unfold dbl; omega
  have e3 : Y * 2 ^ (32 + (d + 1)) = 2 * (Y * 2 ^ (32 + d)) := by rw [← Nat.add_assoc, Nat.pow_succ, ← Nat.mul_assoc, Nat.mul_comm _ 2]
  rw [e1, e3, Nat.mul_assoc] at h1
  rw [e2, e3, Nat.mul_assoc] at h2
  exact ⟨by omega, by omega⟩
theorem Nst.unwid {Y n : Nat} : ∀ (f lo hi : Nat) (ws : List Nat), Left f lo hi → Nst Y n (wid f lo hi).2.1 (wid f lo hi).2.2 (S (ws ++ (wid f lo hi).1)) (ws ++ (wid f lo hi).1).length → Nst Y n lo hi (S ws) ws.length
  | 0, lo, hi, ws, hl, h => absurd hl.pos (by omega)
  | f + 1, lo, hi, ws, hl, h => by
    cases hw : wayOf lo hi with
    | none => rw [wid_none hw] at h; simpa using h
    | some w =>
      rw [wid_some hw] at h
      have := Nst.unwid f _ _ (ws ++ [w]) (hl.step hw) (by simpa using h)
      rw [S_snoc, List.length_append] at this
      exact this.undbl (wayOf_le hw hl.1).2.1 hl.1
theorem Nst.last (k : Nat) (l : List Nat) : Nst (M (codeOf k l)) (codeOf k l).length (est k l).lo (est k l).hi (S (est k l).ways) (est k l).ways.length := by
  have hn := wayOf_none (est_ok k l).none_
  unfold Nst
  rw [code_M, code_len, show 32 + (est k l).ways.length = 30 + ((est k l).ways.length + 2) by omega, Nat.pow_add _ 30, ← Nat.mul_assoc]
  unfold endOf
  have hp : 0 < 2 ^ ((est k l).ways.length + 2) := Nat.two_pow_pos _
  generalize 2 ^ ((est k l).ways.length + 2) = P at *
  refine ⟨Nat.mul_le_mul_right _ ?_, Nat.mul_lt_mul_of_pos_right ?_ hp⟩
  · split <;> omega
  · split <;> omega
theorem Nst.narrowed (k : Nat) (l u r : List Nat) (b : Nat) (h : l = u ++ b :: r) :
    Nst (M (codeOf k l)) (codeOf k l).length (nLo (est k u) b) (nHi (est k u) b) (S (est k u).ways) (est k u).ways.length := by
  induction r generalizing u b with
  | nil =>
    have hl := Nst.last k l
    obtain ⟨n1, n2, _, _⟩ := (est_ok k u).narrow b
    rw [show est k l = estep k (est k u) b by rw [h, est_snoc]] at hl
    exact Nst.unwid 33 _ _ _ (Left.start n1 n2) hl
  | cons b' r ih =>
    have h2 := ih (u ++ [b]) b' (by rw [h]; simp)
    obtain ⟨_, _, n3, n4⟩ := (est_ok k (u ++ [b])).narrow b'
    have h3 := h2.wide n3 n4
    obtain ⟨n1, n2, _, _⟩ := (est_ok k u).narrow b
    rw [est_snoc] at h3
    exact Nst.unwid 33 _ _ _ (Left.start n1 n2) h3
theorem Nst.top {C : List Nat} (hb : BinB C) {lo hi S d : Nat} (h : Nst (M C) C.length lo hi S d) : lo + 2147483648 * S ≤ top C (32 + d) ∧ top C (32 + d) ≤ hi + 2147483648 * S := by
  obtain ⟨f1, f2⟩ := top_floor C hb (32 + d)
  have h1 := Nat.lt_of_mul_lt_mul_right (Nat.lt_of_le_of_lt h.1 f2)
  have h2 := Nat.lt_of_mul_lt_mul_right (Nat.lt_of_le_of_lt f1 h.2)
  omega

/-- What a reader's number is, d doublings in; it wraps. -/
def valD (C ws : List Nat) : Nat := (((top C (32 + ws.length) : Nat) : Int) - ((2147483648 * S ws : Nat) : Int)) % 18446744073709551616 |>.toNat
theorem valD_int (C ws : List Nat) : ((valD C ws : Nat) : Int) = (((top C (32 + ws.length) : Nat) : Int) - ((2147483648 * S ws : Nat) : Int)) % 18446744073709551616 := by
  unfold valD
  rw [Int.toNat_of_nonneg (Int.emod_nonneg _ (by decide))]
theorem valD_lt (C ws : List Nat) : valD C ws < 18446744073709551616 := by
  have := valD_int C ws
  have h2 := Int.emod_lt_of_pos (((top C (32 + ws.length) : Nat) : Int) - ((2147483648 * S ws : Nat) : Int)) (show (0 : Int) < 18446744073709551616 by decide)
  omega
theorem valD_nil (C : List Nat) (h : BinB C) : valD C [] = top C 32 := by
  have h0 : ((valD C [] : Nat) : Int) = (((top C 32 : Nat) : Int) - ((2147483648 * 0 : Nat) : Int)) % 18446744073709551616 := valD_int C []
  have h1 : top C (0 + 32) < (0 + 1) * 2 ^ 32 := (top_up C h 0 32).2
  rw [Nat.zero_add] at h1
  generalize top C 32 = T at *
  omega
theorem valD_snoc (C ws : List Nat) (w : Nat) :
    ((valD C (ws ++ [w]) : Nat) : Int) = (2 * (((valD C ws : Nat) : Int) - (w : Int) * 1073741824) + ((C.getD (32 + ws.length) 0 : Nat) : Int)) % 18446744073709551616 := by
  rw [valD_int, valD_int, List.length_append, S_snoc]
  simp only [List.length_cons, List.length_nil, Nat.zero_add, ← Nat.add_assoc, top]
  generalize C.getD (32 + ws.length) 0 = y
  generalize top C (32 + ws.length) = T
  generalize S ws = s
  have hd := Int.emod_add_mul_ediv ((T : Int) - ((2147483648 * s : Nat) : Int)) 18446744073709551616
  generalize ((T : Int) - ((2147483648 * s : Nat) : Int)) / 18446744073709551616 = q at *
  generalize hr : ((T : Int) - ((2147483648 * s : Nat) : Int)) % 18446744073709551616 = r at *
  rw [show ((2 * T + y : Nat) : Int) - ((2147483648 * (2 * s + w) : Nat) : Int) = (2 * (r - (w : Int) * 1073741824) + (y : Int)) + 18446744073709551616 * (2 * q) by omega, Int.add_mul_emod_self_left]
/-- The reader's bits: each is what its number says. -/
def Dec (C : List Nat) (k : Nat) (u : List Nat) : Prop := ∀ v b r, u = v ++ b :: r → b = if (est k v).mid < valD C (est k v).ways then 1 else 0
theorem Dec.nil (C : List Nat) (k : Nat) : Dec C k [] := fun v b r h => by simp at h
theorem Dec.snoc {C : List Nat} {k : Nat} {u : List Nat} (h : Dec C k u) {b : Nat} (hb : b = if (est k u).mid < valD C (est k u).ways then 1 else 0) : Dec C k (u ++ [b]) := fun v b' r e => by
  rcases r.eq_nil_or_concat with rfl | ⟨r', x, rfl⟩
  · rw [List.append_inj_left' e (by simp)] at hb
    have : [b] = [b'] := List.append_inj_right' e (by simp)
    simp at this
    rw [← this]; exact hb
  · rw [List.concat_eq_append, ← List.cons_append, ← List.append_assoc] at e
    exact h v b' r' (List.append_inj_left' e (by simp))
theorem Dec.of (k : Nat) (l : List Nat) (hb : BinB l) : Dec (codeOf k l) k l := fun v b r e => by
  have h := (Nst.narrowed k l v r b e).top (code_bin k l)
  have hm := (est_ok k v).mid_in
  have hlt := (est_ok k v).lt
  have hv := valD_int (codeOf k l) (est k v).ways
  have h2 : b < 2 := hb b (by rw [e]; simp)
  unfold nLo nHi at h
  generalize valD (codeOf k l) (est k v).ways = x at *
  generalize top (codeOf k l) (32 + (est k v).ways.length) = T at *
  generalize S (est k v).ways = s at *
  have hx : (x : Int) = (T : Int) - ((2147483648 * s : Nat) : Int) := by
    rw [hv]
    apply Int.emod_eq_of_lt
    · split at h <;> omega
    · split at h <;> omega
  clear hv
  by_cases hb0 : b = 0
  · rw [if_pos hb0, if_pos hb0] at h
    rw [if_neg (by omega)]; exact hb0
  · rw [if_neg hb0, if_neg hb0] at h
    rw [if_pos (by omega)]; omega
theorem Dec.same {C : List Nat} {k : Nat} {u l : List Nat} (h : Dec C k u) (h2 : Dec C k l) (hl : u.length ≤ l.length) : u = l.take u.length := by
  suffices ∀ n, n ≤ u.length → u.take n = l.take n by
    have := this _ (Nat.le_refl _)
    rwa [List.take_length] at this
  intro n
  induction n with
  | zero => intro _; simp
  | succ n ih =>
    intro hn
    have e := ih (by omega)
    have a1 := h (u.take n) u[n] (u.drop (n + 1)) (by simp)
    have a2 := h2 (l.take n) l[n] (l.drop (n + 1)) (by simp)
    rw [e] at a1
    rw [List.take_succ_eq_append_getElem (by omega), List.take_succ_eq_append_getElem (by omega), e, a1, a2]
theorem code_inj {k : Nat} {a b : List Nat} (ha : BinB a) (hb : BinB b) (hl : a.length = b.length) (h : codeOf k a = codeOf k b) : a = b := by
  have h1 := Dec.of k a ha
  have h2 := Dec.of k b hb
  rw [h] at h1
  have := h1.same h2 (by omega)
  rwa [hl, List.take_length] at this
theorem est_ways_take (k : Nat) (l : List Nat) (n : Nat) : (est k (l.take n)).ways.length ≤ (est k l).ways.length := by
  suffices ∀ (m : List Nat) (s : Es), s.ways.length ≤ (m.foldl (estep k) s).ways.length by
    have h := this (l.drop n) (est k (l.take n))
    have e : est k l = (l.drop n).foldl (estep k) (est k (l.take n)) := by
      unfold est
      rw [← List.foldl_append, List.take_append_drop]
    rwa [← e] at h
  intro m
  induction m with
  | nil => intro s; exact Nat.le_refl _
  | cons b m ih => intro s; refine Nat.le_trans ?_ (ih _); simp [estep]
end Go.Proofs.Ytcefohjddbjcjaa
