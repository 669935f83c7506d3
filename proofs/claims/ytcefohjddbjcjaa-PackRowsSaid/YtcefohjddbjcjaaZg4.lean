/- Plain mathematics of the code: spans that are doubled, what goes out, and what a reader of it finds; no program in sight. Spans: made, parted, left; the counts of a context. The middle of a span; where a way to double takes a number. The model: counts of contexts, two cells each. The model learns a bit. -/
import Derived.Test.YtcefohjddbjcjaaZg3
import Derived.Deep.RegionWith
import Derived.Deep.RegionHeld3
import Derived.Deep.LoopGhost
import Derived.Deep.CutRange
import Derived.BigRegion
namespace Go.Proofs.Ytcefohjddbjcjaa
set_option linter.unusedVariables false

/-- Which way a span is doubled, if it is. -/
def wayOf (lo hi : Nat) : Option Nat :=
  if hi < 2147483648 then some 0 else if 2147483648 ≤ lo then some 2 else if 1073741824 ≤ lo ∧ hi < 3221225472 then some 1 else none
def dbl (x w : Nat) : Nat := 2 * (x - w * 1073741824)
theorem wayOf_le {lo hi w : Nat} (h : wayOf lo hi = some w) (hl : lo ≤ hi) : w ≤ 2 ∧ w * 1073741824 ≤ lo ∧ (hi < 4294967296 → hi < w * 1073741824 + 2147483648) := by
  unfold wayOf at h
  split at h
  · have e := Option.some.inj h; exact ⟨by omega, by omega, by omega⟩
  · split at h
    · have e := Option.some.inj h; exact ⟨by omega, by omega, by omega⟩
    · split at h
      · have e := Option.some.inj h; exact ⟨by omega, by omega, by omega⟩
      · cases h
theorem wayOf_none {lo hi : Nat} (h : wayOf lo hi = none) : lo < 2147483648 ∧ 2147483648 ≤ hi ∧ (lo < 1073741824 ∨ 3221225472 ≤ hi) := by
  unfold wayOf at h
  split at h
  · cases h
  · split at h
    · cases h
    · split at h
      · cases h
      · omega
/-- All the ways that a span is doubled, one behind the other, and the span in the end. -/
def wid : Nat → Nat → Nat → List Nat × Nat × Nat
  | 0, lo, hi => ([], lo, hi)
  | f + 1, lo, hi => match wayOf lo hi with
    | none => ([], lo, hi)
    | some w => (w :: (wid f (dbl lo w) (dbl hi w + 1)).1, (wid f (dbl lo w) (dbl hi w + 1)).2)
theorem wid_none {f lo hi : Nat} (h : wayOf lo hi = none) : wid f lo hi = ([], lo, hi) := by
  cases f with
  | zero => rfl
  | succ f => simp only [wid, h]
theorem wid_some {f lo hi w : Nat} (h : wayOf lo hi = some w) : wid (f + 1) lo hi = (w :: (wid f (dbl lo w) (dbl hi w + 1)).1, (wid f (dbl lo w) (dbl hi w + 1)).2) := by
  simp only [wid, h]
/-- So much is left to double. -/
def Left (f lo hi : Nat) : Prop := lo ≤ hi ∧ hi < 4294967296 ∧ 8589934592 ≤ (hi - lo + 1) * 2 ^ f
theorem Left.pos {f lo hi : Nat} (h : Left f lo hi) : 0 < f := by
  obtain ⟨h1, h2, h3⟩ := h
  rcases Nat.eq_zero_or_pos f with rfl | hf
  · omega
  · exact hf
theorem Left.step {f lo hi w : Nat} (h : Left (f + 1) lo hi) (hw : wayOf lo hi = some w) : Left f (dbl lo w) (dbl hi w + 1) := by
  obtain ⟨h1, h2, h3⟩ := h
  obtain ⟨w1, w2, w3⟩ := wayOf_le hw h1
  have w3 := w3 h2
  have hd : dbl hi w + 1 - dbl lo w + 1 = 2 * (hi - lo + 1) := by unfold dbl; omega
  refine ⟨by unfold dbl; omega, by unfold dbl; omega, ?_⟩
  rw [hd, show 2 * (hi - lo + 1) * 2 ^ f = (hi - lo + 1) * 2 ^ (f + 1) by rw [Nat.pow_succ, Nat.mul_comm 2, Nat.mul_assoc, Nat.mul_comm 2]]
  exact h3
theorem Left.start {lo hi : Nat} (h : lo ≤ hi) (h2 : hi < 4294967296) : Left 33 lo hi := ⟨h, h2, by omega⟩
/-- The end of it. -/
theorem wid_end : ∀ (f lo hi : Nat), Left f lo hi → wayOf (wid f lo hi).2.1 (wid f lo hi).2.2 = none ∧ (wid f lo hi).2.1 ≤ (wid f lo hi).2.2 ∧ (wid f lo hi).2.2 < 4294967296 ∧ (∀ w ∈ (wid f lo hi).1, w ≤ 2) ∧ (wid f lo hi).1.length ≤ f
  | 0, lo, hi, h => absurd h.pos (by omega)
  | f + 1, lo, hi, h => by
    cases hw : wayOf lo hi with
    | none =>
      rw [wid_none hw]
      exact ⟨hw, h.1, h.2.1, (fun w hw' => by cases hw'), by simp⟩
    | some w =>
      have ih := wid_end f _ _ (h.step hw)
      rw [wid_some hw]
      refine ⟨ih.1, ih.2.1, ih.2.2.1, fun x hx => ?_, by simp; exact ih.2.2.2.2⟩
      rcases List.mem_cons.1 hx with rfl | hx
      · exact (wayOf_le hw h.1).1
      · exact ih.2.2.2.1 x hx

/-- The middle of a span. -/
def midOf (lo hi z o : Nat) : Nat := lo + (hi - lo + 1) * z / (z + o) - 1
theorem mid_in {lo hi z o : Nat} (h : wayOf lo hi = none) (hz : 1 ≤ z) (ho : 1 ≤ o) (hs : z + o < 65536) :
    1 ≤ (hi - lo + 1) * z / (z + o) ∧ lo ≤ midOf lo hi z o ∧ midOf lo hi z o < hi := by
  have hn := wayOf_none h
  have h1 : 1 ≤ (hi - lo + 1) * z / (z + o) := by
    rw [Nat.le_div_iff_mul_le (by omega), Nat.one_mul]
    refine Nat.le_trans ?_ (Nat.mul_le_mul_left _ hz)
    omega
  have h2 : (hi - lo + 1) * z / (z + o) < hi - lo + 1 := by
    rw [Nat.div_lt_iff_lt_mul (by omega)]
    exact Nat.mul_lt_mul_of_pos_left (by omega) (by omega)
  unfold midOf
  generalize (hi - lo + 1) * z / (z + o) = x at *
  omega

/-- What the coder knows behind some bits. -/
structure Es where
  lo : Nat
  hi : Nat
  ways : List Nat
  zs : List Nat
  os : List Nat
  c : Nat
def halve (z o x : Nat) : Nat := if z + o = 65536 then (x + 1) / 2 else x
def Es.z (s : Es) : Nat := s.zs.getD s.c 0
def Es.o (s : Es) : Nat := s.os.getD s.c 0
def Es.mid (s : Es) : Nat := midOf s.lo s.hi s.z s.o
def nLo (s : Es) (b : Nat) : Nat := if b = 0 then s.lo else s.mid + 1
def nHi (s : Es) (b : Nat) : Nat := if b = 0 then s.mid else s.hi
def upZ (s : Es) (b : Nat) : Nat := if b = 0 then s.z + 1 else s.z
def upO (s : Es) (b : Nat) : Nat := if b = 0 then s.o else s.o + 1
def estep (k : Nat) (s : Es) (b : Nat) : Es :=
  ⟨(wid 33 (nLo s b) (nHi s b)).2.1, (wid 33 (nLo s b) (nHi s b)).2.2, s.ways ++ (wid 33 (nLo s b) (nHi s b)).1,
    s.zs.set s.c (halve (upZ s b) (upO s b) (upZ s b)), s.os.set s.c (halve (upZ s b) (upO s b) (upO s b)), (2 * s.c + b) % 2 ^ k⟩
def e0 (k : Nat) : Es := ⟨0, 4294967295, [], List.replicate (2 ^ k) 1, List.replicate (2 ^ k) 1, 0⟩
def est (k : Nat) (l : List Nat) : Es := l.foldl (estep k) (e0 k)
theorem est_nil (k : Nat) : est k [] = e0 k := rfl
theorem est_snoc (k : Nat) (l : List Nat) (b : Nat) : est k (l ++ [b]) = estep k (est k l) b := by simp [est]
structure Ei (k : Nat) (s : Es) : Prop where
  none_ : wayOf s.lo s.hi = none
  le : s.lo ≤ s.hi
  lt : s.hi < 4294967296
  lz : s.zs.length = 2 ^ k
  lo_ : s.os.length = 2 ^ k
  cl : s.c < 2 ^ k
  zp : ∀ i, i < 2 ^ k → 1 ≤ s.zs.getD i 0
  op : ∀ i, i < 2 ^ k → 1 ≤ s.os.getD i 0
  sum : ∀ i, i < 2 ^ k → s.zs.getD i 0 + s.os.getD i 0 < 65536
  ws : ∀ w ∈ s.ways, w ≤ 2
theorem getD_rep (n i x : Nat) (h : i < n) : (List.replicate n x).getD i 0 = x := by
  simp [List.getD_eq_getElem?_getD, List.getElem?_replicate, h]
theorem getD_setN (y : List Nat) (k j v : Nat) (hk : k < y.length) : (y.set k v).getD j 0 = if j = k then v else y.getD j 0 := by
  rw [List.getD_eq_getElem?_getD, List.getD_eq_getElem?_getD, List.getElem?_set]
  by_cases h : k = j
  · subst h; simp [hk]
  · simp [h, Ne.symm h]
theorem e0_ok (k : Nat) : Ei k (e0 k) := by
  refine ⟨(by decide : wayOf 0 4294967295 = none), (by decide : 0 ≤ 4294967295), (by decide : 4294967295 < 4294967296), by simp [e0], by simp [e0], Nat.two_pow_pos k, fun i h => ?_, fun i h => ?_, fun i h => ?_, fun w h => by cases h⟩
  · show 1 ≤ (List.replicate (2 ^ k) 1).getD i 0
    rw [getD_rep _ _ _ h]; omega
  · show 1 ≤ (List.replicate (2 ^ k) 1).getD i 0
    rw [getD_rep _ _ _ h]; omega
  · show (List.replicate (2 ^ k) 1).getD i 0 + (List.replicate (2 ^ k) 1).getD i 0 < 65536
    rw [getD_rep _ _ _ h]; omega
theorem Ei.mid_in {k : Nat} {s : Es} (h : Ei k s) : 1 ≤ (s.hi - s.lo + 1) * s.z / (s.z + s.o) ∧ s.lo ≤ s.mid ∧ s.mid < s.hi :=
  Go.Proofs.Ytcefohjddbjcjaa.mid_in h.none_ (h.zp _ h.cl) (h.op _ h.cl) (h.sum _ h.cl)
theorem Ei.narrow {k : Nat} {s : Es} (h : Ei k s) (b : Nat) : nLo s b ≤ nHi s b ∧ nHi s b < 4294967296 ∧ s.lo ≤ nLo s b ∧ nHi s b ≤ s.hi := by
  obtain ⟨m0, m1, m2⟩ := h.mid_in
  have := h.lt
  unfold nLo nHi
  split <;> omega
theorem halve_in {z o : Nat} (hz : 1 ≤ z) (ho : 1 ≤ o) (h : z + o ≤ 65536) : 1 ≤ halve z o z ∧ 1 ≤ halve z o o ∧ halve z o z + halve z o o < 65536 := by
  unfold halve
  split <;> omega
theorem Ei.up {k : Nat} {s : Es} (h : Ei k s) (b : Nat) : 1 ≤ upZ s b ∧ 1 ≤ upO s b ∧ upZ s b + upO s b ≤ 65536 := by
  have h1 : 1 ≤ s.z := h.zp _ h.cl
  have h2 : 1 ≤ s.o := h.op _ h.cl
  have h3 : s.z + s.o < 65536 := h.sum _ h.cl
  unfold upZ upO
  split <;> omega
theorem Ei.step {k : Nat} {s : Es} (h : Ei k s) (b : Nat) : Ei k (estep k s b) := by
  obtain ⟨n1, n2, n3, n4⟩ := h.narrow b
  have we := wid_end 33 _ _ (Left.start n1 n2)
  obtain ⟨u1, u2, u3⟩ := h.up b
  obtain ⟨v1, v2, v3⟩ := halve_in u1 u2 u3
  refine ⟨we.1, we.2.1, we.2.2.1, by simp [estep, h.lz], by simp [estep, h.lo_], Nat.mod_lt _ (Nat.two_pow_pos k), fun i hi => ?_, fun i hi => ?_, fun i hi => ?_, fun w hw => ?_⟩
  · show 1 ≤ (s.zs.set s.c _).getD i 0
    rw [getD_setN _ _ _ _ (by rw [h.lz]; exact h.cl)]
    split
    · exact v1
    · exact h.zp i hi
  · show 1 ≤ (s.os.set s.c _).getD i 0
    rw [getD_setN _ _ _ _ (by rw [h.lo_]; exact h.cl)]
    split
    · exact v2
    · exact h.op i hi
  · show (s.zs.set s.c _).getD i 0 + (s.os.set s.c _).getD i 0 < 65536
    rw [getD_setN _ _ _ _ (by rw [h.lz]; exact h.cl), getD_setN _ _ _ _ (by rw [h.lo_]; exact h.cl)]
    split
    · exact v3
    · exact h.sum i hi
  · rcases List.mem_append.1 hw with hw | hw
    · exact h.ws w hw
    · exact we.2.2.2.1 w hw
theorem est_ok (k : Nat) (l : List Nat) : Ei k (est k l) := by
  suffices ∀ s, Ei k s → Ei k (l.foldl (estep k) s) from this _ (e0_ok k)
  induction l with
  | nil => exact fun s h => h
  | cons b l ih => exact fun s h => ih _ (h.step b)
theorem est_ways (k : Nat) (l : List Nat) : (est k l).ways.length ≤ 33 * l.length := by
  suffices ∀ s, Ei k s → (l.foldl (estep k) s).ways.length ≤ s.ways.length + 33 * l.length by
    have := this _ (e0_ok k)
    simpa [e0, est] using this
  induction l with
  | nil => intro s _; simp
  | cons b l ih =>
    intro s h
    have h1 := ih _ (h.step b)
    obtain ⟨n1, n2, _, _⟩ := h.narrow b
    have h2 := (wid_end 33 _ _ (Left.start n1 n2)).2.2.2.2
    have h3 : (estep k s b).ways.length = s.ways.length + (wid 33 (nLo s b) (nHi s b)).1.length := by simp [estep]
    simp only [List.foldl_cons, List.length_cons]
    omega

/-- What goes out at a doubling: bits, and how many wait. -/
def tellE (s : List Nat × Nat) (w : Nat) : List Nat × Nat :=
  if w = 0 then (s.1 ++ 0 :: List.replicate s.2 1, 0) else if w = 2 then (s.1 ++ 1 :: List.replicate s.2 0, 0) else (s.1, s.2 + 1)
def outs (ws : List Nat) : List Nat × Nat := ws.foldl tellE ([], 0)
theorem outs_snoc (ws : List Nat) (w : Nat) : outs (ws ++ [w]) = tellE (outs ws) w := by simp [outs]
def fin (t : List Nat × Nat) (lo : Nat) : List Nat := if lo < 1073741824 then t.1 ++ 0 :: List.replicate (t.2 + 1) 1 else t.1 ++ 1 :: List.replicate (t.2 + 1) 0
/-- The code. -/
def codeOf (k : Nat) (l : List Nat) : List Nat := fin (outs (est k l).ways) (est k l).lo
theorem tellE_len (s : List Nat × Nat) (w : Nat) : (tellE s w).1.length + (tellE s w).2 = s.1.length + s.2 + 1 := by
  unfold tellE
  split
  · simp; omega
  · split
    · simp; omega
    · simp; omega
theorem outs_len (ws : List Nat) : (outs ws).1.length + (outs ws).2 = ws.length := by
  suffices ∀ s, (ws.foldl tellE s).1.length + (ws.foldl tellE s).2 = s.1.length + s.2 + ws.length by simpa [outs] using this ([], 0)
  induction ws with
  | nil => intro s; simp
  | cons w ws ih => intro s; simp only [List.foldl_cons, List.length_cons]; rw [ih, tellE_len]; omega
theorem code_len (k : Nat) (l : List Nat) : (codeOf k l).length = (est k l).ways.length + 2 := by
  have := outs_len (est k l).ways
  unfold codeOf fin
  split <;> simp <;> omega
def BinB (l : List Nat) : Prop := ∀ b ∈ l, b < 2
theorem BinB.append {l m : List Nat} (h : BinB l) (k : BinB m) : BinB (l ++ m) := fun x hx => by
  rcases List.mem_append.1 hx with hx | hx
  · exact h x hx
  · exact k x hx
theorem BinB.one {b : Nat} (n c : Nat) (hb : b < 2) (hc : c < 2) : BinB (b :: List.replicate n c) := fun x hx => by
  rcases List.mem_cons.1 hx with rfl | hx
  · exact hb
  · rw [(List.mem_replicate.1 hx).2]; exact hc
theorem outs_bin (ws : List Nat) : BinB (outs ws).1 := by
  suffices ∀ s : List Nat × Nat, BinB s.1 → BinB (ws.foldl tellE s).1 from this _ (fun x hx => by cases hx)
  induction ws with
  | nil => exact fun s h => h
  | cons w ws ih =>
    refine fun s h => ih _ ?_
    unfold tellE
    split
    · exact h.append (.one _ _ (by omega) (by omega))
    · split
      · exact h.append (.one _ _ (by omega) (by omega))
      · exact h
theorem code_bin (k : Nat) (l : List Nat) : BinB (codeOf k l) := by
  unfold codeOf fin
  split
  · exact (outs_bin _).append (.one _ _ (by omega) (by omega))
  · exact (outs_bin _).append (.one _ _ (by omega) (by omega))

/-- Bits as a number, the first one the highest. -/
def M (l : List Nat) : Nat := l.foldl (fun a b => 2 * a + b) 0
theorem M_snoc (l : List Nat) (b : Nat) : M (l ++ [b]) = 2 * M l + b := by simp [M]
theorem M_ones (l : List Nat) : ∀ n, M (l ++ List.replicate n 1) + 1 = (M l + 1) * 2 ^ n
  | 0 => by simp
  | n + 1 => by
    have ih := M_ones l n
    rw [List.replicate_succ', ← List.append_assoc, M_snoc, Nat.pow_succ, ← Nat.mul_assoc, ← ih]
    omega
theorem M_zeros (l : List Nat) : ∀ n, M (l ++ List.replicate n 0) = M l * 2 ^ n
  | 0 => by simp
  | n + 1 => by
    have ih := M_zeros l n
    rw [List.replicate_succ', ← List.append_assoc, M_snoc, Nat.pow_succ, ← Nat.mul_assoc, ← ih]
    omega
theorem M_low (l : List Nat) (n : Nat) : M (l ++ 0 :: List.replicate n 1) + 1 = (2 * M l + 1) * 2 ^ n := by
  have := M_ones (l ++ [0]) n
  rw [M_snoc] at this
  simpa using this
theorem M_high (l : List Nat) (n : Nat) : M (l ++ 1 :: List.replicate n 0) = (2 * M l + 1) * 2 ^ n := by
  have := M_zeros (l ++ [1]) n
  rw [M_snoc] at this
  simpa using this
/-- How far the numbers have gone. -/
def S (ws : List Nat) : Nat := ws.foldl (fun a w => 2 * a + w) 0
theorem S_snoc (ws : List Nat) (w : Nat) : S (ws ++ [w]) = 2 * S ws + w := by simp [S]
theorem snoc_ind {α : Type} {P : List α → Prop} (h0 : P []) (h1 : ∀ l b, P l → P (l ++ [b])) (l : List α) : P l := by
  rw [← List.reverse_reverse l]
  induction l.reverse with
  | nil => exact h0
  | cons b r ih => rw [List.reverse_cons]; exact h1 _ b ih
theorem outs_S (ws : List Nat) : (∀ w ∈ ws, w ≤ 2) → S ws + 1 = (2 * M (outs ws).1 + 1) * 2 ^ (outs ws).2 := by
  induction ws using snoc_ind with
  | h0 => intro _; rfl
  | h1 ws w ih =>
    intro h
    have ih := ih fun x hx => h x (List.mem_append_left _ hx)
    have hw : w ≤ 2 := h w (by simp)
    rw [S_snoc, outs_snoc]
    unfold tellE
    generalize (outs ws).1 = O at *
    generalize (outs ws).2 = m at *
    split
    · subst w
      have := M_low O m
      simp only [Nat.pow_zero, Nat.mul_one]
      omega
    · split
      · subst w
        have := M_high O m
        simp only [Nat.pow_zero, Nat.mul_one]
        omega
      · obtain rfl : w = 1 := by omega
        simp only [Nat.pow_succ, ← Nat.mul_assoc]
        omega
def endOf (lo : Nat) : Nat := if lo < 1073741824 then 1 else 2
theorem code_M (k : Nat) (l : List Nat) : M (codeOf k l) = 2 * S (est k l).ways + endOf (est k l).lo := by
  have h := outs_S (est k l).ways (est_ok k l).ws
  unfold codeOf fin endOf
  generalize (outs (est k l).ways).1 = O at *
  generalize (outs (est k l).ways).2 = m at *
  split
  · have := M_low O (m + 1)
    rw [Nat.pow_succ, ← Nat.mul_assoc] at this
    omega
  · have := M_high O (m + 1)
    rw [Nat.pow_succ, ← Nat.mul_assoc] at this
    omega

/-- The first m bits of a code as a number; behind it stand noughts. -/
def top (C : List Nat) : Nat → Nat
  | 0 => 0
  | m + 1 => 2 * top C m + C.getD m 0
theorem top_take (C : List Nat) : ∀ m, m ≤ C.length → top C m = M (C.take m)
  | 0, _ => rfl
  | m + 1, h => by
    rw [top, top_take C m (by omega), List.take_succ_eq_append_getElem (by omega), M_snoc]
    simp [List.getD_eq_getElem?_getD, List.getElem?_eq_getElem (show m < C.length by omega)]
theorem top_all (C : List Nat) : top C C.length = M C := by rw [top_take C _ (Nat.le_refl _), List.take_length]
theorem top_up (C : List Nat) (h : BinB C) (m : Nat) : ∀ j, top C m * 2 ^ j ≤ top C (m + j) ∧ top C (m + j) < (top C m + 1) * 2 ^ j
  | 0 => by simp
  | j + 1 => by
    obtain ⟨h1, h2⟩ := top_up C h m j
    have hb : C.getD (m + j) 0 < 2 := by
      by_cases hj : m + j < C.length
      · rw [List.getD_eq_getElem?_getD, List.getElem?_eq_getElem hj]; exact h _ (List.getElem_mem hj)
      · rw [List.getD_eq_getElem?_getD, List.getElem?_eq_none (by omega)]; decide
    rw [← Nat.add_assoc, top, Nat.pow_succ, ← Nat.mul_assoc, ← Nat.mul_assoc]
    omega
theorem top_over (C : List Nat) : ∀ j, top C (C.length + j) = M C * 2 ^ j
  | 0 => by simp [top_all]
  | j + 1 => by
    rw [← Nat.add_assoc, top, top_over C j, List.getD_eq_getElem?_getD, List.getElem?_eq_none (by omega), Nat.pow_succ, ← Nat.mul_assoc (M C)]
    generalize M C * 2 ^ j = x
    simp only [Option.getD_none]
    omega
theorem top_floor (C : List Nat) (h : BinB C) (m : Nat) : top C m * 2 ^ C.length ≤ M C * 2 ^ m ∧ M C * 2 ^ m < (top C m + 1) * 2 ^ C.length := by
  rcases Nat.le_total m C.length with hm | hm
  · obtain ⟨j, hj⟩ := Nat.exists_eq_add_of_le hm
    have h1 := top_up C h m j
    rw [← hj, top_all] at h1
    rw [hj, Nat.pow_add, Nat.mul_comm (2 ^ m), ← Nat.mul_assoc, ← Nat.mul_assoc]
    exact ⟨Nat.mul_le_mul_right _ h1.1, Nat.mul_lt_mul_of_pos_right h1.2 (Nat.two_pow_pos m)⟩
  · obtain ⟨j, hj⟩ := Nat.exists_eq_add_of_le hm
    rw [hj, top_over, Nat.pow_add, Nat.mul_assoc, Nat.mul_comm (2 ^ j)]
    refine ⟨Nat.le_refl _, ?_⟩
    have : 0 < 2 ^ C.length := Nat.two_pow_pos _
    rw [Nat.add_mul, Nat.mul_assoc, Nat.mul_comm (2 ^ j)]
    omega
/-- The code's number lies within a span, d doublings in. -/
def Nst (Y n lo hi S d : Nat) : Prop := (lo + 2147483648 * S) * 2 ^ n ≤ Y * 2 ^ (32 + d) ∧ Y * 2 ^ (32 + d) < (hi + 1 + 2147483648 * S) * 2 ^ n
theorem Nst.wide {Y n lo hi lo' hi' S d : Nat} (h : Nst Y n lo' hi' S d) (h1 : lo ≤ lo') (h2 : hi' ≤ hi) : Nst Y n lo hi S d :=
  ⟨Nat.le_trans (Nat.mul_le_mul_right _ (by omega)) h.1, Nat.lt_of_lt_of_le h.2 (Nat.mul_le_mul_right _ (by omega))⟩
theorem Nst.undbl {Y n lo hi S d w : Nat} (h : Nst Y n (dbl lo w) (dbl hi w + 1) (2 * S + w) (d + 1)) (hl : w * 1073741824 ≤ lo) (hh : lo ≤ hi) : Nst Y n lo hi S d := by
  obtain ⟨h1, h2⟩ := h
  have e1 : dbl lo w + 2147483648 * (2 * S + w) = 2 * (lo + 2147483648 * S) := by unfold dbl; omega
  have e2 : dbl hi w + 1 + 1 + 2147483648 * (2 * S + w) = 2 * (hi + 1 + 2147483648 * S) := by unfold dbl; omega
  have e3 : Y * 2 ^ (32 + (d + 1)) = 2 * (Y * 2 ^ (32 + d)) := by rw [← Nat.add_assoc, Nat.pow_succ, ← Nat.mul_assoc, Nat.mul_comm _ 2]
  rw [e1, e3, Nat.mul_assoc] at h1
  rw [e2, e3, Nat.mul_assoc] at h2
  exact ⟨by omega, by omega⟩
theorem Nst.unwid {Y n : Nat} : ∀ (f lo hi : Nat) (ws : List Nat), Left f lo hi → Nst Y n (wid f lo hi).2.1 (wid f lo hi).2.2 (S (ws ++ (wid f lo hi).1)) (ws ++ (wid f lo hi).1).length → Nst Y n lo hi (S ws) ws.length
  | 0, lo, hi, ws, hl, h => absurd hl.pos (by omega)
  | f + 1, lo, hi, ws, hl, h => by
    cases hw : wayOf lo hi with
    | none => rw [wid_none hw] at h; simpa using h
    | some w =>
      rw [wid_some hw] at h
      have := Nst.unwid f _ _ (ws ++ [w]) (hl.step hw) (by simpa using h)
      rw [S_snoc, List.length_append] at this
      exact this.undbl (wayOf_le hw hl.1).2.1 hl.1
theorem Nst.last (k : Nat) (l : List Nat) : Nst (M (codeOf k l)) (codeOf k l).length (est k l).lo (est k l).hi (S (est k l).ways) (est k l).ways.length := by
  have hn := wayOf_none (est_ok k l).none_
  unfold Nst
  rw [code_M, code_len, show 32 + (est k l).ways.length = 30 + ((est k l).ways.length + 2) by omega, Nat.pow_add _ 30, ← Nat.mul_assoc]
  unfold endOf
  have hp : 0 < 2 ^ ((est k l).ways.length + 2) := Nat.two_pow_pos _
  generalize 2 ^ ((est k l).ways.length + 2) = P at *
  refine ⟨Nat.mul_le_mul_right _ ?_, Nat.mul_lt_mul_of_pos_right ?_ hp⟩
  · split <;> omega
  · split <;> omega
theorem Nst.narrowed (k : Nat) (l u r : List Nat) (b : Nat) (h : l = u ++ b :: r) :
    Nst (M (codeOf k l)) (codeOf k l).length (nLo (est k u) b) (nHi (est k u) b) (S (est k u).ways) (est k u).ways.length := by
  induction r generalizing u b with
  | nil =>
    have hl := Nst.last k l
    obtain ⟨n1, n2, _, _⟩ := (est_ok k u).narrow b
    rw [show est k l = estep k (est k u) b by rw [h, est_snoc]] at hl
    exact Nst.unwid 33 _ _ _ (Left.start n1 n2) hl
  | cons b' r ih =>
    have h2 := ih (u ++ [b]) b' (by rw [h]; simp)
    obtain ⟨_, _, n3, n4⟩ := (est_ok k (u ++ [b])).narrow b'
    have h3 := h2.wide n3 n4
    obtain ⟨n1, n2, _, _⟩ := (est_ok k u).narrow b
    rw [est_snoc] at h3
    exact Nst.unwid 33 _ _ _ (Left.start n1 n2) h3
theorem Nst.top {C : List Nat} (hb : BinB C) {lo hi S d : Nat} (h : Nst (M C) C.length lo hi S d) : lo + 2147483648 * S ≤ top C (32 + d) ∧ top C (32 + d) ≤ hi + 2147483648 * S := by
  obtain ⟨f1, f2⟩ := top_floor C hb (32 + d)
  have h1 := Nat.lt_of_mul_lt_mul_right (Nat.lt_of_le_of_lt h.1 f2)
  have h2 := Nat.lt_of_mul_lt_mul_right (Nat.lt_of_le_of_lt f1 h.2)
  omega

/-- What a reader's number is, d doublings in; it wraps. -/
def valD (C ws : List Nat) : Nat := (((top C (32 + ws.length) : Nat) : Int) - ((2147483648 * S ws : Nat) : Int)) % 18446744073709551616 |>.toNat
theorem valD_int (C ws : List Nat) : ((valD C ws : Nat) : Int) = (((top C (32 + ws.length) : Nat) : Int) - ((2147483648 * S ws : Nat) : Int)) % 18446744073709551616 := by
  unfold valD
  rw [Int.toNat_of_nonneg (Int.emod_nonneg _ (by decide))]
theorem valD_lt (C ws : List Nat) : valD C ws < 18446744073709551616 := by
  have := valD_int C ws
  have h2 := Int.emod_lt_of_pos (((top C (32 + ws.length) : Nat) : Int) - ((2147483648 * S ws : Nat) : Int)) (show (0 : Int) < 18446744073709551616 by decide)
  omega
theorem valD_nil (C : List Nat) (h : BinB C) : valD C [] = top C 32 := by
  have h0 : ((valD C [] : Nat) : Int) = (((top C 32 : Nat) : Int) - ((2147483648 * 0 : Nat) : Int)) % 18446744073709551616 := valD_int C []
  have h1 : top C (0 + 32) < (0 + 1) * 2 ^ 32 := (top_up C h 0 32).2
  rw [Nat.zero_add] at h1
  generalize top C 32 = T at *
  omega
theorem valD_snoc (C ws : List Nat) (w : Nat) :
    ((valD C (ws ++ [w]) : Nat) : Int) = (2 * (((valD C ws : Nat) : Int) - (w : Int) * 1073741824) + ((C.getD (32 + ws.length) 0 : Nat) : Int)) % 18446744073709551616 := by
  rw [valD_int, valD_int, List.length_append, S_snoc]
  simp only [List.length_cons, List.length_nil, Nat.zero_add, ← Nat.add_assoc, top]
  generalize C.getD (32 + ws.length) 0 = y
  generalize top C (32 + ws.length) = T
  generalize S ws = s
  have hd := Int.emod_add_mul_ediv ((T : Int) - ((2147483648 * s : Nat) : Int)) 18446744073709551616
  generalize ((T : Int) - ((2147483648 * s : Nat) : Int)) / 18446744073709551616 = q at *
  generalize hr : ((T : Int) - ((2147483648 * s : Nat) : Int)) % 18446744073709551616 = r at *
  rw [show ((2 * T + y : Nat) : Int) - ((2147483648 * (2 * s + w) : Nat) : Int) = (2 * (r - (w : Int) * 1073741824) + (y : Int)) + 18446744073709551616 * (2 * q) by omega, Int.add_mul_emod_self_left]
/-- The reader's bits: each is what its number says. -/
def Dec (C : List Nat) (k : Nat) (u : List Nat) : Prop := ∀ v b r, u = v ++ b :: r → b = if (est k v).mid < valD C (est k v).ways then 1 else 0
theorem Dec.nil (C : List Nat) (k : Nat) : Dec C k [] := fun v b r h => by simp at h
theorem Dec.snoc {C : List Nat} {k : Nat} {u : List Nat} (h : Dec C k u) {b : Nat} (hb : b = if (est k u).mid < valD C (est k u).ways then 1 else 0) : Dec C k (u ++ [b]) := fun v b' r e => by
  rcases r.eq_nil_or_concat with rfl | ⟨r', x, rfl⟩
  · rw [List.append_inj_left' e (by simp)] at hb
    have : [b] = [b'] := List.append_inj_right' e (by simp)
    simp at this
    rw [← this]; exact hb
  · rw [List.concat_eq_append, ← List.cons_append, ← List.append_assoc] at e
    exact h v b' r' (List.append_inj_left' e (by simp))
theorem Dec.of (k : Nat) (l : List Nat) (hb : BinB l) : Dec (codeOf k l) k l := fun v b r e => by
  have h := (Nst.narrowed k l v r b e).top (code_bin k l)
  have hm := (est_ok k v).mid_in
  have hlt := (est_ok k v).lt
  have hv := valD_int (codeOf k l) (est k v).ways
  have h2 : b < 2 := hb b (by rw [e]; simp)
  unfold nLo nHi at h
  generalize valD (codeOf k l) (est k v).ways = x at *
  generalize top (codeOf k l) (32 + (est k v).ways.length) = T at *
  generalize S (est k v).ways = s at *
  have hx : (x : Int) = (T : Int) - ((2147483648 * s : Nat) : Int) := by
    rw [hv]
    apply Int.emod_eq_of_lt
    · split at h <;> omega
    · split at h <;> omega
  clear hv
  by_cases hb0 : b = 0
  · rw [if_pos hb0, if_pos hb0] at h
    rw [if_neg (by omega)]; exact hb0
  · rw [if_neg hb0, if_neg hb0] at h
    rw [if_pos (by omega)]; omega
theorem Dec.same {C : List Nat} {k : Nat} {u l : List Nat} (h : Dec C k u) (h2 : Dec C k l) (hl : u.length ≤ l.length) : u = l.take u.length := by
  suffices ∀ n, n ≤ u.length → u.take n = l.take n by
    have := this _ (Nat.le_refl _)
    rwa [List.take_length] at this
  intro n
  induction n with
  | zero => intro _; simp
  | succ n ih =>
    intro hn
    have e := ih (by omega)
    have a1 := h (u.take n) u[n] (u.drop (n + 1)) (by simp)
    have a2 := h2 (l.take n) l[n] (l.drop (n + 1)) (by simp)
    rw [e] at a1
    rw [List.take_succ_eq_append_getElem (by omega), List.take_succ_eq_append_getElem (by omega), e, a1, a2]
theorem code_inj {k : Nat} {a b : List Nat} (ha : BinB a) (hb : BinB b) (hl : a.length = b.length) (h : codeOf k a = codeOf k b) : a = b := by
  have h1 := Dec.of k a ha
  have h2 := Dec.of k b hb
  rw [h] at h1
  have := h1.same h2 (by omega)
  rwa [hl, List.take_length] at this
theorem est_ways_take (k : Nat) (l : List Nat) (n : Nat) : (est k (l.take n)).ways.length ≤ (est k l).ways.length := by
  suffices ∀ (m : List Nat) (s : Es), s.ways.length ≤ (m.foldl (estep k) s).ways.length by
    have h := this (l.drop n) (est k (l.take n))
    have e : est k l = (l.drop n).foldl (estep k) (est k (l.take n)) := by
      unfold est
      rw [← List.foldl_append, List.take_append_drop]
    rwa [← e] at h
  intro m
  induction m with
  | nil => intro s; exact Nat.le_refl _
  | cons b m ih => intro s; refine Nat.le_trans ?_ (ih _); simp [estep]
end Go.Proofs.Ytcefohjddbjcjaa
namespace Go.Proofs.Ytcefohjddbjcjaa
set_option maxRecDepth 20000
open Go.RowKit
set_option linter.unusedVariables false

theorem isOrder_yes (k : Nat) (w : World) (h : k ≤ 8) :
    Calls Try.prog 41 #[.int .i64 (k : Int)] w fun e w' => e = .returned (.bool true) ∧ w = w' := by
  have h8 : (k : Int) ≤ 8 := by omega
  go_enter Try.func41, Try.ntmps41
  go_wp2
  go_ret
  exact ⟨rfl, rfl⟩
theorem isOrder_no (k : Int) (w : World) (h : k < 0 ∨ 8 < k) :
    Calls Try.prog 41 #[.int .i64 k] w fun e w' => e = .returned (.bool false) ∧ w = w' := by
  rcases h with h | h
  · have d1 : decide (0 ≤ k) = false := by rw [decide_eq_false_iff_not]; omega
    go_enter Try.func41, Try.ntmps41
    go_wp2
    go_ret
    exact ⟨rfl, rfl⟩
  · have h0 : 0 ≤ k := by omega
    have h8 : ¬ k ≤ 8 := by omega
    go_enter Try.func41, Try.ntmps41
    go_wp2
    go_ret
    exact ⟨rfl, rfl⟩

/-- At g lies a span. -/
def SpanAt (w : World) (g lo hi : Nat) : Prop := Blk w g 92 #[.int .u64 (lo : Int), .int .u64 (hi : Int)]
theorem newSpan_p (w : World) :
    Calls Try.prog 46 #[] w fun e w' => e = .returned (.pointer (some ⟨w.heap.size, 0, none⟩)) ∧ SpanAt w' w.heap.size 0 4294967295 ∧ Below w.heap.size w w' := by
  go_enter Try.func46, Try.ntmps46
  go_wp2
  go_ret
  exact ⟨rfl, Blk.new w _ _, (Below.refl _ _).alloc (Nat.le_refl _) _⟩
theorem narrow_p (g lo hi b m : Nat) (w : World) (h : SpanAt w g lo hi) (hm : m < 4294967296) :
    Calls Try.prog 49 #[.pointer (some ⟨g, 0, none⟩), .int .i64 (b : Int), .int .u64 (m : Int)] w fun e w' => e = .returned (.tuple #[]) ∧ SpanAt w' g (if b = 0 then lo else m + 1) (if b = 0 then m else hi) ∧ Mod (fun i => i = g) w w' := by
  have c0 : w.cell? ⟨g, 0, none⟩ = some (.int .u64 (lo : Int)) := Blk.cell h 0
  have c1 : w.cell? ⟨g, 1, none⟩ = some (.int .u64 (hi : Int)) := Blk.cell h 1
  have f0 := Blk.frozen h 0
  have f1 := Blk.frozen h 1
  have H := Lib.hid h
  clear h
  rcases Nat.eq_zero_or_pos b with hb | hb
  · subst hb
    rw [if_pos rfl, if_pos rfl]
    go_enter Try.func49, Try.ntmps49
    go_wp2
    refine bodyPost_end (results_none rfl _ _ _) rfl ⟨rfl, ?_, Mod.setCell (p := ⟨g, 1, none⟩) (Mod.refl (fun i => i = g) w) (fun _ => rfl) _⟩
    have := Blk.set_ H.out 1 (.int .u64 (m : Int))
    show Blk _ _ _ _
    simpa using this
  · rw [if_neg (by omega), if_neg (by omega)]
    have hb0 : ((b : Int) == 0) = false := by rw [beq_eq_false_iff_ne]; omega
    have hb1 : ¬ b = 0 := by omega
    go_enter Try.func49, Try.ntmps49
    go_wp2
    refine bodyPost_end (results_none rfl _ _ _) rfl ⟨rfl, ?_, Mod.setCell (p := ⟨g, 0, none⟩) (Mod.refl (fun i => i = g) w) (fun _ => rfl) _⟩
    have := Blk.set_ H.out 0 (.int .u64 ((m + 1 : Nat) : Int))
    show Blk _ _ _ _
    simpa using this
/-- Counts by value. -/
def cagg (z o : Nat) : Value := .agg #[.int .u64 (z : Int), .int .u64 (o : Int)]
theorem noughts_p (z o : Nat) (w : World) :
    Calls Try.prog 59 #[.agg #[.int .u64 (z : Int), .int .u64 (o : Int)]] w fun e w' => e = .returned (.int .u64 (z : Int)) ∧ Below w.heap.size w w' := by
  go_enter Try.func59, Try.ntmps59
  go_wp2
  go_ret
  exact ⟨rfl, (Below.refl _ _).alloc (Nat.le_refl _) _⟩
theorem all_p (z o : Nat) (w : World) (hz : z ≤ 70000) (ho : o ≤ 70000) :
    Calls Try.prog 60 #[.agg #[.int .u64 (z : Int), .int .u64 (o : Int)]] w fun e w' => e = .returned (.int .u64 ((z + o : Nat) : Int)) ∧ Below w.heap.size w w' := by
  go_enter Try.func60, Try.ntmps60
  go_wp2
  go_ret
  exact ⟨rfl, (Below.refl _ _).alloc (Nat.le_refl _) _⟩
end Go.Proofs.Ytcefohjddbjcjaa
namespace Go.Proofs.Ytcefohjddbjcjaa
set_option maxRecDepth 20000
open Go.RowKit
set_option linter.unusedVariables false

theorem wrap_u64n (n : Nat) (h : n < 18446744073709551616) : IntKind.u64.wrap (n : Int) = (n : Int) := by
  simp [IntKind.wrap, IntKind.signed, IntKind.bits]; omega
theorem wrap_u64e {x : Int} {n : Nat} (e : x = (n : Int)) (h : n < 18446744073709551616) : IntKind.u64.wrap x = (n : Int) := by
  rw [e]; exact wrap_u64n n h
set_option maxHeartbeats 1000000 in
theorem mid_p (g lo hi z o : Nat) (w : World) (h : SpanAt w g lo hi) (hn : wayOf lo hi = none) (hlt : hi < 4294967296) (hz : 1 ≤ z) (ho : 1 ≤ o) (hs : z + o < 65536) :
    Calls Try.prog 50 #[.pointer (some ⟨g, 0, none⟩), .agg #[.int .u64 (z : Int), .int .u64 (o : Int)]] w fun e w' => e = .returned (.int .u64 ((midOf lo hi z o : Nat) : Int)) ∧ Below w.heap.size w w' := by
  obtain ⟨m0, m1, m2⟩ := mid_in hn hz ho hs
  have hw := wayOf_none hn
  obtain ⟨M, hM⟩ : ∃ M, M = midOf lo hi z o := ⟨_, rfl⟩
  obtain ⟨R, hR⟩ : ∃ R, R = hi - lo + 1 := ⟨_, rfl⟩
  obtain ⟨D, hD⟩ : ∃ D, D = hi - lo := ⟨_, rfl⟩
  obtain ⟨T, hT⟩ : ∃ T, T = z + o := ⟨_, rfl⟩
  obtain ⟨PP, hPP⟩ : ∃ PP, PP = R * z := ⟨_, rfl⟩
  obtain ⟨Q, hQ⟩ : ∃ Q, Q = PP / T := ⟨_, rfl⟩
  have hPb : PP ≤ 4294967296 * 65536 := by rw [hPP]; exact Nat.mul_le_mul (by omega) (by omega)
  have hQ2 : Q = (hi - lo + 1) * z / (z + o) := by rw [hQ, hPP, hR, hT]
  have hMQ : M = lo + Q - 1 := by rw [hM, midOf, ← hQ2]
  rw [← hQ2] at m0
  rw [← hM] at m1 m2
  have e1 : IntKind.u64.wrap ((hi : Int) - (lo : Int)) = (D : Int) := wrap_u64e (by omega) (by omega)
  have e2 : IntKind.u64.wrap ((D : Int) + 1) = (R : Int) := wrap_u64e (by omega) (by omega)
  have e3 : IntKind.u64.wrap ((R : Int) * (z : Int)) = (PP : Int) := wrap_u64e (by rw [hPP]; simp) (by omega)
  have e4 : (PP : Int).tdiv (T : Int) = (Q : Int) := by rw [hQ, Int.tdiv_eq_ediv_of_nonneg (by omega)]; simp
  have e4b : IntKind.u64.wrap (Q : Int) = (Q : Int) := wrap_u64n Q (by omega)
  have e5 : IntKind.u64.wrap ((lo : Int) + (Q : Int)) = ((lo + Q : Nat) : Int) := wrap_u64e (by simp) (by omega)
  obtain ⟨U, hU⟩ : ∃ U, U = lo + Q := ⟨_, rfl⟩
  rw [← hU] at e5
  have e6 : IntKind.u64.wrap ((U : Int) - 1) = (M : Int) := wrap_u64e (by omega) (by omega)
  have e7 : ((T : Int) == 0) = false := by rw [beq_eq_false_iff_ne]; omega
  have e8 : ¬ T = 0 := by omega
  have e9 : ¬ (T : Int) = 0 := by omega
  have AP : Hid (∀ W, Calls Try.prog 60 #[.agg #[.int .u64 (z : Int), .int .u64 (o : Int)]] W fun e w' => e = .returned (.int .u64 (T : Int)) ∧ Below W.heap.size W w') := fun W => by
    rw [hT]; exact all_p z o W (by omega) (by omega)
  have c0 : w.cell? ⟨g, 0, none⟩ = some (.int .u64 (lo : Int)) := Blk.cell h 0
  have c1 : w.cell? ⟨g, 1, none⟩ = some (.int .u64 (hi : Int)) := Blk.cell h 1
  have hg : g < w.heap.size := Blk.lt h
  rw [← hM]
  have HG := Lib.hid hg
  clear hPb hQ2 hMQ m0 m1 m2 hw hn hlt hz ho hs hM hR hD hT hPP hQ hU h hg
  go_enter Try.func50, Try.ntmps50
  go_wp2_with fail
  have b0 := (Below.refl w.heap.size w).alloc (Nat.le_refl _) (.cells #[.int .u64 (z : Int), .int .u64 (o : Int)] 86)
  have bk := Blk.new w 86 #[.int .u64 (z : Int), .int .u64 (o : Int)]
  have d0 : (w.alloc (.cells #[.int .u64 (z : Int), .int .u64 (o : Int)] 86)).cell? ⟨g, 0, none⟩ = some (.int .u64 (lo : Int)) := (b0.cell (p := ⟨g, 0, none⟩) HG.out).trans c0
  have d1 : (w.alloc (.cells #[.int .u64 (z : Int), .int .u64 (o : Int)] 86)).cell? ⟨g, 1, none⟩ = some (.int .u64 (hi : Int)) := (b0.cell (p := ⟨g, 1, none⟩) HG.out).trans c1
  have d2 : (w.alloc (.cells #[.int .u64 (z : Int), .int .u64 (o : Int)] 86)).cell? ⟨w.heap.size, 0, none⟩ = some (.int .u64 (z : Int)) := bk.cell 0
  have d3 : (w.alloc (.cells #[.int .u64 (z : Int), .int .u64 (o : Int)] 86)).cell? ⟨w.heap.size, 1, none⟩ = some (.int .u64 (o : Int)) := bk.cell 1
  have hsz : w.heap.size < (w.alloc (.cells #[.int .u64 (z : Int), .int .u64 (o : Int)] 86)).heap.size := by simp
  have B0 := Lib.hid b0
  clear b0 bk c0 c1
  generalize (w.alloc (.cells #[.int .u64 (z : Int), .int .u64 (o : Int)] 86)) = w1 at *
  generalize hq : w.heap.size = q at *
  have HQ := Lib.hid hq
  clear hq
  have SK : Hid (∀ W, Below w1.heap.size w1 W → Below w1.heap.size w1 W ∧ W.cell? ⟨g, 0, none⟩ = some (.int .u64 (lo : Int)) ∧ W.cell? ⟨g, 1, none⟩ = some (.int .u64 (hi : Int)) ∧ W.cell? ⟨q, 0, none⟩ = some (.int .u64 (z : Int)) ∧ W.cell? ⟨q, 1, none⟩ = some (.int .u64 (o : Int))) := by
    have hg := HG.out
    exact fun W m => ⟨m, (m.cell (p := ⟨g, 0, none⟩) (by show g < _; omega)).trans d0, (m.cell (p := ⟨g, 1, none⟩) (by show g < _; omega)).trans d1, (m.cell (p := ⟨q, 0, none⟩) hsz).trans d2, (m.cell (p := ⟨q, 1, none⟩) hsz).trans d3⟩
  have K1 : Hid (∀ W, Below w1.heap.size w1 W → Calls Try.prog 60 #[.agg #[.int .u64 (z : Int), .int .u64 (o : Int)]] W fun e w' => e = .returned (.int .u64 (T : Int)) ∧ Below w1.heap.size w1 w') :=
    fun W m => (AP.out W).mono fun e w' ⟨he, hb⟩ => ⟨he, m.trans (hb.mono m.size)⟩
  have K2 : Hid (∀ W, Below w1.heap.size w1 W → Calls Try.prog 59 #[.agg #[.int .u64 (z : Int), .int .u64 (o : Int)]] W fun e w' => e = .returned (.int .u64 (z : Int)) ∧ Below w1.heap.size w1 w') :=
    fun W m => (noughts_p z o W).mono fun e w' ⟨he, hb⟩ => ⟨he, m.trans (hb.mono m.size)⟩
  have h0 : Below w1.heap.size w1 w1.drew := (Below.refl _ _).drew
  have e0 := SK.out _ h0
  clear AP
  go_region_held3 (fun w' => Below w1.heap.size w1 w' ∧ w'.cell? ⟨g, 0, none⟩ = some (.int .u64 (lo : Int)) ∧ w'.cell? ⟨g, 1, none⟩ = some (.int .u64 (hi : Int)) ∧ w'.cell? ⟨q, 0, none⟩ = some (.int .u64 (z : Int)) ∧ w'.cell? ⟨q, 1, none⟩ = some (.int .u64 (o : Int)))
    (exact SK.out _ (by assumption))
    (first
    | (go_at_call 60; (with_reducible refine (K1.out _ (by assumption)).mono ?_); rintro e wa ⟨rfl, hba⟩)
    | (go_at_call 59; (with_reducible refine (K2.out _ (by assumption)).mono ?_); rintro e wa ⟨rfl, hba⟩))
  all_goals (
    go_wp2_with fail
    go_ret
    exact ⟨rfl, by have := B0.out; rw [← HQ.out] at this; refine this.trans (Below.mono ?_ this.size); assumption⟩)
/-- Where a way to double takes a number: numbers wrap. -/
def dblW (x w : Nat) : Nat := ((2 * ((x : Int) - (w : Int) * 1073741824)) % 18446744073709551616).toNat
theorem dblW_eq {x w : Nat} (h : w * 1073741824 ≤ x) (hx : x < 4294967296) : dblW x w = dbl x w := by unfold dblW dbl; omega
theorem dblW_int (x w : Nat) : ((dblW x w : Nat) : Int) = (2 * ((x : Int) - (w : Int) * 1073741824)) % 18446744073709551616 := by unfold dblW; omega
theorem dblW_lt (x w : Nat) : dblW x w < 18446744073709551616 := by have := dblW_int x w; omega
theorem wrap_mod (x : Int) : IntKind.u64.wrap x = x % 18446744073709551616 := by simp [IntKind.wrap, IntKind.signed, IntKind.bits]
theorem doubled_p (x k : Nat) (w : World) (hk : k ≤ 2) :
    Calls Try.prog 61 #[.int .u64 (x : Int), .int .i64 (k : Int)] w fun e w' => e = .returned (.int .u64 ((dblW x k : Nat) : Int)) ∧ w = w' := by
  have e1 : IntKind.u64.wrap (k : Int) = (k : Int) := wrap_u64n k (by omega)
  have e2 : IntKind.u64.wrap ((k : Int) * 1073741824) = ((k * 1073741824 : Nat) : Int) := wrap_u64e (by omega) (by omega)
  obtain ⟨y, hy⟩ : ∃ y, y = k * 1073741824 := ⟨_, rfl⟩
  rw [← hy] at e2
  have e3 : IntKind.u64.wrap ((x : Int) - (y : Int)) = (((((x : Int) - (y : Int)) % 18446744073709551616).toNat : Nat) : Int) := by rw [wrap_mod]; omega
  obtain ⟨d, hd⟩ : ∃ d, d = ((((x : Int) - (y : Int)) % 18446744073709551616).toNat) := ⟨_, rfl⟩
  rw [← hd] at e3
  have e4 : IntKind.u64.wrap (2 * (d : Int)) = ((dblW x k : Nat) : Int) := by rw [wrap_mod, dblW_int]; omega
  generalize dblW x k = q at *
  clear hd hy hk
  go_enter Try.func61, Try.ntmps61
  go_wp2
  go_ret
  exact ⟨by rfl, rfl⟩
end Go.Proofs.Ytcefohjddbjcjaa
namespace Go.Proofs.Ytcefohjddbjcjaa
set_option maxRecDepth 20000
open Go.RowKit
set_option linter.unusedVariables false

/-- The cells of all counts. -/
def zoL (zs os : List Nat) : List Nat := (List.range (2 * zs.length)).map fun j => if j % 2 = 0 then zs.getD (j / 2) 0 else os.getD (j / 2) 0
theorem zoL_len (zs os : List Nat) : (zoL zs os).length = 2 * zs.length := by simp [zoL]
theorem zoL_z {zs os : List Nat} {i : Nat} (h : i < zs.length) : (zoL zs os).getD (2 * i) 0 = zs.getD i 0 := by
  simp [zoL, List.getD_eq_getElem?_getD, show 2 * i < 2 * zs.length by omega]
theorem zoL_o {zs os : List Nat} {i : Nat} (h : i < zs.length) : (zoL zs os).getD (2 * i + 1) 0 = os.getD i 0 := by
  have : (2 * i + 1) / 2 = i := by omega
  simp [zoL, List.getD_eq_getElem?_getD, show 2 * i + 1 < 2 * zs.length by omega, this]
theorem zoL_ext {x : List Nat} {zs os : List Nat} (h : x.length = 2 * zs.length) (hz : ∀ i, i < zs.length → x.getD (2 * i) 0 = zs.getD i 0) (ho : ∀ i, i < zs.length → x.getD (2 * i + 1) 0 = os.getD i 0) : x = zoL zs os := by
  refine getDN_ext (by rw [h, zoL_len]) fun j hj => ?_
  rw [h] at hj
  rcases Nat.mod_two_eq_zero_or_one j with e | e
  · obtain ⟨i, rfl⟩ : ∃ i, j = 2 * i := ⟨j / 2, by omega⟩
    rw [hz i (by omega), zoL_z (by omega)]
  · obtain ⟨i, rfl⟩ : ∃ i, j = 2 * i + 1 := ⟨j / 2, by omega⟩
    rw [ho i (by omega), zoL_o (by omega)]
theorem zoL_setz {zs os : List Nat} {i v : Nat} (h : i < zs.length) : (zoL zs os).set (2 * i) v = zoL (zs.set i v) os := by
  refine zoL_ext (by simp [zoL_len]) (fun j hj => ?_) fun j hj => ?_
  · simp at hj
    rw [getD_setN _ _ _ _ (by rw [zoL_len]; omega), getD_setN _ _ _ _ h]
    by_cases e : j = i
    · subst e; rw [if_pos rfl, if_pos rfl]
    · rw [if_neg (by omega), if_neg e, zoL_z hj]
  · simp at hj
    rw [getD_setN _ _ _ _ (by rw [zoL_len]; omega), if_neg (by omega), zoL_o hj]
theorem zoL_seto {zs os : List Nat} {i v : Nat} (h : i < zs.length) (hl : os.length = zs.length) : (zoL zs os).set (2 * i + 1) v = zoL zs (os.set i v) := by
  refine zoL_ext (by simp [zoL_len]) (fun j hj => ?_) fun j hj => ?_
  · rw [getD_setN _ _ _ _ (by rw [zoL_len]; omega), if_neg (by omega), zoL_z hj]
  · rw [getD_setN _ _ _ _ (by rw [zoL_len]; omega), getD_setN _ _ _ _ (by omega)]
    by_cases e : j = i
    · subst e; rw [if_pos rfl, if_pos rfl]
    · rw [if_neg (by omega), if_neg e, zoL_o hj]
theorem zoL_ones (n : Nat) : zoL (List.replicate n 1) (List.replicate n 1) = List.replicate (2 * n) 1 := by
  symm
  refine zoL_ext (by simp) (fun j hj => ?_) fun j hj => ?_
  · simp at hj; rw [getD_rep _ _ _ (by omega), getD_rep _ _ _ hj]
  · simp at hj; rw [getD_rep _ _ _ (by omega), getD_rep _ _ _ hj]
/-- At m lies a model, its counts at c. -/
def ModS (w : World) (m c : Nat) (zs os : List Nat) (x : Nat) : Prop :=
  Blk w m 99 #[.slice (some ⟨c, 0, none⟩) zs.length zs.length, .int .i64 (x : Int)] ∧ Blk w c 86 (U64 (zoL zs os)).toArray ∧ m ≠ c ∧ os.length = zs.length
theorem ModS.mod {w w' : World} {S : Nat → Prop} {m c : Nat} {zs os : List Nat} {x : Nat} (h : ModS w m c zs os x) (k : Mod S w w') (hm : ¬ S m) (hc : ¬ S c) : ModS w' m c zs os x :=
  ⟨h.1.mod k hm, h.2.1.mod k hc, h.2.2⟩
theorem ModS.below {w w' : World} {m c : Nat} {zs os : List Nat} {x : Nat} (h : ModS w m c zs os x) (k : Below w.heap.size w w') : ModS w' m c zs os x :=
  ⟨h.1.below k, h.2.1.below k, h.2.2⟩
theorem ModS.zc {w : World} {m c : Nat} {zs os : List Nat} {x : Nat} (h : ModS w m c zs os x) (i : Nat) (hi : i < zs.length) : w.cell? ⟨c, i * 2, none⟩ = some (.int .u64 ((zs.getD i 0 : Nat) : Int)) := by
  rw [Nat.mul_comm i 2, h.2.1.cell, List.getElem?_toArray, U64_get _ _ (by rw [zoL_len]; omega), zoL_z hi]
theorem ModS.oc {w : World} {m c : Nat} {zs os : List Nat} {x : Nat} (h : ModS w m c zs os x) (i : Nat) (hi : i < zs.length) : w.cell? ⟨c, i * 2 + 1, none⟩ = some (.int .u64 ((os.getD i 0 : Nat) : Int)) := by
  rw [Nat.mul_comm i 2, h.2.1.cell, List.getElem?_toArray, U64_get _ _ (by rw [zoL_len]; omega), zoL_o hi]
set_option maxHeartbeats 1000000 in
theorem mcounts_p (m c : Nat) (zs os : List Nat) (x : Nat) (w : World) (h : ModS w m c zs os x) (hx : x < zs.length) (hl : zs.length ≤ 256) :
    Calls Try.prog 51 #[.pointer (some ⟨m, 0, none⟩)] w fun e w' => e = .returned (.agg #[.int .u64 ((zs.getD x 0 : Nat) : Int), .int .u64 ((os.getD x 0 : Nat) : Int)]) ∧ Below w.heap.size w w' := by
  have c0 : w.cell? ⟨m, 0, none⟩ = some (.slice (some ⟨c, 0, none⟩) zs.length zs.length) := Blk.cell h.1 0
  have c1 : w.cell? ⟨m, 1, none⟩ = some (.int .i64 (x : Int)) := Blk.cell h.1 1
  have c2 := h.zc x hx
  have c3 := h.oc x hx
  have hm := h.1.lt
  have hc := h.2.1.lt
  generalize zs.getD x 0 = z at *
  generalize os.getD x 0 = o at *
  clear h
  go_enter Try.func51, Try.ntmps51
  go_wp2_with fail
  have HINF := Lib.hid (show (Try.prog.info? 86).map (·.size) = some (#[Value.int .u64 (z : Int), .int .u64 (o : Int)]).size by kernel_rfl)
  go_region
  all_goals (
    go_wp2_with fail
    refine bodyPost_ret (results_cell_row rfl _ _ w.heap.size 86 _ (0, 0) _ rfl (Blk.new w _ _) Try.underlying86 rfl HINF.out) rfl ?_
    exact ⟨rfl, ((Below.refl _ _).alloc (Nat.le_refl _) _).drew⟩)
/-- A context's counts turned. -/
theorem ModS.setz {w : World} {m c : Nat} {zs os : List Nat} {x : Nat} (h : ModS w m c zs os x) (i v : Nat) (hi : i < zs.length) : ModS (w.setCell ⟨c, i * 2, none⟩ (.int .u64 (v : Int))) m c (zs.set i v) os x := by
  refine ⟨?_, ?_, h.2.2.1, by simp [h.2.2.2]⟩
  · have := h.1.mod (Mod.setCell (p := ⟨c, i * 2, none⟩) (Mod.refl (fun k => k = c) w) (fun _ => rfl) (.int .u64 (v : Int))) (fun e => h.2.2.1 e)
    simpa using this
  · have := h.2.1.set_ (i * 2) (.int .u64 (v : Int))
    rw [Nat.mul_comm i 2, List.setIfInBounds_toArray, ← U64_set, zoL_setz hi, ← Nat.mul_comm i 2] at this
    exact this
theorem ModS.seto {w : World} {m c : Nat} {zs os : List Nat} {x : Nat} (h : ModS w m c zs os x) (i v : Nat) (hi : i < zs.length) : ModS (w.setCell ⟨c, i * 2 + 1, none⟩ (.int .u64 (v : Int))) m c zs (os.set i v) x := by
  refine ⟨?_, ?_, h.2.2.1, by simp [h.2.2.2]⟩
  · exact h.1.mod (Mod.setCell (p := ⟨c, i * 2 + 1, none⟩) (Mod.refl (fun k => k = c) w) (fun _ => rfl) (.int .u64 (v : Int))) (fun e => h.2.2.1 e)
  · have := h.2.1.set_ (i * 2 + 1) (.int .u64 (v : Int))
    rw [Nat.mul_comm i 2, List.setIfInBounds_toArray, ← U64_set, zoL_seto hi h.2.2.2, ← Nat.mul_comm i 2] at this
    exact this
theorem ModS.setx {w : World} {m c : Nat} {zs os : List Nat} {x : Nat} (h : ModS w m c zs os x) (v : Nat) : ModS (w.setCell ⟨m, 1, none⟩ (.int .i64 (v : Int))) m c zs os v := by
  refine ⟨?_, h.2.1.mod (Mod.setCell (p := ⟨m, 1, none⟩) (Mod.refl (fun k => k = m) w) (fun _ => rfl) (.int .i64 (v : Int))) (fun e => h.2.2.1 e.symm), h.2.2⟩
  have := h.1.set_ 1 (.int .i64 (v : Int))
  simpa using this
set_option maxHeartbeats 2000000 in
theorem newModel_p (k : Nat) (w : World) (hk : k ≤ 8) :
    Calls Try.prog 47 #[.int .i64 (k : Int)] w fun e w' => ∃ m c, e = .returned (.pointer (some ⟨m, 0, none⟩)) ∧ ModS w' m c (List.replicate (2 ^ k) 1) (List.replicate (2 ^ k) 1) 0 ∧ Below w.heap.size w w' ∧ w.heap.size ≤ m ∧ w.heap.size ≤ c ∧ m < w'.heap.size ∧ c < w'.heap.size := by
  have hN : 2 ^ k ≤ 256 := Nat.pow_le_pow_right (by decide) hk
  obtain ⟨N, hNe⟩ : ∃ N, N = 2 ^ k := ⟨_, rfl⟩
  rw [← hNe] at hN ⊢
  have hsh : wrap64 (2 ^ k) = (N : Int) := by
    have : ((2 : Int) ^ k) = (N : Int) := by rw [hNe]; simp
    rw [this]; unfold wrap64; omega
  obtain ⟨i0, hi0, hz0, hz1, hz2⟩ := info_parts (show (Try.prog.info? 86).map (fun i => (i.zero, i.size, i.bytes)) = some (some (.agg #[.int .u64 0, .int .u64 0]), 2, 16) by kernel_rfl)
  have hmk : ∀ W : World, (Instr.makeSlice 97 (.int .i64 (N : Int)) (.int .i64 (N : Int))).run Try.prog W = .ok (.slice (some ⟨W.heap.size, 0, none⟩) N N) (W.alloc (.cells (U64 (List.replicate (2 * N) 0)).toArray 86)) := fun W => by
    have hr := run_make (P := Try.prog) W 97 86 i0 _ Try.underlying97 hi0 hz0 .i64 .i64 N N (by omega) (Int.le_refl _) (by rw [hz2]; omega) (by omega)
    rw [hr, hz1]
    congr 3
    apply Array.toList_inj.1
    apply List.ext_getElem
    · simp [madeCells, U64_len]; omega
    · intro i h1 h2
      simp [madeCells, U64, Value.cells]
      rcases Nat.mod_two_eq_zero_or_one i with e | e <;> simp [e]
  clear hNe hi0 hz0 hz1 hz2
  go_enter Try.func47, Try.ntmps47
  go_wp2_with fail
  have hW : Blk (w.alloc (.cells (U64 (List.replicate (2 * N) 0)).toArray 86) |>.alloc (.cells #[.slice (some ⟨w.heap.size, 0, none⟩) N N, .int .i64 0] 99)) w.heap.size 86 (U64 (List.replicate (2 * N) 0)).toArray := (Blk.new w _ _).alloc _
  have hM : Blk (w.alloc (.cells (U64 (List.replicate (2 * N) 0)).toArray 86) |>.alloc (.cells #[.slice (some ⟨w.heap.size, 0, none⟩) N N, .int .i64 0] 99)) (w.heap.size + 1) 99 #[.slice (some ⟨w.heap.size, 0, none⟩) N N, .int .i64 0] := by
    have := Blk.new (w.alloc (.cells (U64 (List.replicate (2 * N) 0)).toArray 86)) 99 #[.slice (some ⟨w.heap.size, 0, none⟩) N N, .int .i64 0]
    simpa using this
  have hB : Below w.heap.size w (w.alloc (.cells (U64 (List.replicate (2 * N) 0)).toArray 86) |>.alloc (.cells #[.slice (some ⟨w.heap.size, 0, none⟩) N N, .int .i64 0] 99)) := ((Below.refl _ _).alloc (Nat.le_refl _) _).alloc (by simp) _
  have HW := Lib.hid hW
  have HM := Lib.hid hM
  have HB := Lib.hid hB
  clear hW hM hB
  go_loopw [15] (fun i wr => ∃ k : Nat, k ≤ N ∧ i = .int .i64 (k : Int) ∧ Hid (Blk wr w.heap.size 86 (U64 (List.replicate (2 * k) 1 ++ List.replicate (2 * (N - k)) 0)).toArray) ∧ Hid (Blk wr (w.heap.size + 1) 99 #[.slice (some ⟨w.heap.size, 0, none⟩) N N, .int .i64 0]) ∧ Hid (Below w.heap.size w wr)) (fun i _ => N - (intOf i).toNat)
  case atStart => exact ⟨0, by omega, rfl, by simpa using HW, HM, HB⟩
  case round =>
    clear HW HM HB
    obtain ⟨k, hk, rfl, HW, HM, HB⟩ := hrel
    have m0 : wr.cell? ⟨w.heap.size + 1, 0, none⟩ = some (.slice (some ⟨w.heap.size, 0, none⟩) N N) := Blk.cell HM.out 0
    by_cases hlt : k < N
    · have hmm : ∀ i, i < 2 * N → ∃ v, wr.cell? ⟨w.heap.size, i, none⟩ = some v := fun i hi => by
        rw [Blk.cell HW.out]; exact ⟨_, Array.getElem?_eq_getElem (by simp [U64_len]; omega)⟩
      obtain ⟨v0, c0⟩ := hmm (k * 2) (by omega)
      obtain ⟨v1, c1⟩ := hmm (k * 2 + 1) (by omega)
      have f0 := Blk.frozen HW.out (k * 2)
      have f1 := Blk.frozen HW.out (k * 2 + 1)
      have hp : ((k : Int) * 2 : Int).toNat = k * 2 := by omega
      have HS : Hid (Blk ((wr.setCell ⟨w.heap.size, k * 2, none⟩ (.int .u64 1)).setCell ⟨w.heap.size, k * 2 + 1, none⟩ (.int .u64 1)) w.heap.size 86 (U64 (List.replicate (2 * (k + 1)) 1 ++ List.replicate (2 * (N - (k + 1))) 0)).toArray) := by
        have t1 := HW.out.set_ (k * 2) (.int .u64 ((1 : Nat) : Int))
        rw [List.setIfInBounds_toArray, ← U64_set] at t1
        have this := t1.set_ (k * 2 + 1) (.int .u64 ((1 : Nat) : Int))
        rw [List.setIfInBounds_toArray, ← U64_set] at this
        have e : (((List.replicate (2 * k) 1 ++ List.replicate (2 * (N - k)) 0).set (k * 2) 1).set (k * 2 + 1) 1) = List.replicate (2 * (k + 1)) 1 ++ List.replicate (2 * (N - (k + 1))) 0 := by
          obtain ⟨j, hj⟩ : ∃ j, N - k = j + 1 := ⟨N - k - 1, by omega⟩
          rw [show N - (k + 1) = j by omega, hj]
          apply List.ext_getElem?
          intro i
          simp only [List.getElem?_set, List.getElem?_append, List.getElem?_replicate, List.length_set, List.length_append, List.length_replicate]
          by_cases e1 : k * 2 + 1 = i
          · subst e1; rw [if_pos rfl, if_pos (by omega), if_pos (by omega), if_pos (by omega)]
          · rw [if_neg e1]
            by_cases e2 : k * 2 = i
            · subst e2; rw [if_pos rfl, if_pos (by omega), if_pos (by omega), if_pos (by omega)]
            · rw [if_neg e2]
              by_cases e3 : i < 2 * k
              · rw [if_pos e3, if_pos e3, if_pos (by omega), if_pos (by omega)]
              · rw [if_neg e3, if_neg (show ¬ i < 2 * (k + 1) by omega)]
                by_cases e4 : i - 2 * k < 2 * (j + 1)
                · rw [if_pos e4, if_pos (by omega)]
                · rw [if_neg e4, if_neg (by omega)]
        rw [e] at this
        exact this
      have HS2 : Hid (Blk ((wr.setCell ⟨w.heap.size, k * 2, none⟩ (.int .u64 1)).setCell ⟨w.heap.size, k * 2 + 1, none⟩ (.int .u64 1)) (w.heap.size + 1) 99 #[.slice (some ⟨w.heap.size, 0, none⟩) N N, .int .i64 0]) :=
        HM.out.mod (((Mod.refl (fun i => i = w.heap.size) wr).setCell (fun _ => rfl) _).setCell (fun _ => rfl) _) (by omega)
      have HS3 : Hid (Below w.heap.size w ((wr.setCell ⟨w.heap.size, k * 2, none⟩ (.int .u64 1)).setCell ⟨w.heap.size, k * 2 + 1, none⟩ (.int .u64 1))) := (HB.out.setCell (Nat.le_refl _) _).setCell (Nat.le_refl _) _
      clear hmm
      go_wp2_with fail
      go_roundw
      case rel => exact ⟨k + 1, by omega, by go_num, HS, HS2, HS3⟩
      case measure => simp [intOf]; omega
    · obtain rfl : k = N := by omega
      go_wp2_with fail
      go_ret
      have hw := HW.out
      rw [Nat.sub_self, Nat.mul_zero, List.replicate_zero, List.append_nil, ← zoL_ones] at hw
      exact ⟨_, _, rfl, ⟨by simpa using HM.out, hw, by omega, by simp⟩, HB.out, by omega, by omega, HM.out.lt, hw.lt⟩
end Go.Proofs.Ytcefohjddbjcjaa
namespace Go.Proofs.Ytcefohjddbjcjaa
set_option maxRecDepth 20000
open Go.RowKit
set_option linter.unusedVariables false

theorem set_self (y : List Nat) (k : Nat) : y.set k (y.getD k 0) = y := by
  by_cases h : k < y.length
  · refine getDN_ext (by simp) fun j hj => ?_
    rw [getD_setN _ _ _ _ h]
    by_cases e : j = k
    · rw [if_pos e, e]
    · rw [if_neg e]
  · exact List.set_eq_of_length_le (by omega)
theorem ModS.drewN {w : World} {m c : Nat} {zs os : List Nat} {x : Nat} (h : ModS w m c zs os x) (n : Nat) : ModS (w.drewN n) m c zs os x := ⟨h.1.drewN n, h.2.1.drewN n, h.2.2⟩
set_option maxHeartbeats 2000000 in
theorem learn_p (m c : Nat) (zs os : List Nat) (x b : Nat) (w : World) (h : ModS w m c zs os x) (hx : x < zs.length) (hl : zs.length ≤ 256) (hb : b < 2) (z o : Nat)
    (hz : z = if b = 0 then zs.getD x 0 + 1 else zs.getD x 0) (ho : o = if b = 0 then os.getD x 0 else os.getD x 0 + 1) (hs : z + o ≤ 65536) :
    Calls Try.prog 54 #[.pointer (some ⟨m, 0, none⟩), .int .i64 (b : Int)] w fun e w' => e = .returned (.tuple #[]) ∧ ModS w' m c (zs.set x (halve z o z)) (os.set x (halve z o o)) ((2 * x + b) % zs.length) ∧ Mod (fun i => i = m ∨ i = c) w w' := by
  have H := Lib.hid h
  have HZ := Lib.hid hz
  have HO := Lib.hid ho
  have HX := Lib.hid hx
  have HOL := Lib.hid h.2.2.2
  have c0 : w.cell? ⟨m, 0, none⟩ = some (.slice (some ⟨c, 0, none⟩) zs.length zs.length) := Blk.cell h.1 0
  have c1 : w.cell? ⟨m, 1, none⟩ = some (.int .i64 (x : Int)) := Blk.cell h.1 1
  have c2 := h.zc x hx
  have c3 := h.oc x hx
  have f2 := Blk.frozen h.2.1 (x * 2)
  have f3 := Blk.frozen h.2.1 (x * 2 + 1)
  clear h hz ho
  obtain ⟨N, hN⟩ : ∃ N, N = zs.length := ⟨_, rfl⟩
  have HN := Lib.hid hN
  rw [← hN] at c0 hx hl ⊢
  clear hN
  go_enter Try.func54, Try.ntmps54
  go_wp2_with fail
  go_quiet (fail)
  go_wp2_with fail
  go_cut [4] from 16 to 23 (fun v wx => v = .pointer (some ⟨c, x * 2, none⟩) ∧ Hid (ModS wx m c (zs.set x z) (os.set x o) x) ∧ Hid (Mod (fun i => i = m ∨ i = c) w wx))
  case first =>
    have hzx : zs.getD x 0 ≤ 65536 := by have := HZ.out; split at this <;> omega
    have hox : os.getD x 0 ≤ 65536 := by have := HO.out; split at this <;> omega
    rcases (by omega : b = 0 ∨ b = 1) with rfl | rfl
    · have HS : Hid (∀ n, ModS ((w.drewN n).setCell ⟨c, x * 2, none⟩ (.int .u64 ((zs.getD x 0 : Int) + 1))) m c (zs.set x z) (os.set x o) x) := fun n => by
        have e1 : z = zs.getD x 0 + 1 := by have := HZ.out; simpa using this
        have e2 : o = os.getD x 0 := by have := HO.out; simpa using this
        rw [e2, set_self, e1]
        have := (H.out.drewN n).setz x (zs.getD x 0 + 1) HX.out
        simpa using this
      have HM2 : Hid (∀ n, Mod (fun i => i = m ∨ i = c) w ((w.drewN n).setCell ⟨c, x * 2, none⟩ (.int .u64 ((zs.getD x 0 : Int) + 1)))) := fun n => Mod.setCell ((Mod.refl _ _).drewN n) (fun _ => .inr rfl) _
      generalize zs.getD x 0 = zx at *
      clear c3 f3 c0 c1
      go_region
      all_goals (go_wp2_with fail; go_meet; exact ⟨rfl, HS.out _, HM2.out _⟩)
    · have HS : Hid (∀ n, ModS ((w.drewN n).setCell ⟨c, x * 2 + 1, none⟩ (.int .u64 ((os.getD x 0 : Int) + 1))) m c (zs.set x z) (os.set x o) x) := fun n => by
        have e1 : z = zs.getD x 0 := by have := HZ.out; simpa using this
        have e2 : o = os.getD x 0 + 1 := by have := HO.out; simpa using this
        rw [e1, set_self, e2]
        have := (H.out.drewN n).seto x (os.getD x 0 + 1) HX.out
        simpa using this
      have HM2 : Hid (∀ n, Mod (fun i => i = m ∨ i = c) w ((w.drewN n).setCell ⟨c, x * 2 + 1, none⟩ (.int .u64 ((os.getD x 0 : Int) + 1)))) := fun n => Mod.setCell ((Mod.refl _ _).drewN n) (fun _ => .inr rfl) _
      generalize os.getD x 0 = ox at *
      clear c2 f2 c0 c1
      go_region
      all_goals (go_wp2_with fail; go_meet; exact ⟨rfl, HS.out _, HM2.out _⟩)
  case rest =>
    obtain ⟨rfl, HS, HM⟩ := hcut
    clear c0 c1 c2 c3 f2 f3 HZ HO H
    have HXN : Hid (x < zs.length) := HX
    have d2 := HS.out.zc x (by simp; exact HX.out)
    have d3 := HS.out.oc x (by simp; exact HX.out)
    rw [getD_setN _ _ _ _ HX.out, if_pos rfl] at d2
    rw [getD_setN _ _ _ _ (by rw [HOL.out]; exact HX.out), if_pos rfl] at d3
    have AP := Lib.hid (fun W => all_p z o W (by omega) (by omega))
    obtain ⟨T, hT⟩ : ∃ T, T = z + o := ⟨_, rfl⟩
    rw [← hT] at AP
    have HT := Lib.hid hT
    have hT2 : T ≤ 65536 := by omega
    clear hT hs
    iterate 2 go_step
    go_cut [] from 24 to 43 (fun wx => Hid (ModS wx m c (zs.set x (halve z o z)) (os.set x (halve z o o)) x) ∧ Hid (Mod (fun i => i = m ∨ i = c) w wx))
    case first =>
      by_cases hf : T = 65536
      · subst hf
        have HE : Hid (∀ y, halve z o y = (y + 1) / 2) := fun y => by unfold halve; rw [if_pos HT.out.symm]
        clear hT2
        go_wp2_with fail
        refine (AP.out _).mono ?_
        rintro e w2 ⟨rfl, b2⟩
        have HS2 := Lib.hid (HS.out.below b2)
        have HM3 := Lib.hid (HM.out.trans (Mod.none_ b2 (fun i => i = m ∨ i = c)) fun _ _ => id)
        have hz9 : z ≤ 65536 := by have := HT.out; omega
        have ho9 : o ≤ 65536 := by have := HT.out; omega
        clear b2 HS HM d2 d3 AP
        go_wp2_with fail
        go_loopw [30] (fun i wr => ∃ k : Nat, k ≤ 2 ∧ i = .int .i64 (k : Int) ∧ Hid (ModS wr m c (zs.set x (if 1 ≤ k then halve z o z else z)) (os.set x (if 2 ≤ k then halve z o o else o)) x) ∧ Hid (Mod (fun i => i = m ∨ i = c) w wr)) (fun i _ => 2 - (intOf i).toNat)
        case atStart => exact ⟨0, by omega, rfl, HS2, HM3⟩
        case round =>
          clear HS2 HM3
          obtain ⟨k, hk, rfl, HS, HM⟩ := hrel
          rcases (by omega : k = 0 ∨ k = 1 ∨ k = 2) with rfl | rfl | rfl
          · rw [if_neg (by omega), if_neg (by omega)] at HS
            have d2 := HS.out.zc x (by simp; exact HX.out)
            rw [getD_setN _ _ _ _ HX.out, if_pos rfl] at d2
            have g2 := Blk.frozen HS.out.2.1 (x * 2)
            have hq : ((z : Int) + 1).tdiv 2 = (((z + 1) / 2 : Nat) : Int) := by rw [Int.tdiv_eq_ediv_of_nonneg (by omega)]; omega
            have HS9 : Hid (∀ n, ModS ((wr.drewN n).setCell ⟨c, x * 2, none⟩ (.int .u64 (((z + 1) / 2 : Nat) : Int))) m c (zs.set x (halve z o z)) (os.set x o) x) := fun n => by
              have := (HS.out.drewN n).setz x ((z + 1) / 2) (by simp; exact HX.out)
              rw [List.set_set] at this
              rw [HE.out]; exact this
            have HM9 : Hid (∀ n, Mod (fun i => i = m ∨ i = c) w ((wr.drewN n).setCell ⟨c, x * 2, none⟩ (.int .u64 (((z + 1) / 2 : Nat) : Int)))) := fun n => (HM.out.drewN n).setCell (fun _ => .inr rfl) _
            obtain ⟨z2, hz2⟩ : ∃ z2, z2 = (z + 1) / 2 := ⟨_, rfl⟩
            rw [← hz2] at hq HS9 HM9
            have hq2 : IntKind.u64.wrap (z2 : Int) = (z2 : Int) := wrap_u64n z2 (by omega)
            clear hz2
            go_wp2_with fail
            go_quiet (fail)
            go_wp2_with fail
            go_roundw
            case rel => exact ⟨1, by omega, rfl, HS9.out _, HM9.out _⟩
            case measure => simp [intOf]
          · rw [if_pos (by omega), if_neg (by omega)] at HS
            have d3 := HS.out.oc x (by simp; exact HX.out)
            rw [getD_setN _ _ _ _ (by rw [HOL.out]; exact HX.out), if_pos rfl] at d3
            have g3 := Blk.frozen HS.out.2.1 (x * 2 + 1)
            have hq : ((o : Int) + 1).tdiv 2 = (((o + 1) / 2 : Nat) : Int) := by rw [Int.tdiv_eq_ediv_of_nonneg (by omega)]; omega
            have HS9 : Hid (∀ n, ModS ((wr.drewN n).setCell ⟨c, x * 2 + 1, none⟩ (.int .u64 (((o + 1) / 2 : Nat) : Int))) m c (zs.set x (halve z o z)) (os.set x (halve z o o)) x) := fun n => by
              have := (HS.out.drewN n).seto x ((o + 1) / 2) (by simp; exact HX.out)
              rw [List.set_set] at this
              rw [HE.out o]; exact this
            have HM9 : Hid (∀ n, Mod (fun i => i = m ∨ i = c) w ((wr.drewN n).setCell ⟨c, x * 2 + 1, none⟩ (.int .u64 (((o + 1) / 2 : Nat) : Int)))) := fun n => (HM.out.drewN n).setCell (fun _ => .inr rfl) _
            obtain ⟨o2, ho2⟩ : ∃ o2, o2 = (o + 1) / 2 := ⟨_, rfl⟩
            rw [← ho2] at hq HS9 HM9
            have hq2 : IntKind.u64.wrap (o2 : Int) = (o2 : Int) := wrap_u64n o2 (by omega)
            clear ho2
            go_wp2_with fail
            go_quiet (fail)
            go_wp2_with fail
            go_roundw
            case rel => exact ⟨2, by omega, rfl, HS9.out _, HM9.out _⟩
            case measure => simp [intOf]
          · rw [if_pos (by omega), if_pos (by omega)] at HS
            go_wp2_with fail
            go_meet
            exact ⟨HS, HM⟩
      · have hfi : ¬ (T : Int) = 65536 := by omega
        have hfb : ((T : Int) == 65536) = false := by rw [beq_eq_false_iff_ne]; omega
        have HE : Hid (∀ y, halve z o y = y) := fun y => by unfold halve; rw [if_neg (by rw [← HT.out]; exact hf)]
        clear hf hT2
        go_wp2_with fail
        refine (AP.out _).mono ?_
        rintro e w2 ⟨rfl, b2⟩
        have HS2 := Lib.hid (HS.out.below b2)
        have HM3 := Lib.hid (HM.out.trans (Mod.none_ b2 (fun i => i = m ∨ i = c)) fun _ _ => id)
        clear b2 HS HM d2 d3 AP
        go_wp2_with fail
        go_meet
        rw [HE.out, HE.out]
        exact ⟨HS2, HM3⟩
    case rest =>
      obtain ⟨HS2, HM3⟩ := hcut
      clear HS HM d2 d3 AP
      have e1 := Blk.cell HS2.out.1 0
      have e2 := Blk.cell HS2.out.1 1
      have g2 := Blk.frozen HS2.out.1 1
      simp at e1 e2
      rw [← HN.out] at e1
      have hrem : (2 * (x : Int) + (b : Int)).tmod (N : Int) = (((2 * x + b) % N : Nat) : Int) := by rw [Int.tmod_eq_emod_of_nonneg (by omega)]; simp
      have e8 : ¬ N = 0 := by omega
      have e9 : ¬ (N : Int) = 0 := by omega
      have e7 : ((N : Int) == 0) = false := by rw [beq_eq_false_iff_ne]; omega
      have hr2 : (2 * x + b) % N < N := Nat.mod_lt _ (by omega)
      have HQ : Hid (∀ n, ModS ((wc.setCell ⟨m, 1, none⟩ (.int .i64 (((2 * x + b) % N : Nat) : Int))).drewN n) m c (zs.set x (halve z o z)) (os.set x (halve z o o)) ((2 * x + b) % N) ∧ Mod (fun i => i = m ∨ i = c) w ((wc.setCell ⟨m, 1, none⟩ (.int .i64 (((2 * x + b) % N : Nat) : Int))).drewN n)) := fun n =>
        ⟨(HS2.out.setx _).drewN n, (HM3.out.setCell (fun _ => .inl rfl) _).drewN n⟩
      obtain ⟨r, hr⟩ : ∃ r, r = (2 * x + b) % N := ⟨_, rfl⟩
      rw [← hr] at hrem hr2 HQ
      have HR := Lib.hid hr
      clear HX HXN HOL HS2 HM3 hr
      go_wp2_with fail
      go_region
      all_goals (go_wp2_with fail; refine bodyPost_end (results_none rfl _ _ _) rfl ⟨rfl, ?_⟩; rw [← HR.out]; exact HQ.out 1)
end Go.Proofs.Ytcefohjddbjcjaa
