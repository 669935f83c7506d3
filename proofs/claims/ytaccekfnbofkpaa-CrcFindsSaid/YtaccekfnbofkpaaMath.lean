/- Plain mathematics of the checksum: the shift register over natural numbers; no program in sight. -/
import Derived.Laws.BitsAllLaws
namespace Go.Proofs.Ytaccekfnbofkpaa

/-- One shift of the register: its lowest bit goes out and, where it was 1, the polynomial is laid in. -/
def mstep (x : Nat) : Nat := (x / 2) ^^^ (if x % 2 = 1 then 3988292384 else 0)
def msteps : Nat → Nat → Nat
  | 0, x => x
  | k + 1, x => msteps k (mstep x)
def crcByte (s b : Nat) : Nat := msteps 8 (s ^^^ b)
def crcRaw (s : Nat) (l : List Nat) : Nat := l.foldl crcByte s
def crcSum (l : List Nat) : Nat := 4294967295 - crcRaw 4294967295 l

theorem mstep_lt (x : Nat) (h : x < 4294967296) : mstep x < 4294967296 := by
  unfold mstep
  refine Nat.xor_lt_two_pow (n := 32) (by omega) ?_
  split <;> omega
theorem msteps_lt (k : Nat) : ∀ x, x < 4294967296 → msteps k x < 4294967296 := by
  induction k with
  | zero => intro x h; exact h
  | succ k ih => intro x h; exact ih _ (mstep_lt x h)
theorem msteps_succ (k : Nat) : ∀ x, msteps (k + 1) x = mstep (msteps k x) := by
  induction k with
  | zero => intro x; rfl
  | succ k ih => intro x; exact ih (mstep x)
theorem crcByte_lt (s b : Nat) (h : s < 4294967296) (hb : b < 256) : crcByte s b < 4294967296 :=
  msteps_lt 8 _ (Nat.xor_lt_two_pow (n := 32) h (by omega))
theorem crcRaw_lt (l : List Nat) : ∀ s, s < 4294967296 → (∀ b ∈ l, b < 256) → crcRaw s l < 4294967296 := by
  induction l with
  | nil => intro s h _; exact h
  | cons b l ih => intro s h hl; exact ih _ (crcByte_lt s b h (hl b (by simp))) (fun c hc => hl c (by simp [hc]))
theorem crcRaw_snoc (s : Nat) (l : List Nat) (b : Nat) : crcRaw s (l ++ [b]) = crcByte (crcRaw s l) b := by simp [crcRaw]
theorem crcRaw_append (s : Nat) (l m : List Nat) : crcRaw s (l ++ m) = crcRaw (crcRaw s l) m := by simp [crcRaw]
theorem crcSum_lt (l : List Nat) : crcSum l < 4294967296 := by unfold crcSum; omega

/-- The shift as the program spells it. -/
theorem mstep_go (r : Nat) (h : r < 4294967296) :
    bits .xor .u32 ((r : Int) / 2) (bits .and .u32 3988292384 (-bits .and .u32 (r : Int) 1 % 4294967296)) = (mstep r : Int) := by
  have e1 : bits .and .u32 (r : Int) 1 = ((r % 2 : Nat) : Int) := by
    have := u32_and_nat r 1 h (by omega)
    rw [nat_mask1] at this
    exact this
  have e2 : ((r : Int) / 2) = ((r / 2 : Nat) : Int) := by omega
  rw [e1, e2]
  unfold mstep
  rcases Nat.mod_two_eq_zero_or_one r with h0 | h0
  · rw [h0]
    have e3 : bits .and .u32 3988292384 (-((0 : Nat) : Int) % 4294967296) = ((0 : Nat) : Int) := by
      have := u32_and_nat 3988292384 0 (by omega) (by omega)
      simpa using this
    rw [e3, u32_xor_nat _ _ (by omega) (by omega)]
    simp
  · rw [h0]
    have e3 : bits .and .u32 3988292384 (-((1 : Nat) : Int) % 4294967296) = ((3988292384 : Nat) : Int) := by
      have := u32_and_nat 3988292384 4294967295 (by omega) (by omega)
      exact this
    rw [e3, u32_xor_nat _ _ (by omega) (by omega)]
    simp
theorem not_go (r : Nat) (h : r < 4294967296) : bits .xor .u32 IntKind.u32.max (r : Int) = ((4294967295 - r : Nat) : Int) := by
  have e : IntKind.u32.max = ((4294967295 : Nat) : Int) := by decide
  rw [e, u32_xor_nat _ _ (by omega) h]
  have h1 : (BitVec.allOnes 32 ^^^ BitVec.ofNat 32 r).toNat = 4294967295 - r := by
    rw [BitVec.allOnes_xor, BitVec.toNat_not, BitVec.toNat_ofNat, Nat.mod_eq_of_lt h]
  rw [BitVec.toNat_xor, BitVec.toNat_allOnes, BitVec.toNat_ofNat, Nat.mod_eq_of_lt h] at h1
  exact congrArg _ h1

/-! The register is linear over exclusive or, and a shift loses nothing. -/
theorem xor_div2 (a b : Nat) : (a ^^^ b) / 2 = a / 2 ^^^ b / 2 := by
  apply Nat.eq_of_testBit_eq
  intro i
  rw [Nat.testBit_xor, ← Nat.testBit_succ, ← Nat.testBit_succ, ← Nat.testBit_succ, Nat.testBit_xor]
theorem xor_mod2 (a b : Nat) : (a ^^^ b) % 2 = (a % 2 + b % 2) % 2 := by
  have h := Nat.testBit_xor (x := a) (y := b) (i := 0)
  rw [Nat.testBit_zero, Nat.testBit_zero, Nat.testBit_zero] at h
  have hx := Nat.mod_two_eq_zero_or_one (a ^^^ b)
  generalize (a ^^^ b) % 2 = x at *
  rcases hx with hx | hx <;> rcases Nat.mod_two_eq_zero_or_one a with ha | ha <;> rcases Nat.mod_two_eq_zero_or_one b with hb | hb <;> rw [hx, ha, hb] at h <;> rw [hx, ha, hb] <;> revert h <;> decide
theorem mstep_xor (a b : Nat) : mstep (a ^^^ b) = mstep a ^^^ mstep b := by
  unfold mstep
  rw [xor_div2, xor_mod2]
  rcases Nat.mod_two_eq_zero_or_one a with ha | ha <;> rcases Nat.mod_two_eq_zero_or_one b with hb | hb <;> rw [ha, hb] <;> simp
  · rw [Nat.xor_assoc]
  · rw [Nat.xor_assoc, Nat.xor_comm (b / 2), ← Nat.xor_assoc]
  · rw [Nat.xor_assoc, Nat.xor_comm (b / 2), ← Nat.xor_assoc 3988292384, Nat.xor_self, Nat.zero_xor]
theorem msteps_xor (k : Nat) : ∀ a b, msteps k (a ^^^ b) = msteps k a ^^^ msteps k b := by
  induction k with
  | zero => intro a b; rfl
  | succ k ih => intro a b; show msteps k (mstep (a ^^^ b)) = _; rw [mstep_xor, ih]; rfl
theorem xor4 (a b c d : Nat) : (a ^^^ b) ^^^ (c ^^^ d) = (a ^^^ c) ^^^ (b ^^^ d) := by
  rw [Nat.xor_assoc, ← Nat.xor_assoc b, Nat.xor_comm b c, Nat.xor_assoc c, ← Nat.xor_assoc]
theorem crcByte_xor (s t b c : Nat) : crcByte (s ^^^ t) (b ^^^ c) = crcByte s b ^^^ crcByte t c := by
  unfold crcByte
  rw [xor4, msteps_xor]

def xor3 : List Nat → List Nat → List Nat → List Nat
  | a :: l, b :: m, c :: n => (a ^^^ b ^^^ c) :: xor3 l m n
  | _, _, _ => []
theorem crcRaw_xor3 (l : List Nat) : ∀ (m n : List Nat) (s t u : Nat), l.length = m.length → l.length = n.length →
    crcRaw (s ^^^ t ^^^ u) (xor3 l m n) = crcRaw s l ^^^ crcRaw t m ^^^ crcRaw u n := by
  induction l with
  | nil =>
    intro m n s t u hm hn
    obtain rfl : m = [] := List.eq_nil_of_length_eq_zero hm.symm
    obtain rfl : n = [] := List.eq_nil_of_length_eq_zero hn.symm
    rfl
  | cons a l ih =>
    intro m n s t u hm hn
    match m, n, hm, hn with
    | b :: m, c :: n, hm, hn =>
      have e : crcByte (s ^^^ t ^^^ u) (a ^^^ b ^^^ c) = crcByte s a ^^^ crcByte t b ^^^ crcByte u c := by
        rw [← crcByte_xor, ← crcByte_xor]
      show crcRaw (crcByte (s ^^^ t ^^^ u) (a ^^^ b ^^^ c)) (xor3 l m n) = _
      rw [e, ih m n _ _ _ (by simpa using hm) (by simpa using hn)]
      rfl
theorem xor3_length (l : List Nat) : ∀ (m n : List Nat), l.length = m.length → l.length = n.length → (xor3 l m n).length = l.length := by
  induction l with
  | nil => intro m n hm hn; cases m <;> cases n <;> rfl
  | cons a l ih =>
    intro m n hm hn
    match m, n, hm, hn with
    | b :: m, c :: n, hm, hn => simp [xor3, ih m n (by simpa using hm) (by simpa using hn)]
theorem xor3_get (l : List Nat) : ∀ (m n : List Nat) (k : Nat) (h1 : k < l.length) (h2 : k < m.length) (h3 : k < n.length), (xor3 l m n)[k]? = some (l[k] ^^^ m[k] ^^^ n[k]) := by
  induction l with
  | nil => intro m n k h1; simp at h1
  | cons a l ih =>
    intro m n k h1 h2 h3
    match m, n, h2, h3 with
    | b :: m, c :: n, h2, h3 =>
      cases k with
      | zero => rfl
      | succ k => exact ih m n k (by simpa using h1) (by simpa using h2) (by simpa using h3)
theorem flip_xor (a : Nat) (h : a < 4294967296) : 4294967295 - a = 4294967295 ^^^ a := by
  have h1 : (BitVec.allOnes 32 ^^^ BitVec.ofNat 32 a).toNat = 4294967295 - a := by
    rw [BitVec.allOnes_xor, BitVec.toNat_not, BitVec.toNat_ofNat, Nat.mod_eq_of_lt h]
  rw [BitVec.toNat_xor, BitVec.toNat_allOnes, BitVec.toNat_ofNat, Nat.mod_eq_of_lt h] at h1
  exact h1.symm
theorem crcSum_xor3 (l m n : List Nat) (hm : l.length = m.length) (hn : l.length = n.length) (h1 : ∀ b ∈ l, b < 256) (h2 : ∀ b ∈ m, b < 256) (h3 : ∀ b ∈ n, b < 256) (h4 : ∀ b ∈ xor3 l m n, b < 256) :
    crcSum (xor3 l m n) = crcSum l ^^^ crcSum m ^^^ crcSum n := by
  have e : (4294967295 : Nat) = 4294967295 ^^^ 4294967295 ^^^ 4294967295 := by rw [Nat.xor_self, Nat.zero_xor]
  have hr := crcRaw_xor3 l m n 4294967295 4294967295 4294967295 hm hn
  rw [← e] at hr
  unfold crcSum
  rw [hr, flip_xor _ (crcRaw_lt l _ (by omega) h1), flip_xor _ (crcRaw_lt m _ (by omega) h2), flip_xor _ (crcRaw_lt n _ (by omega) h3),
    flip_xor _ (by rw [← hr]; exact crcRaw_lt _ _ (by omega) h4)]
  generalize crcRaw 4294967295 l = a
  generalize crcRaw 4294967295 m = b
  generalize crcRaw 4294967295 n = c
  rw [xor4 4294967295 a 4294967295 b, Nat.xor_self, Nat.zero_xor, ← Nat.xor_assoc (a ^^^ b), Nat.xor_comm (a ^^^ b) 4294967295, Nat.xor_assoc 4294967295]

/-- A shift is undone: what went out stands in the top bit. -/
theorem mstep_inj (a b : Nat) (ha : a < 4294967296) (hb : b < 4294967296) (h : mstep a = mstep b) : a = b := by
  have top : ∀ x, x < 4294967296 → (mstep x).testBit 31 = decide (x % 2 = 1) := fun x hx => by
    unfold mstep
    rw [Nat.testBit_xor, Nat.testBit_lt_two_pow (show x / 2 < 2 ^ 31 by omega)]
    rcases Nat.mod_two_eq_zero_or_one x with h | h <;> rw [h]
    · simp
    · simp only [if_true]; decide
  have hm : a % 2 = b % 2 := by
    have := top a ha
    rw [h, top b hb] at this
    simp at this
    omega
  have hd : a / 2 = b / 2 := by
    have h' := h
    unfold mstep at h'
    rw [hm] at h'
    have := congrArg (· ^^^ (if b % 2 = 1 then 3988292384 else 0)) h'
    simpa [Nat.xor_assoc] using this
  omega
theorem msteps_inj (k : Nat) : ∀ a b, a < 4294967296 → b < 4294967296 → msteps k a = msteps k b → a = b := by
  induction k with
  | zero => intro a b _ _ h; exact h
  | succ k ih => intro a b ha hb h; exact mstep_inj a b ha hb (ih _ _ (mstep_lt a ha) (mstep_lt b hb) h)

/-! Up to four bytes in a row are told by the register. -/
theorem mstep_even (z : Nat) : mstep (2 * z) = z := by
  unfold mstep
  rw [if_neg (by omega)]
  simp
theorem msteps_shift (k : Nat) : ∀ z, msteps k (2 ^ k * z) = z := by
  induction k with
  | zero => intro z; simp [msteps]
  | succ k ih =>
    intro z
    show msteps k (mstep (2 ^ (k + 1) * z)) = z
    rw [show 2 ^ (k + 1) * z = 2 * (2 ^ k * z) by rw [Nat.pow_succ, Nat.mul_comm (2 ^ k) 2, Nat.mul_assoc], mstep_even, ih]
theorem msteps_add (j k : Nat) : ∀ x, msteps (j + k) x = msteps k (msteps j x) := by
  induction j with
  | zero => intro x; rw [Nat.zero_add]; rfl
  | succ j ih => intro x; rw [Nat.succ_add]; exact ih (mstep x)
def wordOf : List Nat → Nat
  | [] => 0
  | b :: l => b ^^^ 256 * wordOf l
theorem wordOf_lt (l : List Nat) (h : ∀ b ∈ l, b < 256) : wordOf l < 256 ^ l.length := by
  induction l with
  | nil => simp [wordOf]
  | cons b l ih =>
    have h1 := ih (fun c hc => h c (by simp [hc]))
    have h2 := h b (by simp)
    have e : 256 ^ (b :: l).length = 2 ^ (8 * (l.length + 1)) := by
      rw [show (256 : Nat) = 2 ^ 8 from rfl, ← Nat.pow_mul]; rfl
    rw [e]
    refine Nat.xor_lt_two_pow ?_ ?_
    · refine Nat.lt_of_lt_of_le h2 ?_
      show 2 ^ 8 ≤ _
      exact Nat.pow_le_pow_right (by omega) (by omega)
    · rw [← e, List.length_cons, Nat.pow_succ, Nat.mul_comm]
      exact Nat.mul_lt_mul_of_pos_right h1 (by omega)
theorem crcRaw_word (l : List Nat) : ∀ s, crcRaw s l = msteps (8 * l.length) (s ^^^ wordOf l) := by
  induction l with
  | nil => intro s; simp [crcRaw, wordOf, msteps]
  | cons b l ih =>
    intro s
    show crcRaw (crcByte s b) l = _
    rw [ih]
    have e : crcByte s b ^^^ wordOf l = msteps 8 (s ^^^ (b ^^^ 256 * wordOf l)) := by
      rw [← Nat.xor_assoc, msteps_xor, show 256 * wordOf l = 2 ^ 8 * wordOf l from rfl, msteps_shift]
      rfl
    rw [e, ← msteps_add, List.length_cons, show 8 + 8 * l.length = 8 * (l.length + 1) by omega]
    rfl
theorem wordOf_inj (l : List Nat) : ∀ m, l.length = m.length → (∀ b ∈ l, b < 256) → (∀ b ∈ m, b < 256) → wordOf l = wordOf m → l = m := by
  induction l with
  | nil => intro m hm _ _ _; exact (List.eq_nil_of_length_eq_zero hm.symm).symm
  | cons b l ih =>
    intro m hm h1 h2 he
    match m, hm, h2, he with
    | c :: m, hm, h2, he =>
      have hb := h1 b (by simp)
      have hc := h2 c (by simp)
      have e1 := congrArg (· % 2 ^ 8) he
      have e2 := congrArg (· / 2 ^ 8) he
      simp only [wordOf, Nat.xor_mod_two_pow, Nat.xor_div_two_pow] at e1 e2
      have z1 : 256 * wordOf l % 2 ^ 8 = 0 := by omega
      have z2 : 256 * wordOf m % 2 ^ 8 = 0 := by omega
      have z3 : b % 2 ^ 8 = b := Nat.mod_eq_of_lt hb
      have z4 : c % 2 ^ 8 = c := Nat.mod_eq_of_lt hc
      have z5 : b / 2 ^ 8 = 0 := Nat.div_eq_of_lt hb
      have z6 : c / 2 ^ 8 = 0 := Nat.div_eq_of_lt hc
      have z7 : 256 * wordOf l / 2 ^ 8 = wordOf l := by omega
      have z8 : 256 * wordOf m / 2 ^ 8 = wordOf m := by omega
      rw [z1, z2, z3, z4, Nat.xor_zero, Nat.xor_zero] at e1
      rw [z5, z6, z7, z8, Nat.zero_xor, Nat.zero_xor] at e2
      rw [e1, ih m (by simpa using hm) (fun x hx => h1 x (by simp [hx])) (fun x hx => h2 x (by simp [hx])) e2]
theorem xor_cancel (s a b : Nat) (h : s ^^^ a = s ^^^ b) : a = b := by
  have := congrArg (s ^^^ ·) h
  simpa [← Nat.xor_assoc] using this
theorem crcRaw_short (s : Nat) (l m : List Nat) (hs : s < 4294967296) (hl : l.length = m.length) (h4 : l.length ≤ 4) (h1 : ∀ b ∈ l, b < 256) (h2 : ∀ b ∈ m, b < 256) (h : crcRaw s l = crcRaw s m) : l = m := by
  rw [crcRaw_word, crcRaw_word, ← hl] at h
  have p : 256 ^ l.length ≤ 4294967296 := by
    have : 256 ^ l.length ≤ 256 ^ 4 := Nat.pow_le_pow_right (by omega) h4
    exact this
  have w1 := wordOf_lt l h1
  have w2 := wordOf_lt m h2
  rw [← hl] at w2
  have := msteps_inj _ _ _ (Nat.xor_lt_two_pow (n := 32) hs (by show _ < 4294967296; omega)) (Nat.xor_lt_two_pow (n := 32) hs (by show _ < 4294967296; omega)) h
  exact wordOf_inj l m hl h1 h2 (xor_cancel _ _ _ this)
theorem crcRaw_state (l : List Nat) : ∀ s t, s < 4294967296 → t < 4294967296 → (∀ b ∈ l, b < 256) → crcRaw s l = crcRaw t l → s = t := by
  induction l with
  | nil => intro s t _ _ _ h; exact h
  | cons b l ih =>
    intro s t hs ht hb h
    have hb' := hb b (by simp)
    have := ih _ _ (crcByte_lt s b hs hb') (crcByte_lt t b ht hb') (fun c hc => hb c (by simp [hc])) h
    have := msteps_inj 8 _ _ (Nat.xor_lt_two_pow (n := 32) hs (by omega)) (Nat.xor_lt_two_pow (n := 32) ht (by omega)) this
    rw [Nat.xor_comm s, Nat.xor_comm t] at this
    exact xor_cancel _ _ _ this
/-- Lists that part in a window of four places alone are told by their checksums. -/
theorem crcSum_window (l m : List Nat) (p : Nat) (hl : l.length = m.length) (h1 : ∀ b ∈ l, b < 256) (h2 : ∀ b ∈ m, b < 256) (ha : ∀ i, ¬ (p ≤ i ∧ i < p + 4) → m[i]? = l[i]?) (h : crcSum l = crcSum m) : l = m := by
  have t1 : m.take p = l.take p := by
    apply List.ext_getElem?
    intro i
    rw [List.getElem?_take, List.getElem?_take]
    split
    · exact ha i (by omega)
    · rfl
  have t2 : (m.drop p).drop 4 = (l.drop p).drop 4 := by
    apply List.ext_getElem?
    intro i
    rw [List.getElem?_drop, List.getElem?_drop, List.getElem?_drop, List.getElem?_drop]
    exact ha _ (by omega)
  have f1 := crcRaw_lt l 4294967295 (by omega) h1
  have f2 := crcRaw_lt m 4294967295 (by omega) h2
  have hr : crcRaw 4294967295 l = crcRaw 4294967295 m := by unfold crcSum at h; omega
  have dl : l = l.take p ++ ((l.drop p).take 4 ++ (l.drop p).drop 4) := by rw [List.take_append_drop, List.take_append_drop]
  have dm : m = l.take p ++ ((m.drop p).take 4 ++ (l.drop p).drop 4) := by rw [← t1, ← t2, List.take_append_drop, List.take_append_drop]
  have m1 : ∀ b ∈ l.take p, b < 256 := fun b hb => h1 b (List.mem_of_mem_take hb)
  have m2 : ∀ b ∈ (l.drop p).take 4, b < 256 := fun b hb => h1 b (List.mem_of_mem_drop (List.mem_of_mem_take hb))
  have m3 : ∀ b ∈ (m.drop p).take 4, b < 256 := fun b hb => h2 b (List.mem_of_mem_drop (List.mem_of_mem_take hb))
  have m4 : ∀ b ∈ (l.drop p).drop 4, b < 256 := fun b hb => h1 b (List.mem_of_mem_drop (List.mem_of_mem_drop hb))
  rw [dl, dm, crcRaw_append, crcRaw_append, crcRaw_append, crcRaw_append] at hr
  have s0 := crcRaw_lt (l.take p) 4294967295 (by omega) m1
  have e := crcRaw_state _ _ _ (crcRaw_lt _ _ s0 m2) (crcRaw_lt _ _ s0 m3) m4 hr
  have := crcRaw_short _ _ _ s0 (by rw [List.length_take, List.length_take, List.length_drop, List.length_drop, hl]) (by rw [List.length_take]; omega) m2 m3 e
  rw [dl, dm, this]
end Go.Proofs.Ytaccekfnbofkpaa
