/- Plain mathematics of the checksum: the shift register over natural numbers; no program in sight. -/
import Derived.Laws.BitsAllLaws
namespace Go.Proofs.Ytaccekfnbofkpaa

/-- One shift of the register: its lowest bit goes out and, where it was 1, the polynomial is laid in. -/
def mstep (x : Nat) : Nat := (x / 2) ^^^ (if x % 2 = 1 then 3988292384 else 0)
def msteps : Nat → Nat → Nat
  | 0, x => x
  | k + 1, x => msteps k (mstep x)
def crcByte (s b : Nat) : Nat := msteps 8 (s ^^^ b)
def crcRaw (s : Nat) (l : List Nat) : Nat := l.foldl crcByte s
def crcSum (l : List Nat) : Nat := 4294967295 - crcRaw 4294967295 l

theorem mstep_lt (x : Nat) (h : x < 4294967296) : mstep x < 4294967296 := by
  unfold mstep
  refine Nat.xor_lt_two_pow (n := 32) (by omega) ?_
  split <;> omega
theorem msteps_lt (k : Nat) : ∀ x, x < 4294967296 → msteps k x < 4294967296 := by
  induction k with
  | zero => intro x h; exact h
  | succ k ih => intro x h; exact ih _ (mstep_lt x h)
theorem msteps_succ (k : Nat) : ∀ x, msteps (k + 1) x = mstep (msteps k x) := by
  induction k with
  | zero => intro x; rfl
  | succ k ih => intro x; exact ih (mstep x)
theorem crcByte_lt (s b : Nat) (h : s < 4294967296) (hb : b < 256) : crcByte s b < 4294967296 :=
  msteps_lt 8 _ (Nat.xor_lt_two_pow (n := 32) h (by omega))
theorem crcRaw_lt (l : List Nat) : ∀ s, s < 4294967296 → (∀ b ∈ l, b < 256) → crcRaw s l < 4294967296 := by
  induction l with
  | nil => intro s h _; exact h
  | cons b l ih => intro s h hl; exact ih _ (crcByte_lt s b h (hl b (by simp))) (fun c hc => hl c (by simp [hc]))
theorem crcRaw_snoc (s : Nat) (l : List Nat) (b : Nat) : crcRaw s (l ++ [b]) = crcByte (crcRaw s l) b := by simp [crcRaw]
theorem crcRaw_append (s : Nat) (l m : List Nat) : crcRaw s (l ++ m) = crcRaw (crcRaw s l) m := by simp [crcRaw]
theorem crcSum_lt (l : List Nat) : crcSum l < 4294967296 := by unfold crcSum; omega

/-- The shift as the program spells it. -/
theorem mstep_go (r : Nat) (h : r < 4294967296) :
    bits .xor .u32 ((r : Int) / 2) (bits .and .u32 3988292384 (-bits .and .u32 (r : Int) 1 % 4294967296)) = (mstep r : Int) := by
  have e1 : bits .and .u32 (r : Int) 1 = ((r % 2 : Nat) : Int) := by
    have := u32_and_nat r 1 h (by omega)
    rw [nat_mask1] at this
    exact this
  have e2 : ((r : Int) / 2) = ((r / 2 : Nat) : Int) := by omega
  rw [e1, e2]
  unfold mstep
  rcases Nat.mod_two_eq_zero_or_one r with h0 | h0
  · rw [h0]
    have e3 : bits .and .u32 3988292384 (-((0 : Nat) : Int) % 4294967296) = ((0 : Nat) : Int) := by
      have := u32_and_nat 3988292384 0 (by omega) (by omega)
      simpa using this
    rw [e3, u32_xor_nat _ _ (by omega) (by omega)]
    simp
  · rw [h0]
    have e3 : bits .and .u32 3988292384 (-((1 : Nat) : Int) % 4294967296) = ((3988292384 : Nat) : Int) := by
      have := u32_and_nat 3988292384 4294967295 (by omega) (by omega)
      exact this
    rw [e3, u32_xor_nat _ _ (by omega) (by omega)]
    simp
theorem not_go (r : Nat) (h : r < 4294967296) : bits .xor .u32 IntKind.u32.max (r : Int) = ((4294967295 - r : Nat) : Int) := by
  have e : IntKind.u32.max = ((4294967295 : Nat) : Int) := by decide
  rw [e, u32_xor_nat _ _ (by omega) h]
  have h1 : (BitVec.allOnes 32 ^^^ BitVec.ofNat 32 r).toNat = 4294967295 - r := by
    rw [BitVec.allOnes_xor, BitVec.toNat_not, BitVec.toNat_ofNat, Nat.mod_eq_of_lt h]
  rw [BitVec.toNat_xor, BitVec.toNat_allOnes, BitVec.toNat_ofNat, Nat.mod_eq_of_lt h] at h1
  exact congrArg _ h1
end Go.Proofs.Ytaccekfnbofkpaa
