/- Plain mathematics: the code of order 0 of bits that are all the same is short; told by going through all counts. -/
import Derived.Test.YtkahnaenbgbooaaCMath
namespace Go.Proofs.Ytkahnaenbgbooaa
set_option linter.unusedVariables false

def force {α : Type} (x : Nat) (k : Nat → α) : α := match x with
  | 0 => k 0
  | n + 1 => k (n + 1)
theorem force_eq {α : Type} (x : Nat) (k : Nat → α) : force x k = k x := by cases x <;> rfl
def wayB (lo hi : Nat) : Nat := bif Nat.blt hi 2147483648 then 0 else bif Nat.ble 2147483648 lo then 2 else bif Nat.ble 1073741824 lo && Nat.blt hi 3221225472 then 1 else 3
theorem wayB_eq (lo hi : Nat) : wayOf lo hi = (if wayB lo hi = 3 then none else some (wayB lo hi)) := by
  unfold wayOf wayB
  by_cases h1 : hi < 2147483648
  · rw [if_pos h1, show Nat.blt hi 2147483648 = true from by rw [Nat.blt_eq]; exact h1]; rfl
  · rw [if_neg h1, show Nat.blt hi 2147483648 = false from by rw [← Bool.not_eq_true, Nat.blt_eq]; exact h1]
    by_cases h2 : 2147483648 ≤ lo
    · rw [if_pos h2, show Nat.ble 2147483648 lo = true from by rw [Nat.ble_eq]; exact h2]; rfl
    · rw [if_neg h2, show Nat.ble 2147483648 lo = false from by rw [← Bool.not_eq_true, Nat.ble_eq]; exact h2]
      by_cases h3 : 1073741824 ≤ lo ∧ hi < 3221225472
      · rw [if_pos h3, show Nat.ble 1073741824 lo = true from by rw [Nat.ble_eq]; exact h3.1, show Nat.blt hi 3221225472 = true from by rw [Nat.blt_eq]; exact h3.2]; rfl
      · rw [if_neg h3]
        have : (Nat.ble 1073741824 lo && Nat.blt hi 3221225472) = false := by
          rw [← Bool.not_eq_true, Bool.and_eq_true, Nat.ble_eq, Nat.blt_eq]; exact h3
        rw [this]; rfl
/-- The doublings of a span, and then on. -/
def widC {α : Type} (k : Nat → Nat → Nat → α) : Nat → Nat → Nat → Nat → α
  | 0, lo, hi, D => k lo hi D
  | f + 1, lo, hi, D => force (wayB lo hi) fun w => bif Nat.beq w 3 then k lo hi D else force (dbl lo w) fun lo' => force (dbl hi w + 1) fun hi' => force (D + 1) fun D' => widC k f lo' hi' D'
theorem widC_eq {α : Type} (k : Nat → Nat → Nat → α) : ∀ f lo hi D, widC k f lo hi D = k (wid f lo hi).2.1 (wid f lo hi).2.2 (D + (wid f lo hi).1.length)
  | 0, lo, hi, D => rfl
  | f + 1, lo, hi, D => by
    unfold widC
    simp only [force_eq]
    have hb := wayB_eq lo hi
    by_cases h : wayB lo hi = 3
    · rw [if_pos h] at hb
      rw [h, wid_none hb]; rfl
    · rw [if_neg h] at hb
      have : Nat.beq (wayB lo hi) 3 = false := by rw [← Bool.not_eq_true, Nat.beq_eq]; exact h
      rw [this, wid_some hb, cond_false, widC_eq k f]
      congr 1
      simp; omega
def digL (n : Nat) : Nat := bif Nat.beq n 0 then 0 else Nat.log2 n + 1
/-- Bits b, f of them more, behind n of them. -/
def chk (b : Nat) : Nat → Nat → Nat → Nat → Nat → Nat → Nat → Bool
  | 0, lo, hi, z, o, D, n => true
  | f + 1, lo, hi, z, o, D, n => Nat.ble D (digL n + 2) &&
    force (midOf lo hi z o) fun m => force (bif Nat.beq b 0 then z + 1 else z) fun z' => force (bif Nat.beq b 0 then o else o + 1) fun o' => force (n + 1) fun n' =>
      Nat.blt (z' + o') 65536 && widC (fun lo hi D => chk b f lo hi z' o' D n') 33 (bif Nat.beq b 0 then lo else m + 1) (bif Nat.beq b 0 then m else hi) D
theorem chk_ok (b : Nat) : ∀ (f : Nat) (s : Es) (z o n : Nat), s.zs = [z] → s.os = [o] → s.c = 0 → chk b f s.lo s.hi z o s.ways.length n = true →
    ∀ j, j < f → ((List.replicate j b).foldl (estep 0) s).ways.length ≤ digL (n + j) + 2
  | 0, s, z, o, n, hz, ho, hc, h => fun j hj => absurd hj (by omega)
  | f + 1, s, z, o, n, hz, ho, hc, h => by
    intro j hj
    unfold chk at h
    simp only [force_eq, Bool.and_eq_true, Nat.ble_eq, Nat.blt_eq, widC_eq] at h
    obtain ⟨h1, h2, h3⟩ := h
    cases j with
    | zero => exact h1
    | succ j =>
      have hsz : s.z = z := by simp [Es.z, hz, hc]
      have hso : s.o = o := by simp [Es.o, ho, hc]
      rw [List.replicate_succ, List.foldl_cons]
      have hbe : Nat.beq b 0 = decide (b = 0) := by
        by_cases hb : b = 0
        · subst hb; rfl
        · rw [decide_eq_false hb, ← Bool.not_eq_true, Nat.beq_eq]; exact hb
      have e1 : (bif Nat.beq b 0 then s.lo else midOf s.lo s.hi z o + 1) = nLo s b := by
        unfold nLo Es.mid; rw [hsz, hso, hbe]; by_cases hb : b = 0 <;> simp [hb]
      have e2 : (bif Nat.beq b 0 then midOf s.lo s.hi z o else s.hi) = nHi s b := by
        unfold nHi Es.mid; rw [hsz, hso, hbe]; by_cases hb : b = 0 <;> simp [hb]
      have e3 : (bif Nat.beq b 0 then z + 1 else z) = upZ s b := by unfold upZ; rw [hsz, hbe]; by_cases hb : b = 0 <;> simp [hb]
      have e4 : (bif Nat.beq b 0 then o else o + 1) = upO s b := by unfold upO; rw [hso, hbe]; by_cases hb : b = 0 <;> simp [hb]
      rw [e3, e4] at h2
      rw [e1, e2, e3, e4] at h3
      have hh : ∀ x, halve (upZ s b) (upO s b) x = x := fun x => by unfold halve; rw [if_neg (by omega)]
      have := chk_ok b f (estep 0 s b) (upZ s b) (upO s b) (n + 1) (by simp [estep, hz, hc, hh]) (by simp [estep, ho, hc, hh]) (by simp [estep]; omega) (by simpa [estep] using h3) j (by omega)
      rwa [show n + (j + 1) = n + 1 + j by omega]
theorem chk_all : chk 0 6000 0 4294967295 1 1 0 0 = true := by decide +kernel
theorem chk_all1 : chk 1 6000 0 4294967295 1 1 0 0 = true := by decide +kernel
/-- Of n bits that are all the same the code is short. -/
theorem shrinks (b n : Nat) (hb : b < 2) (hn : n < 6000) : (codeOf 0 (List.replicate n b)).length ≤ digL n + 4 := by
  have h : chk b 6000 0 4294967295 1 1 0 0 = true := by
    rcases Nat.lt_or_ge b 1 with h | h
    · obtain rfl : b = 0 := by omega
      exact chk_all
    · obtain rfl : b = 1 := by omega
      exact chk_all1
  have := chk_ok b 6000 (e0 0) 1 1 0 rfl rfl rfl h n hn
  rw [code_len]
  rw [Nat.zero_add] at this
  exact Nat.add_le_add_right this 2
end Go.Proofs.Ytkahnaenbgbooaa
