/- The place of a word's one with so many ones ahead of it. -/
import Derived.Test.YtimhpiancpfdbaaDoorKRank2
import Derived.Shelf.Spec.TrailingZeros
namespace Go.Proofs.YtimhpiancpfdbaaDoor
open Go.RowKit
set_option linter.unusedVariables false

theorem pop_next (x i : Nat) : pop x (i + 1) = pop x i + x / 2 ^ i % 2 := by
  rw [pop_add]
  congr 1
  simp [pop, numL, List.range_succ]
theorem pop_bit1 {x i : Nat} (h : x.testBit i = true) : pop x (i + 1) = pop x i + 1 := by
  rw [pop_next]
  rw [Nat.testBit_eq_decide_div_mod_eq, decide_eq_true_iff] at h
  rw [h]
theorem pop_mono (x : Nat) {a b : Nat} (h : a ≤ b) : pop x a ≤ pop x b := by
  obtain ⟨d, rfl⟩ : ∃ d, b = a + d := ⟨b - a, by omega⟩
  rw [pop_add]; omega
/-- There is a one with just so many ahead. -/
theorem one_at (x j : Nat) : ∀ c, j < pop x c → ∃ i, i < c ∧ x.testBit i = true ∧ pop x i = j := by
  intro c
  induction c with
  | zero => intro h; simp [pop, numL] at h
  | succ c ih =>
    intro h
    by_cases hb : x.testBit c = true
    · rw [pop_bit1 hb] at h
      by_cases he : pop x c = j
      · exact ⟨c, by omega, hb, he⟩
      · obtain ⟨i, h1, h2, h3⟩ := ih (by omega)
        exact ⟨i, by omega, h2, h3⟩
    · have : pop x (c + 1) = pop x c := by
        rw [pop_next]
        rw [Nat.testBit_eq_decide_div_mod_eq, decide_eq_true_iff] at hb
        omega
      rw [this] at h
      obtain ⟨i, h1, h2, h3⟩ := ih h
      exact ⟨i, by omega, h2, h3⟩
theorem one_unique {x i c : Nat} (hi : x.testBit i = true) (hc : x.testBit c = true) (he : pop x i = pop x c) : i = c := by
  rcases Nat.lt_trichotomy i c with h | h | h
  · have h1 := pop_mono x (show i + 1 ≤ c by omega)
    rw [pop_bit1 hi] at h1; omega
  · exact h
  · have h1 := pop_mono x (show c + 1 ≤ i by omega)
    rw [pop_bit1 hc] at h1; omega
/-- The word without its lowest one. -/
theorem clr_bit {y c m : Nat} (h : y = 2 ^ c * (2 * m + 1)) (i : Nat) : (y &&& (y - 1)).testBit i = (y.testBit i && decide (i ≠ c)) := by
  have h1 : y - 1 = 2 ^ c * (2 * m) + (2 ^ c - 1) := by
    have := Nat.two_pow_pos c
    rw [h, Nat.mul_add, Nat.mul_one]; omega
  have h2 : y = 2 ^ c * (2 * m + 1) + 0 := by rw [h]; rfl
  have hlt : 2 ^ c - 1 < 2 ^ c := by have := Nat.two_pow_pos c; omega
  rw [Nat.testBit_and, h1, Nat.testBit_two_pow_mul_add _ hlt]
  rw [h2, Nat.testBit_two_pow_mul_add _ (Nat.two_pow_pos c)]
  by_cases hic : i < c
  · simp [hic]
  · by_cases he : i = c
    · subst he; simp
    · obtain ⟨k, hk⟩ : ∃ k, i - c = k + 1 := ⟨i - c - 1, by omega⟩
      simp only [hic, if_false, hk, Nat.testBit_succ]
      rw [show (2 * m + 1) / 2 = m by omega, show 2 * m / 2 = m by omega]
      simp [he]
/-- y is x without its j lowest ones. -/
def Cleared (x j y : Nat) : Prop := y < 2 ^ 64 ∧ ∀ i, y.testBit i = (x.testBit i && decide (j ≤ pop x i))
theorem Cleared.start {x : Nat} (h : x < 2 ^ 64) : Cleared x 0 x := ⟨h, fun i => by simp⟩
theorem Cleared.low {x j k y : Nat} (h : Cleared x j y) (hjk : j ≤ k) (hk : k < pop x 64) : y ≠ 0 := by
  obtain ⟨i, _, h2, h3⟩ := one_at x k 64 hk
  intro e
  have := h.2 i
  rw [e, h2, h3, decide_eq_true hjk] at this
  simp at this
theorem Cleared.first {x j y : Nat} (h : Cleared x j y) (h0 : y ≠ 0) : ∃ m, y = 2 ^ Lib.ctz 64 y * (2 * m + 1) ∧ Lib.ctz 64 y < 64 ∧ x.testBit (Lib.ctz 64 y) = true ∧ pop x (Lib.ctz 64 y) = j := by
  obtain ⟨m, hm, hc⟩ := Lib.ctzFrom_spec 64 y (by omega) h.1
  have e : Lib.ctz 64 y = Lib.ctzFrom 64 y := by simp [Lib.ctz, h0]
  rw [e]
  generalize Lib.ctzFrom 64 y = c at *
  have hb : ∀ i, y.testBit i = if i < c then false else (2 * m + 1).testBit (i - c) := fun i => by
    rw [show y = 2 ^ c * (2 * m + 1) + 0 by rw [hm]; rfl, Nat.testBit_two_pow_mul_add _ (Nat.two_pow_pos c)]
    simp
  have hyc : y.testBit c = true := by rw [hb c]; simp
  have hxc := h.2 c
  rw [hyc] at hxc
  have hx2 := Bool.and_eq_true_iff.1 hxc.symm
  have hjc : j ≤ pop x c := of_decide_eq_true hx2.2
  refine ⟨m, hm, hc, hx2.1, ?_⟩
  by_cases he : pop x c = j
  · exact he
  · obtain ⟨i, h1, h2, h3⟩ := one_at x j c (by omega)
    have := h.2 i
    rw [hb i, if_pos h1, h2, h3, decide_eq_true (Nat.le_refl j)] at this
    simp at this
theorem Cleared.next {x j y : Nat} (h : Cleared x j y) (h0 : y ≠ 0) : Cleared x (j + 1) (y &&& (y - 1)) := by
  obtain ⟨m, hm, hc, hxc, hpc⟩ := h.first h0
  refine ⟨Nat.lt_of_le_of_lt Nat.and_le_left h.1, fun i => ?_⟩
  rw [clr_bit hm i, h.2 i]
  generalize Lib.ctz 64 y = c at *
  by_cases hx : x.testBit i = true
  · rw [hx]
    by_cases hi : i = c
    · subst hi
      rw [hpc]; simp
    · have hne : pop x i ≠ j := fun e => hi (one_unique hx hxc (by rw [e, hpc]))
      simp [hi]
      omega
  · simp only [Bool.not_eq_true] at hx
    rw [hx]; simp
/-- The library's table. -/
structure Tab (w : World) : Prop where
  at_ : TabAt 0 Lib.deBruijn64tab w
theorem Tab.below {w w' : World} {B : Nat} (h : Tab w) (hB : 0 < B) (m : Below B w w') : Tab w' := ⟨fun j hj => (m.cell (p := ⟨0, j, none⟩) hB).trans (h.at_ j hj)⟩
set_option maxHeartbeats 1000000 in
theorem tz_core (x k idx : Nat) (w : World) (hx0 : ((x : Int) == 0) = false)
    (key : IntKind.u64.wrap (bits BinOp.and IntKind.u64 (x : Int) (IntKind.u64.wrap (-(x : Int))) * 285870213051353865) / 288230376151711744 = (idx : Int))
    (hi : idx < 64) (hk : k < 64) (hcell : w.cell? ⟨0, idx, none⟩ = some (.int .u8 (k : Int))) :
    Calls Tryd.prog 54 #[.int .u64 (x : Int)] w fun e w' => e = .returned (.int .i64 (k : Int)) ∧ w = w' := by
  go_enter Tryd.func54, Tryd.ntmps54
  go_wp2_with (simp only [key])
  go_ret
  exact ⟨rfl, rfl⟩
theorem tz_p (x : Nat) (hx : x < 18446744073709551616) (hx0 : x ≠ 0) (w : World) (hT : Tab w) :
    Calls Tryd.prog 54 #[.int .u64 (x : Int)] w fun e w' => e = .returned (.int .i64 ((Lib.ctz 64 x : Nat) : Int)) ∧ w = w' := by
  obtain ⟨hlow, hk⟩ := Lib.lowest_bit 64 x hx0 hx
  obtain ⟨hi, htab⟩ := Lib.deBruijn64_at _ hk
  have hcell := hT.at_ _ hi
  rw [htab] at hcell
  exact tz_core x _ _ w (by simp; omega) (tz64_key x _ hx hx0 hlow) hi hk hcell
set_option maxHeartbeats 1000000 in
theorem within_p (x k : Nat) (hx : x < 2 ^ 64) (hk : k < pop x 64) (w : World) (hT : Tab w) :
    Calls Tryd.prog 46 #[.int .u64 (x : Int), .int .i64 (k : Int)] w fun e w' => ∃ p : Nat, e = .returned (.int .i64 (p : Int)) ∧ p < 64 ∧ x.testBit p = true ∧ pop x p = k ∧ w = w' := by
  have hk64 : k < 64 := Nat.lt_of_lt_of_le hk (pop_le x 64)
  have HK := Lib.hid hk
  have HT := Lib.hid hT
  have HS := Lib.hid (Cleared.start hx)
  clear hT hk
  go_enter Tryd.func46, Tryd.ntmps46
  go_wp2_with fail
  go_loop [0, 6] (fun v i => ∃ j y : Nat, j ≤ k ∧ i = .int .i64 (j : Int) ∧ v = .int .u64 (y : Int) ∧ Hid (Cleared x j y)) (fun _ i => k - (intOf i).toNat)
  case atStart => exact ⟨0, x, by omega, rfl, rfl, HS.out⟩
  case round =>
    obtain ⟨j, y, hj, rfl, rfl, hc⟩ := hrel
    have hy0 : y ≠ 0 := hc.out.low hj HK.out
    have hy1 : 1 ≤ y := by omega
    have hy64 : y < 18446744073709551616 := hc.out.1
    by_cases hlt : j < k
    · have hand : bits .and .u64 (y : Int) ((y : Int) - 1) = ((y &&& (y - 1) : Nat) : Int) := by
        rw [show (y : Int) - 1 = ((y - 1 : Nat) : Int) by omega]; exact u64_and_nat y (y - 1) hc.out.1 (by omega)
      have NX := Lib.hid (hc.out.next hy0)
      clear hc hy0
      generalize y &&& (y - 1) = y2 at *
      go_wp2_with fail
      go_round
      case rel => exact ⟨j + 1, y2, by omega, by go_num, rfl, NX.out⟩
      case measure => simp [intOf]; omega
    · obtain rfl : j = k := by omega
      obtain ⟨c, TZ, HF⟩ : ∃ c : Nat, Hid (∀ w', Tab w' → Calls Tryd.prog 54 #[.int .u64 (y : Int)] w' fun e w'' => e = .returned (.int .i64 (c : Int)) ∧ w' = w'') ∧ Hid (c < 64 ∧ x.testBit c = true ∧ pop x c = j) := by
        obtain ⟨m, _, h1, h2, h3⟩ := hc.out.first hy0
        exact ⟨_, fun w' hw' => tz_p y hy64 hy0 w' hw', h1, h2, h3⟩
      clear hc hy0
      go_wp2_with fail
      refine (TZ.out _ HT.out).mono ?_
      rintro e w' ⟨rfl, rfl⟩
      go_wp2_with fail
      go_ret
      exact ⟨c, rfl, HF.out.1, HF.out.2.1, HF.out.2.2, rfl⟩
end Go.Proofs.YtimhpiancpfdbaaDoor
