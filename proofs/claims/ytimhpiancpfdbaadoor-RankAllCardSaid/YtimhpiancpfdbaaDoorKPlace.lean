/- place: where the bit stands that has so many ahead of it. -/
import Derived.Test.YtimhpiancpfdbaaDoorKTz
import Derived.Test.YtimhpiancpfdbaaDoorKRank3
namespace Go.Proofs.YtimhpiancpfdbaaDoor
open Go.RowKit
set_option linter.unusedVariables false

/-- The word's bits that are bit. -/
def wdb (bit : Int) (V a : Nat) : Nat := if bit = 0 then 2 ^ 64 - (wd V a + 1) else wd V a
def IsB (bit : Int) (V p : Nat) : Prop := V.testBit p = decide (bit ≠ 0)
theorem wdb_lt (bit : Int) (V a : Nat) : wdb bit V a < 2 ^ 64 := by
  unfold wdb
  split
  · exact Nat.sub_lt (Nat.two_pow_pos _) (Nat.succ_pos _)
  · exact wd_lt V a
theorem wdb_bit (bit : Int) (V a r : Nat) (hr : r < 64) : (wdb bit V a).testBit r = true ↔ IsB bit V (64 * a + r) := by
  unfold wdb IsB
  by_cases h : bit = 0
  · rw [if_pos h, Nat.testBit_two_pow_sub_succ (wd_lt V a), wd_bit]
    simp [hr, h]
  · rw [if_neg h, wd_bit]
    simp [hr, h]
theorem pop_compl {x : Nat} (hx : x < 2 ^ 64) : ∀ r, r ≤ 64 → pop (2 ^ 64 - (x + 1)) r + pop x r = r := by
  intro r
  induction r with
  | zero => intro _; rfl
  | succ r ih =>
    intro hr
    have ih := ih (by omega)
    rw [pop_next, pop_next]
    have h1 := Nat.testBit_two_pow_sub_succ hx r
    rw [Nat.testBit_eq_decide_div_mod_eq, Nat.testBit_eq_decide_div_mod_eq] at h1
    have h2 : (2 ^ 64 - (x + 1)) / 2 ^ r % 2 < 2 := Nat.mod_lt _ (by decide)
    have h3 : x / 2 ^ r % 2 < 2 := Nat.mod_lt _ (by decide)
    rw [decide_eq_true (show r < 64 by omega), Bool.true_and] at h1
    generalize (2 ^ 64 - (x + 1)) / 2 ^ r % 2 = u at *
    generalize x / 2 ^ r % 2 = v at *
    by_cases hv : v = 1
    · rw [decide_eq_true hv] at h1
      have : ¬ u = 1 := fun e => by rw [decide_eq_true e] at h1; cases h1
      omega
    · rw [decide_eq_false hv] at h1
      have : u = 1 := of_decide_eq_true h1
      omega
theorem cb_part (bit : Int) (V a r : Nat) (hr : r ≤ 64) : cb bit V (64 * a + r) = cb bit V (64 * a) + pop (wdb bit V a) r := by
  have h1 := pop_part V a r hr
  have h2 := pop_le V (64 * a)
  unfold cb wdb
  by_cases h : bit = 0
  · simp only [if_pos h]
    have h3 := pop_compl (wd_lt V a) r hr
    have h4 := pop_le (wd V a) r
    omega
  · simp only [if_neg h]
    exact h1
theorem cb_mono (bit : Int) (V : Nat) {a b : Nat} (h : a ≤ b) : cb bit V a ≤ cb bit V b := by
  obtain ⟨d, rfl⟩ : ∃ d, b = a + d := ⟨b - a, by omega⟩
  unfold cb
  have h1 := pop_add V a d
  have h2 := pop_le (V / 2 ^ a) d
  have h3 := pop_le V a
  split <;> omega
theorem cb_next {bit : Int} {V p : Nat} (h : IsB bit V p) : cb bit V (p + 1) = cb bit V p + 1 := by
  unfold IsB at h
  have h3 := pop_le V p
  unfold cb
  by_cases hb : bit = 0
  · have h2 : pop V (p + 1) = pop V p := by
      rw [pop_next]
      rw [Nat.testBit_eq_decide_div_mod_eq] at h
      simp [hb] at h
      omega
    simp only [if_pos hb]
    omega
  · simp only [if_neg hb]
    exact pop_bit1 (by rw [h]; simp [hb])
theorem cb_unique {bit : Int} {V p r : Nat} (hp : IsB bit V p) (hr : IsB bit V r) (he : cb bit V p = cb bit V r) : p = r := by
  rcases Nat.lt_trichotomy p r with h | h | h
  · have h1 := cb_mono bit V (show p + 1 ≤ r by omega)
    rw [cb_next hp] at h1; omega
  · exact h
  · have h1 := cb_mono bit V (show r + 1 ≤ p by omega)
    rw [cb_next hr] at h1; omega
theorem xor_ones (b : Nat) (hb : b < 2 ^ 64) : (2 ^ 64 - 1) ^^^ b = 2 ^ 64 - (b + 1) := by
  apply Nat.eq_of_testBit_eq
  intro i
  rw [Nat.testBit_xor, Nat.testBit_two_pow_sub_one, Nat.testBit_two_pow_sub_succ hb]
  by_cases hi : i < 64
  · simp [hi]
  · have : b.testBit i = false := Nat.testBit_lt_two_pow (Nat.lt_of_lt_of_le hb (Nat.pow_le_pow_right (by decide) (by omega)))
    simp [hi, this]
theorem not_u64 (x : Nat) (hx : x < 2 ^ 64) : bits .xor .u64 IntKind.u64.max (x : Int) = ((2 ^ 64 - (x + 1) : Nat) : Int) := by
  have e2 : IntKind.u64.max = ((2 ^ 64 - 1 : Nat) : Int) := by decide
  rw [e2, bits_xor_u64_nat _ _ (by decide) (by omega), xor_ones x hx]
set_option maxHeartbeats 2000000 in
theorem place_p (g V n q a0 k0 K p : Nat) (d : Bool) (bit : Int) (w : World) (h : IdxAt w g V n d q) (hT : Tab w) (hb : bit = 0 ∨ bit = 1) (hK : cb bit V (64 * a0) + k0 = K) (hKn : K < cb bit V n) (hp : IsB bit V p) (hcp : cb bit V p = K) :
    Calls Tryd.prog 34 #[.pointer (some ⟨g, 0, none⟩), .int .i64 bit, .int .i64 (a0 : Int), .int .i64 (k0 : Int)] w fun e w' => e = .returned (.int .i64 (p : Int)) ∧ w = w' := by
  have hn := h.2.1
  have hn0 : 0 < n := by
    rcases Nat.eq_zero_or_pos n with h0 | h0
    · subst h0
      have := cb_le bit V 0; omega
    · exact h0
  obtain ⟨b, c, c0, hmc, hcm, kw⟩ := h.word hn0
  obtain ⟨m, hm⟩ : ∃ m, m = (n + 63) / 64 := ⟨_, rfl⟩
  rw [← hm] at c0 hmc kw
  have hm9 : m ≤ 20000 := by omega
  have am : Hid (∀ a, cb bit V (64 * a) ≤ K → a < m) := fun a ha => by
    rcases Nat.lt_or_ge a m with h1 | h1
    · exact h1
    · have := cb_mono bit V (show n ≤ 64 * a by omega)
      omega
  have hK9 : K ≤ 1000000 := by have := cb_le bit V n; omega
  have KW := Lib.hid kw
  have HT := Lib.hid hT
  have HK := Lib.hid hK
  have HP := Lib.hid (And.intro hp hcp)
  clear kw hT hK hp hcp h hm
  unfold maxLen at hcm
  go_enter Tryd.func34, Tryd.ntmps34
  go_wp2_with fail
  go_loop [2, 3] (fun x y => ∃ a k : Nat, a ≤ m ∧ x = .int .i64 (a : Int) ∧ y = .int .i64 (k : Int) ∧ Hid (cb bit V (64 * a) + k = K)) (fun x _ => m - (intOf x).toNat)
  case atStart => exact ⟨a0, k0, by have := am.out a0 (by have := HK.out; omega); omega, rfl, rfl, HK.out⟩
  case round =>
    obtain ⟨a, k, ha, rfl, rfl, hk⟩ := hrel
    have ham := am.out a (by have := hk.out; omega)
    have hk9 : k ≤ 1000000 := by have := hk.out; omega
    have t1 := KW.out a ham
    have hx64 := wd_lt V a
    have CP := Lib.hid (fun r hr => cb_part bit V a r hr)
    have WB := Lib.hid (fun r hr => wdb_bit bit V a r hr)
    obtain ⟨y, hy⟩ : ∃ y, y = wdb bit V a := ⟨_, rfl⟩
    have hy64 : y < 2 ^ 64 := by rw [hy]; exact wdb_lt bit V a
    rw [← hy] at CP WB
    have OC := Lib.hid (fun w' => onesCount_p y w' hy64)
    have hpl := pop_le y 64
    have WI : Hid (∀ w', Tab w' → k < pop y 64 → Calls Tryd.prog 46 #[.int .u64 (y : Int), .int .i64 (k : Int)] w' fun e w'' => ∃ p : Nat, e = .returned (.int .i64 (p : Int)) ∧ p < 64 ∧ y.testBit p = true ∧ pop y p = k ∧ w' = w'') := fun w' hw' hlt => within_p y k hy64 hlt w' hw'
    have C64 := CP.out 64 (Nat.le_refl _)
    have hnot := not_u64 (wd V a) hx64
    have HY : Hid (y = wdb bit V a) := hy
    have DEC : Hid (∀ r, r < 64 → y.testBit r = true → pop y r = k → 64 * a + r = p) := fun r hr ht he => by
      have h1 := CP.out r (by omega)
      have h2 := (WB.out r hr).1 ht
      exact cb_unique h2 HP.out.1 (by have := HP.out.2; have := hk.out; omega)
    unfold wdb at hy
    have HC := Lib.hid C64
    clear C64
    rcases hb with rfl | rfl
    · rw [if_pos rfl] at hy
      rw [← hy] at hnot
      clear hy hx64 hy64
      generalize wd V a = x at *
      generalize pop y 64 = o at *
      go_wp2_with fail
      refine (OC.out _).mono ?_
      rintro e w' ⟨rfl, rfl⟩
      by_cases hlt : k < o
      · go_wp2_with fail
        refine (WI.out _ HT.out hlt).mono ?_
        rintro e w' ⟨r, rfl, hr, htr, hpr, rfl⟩
        have hfin := DEC.out r hr htr hpr
        clear htr hpr
        go_wp2_with fail
        go_ret
        subst hfin
        exact ⟨by go_num, rfl⟩
      · have hnx : Hid (cb 0 V (64 * (a + 1)) + (k - o) = K) := by
          show _ = _
          have h1 := HC.out
          have h2 := hk.out
          rw [show 64 * (a + 1) = 64 * a + 64 by omega, h1]; omega
        go_wp2_with fail
        go_round
        case rel => exact ⟨a + 1, k - o, by omega, by go_num, by go_num, hnx.out⟩
        case measure => simp [intOf]; omega
    · rw [if_neg (by decide)] at hy
      rw [← hy] at t1
      clear hy hx64 hy64 hnot
      generalize pop y 64 = o at *
      go_wp2_with fail
      refine (OC.out _).mono ?_
      rintro e w' ⟨rfl, rfl⟩
      by_cases hlt : k < o
      · go_wp2_with fail
        refine (WI.out _ HT.out hlt).mono ?_
        rintro e w' ⟨r, rfl, hr, htr, hpr, rfl⟩
        have hfin := DEC.out r hr htr hpr
        clear htr hpr
        go_wp2_with fail
        go_ret
        subst hfin
        exact ⟨by go_num, rfl⟩
      · have hnx : Hid (cb 1 V (64 * (a + 1)) + (k - o) = K) := by
          show _ = _
          have h1 := HC.out
          have h2 := hk.out
          rw [show 64 * (a + 1) = 64 * a + 64 by omega, h1]; omega
        go_wp2_with fail
        go_round
        case rel => exact ⟨a + 1, k - o, by omega, by go_num, by go_num, hnx.out⟩
        case measure => simp [intOf]; omega
end Go.Proofs.YtimhpiancpfdbaaDoor
