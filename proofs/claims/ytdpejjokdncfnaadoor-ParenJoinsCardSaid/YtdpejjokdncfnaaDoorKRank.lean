/- Rank: what stands ahead of a place. -/
import Derived.Test.YtdpejjokdncfnaaDoorKSlow
namespace Go.Proofs.YtdpejjokdncfnaaDoor
open Go.RowKit
set_option linter.unusedVariables false

theorem pop_le_mod (x r : Nat) (h : r ≤ 64) : pop (x % 2 ^ 64) r = pop x r := by
  rw [← pop_mod (x % 2 ^ 64) r, ← pop_mod x r, Nat.mod_mod_of_dvd _ (Nat.pow_dvd_pow 2 h)]
theorem pop_part (V a r : Nat) (h : r ≤ 64) : pop V (64 * a + r) = pop V (64 * a) + pop (wd V a) r := by
  rw [pop_add]
  unfold wd
  rw [pop_le_mod _ _ h]
theorem pop_shl (x s : Nat) (h : s ≤ 64) : pop (x * 2 ^ s % 2 ^ 64) 64 = pop x (64 - s) := by
  rw [pop_mod]
  have : pop (x * 2 ^ s) (s + (64 - s)) = pop (x * 2 ^ s) s + pop (x * 2 ^ s / 2 ^ s) (64 - s) := pop_add _ _ _
  rw [show s + (64 - s) = 64 by omega] at this
  rw [this, Nat.mul_div_cancel _ (Nat.two_pow_pos s), ← pop_mod (x * 2 ^ s) s, Nat.mul_mod_left, pop_zero, Nat.zero_add]
/-- How many of the first i bits are bit. -/
def cb (bit : Int) (V i : Nat) : Nat := if bit = 0 then i - pop V i else pop V i
theorem isBit_p (b : Int) (w : World) :
    Calls Tryd.prog 52 #[.int .i64 b] w fun e w' => e = .returned (.bool (decide (b = 0 ∨ b = 1))) ∧ w = w' := by
  by_cases h0 : b = 0
  · have hd : decide (b = 0 ∨ b = 1) = true := decide_eq_true (.inl h0)
    rw [hd]
    have g0 : (b == 0) = true := by rw [beq_iff_eq]; exact h0
    clear hd h0
    go_enter Tryd.func52, Tryd.ntmps52
    go_wp2
    go_ret
    exact ⟨rfl, rfl⟩
  · have g0 : (b == 0) = false := by rw [beq_eq_false_iff_ne]; exact h0
    by_cases h1 : b = 1
    · have hd : decide (b = 0 ∨ b = 1) = true := decide_eq_true (.inr h1)
      rw [hd]
      have g1 : (b == 1) = true := by rw [beq_iff_eq]; exact h1
      clear hd h0 h1
      go_enter Tryd.func52, Tryd.ntmps52
      go_wp2
      go_ret
      exact ⟨rfl, rfl⟩
    · have hd : decide (b = 0 ∨ b = 1) = false := decide_eq_false (by omega)
      rw [hd]
      have g1 : (b == 1) = false := by rw [beq_eq_false_iff_ne]; exact h1
      clear hd h0 h1
      go_enter Tryd.func52, Tryd.ntmps52
      go_wp2
      go_ret
      exact ⟨rfl, rfl⟩
theorem IdxAt.dir {w : World} {g V n q : Nat} (h : IdxAt w g V n true q) : ∃ b c, w.cell? ⟨g, 6, none⟩ = some (.slice (some ⟨b, 0, none⟩) (blk n + 1) c) ∧ b < w.heap.size ∧ ∀ j, j ≤ blk n → w.cell? ⟨b, j, none⟩ = some (.int .u32 ((pop V (512 * j) : Nat) : Int)) := by
  obtain ⟨_, _, A, c, H, hb, _, S, d, rfl, ho⟩ := h
  obtain ⟨b, rfl, _, hbl⟩ := own_some ho (by omega)
  refine ⟨b, d, hb.cell 6, hbl, fun j hj => ?_⟩
  rw [ho.cellAt j (by omega), U32_get _ _ (by rw [aheadL_len]; omega), aheadL_get _ _ _ (by omega)]
theorem IdxAt.word {w : World} {g V n q : Nat} {d : Bool} (h : IdxAt w g V n d q) (h0 : 0 < n) : ∃ b c, w.cell? ⟨g, 0, none⟩ = some (.slice (some ⟨b, 0, none⟩) ((n + 63) / 64) c) ∧ (n + 63) / 64 ≤ c ∧ c ≤ maxLen ∧ ∀ j, j < (n + 63) / 64 → w.cell? ⟨b, j, none⟩ = some (.int .u64 ((wd V j : Nat) : Int)) := by
  obtain ⟨_, _, A, c, H, hb, ho, _⟩ := h
  obtain ⟨b, rfl, _, hbl⟩ := own_some ho (by omega)
  obtain ⟨A', c', e, h1, h2⟩ := own_form ho
  simp only [Value.slice.injEq] at e
  obtain ⟨_, _, rfl⟩ := e
  refine ⟨b, c, hb.cell 0, h1, h2, fun j hj => ?_⟩
  rw [ho.cellAt j (by omega), U64_get _ _ (by rw [words_len]; omega), words_get _ _ _ hj]
set_option maxRecDepth 20000 in
set_option maxHeartbeats 2000000 in
theorem onesAhead_p (g V n q i : Nat) (w : World) (h : IdxAt w g V n true q) (hi : i ≤ n) :
    Calls Tryd.prog 54 #[.pointer (some ⟨g, 0, none⟩), .int .i64 (i : Int)] w fun e w' => e = .returned (.int .i64 ((pop V i : Nat) : Int)) ∧ w = w' := by
  have hn := h.2.1
  obtain ⟨bd, cd, c6, _, kd⟩ := h.dir
  obtain ⟨s, hs⟩ : ∃ s, s = i / 512 := ⟨_, rfl⟩
  obtain ⟨a, ha⟩ : ∃ a, a = i / 64 := ⟨_, rfl⟩
  obtain ⟨r, hr⟩ : ∃ r, r = i % 64 := ⟨_, rfl⟩
  have hsb : s ≤ blk n := by unfold blk; omega
  have td := kd s hsb
  have q1 : (i : Int) / 512 = (s : Int) := by omega
  have q2 : (i : Int) / 64 = (a : Int) := by omega
  have q3 : (i : Int) % 64 = (r : Int) := by omega
  have h8a : 8 * s ≤ a := by omega
  have hi64 : i = 64 * a + r := by omega
  have hr64 : r < 64 := by omega
  have hbn : blk n ≤ 3000 := by unfold blk; omega
  have hp1 : pop V (512 * s) ≤ 1000000 := by have := pop_le V (512 * s); omega
  have P1 : Hid (pop V (512 * s) = pop V (64 * (8 * s))) := by show _ = _; rw [show 512 * s = 64 * (8 * s) by omega]
  have hsI : (s : Int) < ((blk n : Nat) : Int) + 1 := by omega
  have HA := Lib.hid (And.intro hs (And.intro ha hr))
  have HI := Lib.hid hi64
  clear kd hs ha hr hi64
  generalize pop V (512 * s) = p0 at *
  generalize hblk : blk n = bn at *
  clear hblk
  rcases Nat.eq_zero_or_pos n with hn0 | hn0
  · have h0 : i = 0 ∧ a = 0 ∧ r = 0 ∧ s = 0 := by have := HI.out; omega
    obtain ⟨rfl, rfl, rfl, rfl⟩ := h0
    obtain ⟨_, _, A, c, H, hb, ho, _⟩ := h
    have c0 : w.cell? ⟨g, 0, none⟩ = some (.slice A ((n + 63) / 64) c) := hb.cell 0
    subst hn0
    have hA : A = none ∨ ∃ b, A = some ⟨b, 0, none⟩ := by
      rcases ho.2 with ⟨e, _⟩ | ⟨g', cap, cur, e, _⟩
      · simp only [Value.slice.injEq] at e; exact .inl e.1
      · simp only [Value.slice.injEq] at e; exact .inr ⟨g', e.1⟩
    have hc : c ≤ maxLen := by obtain ⟨_, _, e, _, h2⟩ := own_form ho; simp only [Value.slice.injEq] at e; omega
    have hp0 : p0 = 0 := by have := P1.out; rw [this]; rfl
    subst hp0
    have PZ : Hid (pop V 0 = 0) := rfl
    clear hb ho
    unfold maxLen at hc
    rcases hA with rfl | ⟨b, rfl⟩
    all_goals (
      go_enter Tryd.func54, Tryd.ntmps54
      go_wp2_with fail
      refine wp_loop_rounds 1 ?_
      rw [rounds_succ]
      go_wp2_with fail
      go_ret
      exact ⟨by rw [PZ.out]; rfl, rfl⟩)
  · obtain ⟨b, c, c0, hmc, hcm, kw⟩ := h.word hn0
    obtain ⟨m, hm⟩ : ∃ m, m = (n + 63) / 64 := ⟨_, rfl⟩
    rw [← hm] at c0 hmc kw
    have ham : a ≤ m := by have := HI.out; omega
    have hm9 : m ≤ 20000 := by omega
    unfold maxLen at hcm
    have hp8 : p0 ≤ 64 * (s * 8 + 0) := by have := P1.out; have := pop_le V (64 * (8 * s)); omega
    have KW := Lib.hid kw
    have HM := Lib.hid hm
    clear kw hm h
    go_enter Tryd.func54, Tryd.ntmps54
    go_wp2_with fail
    all_goals (
      go_loop [6, 30] (fun v j => ∃ k r0 : Nat, k ≤ a - s * 8 ∧ j = .int .i64 (k : Int) ∧ v = .int .i64 (r0 : Int) ∧ r0 ≤ 64 * (s * 8 + k) ∧ Hid (r0 = pop V (64 * (s * 8 + k)))) (fun _ j => a - s * 8 - (intOf j).toNat)
      case atStart => exact ⟨0, p0, by omega, rfl, rfl, hp8, by show _ = _; rw [P1.out, show 64 * (s * 8 + 0) = 64 * (8 * s) by omega]⟩
      case round =>
        obtain ⟨k, r0, hk, rfl, rfl, hr0, hrp⟩ := hrel
        by_cases hlt : k < a - s * 8
        · first
            | (exfalso; omega)
            | (have t1 := KW.out (s * 8 + k) (by omega)
               have hpn := pop_words V (s * 8 + k)
               rw [← hrp.out] at hpn
               have OC := Lib.hid (fun w' => onesCount_p (wd V (s * 8 + k)) w' (wd_lt _ _))
               have hpx := pop_le (wd V (s * 8 + k)) 64
               generalize pop (wd V (s * 8 + k)) 64 = px at *
               generalize wd V (s * 8 + k) = x at *
               have HPN := Lib.hid hpn
               clear hpn
               go_wp2_with fail
               refine (OC.out _).mono ?_
               rintro e w9 ⟨rfl, rfl⟩
               go_wp2_with fail
               go_round
               case rel => exact ⟨k + 1, r0 + px, by omega, by go_num, by go_num, by omega, HPN.out.symm⟩
               case measure => simp [intOf]; omega)
        · have hka : s * 8 + k = a := by omega
          rw [hka] at hrp hr0
          by_cases hr0z : r = 0
          · have hrb : (r : Int) = 0 := by omega
            have hE : Hid (r0 = pop V i) := by show _ = _; rw [hrp.out, HI.out, hr0z, Nat.add_zero]
            have hrz : ((r : Int) != 0) = false := by simp [hr0z]
            clear hr0z hrb hka
            go_wp2_with fail
            go_ret
            exact ⟨by rw [← hE.out]; rfl, rfl⟩
          · have ham2 : a < m := by have := HI.out; have := HM.out; omega
            first
            | (exfalso; omega)
            | (have t1 := KW.out a ham2
               obtain ⟨tt, htt⟩ : ∃ tt, tt = 64 - r := ⟨_, rfl⟩
               have htI : (64 : Int) - (r : Int) = (tt : Int) := by omega
               have ht64 : tt ≤ 64 := by omega
               have hpx := pop_part V a r (by omega)
               have hsh := pop_shl (wd V a) tt ht64
               rw [show 64 - tt = r by omega] at hsh
               rw [← HI.out, ← hrp.out, ← hsh] at hpx
               have hwr := wrap_u64 (wd V a) tt
               have OC := Lib.hid (fun w' => onesCount_p (wd V a * 2 ^ tt % 2 ^ 64) w' (Nat.mod_lt _ (by decide)))
               have hpl := pop_le (wd V a * 2 ^ tt % 2 ^ 64) 64
               have hrz : ((r : Int) != 0) = true := by rw [bne_iff_ne]; omega
               generalize wd V a * 2 ^ tt % 2 ^ 64 = yy at *
               generalize pop yy 64 = py at *
               generalize wd V a = x at *
               have HPX := Lib.hid hpx
               clear hpx hsh htt hr0z hka
               go_wp2_with fail
               refine (OC.out _).mono ?_
               rintro e w9 ⟨rfl, rfl⟩
               go_wp2_with fail
               go_ret
               exact ⟨by rw [HPX.out]; go_num, rfl⟩))
end Go.Proofs.YtdpejjokdncfnaaDoor
