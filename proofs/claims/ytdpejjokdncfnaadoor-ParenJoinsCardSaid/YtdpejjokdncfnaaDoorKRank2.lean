/- Rank; At; how many there are of a bit; what stands ahead of a block. -/
import Derived.Test.YtdpejjokdncfnaaDoorKRank
import Derived.Deep.QuietTactic
import Derived.BigQuiet
namespace Go.Proofs.YtdpejjokdncfnaaDoor
open Go.RowKit
set_option linter.unusedVariables false

theorem cb_le (bit : Int) (V i : Nat) : cb bit V i ≤ i := by
  unfold cb
  split
  · omega
  · exact pop_le V i
theorem min_len (a n : Nat) (ha : a ≤ 2000000) (hn : n ≤ 1000000) : ∀ w, (Builtin.min_ #[3, 3] 3 #[.int .i64 (a : Int), .int .i64 (n : Int)]).run Tryd.prog w = .ok (.int .i64 ((min a n : Nat) : Int)) w := fun w => by
  simp [Builtin.min_, Builtin.min2]
  repeat' split
  all_goals omega
theorem xat_out (g V n q : Nat) (d : Bool) (i : Int) (w : World) (h : IdxAt w g V n d q) (hi : i < 0 ∨ (n : Int) ≤ i) :
    Calls Tryd.prog 29 #[.pointer (some ⟨g, 0, none⟩), .int .i64 i] w fun e w' => e = .returned (.int .i64 (-1)) ∧ w = w' := by
  have XL := Lib.hid (xlen_p g V n q d w h)
  clear h
  by_cases h0 : i < 0
  · go_enter Tryd.func29, Tryd.ntmps29
    go_wp2_with fail
    go_ret
    exact ⟨rfl, rfl⟩
  · have h1 : (n : Int) ≤ i := by omega
    clear hi
    go_enter Tryd.func29, Tryd.ntmps29
    go_wp2_with fail
    refine XL.out.mono ?_
    rintro e w' ⟨rfl, rfl⟩
    go_wp2_with fail
    go_ret
    exact ⟨rfl, rfl⟩
theorem xat_in (g V n q i : Nat) (d : Bool) (w : World) (h : IdxAt w g V n d q) (hi : i < n) :
    Calls Tryd.prog 29 #[.pointer (some ⟨g, 0, none⟩), .int .i64 (i : Int)] w fun e w' => e = .returned (.int .i64 ((V / 2 ^ i % 2 : Nat) : Int)) ∧ w = w' := by
  have XL := Lib.hid (xlen_p g V n q d w h)
  have hn := h.2.1
  obtain ⟨b, c, c0, hmc, hcm, kw⟩ := h.word (by omega)
  obtain ⟨m, hm⟩ : ∃ m, m = (n + 63) / 64 := ⟨_, rfl⟩
  rw [← hm] at c0 hmc kw
  obtain ⟨a, ha⟩ : ∃ a, a = i / 64 := ⟨_, rfl⟩
  obtain ⟨r, hr⟩ : ∃ r, r = i % 64 := ⟨_, rfl⟩
  have t1 := kw a (by omega)
  have q2 : (i : Int) / 64 = (a : Int) := by omega
  have q3 : (i : Int) % 64 = (r : Int) := by omega
  have hr64 : r < 64 := by omega
  have ham : (a : Int) < (m : Int) := by omega
  have hlt : ¬ (n : Int) ≤ (i : Int) := by omega
  have hG := get_one V a r 1 (by omega)
  rw [show 64 * a + r = i by omega, Nat.pow_one] at hG
  have hm9 : m ≤ 20000 := by omega
  have hx64 := wd_lt V a
  have hand : bits .and .u64 ((wd V a : Int) / 2 ^ r) 1 = ((V / 2 ^ i % 2 : Nat) : Int) := by
    have e : ((wd V a : Int) / 2 ^ r) = ((wd V a / 2 ^ r : Nat) : Int) := by simp
    rw [e, ← hG]
    have := u64_and_nat (wd V a / 2 ^ r) 1 (Nat.lt_of_le_of_lt (Nat.div_le_self _ _) hx64) (by decide)
    rw [show ((1 : Nat) : Int) = 1 from rfl] at this
    rw [this, show (1 : Nat) = 2 ^ 1 - 1 by rfl, Nat.and_two_pow_sub_one_eq_mod]
  have hv2 : V / 2 ^ i % 2 < 2 := Nat.mod_lt _ (by decide)
  generalize V / 2 ^ i % 2 = v at *
  generalize wd V a = x at *
  clear kw hm ha hr hG h hcm
  go_enter Tryd.func29, Tryd.ntmps29
  go_wp2_with fail
  refine XL.out.mono ?_
  rintro e w' ⟨rfl, rfl⟩
  go_wp2_with fail
  go_ret
  exact ⟨rfl, rfl⟩
/-! ### Rank -/
theorem rank_nil (bit i : Int) (w : World) :
    Calls Tryd.prog 34 #[.pointer none, .int .i64 bit, .int .i64 i] w fun e w' => e = .returned (.tuple #[.int .i64 0, .int .i64 2]) ∧ w = w' := by
  go_enter Tryd.func34, Tryd.ntmps34
  go_wp2_with fail
  go_ret2
  exact ⟨rfl, rfl⟩
theorem asked_next {w : World} {g V n q : Nat} {d : Bool} (h : IdxAt w g V n d q) : IdxAt (w.setCell ⟨g, 8, none⟩ (.int .i64 ((q : Int) + 1))) g V n d (q + 1) ∧ Mod (fun i => i = g) w (w.setCell ⟨g, 8, none⟩ (.int .i64 ((q : Int) + 1))) := by
  have m1 : Mod (fun i => i = g) w (w.setCell ⟨g, 8, none⟩ (.int .i64 ((q : Int) + 1))) := Mod.setCell (p := ⟨g, 8, none⟩) (Mod.refl (fun i => i = g) w) (fun _ => rfl) _
  obtain ⟨hV, hn, A, c, H, hb, ho, hd⟩ := h
  refine ⟨⟨hV, hn, A, c, H, ?_, own_mod ho m1 fun k hk hx => by have := (ho.lt k hk).1; omega, ?_⟩, m1⟩
  · have := hb.set_ 8 (.int .i64 ((q : Int) + 1))
    rw [show ((q : Int) + 1) = ((q + 1 : Nat) : Int) by omega] at this ⊢
    simpa using this
  · cases d with
    | false => exact hd
    | true =>
      obtain ⟨S, d, e, h1⟩ := hd
      exact ⟨S, d, e, own_mod h1 m1 fun k hk hx => by have := (h1.lt k hk).1; omega⟩
theorem ask_p (g V n q : Nat) (d : Bool) (w : World) (h : IdxAt w g V n d q) (hq : q ≤ 1000000) :
    Calls Tryd.prog 51 #[.pointer (some ⟨g, 8, none⟩), .int .i64 1] w fun e w' => e = .returned (.int .i64 ((q : Int) + 1)) ∧ IdxAt w' g V n d (q + 1) ∧ Mod (fun i => i = g) w w' := by
  obtain ⟨h1, h2⟩ := asked_next h
  obtain ⟨hV, hn, A, c, H, hb, ho, hd⟩ := h
  exact (add64 ⟨g, 8, none⟩ (q : Int) w (hb.cell 8) (hb.frozen 8) (by omega) (by omega)).mono fun e w' ⟨he, hw⟩ => by subst hw; exact ⟨he, h1, h2⟩
theorem rank_no (g V n q : Nat) (d : Bool) (bit i : Int) (w : World) (h : IdxAt w g V n d q) (hq : q ≤ 1000000) (hno : ¬ (bit = 0 ∨ bit = 1) ∨ i < 0 ∨ (n : Int) < i) :
    Calls Tryd.prog 34 #[.pointer (some ⟨g, 0, none⟩), .int .i64 bit, .int .i64 i] w fun e w' => e = .returned (.tuple #[.int .i64 0, .int .i64 1]) ∧ IdxAt w' g V n d (q + 1) ∧ Mod (fun i => i = g) w w' := by
  have AK := Lib.hid (ask_p g V n q d w h hq)
  have IB := Lib.hid (fun w' => isBit_p bit w')
  clear h
  by_cases hb : bit = 0 ∨ bit = 1
  · rw [decide_eq_true hb] at IB
    by_cases h0 : i < 0
    · clear hno hb
      go_enter Tryd.func34, Tryd.ntmps34
      go_wp2_with fail
      refine AK.out.mono ?_
      rintro e w1 ⟨rfl, h1, m1⟩
      have H1 := Lib.hid (And.intro h1 m1)
      clear h1 m1
      go_wp2_with fail
      refine (IB.out _).mono ?_
      rintro e w' ⟨rfl, rfl⟩
      go_wp2_with fail
      go_ret2
      exact ⟨rfl, H1.out⟩
    · have hni : (n : Int) < i := by
        rcases hno with h1 | h1 | h1
        · exact absurd hb h1
        · exact absurd h1 h0
        · exact h1
      clear hno hb
      go_enter Tryd.func34, Tryd.ntmps34
      go_wp2_with fail
      refine AK.out.mono ?_
      rintro e w1 ⟨rfl, h1, m1⟩
      have c1 : w1.cell? ⟨g, 1, none⟩ = some (.int .i64 (n : Int)) := by obtain ⟨_, _, A, c, H, hb, _⟩ := h1; exact hb.cell 1
      have H1 := Lib.hid (And.intro h1 m1)
      clear h1 m1
      go_wp2_with fail
      refine (IB.out _).mono ?_
      rintro e w' ⟨rfl, rfl⟩
      go_wp2_with fail
      go_ret2
      exact ⟨rfl, H1.out⟩
  · rw [decide_eq_false hb] at IB
    clear hno hb
    go_enter Tryd.func34, Tryd.ntmps34
    go_wp2_with fail
    refine AK.out.mono ?_
    rintro e w1 ⟨rfl, h1, m1⟩
    have H1 := Lib.hid (And.intro h1 m1)
    clear h1 m1
    go_wp2_with fail
    refine (IB.out _).mono ?_
    rintro e w' ⟨rfl, rfl⟩
    go_wp2_with fail
    go_ret2
    exact ⟨rfl, H1.out⟩
theorem rank_yes (g V n q i : Nat) (d : Bool) (bit : Int) (w : World) (h : IdxAt w g V n d q) (hq : q ≤ 1000000) (hb : bit = 0 ∨ bit = 1) (hi : i ≤ n) :
    Calls Tryd.prog 34 #[.pointer (some ⟨g, 0, none⟩), .int .i64 bit, .int .i64 (i : Int)] w fun e w' => e = .returned (.tuple #[.int .i64 ((cb bit V i : Nat) : Int), .int .i64 0]) ∧ IdxAt w' g V n true (q + 1) ∧ Mod (fun i => i = g) w w' := by
  have hn := h.2.1
  have AK := Lib.hid (ask_p g V n q d w h hq)
  have IB := Lib.hid (fun w' => isBit_p bit w')
  rw [decide_eq_true hb] at IB
  have hni : ¬ (n : Int) < (i : Int) := by omega
  have hpi := pop_le V i
  have HCB : Hid (((cb bit V i : Nat) : Int) = if bit = 0 then (i : Int) - ((pop V i : Nat) : Int) else ((pop V i : Nat) : Int)) := by
    show _ = _
    unfold cb; split <;> omega
  rw [HCB.out]
  have BP := Lib.hid (fun w' h' => build_p g V n (q + 1) d w' h')
  have OA := Lib.hid (fun w' h' => onesAhead_p g V n (q + 1) i w' h' hi)
  clear h hi HCB
  generalize pop V i = p at *
  rcases hb with rfl | rfl
  · rw [if_pos rfl]
    go_enter Tryd.func34, Tryd.ntmps34
    go_wp2_with fail
    refine AK.out.mono ?_
    rintro e w1 ⟨rfl, h1, m1⟩
    have c1 : w1.cell? ⟨g, 1, none⟩ = some (.int .i64 (n : Int)) := by obtain ⟨_, _, A, c, H, hb, _⟩ := h1; exact hb.cell 1
    have H1 := Lib.hid h1
    have M1 := Lib.hid m1
    clear h1 m1
    go_wp2_with fail
    refine (IB.out _).mono ?_
    rintro e w' ⟨rfl, rfl⟩
    go_wp2_with fail
    refine (BP.out _ H1.out).mono ?_
    rintro e w2 ⟨rfl, h2, m2⟩
    have H2 := Lib.hid h2
    have M2 : Hid (Mod (fun i => i = g) w w2) := M1.out.trans m2 fun _ _ h => h
    clear h2 m2 c1
    go_wp2_with fail
    refine (OA.out _ H2.out).mono ?_
    rintro e w' ⟨rfl, rfl⟩
    go_wp2_with fail
    go_ret2
    exact ⟨rfl, H2.out, M2.out⟩
  · rw [if_neg (by decide)]
    go_enter Tryd.func34, Tryd.ntmps34
    go_wp2_with fail
    refine AK.out.mono ?_
    rintro e w1 ⟨rfl, h1, m1⟩
    have c1 : w1.cell? ⟨g, 1, none⟩ = some (.int .i64 (n : Int)) := by obtain ⟨_, _, A, c, H, hb, _⟩ := h1; exact hb.cell 1
    have H1 := Lib.hid h1
    have M1 := Lib.hid m1
    clear h1 m1
    go_wp2_with fail
    refine (IB.out _).mono ?_
    rintro e w' ⟨rfl, rfl⟩
    go_wp2_with fail
    refine (BP.out _ H1.out).mono ?_
    rintro e w2 ⟨rfl, h2, m2⟩
    have H2 := Lib.hid h2
    have M2 : Hid (Mod (fun i => i = g) w w2) := M1.out.trans m2 fun _ _ h => h
    clear h2 m2 c1
    go_wp2_with fail
    refine (OA.out _ H2.out).mono ?_
    rintro e w' ⟨rfl, rfl⟩
    go_wp2_with fail
    go_ret2
    exact ⟨rfl, H2.out, M2.out⟩
end Go.Proofs.YtdpejjokdncfnaaDoor
