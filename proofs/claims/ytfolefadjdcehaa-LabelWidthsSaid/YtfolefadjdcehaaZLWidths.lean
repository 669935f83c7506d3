/- LabelWidths: how many bits numbers need is the least that is enough. -/
import Derived.Test.YtfolefadjdcehaaZLLaw
import Derived.Test.YtfolefadjdcehaaZg1
namespace Go.Proofs.Ytfolefadjdcehaa
set_option maxRecDepth 100000
open Go.RowKit
set_option linter.unusedVariables false
/-- Of no bits, and no edges. -/
theorem ldec_nil (w : World) :
    Calls Try.prog 18 #[.pointer none, .int .i64 0] w fun e w' => ∃ g, e = .returned (.tuple #[.pointer (some ⟨g, 0, none⟩), .int .i64 0]) ∧ PermAt w' g [] [] ∧ Below w.heap.size w w' := by
  have hmk : (Instr.makeSlice 25 (.int .i64 0) (.int .i64 0)).run Try.prog w = .ok (.slice (some ⟨w.heap.size, 0, none⟩) 0 0) (w.alloc (.cells #[] 3)) := run_make_ints 0 (by omega) w
  have LN := Lib.hid (fun W => blen_nil W)
  have SZ := Lib.hid (fun W => size_in 0 W (by omega))
  have z0 : lsz 0 = 0 := by decide
  rw [z0] at SZ
  have WP := Lib.hid (fun W => width_p 0 W (by omega))
  have z1 : lw (0 : Int).toNat = 0 := by decide
  rw [z1] at WP
  have RN := Lib.hid (fun W => read_nil W)
  clear z0 z1
  go_enter Try.func18, Try.ntmps18
  go_wp2_with fail
  refine (LN.out _).mono ?_
  rintro e w1 ⟨rfl, rfl⟩
  go_wp2_with fail
  refine (SZ.out _).mono ?_
  rintro e w1 ⟨rfl, rfl⟩
  go_wp2_with fail
  refine (WP.out _).mono ?_
  rintro e w1 ⟨rfl, rfl⟩
  go_wp2_with fail
  refine (RN.out _).mono ?_
  rintro e w1 ⟨rfl, rfl⟩
  go_wp2_with fail
  go_loopw [8, 35] (fun l i wr => i = .int .i64 0 ∧ ∃ A c, l = .slice A 0 c ∧ Hid (Below w.heap.size w wr)) (fun _ _ _ => 0)
  case atStart => exact ⟨rfl, _, _, rfl, (Below.refl w.heap.size w).alloc (Nat.le_refl _) _⟩
  case round =>
    obtain ⟨rfl, A0, c0, rfl, bb⟩ := hrel
    have OF := Lib.hid (of_p A0 0 c0 0 [] wr (Rd.nil _ _ _) (by omega))
    go_wp2_with fail
    refine OF.out.mono ?_
    rintro e w1 ⟨hor, b1⟩
    rcases hor with ⟨g, l, b, hz, rfl, hp, _⟩ | ⟨hno, _⟩
    rotate_left
    · exact absurd (fun i hi => absurd hi (by simp)) hno
    obtain rfl : l = [] := by cases l with
      | nil => rfl
      | cons a t => simp [ofN] at hz
    obtain rfl : b = [] := List.eq_nil_of_length_eq_zero hp.1.len
    have B := Lib.hid (bb.out.trans (b1.mono bb.out.size))
    have HP := Lib.hid hp
    clear hz hp b1 OF
    go_wp2_with fail
    go_ret2
    exact ⟨g, rfl, HP.out, B.out⟩
/-- A list's first numbers, told to a law: cut to 12 and copied. -/
theorem min_12 (n : Nat) (hn : n ≤ 9223372036854775807) : ∀ w, (Builtin.min_ #[3, 3] 3 #[.int .i64 (n : Int), .int .i64 12]).run Try.prog w = .ok (.int .i64 ((min n 12 : Nat) : Int)) w := fun w => by
  by_cases h : n ≤ 12
  · rw [Nat.min_eq_left h]
    simp [Builtin.min_, Builtin.min2]; omega
  · rw [Nat.min_eq_right (by omega)]
    simp [Builtin.min_, Builtin.min2]; omega
set_option maxHeartbeats 8000000 in
theorem labelWidths_walk (A : Option Addr) (N : Int) (len cap : Nat) (z : List Int) (w : World) (hN : -9223372036854775808 ≤ N ∧ N ≤ 9223372036854775807) (h : Rd w w.heap.size A len (I64 z)) (hlc : len ≤ cap) (hcm : cap ≤ maxLen) :
    Calls Try.prog 5 #[.int .i64 N, .slice A len cap] w fun e w' => e = .returned (.bool true) ∧ Below w.heap.size w w' := by
  unfold maxLen at hcm
  have AW := Lib.hid (awake20_p w)
  have H := Lib.hid h
  obtain ⟨q, hq⟩ : ∃ q : Int, q = if N ≤ 1099511627776 then N else 1099511627776 := ⟨_, rfl⟩
  have hqb : -9223372036854775808 ≤ q ∧ q ≤ 1099511627776 := by rw [hq]; split <;> omega
  have hmn : ∀ w, (Builtin.min_ #[3, 3] 3 #[.int .i64 N, .int .i64 1099511627776]).run Try.prog w = .ok (.int .i64 q) w := fun w => by
    simp [Builtin.min_, Builtin.min2]
    rw [hq]
    split <;> split <;> first | rfl | (congr 2; omega)
  have hm12 := min_12 len (by omega)
  obtain ⟨m, hm⟩ : ∃ m, m = min len 12 := ⟨_, rfl⟩
  rw [← hm] at hm12
  have hm1 : m ≤ 12 := by omega
  have hm2 : m ≤ len := by omega
  have WP := Lib.hid (fun W => width_p q W (by omega))
  have HW : Hid ((q < 2 ∧ lw q.toNat = 0) ∨ (2 ≤ q ∧ 1 ≤ lw q.toNat ∧ lw q.toNat ≤ 41 ∧ ((2 ^ (lw q.toNat - 1) : Nat) : Int) < q ∧ q ≤ ((2 ^ lw q.toNat : Nat) : Int))) := by
    show _ ∨ _
    by_cases h2 : q < 2
    · exact .inl ⟨h2, lw_small (by omega)⟩
    · obtain ⟨g1, g2, g3⟩ := lw_gt (n := q.toNat) (by omega) (by omega)
      have g4 := lw_le_of (n := q.toNat) (k := 40) (by omega) (by omega)
      exact .inr ⟨by omega, g1, by omega, by omega, by omega⟩
  generalize lw q.toNat = k at *
  clear h hq hm
  go_enter Try.func5, Try.ntmps5
  go_wp2_with fail
  refine AW.out.mono ?_
  rintro e w1 ⟨rfl, b1⟩
  have B1 := Lib.hid b1
  clear b1 AW
  go_wp2_with fail
  refine (WP.out _).mono ?_
  rintro e w2 ⟨rfl, rfl⟩
  go_upto_region 5 with fail
  go_cut [42] from 20 to 43 (fun v wx => v = .bool false ∧ w1 = wx)
  case first =>
    rcases HW.out with ⟨h2, rfl⟩ | ⟨h2, hk1, hk41, hlo, hhi⟩
    · go_wp2_with fail
      go_meet
      exact ⟨rfl, rfl⟩
    · have h2' : ¬ q < 2 := by omega
      obtain ⟨j, rfl⟩ : ∃ j, k = j + 1 := ⟨k - 1, by omega⟩
      have hj : j ≤ 40 := by omega
      rw [Nat.add_sub_cancel] at hlo
      have e1 : wrap64 ((2 : Int) ^ (j + 1)) = ((2 ^ (j + 1) : Nat) : Int) := by
        have hb := Nat.pow_le_pow_right (show 0 < 2 by decide) (show j + 1 ≤ 41 by omega)
        have hc : ((2 ^ (j + 1) : Nat) : Int) = (2 : Int) ^ (j + 1) := by simp
        rw [← hc]
        unfold wrap64
        omega
      have e2 : wrap64 ((2 : Int) ^ j) = ((2 ^ j : Nat) : Int) := by
        have hb := Nat.pow_le_pow_right (show 0 < 2 by decide) (show j ≤ 41 by omega)
        have hc : ((2 ^ j : Nat) : Int) = (2 : Int) ^ j := by simp
        rw [← hc]
        unfold wrap64
        omega
      have d1 : ¬ wrap64 ((2 : Int) ^ (j + 1)) < q := by rw [e1]; omega
      have d2 : ¬ q ≤ wrap64 ((2 : Int) ^ j) := by rw [e2]; omega
      have d3 : decide (wrap64 ((2 : Int) ^ (j + 1)) < q) = false := decide_eq_false d1
      have d4 : decide (q ≤ wrap64 ((2 : Int) ^ j)) = false := decide_eq_false d2
      clear e1 e2 hlo hhi
      go_wp2_with fail
      go_meet
      exact ⟨rfl, rfl⟩
  case rest =>
    obtain ⟨rfl, rfl⟩ := hcut
    obtain ⟨y, hy⟩ : ∃ y, y = z.take m := ⟨_, rfl⟩
    have hyl : y.length = m := by rw [hy, List.length_take, ← I64_len, H.out.len]; omega
    have HYL := Lib.hid hyl
    have RC : Hid (∀ c', Calls Try.prog 29 #[.slice A m c'] w1 (NewI64 w1 y)) := fun c' => by
      rw [hy]; exact cloneI_any A m c' w.heap.size (z.take m) w1 ((H.out.below B1.out).cutI64 m hm2) (by omega)
    have hmi : (m : Int) ≤ (cap : Int) := by omega
    have hEN := Lib.hid (fun W => lencode_nil W)
    have hDN := Lib.hid (fun W => ldec_nil W)
    clear hy hyl WP HW hmn H
    go_wp2_with fail
    refine (RC.out _).mono ?_
    rintro e w2 ⟨A2, c2, rfl, hc2, hm2', ho2, b2⟩
    rw [HYL.out] at ho2 hc2 ⊢
    have R2 := Lib.hid (Rd.ofOwn ho2)
    have B2 := Lib.hid (B1.out.trans (b2.mono B1.out.size))
    have OF := Lib.hid (of_p A2 m c2 _ y w2 R2.out (by omega))
    clear ho2 hc2 hm2' b2 RC B1
    go_wp2_with fail
    refine OF.out.mono ?_
    rintro e w3 ⟨hor, b3⟩
    have R3 := Lib.hid (R2.out.more b3)
    have B3 := Lib.hid (B2.out.trans (b3.mono B2.out.size))
    clear b3 OF R2 B2
    rcases hor with ⟨g, l, b, hz, rfl, hp, _⟩ | ⟨hno, rfl⟩
    · have hln : l.length = m := by rw [← HYL.out, hz, ofN_len]
      rw [hz] at R3
      have HP := Lib.hid hp
      have HLN := Lib.hid hln
      clear hz hp hln
      by_cases hk : Kp l
      · have EN := Lib.hid (lencode_p g l b w3 HP.out (by rw [HLN.out]; omega) hk)
        have HK := Lib.hid hk
        clear hk
        go_wp2_with fail
        refine EN.out.mono ?_
        rintro e w4 ⟨g4, A4, rfl, _, _, b4⟩
        have R4 := Lib.hid (R3.out.more b4)
        have B4 := Lib.hid (B3.out.trans (b4.mono B3.out.size))
        have HP4 := Lib.hid (HP.out.below b4)
        clear b4 EN R3 B3 HP
        go_wp2_with fail
        refine (hEN.out _).mono ?_
        rintro e w5 ⟨rfl, rfl⟩
        go_wp2_with fail
        refine (hDN.out _).mono ?_
        rintro e w5 ⟨g5, rfl, hp5, b5⟩
        have R5 := Lib.hid (R4.out.more b5)
        have B5 := Lib.hid (B4.out.trans (b5.mono B4.out.size))
        have LN := Lib.hid (len_p g5 [] [] w5 hp5)
        have MP := Lib.hid ((rmates_p A2 m c2 _ l b w5 R5.out HP4.out.1 (by omega)).mono fun e w' (hh : (e = .returned (.bool true) ∧ Kp l ∨ e = .returned (.bool false) ∧ ¬ Kp l) ∧ ∃ j, w' = w5.drewN j) => (show e = .returned (.bool true) ∧ ∃ j, w' = w5.drewN j from by
          rcases hh.1 with c | c
          · exact ⟨c.1, hh.2⟩
          · exact absurd HK.out c.2))
        clear b5 hp5 R4 B4
        go_wp2_with fail
        refine LN.out.mono ?_
        rintro e w6 ⟨rfl, rfl⟩
        go_wp2_with fail
        refine MP.out.mono ?_
        rintro e w6 ⟨rfl, j, rfl⟩
        go_wp2_with fail
        go_ret
        exact ⟨rfl, below_draws B5.out j⟩
      · have EN := Lib.hid (lencode_no g l b w3 HP.out (by rw [HLN.out]; omega) hk)
        have HK := Lib.hid hk
        clear hk
        go_wp2_with fail
        refine EN.out.mono ?_
        rintro e w4 ⟨rfl, rfl⟩
        go_wp2_with fail
        refine (hEN.out _).mono ?_
        rintro e w5 ⟨rfl, rfl⟩
        go_wp2_with fail
        refine (hDN.out _).mono ?_
        rintro e w5 ⟨g5, rfl, hp5, b5⟩
        have R5 := Lib.hid (R3.out.more b5)
        have B5 := Lib.hid (B3.out.trans (b5.mono B3.out.size))
        have LN := Lib.hid (len_p g5 [] [] w5 hp5)
        have MP := Lib.hid ((rmates_p A2 m c2 _ l b w5 R5.out HP.out.1 (by omega)).mono fun e w' (hh : (e = .returned (.bool true) ∧ Kp l ∨ e = .returned (.bool false) ∧ ¬ Kp l) ∧ ∃ j, w' = w5.drewN j) => (show e = .returned (.bool false) ∧ ∃ j, w' = w5.drewN j from by
          rcases hh.1 with c | c
          · exact absurd c.2 HK.out
          · exact ⟨c.1, hh.2⟩))
        clear b5 hp5 R3 B3
        go_wp2_with fail
        refine LN.out.mono ?_
        rintro e w6 ⟨rfl, rfl⟩
        go_wp2_with fail
        refine MP.out.mono ?_
        rintro e w6 ⟨rfl, j, rfl⟩
        go_wp2_with fail
        go_ret
        exact ⟨rfl, below_draws B5.out j⟩
    · clear hno
      go_wp2_with fail
      refine (hEN.out _).mono ?_
      rintro e w5 ⟨rfl, rfl⟩
      go_wp2_with fail
      refine (hEN.out _).mono ?_
      rintro e w5 ⟨rfl, rfl⟩
      go_wp2_with fail
      refine (hDN.out _).mono ?_
      rintro e w5 ⟨g5, rfl, hp5, b5⟩
      have B5 := Lib.hid (B3.out.trans (b5.mono B3.out.size))
      have LN := Lib.hid (len_p g5 [] [] w5 hp5)
      clear b5 hp5 R3 B3
      go_wp2_with fail
      refine LN.out.mono ?_
      rintro e w6 ⟨rfl, rfl⟩
      go_wp2_with fail
      go_ret
      exact ⟨rfl, B5.out⟩
end Go.Proofs.Ytfolefadjdcehaa
