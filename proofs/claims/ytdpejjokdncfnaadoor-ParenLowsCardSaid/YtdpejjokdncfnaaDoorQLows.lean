/- ParenLows: excesses, and the least of a run. -/
import Derived.Test.YtdpejjokdncfnaaDoorQPst
import Derived.Test.YtdpejjokdncfnaaDoorQLow
namespace Go.Proofs.YtdpejjokdncfnaaDoor
open Go.RowKit
set_option linter.unusedVariables false
set_option maxRecDepth 20000
set_option maxHeartbeats 4000000 in
theorem refexc_p (A : Option Addr) (m c B i : Nat) (l : List Nat) (w : World) (hr : Rd w B A m (I64 (ofN l))) (hb : Bin l) (hm : m ≤ 1000000) (hmc : m ≤ c) (hc : c ≤ 9223372036854775807) (hi : i ≤ m) :
    Calls Tryd.prog 23 #[.slice A m c, .int .i64 (i : Int)] w fun e w' => e = .returned (.int .i64 (exc (val l) i)) ∧ w = w' := by
  have HR := Lib.hid hr
  have HBN := Lib.hid hb
  have HE := Lib.hid (exc_Exc (val l))
  have HX := Lib.hid (fun i => exc_list hb i)
  clear hr hb
  go_enter Tryd.func23, Tryd.ntmps23
  go_wp2_with fail
  go_loop [5, 12] (fun z x => ∃ (k : Nat) (y : Int), x = .int .i64 (k : Int) ∧ z = .int .i64 y ∧ k ≤ i ∧ -1000000 ≤ y ∧ y ≤ 1000000 ∧ Hid (exc (val l) k = y)) (fun _ x => i - (intOf x).toNat)
  case atStart => exact ⟨0, 0, rfl, rfl, by omega, by omega, by omega, HE.out.zero⟩
  case round =>
    obtain ⟨k, y, rfl, rfl, hk, hy1, hy2, hy⟩ := hrel
    by_cases hlt : k < i
    · obtain ⟨b', o, e, _, k1⟩ := HR.out.i64 (by omega)
      subst e
      have t1 := k1 k (by omega)
      rw [ofN_get] at t1
      have hx := HX.out k
      have hb2 := HBN.out.getD k
      have hbd := HE.out.bound (k + 1)
      rw [hx, hy.out] at hbd
      rw [hy.out] at hx
      clear k1
      generalize l.getD k 0 = b at *
      have HXI := Lib.hid hx
      clear hx
      go_wp2_with fail
      go_round
      case rel => exact ⟨k + 1, y + (2 * (b : Int) - 1), by go_num, by go_num, by omega, by omega, by omega, HXI.out⟩
      case measure => simp [intOf]; omega
    · obtain rfl : k = i := by omega
      go_wp2_with fail
      go_ret
      exact ⟨by rw [hy.out]; rfl, rfl⟩
set_option maxHeartbeats 16000000 in
theorem parenLows_walk (A0 : Option Addr) (n0 c0 pr : Nat) (bs : List Nat) (fr tz : Int) (w : World) (hT : Nul w)
    (h0 : Rd w w.heap.size A0 n0 (U8 bs)) (hbs : ∀ b ∈ bs, b < 256) (hn0 : n0 ≤ c0) (hc0 : c0 ≤ maxLen) (hpr : pr < 65536) (hfr : -9223372036854775808 ≤ fr ∧ fr ≤ 9223372036854775807) (htz : -9223372036854775808 ≤ tz ∧ tz ≤ 9223372036854775807) :
    Calls Tryd.prog 5 #[.int .u16 (pr : Int), .slice A0 n0 c0, .int .i64 fr, .int .i64 tz] w fun e w' => e = .returned (.bool true) ∧ Below w.heap.size w w' := by
  unfold maxLen at hc0
  have AW := Lib.hid (qawake_p w hT)
  have HT := Lib.hid hT
  have H0 := Lib.hid h0
  have HBS := Lib.hid hbs
  obtain ⟨P, hP, hP9⟩ : ∃ P : Nat, (pr : Int) % 2000 = (P : Int) ∧ P ≤ 1999 := ⟨pr % 2000, by omega, by omega⟩
  clear hT h0 hbs
  go_enter Tryd.func5, Tryd.ntmps5
  go_wp2_with fail
  refine AW.out.mono ?_
  rintro e w1 ⟨rfl, b1⟩
  have AN := Lib.hid (any_p A0 n0 c0 P bs w1 ((H0.out.below b1).up b1.size) HBS.out (by omega) (by omega))
  have B1 := Lib.hid b1
  clear b1 AW
  go_wp2_with fail
  refine AN.out.mono ?_
  rintro e w2 ⟨l, A, c, hbin, hlen, hbal, rfl, hmc, hcm, own2, b2⟩
  obtain ⟨N, hN⟩ : ∃ N, 2 * P = N := ⟨_, rfl⟩
  rw [hN] at hlen hbal hmc own2 ⊢
  have hN9 : N ≤ 4000 := by omega
  have MD := Lib.hid (qmade_p A N c l w2 (Rd.ofOwn own2) hbin (by omega))
  have R2 := Lib.hid (Rd.ofOwn own2)
  have B2 : Hid (Below w.heap.size w w2) := B1.out.trans (b2.mono B1.out.size)
  have HBIN := Lib.hid hbin
  have HBAL := Lib.hid hbal
  clear hbin hlen hbal own2 b2 AN B1 hN
  go_wp2_with fail
  refine MD.out.mono ?_
  rintro e w3 (⟨_, p, g, rfl, hp, hg, b3⟩ | ⟨hno, _⟩)
  case inr => exact absurd HBAL.out hno
  have PS3 : Hid (Pst w w3 p g (val l) N 0 false) := ⟨hp, HT.out, by have := B2.out.size; omega, B2.out.trans (b3.mono B2.out.size)⟩
  have R3 := Lib.hid (R2.out.below b3)
  have hpl := hp.lt
  have hgp := hp.1
  have hn9 : c ≤ 9223372036854775807 := by unfold maxLen at hcm; omega
  have hs23 : w2.heap.size ≤ g := hg
  generalize w2.heap.size = B2' at *
  clear hp hg b3 MD R2 B2 hcm
  by_cases hbad : fr < 0 ∨ (N : Int) < fr
  · have X1 := Lib.hid (pexc_no p g (val l) N 0 false w3 fr PS3.out.at_ hbad (by omega))
    go_wp2_with fail
    refine X1.out.mono ?_
    rintro e w4 ⟨rfl, h4, m4⟩
    have PS4 := Lib.hid (PS3.out.on h4 (mod_g m4))
    have L1 := Lib.hid (low_no p g (val l) N 1 false w4 fr tz PS4.out.at_ (by omega))
    clear h4 m4 X1 PS3
    go_wp2_with fail
    refine L1.out.mono ?_
    rintro e w5 ⟨rfl, rfl⟩
    clear L1
    by_cases hneg : fr < 0
    · go_wp2_with fail
      go_ret
      exact ⟨rfl, PS4.out.bel⟩
    · have hgt : (N : Int) < fr := by omega
      have hnb : decide (fr < 0) = false := decide_eq_false hneg
      clear hbad
      go_wp2_with fail
      go_ret
      exact ⟨rfl, PS4.out.bel⟩
  · obtain ⟨a, ha⟩ : ∃ a : Nat, fr = (a : Int) := ⟨fr.toNat, by omega⟩
    subst ha
    have haN : a ≤ N := by omega
    have X1 := Lib.hid (pexc_yes p g (val l) N 0 false w3 a PS3.out.at_ haN (by omega))
    have hd0 : decide ((a : Int) < 0) = false := decide_eq_false (by omega)
    have hd1 : decide ((N : Int) < (a : Int)) = false := decide_eq_false (by omega)
    clear hbad
    go_wp2_with fail
    refine X1.out.mono ?_
    rintro e w4 ⟨rfl, h4, m4⟩
    have PS4 := Lib.hid (PS3.out.on h4 (mod_g m4))
    have R4 := Lib.hid (rd_two R3.out (mod_g m4) hs23 hgp hpl)
    have hpl4 : p < w4.heap.size := h4.lt
    obtain ⟨x0, hx0⟩ : ∃ x, exc (val l) a = x := ⟨_, rfl⟩
    rw [hx0]
    have HX0 := Lib.hid hx0
    have hbd0 := (exc_Exc (val l)).bound a
    rw [hx0] at hbd0
    clear h4 m4 X1 PS3 R3 hx0
    by_cases hbad : tz < (a : Int) ∨ (N : Int) < tz
    · have L1 := Lib.hid (low_no p g (val l) N 1 false w4 (a : Int) tz PS4.out.at_ (by omega))
      have RX := Lib.hid (refexc_p A N c _ a l w4 R4.out HBIN.out (by omega) hmc hn9 haN)
      rw [HX0.out] at RX
      go_wp2_with fail
      refine L1.out.mono ?_
      rintro e w5 ⟨rfl, rfl⟩
      clear L1
      by_cases hlt : tz < (a : Int)
      · go_wp2_with (go_at_call 23; refine RX.out.mono ?_; rintro e w' ⟨rfl, rfl⟩)
        go_ret
        exact ⟨rfl, PS4.out.bel⟩
      · have hgt : (N : Int) < tz := by omega
        have hnb : decide (tz < (a : Int)) = false := decide_eq_false hlt
        clear hbad
        go_wp2_with (go_at_call 23; refine RX.out.mono ?_; rintro e w' ⟨rfl, rfl⟩)
        go_ret
        exact ⟨rfl, PS4.out.bel⟩
    · obtain ⟨b, hb⟩ : ∃ b : Nat, tz = (b : Int) := ⟨tz.toNat, by omega⟩
      subst hb
      have hab : a ≤ b := by omega
      have hbN : b ≤ N := by omega
      have L1 := Lib.hid (low_yes p g (val l) N 1 false w4 a b PS4.out.nulr PS4.out.hp PS4.out.hg PS4.out.at_ hab hbN (by omega))
      have hd2 : decide ((b : Int) < (a : Int)) = false := decide_eq_false (by omega)
      have hd3 : decide ((N : Int) < (b : Int)) = false := decide_eq_false (by omega)
      clear hbad
      go_wp2_with fail
      refine L1.out.mono ?_
      rintro e w5 ⟨h5, m5, lo, rfl, hlo, hlo1, hlo2⟩
      have PS5 := Lib.hid (PS4.out.on h5 m5)
      have R5 := Lib.hid (rd_two R4.out m5 hs23 hgp hpl4)
      have RX := Lib.hid (refexc_p A N c _ a l w5 R5.out HBIN.out (by omega) hmc hn9 haN)
      rw [HX0.out] at RX
      have HLO := Lib.hid hlo
      have HEX := Lib.hid (exc_Exc (val l))
      have HXL := Lib.hid (fun i => exc_list HBIN.out i)
      clear h5 m5 L1 PS4 R4 hlo
      by_cases hzero : a = b
      · subst hzero
        have hlx : Hid (lo = x0) := by show _ = _; rw [HLO.out, Nat.sub_self]; exact HX0.out
        obtain rfl := hlx.out
        clear hlx HLO HX0
        go_wp2_with (go_at_call 23; refine RX.out.mono ?_; rintro e w' ⟨rfl, rfl⟩)
        all_goals (
          go_loop [16, 17, 100] (fun z v x => z = .int .i64 lo ∧ x = .int .i64 0) (fun _ _ _ => 0)
          case atStart => exact ⟨rfl, rfl⟩
          case round =>
            obtain ⟨rfl, rfl⟩ := hrel
            go_wp2_with fail
            go_ret
            exact ⟨rfl, PS5.out.bel⟩)
      · have hltab : a < b := by omega
        obtain ⟨gA, o, eA, _, k1⟩ := R5.out.i64 (by omega)
        subst eA
        have K1 := Lib.hid k1
        have hbaI : (b : Int) - (a : Int) = ((b - a : Nat) : Int) := by omega
        clear k1 hzero
        go_wp2_with (go_at_call 23; refine RX.out.mono ?_; rintro e w' ⟨rfl, rfl⟩)
        all_goals first
          | (exfalso; omega)
          | (go_loop [16, 17, 100] (fun z v x => ∃ (k : Nat) (y m : Int), x = .int .i64 (k : Int) ∧ v = .int .i64 y ∧ z = .int .i64 m ∧ k ≤ b - a ∧ -1000000 ≤ y ∧ y ≤ 1000000 ∧ Hid (exc (val l) (a + k) = y) ∧ Hid (mn (exc (val l)) a k = m)) (fun _ _ x => b - a - (intOf x).toNat)
             case atStart => exact ⟨0, x0, x0, rfl, rfl, rfl, by omega, by omega, by omega, HX0.out, HX0.out⟩
             case round =>
               obtain ⟨k, y, m, rfl, rfl, rfl, hk, hy1, hy2, hy, hm⟩ := hrel
               by_cases hlt : k < b - a
               · have t1 := K1.out (a + k) (by omega)
                 rw [ofN_get, ← Nat.add_assoc] at t1
                 have hx := HXL.out (a + k)
                 have hb2 := HBIN.out.getD (a + k)
                 have hbd := HEX.out.bound (a + k + 1)
                 rw [hx, hy.out] at hbd
                 rw [hy.out] at hx
                 generalize l.getD (a + k) 0 = bb at *
                 have HXI := Lib.hid hx
                 obtain ⟨y2, hy2'⟩ : ∃ y2, y + (2 * (bb : Int) - 1) = y2 := ⟨_, rfl⟩
                 rw [hy2'] at HXI hbd
                 have NM : Hid (mn (exc (val l)) a (k + 1) = if y2 < m then y2 else m) := by
                   show min (mn (exc (val l)) a k) (exc (val l) (a + k + 1)) = _
                   rw [hm.out, HXI.out]
                   split <;> omega
                 clear hx
                 by_cases hc : y2 < m
                 · rw [if_pos hc] at NM
                   go_wp2_with fail
                   go_round
                   case rel => exact ⟨k + 1, y2, y2, by go_num, congrArg (Value.int .i64) (by omega), congrArg (Value.int .i64) (by omega), by omega, by omega, by omega, HXI.out, NM.out⟩
                   case measure => simp [intOf]; omega
                 · rw [if_neg hc] at NM
                   go_wp2_with fail
                   go_round
                   case rel => exact ⟨k + 1, y2, m, by go_num, congrArg (Value.int .i64) (by omega), congrArg (Value.int .i64) (by omega), by omega, by omega, by omega, HXI.out, NM.out⟩
                   case measure => simp [intOf]; omega
               · obtain rfl : k = b - a := by omega
                 have hlm : lo = m := by rw [HLO.out, hm.out]
                 subst hlm
                 go_wp2_with fail
                 go_ret
                 exact ⟨rfl, PS5.out.bel⟩)
end Go.Proofs.YtdpejjokdncfnaaDoor
