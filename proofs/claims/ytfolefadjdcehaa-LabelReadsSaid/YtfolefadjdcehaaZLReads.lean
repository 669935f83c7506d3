/- LabelReads: any bits are names, of any count of edges, or are refused. -/
import Derived.Test.YtfolefadjdcehaaZLLaw
import Derived.Test.YtfolefadjdcehaaZBSame
import Derived.Test.YtfolefadjdcehaaZg1
namespace Go.Proofs.Ytfolefadjdcehaa
set_option maxRecDepth 100000
open Go.RowKit
set_option linter.unusedVariables false
theorem lw_small12 {m : Nat} (h : m < 12) : lw m ≤ 4 := lw_le_of (by omega) (by omega)
set_option maxHeartbeats 8000000 in
theorem labelReads_walk (A1 : Option Addr) (n1 c1 : Nat) (bs : List Nat) (a : Nat) (E : Int) (tame : Bool) (w : World)
    (h1 : Rd w w.heap.size A1 n1 (U8 bs)) (hb1 : ∀ b ∈ bs, b < 256) (hn1 : n1 ≤ c1) (hc1 : c1 ≤ maxLen) (ha : a < 256) (hE : -9223372036854775808 ≤ E ∧ E ≤ 9223372036854775807) :
    Calls Try.prog 4 #[.slice A1 n1 c1, .int .u8 (a : Int), .int .i64 E, .bool tame] w fun e w' => e = .returned (.bool true) ∧ Below w.heap.size w w' := by
  unfold maxLen at hc1
  have AW := Lib.hid (awake20_p w)
  have H1 := Lib.hid h1
  have HB := Lib.hid hb1
  obtain ⟨m0, hm0⟩ : ∃ m0, m0 = a % 120 := ⟨_, rfl⟩
  have hm1 : m0 < 120 := by omega
  have y1 : (a : Int) % 120 = (m0 : Int) := by omega
  have y2 : (a : Int).tmod 120 = (m0 : Int) := by rw [Int.tmod_eq_emod_of_nonneg (by omega)]; omega
  clear h1 hb1 hm0
  go_enter Try.func4, Try.ntmps4
  go_wp2_with fail
  refine AW.out.mono ?_
  rintro e w1 ⟨rfl, b1⟩
  have B1 := Lib.hid b1
  have FP : Hid (∀ (m : Nat) W, Below w.heap.size w W → m ≤ 1000 → Calls Try.prog 20 #[.slice A1 n1 c1, .int .i64 (m : Int)] W (NewI64 W (ofNB (few bs m)))) := fun m W mm hm => few_p A1 n1 c1 _ m bs W (H1.out.below mm) HB.out mm.size (by omega) (by omega)
  have F0 := Lib.hid (FP.out m0 w1 b1 (by omega))
  clear b1 AW
  go_wp2_with fail
  refine F0.out.mono ?_
  rintro e w2 ⟨A2, c2, rfl, hc2, hm2, ho2, b2⟩
  have B2 := Lib.hid (B1.out.trans (b2.mono B1.out.size))
  have hfl := ofN_lenB (few bs m0)
  rw [hfl] at ho2 hc2 ⊢
  have R2 := Lib.hid (Rd.ofOwn ho2)
  have HA2 : Hid (A2 = none ∨ ∃ q o, A2 = some ⟨q, o, none⟩) := by
    rcases ho2.2 with ⟨h2, _⟩ | ⟨g', cap, cur, hv, _⟩
    · simp only [Value.slice.injEq] at h2; exact .inl h2.1
    · simp only [Value.slice.injEq] at hv; exact .inr ⟨g', 0, hv.1⟩
  have hm2' : c2 ≤ 9223372036854775807 := by unfold maxLen at hm2; omega
  clear ho2 hm2 b2 F0 B1 hfl
  obtain ⟨ln, hln⟩ : ∃ ln, ln = (few bs m0).length := ⟨_, rfl⟩
  rw [← hln] at hc2 R2 ⊢
  have HLN := Lib.hid hln
  have hln2 : ln ≤ 120 := by rw [hln, few_len]; omega
  clear hln
  go_upto_if 24 with fail
  go_cut [2, 9] from 25 to 36 (fun e s wx => ∃ (q : Int) (L : List Nat) (A : Option Addr) (n c : Nat), e = .int .i64 q ∧ s = .slice A n c ∧ n ≤ c ∧ c ≤ 9223372036854775807 ∧ n ≤ 200 ∧ -9223372036854775808 ≤ q ∧ q ≤ 9223372036854775807 ∧ Hid (Bin L) ∧ Hid (L.length = n) ∧ Hid (Rd wx wx.heap.size A n (I64 (ofNB L))) ∧ Hid (A = none ∨ ∃ q o, A = some ⟨q, o, none⟩) ∧ Hid (Below w.heap.size w wx))
  case first =>
    cases tame
    · go_wp2_with fail
      go_meet
      exact ⟨E, few bs m0, A2, ln, c2, rfl, rfl, hc2, hm2', by omega, hE.1, hE.2, few_bin _ _, HLN.out.symm, R2.out, HA2, B2.out⟩
    · obtain ⟨u, hu⟩ : ∃ u : Nat, u = (E % 18446744073709551616).toNat := ⟨_, rfl⟩
      have hu1 : E % 18446744073709551616 = (u : Int) := by omega
      obtain ⟨q, hq⟩ : ∃ q, q = u % 12 := ⟨_, rfl⟩
      have hq1 : (u : Int) % 12 = (q : Int) := by omega
      have hq2 : (u : Int).tmod 12 = (q : Int) := by rw [Int.tmod_eq_emod_of_nonneg (by omega)]; omega
      have hqb : q < 12 := by omega
      have hub : u < 18446744073709551616 := by omega
      have RW := Lib.hid (fun W => rwidth_p q W (by omega))
      have h4 := lw_small12 hqb
      obtain ⟨p, hp⟩ : ∃ p, p = q * (lw q + 1) := ⟨_, rfl⟩
      have hpi : (q : Int) * (((lw q : Nat) : Int) + 1) = (p : Int) := by rw [hp]; simp
      have hpb : p ≤ 60 := by rw [hp]; exact Nat.le_trans (Nat.mul_le_mul (show q ≤ 12 by omega) (show lw q + 1 ≤ 5 by omega)) (by decide)
      have F2 := Lib.hid (FP.out p w2 B2.out (by omega))
      generalize lw q = k at *
      have hw : IntKind.u64.wrap E = (u : Int) := by rw [← hu1]; rfl
      clear hp hq hu hu1 hE
      go_wp2_with fail
      refine (RW.out _).mono ?_
      rintro e w3 ⟨rfl, rfl⟩
      go_wp2_with fail
      refine F2.out.mono ?_
      rintro e w3 ⟨A3, c3, rfl, hc3, hm3, ho3, b3⟩
      have hfl := ofN_lenB (few bs p)
      rw [hfl] at ho3 hc3 ⊢
      have R3 := Lib.hid (Rd.ofOwn ho3)
      have HA3 : Hid (A3 = none ∨ ∃ q o, A3 = some ⟨q, o, none⟩) := by
        rcases ho3.2 with ⟨h2, _⟩ | ⟨g', cap, cur, hv, _⟩
        · simp only [Value.slice.injEq] at h2; exact .inl h2.1
        · simp only [Value.slice.injEq] at hv; exact .inr ⟨g', 0, hv.1⟩
      have hm3' : c3 ≤ 9223372036854775807 := by unfold maxLen at hm3; omega
      have B3 := Lib.hid (B2.out.trans (b3.mono B2.out.size))
      have hl3 : (few bs p).length ≤ 200 := by rw [few_len]; omega
      clear ho3 hm3 b3 F2
      go_wp2_with fail
      go_meet
      exact ⟨(q : Int), few bs p, A3, _, c3, rfl, rfl, hc3, hm3', hl3, by omega, by omega, few_bin _ _, rfl, R3.out, HA3, B3.out⟩
  case rest =>
    obtain ⟨q, L, A, n, c, rfl, rfl, hnc, hc63, hn2, hq0, hq9, HBL, HLL, R, HA, B⟩ := hcut
    clear R2 HA2 B2 FP HLN H1 HB
    have BN := Lib.hid (bnew_p wc)
    go_wp2_with fail
    refine BN.out.mono ?_
    rintro e w4 ⟨rfl, hv, b4⟩
    have hgz := hv.foot_lt (.inl rfl)
    have AD := Lib.hid (add_p0 wc.heap.size [] none A n c (ofNB L) w4 hv (R.out.more b4) (fun h0 i hi hf => by
      obtain ⟨a, e, rfl⟩ := hi
      obtain ⟨b, o, e2, hb2, _⟩ := R.out.at_ h0
      rw [e2] at e
      cases e
      rcases hf with hf | ⟨b', hf, _⟩
      · have hf : b = wc.heap.size := hf
        omega
      · cases hf) (by simp; omega))
    rw [List.nil_append, bit1_ofN HBL.out] at AD
    have B4 := Lib.hid b4
    clear hv b4 BN hgz
    go_wp2_with fail
    refine AD.out.mono ?_
    rintro e w5 ⟨rfl, A5, hv5, m5, _⟩
    have B5 : Hid (Below wc.heap.size wc w5) := B4.out.trans (m5.belowB B4.out.size (fun i hi h => by
      rcases h with h | ⟨b, h, _⟩
      · omega
      · cases h))
    rw [HLL.out] at hv5
    have HV5 := Lib.hid hv5
    have R5 := Lib.hid (R.out.more B5.out)
    have BW := Lib.hid (B.out.trans (B5.out.mono B.out.size))
    generalize wc.heap.size = gv at *
    clear hv5 m5 AD B4 B5 R B
    by_cases hr : q < 0 ∨ 65536 < q
    · have DR := Lib.hid (ldec_range (some ⟨gv, 0, none⟩) q w5 hr)
      rcases hr with hr | hr
      · go_wp2_with fail
        refine DR.out.mono ?_
        rintro e w6 ⟨rfl, rfl⟩
        go_wp2_with fail
        go_ret
        exact ⟨rfl, BW.out⟩
      · have hr0 : ¬ q < 0 := by omega
        go_wp2_with fail
        refine DR.out.mono ?_
        rintro e w6 ⟨rfl, rfl⟩
        go_wp2_with fail
        go_ret
        exact ⟨rfl, BW.out⟩
    · obtain ⟨M, rfl⟩ : ∃ M : Nat, q = (M : Int) := ⟨q.toNat, by omega⟩
      have hM : M ≤ 65536 := by omega
      have RW := Lib.hid (fun W => rwidth_p M W hM)
      have h16 := lw_16 hM
      have hMi : ¬ (65536 : Int) < (M : Int) := by omega
      have hM0 : ¬ (M : Int) < 0 := by omega
      obtain ⟨p, hp⟩ : ∃ p, p = M * (lw M + 1) := ⟨_, rfl⟩
      have hpi : (M : Int) * (((lw M : Nat) : Int) + 1) = (p : Int) := by rw [hp]; simp
      have hpb : p ≤ 65536 * 17 := by rw [hp]; exact Nat.mul_le_mul hM (by omega)
      have HPS : Hid (p = lsz M) := hp
      clear hr
      by_cases hnp : n = p
      · subst hnp
        have hM5 : M ≤ 200 := by
          have : M * 1 ≤ M * (lw M + 1) := Nat.mul_le_mul_left _ (by omega)
          omega
        have DP := Lib.hid (ldec_p gv (val L) _ M A5 w5 (by rw [← HPS.out]; exact HV5.out) (by omega))
        have RD := Lib.hid (fun W (m : Below w5.heap.size w5 W) => lrefDec_p A n c M L W (R5.out.more m) HBL.out (by omega) hp hnc hc63 HA.out)
        have HLB : Hid (lbl (lw M) (decL (lw M) (val L) M) M = L) := lbl_decL_all (lw M) L HBL.out M (by rw [HLL.out]; exact hp)
        have HKW : Hid (lw M = lw M) := rfl
        have ENC : Hid (∀ g b W, PermAt W g (decL (lw M) (val L) M) b → Calls Try.prog 12 #[.pointer (some ⟨g, 0, none⟩)] W fun e w' => ∃ g' A', e = .returned (.tuple #[.pointer (some ⟨g', 0, none⟩), .int .i64 0]) ∧ VecAt w' g' (val L) n A' ∧ Below W.heap.size W w') := fun g b W hP => by
          have h1 := lencode_p g _ b W hP (by rw [decL_len]; omega) (decL_kp _ _ _)
          unfold LEncPost at h1
          rw [decL_len, show 2 * M / 2 = M by omega, HLB.out, ← HPS.out] at h1
          exact h1.mono fun e w' ⟨g', A', e1, e2, _, e3⟩ => ⟨g', A', e1, e2, e3⟩
        have hDL : Hid ((decL (lw M) (val L) M).length = 2 * M) := decL_len _ _ _
        unfold LRefDPost at RD
        obtain ⟨D, hD⟩ : ∃ D, D = decL (lw M) (val L) M := ⟨_, rfl⟩
        rw [← hD] at DP RD ENC hDL
        have hb : ((n : Int) != (n : Int)) = false := by simp
        obtain ⟨M2, hM2⟩ : ∃ M2, M2 = 2 * M := ⟨_, rfl⟩
        rw [← hM2] at RD hDL
        have hM22 : M2 ≤ 400 := by omega
        clear hD HKW HLB hp HPS hM2
        generalize lw M = k at *
        go_wp2_with fail
        refine DP.out.mono ?_
        rintro e w6 ⟨hor, b6⟩
        have BW6 := Lib.hid (BW.out.trans (b6.mono BW.out.size))
        have HV6 := Lib.hid (VecB.below HV5.out b6)
        have RD6 := Lib.hid (RD.out w6 b6)
        clear DP RD b6 HV5 R5 BW
        rcases hor with ⟨g, l, b, hz, rfl, hpm, _⟩ | ⟨hno, rfl⟩
        · obtain rfl : l = D := (ofN_inj hz).symm
          have HPM := Lib.hid hpm
          clear hz hpm
          go_wp2_with fail
          refine (RW.out _).mono ?_
          rintro e w7 ⟨rfl, rfl⟩
          go_wp2_with fail
          refine RD6.out.mono ?_
          rintro e w7 ⟨A7, c7, ok, rfl, ho7, hok, b7⟩
          obtain rfl : ok = true := hok.2 HPM.out.1.good
          have R7 := Lib.hid (Rd.ofOwn ho7)
          have HP7 := Lib.hid (HPM.out.below b7)
          have HV7 := Lib.hid (VecB.below HV6.out b7)
          have B7 := Lib.hid (BW6.out.trans (b7.mono BW6.out.size))
          have EN := Lib.hid (ENC.out g b w7 HP7.out)
          clear ho7 hok b7 RD6 HPM HV6 BW6
          go_wp2_with fail
          refine EN.out.mono ?_
          rintro e w8 ⟨g8, A8, rfl, hv8, b8⟩
          have HU8 := Lib.hid hv8
          have R8 := Lib.hid (R7.out.more b8)
          have HV8 := Lib.hid (VecB.below HV7.out b8)
          have B8 := Lib.hid (B7.out.trans (b8.mono B7.out.size))
          have LP := Lib.hid (list_p g l b w8 (HP7.out.below b8))
          clear hv8 b8 EN R7 HP7 HV7 B7
          go_wp2_with fail
          refine LP.out.mono ?_
          rintro e w9 ⟨A9, c9, rfl, hc9, hm9, ho9, b9⟩
          rw [ofN_len, hDL.out] at ho9 ⊢
          have EQ := Lib.hid (equalI_any A9 A7 M2 c9 M2 c7 _ _ (ofN l) (ofN l) w9 (Rd.ofOwn ho9) (R8.out.more b9) (by omega) (by omega))
          have B9 := Lib.hid (B8.out.trans (b9.mono B8.out.size))
          have SM := Lib.hid (fun j => same_vv g8 gv _ _ _ _ _ _ _ _ (w9.drewN j) (VecB.drewN (VecB.below HU8.out b9) j) (VecB.drewN (VecB.below HV8.out b9) j))
          have hd1 : decide (ofN l = ofN l) = true := by simp
          have hd2 : decide (n = n ∧ val L = val L) = true := by simp
          rw [hd1] at EQ
          rw [hd2] at SM
          clear hd1 hd2 ho9 hc9 hm9 b9 LP R8 HU8 HV8 B8
          go_wp2_with fail
          refine EQ.out.mono ?_
          rintro e wa ⟨rfl, j, rfl⟩
          have SJ := Lib.hid (SM.out j)
          have BJ := Lib.hid (below_draws B9.out j)
          clear EQ SM B9
          generalize w9.drewN j = wb at *
          go_wp2_with fail
          refine SJ.out.mono ?_
          rintro e wd ⟨rfl, j2, rfl⟩
          go_wp2_with fail
          go_ret
          exact ⟨rfl, below_draws BJ.out j2⟩
        · have HNO := Lib.hid hno
          clear hno
          go_wp2_with fail
          refine (RW.out _).mono ?_
          rintro e w7 ⟨rfl, rfl⟩
          go_wp2_with fail
          refine RD6.out.mono ?_
          rintro e w7 ⟨A7, c7, ok, rfl, ho7, hok, b7⟩
          obtain rfl : ok = false := by
            cases ok with
            | false => rfl
            | true => exact absurd (hok.1 rfl) HNO.out
          have B7 := Lib.hid (BW6.out.trans (b7.mono BW6.out.size))
          clear ho7 hok b7 RD6
          go_wp2_with fail
          go_ret
          exact ⟨rfl, B7.out⟩
      · have DL := Lib.hid (ldec_len gv _ n _ M A5 w5 HV5.out hM (by rw [← HPS.out]; exact hnp))
        have hb : ((n : Int) != (p : Int)) = true := by rw [bne_iff_ne]; omega
        generalize lw M = k at *
        clear hp
        go_wp2_with fail
        refine DL.out.mono ?_
        rintro e w6 ⟨rfl, rfl⟩
        go_wp2_with fail
        refine (RW.out _).mono ?_
        rintro e w6 ⟨rfl, rfl⟩
        go_wp2_with fail
        go_ret
        exact ⟨rfl, BW.out⟩
end Go.Proofs.Ytfolefadjdcehaa
