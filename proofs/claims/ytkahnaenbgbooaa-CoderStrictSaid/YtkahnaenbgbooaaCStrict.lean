/- CoderStrict: any bits are refused, or the code of what they are decoded to. -/
import Derived.Test.YtkahnaenbgbooaaCLaw
namespace Go.Proofs.Ytkahnaenbgbooaa
set_option maxRecDepth 20000
open Go.RowKit
set_option linter.unusedVariables false

set_option maxHeartbeats 4000000 in
theorem coderStrict_walk (A1 : Option Addr) (n1 c1 : Nat) (bs : List Nat) (a : Nat) (cnt k : Int) (w : World)
    (h1 : Rd w w.heap.size A1 n1 (U8 bs)) (hb1 : ∀ b ∈ bs, b < 256) (hn1 : n1 ≤ c1) (hc1 : c1 ≤ maxLen) (ha : a < 256)
    (hcnt : -9223372036854775808 ≤ cnt ∧ cnt ≤ 9223372036854775807) (hkk : -9223372036854775808 ≤ k ∧ k ≤ 9223372036854775807) :
    Calls Try.prog 4 #[.slice A1 n1 c1, .int .u8 (a : Int), .int .i64 cnt, .int .i64 k] w fun e w' => e = .returned (.bool true) ∧ Below w.heap.size w w' := by
  unfold maxLen at hc1
  have AW := Lib.hid (awake18_p w)
  have H1 := Lib.hid h1
  have HB := Lib.hid hb1
  have hmod : ((a : Int) % 60) = ((a % 60 : Nat) : Int) := by omega
  have hmod2 : ((a : Int)).tmod 60 = ((a % 60 : Nat) : Int) := by rw [Int.tmod_eq_emod_of_nonneg (by omega)]; omega
  have hm60 : a % 60 < 60 := Nat.mod_lt _ (by decide)
  generalize a % 60 = m at *
  clear h1 hb1
  go_enter Try.func4, Try.ntmps4
  go_wp2_with fail
  refine AW.out.mono ?_
  rintro e w1 ⟨rfl, b1⟩
  have FW := Lib.hid (few_p A1 n1 c1 _ m bs w1 (H1.out.below b1) HB.out b1.size (by omega) (by omega))
  have B1 := Lib.hid b1
  obtain ⟨L, hL⟩ : ∃ L, L = few bs m := ⟨_, rfl⟩
  have HBL : Hid (Bin L) := by show Bin L; rw [hL]; exact few_bin _ _
  have HLL : Hid (L.length ≤ 60) := by show _ ≤ _; rw [hL, few_len]; omega
  rw [← hL] at FW
  clear b1 AW hL
  go_wp2_with fail
  refine FW.out.mono ?_
  rintro e w2 ⟨A2, c2, rfl, hc2, hm2, hown2, b2⟩
  have r2 := Rd.ofOwn hown2
  rw [ofN_lenB] at r2 hc2 ⊢
  have VP := Lib.hid (vec18_p L A2 L.length c2 w2 r2 HBL.out (by have := HLL.out; omega))
  have B2 := Lib.hid (B1.out.trans (b2.mono B1.out.size))
  clear b2 hown2 r2 B1 FW
  go_wp2_with fail
  refine VP.out.mono ?_
  rintro e w3 ⟨g, A3, rfl, hv3, b3, l3⟩
  have HV3 := Lib.hid hv3
  have B3 := Lib.hid (B2.out.trans (b3.mono B2.out.size))
  clear hv3 b3 B2 VP
  obtain ⟨q, hq⟩ : ∃ q : Int, q = if 400 < cnt ∧ cnt ≤ 16777216 then cnt % 400 else cnt := ⟨_, rfl⟩
  have HQ := Lib.hid hq
  go_simp
  iterate 8 go_step
  go_cut [2, 9] from 24 to 31 (fun x y wx => x = .int .i64 q ∧ y = .pointer (some ⟨g, 0, none⟩) ∧ w3 = wx)
  case first =>
    by_cases h4 : 400 < cnt
    · by_cases h5 : cnt ≤ 16777216
      · rw [if_pos ⟨h4, h5⟩] at hq
        have hm4 : cnt.tmod 400 = q := by rw [hq, Int.tmod_eq_emod_of_nonneg (by omega)]
        have hm5 : cnt % 400 = q := hq.symm
        clear hq HQ hcnt hkk
        go_wp2_with fail
        go_meet
        exact ⟨rfl, rfl, rfl⟩
      · rw [if_neg (fun h => h5 h.2)] at hq
        subst hq
        clear HQ hcnt hkk
        go_wp2_with fail
        go_meet
        exact ⟨rfl, rfl, rfl⟩
    · rw [if_neg (fun h => h4 h.1)] at hq
      subst hq
      clear HQ hcnt hkk
      go_wp2_with fail
      go_meet
      exact ⟨rfl, rfl, rfl⟩
  case rest =>
    obtain ⟨rfl, rfl, rfl⟩ := hcut
    have HQR : Hid (q < 0 ∨ 16777216 < q ∨ (0 ≤ q ∧ q ≤ 400)) := by
      show _ ∨ _ ∨ _
      rw [hq]; split <;> omega
    clear hq HQ hcnt
    have hll : L.length ≤ 29000 := by have := HLL.out; omega
    by_cases hk : k < 0 ∨ 8 < k
    · have DB := Lib.hid (fun W => Decode_bad k q (some ⟨g, 0, none⟩) W hk)
      have EB := Lib.hid (fun W => Encode_bad k (some ⟨g, 0, none⟩) W hk)
      clear hll
      rcases hk with hk | hk
      · go_wp2_with fail
        refine (DB.out _).mono ?_
        rintro e w4 ⟨rfl, rfl⟩
        go_wp2_with fail
        refine (EB.out _).mono ?_
        rintro e w4 ⟨rfl, rfl⟩
        go_wp2_with fail
        go_ret
        exact ⟨rfl, B3.out⟩
      · have hk0 : 0 ≤ k := by omega
        go_wp2_with fail
        refine (DB.out _).mono ?_
        rintro e w4 ⟨rfl, rfl⟩
        go_wp2_with fail
        refine (EB.out _).mono ?_
        rintro e w4 ⟨rfl, rfl⟩
        go_wp2_with fail
        go_ret
        exact ⟨rfl, B3.out⟩
    · obtain ⟨kn, rfl⟩ : ∃ kn : Nat, k = (kn : Int) := ⟨k.toNat, by omega⟩
      have hk8 : kn ≤ 8 := by omega
      have hk1 : ¬ (8 : Int) < (kn : Int) := by omega
      have hk2 : ¬ (kn : Int) < 0 := by omega
      clear hk hkk
      by_cases hr : q < 0 ∨ 16777216 < q
      · have DR := Lib.hid (fun W => Decode_range kn q (some ⟨g, 0, none⟩) W hk8 hr)
        have EV := Lib.hid (Encode_p kn g L _ A3 _ HV3.out HBL.out hk8 hll)
        clear hll HQR
        rcases hr with hr | hr
        · go_wp2_with fail
          refine (DR.out _).mono ?_
          rintro e w4 ⟨rfl, rfl⟩
          go_wp2_with fail
          refine EV.out.mono ?_
          rintro e w5 ⟨g5, A5, rfl, _, b5, _⟩
          have B5 := Lib.hid (B3.out.trans (b5.mono B3.out.size))
          clear b5 EV
          go_wp2_with fail
          go_ret
          exact ⟨rfl, B5.out⟩
        · have hr0 : 0 ≤ q := by omega
          go_wp2_with fail
          refine (DR.out _).mono ?_
          rintro e w4 ⟨rfl, rfl⟩
          go_wp2_with fail
          refine EV.out.mono ?_
          rintro e w5 ⟨g5, A5, rfl, _, b5, _⟩
          have B5 := Lib.hid (B3.out.trans (b5.mono B3.out.size))
          clear b5 EV
          go_wp2_with fail
          go_ret
          exact ⟨rfl, B5.out⟩
      · obtain ⟨qn, rfl⟩ : ∃ qn : Nat, q = (qn : Int) := ⟨q.toNat, by omega⟩
        have hq9 : qn ≤ 400 := by have := HQR.out; omega
        have hq1 : ¬ (16777216 : Int) < (qn : Int) := by omega
        have hq2 : ¬ (qn : Int) < 0 := by omega
        have DP := Lib.hid (Decode_p kn g qn L _ A3 _ HV3.out HBL.out hk8 (by omega))
        clear hr HQR
        go_wp2_with fail
        refine DP.out.mono ?_
        rintro e w4 ⟨hor, b4⟩
        have HV4 := Lib.hid (VecB.below HV3.out b4)
        have B4 := Lib.hid (B3.out.trans (b4.mono B3.out.size))
        have EV := Lib.hid (Encode_p kn g L _ A3 _ HV4.out HBL.out hk8 hll)
        clear b4 DP HV3 B3
        rcases hor with ⟨u, gw, Au, hu, hcu, hbu, rfl, hvu, hgu⟩ | ⟨hno, rfl⟩
        · have HU := Lib.hid hu
          have HCU := Lib.hid hcu
          have HBU := Lib.hid hbu
          have HVU := Lib.hid hvu
          clear hu hcu hbu hvu hll hgu
          go_wp2_with fail
          refine EV.out.mono ?_
          rintro e w5 ⟨g5, A5, rfl, _, b5, _⟩
          have HV5 := Lib.hid (VecB.below HV4.out b5)
          have HVU5 := Lib.hid (VecB.below HVU.out b5)
          have B5 := Lib.hid (B4.out.trans (b5.mono B4.out.size))
          have EU := Lib.hid (Encode_p kn gw u _ Au _ HVU5.out HBU.out hk8 (by have := HU.out; omega))
          clear b5 EV HV4 HVU B4
          go_wp2_with fail
          refine EU.out.mono ?_
          rintro e w6 ⟨g6, A6, rfl, hv6, b6, _⟩
          have HV6 := Lib.hid (VecB.below HV5.out b6)
          have HVU6 := Lib.hid (VecB.below HVU5.out b6)
          have B6 := Lib.hid (B5.out.trans (b6.mono B5.out.size))
          rw [HCU.out] at hv6
          have SM := Lib.hid (same_vv g6 g _ _ _ _ _ _ _ _ w6 hv6 HV6.out)
          have LN := Lib.hid (blen_p gw _ _ Au w6 HVU6.out)
          have hdc : decide (L.length = L.length ∧ val L = val L) = true := by simp
          rw [hdc] at SM
          rw [HU.out] at LN
          clear b6 hv6 EU HV5 HVU5 B5 hdc
          go_wp2_with fail
          refine LN.out.mono ?_
          rintro e w7 ⟨rfl, rfl⟩
          go_wp2_with fail
          refine SM.out.mono ?_
          rintro e w8 ⟨rfl, j, rfl⟩
          go_wp2_with fail
          go_ret
          exact ⟨rfl, below_draws B6.out j⟩
        · clear hno hll
          go_wp2_with fail
          refine EV.out.mono ?_
          rintro e w5 ⟨g5, A5, rfl, _, b5, _⟩
          have B5 := Lib.hid (B4.out.trans (b5.mono B4.out.size))
          clear b5 EV
          go_wp2_with fail
          go_ret
          exact ⟨rfl, B5.out⟩
end Go.Proofs.Ytkahnaenbgbooaa
