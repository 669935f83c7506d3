/- CanonOnce: the walk. -/
import Derived.Test.YtoncollcefanjaaZg21
import Derived.Test.YtoncollcefanjaaZLMix
import Derived.Deep.RegionHeld3
namespace Go.Proofs.Ytoncollcefanjaa
set_option maxRecDepth 100000
open Go.RowKit
set_option linter.unusedVariables false
set_option linter.unusedSimpArgs false
set_option maxHeartbeats 16000000 in
theorem canonOnce_walk (A0 A3 A4 : Option Addr) (n m0 c0 rr m3 c3 m4 c4 : Nat) (by_ nm : List Int) (w : World) (hn : n < 256) (hrr : rr < 256)
    (h0 : Rd w w.heap.size A0 m0 (Z8 by_)) (hb0 : ∀ x ∈ by_, 0 ≤ x ∧ x < 256) (hmc0 : m0 ≤ c0) (hcm0 : c0 ≤ maxLen)
    (h3 : Rd w w.heap.size A3 m3 (Z8 nm)) (hb3 : ∀ x ∈ nm, 0 ≤ x ∧ x < 256) (hmc3 : m3 ≤ c3) (hcm3 : c3 ≤ maxLen) (h4 : Flags w A4 m4) (hmc4 : m4 ≤ c4) (hcm4 : c4 ≤ maxLen) :
    Calls Try.prog 4 #[.int .u8 (n : Int), .slice A0 m0 c0, .int .u8 (rr : Int), .slice A3 m3 c3, .slice A4 m4 c4] w fun e w' => e = .returned (.bool true) ∧ Below w.heap.size w w' := by
  have hcm3' : c3 ≤ 9223372036854775807 := by unfold maxLen at hcm3; omega
  have hcm0' : c0 ≤ 9223372036854775807 := by unfold maxLen at hcm0; omega
  have AW := Lib.hid (awake11_p w)
  have H0 := Lib.hid h0
  have HB0 := Lib.hid hb0
  have H3 := Lib.hid h3
  have HB3 := Lib.hid hb3
  have H4 := Lib.hid h4
  have HC4 := Lib.hid (And.intro hmc4 hcm4)
  obtain ⟨kk, hkk⟩ : ∃ kk, kk = n % 12 := ⟨_, rfl⟩
  have hkb : kk < 12 := by omega
  have y1 : (n : Int) % 12 = (kk : Int) := by omega
  have y2 : (n : Int).tmod 12 = (kk : Int) := by rw [Int.tmod_eq_emod_of_nonneg (by omega)]; omega
  clear h0 hb0 h3 hb3 h4 hkk hcm3 hcm0 hmc4 hcm4
  go_enter Try.func4, Try.ntmps4
  go_wp2_with fail
  refine AW.out.mono ?_
  rintro e w1 ⟨rfl, b1⟩
  have B1 := Lib.hid b1
  have AN := Lib.hid (any_p kk rr m0 c0 w.heap.size A0 by_ w1 (H0.out.below b1) HB0.out b1.size (by omega) hrr (by omega))
  clear b1 AW H0 HB0
  go_wp2_with fail
  refine AN.out.mono ?_
  rintro e w2 ⟨v, l, b, root, rfl, hrm, hl, hroot, b2⟩
  obtain ⟨hinv, A, cA, hla, rfl, hlc, hcA, hrA⟩ := hrm
  obtain ⟨N, hN⟩ : ∃ N, N = l.length := ⟨_, rfl⟩
  have HNN := Lib.hid hN
  have hN2 : N = 2 * kk := by omega
  have HN2 := Lib.hid hN2
  rw [← hN] at hrA ⊢
  rw [← hN2] at hroot
  have HRT : Hid (RootOk root l.length) := by rw [← hN]; exact hroot
  have HEV : Hid (l.length % 2 = 0) := by show _ = _; omega
  have HI := Lib.hid hinv
  have bx := (Below.refl w2.heap.size w2).alloc (Nat.le_refl _) (.cells #[.slice A N cA, .int .i64 root, .int .i64 0] 26)
  have XB := Lib.hid (Blk.new w2 26 #[.slice A N cA, .int .i64 root, .int .i64 0])
  have B2a := B1.out.trans (b2.mono B1.out.size)
  have B3 : Hid (Below w.heap.size w (w2.alloc (.cells #[.slice A N cA, .int .i64 root, .int .i64 0] 26))) := B2a.trans (bx.mono B2a.size)
  have hN22 : N ≤ 22 := by omega
  have RA := Lib.hid (hrA.more bx)
  have MX := Lib.hid (mixed_p A A3 A4 cA m3 c3 m4 c4 l b root 0 nm _ (by rw [← hN]; exact RA.out) hinv (by omega) (by omega) (by rw [← hN]; exact hroot) ((H3.out.below B3.out).up B3.out.size) HB3.out (by omega) (fun i hi => by
    obtain ⟨b4, o4, e4, hb4, v4, hv4⟩ := H4.out i hi
    exact ⟨b4, o4, e4, Nat.lt_of_lt_of_le hb4 B3.out.size, v4, (B3.out.cell (p := ⟨b4, o4 + i, none⟩) hb4).trans hv4⟩) HC4.out.1 HC4.out.2)
  unfold MixPost at MX
  rw [← hN] at MX
  have INF := Lib.hid info_rmap
  clear hN hinv hla hlc hcA hrA b2 bx B2a B1 AN hl hroot hN2 H3 HB3 H4
  go_wp2_with fail
  generalize hw3 : w2.alloc (.cells #[.slice A N cA, .int .i64 root, .int .i64 0] 26) = w3 at *
  generalize w2.heap.size = gx at *
  clear hw3
  refine MX.out.mono ?_
  rintro e w4 ⟨L, q, AT, cT, AL, cL, rfl, hnam, _, _, hcL, hcL2, hoT, hoL, b4⟩
  obtain ⟨ry, hry⟩ : ∃ ry, ry = reRoot L root := ⟨_, rfl⟩
  rw [← hry]
  have HRY := Lib.hid hry
  have bx := (Below.refl w4.heap.size w4).alloc (Nat.le_refl _) (.cells #[.slice AT N cT, .int .i64 ry, .int .i64 0] 26)
  have YB := Lib.hid (Blk.new w4 26 #[.slice AT N cT, .int .i64 ry, .int .i64 0])
  have HNAM := Lib.hid hnam
  have hb := b4.trans (bx.mono b4.size)
  have XB5 := Lib.hid (XB.out.below hb)
  have RL5 := Lib.hid ((Rd.ofOwn hoL).more bx)
  have RT5 := Lib.hid ((Rd.ofOwn hoT).more bx)
  have RA5 := Lib.hid (RA.out.more hb)
  have B5 := Lib.hid (B3.out.trans (hb.mono B3.out.size))
  have HN' : Hid (Nam l.length L q) := by rw [← HNN.out]; exact hnam
  have OFX : Hid (∀ W, Below (w4.alloc (.cells #[.slice AT N cT, .int .i64 ry, .int .i64 0] 26)).heap.size (w4.alloc (.cells #[.slice AT N cT, .int .i64 ry, .int .i64 0] 26)) W → Calls Try.prog 12 #[.agg #[.slice A N cA, .int .i64 root, .int .i64 0]] W fun e w' => ∃ g, e = .returned (.pointer (some ⟨g, 0, none⟩)) ∧ MapAt w' g l b root 0 ∧ Below W.heap.size W w') := fun W mm => by
    have := of11_p A cA l b root 0 W (by have := RA5.out.more mm; rwa [HNN.out] at this) HI.out HEV.out (by have := HNN.out; omega) HRT.out (by omega) (by omega)
    rwa [← HNN.out] at this
  have PTX : Hid (∀ W, Below (w4.alloc (.cells #[.slice AT N cT, .int .i64 ry, .int .i64 0] 26)).heap.size (w4.alloc (.cells #[.slice AT N cT, .int .i64 ry, .int .i64 0] 26)) W → Calls Try.prog 22 #[.agg #[.slice A N cA, .int .i64 root, .int .i64 0]] W (NewQt W (pN l) (partsC l (pN l)))) := fun W mm => by
    have := reparts_p A cA l b root 0 W (by have := RA5.out.more mm; rwa [HNN.out] at this) HI.out HEV.out (by have := HNN.out; omega) (by omega)
    rwa [← HNN.out] at this
  have hcy : (cjL L q l).length = N := by rw [cjL_len, HNN.out]
  have OFY : Hid (∀ W, Below (w4.alloc (.cells #[.slice AT N cT, .int .i64 ry, .int .i64 0] 26)).heap.size (w4.alloc (.cells #[.slice AT N cT, .int .i64 ry, .int .i64 0] 26)) W → Calls Try.prog 12 #[.agg #[.slice AT N cT, .int .i64 ry, .int .i64 0]] W fun e w' => ∃ g, e = .returned (.pointer (some ⟨g, 0, none⟩)) ∧ MapAt w' g (cjL L q l) (cjL L q b) ry 0 ∧ Below W.heap.size W w') := fun W mm => by
    have := of11_p AT cT (cjL L q l) (cjL L q b) ry 0 W (by have := RT5.out.more mm; rwa [hcy]) (cj_inv HN'.out HI.out) (by rw [hcy, HNN.out]; exact HEV.out) (by omega) (by rw [hcy, HRY.out, HNN.out]; exact reRoot_ok HN'.out HRT.out) (by omega) (by omega)
    rwa [hcy] at this
  have PTY : Hid (∀ W, Below (w4.alloc (.cells #[.slice AT N cT, .int .i64 ry, .int .i64 0] 26)).heap.size (w4.alloc (.cells #[.slice AT N cT, .int .i64 ry, .int .i64 0] 26)) W → Calls Try.prog 22 #[.agg #[.slice AT N cT, .int .i64 ry, .int .i64 0]] W (NewQt W (pN l) (partsC (cjL L q l) (pN l)))) := fun W mm => by
    have := reparts_p AT cT (cjL L q l) (cjL L q b) ry 0 W (by have := RT5.out.more mm; rwa [hcy]) (cj_inv HN'.out HI.out) (by rw [hcy, HNN.out]; exact HEV.out) (by omega) (by omega)
    rwa [hcy, cj_pN HN'.out HI.out] at this
  have xx0 := XB5.out.cell 0
  have xx1 := XB5.out.cell 1
  have xx2 := XB5.out.cell 2
  have yy0 := YB.out.cell 0
  have yy1 := YB.out.cell 1
  have yy2 := YB.out.cell 2
  simp at xx0 xx1 xx2 yy0 yy1 yy2
  obtain ⟨P, Q, hC⟩ := canO_is (b := b) HI.out HEV.out HRT.out
  have hCn : Nam l.length P Q := CanO.nam (b := b) hC
  obtain ⟨P', Q', hC'⟩ := canO_is (l := cjL P Q l) (b := cjL P Q b) (root := reRoot P root) (cj_inv hCn HI.out) (by rw [cjL_len]; exact HEV.out) (by rw [cjL_len]; exact reRoot_ok hCn HRT.out)
  obtain ⟨P2, Q2, hC2⟩ := canO_is (l := cjL L q l) (b := cjL L q b) (root := ry) (cj_inv HN'.out HI.out) (by rw [cjL_len]; exact HEV.out) (by rw [cjL_len, HRY.out]; exact reRoot_ok HN'.out HRT.out)
  have HC := Lib.hid hC
  have HC1 := Lib.hid hC'
  have HC2 := Lib.hid hC2
  have HG := Lib.hid (canO_again HI.out hC hC')
  have HON : Hid (¬ 1 < pN l → (∀ d, d < N → P2.getD (L.getD d 0) 0 = P.getD d 0) ∧ reRoot P root = reRoot P2 ry ∧ cjL P Q l = cjL P2 Q2 (cjL L q l)) := fun h1 => by
    have := once_all HI.out hC HN'.out (by rw [← HRY.out]; exact hC2) h1
    rwa [← HNN.out, ← HRY.out] at this
  have HPL : Hid (P.length = N ∧ P2.length = N) := ⟨by rw [hCn.len, HNN.out], by rw [(CanO.nam (b := b) hC2).len, hcy]⟩
  have HIC := Lib.hid (cj_inv hCn HI.out)
  have HIY := Lib.hid (cj_inv HN'.out HI.out)
  clear hnam hoL hoT b4 bx hb MX XB B3 RA hry hC hC' hC2 hcy
  go_wp2_with fail
  generalize hw5 : w4.alloc (.cells #[.slice AT N cT, .int .i64 ry, .int .i64 0] 26) = w5 at *
  generalize w4.heap.size = gy at *
  clear hw5
  refine (OFX.out _ (Below.refl _ _)).mono ?_
  rintro e w6 ⟨g, rfl, m6, z⟩
  have Z6 := Lib.hid z
  have C1 := Lib.hid (canon_any g l b root 0 P Q w6 m6 HI.out HC.out)
  clear z m6 xx0 xx1 xx2 yy0 yy1 yy2
  go_wp2_with fail
  refine C1.out.mono ?_
  rintro e w7 ⟨ga, gp, rfl, ma, kp, z⟩
  have Z7 := Lib.hid (Z6.out.trans (z.mono Z6.out.size))
  have MA := Lib.hid ma
  have KP := Lib.hid kp
  have YB7 := YB.out.below Z7.out
  have yy0 := YB7.cell 0
  have yy1 := YB7.cell 1
  have yy2 := YB7.cell 2
  simp at yy0 yy1 yy2
  clear z ma kp C1 Z6 YB7
  go_wp2_with fail
  refine (OFY.out _ Z7.out).mono ?_
  rintro e w8 ⟨g2, rfl, m8, z⟩
  have Z8 := Lib.hid (Z7.out.trans (z.mono Z7.out.size))
  have MA8 := Lib.hid (MA.out.below z)
  have KP8 := Lib.hid (KP.out.below z)
  have C2 := Lib.hid (canon_any g2 (cjL L q l) (cjL L q b) ry 0 P2 Q2 w8 m8 HIY.out HC2.out)
  clear z m8 Z7 MA KP yy0 yy1 yy2
  go_wp2_with fail
  refine C2.out.mono ?_
  rintro e w9 ⟨gb, gq, rfl, mb, kq, z⟩
  have Z9 := Lib.hid (Z8.out.trans (z.mono Z8.out.size))
  have MA9 := Lib.hid (MA8.out.below z)
  have KP9 := Lib.hid (KP8.out.below z)
  have MB9 := Lib.hid mb
  have KQ9 := Lib.hid kq
  have I1 : Hid (Calls Try.prog 20 #[.pointer (some ⟨ga, 0, none⟩)] w9 fun e w' => e = .returned (.bool true) ∧ Below w9.heap.size w9 w') := by
    have h1 := cis_p ga _ _ _ _ P' Q' w9 MA9.out HIC.out HC1.out
    rwa [decide_eq_true (show reRoot P root = reRoot P' (reRoot P root) ∧ cjL P Q l = cjL P' Q' (cjL P Q l) from ⟨HG.out.2.2.symm, HG.out.2.1.symm⟩)] at h1
  clear z mb kq C2 Z8 MA8 KP8
  go_wp2_with fail
  refine I1.out.mono ?_
  rintro e wa ⟨rfl, z⟩
  have ZA := Lib.hid (Z9.out.trans (z.mono Z9.out.size))
  have MAA := Lib.hid (MA9.out.below z)
  have KPA := Lib.hid (KP9.out.below z)
  have MBA := Lib.hid (MB9.out.below z)
  have KQA := Lib.hid (KQ9.out.below z)
  have XBA := XB5.out.below ZA.out
  have xx0 := XBA.cell 0
  have xx1 := XBA.cell 1
  have xx2 := XBA.cell 2
  simp at xx0 xx1 xx2
  obtain ⟨np, hnp⟩ : ∃ np, np = pN l := ⟨_, rfl⟩
  rw [← hnp] at PTX PTY HON
  clear z I1 Z9 MA9 KP9 MB9 KQ9 XBA hnp
  go_wp2_with fail
  refine (PTX.out _ ZA.out).mono ?_
  rintro e wb ⟨Aq, cq, rfl, _, _, _, z⟩
  have ZB := Lib.hid (ZA.out.trans (z.mono ZA.out.size))
  have MAB := Lib.hid (MAA.out.below z)
  have KPB := Lib.hid (KPA.out.below z)
  have MBB := Lib.hid (MBA.out.below z)
  have KQB := Lib.hid (KQA.out.below z)
  have YBB := YB.out.below ZB.out
  have XBB := XB5.out.below ZB.out
  clear xx0 xx1 xx2
  have xx0 := XBB.cell 0
  have xx1 := XBB.cell 1
  have xx2 := XBB.cell 2
  have yy0 := YBB.cell 0
  have yy1 := YBB.cell 1
  have yy2 := YBB.cell 2
  simp at xx0 xx1 xx2 yy0 yy1 yy2
  clear z ZA MAA KPA MBA KQA XBB YBB PTX
  by_cases h1 : 1 < np
  · have hb1 : decide (1 < np) = true := by rw [decide_eq_true_iff]; exact h1
    have hb2 : decide ((1 : Int) < (np : Int)) = true := by rw [decide_eq_true_iff]; omega
    have hb3 : (1 : Int) < (np : Int) := by omega
    clear xx0 xx1 xx2
    go_wp2_with fail
    refine (PTY.out _ ZB.out).mono ?_
    rintro e wc ⟨Aq, cq, rfl, _, _, _, z⟩
    have BC := Lib.hid (B5.out.trans ((ZB.out.trans (z.mono ZB.out.size)).mono B5.out.size))
    clear z ZB
    go_wp2_with fail
    go_ret
    exact ⟨by simp, BC.out⟩
  · have hb1 : decide (1 < np) = false := by rw [decide_eq_false_iff_not]; exact h1
    have hb3 : ¬ (1 : Int) < (np : Int) := by omega
    have HO := Lib.hid (HON.out h1)
    clear h1 HON PTY
    go_wp2_with fail
    go_loopw [72] (fun i wr => ∃ (j : Nat), j ≤ N ∧ i = .int .i64 (j : Int) ∧ Hid (Below wb.heap.size wb wr)) (fun i _ => N - (intOf i).toNat)
    case atStart => exact ⟨0, by omega, rfl, Below.refl _ _⟩
    case round =>
      obtain ⟨j, hj, rfl, HB⟩ := hrel
      by_cases hlt : j < N
      · have hdj : decide (j < N) = true := by rw [decide_eq_true_iff]; exact hlt
        have hjI : (j : Int) < (N : Int) := by omega
        have ATP : Hid (∀ W, Below wr.heap.size wr W → Calls Try.prog 23 #[.pointer (some ⟨gp, 0, none⟩), .int .i64 (j : Int)] W fun e w' => e = .returned (.int .i64 ((P.getD j 0 : Nat) : Int)) ∧ W = w') := fun W mm => at_in gp P Q j W ((KPB.out.below HB.out).below mm) (by rw [HPL.out.1]; exact hlt)
        have ATQ : Hid (∀ W, Below wr.heap.size wr W → Calls Try.prog 23 #[.pointer (some ⟨gq, 0, none⟩), .int .i64 ((L.getD j 0 : Nat) : Int)] W fun e w' => e = .returned (.int .i64 ((P.getD j 0 : Nat) : Int)) ∧ W = w') := fun W mm => by
          have h1 := at_in gq P2 Q2 (L.getD j 0) W ((KQB.out.below HB.out).below mm) (by rw [HPL.out.2]; exact HNAM.out.lt hlt)
          rwa [HO.out.1 j hlt] at h1
        obtain ⟨gL, oL, rfl, hbL, hcL'⟩ := ((RL5.out.more ZB.out).more HB.out).i64 (by omega)
        have cr := hcL' j hlt
        rw [ofN_get] at cr
        have SK : Hid (∀ W, Below wr.heap.size wr W → Below wr.heap.size wr W ∧ W.cell? ⟨gL, oL + j, none⟩ = some (.int .i64 ((L.getD j 0 : Nat) : Int))) := fun W m => ⟨m, (m.cell (p := ⟨gL, oL + j, none⟩) hbL).trans cr⟩
        have hba0 := Below.refl wr.heap.size wr
        have hba1 := hba0.drew
        obtain ⟨_, z1⟩ := SK.out _ hba0
        obtain ⟨_, z2⟩ := SK.out _ hba1
        clear hcL' cr
        generalize L.getD j 0 = lj at *
        generalize P.getD j 0 = pj at *
        go_upto_region 14 with fail
        go_region_held3 (fun W => Below wr.heap.size wr W ∧ W.cell? ⟨gL, oL + j, none⟩ = some (.int .i64 (lj : Int)))
          (exact SK.out _ (by assumption))
          (first
          | (go_at_call 23; (with_reducible refine (ATP.out _ (by assumption)).mono ?_); rintro e wf ⟨rfl, rfl⟩)
          | (go_at_call 23; (with_reducible refine (ATQ.out _ (by assumption)).mono ?_); rintro e wf ⟨rfl, rfl⟩))
        all_goals (
          go_wp2_with fail
          go_roundw
          case rel => exact ⟨j + 1, by omega, by go_num, HB.out.trans (hba1.mono HB.out.size)⟩
          case measure => simp [intOf]; omega)
      · obtain rfl : j = N := by omega
        have ZR := Lib.hid (ZB.out.trans (HB.out.mono ZB.out.size))
        have BR := Lib.hid (B5.out.trans (ZR.out.mono B5.out.size))
        have XBR := XB5.out.below ZR.out
        have YBR := YB.out.below ZR.out
        have hgx := XBR.lt
        have hgy := YBR.lt
        clear xx0 xx1 xx2 yy0 yy1 yy2
        have xx0 := XBR.cell 0
        have xx1 := XBR.cell 1
        have xx2 := XBR.cell 2
        have yy0 := YBR.cell 0
        have yy1 := YBR.cell 1
        have yy2 := YBR.cell 2
        simp at xx0 xx1 xx2 yy0 yy1 yy2
        have SMP : Hid (∀ W, Below wr.heap.size wr W → Calls Try.prog 24 #[.pointer (some ⟨ga, 0, none⟩), .pointer (some ⟨gb, 0, none⟩)] W fun e w' => e = .returned (.bool true) ∧ Below W.heap.size W w') := fun W m => by
          have h1 := dsame_p ga gb _ _ _ _ _ _ _ _ W ((MAB.out.below HB.out).below m) ((MBB.out.below HB.out).below m)
          rwa [decide_eq_true (show reRoot P root = reRoot P2 ry ∧ (0 : Int) = 0 ∧ cjL P Q l = cjL P2 Q2 (cjL L q l) from ⟨HO.out.2.1, rfl, HO.out.2.2⟩)] at h1
        have ISP : Hid (∀ W g1 g2, MapAt W g1 l b root 0 → MapAt W g2 (cjL L q l) (cjL L q b) ry 0 → Calls Try.prog 25 #[.pointer (some ⟨g1, 0, none⟩), .pointer (some ⟨g2, 0, none⟩)] W fun e w' => e = .returned (.bool true) ∧ Below W.heap.size W w') := fun W g1 g2 h1 h2 => by
          have h3 := ciso_p g1 g2 _ _ _ _ _ _ _ _ P Q P2 Q2 W h1 h2 HI.out HIY.out HC.out HC2.out
          rwa [decide_eq_true (show reRoot P root = reRoot P2 ry ∧ (0 : Int) = 0 ∧ cjL P Q l = cjL P2 Q2 (cjL L q l) from ⟨HO.out.2.1, rfl, HO.out.2.2⟩)] at h3
        have OX : Hid (∀ W, Below wr.heap.size wr W → Calls Try.prog 12 #[.agg #[.slice A j cA, .int .i64 root, .int .i64 0]] W fun e w' => ∃ g, e = .returned (.pointer (some ⟨g, 0, none⟩)) ∧ MapAt w' g l b root 0 ∧ Below W.heap.size W w') := fun W mm => OFX.out W (ZR.out.trans (mm.mono ZR.out.size))
        have OY : Hid (∀ W, Below wr.heap.size wr W → Calls Try.prog 12 #[.agg #[.slice AT j cT, .int .i64 ry, .int .i64 0]] W fun e w' => ∃ g, e = .returned (.pointer (some ⟨g, 0, none⟩)) ∧ MapAt w' g (cjL L q l) (cjL L q b) ry 0 ∧ Below W.heap.size W w') := fun W mm => OFY.out W (ZR.out.trans (mm.mono ZR.out.size))
        have SK : Hid (∀ W, Below wr.heap.size wr W → Below wr.heap.size wr W ∧ W.cell? ⟨gx, 0, none⟩ = some (.slice A j cA) ∧ W.cell? ⟨gx, 1, none⟩ = some (.int .i64 root) ∧ W.cell? ⟨gx, 2, none⟩ = some (.int .i64 0) ∧ W.cell? ⟨gy, 0, none⟩ = some (.slice AT j cT) ∧ W.cell? ⟨gy, 1, none⟩ = some (.int .i64 ry) ∧ W.cell? ⟨gy, 2, none⟩ = some (.int .i64 0)) := fun W m => ⟨m, (m.cell (p := ⟨gx, 0, none⟩) hgx).trans xx0, (m.cell (p := ⟨gx, 1, none⟩) hgx).trans xx1, (m.cell (p := ⟨gx, 2, none⟩) hgx).trans xx2, (m.cell (p := ⟨gy, 0, none⟩) hgy).trans yy0, (m.cell (p := ⟨gy, 1, none⟩) hgy).trans yy1, (m.cell (p := ⟨gy, 2, none⟩) hgy).trans yy2⟩
        have hba0 := Below.refl wr.heap.size wr
        have hba1 := hba0.drew
        clear XBR YBR hgx hgy OFX OFY hlt hj hb1 hb3 xx0 xx1 xx2 yy0 yy1 yy2
        obtain ⟨_, xx0, xx1, xx2, yy0, yy1, yy2⟩ := SK.out _ hba0
        obtain ⟨_, zx0, zx1, zx2, zy0, zy1, zy2⟩ := SK.out _ hba1
        go_upto_region 17 with fail
        go_region_held3 (fun W => Below wr.heap.size wr W ∧ W.cell? ⟨gx, 0, none⟩ = some (.slice A j cA) ∧ W.cell? ⟨gx, 1, none⟩ = some (.int .i64 root) ∧ W.cell? ⟨gx, 2, none⟩ = some (.int .i64 0) ∧ W.cell? ⟨gy, 0, none⟩ = some (.slice AT j cT) ∧ W.cell? ⟨gy, 1, none⟩ = some (.int .i64 ry) ∧ W.cell? ⟨gy, 2, none⟩ = some (.int .i64 0))
          (exact SK.out _ (by assumption))
          (first
          | (go_at_call 25; (with_reducible refine (ISP.out _ _ _ (hm1.below hz2) hm2).mono ?_); rintro e wf ⟨rfl, hz3⟩; have hbe := hbd.trans (hz3.mono hbd.size))
          | (go_at_call 12; (with_reducible refine (OY.out _ hbc).mono ?_); rintro e wd ⟨gh, rfl, hm2, hz2⟩; have hbd := hbc.trans (hz2.mono hbc.size))
          | (go_at_call 12; (with_reducible refine (OX.out _ hbb).mono ?_); rintro e wc ⟨gg, rfl, hm1, hz1⟩; have hbc := hbb.trans (hz1.mono hbb.size))
          | (go_at_call 24; (with_reducible refine (SMP.out _ (by assumption)).mono ?_); rintro e wbb ⟨rfl, hz0⟩; have hbb := hba1.trans (hz0.mono hba1.size)))
        all_goals (
          go_wp2_with fail
          go_ret
          exact ⟨by simp, BR.out.trans (hbe.mono BR.out.size)⟩)
end Go.Proofs.Ytoncollcefanjaa
