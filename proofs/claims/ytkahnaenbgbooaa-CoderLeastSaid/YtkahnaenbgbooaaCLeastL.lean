/- CoderLeast: the shortest code, and its order. -/
import Derived.Test.YtkahnaenbgbooaaCCodes
namespace Go.Proofs.Ytkahnaenbgbooaa
set_option maxRecDepth 20000
open Go.RowKit
set_option linter.unusedVariables false

theorem best_nil : bestK [] 8 = 0 ∧ codeOf 0 [] = [0, 1] := by decide +kernel
set_option maxHeartbeats 8000000 in
theorem coderLeast_walk (A1 : Option Addr) (n1 c1 : Nat) (bs : List Nat) (a t : Nat) (w : World)
    (h1 : Rd w w.heap.size A1 n1 (U8 bs)) (hb1 : ∀ b ∈ bs, b < 256) (hn1 : n1 ≤ c1) (hc1 : c1 ≤ maxLen) (ha : a < 256) (ht : t < 256) :
    Calls Try.prog 5 #[.slice A1 n1 c1, .int .u8 (a : Int), .int .u8 (t : Int)] w fun e w' => e = .returned (.bool true) ∧ Below w.heap.size w w' := by
  unfold maxLen at hc1
  have AW := Lib.hid (awake18_p w)
  have H1 := Lib.hid h1
  have HB := Lib.hid hb1
  clear h1 hb1
  go_enter Try.func5, Try.ntmps5
  go_wp2_with fail
  refine AW.out.mono ?_
  rintro e w1 ⟨rfl, b1⟩
  have B1 := Lib.hid b1
  have SP := Lib.hid (some_p A1 n1 c1 bs a t w1 ((H1.out.below b1).up b1.size) HB.out hn1 hc1 ha ht)
  clear b1 AW
  go_wp2_with fail
  refine SP.out.mono ?_
  rintro e w2 ⟨l, hbl, hll, A2, c2, rfl, hc2, hm2, hown2, b2⟩
  have r2 := Rd.ofOwn hown2
  rw [ofN_lenB] at r2 ⊢
  have HBL : Hid (Bin l) := hbl
  have R2 := Lib.hid r2
  have B2 := Lib.hid (B1.out.trans (b2.mono B1.out.size))
  obtain ⟨ln, hln⟩ : ∃ ln, ln = l.length := ⟨_, rfl⟩
  have HLN := Lib.hid hln
  rw [← hln] at R2 hll ⊢
  have VP := Lib.hid (vec18_p l A2 ln c2 w2 R2.out hbl (by omega))
  have hl9 : l.length ≤ 1200 := by omega
  have HL9 := Lib.hid hl9
  clear r2 b2 hown2 SP hln hc2 hm2 hbl B1 hl9
  go_wp2_with fail
  refine VP.out.mono ?_
  rintro e w3 ⟨g3, A3, rfl, hv3, b3, _⟩
  have LP := Lib.hid (least_p (some ⟨g3, 0, none⟩) l w3 fun k hk W m => encode_v k g3 l _ A3 W (VecB.below hv3 m) HBL.out hk (by have := HL9.out; omega))
  have R3 := Lib.hid ((R2.out.below b3).up b3.size)
  have B3 := Lib.hid (B2.out.trans (b3.mono B2.out.size))
  clear hv3 b3 VP R2 B2
  obtain ⟨bk, hbk⟩ : ∃ bk, bk = bestK l 8 := ⟨_, rfl⟩
  have HBK := Lib.hid hbk
  have hb8 : bk ≤ 8 := by rw [hbk]; exact bestK_le l 8
  rw [← hbk] at LP
  obtain ⟨C, hC⟩ : ∃ C, C = codeOf bk l := ⟨_, rfl⟩
  have HC := Lib.hid hC
  have HCB : Hid (Bin C) := by show Bin C; rw [hC]; exact code_bin bk l
  have hcl : C.length ≤ 50000 := by rw [hC]; exact code_len9 bk l HL9.out
  have HLE : Hid (∀ j, j ≤ 8 → C.length ≤ (codeOf j l).length) := fun j hj => by rw [hC, hbk]; exact bestK_least l 8 j hj
  rw [← hC] at LP
  clear hbk
  go_wp2_with fail
  refine LP.out.mono ?_
  rintro e w4 ⟨g, A4, rfl, hv4, b4⟩
  have HV4 := Lib.hid hv4
  have R4 := Lib.hid ((R3.out.below b4).up b4.size)
  have B4 := Lib.hid (B3.out.trans (b4.mono B3.out.size))
  have RL := Lib.hid (refLeast_p A2 ln c2 l w4 R4.out HBL.out (by omega))
  rw [← HBK.out, ← hC] at RL
  clear hv4 b4 LP R3 B3 hC
  go_wp2_with fail
  refine RL.out.mono ?_
  rintro e w5 ⟨A5, c5, rfl, r5, b5⟩
  have HV5 := Lib.hid (VecB.below HV4.out b5)
  have R5 := Lib.hid ((R4.out.below b5).up b5.size)
  have B5 := Lib.hid (B4.out.trans (b5.mono B4.out.size))
  have RC5 := Lib.hid r5
  have TX := Lib.hid (textL_p g C _ A4 w5 HV5.out HCB.out)
  clear b5 r5 RL HV4 R4 B4
  go_wp2_with fail
  refine TX.out.mono ?_
  rintro e w6 ⟨rfl, b6⟩
  have HV6 := Lib.hid (VecB.below HV5.out b6)
  have R6 := Lib.hid ((R5.out.below b6).up b6.size)
  have B6 := Lib.hid (B5.out.trans (b6.mono B5.out.size))
  have RT := Lib.hid (refText_p A5 _ c5 _ C w6 (RC5.out.below b6) HCB.out (by omega))
  clear b6 TX HV5 R5 B5 RC5
  go_wp2_with fail
  refine RT.out.mono ?_
  rintro e w7 ⟨rfl, rfl⟩
  clear RT
  go_wp2_with fail
  go_loopw [44] (fun i wr => ∃ q : Nat, q ≤ 9 ∧ i = .int .i64 (q : Int) ∧ Hid (VecAt wr g (val C) C.length A4) ∧ Hid (Rd wr wr.heap.size A2 ln (I64 (ofNB l))) ∧ Hid (Below w.heap.size w wr)) (fun i _ => 9 - (intOf i).toNat)
  case atStart => exact ⟨0, by omega, rfl, HV6, R6, B6⟩
  case round =>
    clear HV6 R6 B6
    obtain ⟨q, hq, rfl, HV, HR, HBw⟩ := hrel
    by_cases hq9 : q < 9
    · have VP := Lib.hid (vec18_p l A2 ln c2 wr HR.out HBL.out (by have := HL9.out; omega))
      go_wp2_with fail
      refine VP.out.mono ?_
      rintro e w8 ⟨g8, A8, rfl, hv8, b8, _⟩
      have EV := Lib.hid (Encode_p q g8 l _ A8 w8 hv8 HBL.out (by omega) (by have := HL9.out; omega))
      have HV8 := Lib.hid (VecB.below HV.out b8)
      have R8 := Lib.hid ((HR.out.below b8).up b8.size)
      have B8 := Lib.hid (HBw.out.trans (b8.mono HBw.out.size))
      clear hv8 b8 VP HV HR HBw
      go_wp2_with fail
      refine EV.out.mono ?_
      rintro e w9 ⟨g9, A9, rfl, hv9, b9, _⟩
      have L1 := Lib.hid (blen_p g9 _ _ A9 w9 hv9)
      have HV9 := Lib.hid (VecB.below HV8.out b9)
      have L2 := Lib.hid (blen_p g _ _ A4 w9 HV9.out)
      have R9 := Lib.hid ((R8.out.below b9).up b9.size)
      have B9 := Lib.hid (B8.out.trans (b9.mono B8.out.size))
      have hle := HLE.out q (by omega)
      obtain ⟨x1, hx1⟩ : ∃ x, x = (codeOf q l).length := ⟨_, rfl⟩
      rw [← hx1] at L1 hle
      obtain ⟨x2, hx2⟩ : ∃ x, x = C.length := ⟨_, rfl⟩
      rw [← hx2] at L2 hle
      have hni : ¬ (x1 : Int) < (x2 : Int) := by omega
      clear hv9 b9 EV HV8 R8 B8 hx1 hx2 hle hcl
      go_wp2_with fail
      refine L1.out.mono ?_
      rintro e wa ⟨rfl, rfl⟩
      go_wp2_with fail
      refine L2.out.mono ?_
      rintro e wa ⟨rfl, rfl⟩
      go_wp2_with fail
      go_roundw
      case rel => exact ⟨q + 1, by omega, by go_num, HV9, R9, B9⟩
      case measure => simp [intOf]; omega
    · obtain rfl : q = 9 := by omega
      have LN := Lib.hid (least_p none [] wr fun k hk W m => encode_n k W hk)
      rw [best_nil.1, best_nil.2] at LN
      clear HV HR
      go_wp2_with fail
      refine LN.out.mono ?_
      rintro e w8 ⟨g8, A8, rfl, hv8, b8⟩
      have TX := Lib.hid (textL_p g8 [0, 1] _ A8 w8 hv8 bin_01)
      rw [text_01] at TX
      have B8 := Lib.hid (HBw.out.trans (b8.mono HBw.out.size))
      clear hv8 b8 LN
      go_wp2_with fail
      refine TX.out.mono ?_
      rintro e w9 ⟨rfl, b9⟩
      have B9 := Lib.hid (B8.out.trans (b9.mono B8.out.size))
      clear b9 TX
      go_wp2_with fail
      go_ret
      exact ⟨rfl, B9.out⟩
end Go.Proofs.Ytkahnaenbgbooaa
