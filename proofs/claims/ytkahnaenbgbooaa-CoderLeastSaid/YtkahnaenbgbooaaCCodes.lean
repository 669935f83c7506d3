/- CoderCodes: the code is the document's, and is decoded again. -/
import Derived.Test.YtkahnaenbgbooaaCSome
import Derived.Test.YtkahnaenbgbooaaBRefB
namespace Go.Proofs.Ytkahnaenbgbooaa
set_option maxRecDepth 20000
open Go.RowKit
set_option linter.unusedVariables false

/-- The text of a vector's bits. -/
theorem textL_p (g : Nat) (l : List Nat) (B : Nat) (A : Option Addr) (w : World) (h : VecB w B g (val l) l.length A) (hb : Bin l) :
    Calls Try.prog 12 #[.pointer (some ⟨g, 0, none⟩)] w fun e w' => e = .returned (.string (textOf l)) ∧ Below w.heap.size w w' := by
  have h1 := text_p g _ _ B A w h
  rwa [numL_val hb _ (Nat.le_refl _), List.take_length] at h1
set_option maxHeartbeats 8000000 in
theorem coderCodes_walk (A1 : Option Addr) (n1 c1 : Nat) (bs : List Nat) (a t k : Nat) (w : World)
    (h1 : Rd w w.heap.size A1 n1 (U8 bs)) (hb1 : ∀ b ∈ bs, b < 256) (hn1 : n1 ≤ c1) (hc1 : c1 ≤ maxLen) (ha : a < 256) (ht : t < 256) (hk : k < 256) :
    Calls Try.prog 3 #[.slice A1 n1 c1, .int .u8 (a : Int), .int .u8 (t : Int), .int .u8 (k : Int)] w fun e w' => e = .returned (.bool true) ∧ Below w.heap.size w w' := by
  unfold maxLen at hc1
  have AW := Lib.hid (awake18_p w)
  have H1 := Lib.hid h1
  have HB := Lib.hid hb1
  have y1 : ((k : Int) % 9) = ((k % 9 : Nat) : Int) := by omega
  have y2 : ((k : Int)).tmod 9 = ((k % 9 : Nat) : Int) := by rw [Int.tmod_eq_emod_of_nonneg (by omega)]; omega
  have hk8 : k % 9 ≤ 8 := by omega
  generalize k % 9 = kk at *
  clear h1 hb1
  go_enter Try.func3, Try.ntmps3
  go_wp2_with fail
  refine AW.out.mono ?_
  rintro e w1 ⟨rfl, b1⟩
  have B1 := Lib.hid b1
  have SP := Lib.hid (some_p A1 n1 c1 bs a t w1 ((H1.out.below b1).up b1.size) HB.out hn1 hc1 ha ht)
  clear b1 AW
  go_wp2_with fail
  refine SP.out.mono ?_
  rintro e w2 ⟨l, hbl, hll, A2, c2, rfl, hc2, hm2, hown2, b2⟩
  have r2 := Rd.ofOwn hown2
  rw [ofN_lenB] at r2 ⊢
  have HBL : Hid (Bin l) := hbl
  have R2 := Lib.hid r2
  have B2 := Lib.hid (B1.out.trans (b2.mono B1.out.size))
  obtain ⟨ln, hln⟩ : ∃ ln, ln = l.length := ⟨_, rfl⟩
  have HLN := Lib.hid hln
  rw [← hln] at R2 hll ⊢
  have VP := Lib.hid (vec18_p l A2 ln c2 w2 R2.out hbl (by omega))
  have hl9 : l.length ≤ 29000 := by omega
  have HL9 := Lib.hid hl9
  clear r2 b2 hown2 SP hln hc2 hm2 hbl B1 hl9
  go_wp2_with fail
  refine VP.out.mono ?_
  rintro e w3 ⟨g3, A3, rfl, hv3, b3, _⟩
  have EV := Lib.hid (Encode_p kk g3 l _ A3 w3 hv3 HBL.out hk8 HL9.out)
  have R3 := Lib.hid ((R2.out.below b3).up b3.size)
  have B3 := Lib.hid (B2.out.trans (b3.mono B2.out.size))
  clear hv3 b3 VP R2 B2
  go_wp2_with fail
  refine EV.out.mono ?_
  rintro e w4 ⟨g, A4, rfl, hv4, b4, _⟩
  obtain ⟨C, hC⟩ : ∃ C, C = codeOf kk l := ⟨_, rfl⟩
  have HC := Lib.hid hC
  have HCB : Hid (Bin C) := by show Bin C; rw [hC]; exact code_bin kk l
  have hcl : C.length ≤ 50000 := by rw [hC]; exact code_len9 kk l (by have := HLN.out; omega)
  rw [← hC] at hv4
  have HV4 := Lib.hid hv4
  have R4 := Lib.hid ((R3.out.below b4).up b4.size)
  have B4 := Lib.hid (B3.out.trans (b4.mono B3.out.size))
  have TX := Lib.hid (textL_p g C _ A4 w4 hv4 HCB.out)
  clear hv4 b4 EV R3 B3 hC
  go_wp2_with fail
  refine TX.out.mono ?_
  rintro e w5 ⟨rfl, b5⟩
  have HV5 := Lib.hid (VecB.below HV4.out b5)
  have R5 := Lib.hid ((R4.out.below b5).up b5.size)
  have B5 := Lib.hid (B4.out.trans (b5.mono B4.out.size))
  have RE := Lib.hid (refEncode_p kk A2 ln c2 l w5 R5.out HBL.out hk8 (by omega))
  clear b5 TX HV4 R4 B4
  go_wp2_with fail
  refine RE.out.mono ?_
  rintro e w6 ⟨A6, c6, rfl, hc6, hm6, hown6, b6⟩
  have r6 := Rd.ofOwn hown6
  rw [← HC.out] at r6 ⊢
  rw [ofN_lenB] at r6 ⊢
  have HV6 := Lib.hid (VecB.below HV5.out b6)
  have R6 := Lib.hid ((R5.out.below b6).up b6.size)
  have B6 := Lib.hid (B5.out.trans (b6.mono B5.out.size))
  have RT := Lib.hid (refText_p A6 _ c6 _ C w6 r6 HCB.out (by omega))
  clear b6 RE HV5 R5 B5 r6 hown6 hc6 hm6
  go_wp2_with fail
  refine RT.out.mono ?_
  rintro e w7 ⟨rfl, rfl⟩
  have DP := Lib.hid (Decode_p kk g ln C _ A4 w6 HV6.out HCB.out hk8 (by omega))
  clear RT
  go_wp2_with fail
  refine DP.out.mono ?_
  rintro e w8 ⟨hor, b8⟩
  rcases hor with ⟨u, gu, Au, hu, hcu, hbu, rfl, hvu, _⟩ | ⟨hno, _⟩
  rotate_left
  · exact absurd HC.out.symm (hno l HBL.out HLN.out.symm)
  obtain rfl : u = l := code_inj hbu HBL.out (by rw [hu]; exact HLN.out) (by rw [hcu]; exact HC.out)
  have HV8 := Lib.hid (VecB.below HV6.out b8)
  have R8 := Lib.hid ((R6.out.below b8).up b8.size)
  have B8 := Lib.hid (B6.out.trans (b8.mono B6.out.size))
  have HVU := Lib.hid hvu
  have VQ := Lib.hid (vec18_p u A2 ln c2 w8 R8.out HBL.out (by have := HL9.out; omega))
  clear hu hcu hbu hvu b8 DP HV6 R6 B6
  go_wp2_with fail
  refine VQ.out.mono ?_
  rintro e w9 ⟨g9, A9, rfl, hv9, b9, _⟩
  have HV9 := Lib.hid (VecB.below HV8.out b9)
  have B9 := Lib.hid (B8.out.trans (b9.mono B8.out.size))
  have SM := Lib.hid (same_vv gu g9 _ _ _ _ _ _ _ _ w9 (VecB.below HVU.out b9) hv9)
  have hd1 : decide (u.length = u.length ∧ val u = val u) = true := by simp
  rw [hd1] at SM
  clear hd1 hv9 b9 VQ HV8 R8 B8 HVU
  go_wp2_with fail
  refine SM.out.mono ?_
  rintro e wa ⟨rfl, j, rfl⟩
  have HV10 := Lib.hid (VecB.below HV9.out (below_draws (Below.refl _ _) j))
  have B10 := Lib.hid (below_draws B9.out j)
  generalize w9.drewN j = wb at *
  clear HV9 B9 SM
  have BS := Lib.hid (Blk.new wb 3 #[.int .i64 ((ln : Int) - 1), .int .i64 ((ln : Int) + 1)])
  have bb := (Below.refl wb.heap.size wb).alloc (Nat.le_refl _) (.cells #[.int .i64 ((ln : Int) - 1), .int .i64 ((ln : Int) + 1)] 3)
  have HV11 := Lib.hid (VecB.below HV10.out bb)
  have B11 := Lib.hid (B10.out.trans (bb.mono B10.out.size))
  clear HV10 B10 bb
  go_wp2_with fail
  generalize (wb.alloc (.cells #[.int .i64 ((ln : Int) - 1), .int .i64 ((ln : Int) + 1)] 3)) = wc at *
  generalize wb.heap.size = sb at *
  go_loopw [73] (fun i wr => ∃ q : Nat, q ≤ 2 ∧ i = .int .i64 (q : Int) ∧ Hid (Blk wr sb 3 #[.int .i64 ((ln : Int) - 1), .int .i64 ((ln : Int) + 1)]) ∧ Hid (VecAt wr g (val C) C.length A4) ∧ Hid (Below w.heap.size w wr)) (fun i _ => 2 - (intOf i).toNat)
  case atStart => exact ⟨0, by omega, rfl, BS, HV11, B11⟩
  case round =>
    clear BS HV11 B11
    obtain ⟨q, hq, rfl, BS, HV, HBw⟩ := hrel
    by_cases hq2 : q = 2
    · subst hq2
      go_wp2_with fail
      go_ret
      exact ⟨rfl, HBw.out⟩
    · obtain ⟨x, hx, hxr⟩ : ∃ x : Int, wr.cell? ⟨sb, q, none⟩ = some (.int .i64 x) ∧ -1 ≤ x ∧ x ≤ 1201 := by
        rw [BS.out.cell]
        rcases (by omega : q = 0 ∨ q = 1) with rfl | rfl
        · exact ⟨_, rfl, by omega, by omega⟩
        · exact ⟨_, rfl, by omega, by omega⟩
      have hq3 : (q : Int) < 2 := by omega
      have hq4 : q < 2 := by omega
      clear hq2
      by_cases hx0 : x < 0
      · have DR := Lib.hid (fun W => Decode_range kk x (some ⟨g, 0, none⟩) W hk8 (.inl hx0))
        have hx1 : ¬ 0 ≤ x := by omega
        clear hxr
        go_wp2_with fail
        refine (DR.out _).mono ?_
        rintro e w5 ⟨rfl, rfl⟩
        go_wp2_with fail
        go_roundw
        case rel => exact ⟨q + 1, by omega, by go_num, BS, HV, HBw⟩
        case measure => simp [intOf]; omega
      · obtain ⟨xn, rfl⟩ : ∃ xn : Nat, x = (xn : Int) := ⟨x.toNat, by omega⟩
        have hxn : xn ≤ 1201 := by omega
        have DP := Lib.hid (Decode_p kk g xn C _ A4 wr HV.out HCB.out hk8 (by omega))
        clear hx0 hxr
        go_wp2_with fail
        refine DP.out.mono ?_
        rintro e w5 ⟨hor, b5⟩
        have BS5 := Lib.hid (BS.out.below b5)
        have HV5 := Lib.hid (VecB.below HV.out b5)
        have HB5 := Lib.hid (HBw.out.trans (b5.mono HBw.out.size))
        clear b5 DP BS HV HBw hx
        rcases hor with ⟨v, gv, Av, hv, hcv, hbv, rfl, hvv, _⟩ | ⟨_, rfl⟩
        · have EV := Lib.hid (Encode_p kk gv v _ Av w5 hvv hbv hk8 (by omega))
          rw [hcv] at EV
          have HVV := Lib.hid hvv
          have HXL := Lib.hid hv
          clear hv hcv hbv hvv
          go_wp2_with fail
          refine EV.out.mono ?_
          rintro e w6 ⟨g6, A6, rfl, hv6, b6, _⟩
          have BS6 := Lib.hid (BS5.out.below b6)
          have HV6 := Lib.hid (VecB.below HV5.out b6)
          have HB6 := Lib.hid (HB5.out.trans (b6.mono HB5.out.size))
          have LN := Lib.hid (blen_p gv _ _ Av w6 (VecB.below HVV.out b6))
          rw [HXL.out] at LN
          have SM := Lib.hid (same_vv g6 g _ _ _ _ _ _ _ _ w6 hv6 HV6.out)
          have hd1 : decide (C.length = C.length ∧ val C = val C) = true := by simp
          rw [hd1] at SM
          clear hd1 hv6 b6 EV BS5 HV5 HB5 HVV
          go_wp2_with fail
          refine LN.out.mono ?_
          rintro e w7 ⟨rfl, rfl⟩
          go_wp2_with fail
          refine SM.out.mono ?_
          rintro e w7 ⟨rfl, j7, rfl⟩
          have BS7 := Lib.hid (BS6.out.below (below_draws (Below.refl _ _) j7))
          have HV7 := Lib.hid (VecB.below HV6.out (below_draws (Below.refl _ _) j7))
          have HB7 := Lib.hid (below_draws HB6.out j7)
          clear BS6 HV6 HB6
          generalize w6.drewN j7 = w7 at *
          go_wp2_with fail
          go_roundw
          case rel => exact ⟨q + 1, by omega, by go_num, BS7, HV7, HB7⟩
          case measure => simp [intOf]; omega
        · go_wp2_with fail
          go_roundw
          case rel => exact ⟨q + 1, by omega, by go_num, BS5, HV5, HB5⟩
          case measure => simp [intOf]; omega
end Go.Proofs.Ytkahnaenbgbooaa
