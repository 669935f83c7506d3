/- LabelTurns: names and those of the way back. -/
import Derived.Test.YtfolefadjdcehaaZLLaw
import Derived.Test.YtfolefadjdcehaaZPInv
import Derived.Test.YtfolefadjdcehaaZPOne
namespace Go.Proofs.Ytfolefadjdcehaa
set_option maxRecDepth 100000
open Go.RowKit
set_option linter.unusedVariables false
set_option maxHeartbeats 8000000 in
theorem labelTurns_walk (A3 A4 : Option Addr) (n m3 c3 m4 c4 : Nat) (nm : List Int) (w : World) (hn : n < 256)
    (h3 : Rd w w.heap.size A3 m3 (Z8 nm)) (hb3 : ∀ x ∈ nm, 0 ≤ x ∧ x < 256) (hmc3 : m3 ≤ c3) (hcm3 : c3 ≤ maxLen) (h4 : Flags w A4 m4) (hmc4 : m4 ≤ c4) (hcm4 : c4 ≤ maxLen) :
    Calls Try.prog 6 #[.int .u8 (n : Int), .slice A3 m3 c3, .slice A4 m4 c4] w fun e w' => e = .returned (.bool true) ∧ Below w.heap.size w w' := by
  have hcm3' : c3 ≤ 9223372036854775807 := by unfold maxLen at hcm3; omega
  have AW := Lib.hid (awake20_p w)
  have H3 := Lib.hid h3
  have HB3 := Lib.hid hb3
  have H4 := Lib.hid h4
  obtain ⟨kk, hkk⟩ : ∃ kk, kk = n % 30 := ⟨_, rfl⟩
  have hkb : kk < 30 := by omega
  have y1 : (n : Int) % 30 = (kk : Int) := by omega
  have y2 : (n : Int).tmod 30 = (kk : Int) := by rw [Int.tmod_eq_emod_of_nonneg (by omega)]; omega
  have AN := Lib.hid (fun W => any_p kk 0 0 0 W.heap.size none [] W (Rd.nil _ _ _) (fun x hx => by cases hx) (Nat.le_refl _) (by omega) (by omega) (by omega))
  clear h3 hb3 h4 hkk hcm3
  go_enter Try.func6, Try.ntmps6
  go_wp2_with fail
  refine AW.out.mono ?_
  rintro e w1 ⟨rfl, b1⟩
  have B1 := Lib.hid b1
  clear b1 AW
  go_wp2_with fail
  refine (AN.out _).mono ?_
  rintro e w2 ⟨v, l, b, root, rfl, hrm, hl, hroot, b2⟩
  obtain ⟨hinv, A, cA, hla, rfl, hlc, hcA, hrA⟩ := hrm
  have B2 : Hid (Below w.heap.size w w2) := B1.out.trans (b2.mono B1.out.size)
  have MX := Lib.hid (mixed_p A A3 A4 cA m3 c3 m4 c4 l b root 0 nm w2 hrA hinv (by omega) (by omega) (by rw [hl]; exact hroot) ((H3.out.below B2.out).up B2.out.size) HB3.out (by omega) (fun i hi => by
    obtain ⟨b4, o4, e4, hb4, v4, hv4⟩ := H4.out i hi
    exact ⟨b4, o4, e4, Nat.lt_of_lt_of_le hb4 B2.out.size, v4, (B2.out.cell (p := ⟨b4, o4 + i, none⟩) hb4).trans hv4⟩) hmc4 hcm4)
  obtain ⟨N, hN⟩ : ∃ N, N = l.length := ⟨_, rfl⟩
  have HNN := Lib.hid hN
  have hN2 : N = 2 * kk := by omega
  unfold MixPost at MX
  rw [← hN] at MX ⊢
  have hNd : (N : Int) / 2 = (kk : Int) := by omega
  have hNd2 : (N : Int).tdiv 2 = (kk : Int) := by rw [Int.tdiv_eq_ediv_of_nonneg (by omega)]; omega
  have HN2 := Lib.hid hN2
  clear hN hinv hla hlc hcA hrA b2 B1 AN hl hroot hN2 H3 HB3 H4
  go_wp2_with fail
  refine MX.out.mono ?_
  rintro e w3 ⟨L, Q, AT, cT, AL, cL, rfl, hnam, _, _, hcL, hcL2, _, hoL, b3⟩
  have HNAM := Lib.hid hnam
  have bx := (Below.refl w3.heap.size w3).alloc (Nat.le_refl _) (.cells #[.slice AT N cT, .int .i64 (reRoot L root), .int .i64 0] 27)
  have RL := Lib.hid ((Rd.ofOwn hoL).more bx)
  have B3a := B2.out.trans (b3.mono B2.out.size)
  have B3 := Lib.hid (B3a.trans (bx.mono B3a.size))
  have hgood : Hid (Good (ofN L)) := by
    have := (HNAM.out.inv).good; exact this
  have OF := Lib.hid (of_p AL N cL _ (ofN L) _ RL.out (by omega))
  have hL2 : L.length / 2 = kk := by have := HNAM.out.len; have := HN2.out; omega
  have HL2 := Lib.hid hL2
  clear hnam hcL hcL2 hoL b3 bx B3a MX hL2
  go_wp2_with fail
  refine OF.out.mono ?_
  rintro e w4 ⟨hor, b4⟩
  rcases hor with ⟨g4, l4, b44, hz4, rfl, hp4, _⟩ | ⟨hno, _⟩
  rotate_left
  · exact absurd hgood.out hno
  obtain rfl : l4 = L := (ofN_inj hz4).symm
  have HP4 := Lib.hid hp4
  have RL4 := Lib.hid (RL.out.more b4)
  have B4 := Lib.hid (B3.out.trans (b4.mono B3.out.size))
  have hlen : l4.length = N := HNAM.out.len
  obtain rfl : b44 = Q := by
    have h1 := hp4.1
    have h2 := HNAM.out.inv
    refine getDN_ext' (by rw [h1.len, h2.len]) fun i hi => ?_
    rw [h1.len] at hi
    have e1 := h1.bl i hi
    have hq : Q.getD i 0 < l4.length := h2.lt' i hi
    have e2 := h1.lb (Q.getD i 0) hq
    rw [h2.bl i hi] at e2
    exact e2
  have HLEN := Lib.hid hlen
  have HSY : Hid (Nam N b44 l4) := HNAM.out.symm
  have hcomp : comp l4 b44 = oneL N := by
    refine getDN_ext' (by rw [comp_len, hlen]; simp [oneL]) fun i hi => ?_
    rw [comp_len] at hi
    rw [comp_get _ _ _ hi, oneL_get _ _ (by rw [← hlen]; exact hi)]
    exact hp4.1.lb i hi
  have HCMP := Lib.hid hcomp
  have ENC : Hid (∀ X q g W, Nam N X q → PermAt W g X q → Calls Try.prog 12 #[.pointer (some ⟨g, 0, none⟩)] W fun e w' => ∃ g' A', e = .returned (.tuple #[.pointer (some ⟨g', 0, none⟩), .int .i64 0]) ∧ VecAt w' g' (val (lbl (lw kk) X kk)) (lsz kk) A' ∧ Below W.heap.size W w') := fun X q g W hX hP => by
    have := lencode_p g X q W hP (by rw [hX.len]; omega) hX.kp
    unfold LEncPost at this
    rw [hX.len, show N / 2 = kk by have := HN2.out; omega] at this
    exact this.mono fun e w' ⟨g', A', h1, h2, _, h3⟩ => ⟨g', A', h1, h2, h3⟩
  have DEC : Hid (∀ X q g B A W, Nam N X q → VecB W B g (val (lbl (lw kk) X kk)) (lsz kk) A → Calls Try.prog 18 #[.pointer (some ⟨g, 0, none⟩), .int .i64 (kk : Int)] W fun e w' => ∃ g' b', e = .returned (.tuple #[.pointer (some ⟨g', 0, none⟩), .int .i64 0]) ∧ PermAt w' g' X b' ∧ Below W.heap.size W w') := fun X q g B A W hX hV => by
    have h1 := ldec_p g _ B kk A W hV (by omega)
    have h2 := hX.dec (by omega)
    rw [show N / 2 = kk by have := HN2.out; omega] at h2
    rw [h2] at h1
    refine h1.mono fun e w' ⟨hor, hb⟩ => ?_
    rcases hor with ⟨g', l', b', hz, he, hp, _⟩ | ⟨hno, _⟩
    · obtain rfl : l' = X := (ofN_inj hz).symm
      exact ⟨g', b', he, hp, hb⟩
    · exact absurd hX.inv.good hno
  have hszb : lsz kk ≤ 40 * 17 := by
    show kk * (lw kk + 1) ≤ _
    exact Nat.mul_le_mul (by omega) (by have := lw_16 (m := kk) (by omega); omega)
  generalize lsz kk = sz at *
  have OP : Hid (∀ W, Calls Try.prog 34 #[.int .i64 (N : Int)] W (NewP W (oneL N) (oneL N))) := fun W => by
    have := one_p (N : Int) W (by omega) (by omega)
    rwa [Int.toNat_natCast] at this
  have E1 := Lib.hid (ENC.out l4 b44 g4 w4 HNAM.out HP4.out)
  clear hz4 hp4 b4 OF hlen RL B3 hcomp RL4
  go_wp2_with fail
  refine E1.out.mono ?_
  rintro e w5 ⟨g5, A5, rfl, hv5, b5⟩
  have IV := Lib.hid (inverse_p g4 l4 b44 w5 (HP4.out.below b5))
  have HV5 := Lib.hid hv5
  have B5 := Lib.hid (B4.out.trans (b5.mono B4.out.size))
  clear hv5 b5 E1 B4
  go_wp2_with fail
  refine IV.out.mono ?_
  rintro e w6 ⟨g6, rfl, hp6, b6⟩
  have E2 := Lib.hid (ENC.out b44 l4 g6 w6 HSY.out hp6)
  have HV6 := Lib.hid (VecB.below HV5.out b6)
  have B6 := Lib.hid (B5.out.trans (b6.mono B5.out.size))
  clear hp6 b6 IV HV5 B5 ENC
  go_wp2_with fail
  refine E2.out.mono ?_
  rintro e w7 ⟨g7, A7, rfl, hv7, b7⟩
  have HV7 := Lib.hid (VecB.below HV6.out b7)
  have HW7 := Lib.hid hv7
  have B7 := Lib.hid (B6.out.trans (b7.mono B6.out.size))
  have D1 := Lib.hid (DEC.out l4 b44 g5 _ A5 w7 HNAM.out HV7.out)
  clear hv7 b7 E2 HV6 B6
  go_wp2_with fail
  refine D1.out.mono ?_
  rintro e w8 ⟨g8, b88, rfl, hp8, b8⟩
  have HP8 := Lib.hid hp8
  have HV8 := Lib.hid (VecB.below HV7.out b8)
  have HW8 := Lib.hid (VecB.below HW7.out b8)
  have B8 := Lib.hid (B7.out.trans (b8.mono B7.out.size))
  have D2 := Lib.hid (DEC.out b44 l4 g7 _ A7 w8 HSY.out HW8.out)
  clear hp8 b8 D1 HV7 HW7 B7 DEC
  go_wp2_with fail
  refine D2.out.mono ?_
  rintro e w9 ⟨g9, b99, rfl, hp9, b9⟩
  have L1 := Lib.hid (blen_p g5 _ _ A5 w9 (VecB.below HV8.out b9))
  have L2 := Lib.hid (blen_p g7 _ _ A7 w9 (VecB.below HW8.out b9))
  have TH := Lib.hid (then_p g8 g9 l4 b88 b44 b99 w9 (HP8.out.below b9) hp9 (by rw [HLEN.out, HSY.out.len]))
  rw [HCMP.out] at TH
  have B9 := Lib.hid (B8.out.trans (b9.mono B8.out.size))
  clear hp9 b9 D2 HV8 HW8 HP8 B8
  go_wp2_with fail
  refine L1.out.mono ?_
  rintro e wa ⟨rfl, rfl⟩
  go_wp2_with fail
  refine L2.out.mono ?_
  rintro e wa ⟨rfl, rfl⟩
  go_wp2_with fail
  refine TH.out.mono ?_
  rintro e wb ⟨gb, rfl, hpb, bb⟩
  have HPB := Lib.hid hpb
  have BB := Lib.hid (B9.out.trans (bb.mono B9.out.size))
  clear hpb bb TH L1 L2 B9
  go_wp2_with fail
  refine (OP.out _).mono ?_
  rintro e wc ⟨gc, rfl, hpc, bc⟩
  have SM := Lib.hid (same_pp gb gc _ _ _ _ wc (HPB.out.below bc) hpc)
  have hd1 : decide (oneL N = oneL N) = true := by simp
  rw [hd1] at SM
  have BC := Lib.hid (BB.out.trans (bc.mono BB.out.size))
  clear hd1 hpc bc OP HPB BB
  go_wp2_with fail
  refine SM.out.mono ?_
  rintro e w10 ⟨rfl, j, rfl⟩
  go_wp2_with fail
  go_ret
  exact ⟨rfl, below_draws BC.out j⟩
end Go.Proofs.Ytfolefadjdcehaa
