/- LabelCodes: names have the document's bits, and are read again from them. -/
import Derived.Test.YtfolefadjdcehaaZLLaw
namespace Go.Proofs.Ytfolefadjdcehaa
set_option maxRecDepth 100000
open Go.RowKit
set_option linter.unusedVariables false
set_option maxHeartbeats 8000000 in
theorem labelCodes_walk (A3 A4 : Option Addr) (n m3 c3 m4 c4 : Nat) (nm : List Int) (w : World) (hn : n < 256)
    (h3 : Rd w w.heap.size A3 m3 (Z8 nm)) (hb3 : ∀ x ∈ nm, 0 ≤ x ∧ x < 256) (hmc3 : m3 ≤ c3) (hcm3 : c3 ≤ maxLen) (h4 : Flags w A4 m4) (hmc4 : m4 ≤ c4) (hcm4 : c4 ≤ maxLen) :
    Calls Try.prog 3 #[.int .u8 (n : Int), .slice A3 m3 c3, .slice A4 m4 c4] w fun e w' => e = .returned (.bool true) ∧ Below w.heap.size w w' := by
  have hcm3' : c3 ≤ 9223372036854775807 := by unfold maxLen at hcm3; omega
  have AW := Lib.hid (awake20_p w)
  have H3 := Lib.hid h3
  have HB3 := Lib.hid hb3
  have H4 := Lib.hid h4
  obtain ⟨kk, hkk⟩ : ∃ kk, kk = n % 40 := ⟨_, rfl⟩
  have hkb : kk < 40 := by omega
  have y1 : (n : Int) % 40 = (kk : Int) := by omega
  have y2 : (n : Int).tmod 40 = (kk : Int) := by rw [Int.tmod_eq_emod_of_nonneg (by omega)]; omega
  have AN := Lib.hid (fun W => any_p kk 0 0 0 W.heap.size none [] W (Rd.nil _ _ _) (fun x hx => by cases hx) (Nat.le_refl _) (by omega) (by omega) (by omega))
  clear h3 hb3 h4 hkk hcm3
  go_enter Try.func3, Try.ntmps3
  go_wp2_with fail
  refine AW.out.mono ?_
  rintro e w1 ⟨rfl, b1⟩
  have B1 := Lib.hid b1
  clear b1 AW
  go_wp2_with fail
  refine (AN.out _).mono ?_
  rintro e w2 ⟨v, l, b, root, rfl, hrm, hl, hroot, b2⟩
  obtain ⟨hinv, A, cA, hla, rfl, hlc, hcA, hrA⟩ := hrm
  have B2 : Hid (Below w.heap.size w w2) := B1.out.trans (b2.mono B1.out.size)
  have MX := Lib.hid (mixed_p A A3 A4 cA m3 c3 m4 c4 l b root 0 nm w2 hrA hinv (by omega) (by omega) (by rw [hl]; exact hroot) ((H3.out.below B2.out).up B2.out.size) HB3.out (by omega) (fun i hi => by
    obtain ⟨b4, o4, e4, hb4, v4, hv4⟩ := H4.out i hi
    exact ⟨b4, o4, e4, Nat.lt_of_lt_of_le hb4 B2.out.size, v4, (B2.out.cell (p := ⟨b4, o4 + i, none⟩) hb4).trans hv4⟩) hmc4 hcm4)
  obtain ⟨N, hN⟩ : ∃ N, N = l.length := ⟨_, rfl⟩
  have HNN := Lib.hid hN
  have hN2 : N = 2 * kk := by omega
  unfold MixPost at MX
  rw [← hN] at MX ⊢
  have hNd : (N : Int) / 2 = (kk : Int) := by omega
  have hNd2 : (N : Int).tdiv 2 = (kk : Int) := by rw [Int.tdiv_eq_ediv_of_nonneg (by omega)]; omega
  have HN2 := Lib.hid hN2
  clear hN hinv hla hlc hcA hrA b2 B1 AN hl hroot hN2 H3 HB3 H4
  go_wp2_with fail
  refine MX.out.mono ?_
  rintro e w3 ⟨L, Q, AT, cT, AL, cL, rfl, hnam, _, _, hcL, hcL2, _, hoL, b3⟩
  have HNAM := Lib.hid hnam
  have bx := (Below.refl w3.heap.size w3).alloc (Nat.le_refl _) (.cells #[.slice AT N cT, .int .i64 (reRoot L root), .int .i64 0] 27)
  have RL := Lib.hid ((Rd.ofOwn hoL).more bx)
  have B3a := B2.out.trans (b3.mono B2.out.size)
  have B3 := Lib.hid (B3a.trans (bx.mono B3a.size))
  have hgood : Hid (Good (ofN L)) := by
    have := (HNAM.out.inv).good; exact this
  have OF := Lib.hid (of_p AL N cL _ (ofN L) _ RL.out (by omega))
  have hL2 : L.length / 2 = kk := by have := HNAM.out.len; have := HN2.out; omega
  have HL2 := Lib.hid hL2
  clear hnam hcL hcL2 hoL b3 bx B3a MX hL2
  go_wp2_with fail
  refine OF.out.mono ?_
  rintro e w4 ⟨hor, b4⟩
  rcases hor with ⟨g4, l4, b44, hz4, rfl, hp4, _⟩ | ⟨hno, _⟩
  rotate_left
  · exact absurd hgood.out hno
  obtain rfl : l4 = L := (ofN_inj hz4).symm
  have HP4 := Lib.hid hp4
  have RL4 := Lib.hid (RL.out.more b4)
  have B4 := Lib.hid (B3.out.trans (b4.mono B3.out.size))
  have hlen : l4.length = N := HNAM.out.len
  have EN := Lib.hid (lencode_p g4 l4 b44 w4 hp4 (by rw [hlen]; omega) HNAM.out.kp)
  unfold LEncPost at EN
  rw [HL2.out] at EN
  have HLEN := Lib.hid hlen
  clear hz4 hp4 b4 OF hlen RL B3
  go_wp2_with fail
  refine EN.out.mono ?_
  rintro e w5 ⟨g5, A5, rfl, hv5, hg5, b5⟩
  obtain ⟨V, hV⟩ : ∃ V, V = lbl (lw kk) l4 kk := ⟨_, rfl⟩
  have hVl : V.length = lsz kk := by rw [hV, lbl_len]; rfl
  have HVB : Hid (Bin V) := by show Bin V; rw [hV]; exact lbl_bin _ _ _
  rw [← hV, ← hVl] at hv5
  have HV5 := Lib.hid hv5
  have HVE := Lib.hid hV
  have HVL := Lib.hid hVl
  have hvs : V.length ≤ 40 * 17 := by
    rw [hVl]; show kk * (lw kk + 1) ≤ _
    exact Nat.mul_le_mul (by omega) (by have := lw_16 (m := kk) (by omega); omega)
  have TX := Lib.hid (ltext_p g5 V _ A5 w5 hv5 HVB.out)
  have RL5 := Lib.hid (RL4.out.more b5)
  have HP5 := Lib.hid (HP4.out.below b5)
  have B5 := Lib.hid (B4.out.trans (b5.mono B4.out.size))
  clear hv5 hg5 b5 EN hV hVl RL4 HP4 B4
  go_wp2_with fail
  refine TX.out.mono ?_
  rintro e w6 ⟨rfl, b6⟩
  have RL6 := Lib.hid (RL5.out.more b6)
  have HP6 := Lib.hid (HP5.out.below b6)
  have B6 := Lib.hid (B5.out.trans (b6.mono B5.out.size))
  have HV6 := Lib.hid (VecB.below HV5.out b6)
  have RE := Lib.hid (lrefEnc_p AL N cL l4 w6 RL6.out (by omega) (by have := HN2.out; omega) (fun i hi => HNAM.out.lt hi))
  rw [HL2.out, ← HVE.out] at RE
  clear b6 TX RL5 HP5 B5 HV5
  go_wp2_with fail
  refine RE.out.mono ?_
  rintro e w7 ⟨A7, c7, rfl, hc7, hm7, ho7, b7⟩
  have hl7 : (ofN V).length = V.length := ofN_len V
  have RT := Lib.hid (refText_p A7 (ofN V).length c7 _ V w7 (Rd.ofOwn ho7) HVB.out (by rw [hl7]; omega))
  have RL7 := Lib.hid (RL6.out.more b7)
  have HP7 := Lib.hid (HP6.out.below b7)
  have B7 := Lib.hid (B6.out.trans (b7.mono B6.out.size))
  have HV7 := Lib.hid (VecB.below HV6.out b7)
  clear b7 ho7 hc7 hm7 RE RL6 HP6 B6 HV6 hl7
  go_wp2_with fail
  refine RT.out.mono ?_
  rintro e w8 ⟨rfl, rfl⟩
  have LN := Lib.hid (blen_p g5 _ _ A5 w7 HV7.out)
  have SZ := Lib.hid (size_in kk w7 (by omega))
  rw [← HVL.out] at SZ
  clear RT
  go_wp2_with fail
  refine LN.out.mono ?_
  rintro e w8 ⟨rfl, rfl⟩
  go_wp2_with fail
  refine SZ.out.mono ?_
  rintro e w8 ⟨rfl, rfl⟩
  have DP := Lib.hid (ldec_p g5 (val V) _ kk A5 w7 (by rw [← HVL.out]; exact HV7.out) (by omega))
  have hdd : decL (lw kk) (val V) kk = l4 := by
    have := HNAM.out.dec (by omega)
    rw [show N / 2 = kk by have := HN2.out; omega, ← HVE.out] at this
    exact this
  rw [hdd] at DP
  clear hdd LN SZ
  go_wp2_with fail
  refine DP.out.mono ?_
  rintro e w9 ⟨hor, b9⟩
  rcases hor with ⟨g9, l9, b99, hz9, rfl, hp9, _⟩ | ⟨hno, _⟩
  rotate_left
  · exact absurd hgood.out hno
  obtain rfl : l9 = l4 := (ofN_inj hz9).symm
  have B9 := Lib.hid (B7.out.trans (b9.mono B7.out.size))
  have SM := Lib.hid (same_pp g4 g9 l9 b44 l9 b99 w9 (HP7.out.below b9) hp9)
  have hd1 : decide (l9 = l9) = true := by simp
  rw [hd1] at SM
  clear hd1 hz9 hp9 b9 DP
  go_wp2_with fail
  refine SM.out.mono ?_
  rintro e w10 ⟨rfl, j, rfl⟩
  go_wp2_with fail
  go_ret
  exact ⟨rfl, below_draws B9.out j⟩
end Go.Proofs.Ytfolefadjdcehaa
