/- LabelMaps: a map by names and by those of the way back is itself. -/
import Derived.Test.YtfolefadjdcehaaZLLaw
import Derived.Test.YtfolefadjdcehaaZPInv
import Derived.Test.YtfolefadjdcehaaZDSame
import Derived.Deep.RegionHeld3
namespace Go.Proofs.Ytfolefadjdcehaa
set_option maxRecDepth 100000
open Go.RowKit
set_option linter.unusedVariables false
theorem cjL_inv_back {n : Nat} {l b p q : List Nat} (h : Nam l.length p q) (hl : Inv l b) : cjL q p (cjL p q l) = l := cj_back h hl
set_option maxHeartbeats 16000000 in
theorem labelMaps_walk (A0 A3 A4 : Option Addr) (n m0 c0 rr m3 c3 m4 c4 : Nat) (by_ nm : List Int) (w : World) (hn : n < 256) (hrr : rr < 256)
    (h0 : Rd w w.heap.size A0 m0 (Z8 by_)) (hb0 : ∀ x ∈ by_, 0 ≤ x ∧ x < 256) (hmc0 : m0 ≤ c0) (hcm0 : c0 ≤ maxLen)
    (h3 : Rd w w.heap.size A3 m3 (Z8 nm)) (hb3 : ∀ x ∈ nm, 0 ≤ x ∧ x < 256) (hmc3 : m3 ≤ c3) (hcm3 : c3 ≤ maxLen) (h4 : Flags w A4 m4) (hmc4 : m4 ≤ c4) (hcm4 : c4 ≤ maxLen) :
    Calls Try.prog 7 #[.int .u8 (n : Int), .slice A0 m0 c0, .int .u8 (rr : Int), .slice A3 m3 c3, .slice A4 m4 c4] w fun e w' => e = .returned (.bool true) ∧ Below w.heap.size w w' := by
  have hcm3' : c3 ≤ 9223372036854775807 := by unfold maxLen at hcm3; omega
  have hcm0' : c0 ≤ 9223372036854775807 := by unfold maxLen at hcm0; omega
  have AW := Lib.hid (awake20_p w)
  have H0 := Lib.hid h0
  have HB0 := Lib.hid hb0
  have H3 := Lib.hid h3
  have HB3 := Lib.hid hb3
  have H4 := Lib.hid h4
  have HC4 := Lib.hid (And.intro hmc4 hcm4)
  obtain ⟨kk, hkk⟩ : ∃ kk, kk = n % 12 := ⟨_, rfl⟩
  have hkb : kk < 12 := by omega
  have y1 : (n : Int) % 12 = (kk : Int) := by omega
  have y2 : (n : Int).tmod 12 = (kk : Int) := by rw [Int.tmod_eq_emod_of_nonneg (by omega)]; omega
  clear h0 hb0 h3 hb3 h4 hkk hcm3 hcm0 hmc4 hcm4
  go_enter Try.func7, Try.ntmps7
  go_wp2_with fail
  refine AW.out.mono ?_
  rintro e w1 ⟨rfl, b1⟩
  have B1 := Lib.hid b1
  have AN := Lib.hid (any_p kk rr m0 c0 w.heap.size A0 by_ w1 (H0.out.below b1) HB0.out b1.size (by omega) hrr (by omega))
  clear b1 AW H0 HB0
  go_wp2_with fail
  refine AN.out.mono ?_
  rintro e w2 ⟨v, l, b, root, rfl, hrm, hl, hroot, b2⟩
  obtain ⟨hinv, A, cA, hla, rfl, hlc, hcA, hrA⟩ := hrm
  obtain ⟨N, hN⟩ : ∃ N, N = l.length := ⟨_, rfl⟩
  have HNN := Lib.hid hN
  have hN2 : N = 2 * kk := by omega
  have HN2 := Lib.hid hN2
  rw [← hN] at hrA ⊢
  rw [← hN2] at hroot
  have bx := (Below.refl w2.heap.size w2).alloc (Nat.le_refl _) (.cells #[.slice A N cA, .int .i64 root, .int .i64 0] 27)
  have XB := Lib.hid (Blk.new w2 27 #[.slice A N cA, .int .i64 root, .int .i64 0])
  have B2a := B1.out.trans (b2.mono B1.out.size)
  have B3 : Hid (Below w.heap.size w (w2.alloc (.cells #[.slice A N cA, .int .i64 root, .int .i64 0] 27))) := B2a.trans (bx.mono B2a.size)
  have RA := Lib.hid (hrA.more bx)
  have HI := Lib.hid hinv
  have HRT := Lib.hid hroot
  have MX := Lib.hid (mixed_p A A3 A4 cA m3 c3 m4 c4 l b root 0 nm _ (by rw [← hN]; exact RA.out) hinv (by omega) (by omega) (by rw [← hN]; exact hroot) ((H3.out.below B3.out).up B3.out.size) HB3.out (by omega) (fun i hi => by
    obtain ⟨b4, o4, e4, hb4, v4, hv4⟩ := H4.out i hi
    exact ⟨b4, o4, e4, Nat.lt_of_lt_of_le hb4 B3.out.size, v4, (B3.out.cell (p := ⟨b4, o4 + i, none⟩) hb4).trans hv4⟩) HC4.out.1 HC4.out.2)
  unfold MixPost at MX
  rw [← hN] at MX
  have hNd : (N : Int) / 2 = (kk : Int) := by omega
  have hNd2 : (N : Int).tdiv 2 = (kk : Int) := by rw [Int.tdiv_eq_ediv_of_nonneg (by omega)]; omega
  have HEV : Hid (N % 2 = 0) := by show _ = _; omega
  have INF := Lib.hid info_rmap
  have XH := XB.out
  clear hN hinv hla hlc hcA hrA b2 bx B2a B1 AN hl hroot hN2 H3 HB3 H4 XH
  go_wp2_with fail
  generalize hw3 : w2.alloc (.cells #[.slice A N cA, .int .i64 root, .int .i64 0] 27) = w3 at *
  generalize w2.heap.size = gx at *
  clear hw3
  refine MX.out.mono ?_
  rintro e w4 ⟨L, Q, AT, cT, AL, cL, rfl, hnam, _, _, hcL, hcL2, _, hoL, b4⟩
  have bx := (Below.refl w4.heap.size w4).alloc (Nat.le_refl _) (.cells #[.slice AT N cT, .int .i64 (reRoot L root), .int .i64 0] 27)
  have HNAM := Lib.hid hnam
  have hb := b4.trans (bx.mono b4.size)
  have XB5 := Lib.hid (XB.out.below hb)
  have RL5 := Lib.hid ((Rd.ofOwn hoL).more bx)
  have B5 := Lib.hid (B3.out.trans (hb.mono B3.out.size))
  have RA5 := Lib.hid (RA.out.more hb)
  have NO := Lib.hid (new_ok A N cA l b root 0 _ RA5.out HI.out HEV.out (by omega) HRT.out (by omega) (by omega))
  have xx0 := XB5.out.cell 0
  have xx1 := XB5.out.cell 1
  have xx2 := XB5.out.cell 2
  simp at xx0 xx1 xx2
  clear hnam hoL b4 bx hb MX XB B3 RA
  go_wp2_with fail
  refine NO.out.mono ?_
  rintro e w6 ⟨g, rfl, hmap, b6, _⟩
  have HM6 := Lib.hid hmap
  have XB6 := Lib.hid (XB5.out.below b6)
  have RL6 := Lib.hid (RL5.out.more b6)
  have B6 := Lib.hid (B5.out.trans (b6.mono B5.out.size))
  have hgood : Hid (Good (ofN L)) := HNAM.out.inv.good
  have OF := Lib.hid (of_p AL N cL _ (ofN L) _ RL6.out (by omega))
  have hL2 : L.length / 2 = kk := by have := HNAM.out.len; have := HN2.out; omega
  have HL2 := Lib.hid hL2
  clear hmap b6 NO xx0 xx1 xx2 XB5 RL5 B5 RA5 hL2
  go_wp2_with fail
  refine OF.out.mono ?_
  rintro e w7 ⟨hor, b7⟩
  rcases hor with ⟨gp, l4, b44, hz4, rfl, hp4, _⟩ | ⟨hno, _⟩
  rotate_left
  · exact absurd hgood.out hno
  obtain rfl : l4 = L := (ofN_inj hz4).symm
  have hlen : l4.length = N := HNAM.out.len
  obtain rfl : b44 = Q := by
    have h1 := hp4.1
    have h2 := HNAM.out.inv
    refine getDN_ext' (by rw [h1.len, h2.len]) fun i hi => ?_
    rw [h1.len] at hi
    have e1 := h1.bl i hi
    have hq : Q.getD i 0 < l4.length := h2.lt' i hi
    have e2 := h1.lb (Q.getD i 0) hq
    rw [h2.bl i hi] at e2
    exact e2
  have HP7 := Lib.hid hp4
  have HM7 := Lib.hid (HM6.out.below b7)
  have XB7 := Lib.hid (XB6.out.below b7)
  have RL7 := Lib.hid (RL6.out.more b7)
  have B7 := Lib.hid (B6.out.trans (b7.mono B6.out.size))
  have EN := Lib.hid (lencode_p gp l4 b44 w7 hp4 (by rw [hlen]; omega) HNAM.out.kp)
  unfold LEncPost at EN
  rw [HL2.out] at EN
  have hszb : lsz kk ≤ 40 * 17 := by
    show kk * (lw kk + 1) ≤ _
    exact Nat.mul_le_mul (by omega) (by have := lw_16 (m := kk) (by omega); omega)
  have HDD : Hid (decL (lw kk) (val (lbl (lw kk) l4 kk)) kk = l4) := by
    show _ = _
    have := HNAM.out.dec (by omega)
    rwa [show N / 2 = kk by have := HN2.out; omega] at this
  have LDP : Hid (∀ g B A W, VecB W B g (val (lbl (lw kk) l4 kk)) (lsz kk) A → Calls Try.prog 18 #[.pointer (some ⟨g, 0, none⟩), .int .i64 (kk : Int)] W (OfPost W (ofN l4))) := fun g B A W hV => by
    have h1 := ldec_p g _ B kk A W hV (by omega)
    rwa [HDD.out] at h1
  generalize lsz kk = sz at *
  have HLEN := Lib.hid hlen
  clear hz4 hp4 b7 OF hlen HM6 XB6 RL6 B6 HDD
  go_wp2_with fail
  refine EN.out.mono ?_
  rintro e w8 ⟨g8, A8, rfl, hv8, _, b8⟩
  have HV8 := Lib.hid hv8
  have HP8 := Lib.hid (HP7.out.below b8)
  have HM8 := Lib.hid (HM7.out.below b8)
  have XB8 := Lib.hid (XB7.out.below b8)
  have RL8 := Lib.hid (RL7.out.more b8)
  have B8 := Lib.hid (B7.out.trans (b8.mono B7.out.size))
  have ED := Lib.hid (edges_p g l b root 0 w8 HM8.out)
  rw [show l.length / 2 = kk by have := HNN.out; have := HN2.out; omega] at ED
  clear hv8 b8 EN HP7 HM7 XB7 RL7 B7
  go_wp2_with fail
  refine ED.out.mono ?_
  rintro e w9 ⟨rfl, b9⟩
  have HP9 := Lib.hid (HP8.out.below b9)
  have HM9 := Lib.hid (HM8.out.below b9)
  have XB9 := Lib.hid (XB8.out.below b9)
  have RL9 := Lib.hid (RL8.out.more b9)
  have B9 := Lib.hid (B8.out.trans (b9.mono B8.out.size))
  have DP := Lib.hid (LDP.out g8 _ A8 w9 (VecB.below HV8.out b9))
  clear b9 ED HP8 HM8 XB8 RL8 B8 HV8 LDP
  go_wp2_with fail
  refine DP.out.mono ?_
  rintro e wa ⟨hor, ba⟩
  rcases hor with ⟨gq, l9, b99, hz9, rfl, hpa, _⟩ | ⟨hno, _⟩
  rotate_left
  · exact absurd hgood.out hno
  obtain rfl : l9 = l4 := (ofN_inj hz9).symm
  obtain rfl : b99 = b44 := by
    have h1 := hpa.1
    have h2 := HNAM.out.inv
    refine getDN_ext' (by rw [h1.len, h2.len]) fun i hi => ?_
    rw [h1.len] at hi
    have e1 := h1.bl i hi
    have hq : b44.getD i 0 < l9.length := h2.lt' i hi
    have e2 := h1.lb (b44.getD i 0) hq
    rw [h2.bl i hi] at e2
    exact e2
  have HQA := Lib.hid hpa
  have HPA := Lib.hid (HP9.out.below ba)
  have HMA := Lib.hid (HM9.out.below ba)
  have XBA := Lib.hid (XB9.out.below ba)
  have RLA := Lib.hid (RL9.out.more ba)
  have BA := Lib.hid (B9.out.trans (ba.mono B9.out.size))
  have DD := Lib.hid (darts_p g l b root 0 wa HMA.out)
  rw [← HNN.out] at DD
  clear hz9 hpa ba DP HP9 HM9 XB9 RL9 B9
  go_wp2_with fail
  refine DD.out.mono ?_
  rintro e wb ⟨rfl, bb⟩
  have HQB := Lib.hid (HQA.out.below bb)
  have HPB := Lib.hid (HPA.out.below bb)
  have HMB := Lib.hid (HMA.out.below bb)
  have XBB := Lib.hid (XBA.out.below bb)
  have RLB := Lib.hid (RLA.out.more bb)
  have BB := Lib.hid (BA.out.trans (bb.mono BA.out.size))
  clear bb DD HQA HPA HMA XBA RLA BA
  by_cases hN0 : N = 0
  · have LQ := Lib.hid (len_p gq _ _ wb HQB.out)
    rw [HLEN.out] at LQ
    subst hN0
    go_wp2_with fail
    refine LQ.out.mono ?_
    rintro e wc ⟨rfl, rfl⟩
    go_wp2_with fail
    go_ret
    exact ⟨rfl, BB.out⟩
  · have hNb : ((N : Int) == 0) = false := by simp [hN0]
    have R1 := Lib.hid (relabel_p g gq l b l9 b99 root 0 wb HMB.out HQB.out (by rw [HLEN.out]; exact HNN.out) HI.out HNAM.out.inv (by rw [← HNN.out]; exact HRT.out))
    go_wp2_with fail
    refine R1.out.mono ?_
    rintro e wc hor
    rcases hor with ⟨_, ⟨go, rfl, hmo⟩, bc⟩ | ⟨hno, _⟩
    rotate_left
    · exact absurd (by rw [← HNN.out]; exact HNAM.out) hno
    have HMO := Lib.hid hmo
    have HPC := Lib.hid (HPB.out.below bc)
    have HMC := Lib.hid (HMB.out.below bc)
    have XBC := Lib.hid (XBB.out.below bc)
    have RLC := Lib.hid (RLB.out.more bc)
    have BC := Lib.hid (BB.out.trans (bc.mono BB.out.size))
    have IV := Lib.hid (inverse_p gp _ _ wc HPC.out)
    have HNL : Hid (Nam l.length l9 b99) := by rw [← HNN.out]; exact HNAM.out
    have hcl : (cjL l9 b99 l).length = N := by rw [cjL_len, HNN.out]
    have HCL := Lib.hid hcl
    clear hmo bc R1 HQB HPB HMB XBB RLB BB hcl
    go_wp2_with fail
    refine IV.out.mono ?_
    rintro e wd ⟨gi, rfl, hpi, bd⟩
    have R2 := Lib.hid (relabel_p go gi (cjL l9 b99 l) (cjL l9 b99 b) b99 l9 (reRoot l9 root) 0 wd (HMO.out.below bd) hpi (by rw [HCL.out]; exact HNAM.out.symm.len) (cj_inv HNL.out HI.out) HNAM.out.inv.symm (by rw [HCL.out]; exact reRoot_ok HNAM.out HRT.out))
    have HMOD := Lib.hid (HMO.out.below bd)
    have HMD := Lib.hid (HMC.out.below bd)
    have XBD := Lib.hid (XBC.out.below bd)
    have RLD := Lib.hid (RLC.out.more bd)
    have BD := Lib.hid (BC.out.trans (bd.mono BC.out.size))
    clear hpi bd IV HPC HMC XBC RLC BC HMO
    go_wp2_with fail
    refine R2.out.mono ?_
    rintro e we hor
    rcases hor with ⟨_, ⟨gb, rfl, hmb⟩, be⟩ | ⟨hno, _⟩
    rotate_left
    · exact absurd (by rw [HCL.out]; exact HNAM.out.symm) hno
    rw [cj_back HNL.out HI.out, reRoot_back HNAM.out HRT.out] at hmb
    obtain ⟨r, hr, hrd⟩ : ∃ r : Nat, root = (r : Int) ∧ r < N := by
      rcases HRT.out with ⟨e, _⟩ | ⟨_, e1, e2⟩
      · omega
      · exact ⟨root.toNat, by omega, by omega⟩
    subst hr
    have HRR : Hid (reRoot l9 (r : Int) = ((l9.getD r 0 : Nat) : Int)) := by
      show _ = _
      unfold reRoot
      rw [if_neg (by omega), Int.toNat_natCast]
    rw [HRR.out] at HMOD
    have HMBE := Lib.hid hmb
    have HMOE := Lib.hid (HMOD.out.below be)
    have HME := Lib.hid (HMD.out.below be)
    have XBE := Lib.hid (XBD.out.below be)
    have RLE := Lib.hid (RLD.out.more be)
    have BE := Lib.hid (BD.out.trans (be.mono BD.out.size))
    obtain ⟨gL, oL, rfl, hbL, hcL'⟩ := RLE.out.i64 (by omega)
    have cr := hcL' r hrd
    rw [ofN_get] at cr
    have xx1 := XBE.out.cell 1
    simp at xx1
    have hgx := XBE.out.lt
    have SK : Hid (∀ W, Below we.heap.size we W → Below we.heap.size we W ∧ W.cell? ⟨gx, 1, none⟩ = some (.int .i64 (r : Int)) ∧ W.cell? ⟨gL, oL + r, none⟩ = some (.int .i64 ((l9.getD r 0 : Nat) : Int))) := fun W m => ⟨m, (m.cell (p := ⟨gx, 1, none⟩) hgx).trans xx1, (m.cell (p := ⟨gL, oL + r, none⟩) hbL).trans cr⟩
    have SMP : Hid (∀ W, Below we.heap.size we W → Calls Try.prog 39 #[.pointer (some ⟨gb, 0, none⟩), .pointer (some ⟨g, 0, none⟩)] W fun e w' => e = .returned (.bool true) ∧ Below W.heap.size W w') := fun W m => by
      have h1 := dsame_p gb g l _ l b (r : Int) 0 (r : Int) 0 W (HMBE.out.below m) (HME.out.below m)
      have hd : decide ((r : Int) = (r : Int) ∧ (0 : Int) = 0 ∧ l = l) = true := by simp
      rwa [hd] at h1
    have RTP : Hid (∀ W, Below we.heap.size we W → Calls Try.prog 40 #[.pointer (some ⟨go, 0, none⟩)] W fun e w' => e = .returned (.int .i64 ((l9.getD r 0 : Nat) : Int)) ∧ W = w') := fun W m => root_p go _ _ _ 0 W (HMOE.out.below m)
    have hri : (r : Int) < (N : Int) := by omega
    have hba0 := Below.refl we.heap.size we
    have hba1 := hba0.drew
    obtain ⟨_, z1, z2⟩ := SK.out _ hba0
    obtain ⟨_, zz1, zz2⟩ := SK.out _ hba1
    clear hmb be R2 HMOD HMD XBD RLD BD hcL' cr xx1 HMBE HME HMOE XBE RLE HRR
    generalize l9.getD r 0 = rv at *
    go_upto_region 15 with fail
    go_region_held3 (fun W => Below we.heap.size we W ∧ W.cell? ⟨gx, 1, none⟩ = some (.int .i64 (r : Int)) ∧ W.cell? ⟨gL, oL + r, none⟩ = some (.int .i64 (rv : Int)))
      (exact SK.out _ (by assumption))
      (first
      | (go_at_call 39; (with_reducible refine (SMP.out _ (by assumption)).mono ?_); rintro e wf ⟨rfl, hbf⟩; have hba := hba1.trans (hbf.mono hba1.size))
      | (go_at_call 40; (with_reducible refine (RTP.out _ (by assumption)).mono ?_); rintro e wg ⟨rfl, rfl⟩))
    all_goals (
      go_wp2_with fail
      go_ret
      exact ⟨rfl, BE.out.trans (hba.mono BE.out.size)⟩)
end Go.Proofs.Ytfolefadjdcehaa
