/- CoderApart: codes are the same just if the bits are. -/
import Derived.Test.YtkahnaenbgbooaaCLaw
import Derived.BigQuiet
namespace Go.Proofs.Ytkahnaenbgbooaa
set_option maxRecDepth 20000
open Go.RowKit
set_option linter.unusedVariables false

theorem u8_mod {a d : Nat} (ha : a < 256) (hd : 0 < d) : ((a : Int) % (d : Int)) = ((a % d : Nat) : Int) ∧ ((a : Int)).tmod (d : Int) = ((a % d : Nat) : Int) :=
  ⟨by simp, by rw [Int.tmod_eq_emod_of_nonneg (by omega)]; simp⟩
/-- A cut of a list of bits. -/
theorem Rd.cut {w : World} {B n : Nat} {A : Option Addr} {l : List Nat} (h : Rd w B A n (I64 (ofNB l))) (k : Nat) (hk : k ≤ n) : Rd w B A k (I64 (ofNB (l.take k))) := by
  have := h.take k hk
  rwa [show (I64 (ofNB l)).take k = I64 (ofNB (l.take k)) by rw [ofN_takeB]; simp [I64, List.map_take]] at this
set_option maxHeartbeats 8000000 in
theorem coderApart_walk (A1 A2 : Option Addr) (n1 c1 n2 c2 : Nat) (bs1 bs2 : List Nat) (a k j : Nat) (same : Bool) (w : World)
    (h1 : Rd w w.heap.size A1 n1 (U8 bs1)) (hb1 : ∀ b ∈ bs1, b < 256) (hn1 : n1 ≤ c1) (hc1 : c1 ≤ maxLen)
    (h2 : Rd w w.heap.size A2 n2 (U8 bs2)) (hb2 : ∀ b ∈ bs2, b < 256) (hn2 : n2 ≤ c2) (hc2 : c2 ≤ maxLen) (ha : a < 256) (hk : k < 256) (hj : j < 256) :
    Calls Try.prog 7 #[.slice A1 n1 c1, .slice A2 n2 c2, .int .u8 (a : Int), .int .u8 (k : Int), .int .u8 (j : Int), .bool same] w fun e w' => e = .returned (.bool true) ∧ Below w.heap.size w w' := by
  unfold maxLen at hc1 hc2
  have AW := Lib.hid (awake18_p w)
  obtain ⟨x1, x2⟩ := u8_mod (d := 80) ha (by decide)
  obtain ⟨y1, y2⟩ := u8_mod (d := 9) hk (by decide)
  obtain ⟨z1, z2⟩ := u8_mod (d := 9) hj (by decide)
  simp only [show ((80 : Nat) : Int) = 80 from rfl, show ((9 : Nat) : Int) = 9 from rfl] at x1 x2 y1 y2 z1 z2
  have hm : a % 80 < 80 := Nat.mod_lt _ (by decide)
  have hk8 : k % 9 ≤ 8 := by omega
  have hj8 : j % 9 ≤ 8 := by omega
  generalize a % 80 = m at *
  generalize k % 9 = kk at *
  generalize j % 9 = jj at *
  have H1 := Lib.hid h1
  have HB1 := Lib.hid hb1
  obtain ⟨Aq, nq, cq, bq, hsel, hq, hbq, hnq, hcq⟩ : ∃ Aq nq cq bq, ((same = true ∧ Aq = A1 ∧ nq = n1 ∧ cq = c1) ∨ (same = false ∧ Aq = A2 ∧ nq = n2 ∧ cq = c2)) ∧ Rd w w.heap.size Aq nq (U8 bq) ∧ (∀ b ∈ bq, b < 256) ∧ nq ≤ cq ∧ cq ≤ 9223372036854775807 := by
    cases same with
    | true => exact ⟨A1, n1, c1, bs1, .inl ⟨rfl, rfl, rfl, rfl⟩, h1, hb1, hn1, hc1⟩
    | false => exact ⟨A2, n2, c2, bs2, .inr ⟨rfl, rfl, rfl, rfl⟩, h2, hb2, hn2, hc2⟩
  have HQ := Lib.hid hq
  have HBQ := Lib.hid hbq
  have HSEL := Lib.hid hsel
  clear h1 h2 hb1 hb2 hq hbq hsel hn2 hc2
  go_enter Try.func7, Try.ntmps7
  go_wp2_with fail
  refine AW.out.mono ?_
  rintro e w1 ⟨rfl, b1⟩
  have B1 := Lib.hid b1
  clear b1 AW
  go_simp
  iterate 12 go_step
  go_cut [1] from 28 to 29 (fun x wx => x = .slice Aq nq cq ∧ w1 = wx)
  case first =>
    rcases HSEL.out with ⟨rfl, rfl, rfl, rfl⟩ | ⟨rfl, rfl, rfl, rfl⟩
    · go_wp2_with fail
      go_meet
      exact ⟨rfl, rfl⟩
    · go_wp2_with fail
      go_meet
      exact ⟨rfl, rfl⟩
  case rest =>
    obtain ⟨rfl, rfl⟩ := hcut
    have FW := Lib.hid (few_p A1 n1 c1 _ m bs1 w1 (H1.out.below B1.out) HB1.out B1.out.size (by omega) (by omega))
    obtain ⟨L, hL⟩ : ∃ L, L = few bs1 m := ⟨_, rfl⟩
    have HBL : Hid (Bin L) := by show Bin L; rw [hL]; exact few_bin _ _
    have HLL : Hid (L.length ≤ 80) := by show _ ≤ _; rw [hL, few_len]; omega
    rw [← hL] at FW
    clear hL HSEL
    go_wp2_with fail
    refine FW.out.mono ?_
    rintro e w2 ⟨A3, c3, rfl, hc3, hm3, hown3, b2⟩
    have r3 := Rd.ofOwn hown3
    have HA3 : Hid (A3 = none ∨ ∃ q o, A3 = some ⟨q, o, none⟩) := by
      rcases hown3.2 with ⟨h, _⟩ | ⟨g', cap, cur, hv, _⟩
      · simp only [Value.slice.injEq] at h; exact .inl h.1
      · simp only [Value.slice.injEq] at hv; exact .inr ⟨_, _, hv.1⟩
    rw [ofN_lenB] at r3 hc3 ⊢
    have B2 := Lib.hid (B1.out.trans (b2.mono B1.out.size))
    have FW2 := Lib.hid (few_p Aq nq cq _ m bq w2 (HQ.out.below B2.out) HBQ.out B2.out.size (by omega) (by omega))
    obtain ⟨R, hR⟩ : ∃ R, R = few bq m := ⟨_, rfl⟩
    have HBR : Hid (Bin R) := by show Bin R; rw [hR]; exact few_bin _ _
    have HRL : Hid (R.length ≤ 80) := by show _ ≤ _; rw [hR, few_len]; omega
    rw [← hR] at FW2
    have R3 := Lib.hid r3
    clear hR r3 hown3 b2 B1 FW H1 HB1 HQ HBQ
    go_wp2_with fail
    refine FW2.out.mono ?_
    rintro e w3 ⟨A4, c4, rfl, hc4, hm4, hown4, b3⟩
    have r4 := Rd.ofOwn hown4
    have HA4 : Hid (A4 = none ∨ ∃ q o, A4 = some ⟨q, o, none⟩) := by
      rcases hown4.2 with ⟨h, _⟩ | ⟨g', cap, cur, hv, _⟩
      · simp only [Value.slice.injEq] at h; exact .inl h.1
      · simp only [Value.slice.injEq] at hv; exact .inr ⟨_, _, hv.1⟩
    rw [ofN_lenB] at r4 hc4 ⊢
    have B3 := Lib.hid (B2.out.trans (b3.mono B2.out.size))
    have R4 := Lib.hid r4
    have R33 : Hid (Rd w3 w3.heap.size A3 L.length (I64 (ofNB L))) := (R3.out.below b3).up b3.size
    clear r4 hown4 b3 B2 FW2 R3
    have hn3 : A3 = none → L.length = 0 := fun e => by have := R33.out; rw [e] at this; exact this.none_
    have hn4 : A4 = none → R.length = 0 := fun e => by have := R4.out; rw [e] at this; exact this.none_
    obtain ⟨sz, hsz⟩ : ∃ sz, sz = min L.length R.length := ⟨_, rfl⟩
    have e1 : (if R.length < L.length then (R.length : Int) else (L.length : Int)) = (sz : Int) := by rw [hsz]; split <;> omega
    have e2 : (if L.length < R.length then (L.length : Int) else (R.length : Int)) = (sz : Int) := by rw [hsz]; split <;> omega
    have hs1 : sz ≤ L.length := by omega
    have hs2 : sz ≤ R.length := by omega
    have RA := Lib.hid (R33.out.cut sz hs1)
    have RB := Lib.hid (R4.out.cut sz hs2)
    have HA : Hid (Bin (L.take sz)) := HBL.out.take sz
    have HB : Hid (Bin (R.take sz)) := HBR.out.take sz
    have HLA : Hid ((L.take sz).length = sz) := by show _ = _; rw [List.length_take]; omega
    have HLB : Hid ((R.take sz).length = sz) := by show _ = _; rw [List.length_take]; omega
    have hs3 : sz ≤ 80 := by have := HLL.out; omega
    generalize R.length = rl at *
    generalize L.length = ll at *
    generalize L.take sz = LA at *
    generalize R.take sz = LB at *
    clear hsz HBL HBR HLL HRL R33 R4
    go_upto_region 7 with fail
    go_cut [13, 14] from 45 to 50 (fun x y wx => (∃ ca cb, x = .slice A3 sz ca ∧ y = .slice A4 sz cb) ∧ Hid (Below w.heap.size w wx) ∧ Hid (Below w3.heap.size w3 wx))
    case first =>
      have hq1 : sz ≤ c3 := by omega
      have hq2 : sz ≤ c4 := by omega
      have HB9 : Hid (∀ n, Below w.heap.size w (w3.drewN n) ∧ Below w3.heap.size w3 (w3.drewN n)) := fun n => ⟨below_draws B3.out n, below_draws (Below.refl _ _) n⟩
      clear RA RB B3
      rcases HA3.out with rfl | ⟨q3, o3, rfl⟩
      · have h0 : sz = 0 := by have := hn3 rfl; omega
        clear hn3
        subst h0
        rcases HA4.out with rfl | ⟨q4, o4, rfl⟩
        · clear hn4
          go_quiet (fail)
          go_wp2_with fail
          go_meet
          exact ⟨⟨_, _, rfl, rfl⟩, (HB9.out _).1, (HB9.out _).2⟩
        · clear hn4
          go_quiet (fail)
          go_wp2_with fail
          go_meet
          exact ⟨⟨_, _, rfl, rfl⟩, (HB9.out _).1, (HB9.out _).2⟩
      · clear hn3
        rcases HA4.out with rfl | ⟨q4, o4, rfl⟩
        · have h0 : sz = 0 := by have := hn4 rfl; omega
          clear hn4
          subst h0
          go_quiet (fail)
          go_wp2_with fail
          go_meet
          exact ⟨⟨_, _, rfl, rfl⟩, (HB9.out _).1, (HB9.out _).2⟩
        · clear hn4
          go_quiet (fail)
          go_wp2_with fail
          go_meet
          exact ⟨⟨_, _, rfl, rfl⟩, (HB9.out _).1, (HB9.out _).2⟩
    case rest =>
      obtain ⟨⟨ca, cb, rfl, rfl⟩, B4, b34⟩ := hcut
      have RA4 := Lib.hid ((RA.out.below b34.out).up b34.out.size)
      have RB4 := Lib.hid ((RB.out.below b34.out).up b34.out.size)
      clear RA RB b34 hn3 hn4 e1 e2 hs1 hs2 B3 HA3 HA4
      have VA := Lib.hid (vec18_p LA A3 sz ca wc RA4.out HA.out (by have := HLA.out; omega))
      go_wp2_with fail
      refine VA.out.mono ?_
      rintro e w5 ⟨g5, A5, rfl, hv5, b5, l5⟩
      have B5 := Lib.hid (B4.out.trans (b5.mono B4.out.size))
      have RA5 := Lib.hid ((RA4.out.below b5).up b5.size)
      have RB5 := Lib.hid ((RB4.out.below b5).up b5.size)
      have EA := Lib.hid (Encode_p kk g5 LA _ A5 w5 hv5 HA.out hk8 (by have := HLA.out; omega))
      clear hv5 b5 VA RA4 RB4 B4 l5
      go_wp2_with fail
      refine EA.out.mono ?_
      rintro e w6 ⟨g6, A6, rfl, hv6, b6, l6⟩
      have B6 := Lib.hid (B5.out.trans (b6.mono B5.out.size))
      have RA6 := Lib.hid ((RA5.out.below b6).up b6.size)
      have RB6 := Lib.hid ((RB5.out.below b6).up b6.size)
      have HV6 := Lib.hid hv6
      have VB := Lib.hid (vec18_p LB A4 sz cb w6 RB6.out HB.out (by have := HLB.out; omega))
      clear hv6 b6 EA RA5 RB5 B5 l6
      go_wp2_with fail
      refine VB.out.mono ?_
      rintro e w7 ⟨g7, A7, rfl, hv7, b7, l7⟩
      have B7 := Lib.hid (B6.out.trans (b7.mono B6.out.size))
      have RA7 := Lib.hid ((RA6.out.below b7).up b7.size)
      have RB7 := Lib.hid ((RB6.out.below b7).up b7.size)
      have HV67 := Lib.hid (VecB.below HV6.out b7)
      have EB := Lib.hid (Encode_p kk g7 LB _ A7 w7 hv7 HB.out hk8 (by have := HLB.out; omega))
      clear hv7 b7 VB RA6 RB6 B6 l7 HV6
      go_wp2_with fail
      refine EB.out.mono ?_
      rintro e w8 ⟨g8, A8, rfl, hv8, b8, l8⟩
      have B8 := Lib.hid (B7.out.trans (b8.mono B7.out.size))
      have RA8 := Lib.hid ((RA7.out.below b8).up b8.size)
      have RB8 := Lib.hid ((RB7.out.below b8).up b8.size)
      have HV68 := Lib.hid (VecB.below HV67.out b8)
      have HV88 := Lib.hid hv8
      have VC := Lib.hid (vec18_p LA A3 sz ca w8 RA8.out HA.out (by have := HLA.out; omega))
      clear hv8 b8 EB RA7 RB7 B7 l8 HV67
      go_wp2_with fail
      refine VC.out.mono ?_
      rintro e w9 ⟨g9, A9, rfl, hv9, b9, l9⟩
      have B9 := Lib.hid (B8.out.trans (b9.mono B8.out.size))
      have RA9 := Lib.hid ((RA8.out.below b9).up b9.size)
      have RB9 := Lib.hid ((RB8.out.below b9).up b9.size)
      have HV69 := Lib.hid (VecB.below HV68.out b9)
      have HV89 := Lib.hid (VecB.below HV88.out b9)
      have EC := Lib.hid (Encode_p jj g9 LA _ A9 w9 hv9 HA.out hj8 (by have := HLA.out; omega))
      clear hv9 b9 VC RA8 RB8 B8 l9 HV68 HV88
      go_wp2_with fail
      refine EC.out.mono ?_
      rintro e wd ⟨gd, Ad, rfl, hvd, bd, ld⟩
      have Bd := Lib.hid (B9.out.trans (bd.mono B9.out.size))
      have RAd := Lib.hid ((RA9.out.below bd).up bd.size)
      have RBd := Lib.hid ((RB9.out.below bd).up bd.size)
      have HV6d := Lib.hid (VecB.below HV69.out bd)
      have HV8d := Lib.hid (VecB.below HV89.out bd)
      have HVd := Lib.hid hvd
      have DA := Lib.hid (Decode_p kk g6 sz _ _ A6 wd HV6d.out (code_bin kk LA) hk8 (by omega))
      clear hvd bd EC RA9 RB9 B9 ld HV69 HV89
      go_wp2_with fail
      refine DA.out.mono ?_
      rintro e we ⟨hor, be⟩
      rcases hor with ⟨u, gu, Au, hu, hcu, hbu, rfl, hvu, _⟩ | ⟨hno, _⟩
      rotate_left
      · exact absurd rfl (hno LA HA.out HLA.out)
      obtain rfl : u = LA := code_inj hbu HA.out (by rw [hu]; exact HLA.out.symm) hcu
      have Be := Lib.hid (Bd.out.trans (be.mono Bd.out.size))
      have RAe := Lib.hid ((RAd.out.below be).up be.size)
      have RBe := Lib.hid ((RBd.out.below be).up be.size)
      have HV6e := Lib.hid (VecB.below HV6d.out be)
      have HV8e := Lib.hid (VecB.below HV8d.out be)
      have HVu := Lib.hid hvu
      have DB := Lib.hid (Decode_p jj gd sz _ _ Ad we (VecB.below HVd.out be) (code_bin jj u) hj8 (by omega))
      clear hu hcu hbu hvu be DA RAd RBd Bd HV6d HV8d HVd
      go_wp2_with fail
      refine DB.out.mono ?_
      rintro e wf ⟨hor, bf⟩
      rcases hor with ⟨v, gv, Av, hv, hcv, hbv, rfl, hvv, _⟩ | ⟨hno, _⟩
      rotate_left
      · exact absurd rfl (hno u HA.out HLA.out)
      obtain rfl : v = u := code_inj hbv HA.out (by rw [hv]; exact HLA.out.symm) hcv
      have Bf := Lib.hid (Be.out.trans (bf.mono Be.out.size))
      have RAf := Lib.hid ((RAe.out.below bf).up bf.size)
      have RBf := Lib.hid ((RBe.out.below bf).up bf.size)
      have HVuf := Lib.hid (VecB.below HVu.out bf)
      have HVvf := Lib.hid hvv
      have SM := Lib.hid (same_vv g6 g8 _ _ _ _ _ _ _ _ wf (VecB.below HV6e.out bf) (VecB.below HV8e.out bf))
      clear hv hcv hbv hvv bf DB RAe RBe Be HV6e HV8e HVu
      have hdec : decide ((codeOf kk v).length = (codeOf kk LB).length ∧ val (codeOf kk v) = val (codeOf kk LB)) = decide (v.length = LB.length ∧ val v = val LB) := by
        rw [decide_eq_decide]
        constructor
        · rintro ⟨h1, h2⟩
          have := code_inj HA.out HB.out (by rw [HLA.out, HLB.out]) (val_inj (show Bin _ from code_bin kk v) (show Bin _ from code_bin kk LB) h1 h2)
          rw [this]; exact ⟨rfl, rfl⟩
        · rintro ⟨h1, h2⟩
          rw [val_inj HA.out HB.out h1 h2]; exact ⟨rfl, rfl⟩
      rw [hdec] at SM
      obtain ⟨dd, hdd⟩ : ∃ dd : Bool, dd = decide (v.length = LB.length ∧ val v = val LB) := ⟨_, rfl⟩
      rw [← hdd] at SM
      have HDD := Lib.hid hdd
      clear hdd hdec
      go_wp2_with fail
      refine SM.out.mono ?_
      rintro e wg ⟨rfl, j1, rfl⟩
      have bg := below_draws (Below.refl wf.heap.size wf) j1
      have Bg := Lib.hid (Bf.out.trans (bg.mono Bf.out.size))
      have RAg := Lib.hid ((RAf.out.below bg).up bg.size)
      have RBg := Lib.hid ((RBf.out.below bg).up bg.size)
      have HVug := Lib.hid (VecB.below HVuf.out bg)
      have HVvg := Lib.hid (VecB.below HVvf.out bg)
      generalize wf.drewN j1 = wg at *
      have VD := Lib.hid (vec18_p v A3 sz ca wg RAg.out HA.out (by have := HLA.out; omega))
      clear bg Bf RAf RBf HVuf HVvf SM
      go_wp2_with fail
      refine VD.out.mono ?_
      rintro e wh ⟨gh, Ah, rfl, hvh, bh, _⟩
      have Bh := Lib.hid (Bg.out.trans (bh.mono Bg.out.size))
      have RBh := Lib.hid ((RBg.out.below bh).up bh.size)
      have HVuh := Lib.hid (VecB.below HVug.out bh)
      have HVvh := Lib.hid (VecB.below HVvg.out bh)
      have HVhh := Lib.hid hvh
      have VE := Lib.hid (vec18_p LB A4 sz cb wh RBh.out HB.out (by have := HLB.out; omega))
      clear hvh bh VD Bg RAg RBg HVug HVvg
      go_wp2_with fail
      refine VE.out.mono ?_
      rintro e wi ⟨gi, Ai, rfl, hvi, bi, _⟩
      have Bi := Lib.hid (Bh.out.trans (bi.mono Bh.out.size))
      have HVui := Lib.hid (VecB.below HVuh.out bi)
      have HVvi := Lib.hid (VecB.below HVvh.out bi)
      have SN := Lib.hid (same_vv gh gi _ _ _ _ _ _ _ _ wi (VecB.below HVhh.out bi) hvi)
      rw [← HDD.out] at SN
      clear hvi bi VE Bh RBh HVuh HVvh HVhh
      go_wp2_with fail
      refine SN.out.mono ?_
      rintro e wj ⟨rfl, j2, rfl⟩
      have bj := below_draws (Below.refl wi.heap.size wi) j2
      have Bj := Lib.hid (Bi.out.trans (bj.mono Bi.out.size))
      have SO := Lib.hid (same_vv gu gv _ _ _ _ _ _ _ _ (wi.drewN j2) (VecB.below HVui.out bj) (VecB.below HVvi.out bj))
      have hd1 : decide (v.length = v.length ∧ val v = val v) = true := by simp
      rw [hd1] at SO
      generalize wi.drewN j2 = wj at *
      clear hd1 bj Bi HVui HVvi SN
      cases dd with
      | true =>
        go_wp2_with fail
        refine SO.out.mono ?_
        rintro e wk ⟨rfl, j3, rfl⟩
        go_wp2_with fail
        go_ret
        exact ⟨rfl, below_draws Bj.out j3⟩
      | false =>
        go_wp2_with fail
        refine SO.out.mono ?_
        rintro e wk ⟨rfl, j3, rfl⟩
        go_wp2_with fail
        go_ret
        exact ⟨rfl, below_draws Bj.out j3⟩
end Go.Proofs.Ytkahnaenbgbooaa
