/- WalkSteps: the walk is the document's, dart by dart. -/
import Derived.Test.YtgohdhmijfajfaaWText4
import Derived.BigQuiet
namespace Go.Proofs.Ytgohdhmijfajfaa
set_option maxRecDepth 20000
open Go.RowKit Go.Maps
set_option linter.unusedVariables false
set_option maxHeartbeats 8000000 in
theorem walkSteps_walk (A0 : Option Addr) (n m c : Nat) (root0 : Int) (by_ : List Int) (w : World) (h0 : Rd w w.heap.size A0 m (Z8 by_)) (hb0 : ∀ x ∈ by_, 0 ≤ x ∧ x < 256) (hmc : m ≤ c) (hcm : c ≤ maxLen) (hn : n < 256) (hr0 : -9223372036854775808 ≤ root0 ∧ root0 ≤ 9223372036854775807) :
    Calls Try.prog 3 #[.int .u8 (n : Int), .slice A0 m c, .int .i64 root0] w fun e w' => e = .returned (.bool true) ∧ Below w.heap.size w w' := by
  unfold maxLen at hcm
  have AW := Lib.hid (awake9_p w)
  have H0 := Lib.hid h0
  have HB0 := Lib.hid hb0
  clear h0 hb0
  go_enter Try.func3, Try.ntmps3
  go_wp2_with fail
  refine AW.out.mono ?_
  rintro e w1 ⟨rfl, b1⟩
  have MD := Lib.hid (made9_p n m c _ A0 by_ w1 (H0.out.below b1) HB0.out b1.size hn (by omega))
  have B1 := Lib.hid b1
  clear b1 AW
  go_wp2_with fail
  refine MD.out.mono ?_
  rintro e w2 ⟨g, v, l, b, root, rfl, hmap, hrm, hl, hroot, b2⟩
  have e03 : ((0 : Nat) : Int) = 0 := rfl
  rw [e03] at hmap hrm
  obtain ⟨hinv, A, cA, hla, rfl, hlc, hcA, hrA⟩ := hrm
  have hbx := (Below.refl w2.heap.size w2).alloc (Nat.le_refl _) (.cells #[.slice A l.length cA, .int .i64 root, .int .i64 0] 27)
  have HX := Lib.hid (Blk.new w2 27 #[.slice A l.length cA, .int .i64 root, .int .i64 0])
  have HM := Lib.hid (hmap.below hbx)
  have HR := Lib.hid (hrA.more hbx)
  have HI := Lib.hid hinv
  have hl20 : l.length ≤ 26 := by have := Nat.mod_lt n (show 0 < 14 by decide); omega
  have HEV : Hid (l.length % 2 = 0) := by show _ = _; omega
  have B2 : Hid (Below w.heap.size w w2) := B1.out.trans (b2.mono B1.out.size)
  have B3 : Hid (Below w.heap.size w (w2.alloc (.cells #[.slice A l.length cA, .int .i64 root, .int .i64 0] 27))) := B2.out.trans (hbx.mono B2.out.size)
  clear hmap hbx hrA hinv b2 B1 MD hlc hcA hla hl hroot B2 e03
  go_upto_region 4 with fail
  generalize hw3 : w2.alloc (.cells #[.slice A l.length cA, .int .i64 root, .int .i64 0] 27) = w3 at *
  have SK : Hid (∀ W, Below w3.heap.size w3 W → W.cell? ⟨w2.heap.size, 0, none⟩ = some (.slice A l.length cA) ∧ W.cell? ⟨w2.heap.size, 1, none⟩ = some (.int .i64 root) ∧ W.cell? ⟨w2.heap.size, 2, none⟩ = some (.int .i64 0)) := fun W z => by
    have h0 := (HX.out.below z).cell 0
    have h1 := (HX.out.below z).cell 1
    have h2 := (HX.out.below z).cell 2
    exact ⟨by simpa using h0, by simpa using h1, by simpa using h2⟩
  clear hw3 HX
  have Z0 := Below.refl w3.heap.size w3
  by_cases hout : root0 < 0 ∨ (l.length : Int) ≤ root0
  · have OP := Lib.hid (walkOf_out g l b root 0 root0 w3 HM.out hout)
    have RP : Hid (∀ W, Below w3.heap.size w3 W → Calls Try.prog 11 #[.pointer (some ⟨g, 0, none⟩), .int .i64 root0, .slice none 0 0] W fun e w' => e = .returned (.bool false) ∧ Below W.heap.size W w') := fun W z => right_out g l b root 0 root0 _ W (HM.out.below z) hout
    by_cases hneg : root0 < 0
    · have hd : decide (root0 < 0) = true := by rw [decide_eq_true_iff]; exact hneg
      clear hout
      go_wp2_with fail
      refine OP.out.mono ?_
      rintro e w4 ⟨rfl, z⟩
      have Z4 := Z0.trans (z.mono Z0.size)
      clear z Z0
      go_wp2_with fail
      refine (RP.out _ Z4).mono ?_
      rintro e w5 ⟨rfl, z⟩
      have Z5 := Lib.hid (B3.out.trans ((Z4.trans (z.mono Z4.size)).mono B3.out.size))
      clear z Z4
      go_wp2_with fail
      go_ret
      exact ⟨rfl, Z5.out⟩
    · have hge : (l.length : Int) ≤ root0 := by omega
      have hd : decide (root0 < 0) = false := by rw [decide_eq_false_iff_not]; exact hneg
      have hd2 : decide ((l.length : Int) ≤ root0) = true := by rw [decide_eq_true_iff]; exact hge
      clear hout
      go_wp2_with fail
      refine OP.out.mono ?_
      rintro e w4 ⟨rfl, z⟩
      have Z4 := Z0.trans (z.mono Z0.size)
      obtain ⟨x0, x1, x2⟩ := SK.out _ Z4
      clear z Z0
      go_wp2_with fail
      refine (RP.out _ Z4).mono ?_
      rintro e w5 ⟨rfl, z⟩
      have Z5 := Lib.hid (B3.out.trans ((Z4.trans (z.mono Z4.size)).mono B3.out.size))
      clear z Z4
      go_wp2_with fail
      go_ret
      exact ⟨rfl, Z5.out⟩
  · obtain ⟨r, rfl⟩ : ∃ r : Nat, root0 = (r : Int) := ⟨root0.toNat, by omega⟩
    have hrl : r < l.length := by omega
    have hrI : (r : Int) < (l.length : Int) := by omega
    have hd : decide ((r : Int) < 0) = false := by rw [decide_eq_false_iff_not]; omega
    have hd2 : decide ((l.length : Int) ≤ (r : Int)) = false := by rw [decide_eq_false_iff_not]; omega
    have hd3 : decide (l.length ≤ r) = false := by rw [decide_eq_false_iff_not]; omega
    obtain ⟨M, hMM⟩ : ∃ M, M = l.length / 2 := ⟨_, rfl⟩
    obtain ⟨V, hVV⟩ : ∃ V : Nat, (V : Int) = ((sizes l).length : Int) + 0 := ⟨(sizes l).length, by omega⟩
    have hVs : (sizes l).length ≤ V := by omega
    have hVl : V ≤ 200000 := by have := sizes_le l; omega
    have hvl := nm_lt HI.out (V := V) hVs
    obtain ⟨N, hN⟩ : ∃ N, N = wN (sgL l) (nameOf l) M V r := ⟨_, rfl⟩
    have hwn := wN_is (m := l.length / 2) (sgL_pf HI.out) (by have := HEV.out; omega) (nm_ok HI.out) hvl hrl
    rw [← hMM, ← hN] at hwn
    have hN26 : N ≤ 26 := by omega
    have OP := walkOf_p g l b root 0 r M V w3 HM.out HI.out hrl hMM hVV
    have RP : ∀ W A1 c1 B, Below w3.heap.size w3 W → RdS W B A1 N (wst (sgL l) (nameOf l) M V r N) → B ≤ W.heap.size → Calls Try.prog 11 #[.pointer (some ⟨g, 0, none⟩), .int .i64 (r : Int), .slice A1 N c1] W fun e w' => e = .returned (.bool true) ∧ Below W.heap.size W w' := fun W A1 c1 B z h hb => by
      subst hN
      exact right_p g l b root 0 r M V A1 c1 B W (HM.out.below z) HI.out hrl hMM hVV h hb (by omega)
    have RW : ∀ W, Below w3.heap.size w3 W → Calls Try.prog 12 #[.agg #[.slice A l.length cA, .int .i64 root, .int .i64 0], .int .i64 (r : Int)] W (RWPost W N (wdl (sgL l) (nameOf l) M V r N) (wkl (sgL l) (nameOf l) M V r N)) := fun W z => by
      subst hN
      exact rwalk_p A cA l b root 0 r M V W (HR.out.more z) HI.out HEV.out hrl (by omega) hMM hVs hVl
    have NP : Hid (∀ W, Below w3.heap.size w3 W → Calls Try.prog 13 #[.agg #[.slice A l.length cA, .int .i64 root, .int .i64 0]] W (NewI64 W (ofN (enames l)))) := fun W z => renames_p A cA l b root 0 W (HR.out.more z) HI.out HEV.out (by omega)
    have HPQ : Hid (∀ j, j < N → pq l (wrun (sgL l) (nameOf l) M V r j).d = pq l r ∧ (wrun (sgL l) (nameOf l) M V r j).d < l.length) := fun j hj => by
      have hlt := (wok (m := l.length / 2) (sgL_pf HI.out) (by have := HEV.out; omega) (nm_ok HI.out) hvl hrl j).lt
      rw [← hMM] at hlt
      refine ⟨(pq_part HI.out HEV.out hrl hlt).2 ?_, hlt⟩
      have := (wpart (m := l.length / 2) (sgL_pf HI.out) (by have := HEV.out; omega) (nm_ok HI.out) hvl hrl hlt).2
      rw [← hMM, ← hN] at this
      have h2 := this ⟨j, hj, rfl⟩
      unfold part
      rw [← hMM]; exact h2
    have HON : Hid (∀ i j, i < j → j < N → (wrun (sgL l) (nameOf l) M V r i).d ≠ (wrun (sgL l) (nameOf l) M V r j).d) := fun i j hij hj e => by
      have := wonce (m := l.length / 2) (sgL_pf HI.out) (by have := HEV.out; omega) (nm_ok HI.out) hvl hrl (i := i) (j := j) (by rw [← hMM, ← hN]; omega) (by rw [← hMM, ← hN]; exact hj) (by rw [← hMM]; exact e)
      omega
    have HEN : Hid (∀ d, d < l.length → (enames l).getD d 0 = pq l d) := fun d hd => by unfold enames prts; rw [map_rangeN _ _ _ hd]; rfl
    rw [← hN] at OP
    have OPH := Lib.hid OP
    have RPH := Lib.hid RP
    have RWH := Lib.hid RW
    clear OP RP RW hout hwn hvl hVs hVl hMM hVV hN HM HR HI HEV
    generalize sgL l = sg at *
    generalize nameOf l = nm at *
    go_wp2_with fail
    refine OPH.out.mono ?_
    rintro e w4 ⟨AL, cL, rfl, ownL, z⟩
    have RL := Lib.hid (RdS.own ownL)
    have Z4 := Lib.hid (Z0.trans (z.mono Z0.size))
    obtain ⟨x0, x1, x2⟩ := SK.out _ Z4.out
    clear z Z0 ownL OPH
    have RW4 := Lib.hid (RWH.out _ Z4.out)
    go_wp2_with fail
    refine RW4.out.mono ?_
    rintro e w5 ⟨A1, c1, A2, c2, rfl, own1, own2, z⟩
    have RL5 := Lib.hid (RL.out.below z)
    have R1 := Lib.hid (Rd.ofOwn own1)
    have R2 := Lib.hid (Rd.ofOwn own2)
    have Z5 := Lib.hid (Z4.out.trans (z.mono Z4.out.size))
    have hz45 := z.size
    obtain ⟨x0, x1, x2⟩ := SK.out _ Z5.out
    clear z own1 own2 RL Z4 RW4 RWH
    have NP5 := Lib.hid (NP.out _ Z5.out)
    go_wp2_with fail
    refine NP5.out.mono ?_
    rintro e w6 ⟨AN, cN, rfl, hcN, hmN, ownN, z⟩
    rw [ofN_len, enames_len] at ownN ⊢
    have RN := Lib.hid (Rd.ofOwn ownN)
    have RL6 := Lib.hid (RL5.out.below (z.mono hz45))
    have R16 := Lib.hid (R1.out.more z)
    have R26 := Lib.hid (R2.out.more z)
    have Z6 := Lib.hid (Z5.out.trans (z.mono Z5.out.size))
    have hz46 : w4.heap.size ≤ w6.heap.size := Nat.le_trans hz45 z.size
    have hmm := @run_makeMap Try.prog
    have OW : Hid (OwnM (w6.alloc (.map #[] 0)) w6.heap.size 0 (.map [])) := World.ownsMap_made _ _ _ _
    have BX : Hid (Below w6.heap.size w6 (w6.alloc (.map #[] 0))) := (Below.refl _ _).alloc (Nat.le_refl _) _
    clear z ownN NP5 NP RL5 R1 R2 Z5 x0 x1 x2 hcN hmN
    go_wp2_with fail
    clear hmm
    have hsz6 : (w6.alloc (.map #[] 0)).heap.size = w6.heap.size + 1 := by simp
    generalize w6.alloc (.map #[] 0) = w7 at *
    go_loopw [73] (fun i wr => ∃ (k : Nat), k ≤ N ∧ i = .int .i64 (k : Int) ∧ Hid (∃ D n1, n1 ≤ k ∧ OwnM wr w6.heap.size n1 D ∧ MSn D (fun j => (wrun sg nm M V r j).d) k) ∧ Hid (Below w6.heap.size w6 wr)) (fun i _ => N - (intOf i).toNat)
    case atStart => exact ⟨0, by omega, rfl, ⟨_, _, Nat.le_refl _, OW.out, MSn.zero _⟩, BX.out⟩
    case round =>
      clear OW BX
      obtain ⟨k, hk, rfl, HD, HB⟩ := hrel
      have hsw := HB.out.size
      by_cases hlt : k < N
      · have hdk : decide (k < N) = true := by rw [decide_eq_true_iff]; exact hlt
        have hkI : (k : Int) < (N : Int) := by omega
        obtain ⟨gl, rfl, _, kl⟩ := (RL6.out.below (HB.out.mono hz46)).2 (by omega)
        have a0 := kl (2 * k) (by omega)
        have a1 := kl (2 * k + 1) (by omega)
        rw [(wst_dk sg nm M V r hlt).1] at a0
        rw [(wst_dk sg nm M V r hlt).2] at a1
        rw [show 2 * k = k * 2 by omega] at a0 a1
        have R1w := R16.out.more HB.out
        have R2w := R26.out.more HB.out
        have RNw := RN.out.more HB.out
        obtain ⟨q1, o1, rfl, _, k1⟩ := R1w.i64 (by omega)
        obtain ⟨q2, o2, rfl, _, k2⟩ := R2w.i64 (by omega)
        obtain ⟨q3, o3, rfl, _, k3⟩ := RNw.i64 (by omega)
        have b0 := k1 k hlt
        have b1 := k2 k hlt
        rw [wdl_get sg nm M V r N k hlt] at b0
        rw [wkl_get sg nm M V r N k hlt] at b1
        obtain ⟨hpq, hdl⟩ := HPQ.out k hlt
        have c0 := k3 _ hdl
        have c1' := k3 r hrl
        rw [ofN_get, HEN.out _ hdl, hpq] at c0
        rw [ofN_get, HEN.out r hrl] at c1'
        obtain ⟨D, n1, hn1, hown, hms⟩ := HD.out
        have hne : ∀ i, i < k → (fun j => (wrun sg nm M V r j).d) i ≠ (fun j => (wrun sg nm M V r j).d) k := fun i hi => HON.out i k hi hlt
        have hlk := look_s hown hms hne (by show (wrun sg nm M V r k).d ≤ _; omega)
        have hst := hms.step hne
        try simp only at hlk
        try simp only at hst
        obtain ⟨d, hd⟩ : ∃ d, d = (wrun sg nm M V r k).d := ⟨_, rfl⟩
        obtain ⟨kd, hkd⟩ : ∃ kd, kd = (wrun sg nm M V r k).k nm := ⟨_, rfl⟩
        rw [← hd] at a0 b0 c0 hlk hdl hst
        rw [← hkd] at a1 b1
        have hdI : (d : Int) < (l.length : Int) := by omega
        have HST := Lib.hid hst
        -- behind the box
        have ha := (Below.refl wr.heap.size wr).alloc (Nat.le_refl _) (.cells #[.int .i64 (d : Int), .int .i64 (kd : Int)] 40)
        have hlk2 : ∀ jj : Nat, (Instr.lookup 38 (.map (some w6.heap.size)) (.int .i64 (d : Int)) false).run Try.prog ((wr.alloc (.cells #[.int .i64 (d : Int), .int .i64 (kd : Int)] 40)).drewN jj) = .ok (.int .i64 0) ((wr.alloc (.cells #[.int .i64 (d : Int), .int .i64 (kd : Int)] 40)).drewN jj) := fun jj => by
          have := look_s (own_map_below (World.ownsMap.alloc hown (.cells #[.int .i64 (d : Int), .int .i64 (kd : Int)] 40)) (below_draws (Below.refl _ _) jj)) hms hne (by show (wrun sg nm M V r k).d ≤ _; omega)
          try simp only at this
          rwa [← hd] at this
        have HOWN := Lib.hid (World.ownsMap.alloc hown (.cells #[.int .i64 (d : Int), .int .i64 (kd : Int)] 40))
        have a0' := (ha.cell (p := ⟨gl, k * 2, none⟩) (World.block_lt_of_cell? _ _ a0)).trans a0
        have a1' := (ha.cell (p := ⟨gl, k * 2 + 1, none⟩) (World.block_lt_of_cell? _ _ a1)).trans a1
        have b0' := (ha.cell (p := ⟨q1, o1 + k, none⟩) (World.block_lt_of_cell? _ _ b0)).trans b0
        have b1' := (ha.cell (p := ⟨q2, o2 + k, none⟩) (World.block_lt_of_cell? _ _ b1)).trans b1
        have c0' := (ha.cell (p := ⟨q3, o3 + d, none⟩) (World.block_lt_of_cell? _ _ c0)).trans c0
        have c1'' := (ha.cell (p := ⟨q3, o3 + r, none⟩) (World.block_lt_of_cell? _ _ c1')).trans c1'
        have BS := Blk.new wr 40 #[.int .i64 (d : Int), .int .i64 (kd : Int)]
        have s0 : (wr.alloc (.cells #[.int .i64 (d : Int), .int .i64 (kd : Int)] 40)).cell? ⟨wr.heap.size, 0, none⟩ = some (.int .i64 (d : Int)) := BS.cell 0
        have s1 : (wr.alloc (.cells #[.int .i64 (d : Int), .int .i64 (kd : Int)] 40)).cell? ⟨wr.heap.size, 1, none⟩ = some (.int .i64 (kd : Int)) := BS.cell 1
        have HA := Lib.hid (HB.out.trans (ha.mono hsw))
        have hwlt : w6.heap.size < wr.heap.size := hown.lt
        clear kl k1 k2 k3 R1w R2w RNw hd hkd hpq hown hms hne hlk hst ha BS HD HB
        go_upto_region 15 with fail
        clear a0 a1 b0 b1 c0 c1'
        generalize wr.alloc (.cells #[.int .i64 (d : Int), .int .i64 (kd : Int)] 40) = wx at *
        go_quiet (fail)
        go_wp2_with (first
          | (at_mapUpdate; refine wpList_mapUpdate_own _ rfl _ _ _ 38 rfl 3 3 mlaw Try.underlying38 (plainElem Try.prog 3) w6.heap.size n1 D rfl (own_map_below HOWN.out (below_draws (Below.refl _ _) _)) (by unfold maxLen; omega) _ _ (kI d) rfl rfl (mkey d (by omega)) (.lit (.int .i64 1)) [] (plainElem_int Try.underlying3 (by decide)) ?_; intro u hown1 hgrow1))
        have HU := Lib.hid hown1
        have HBU := Lib.hid ((below_draws HA.out _).grown hgrow1 (below_draws HA.out _).size (fun j hj => by cases hj; exact Nat.le_refl _))
        clear hown1 hgrow1 a0' a1' b0' b1' c0' c1'' hlk2 s0 s1 HOWN HA
        go_wp2_with fail
        go_roundw
        case rel => exact ⟨k + 1, by omega, by go_num, ⟨_, _, by omega, HU.out, HST.out⟩, HBU.out⟩
        case measure => simp [intOf]; omega
      · obtain rfl : k = N := by omega
        have hdk : decide (k < k) = false := by simp
        obtain ⟨D, n1, hn1, hown, hms⟩ := HD.out
        have hlen := World.ownsMap.len hown Try.underlying38
        rw [hms.size_] at hlen
        have RLw := RL6.out.below (HB.out.mono hz46)
        have WP := wword_p AL k cL _ _ wr RLw (Nat.le_trans hz46 hsw) (by omega)
        rw [kindsN_wkn sg nm M V r k k (Nat.le_refl _)] at WP
        have WPH := Lib.hid WP
        have HRL := Lib.hid RLw
        have HR2 := Lib.hid (R26.out.more HB.out)
        have HZ := Lib.hid (Z6.out.trans (HB.out.mono Z6.out.size))
        have hz4r : w4.heap.size ≤ wr.heap.size := Nat.le_trans hz46 hsw
        have hkl9 : (wkn sg nm M V r k).length ≤ 400000 := by
          have := kindsN_len (wst sg nm M V r k) k
          rw [kindsN_wkn sg nm M V r k k (Nat.le_refl _)] at this
          omega
        clear WP RLw hown hms HD HB R16 R26 RN RL6
        go_wp2_with fail
        refine WPH.out.mono ?_
        rintro e v1 ⟨gw, rfl, hw1, z⟩
        have TP := Lib.hid (mtext_p _ gw _ v1 hw1 hkl9)
        have HRL1 := Lib.hid (HRL.out.below (z.mono hz4r))
        have HR21 := Lib.hid (HR2.out.more z)
        have HZ1 := Lib.hid (HZ.out.trans (z.mono HZ.out.size))
        have hz4v : w4.heap.size ≤ v1.heap.size := Nat.le_trans hz4r z.size
        clear z hw1 WPH HRL HR2 HZ
        go_wp2_with fail
        refine TP.out.mono ?_
        rintro e v2 ⟨rfl, z⟩
        have HRL2 := Lib.hid (HRL1.out.below (z.mono hz4v))
        have hr2 := HR21.out.more z
        rw [wkl_wkn] at hr2
        have T4 := Lib.hid (refText4_p A2 k c2 _ _ v2 hr2 (wkn_lt sg nm M V r k) (by omega))
        have HZ2 := Lib.hid (HZ1.out.trans (z.mono HZ1.out.size))
        have hz4v2 : w4.heap.size ≤ v2.heap.size := Nat.le_trans hz4v z.size
        have RR := Lib.hid (RPH.out v2 AL cL _ HZ2.out HRL2.out hz4v2)
        clear z hr2 TP HRL1 HR21 HZ1
        go_wp2_with fail
        refine T4.out.mono ?_
        rintro e w' ⟨rfl, rfl⟩
        generalize textM (wkn sg nm M V r k) = T at *
        have hTT : decide (T = T) = true := by simp
        clear T4
        go_wp2_with fail
        refine RR.out.mono ?_
        rintro e v3 ⟨rfl, z⟩
        have HZ3 := Lib.hid (B3.out.trans ((HZ2.out.trans (z.mono HZ2.out.size)).mono B3.out.size))
        clear z RR
        go_wp2_with fail
        go_ret
        exact ⟨by first | rfl | simp, HZ3.out⟩
end Go.Proofs.Ytgohdhmijfajfaa
