/- DualApart: two edges cut out in any order; the dual's mirror and the mirror's dual. -/
import Derived.Test.YthapkmlpbigjeaaUApartM
import Derived.Test.YthapkmlpbigjeaaUMade
import Derived.Test.YthapkmlpbigjeaaUNil
import Derived.Test.YthapkmlpbigjeaaEqualI
import Derived.Test.YthapkmlpbigjeaaDMap2
import Derived.Deep.RegionHeld3
import Derived.Deep.DeepCutAuto
namespace Go.Proofs.Ythapkmlpbigjeaa
set_option maxRecDepth 20000
open Go.RowKit
set_option linter.unusedVariables false
/-- Cut of any map, of an edge that there is: as many vertices. -/
theorem cut_any (g : Nat) (l b : List Nat) (root : Int) (e : Nat) (lone : Int) (w : World) (h : MapAt w g l b root lone) (hi : Inv l b) (hr : RootOk root l.length) (he : e < l.length / 2) (hl0 : 0 ≤ lone) (hl1 : lone ≤ 60000) :
    Calls Try.prog 35 #[.pointer (some ⟨g, 0, none⟩), .int .i64 (e : Int)] w fun en w' => ∃ b' rt ln, Inv (woN l l e) b' ∧ RootOk rt (l.length - 2) ∧ 0 ≤ ln ∧ ln ≤ lone + 2 ∧ (metB (woN l l e) : Int) + ln = metB l + lone ∧ NewMap w (woN l l e) b' rt ln en w' := by
  obtain ⟨r, rfl, hrl⟩ : ∃ r : Nat, root = (r : Int) ∧ r < l.length := by
    rcases hr with ⟨q, _⟩ | ⟨_, q1, q2⟩
    · omega
    · exact ⟨root.toNat, by omega, by omega⟩
  refine (cut_p g l b r e lone w h hi hrl he hl0 hl1).mono fun en w' ⟨b', h1, h2⟩ => ?_
  have hE : 2 * e + 2 ≤ l.length := by omega
  have hv := cut_verts hi hE h1 lone hl0
  have hz := zerTo_le (besN l lone e) (besN l lone e).length
  have hz2 := besN_len l lone e
  exact ⟨b', _, _, h1, heir_ok hi h.1.1 hrl hE, by omega, by omega, by omega, h2⟩
set_option maxHeartbeats 8000000 in
theorem dualApart_walk (A0 : Option Addr) (n m c ee ff : Nat) (by_ : List Int) (w : World) (h0 : Rd w w.heap.size A0 m (Z8 by_)) (hb0 : ∀ x ∈ by_, 0 ≤ x ∧ x < 256) (hmc : m ≤ c) (hcm : c ≤ maxLen) (hn : n < 256) (hee : ee < 256) (hff : ff < 256) :
    Calls Try.prog 8 #[.int .u8 (n : Int), .slice A0 m c, .int .u8 (ee : Int), .int .u8 (ff : Int)] w fun e w' => e = .returned (.bool true) ∧ Below w.heap.size w w' := by
  unfold maxLen at hcm
  have AW := Lib.hid (awake10_p w)
  have H0 := Lib.hid h0
  have HB0 := Lib.hid hb0
  clear h0 hb0
  go_enter Try.func8, Try.ntmps8
  go_wp2_with fail
  refine AW.out.mono ?_
  rintro e w1 ⟨rfl, b1⟩
  have MD := Lib.hid (made10_p n 0 0 m c _ A0 by_ w1 (H0.out.below b1) HB0.out b1.size hn (by omega) (by omega) (by omega))
  have B1 := Lib.hid b1
  clear b1 AW
  go_wp2_with fail
  refine MD.out.mono ?_
  rintro e w2 ⟨g, v, l, b, root, rfl, hmap, hrm, hl, hroot, b2⟩
  have e03 : ((0 % 3 : Nat) : Int) = 0 := rfl
  rw [e03] at hmap hrm
  obtain ⟨hinv, A, cA, hla, rfl, hlc, hcA, hrA⟩ := hrm
  have hbx := (Below.refl w2.heap.size w2).alloc (Nat.le_refl _) (.cells #[.slice A l.length cA, .int .i64 root, .int .i64 0] 27)
  have HX := Lib.hid (Blk.new w2 27 #[.slice A l.length cA, .int .i64 root, .int .i64 0])
  have HM := Lib.hid (hmap.below hbx)
  have HI := Lib.hid hinv
  have hl20 : l.length ≤ 22 := by have := Nat.mod_lt n (show 0 < 12 by decide); omega
  have HEV : Hid (l.length % 2 = 0) := by show _ = _; omega
  have B2 : Hid (Below w.heap.size w w2) := B1.out.trans (b2.mono B1.out.size)
  have B3 : Hid (Below w.heap.size w (w2.alloc (.cells #[.slice A l.length cA, .int .i64 root, .int .i64 0] 27))) := B2.out.trans (hbx.mono B2.out.size)
  have HRT : Hid (RootOk root l.length) := by rw [hl]; exact hroot
  clear hmap hbx hrA hinv b2 B1 MD hlc hcA hla hl hroot B2 e03
  go_upto_region 4 with fail
  generalize hw3 : w2.alloc (.cells #[.slice A l.length cA, .int .i64 root, .int .i64 0] 27) = w3 at *
  have hX3 : w2.heap.size < w3.heap.size := by rw [← hw3]; simp
  have x0' : w3.cell? ⟨w2.heap.size, 0, none⟩ = some (.slice A l.length cA) := HX.out.cell 0
  have XK : Hid (∀ W, Below w3.heap.size w3 W → W.cell? ⟨w2.heap.size, 0, none⟩ = some (.slice A l.length cA)) := fun W m => (m.cell (p := ⟨w2.heap.size, 0, none⟩) hX3).trans x0'
  clear hw3 x0' HX
  obtain ⟨M, hM⟩ : ∃ M, M = l.length / 2 := ⟨_, rfl⟩
  have EP : Hid (∀ W, Below w3.heap.size w3 W → Calls Try.prog 25 #[.pointer (some ⟨g, 0, none⟩)] W fun e w' => e = .returned (.int .i64 (M : Int)) ∧ Below W.heap.size W w') := fun W m => by rw [hM]; exact edges_p g l b root 0 W (HM.out.below m)
  have Z0 := Below.refl w3.heap.size w3
  by_cases hM2 : M < 2
  · have hMi : (M : Int) < 2 := by omega
    have hMd : decide ((M : Int) < 2) = true := by rw [decide_eq_true_iff]; exact hMi
    have hMe : decide (M < 2) = true := by rw [decide_eq_true_iff]; exact hM2
    have hq0 : l.length < 4 := by have := HEV.out; omega
    have hq1 : (l.length : Int) < 4 := by omega
    have hq2 : decide ((l.length : Int) < 4) = true := by rw [decide_eq_true_iff]; exact hq1
    have hq3 : decide (l.length < 4) = true := by rw [decide_eq_true_iff]; exact hq0
    clear hM
    go_wp2_with fail
    refine (EP.out _ Z0).mono ?_
    rintro e v1 ⟨rfl, z⟩
    have Z1 := Z0.trans (z.mono Z0.size)
    have x0 := XK.out _ Z1
    have B4 := Lib.hid (B3.out.trans (Z1.mono B3.out.size))
    clear z Z0 Z1
    go_wp2_with fail
    go_ret
    exact ⟨by first | rfl | simp, B4.out⟩
  · have hMi : ¬ (M : Int) < 2 := by omega
    have hMd : decide ((M : Int) < 2) = false := by rw [decide_eq_false_iff_not]; exact hMi
    have hMe : decide (M < 2) = false := by rw [decide_eq_false_iff_not]; exact hM2
    have hM0 : ¬ (M : Int) = 0 := by omega
    obtain ⟨i, hi⟩ : ∃ i, i = ee % M := ⟨_, rfl⟩
    obtain ⟨k, hk⟩ : ∃ k, k = ff % M := ⟨_, rfl⟩
    have hiM : i < M := by rw [hi]; exact Nat.mod_lt _ (by omega)
    have hkM : k < M := by rw [hk]; exact Nat.mod_lt _ (by omega)
    have hi1 : (ee : Int) % (M : Int) = (i : Int) := by rw [hi, Int.natCast_emod]
    have hi2 : (ee : Int).tmod (M : Int) = (i : Int) := by rw [Int.tmod_eq_emod_of_nonneg (by omega)]; exact hi1
    have hk1 : (ff : Int) % (M : Int) = (k : Int) := by rw [hk, Int.natCast_emod]
    have hk2 : (ff : Int).tmod (M : Int) = (k : Int) := by rw [Int.tmod_eq_emod_of_nonneg (by omega)]; exact hk1
    have HMM := Lib.hid hM
    have hM0n : ¬ M = 0 := by omega
    have hM0b : (M == 0) = false := by rw [beq_eq_false_iff_ne]; exact hM0n
    have hM0p : 0 < M := by omega
    have hMz : ((M : Int) == 0) = false := by rw [beq_eq_false_iff_ne]; exact hM0
    have hwi : IntKind.i64.wrap (i : Int) = (i : Int) := by simp [IntKind.wrap, IntKind.signed, IntKind.bits]; omega
    have hwk : IntKind.i64.wrap (k : Int) = (k : Int) := by simp [IntKind.wrap, IntKind.signed, IntKind.bits]; omega
    have hwe : IntKind.i64.wrap (ee : Int) = (ee : Int) := by simp [IntKind.wrap, IntKind.signed, IntKind.bits]; omega
    have hwf : IntKind.i64.wrap (ff : Int) = (ff : Int) := by simp [IntKind.wrap, IntKind.signed, IntKind.bits]; omega
    clear hM hi hk
    go_wp2_with fail
    refine (EP.out _ Z0).mono ?_
    rintro e v1 ⟨rfl, z⟩
    have Z1 := Z0.trans (z.mono Z0.size)
    clear z Z0
    go_wp2_with fail
    have EPK : Hid (∀ W, Below w3.heap.size w3 W → Calls Try.prog 25 #[.pointer (some ⟨g, 0, none⟩)] W fun e w' => e = .returned (.int .i64 (M : Int)) ∧ Below w3.heap.size w3 w') := fun W m => (EP.out W m).mono fun e w' ⟨h1, h2⟩ => ⟨h1, m.trans (h2.mono m.size)⟩
    go_cut [11, 12] (fun s11 s12 wx => s11 = .int .i64 (i : Int) ∧ s12 = .int .i64 (k : Int) ∧ Below w3.heap.size w3 wx)
    case first =>
      have hba0 := Z1
      have hba1 := Z1.drew
      clear Z1
      go_region_held3 (fun W => Below w3.heap.size w3 W)
        (assumption)
        ((go_at_call 25; (with_reducible refine (EPK.out _ (by assumption)).mono ?_); rintro e wa ⟨rfl, hba⟩))
      all_goals (go_wp2_with fail; go_meet; exact ⟨rfl, rfl, hba⟩)
    case rest =>
      obtain ⟨rfl, rfl, b5⟩ := hcut
      obtain ⟨wd, rfl⟩ : ∃ wd, wd = wc := ⟨_, rfl⟩
      have B5 := Lib.hid b5
      have HPI := Lib.hid (phi_inv HI.out HEV.out)
      have HL := Lib.hid HMM.out
      have HLB : Hid (b.length = l.length) := HI.out.len
      have HLP := Lib.hid (phiL_len l)
      have DP : Hid (∀ W, Below w3.heap.size w3 W → Calls Try.prog 11 #[.pointer (some ⟨g, 0, none⟩)] W fun e w' => ∃ g', e = .returned (.pointer (some ⟨g', 0, none⟩)) ∧ MapAt w' g' (phiL l) (phiB l b) root 0 ∧ Below W.heap.size W w') := fun W m => dual_p g l b root 0 W (HM.out.below m) HI.out HRT.out
      have MP : Hid (∀ W, Below w3.heap.size w3 W → Calls Try.prog 12 #[.pointer (some ⟨g, 0, none⟩)] W fun e w' => ∃ g', e = .returned (.pointer (some ⟨g', 0, none⟩)) ∧ MapAt w' g' b l root 0 ∧ Below W.heap.size W w') := fun W m => mirror_p g l b root 0 W (HM.out.below m) HI.out HRT.out
      have MDP : Hid (∀ gd W, MapAt W gd (phiL l) (phiB l b) root 0 → Calls Try.prog 12 #[.pointer (some ⟨gd, 0, none⟩)] W fun e w' => ∃ g', e = .returned (.pointer (some ⟨g', 0, none⟩)) ∧ MapAt w' g' (phiB l b) (phiL l) root 0 ∧ Below W.heap.size W w') := fun gd W hm => mirror_p gd (phiL l) (phiB l b) root 0 W hm HPI.out (by rw [phiL_len]; exact HRT.out)
      have DMP : Hid (∀ go W, MapAt W go b l root 0 → Calls Try.prog 11 #[.pointer (some ⟨go, 0, none⟩)] W fun e w' => ∃ g', e = .returned (.pointer (some ⟨g', 0, none⟩)) ∧ MapAt w' g' (phiL b) (phiB b l) root 0 ∧ Below W.heap.size W w') := fun go W hm => dual_p go b l root 0 W hm HI.out.symm (by rw [HLB.out]; exact HRT.out)
      have GP : Hid (∀ ga la lb W, MapAt W ga la lb root 0 → Calls Try.prog 20 #[.pointer (some ⟨ga, 0, none⟩)] W fun e w' => e = .returned (.int .i64 (genusN la : Int)) ∧ Below W.heap.size W w') := fun ga la lb W hm => genus_p ga la lb root 0 W hm
      have G1 : Hid (genusN (phiB l b) = genusN l) := by
        show _ = _
        rw [genus_both HPI.out (by rw [phiL_len]; exact HEV.out)]; exact genus_dual HI.out HEV.out
      have G2 : Hid (genusN (phiL b) = genusN l) := by
        show _ = _
        rw [genus_dual HI.out.symm (by rw [HLB.out]; exact HEV.out)]; exact genus_both HI.out HEV.out
      have GT : Hid ((genusN (phiB l b) : Int) = genusN (phiL b)) := by show _ = _; rw [G1.out, G2.out]
      by_cases hik : i = k
      · subst hik
        clear hi1 hi2 hk1 hk2
        go_wp2_with fail
        refine (DP.out _ b5).mono ?_
        rintro e v2 ⟨gd, rfl, hmd, z⟩
        have Z2 := Lib.hid (b5.trans (z.mono b5.size))
        have DD := Lib.hid (MDP.out gd v2 hmd)
        clear z hmd b5
        go_wp2_with fail
        refine DD.out.mono ?_
        rintro e v3 ⟨gm, rfl, hmm, z⟩
        have Z3 := Lib.hid (Z2.out.trans (z.mono Z2.out.size))
        have EE := Lib.hid (GP.out gm _ _ v3 hmm)
        clear z hmm DD Z2
        rw [G1.out] at EE
        go_wp2_with fail
        refine EE.out.mono ?_
        rintro e v4 ⟨rfl, z⟩
        have Z4 := Z3.out.trans (z.mono Z3.out.size)
        clear z EE Z3
        go_wp2_with fail
        refine (MP.out _ Z4).mono ?_
        rintro e v5 ⟨go, rfl, hmo, z⟩
        have Z5 := Lib.hid (Z4.trans (z.mono Z4.size))
        have DD := Lib.hid (DMP.out go v5 hmo)
        clear z hmo Z4
        go_wp2_with fail
        refine DD.out.mono ?_
        rintro e v6 ⟨gn, rfl, hmn, z⟩
        have Z6 := Lib.hid (Z5.out.trans (z.mono Z5.out.size))
        have EE := Lib.hid (GP.out gn _ _ v6 hmn)
        clear z hmn DD Z5
        rw [G2.out] at EE
        go_wp2_with fail
        refine EE.out.mono ?_
        rintro e v7 ⟨rfl, z⟩
        have Z7 := Lib.hid (B3.out.trans ((Z6.out.trans (z.mono Z6.out.size)).mono B3.out.size))
        clear z EE Z6
        go_wp2_with fail
        go_ret
        exact ⟨by first | rfl | simp, Z7.out⟩
      · obtain ⟨x, y, hxy, hyM, hmin, hmax⟩ : ∃ x y : Nat, x < y ∧ y < M ∧ (∀ w, (Builtin.min_ #[3, 3] 3 #[.int .i64 (i : Int), .int .i64 (k : Int)]).run Try.prog w = .ok (.int .i64 (x : Int)) w) ∧ (∀ w, (Builtin.max_ #[3, 3] 3 #[.int .i64 (i : Int), .int .i64 (k : Int)]).run Try.prog w = .ok (.int .i64 (y : Int)) w) := by
          refine ⟨min i k, max i k, by omega, by omega, fun w => ?_, fun w => ?_⟩
          · simp [Builtin.min_, Builtin.min2]
            repeat' split
            all_goals omega
          · simp [Builtin.max_, Builtin.max2]
            repeat' split
            all_goals omega
        have hib : ((i : Int) == (k : Int)) = false := by rw [beq_eq_false_iff_ne]; omega
        have hib2 : (i == k) = false := by rw [beq_eq_false_iff_ne]; exact hik
        have hiM2 : ¬ (i : Int) = (k : Int) := by omega
        obtain ⟨y1, hy1⟩ : ∃ y1, y1 = y - 1 := ⟨_, rfl⟩
        have hky := HMM.out
        have hyi : (y : Int) - 1 = (y1 : Int) := by omega
        have hyw : IntKind.i64.wrap (y1 : Int) = (y1 : Int) := by simp [IntKind.wrap, IntKind.signed, IntKind.bits]; omega
        have hyw2 : IntKind.i64.wrap ((y : Int) - 1) = (y1 : Int) := by rw [hyi]; exact hyw
        have CA : Hid (∀ W, Below w3.heap.size w3 W → Calls Try.prog 35 #[.pointer (some ⟨g, 0, none⟩), .int .i64 (y : Int)] W fun en w' => ∃ b' rt ln, Inv (woN l l y) b' ∧ RootOk rt (l.length - 2) ∧ 0 ≤ ln ∧ ln ≤ (0 : Int) + 2 ∧ (metB (woN l l y) : Int) + ln = metB l + 0 ∧ NewMap W (woN l l y) b' rt ln en w') := fun W m => cut_any g l b root y 0 W (HM.out.below m) HI.out HRT.out (by omega) (by omega) (by omega)
        have CB : Hid (∀ W, Below w3.heap.size w3 W → Calls Try.prog 35 #[.pointer (some ⟨g, 0, none⟩), .int .i64 (x : Int)] W fun en w' => ∃ b' rt ln, Inv (woN l l x) b' ∧ RootOk rt (l.length - 2) ∧ 0 ≤ ln ∧ ln ≤ (0 : Int) + 2 ∧ (metB (woN l l x) : Int) + ln = metB l + 0 ∧ NewMap W (woN l l x) b' rt ln en w') := fun W m => cut_any g l b root x 0 W (HM.out.below m) HI.out HRT.out (by omega) (by omega) (by omega)
        have LA := Lib.hid (woN_len l l y (by omega))
        have LB := Lib.hid (woN_len l l x (by omega))
        have LA2 := Lib.hid (woN_len (woN l l y) (woN l l y) x (by rw [LA.out]; omega))
        have EQL := Lib.hid (cut_swap HI.out hxy (show 2 * y + 2 ≤ l.length by omega))
        rw [← hy1] at EQL
        have VV : Hid (((sizes (phiL b)).length : Int) + 0 = ((sizes (phiB l b)).length : Int) + 0) := by
          show _ = _
          rw [sizes_is (phi_inv HI.out.symm (by rw [HLB.out]; exact HEV.out)), sizes_is HPI.out.symm, dm_verts HI.out HEV.out]
        have HXY : Hid (x < (l.length - 2) / 2 ∧ y1 < (l.length - 2) / 2) := by show _ ∧ _; omega
        have HWL : Hid ((woN (woN l l y) (woN l l y) x).length ≤ 100) := by show _ ≤ _; rw [LA2.out, LA.out]; omega
        clear hky hi1 hi2 hk1 hk2 hy1
        go_wp2_with fail
        refine (CA.out _ b5).mono ?_
        rintro e v2 ⟨ba, ra, na, hia, hra, hn0, hn2, hva, ga, rfl, hma, z, _⟩
        have Z2 := Lib.hid (b5.trans (z.mono b5.size))
        have C2 := Lib.hid (cut_any ga _ ba ra x na v2 hma hia (by rw [LA.out]; exact hra) (by rw [LA.out]; exact HXY.out.1) hn0 (by omega))
        have HVA := Lib.hid hva
        clear z hma hia hra hva b5 CA
        go_wp2_with fail
        refine C2.out.mono ?_
        rintro e v3 ⟨ba2, ra2, na2, hia, hra, hn0', hn2', hva, ga2, rfl, hma, z, _⟩
        have Z3 := Z2.out.trans (z.mono Z2.out.size)
        have HMA := Lib.hid hma
        have HVA2 := Lib.hid hva
        clear z hma hia hra hva Z2 C2
        go_wp2_with fail
        refine (CB.out _ Z3).mono ?_
        rintro e v4 ⟨bb, rb, nb, hia, hra, hn0b, hn2b, hva, gb, rfl, hma, z, _⟩
        have Z4 := Lib.hid (Z3.trans (z.mono Z3.size))
        have HMA4 := Lib.hid (HMA.out.below z)
        have C2 := Lib.hid (cut_any gb _ bb rb y1 nb v4 hma hia (by rw [LB.out]; exact hra) (by rw [LB.out]; exact HXY.out.2) hn0b (by omega))
        have HVB := Lib.hid hva
        clear z hma hia hra hva Z3 CB HMA
        go_wp2_with fail
        refine C2.out.mono ?_
        rintro e v5 ⟨bb2, rb2, nb2, hia, hra, hn0b', hn2b', hva, gb2, rfl, hma, z, _⟩
        have Z5 := Lib.hid (Z4.out.trans (z.mono Z4.out.size))
        have HMA5 := Lib.hid (HMA4.out.below z)
        rw [← EQL.out] at hma hva
        have HMB := Lib.hid hma
        have NN : Hid (na2 = nb2) := by have := HVA.out; have := HVA2.out; have := HVB.out; show _ = _; omega
        obtain rfl := NN.out
        clear z hma hia hra hva Z4 C2 HMA4 HVA HVA2 HVB hn0 hn2 hn0' hn2' hn0b hn2b hn0b' hn2b' NN LA LB LA2 EQL
        generalize woN (woN l l y) (woN l l y) x = WN at *
        have L1 := Lib.hid (mlist_p ga2 WN ba2 ra2 na2 v5 HMA5.out)
        go_wp2_with fail
        refine L1.out.mono ?_
        rintro e v6 ⟨A6, c6, rfl, hc6, hm6, own6, z⟩
        rw [ofN_len] at hc6 own6 ⊢
        have L2 := Lib.hid (mlist_p gb2 WN bb2 rb2 na2 v6 (HMB.out.below z))
        have HA6 := Lib.hid (HMA5.out.below z)
        have HB6 := Lib.hid (HMB.out.below z)
        have Z6 := Lib.hid (Z5.out.trans (z.mono Z5.out.size))
        have R6 := Lib.hid (Rd.ofOwn own6)
        clear z own6 L1 HMA5 HMB Z5
        go_wp2_with fail
        refine L2.out.mono ?_
        rintro e v7 ⟨A7, c7, rfl, hc7, hm7, own7, z⟩
        rw [ofN_len] at hc7 own7 ⊢
        have Z7 := Lib.hid (Z6.out.trans (z.mono Z6.out.size))
        have HA7 := Lib.hid (HA6.out.below z)
        have HB7 := Lib.hid (HB6.out.below z)
        have hw9 := HWL.out
        have EQ := Lib.hid (equalI_any A6 A7 WN.length c6 WN.length c7 _ _ (ofN WN) (ofN WN) v7 (R6.out.more z) (Rd.ofOwn own7) (by omega) (by omega))
        clear z own7 L2 R6 HA6 HB6 Z6 hw9
        go_wp2_with fail
        refine EQ.out.mono ?_
        rintro e v8 ⟨rfl, jj, rfl⟩
        have Z8 := below_draws Z7.out jj
        have zz := below_draws (Below.refl v7.heap.size v7) jj
        have LA := Lib.hid (lone_p ga2 WN ba2 ra2 na2 _ (HA7.out.below zz))
        have LB := Lib.hid (lone_p gb2 WN bb2 rb2 na2 _ (HB7.out.below zz))
        have hdt : decide (ofN WN = ofN WN) = true := by simp
        generalize v7.drewN jj = v8 at *
        clear EQ zz HA7 HB7 Z7
        go_wp2_with fail
        refine LA.out.mono ?_
        rintro e w' ⟨rfl, rfl⟩
        go_wp2_with fail
        refine LB.out.mono ?_
        rintro e w' ⟨rfl, rfl⟩
        clear LA LB
        go_wp2_with fail
        refine (MP.out _ Z8).mono ?_
        rintro e v9 ⟨go, rfl, hmo, z⟩
        have Z9 := Lib.hid (Z8.trans (z.mono Z8.size))
        have DD := Lib.hid (DMP.out go v9 hmo)
        clear z hmo Z8
        go_wp2_with fail
        refine DD.out.mono ?_
        rintro e v10 ⟨gn, rfl, hmn, z⟩
        have Z10 := Lib.hid (Z9.out.trans (z.mono Z9.out.size))
        have EE := Lib.hid (vertices_p gn _ _ root 0 v10 hmn)
        rw [VV.out] at EE
        clear z hmn DD Z9
        go_wp2_with fail
        refine EE.out.mono ?_
        rintro e v11 ⟨rfl, z⟩
        have Z11 := Z10.out.trans (z.mono Z10.out.size)
        clear z EE Z10
        go_wp2_with fail
        refine (DP.out _ Z11).mono ?_
        rintro e v12 ⟨gd, rfl, hmd, z⟩
        have Z12 := Lib.hid (Z11.trans (z.mono Z11.size))
        have DD := Lib.hid (MDP.out gd v12 hmd)
        clear z hmd Z11
        go_wp2_with fail
        refine DD.out.mono ?_
        rintro e v13 ⟨gm, rfl, hmm, z⟩
        have Z13 := Lib.hid (Z12.out.trans (z.mono Z12.out.size))
        have EE := Lib.hid (vertices_p gm _ _ root 0 v13 hmm)
        clear z hmm DD Z12
        go_wp2_with fail
        refine EE.out.mono ?_
        rintro e v14 ⟨rfl, z⟩
        have Z14 := Lib.hid (B3.out.trans ((Z13.out.trans (z.mono Z13.out.size)).mono B3.out.size))
        clear z EE Z13
        go_wp2_with fail
        go_ret
        exact ⟨by first | rfl | simp, Z14.out⟩
end Go.Proofs.Ythapkmlpbigjeaa
