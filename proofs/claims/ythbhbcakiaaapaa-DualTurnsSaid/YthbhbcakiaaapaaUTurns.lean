/- DualTurns: an edge made one in the map is cut in the dual. -/
import Derived.Test.YthbhbcakiaaapaaUCut
import Derived.Test.YthbhbcakiaaapaaUMade
import Derived.Test.YthbhbcakiaaapaaUNil
import Derived.Test.YthbhbcakiaaapaaELoops
import Derived.Test.YthbhbcakiaaapaaPRef
import Derived.Test.YthbhbcakiaaapaaEqualI
import Derived.Test.YthbhbcakiaaapaaDMakes
namespace Go.Proofs.Ythbhbcakiaaapaa
set_option maxRecDepth 20000
open Go.RowKit
set_option linter.unusedVariables false
theorem un_mate (e j : Nat) : unN e (mateN j) = mateN (unN e j) := by
  rw [mateN_eq, mateN_eq]; unfold unN
  repeat' split
  all_goals omega
/-- The dual of the map with the edge made one is the dual with the edge cut. -/
theorem dual_shrink {l b : List Nat} (h : Inv l b) (hev : l.length % 2 = 0) {e : Nat} (hE : 2 * e + 2 ≤ l.length) : phiL (woN l (phiL l) e) = woN (phiL l) (phiL l) e := by
  have hl := phiL_len l
  have l1 := woN_len l (phiL l) e hE
  have l2 := woN_len (phiL l) (phiL l) e (by omega)
  have l3 := phiL_len (woN l (phiL l) e)
  apply List.ext_getElem (by omega)
  intro j h1 h2
  have hj : j < l.length - 2 := by omega
  have hm : mateN j < l.length - 2 := mateN_lt (by omega) hj
  have hu : unN e j < l.length := by unfold unN; split <;> omega
  have e1 : (phiL (woN l (phiL l) e)).getD j 0 = calN e (outN (phiL l) e (l.getD (unN e (mateN j)) 0)) := by
    rw [phiL_get _ _ (by omega), woN_get l (phiL l) e (mateN j) hE hm]
  have e2 : (woN (phiL l) (phiL l) e).getD j 0 = calN e (outN (phiL l) e ((phiL l).getD (unN e j) 0)) := woN_get (phiL l) (phiL l) e j (by omega) (by omega)
  rw [phiL_get _ _ hu, ← un_mate] at e2
  have e3 := e1.trans e2.symm
  simpa [List.getD_eq_getElem?_getD, List.getElem?_eq_getElem h1, List.getElem?_eq_getElem h2] using e3
theorem loops_pos (l : List Nat) (e : Nat) (he : nameOf l (2 * e) = nameOf l (2 * e + 1)) : ∀ k, e < k → 0 < loopsN l k
  | 0, h => by omega
  | k + 1, h => by
    rcases Nat.lt_or_ge e k with c | c
    · have := loops_pos l e he k c
      have h2 := loopsN_next l k
      by_cases d : lowE l k = highE l k
      · rw [h2.1 d]; omega
      · rw [h2.2 d]; exact this
    · obtain rfl : e = k := by omega
      rw [(loopsN_next l e).1 (by unfold lowE highE; rw [he]; simp)]; omega
set_option maxHeartbeats 8000000 in
theorem dualTurns_walk (A0 : Option Addr) (n m c ee : Nat) (by_ : List Int) (w : World) (h0 : Rd w w.heap.size A0 m (Z8 by_)) (hb0 : ∀ x ∈ by_, 0 ≤ x ∧ x < 256) (hmc : m ≤ c) (hcm : c ≤ maxLen) (hn : n < 256) (hee : ee < 256) :
    Calls Try.prog 6 #[.int .u8 (n : Int), .slice A0 m c, .int .u8 (ee : Int)] w fun e w' => e = .returned (.bool true) ∧ Below w.heap.size w w' := by
  unfold maxLen at hcm
  have AW := Lib.hid (awake10_p w)
  have H0 := Lib.hid h0
  have HB0 := Lib.hid hb0
  clear h0 hb0
  go_enter Try.func6, Try.ntmps6
  go_wp2_with fail
  refine AW.out.mono ?_
  rintro e w1 ⟨rfl, b1⟩
  have MD := Lib.hid (made10_p n 0 0 m c _ A0 by_ w1 (H0.out.below b1) HB0.out b1.size hn (by omega) (by omega) (by omega))
  have B1 := Lib.hid b1
  clear b1 AW
  go_wp2_with fail
  refine MD.out.mono ?_
  rintro e w2 ⟨g, v, l, b, root, rfl, hmap, hrm, hl, hroot, b2⟩
  have e03 : ((0 % 3 : Nat) : Int) = 0 := rfl
  rw [e03] at hmap hrm
  obtain ⟨hinv, A, cA, hla, rfl, hlc, hcA, hrA⟩ := hrm
  have hbx := (Below.refl w2.heap.size w2).alloc (Nat.le_refl _) (.cells #[.slice A l.length cA, .int .i64 root, .int .i64 0] 27)
  have HX := Lib.hid (Blk.new w2 27 #[.slice A l.length cA, .int .i64 root, .int .i64 0])
  have HM := Lib.hid (hmap.below hbx)
  have HR := Lib.hid (hrA.more hbx)
  have HI := Lib.hid hinv
  have hl20 : l.length ≤ 22 := by have := Nat.mod_lt n (show 0 < 12 by decide); omega
  have HEV : Hid (l.length % 2 = 0) := by show _ = _; omega
  have B2 : Hid (Below w.heap.size w w2) := B1.out.trans (b2.mono B1.out.size)
  have B3 : Hid (Below w.heap.size w (w2.alloc (.cells #[.slice A l.length cA, .int .i64 root, .int .i64 0] 27))) := B2.out.trans (hbx.mono B2.out.size)
  have HRT : Hid (RootOk root l.length) := by rw [hl]; exact hroot
  clear hmap hbx hrA hinv b2 B1 MD hlc hcA hla hl hroot B2 e03
  go_upto_region 4 with fail
  generalize hw3 : w2.alloc (.cells #[.slice A l.length cA, .int .i64 root, .int .i64 0] 27) = w3 at *
  have hX3 : w2.heap.size < w3.heap.size := by rw [← hw3]; simp
  have x0' : w3.cell? ⟨w2.heap.size, 0, none⟩ = some (.slice A l.length cA) := HX.out.cell 0
  have XK : Hid (∀ W, Below w3.heap.size w3 W → W.cell? ⟨w2.heap.size, 0, none⟩ = some (.slice A l.length cA)) := fun W m => (m.cell (p := ⟨w2.heap.size, 0, none⟩) hX3).trans x0'
  clear hw3 x0' HX
  obtain ⟨M, hM⟩ : ∃ M, M = l.length / 2 := ⟨_, rfl⟩
  have EP : Hid (∀ W, Below w3.heap.size w3 W → Calls Try.prog 25 #[.pointer (some ⟨g, 0, none⟩)] W fun e w' => e = .returned (.int .i64 (M : Int)) ∧ Below W.heap.size W w') := fun W m => by rw [hM]; exact edges_p g l b root 0 W (HM.out.below m)
  have LO : Hid (∀ W, Below w3.heap.size w3 W → Calls Try.prog 40 #[.pointer (some ⟨g, 0, none⟩)] W fun e w' => e = .returned (.int .i64 (loopsN l M : Int)) ∧ Below W.heap.size W w') := fun W m => by rw [hM]; exact loops_p g l b root 0 W (HM.out.below m)
  have hlo := loopsN_le l M
  have HMM := Lib.hid hM
  have Z0 := Below.refl w3.heap.size w3
  by_cases hM2 : M < 2
  · have hMi : (M : Int) < 2 := by omega
    have hMd : decide ((M : Int) < 2) = true := by rw [decide_eq_true_iff]; exact hMi
    have hMe : decide (M < 2) = true := by rw [decide_eq_true_iff]; exact hM2
    generalize loopsN l M = Q at *
    have hq1 : (Q : Int) ≤ 1 := by omega
    have hq2 : decide ((Q : Int) ≤ 1) = true := by rw [decide_eq_true_iff]; exact hq1
    have hq3 : decide (Q ≤ 1) = true := by rw [decide_eq_true_iff]; omega
    clear hM
    go_wp2_with fail
    refine (EP.out _ Z0).mono ?_
    rintro e v1 ⟨rfl, z⟩
    have Z1 := Z0.trans (z.mono Z0.size)
    clear z
    go_wp2_with fail
    refine (LO.out _ Z1).mono ?_
    rintro e v2 ⟨rfl, z⟩
    have Z2 := Lib.hid (B3.out.trans ((Z1.trans (z.mono Z1.size)).mono B3.out.size))
    clear z Z0 Z1
    go_wp2_with fail
    go_ret
    exact ⟨by first | rfl | simp, Z2.out⟩
  · have hMi : ¬ (M : Int) < 2 := by omega
    have hMd : decide ((M : Int) < 2) = false := by rw [decide_eq_false_iff_not]; exact hMi
    have hMe : decide (M < 2) = false := by rw [decide_eq_false_iff_not]; exact hM2
    have hM0 : ¬ (M : Int) = 0 := by omega
    obtain ⟨k, hk⟩ : ∃ k, k = ee % M := ⟨_, rfl⟩
    have hkM : k < M := by rw [hk]; exact Nat.mod_lt _ (by omega)
    have hk1 : (ee : Int) % (M : Int) = (k : Int) := by rw [hk, Int.natCast_emod]
    have hk2 : (ee : Int).tmod (M : Int) = (k : Int) := by rw [Int.tmod_eq_emod_of_nonneg (by omega)]; exact hk1
    obtain ⟨a, ha⟩ : ∃ a, a = 2 * k := ⟨_, rfl⟩
    obtain ⟨a1, ha1⟩ : ∃ a1, a1 = 2 * k + 1 := ⟨_, rfl⟩
    have f1 : 2 * (k : Int) = (a : Int) := by omega
    have f2 : (a : Int) + 1 = (a1 : Int) := by omega
    have hal : a < l.length := by omega
    have ha1l : a1 < l.length := by omega
    have hai : (a : Int) < (l.length : Int) := by omega
    have ha1i : (a1 : Int) < (l.length : Int) := by omega
    have g1 : IntKind.i64.wrap (a : Int) = (a : Int) := by simp [IntKind.wrap, IntKind.signed, IntKind.bits]; omega
    have g2 : IntKind.i64.wrap (a1 : Int) = (a1 : Int) := by simp [IntKind.wrap, IntKind.signed, IntKind.bits]; omega
    have HNE := Lib.hid (show a = 2 * k ∧ a1 = 2 * k + 1 from ⟨ha, ha1⟩)
    have hKL : Hid (k < l.length / 2 ∧ 2 * k + 2 ≤ l.length) := by show _ ∧ _; omega
    obtain ⟨r, hr, hrl⟩ : ∃ r : Nat, root = (r : Int) ∧ r < l.length := by
      rcases HRT.out with ⟨q, _⟩ | ⟨_, q1, q2⟩
      · omega
      · exact ⟨root.toNat, by omega, by omega⟩
    subst hr
    have NV : Hid (∀ W, Below w3.heap.size w3 W → Calls Try.prog 38 #[.slice A l.length cA] W (NewI64 W (ofN (names l)))) := fun W m => rnames_p A cA _ l b W (HR.out.more m) HI.out (by omega)
    clear hM hk ha ha1
    go_wp2_with fail
    refine (EP.out _ Z0).mono ?_
    rintro e v1 ⟨rfl, z⟩
    have Z1 := Z0.trans (z.mono Z0.size)
    clear z
    go_wp2_with fail
    refine (EP.out _ Z1).mono ?_
    rintro e v2 ⟨rfl, z⟩
    have Z2 := Z1.trans (z.mono Z1.size)
    clear z
    have xx := XK.out _ Z2
    go_wp2_with fail
    refine (NV.out _ Z2).mono ?_
    rintro e v3 ⟨A3, c3, rfl, hc3, hm3, own3, z⟩
    have Z3 := Z2.trans (z.mono Z2.size)
    clear z xx
    rw [ofN_len, names_len] at own3 ⊢
    obtain ⟨bb, o, rfl, _, kk⟩ := (Rd.ofOwn own3).i64 (by omega)
    have y0 := kk a hal
    have y1 := kk a1 ha1l
    rw [ofN_get, names_get _ _ hal] at y0
    rw [ofN_get, names_get _ _ ha1l] at y1
    obtain ⟨N0, hN0⟩ : ∃ N0, N0 = nameOf l a := ⟨_, rfl⟩
    obtain ⟨N1, hN1⟩ : ∃ N1, N1 = nameOf l a1 := ⟨_, rfl⟩
    rw [← hN0] at y0
    rw [← hN1] at y1
    have HN := Lib.hid (And.intro hN0 hN1)
    clear own3 kk hN0 hN1 NV EP hc3 hm3
    by_cases cn : N0 = N1
    · have hpos : 0 < loopsN l M := loops_pos l k (by rw [← HNE.out.2, ← HNE.out.1, ← HN.out.1, ← HN.out.2]; exact cn) M hkM
      subst cn
      generalize loopsN l M = Q at *
      have hq1 : (0 : Int) < (Q : Int) := by omega
      have hq2 : decide ((0 : Int) < (Q : Int)) = true := by rw [decide_eq_true_iff]; exact hq1
      have hq3 : decide (0 < Q) = true := by rw [decide_eq_true_iff]; exact hpos
      go_wp2_with fail
      go_region
      all_goals (
        go_wp2_with fail
        refine (LO.out _ Z3.drew).mono ?_
        rintro e v4 ⟨rfl, z⟩
        have Z4 := Lib.hid (B3.out.trans ((Z3.drew.trans (z.mono Z3.drew.size)).mono B3.out.size))
        clear z
        go_wp2_with fail
        go_ret
        exact ⟨by first | rfl | simp, Z4.out⟩)
    · have c1 : ((N0 : Int) == (N1 : Int)) = false := by rw [beq_eq_false_iff_ne]; omega
      have c2 : (N0 == N1) = false := by rw [beq_eq_false_iff_ne]; exact cn
      have hne : nameOf l (2 * k) ≠ nameOf l (2 * k + 1) := by rw [← HNE.out.2, ← HNE.out.1, ← HN.out.1, ← HN.out.2]; exact cn
      obtain ⟨X, hX⟩ : ∃ X : Int, X = (0 : Int) + if degOf l 0 (nameOf l (2 * k) : Nat) + degOf l 0 (nameOf l (2 * k + 1) : Nat) = 2 then 1 else 0 := ⟨_, rfl⟩
      have SP : Hid (∀ W, Below w3.heap.size w3 W → Calls Try.prog 36 #[.pointer (some ⟨g, 0, none⟩), .int .i64 (k : Int)] W fun en w' => ∃ b', Inv (woN l (phiL l) k) b' ∧ NewMap W (woN l (phiL l) k) b' (heirN l b r k) X en w') := fun W m => by
        have := shrink_p g l b r k 0 W (HM.out.below m) HI.out hrl hKL.out.1 (by omega) (by omega) hne
        rw [← hX] at this; exact this
      have DP : Hid (∀ W, Below w3.heap.size w3 W → Calls Try.prog 11 #[.pointer (some ⟨g, 0, none⟩)] W fun e w' => ∃ g', e = .returned (.pointer (some ⟨g', 0, none⟩)) ∧ MapAt w' g' (phiL l) (phiB l b) (r : Int) 0 ∧ Below W.heap.size W w') := fun W m => dual_p g l b r 0 W (HM.out.below m) HI.out HRT.out
      have CP : Hid (∀ gd W, MapAt W gd (phiL l) (phiB l b) (r : Int) 0 → Calls Try.prog 35 #[.pointer (some ⟨gd, 0, none⟩), .int .i64 (k : Int)] W fun en w' => ∃ b' rt ln, NewMap W (woN (phiL l) (phiL l) k) b' rt ln en w') := fun gd W hm =>
        (cut_p gd (phiL l) (phiB l b) r k 0 W hm (phi_inv HI.out HEV.out) (by rw [phiL_len]; exact hrl) (by rw [phiL_len]; exact hKL.out.1) (by omega) (by omega)).mono fun en w' ⟨b', _, h2⟩ => ⟨b', _, _, h2⟩
      have EQL := Lib.hid (dual_shrink HI.out HEV.out hKL.out.2)
      have hwl := woN_len l (phiL l) k hKL.out.2
      have HWR : Hid (RootOk (heirN l b r k) (woN l (phiL l) k).length) := by show RootOk _ _; rw [hwl]; exact heir_ok HI.out HEV.out hrl hKL.out.2
      have hzl : (woN (phiL l) (phiL l) k).length ≤ 100 := by rw [woN_len _ _ _ (by rw [phiL_len]; exact hKL.out.2), phiL_len]; omega
      clear hX hne HM HR HI HRT XK LO hwl
      generalize woN (phiL l) (phiL l) k = WD at *
      generalize woN l (phiL l) k = WN at *
      generalize heirN l b r k = HR at *
      go_wp2_with fail
      go_region
      all_goals (
        go_wp2_with fail
        refine (SP.out _ Z3.drew).mono ?_
        rintro e v4 ⟨b', hinv', gs, rfl, hms, z, _⟩
        have HMS := Lib.hid hms
        have HIV := Lib.hid hinv'
        have Z4 := Z3.drew.trans (z.mono Z3.drew.size)
        clear z hms hinv'
        go_wp2_with fail
        refine (DP.out _ Z4).mono ?_
        rintro e v5 ⟨gd, rfl, hmd, z⟩
        have HMS5 := Lib.hid (HMS.out.below z)
        have CPD := Lib.hid (CP.out gd v5 hmd)
        have Z5 := Z4.trans (z.mono Z4.size)
        clear z hmd HMS Z4
        go_wp2_with fail
        refine CPD.out.mono ?_
        rintro e v6 ⟨bc, rt, ln, gc, rfl, hmc6, z, _⟩
        have HMC := Lib.hid hmc6
        have HMS6 := Lib.hid (HMS5.out.below z)
        have Z6 := Lib.hid (Z5.trans (z.mono Z5.size))
        clear z hmc6 HMS5 CPD Z5
        have DS := Lib.hid (dual_p gs WN b' HR X v6 HMS6.out HIV.out HWR.out)
        go_wp2_with fail
        refine DS.out.mono ?_
        rintro e v7 ⟨gt, rfl, hmt, z⟩
        rw [EQL.out] at hmt
        have HMC7 := Lib.hid (HMC.out.below z)
        have Z7 := Lib.hid (Z6.out.trans (z.mono Z6.out.size))
        have L1 := Lib.hid (mlist_p gt WD _ HR X v7 hmt)
        clear z hmt HMC DS
        go_wp2_with fail
        refine L1.out.mono ?_
        rintro e v8 ⟨A8, c8, rfl, hc8, hm8, own8, z⟩
        rw [ofN_len] at hc8 own8 ⊢
        have L2 := Lib.hid (mlist_p gc WD bc rt ln v8 (HMC7.out.below z))
        have Z8 := Lib.hid (Z7.out.trans (z.mono Z7.out.size))
        have R8 := Lib.hid (Rd.ofOwn own8)
        clear z own8 L1 HMC7
        go_wp2_with fail
        refine L2.out.mono ?_
        rintro e v9 ⟨A9, c9, rfl, hc9, hm9, own9, z⟩
        rw [ofN_len] at hc9 own9 ⊢
        have Z9 := Lib.hid (Z8.out.trans (z.mono Z8.out.size))
        have EQ := Lib.hid (equalI_any A8 A9 WD.length c8 WD.length c9 _ _ (ofN WD) (ofN WD) v9 (R8.out.more z) (Rd.ofOwn own9) (by omega) (by omega))
        clear z own9 L2 R8
        go_wp2_with fail
        refine EQ.out.mono ?_
        rintro e v10 ⟨rfl, jj, rfl⟩
        have Z10 := Lib.hid (below_draws Z9.out jj)
        clear EQ
        go_wp2_with fail
        go_ret
        exact ⟨rfl, B3.out.trans (Z10.out.mono B3.out.size)⟩)
end Go.Proofs.Ythbhbcakiaaapaa
