/- WalkPlane: the walk of a planar part is a word both of whose sorts are balanced, each edge a pair; of one that isn't, it isn't so. -/
import Derived.Test.YthkocodajjapmaaZg6
import Derived.Test.YthkocodajjapmaaZWPlaneM
import Derived.Test.YthkocodajjapmaaZMRefM
namespace Go.Proofs.Ythkocodajjapmaa
set_option maxRecDepth 20000
open Go.RowKit
set_option linter.unusedVariables false
theorem mateAt_uniq {ks : List Nat} {i p p' : Nat} (h : MateAt ks i p) (k : MateAt ks i p') : p = p' := by
  obtain ⟨h1, h2, h3⟩ := h
  obtain ⟨k1, k2, k3⟩ := k
  have := h3.uniq (exc_Exc _) k3
  exact ah_uniq (ks.getD i 0 / 2) ks p p' h1 k1 h2 k2 (by omega)
set_option maxRecDepth 100000 in
set_option maxHeartbeats 16000000 in
theorem walkPlane_walk (A0 : Option Addr) (n m c rr : Nat) (by_ : List Int) (w : World) (h0 : Rd w w.heap.size A0 m (Z8 by_)) (hb0 : ∀ x ∈ by_, 0 ≤ x ∧ x < 256) (hmc : m ≤ c) (hcm : c ≤ maxLen) (hn : n < 256) (hrr : rr < 256) :
    Calls Try.prog 5 #[.int .u8 (n : Int), .slice A0 m c, .int .u8 (rr : Int)] w fun e w' => e = .returned (.bool true) ∧ Below w.heap.size w w' := by
  unfold maxLen at hcm
  have AW := Lib.hid (awake9_p w)
  have H0 := Lib.hid h0
  have HB0 := Lib.hid hb0
  clear h0 hb0
  go_enter Try.func5, Try.ntmps5
  go_wp2_with fail
  refine AW.out.mono ?_
  rintro e w1 ⟨rfl, b1⟩
  have MD := Lib.hid (made9_p n m c _ A0 by_ w1 (H0.out.below b1) HB0.out b1.size hn (by omega))
  have B1 := Lib.hid b1
  clear b1 AW
  go_wp2_with fail
  refine MD.out.mono ?_
  rintro e w2 ⟨g, v, l, b, root, rfl, hmap, hrm, hl, hroot, b2⟩
  have e03 : ((0 : Nat) : Int) = 0 := rfl
  rw [e03] at hmap hrm
  obtain ⟨hinv, A, cA, hla, rfl, hlc, hcA, hrA⟩ := hrm
  have hbx := (Below.refl w2.heap.size w2).alloc (Nat.le_refl _) (.cells #[.slice A l.length cA, .int .i64 root, .int .i64 0] 27)
  have HX := Lib.hid (Blk.new w2 27 #[.slice A l.length cA, .int .i64 root, .int .i64 0])
  have HM := Lib.hid (hmap.below hbx)
  have HR := Lib.hid (hrA.more hbx)
  have HI := Lib.hid hinv
  have hl20 : l.length ≤ 26 := by have := Nat.mod_lt n (show 0 < 14 by decide); omega
  have HEV : Hid (l.length % 2 = 0) := by show _ = _; omega
  have B2 : Hid (Below w.heap.size w w2) := B1.out.trans (b2.mono B1.out.size)
  have B3 : Hid (Below w.heap.size w (w2.alloc (.cells #[.slice A l.length cA, .int .i64 root, .int .i64 0] 27))) := B2.out.trans (hbx.mono B2.out.size)
  clear hmap hbx hrA hinv b2 B1 MD hlc hcA hla hl hroot B2 e03
  go_upto_region 4 with fail
  generalize hw3 : w2.alloc (.cells #[.slice A l.length cA, .int .i64 root, .int .i64 0] 27) = w3 at *
  have hX3 : w2.heap.size < w3.heap.size := by rw [← hw3]; simp
  have XB : Hid (∀ W, Below w3.heap.size w3 W → Blk W w2.heap.size 27 #[.slice A l.length cA, .int .i64 root, .int .i64 0]) := fun W z => HX.out.below z
  clear hw3 HX
  obtain ⟨D, hD⟩ : ∃ D, D = l.length := ⟨_, rfl⟩
  have DP : Hid (∀ W, Below w3.heap.size w3 W → Calls Try.prog 17 #[.pointer (some ⟨g, 0, none⟩)] W fun e w' => e = .returned (.int .i64 (D : Int)) ∧ Below W.heap.size W w') := fun W m => by rw [hD]; exact darts_p g l b root 0 W (HM.out.below m)
  have Z0 := Below.refl w3.heap.size w3
  by_cases hD0 : D = 0
  · subst hD0
    have hl0 : l.length = 0 := hD.symm
    clear hD
    go_wp2_with fail
    refine (DP.out _ Z0).mono ?_
    rintro e v1 ⟨rfl, z⟩
    have Z1 := Z0.trans (z.mono Z0.size)
    have x0 : v1.cell? ⟨w2.heap.size, 0, none⟩ = some (.slice A l.length cA) := by have := (XB.out _ Z1).cell 0; simpa using this
    have B4 := Lib.hid (B3.out.trans (Z1.mono B3.out.size))
    have PL := Lib.hid (planar_p g l b root 0 v1 (HM.out.below Z1))
    have hg0 : genusN l = 0 := by
      have : pN l = 0 := by have := pN_le l; omega
      unfold genusN
      rw [this]; rfl
    rw [hg0] at PL
    clear z Z0 Z1
    go_wp2_with fail
    refine PL.out.mono ?_
    rintro e v2 ⟨rfl, z⟩
    go_wp2_with fail
    go_ret
    exact ⟨by first | rfl | simp, B4.out.trans (z.mono B4.out.size)⟩
  · have hD0i : ¬ (D : Int) = 0 := by omega
    have hDb : ((D : Int) == 0) = false := by rw [beq_eq_false_iff_ne]; exact hD0i
    have hDp : 0 < D := by omega
    obtain ⟨r, hr⟩ : ∃ r, r = rr % D := ⟨_, rfl⟩
    have hrl : r < D := by rw [hr]; exact Nat.mod_lt _ hDp
    have hr1 : (rr : Int) % (D : Int) = (r : Int) := by rw [hr, Int.natCast_emod]
    have hr2 : (rr : Int).tmod (D : Int) = (r : Int) := by rw [Int.tmod_eq_emod_of_nonneg (by omega)]; exact hr1
    obtain ⟨M, hMM⟩ : ∃ M, M = l.length / 2 := ⟨_, rfl⟩
    obtain ⟨V, hVV⟩ : ∃ V : Nat, (V : Int) = ((sizes l).length : Int) + 0 := ⟨(sizes l).length, by omega⟩
    have hvl := nm_lt HI.out (V := V) (by omega)
    have OP : Hid (∀ (q : Nat) W, q < D → Below w3.heap.size w3 W → Calls Try.prog 10 #[.pointer (some ⟨g, 0, none⟩), .int .i64 (q : Int)] W (WalkPost W (wN (sgL l) (nameOf l) M V q) (wst (sgL l) (nameOf l) M V q (wN (sgL l) (nameOf l) M V q)))) := fun q W hq z => walkOf_p g l b root 0 q M V W (HM.out.below z) HI.out (by omega) hMM hVV
    have RP : Hid (∀ W, Below w3.heap.size w3 W → Calls Try.prog 20 #[.agg #[.slice A l.length cA, .int .i64 root, .int .i64 0]] W (NewQt W (pN l) (partsC l (pN l)))) := fun W z => by
      have := reparts_p A cA l b root 0 W (HR.out.more z) HI.out HEV.out (by omega) (by omega)
      exact this
    have NP : Hid (∀ W, Below w3.heap.size w3 W → Calls Try.prog 13 #[.agg #[.slice A l.length cA, .int .i64 root, .int .i64 0]] W (NewI64 W (ofN (enames l)))) := fun W z => renames_p A cA l b root 0 W (HR.out.more z) HI.out HEV.out (by omega)
    have HPD := Lib.hid (fun x hx => pq_part HI.out HEV.out (r := r) (x := x) (by omega) hx)
    have HC := Lib.hid (fun q hq => walk_counts HI.out HEV.out hvl (r := q) hq)
    have HWP : Hid (∀ x, x < l.length → (part l r x ↔ ∃ j, j < wN (sgL l) (nameOf l) M V r ∧ (wrun (sgL l) (nameOf l) M V r j).d = x)) := fun x hx => by
      rw [hMM]; exact wpart (sgL_pf HI.out) (by have := HEV.out; omega) (nm_ok HI.out) hvl (by omega) hx
    have HLT : Hid (∀ j : Nat, (wrun (sgL l) (nameOf l) M V r j).d < l.length) := fun j => by
      rw [hMM]; exact (wok (sgL_pf HI.out) (by have := HEV.out; omega) (nm_ok HI.out) hvl (by omega) j).lt
    have HN1 : Hid (1 ≤ wN (sgL l) (nameOf l) M V r ∧ wN (sgL l) (nameOf l) M V r ≤ l.length) := by
      rw [hMM]
      obtain ⟨a1, a2, _⟩ := wN_is (m := l.length / 2) (sgL_pf HI.out) (by have := HEV.out; omega) (nm_ok HI.out) hvl (r := r) (by omega)
      exact ⟨a1, a2⟩
    -- the part
    obtain ⟨q, hq⟩ : ∃ q, q = pq l r := ⟨_, rfl⟩
    have hqN : q < pN l := by rw [hq]; exact pq_lt HI.out HEV.out (i := r) (d := l.length) (by omega) (by omega)
    have hpq : Hid ((enames l).getD r 0 = q) := by show _ = _; rw [hq]; unfold enames prts; rw [map_rangeN _ _ _ (show r < l.length by omega)]; rfl
    obtain ⟨G, hG1, hG2⟩ := pG_is HI.out HEV.out (phi_inv HI.out HEV.out) hqN
    have hpl := pN_le l
    have c0 : pcL l (5 * q) = (rt (part l) q : Int) := by unfold pcL; rw [if_pos (by omega), pc_0]
    have c1 : pcL l (5 * q + 1) = (pV l q l.length : Int) := by unfold pcL; rw [if_pos (by omega), pc_1]
    have c2 : pcL l (5 * q + 2) = (pE l q l.length : Int) := by unfold pcL; rw [if_pos (by omega), pc_2]
    have c3 : pcL l (5 * q + 3) = (pB l q l.length : Int) := by unfold pcL; rw [if_pos (by omega), pc_3]
    have c4 : pcL l (5 * q + 4) = (G : Int) := by unfold pcL; rw [if_pos (by omega), pc_4, if_pos hqN, hG1]
    have HQ := Lib.hid (And.intro hq (And.intro c0 (And.intro c1 (And.intro c2 (And.intro c3 c4)))))
    have hNp : pN l ≤ 26 := by omega
    have hVl := pV_le l q l.length
    have hEl := pE_le l q l.length
    have hBl := pB_le l q l.length
    have hG13 : G ≤ 14 := by omega
    obtain ⟨E, hE⟩ : ∃ E, E = pE l q l.length := ⟨_, rfl⟩
    obtain ⟨VV, hVV2⟩ : ∃ VV, VV = pV l q l.length := ⟨_, rfl⟩
    obtain ⟨BB, hBB⟩ : ∃ BB, BB = pB l q l.length := ⟨_, rfl⟩
    obtain ⟨N, hN⟩ : ∃ N, N = wN (sgL l) (nameOf l) M V r := ⟨_, rfl⟩
    have hc := HC.out r (by omega)
    rw [← hq, ← hMM, ← hN, ← hE, ← hVV2] at hc
    have HC1 := Lib.hid hc
    have hN26 : 1 ≤ N ∧ N ≤ 26 := by have := HN1.out; rw [← hN] at this; omega
    have OF1 : Hid (∀ W, Below w3.heap.size w3 W → Calls Try.prog 10 #[.pointer (some ⟨g, 0, none⟩), .int .i64 (r : Int)] W (WalkPost W N (wst (sgL l) (nameOf l) M V r N))) := fun W z => by rw [hN]; exact OP.out r W hrl z
    rw [← hE, ← hVV2, ← hBB] at hG2
    rw [← hE] at hEl c2
    rw [← hVV2] at hVl c1
    rw [← hBB] at hBl c3
    have hrll : r < l.length := by omega
    have HDL := Lib.hid hD
    have HN := Lib.hid hN
    have HMM := Lib.hid hMM
    have HVL := Lib.hid hvl
    have HVV := Lib.hid hVV
    have HE := Lib.hid hE
    have HVV2 := Lib.hid hVV2
    have HBB := Lib.hid hBB
    clear hq hc hD hMM hVV hvl hN hE hVV2 hBB hr hG1
    have HPLN : Hid (NX (wkn (sgL l) (nameOf l) M V r N) (wtw l V r) 0 ∧ (NX (wkn (sgL l) (nameOf l) M V r N) (wtw l V r) 1 ↔ G = 0)) := by
      have h1 := wplane HI.out HEV.out (phi_inv HI.out HEV.out) HVL.out hrll (G := G) (by rw [← HQ.out.1, ← HE.out, ← HVV2.out, ← HBB.out]; exact hG2)
      rw [← HMM.out, ← HN.out] at h1
      exact h1
    have HPRG : Hid (Prg (wkn (sgL l) (nameOf l) M V r N) (wtw l V r)) := by
      have h1 := wprg HI.out HEV.out HVL.out hrll
      rw [← HMM.out, ← HN.out] at h1
      exact h1
    have HCYC : Hid (∀ j, j < N → (wtw l V r j) < N ∧ (wrun (sgL l) (nameOf l) M V r (wtw l V r j)).d = mt (wrun (sgL l) (nameOf l) M V r j).d) := by
      have h1 := wcyc HI.out HEV.out HVL.out hrll
      rw [← HMM.out, ← HN.out] at h1
      exact fun j hj => ⟨h1.tlt j hj, h1.tw_ j hj⟩
    have HINJ : Hid (∀ i j, i < N → j < N → (wrun (sgL l) (nameOf l) M V r i).d = (wrun (sgL l) (nameOf l) M V r j).d → i = j) := by
      have h1 := wcyc HI.out HEV.out HVL.out hrll
      rw [← HMM.out, ← HN.out] at h1
      exact h1.inj
    -- to the walk
    go_wp2_with fail
    refine (DP.out _ Z0).mono ?_
    rintro e v1 ⟨rfl, z⟩
    have Z1 := Z0.trans (z.mono Z0.size)
    clear z Z0
    go_wp2_with fail
    refine (DP.out _ Z1).mono ?_
    rintro e v2 ⟨rfl, z⟩
    have Z2 := Lib.hid (Z1.trans (z.mono Z1.size))
    clear z Z1
    have OF2 := Lib.hid (OF1.out _ Z2.out)
    go_wp2_with fail
    refine OF2.out.mono ?_
    rintro e va ⟨AL, cL, rfl, ownL, z⟩
    have RL := Lib.hid (RdS.own ownL)
    have Z9 := Lib.hid (Z2.out.trans (z.mono Z2.out.size))
    clear z Z2 OF2 ownL
    clear OF1 OP
    obtain ⟨sg, hsg⟩ : ∃ sg, sg = sgL l := ⟨_, rfl⟩
    obtain ⟨nm, hnm⟩ : ∃ nm, nm = nameOf l := ⟨_, rfl⟩
    obtain ⟨tw, htw⟩ : ∃ tw, tw = wtw l V r := ⟨_, rfl⟩
    rw [← hsg, ← hnm] at RL HLT
    rw [← hsg, ← hnm, ← htw] at HPLN HPRG HCYC
    rw [← hsg, ← hnm] at HINJ
    have HS := Lib.hid (And.intro hsg (And.intro hnm htw))
    clear hsg hnm htw
    obtain ⟨i0, hi0, hz0, hz1, hz2⟩ := info_parts info_int
    have MTP : Hid (∀ (d : Nat) W, d < l.length → Below w3.heap.size w3 W → Calls Try.prog 23 #[.pointer (some ⟨g, 0, none⟩), .int .i64 (d : Int)] W fun e w' => e = .returned (.int .i64 ((mt d : Nat) : Int)) ∧ Below W.heap.size W w') := fun d W hd z => by
      rw [← mt_mateN]; exact mate_in g l b root 0 d W (HM.out.below z) hd
    go_wp2_with fail
    go_loopw [12, 45] (fun v i wr => ∃ (k cw1 : Nat) (A1 : Option Addr), k ≤ N ∧ i = .int .i64 (k : Int) ∧ v = .slice A1 k cw1 ∧ Hid (wr.ownsRow va.heap.size 3 1 (.slice A1 k cw1) k (I64 (ofNB (wkn sg nm M V r k)))) ∧ Hid (Below va.heap.size va wr)) (fun _ i _ => N - (intOf i).toNat)
    case atStart => exact ⟨0, 0, none, by omega, rfl, rfl, World.ownsRow_nil _ _ _ _, Below.refl _ _⟩
    case round =>
      obtain ⟨k, cw1, A1, hk, rfl, rfl, HO, HB⟩ := hrel
      by_cases hlt : k < N
      · obtain ⟨bb, rfl, hbB, kk⟩ := (RL.out.below HB.out).2 (by omega)
        have x0 := kk (2 * k) (by omega)
        have x1 := kk (2 * k + 1) (by omega)
        rw [wst_d sg nm M V r hlt] at x0
        rw [wst_k sg nm M V r hlt] at x1
        rw [show 2 * k = k * 2 by omega] at x0 x1
        have NX : Hid (wkn sg nm M V r (k + 1) = wkn sg nm M V r k ++ [(wrun sg nm M V r k).k nm]) := rfl
        obtain ⟨kd, hkd⟩ : ∃ kd, kd = (wrun sg nm M V r k).k nm := ⟨_, rfl⟩
        obtain ⟨dd, hdd⟩ : ∃ dd, dd = (wrun sg nm M V r k).d := ⟨_, rfl⟩
        rw [← hkd] at x1 NX
        rw [← hdd] at x0
        obtain ⟨wq, hwq⟩ : ∃ wq, wq = wr.alloc (.cells #[.int .i64 (dd : Int), .int .i64 (kd : Int)] 40) := ⟨_, rfl⟩
        have HBq := HB.out.alloc HB.out.size (.cells #[.int .i64 (dd : Int), .int .i64 (kd : Int)] 40)
        have HOq := own_below HO.out ((Below.refl wr.heap.size wr).alloc (Nat.le_refl _) (.cells #[.int .i64 (dd : Int), .int .i64 (kd : Int)] 40))
        have hsq : (wr.alloc (.cells #[.int .i64 (dd : Int), .int .i64 (kd : Int)] 40)).heap.size = wr.heap.size + 1 := by simp
        rw [← hwq] at HBq HOq hsq
        have bA := (Below.refl wq.heap.size wq).alloc (Nat.le_refl _) (.cells #[.int .i64 (kd : Int)] 3)
        have ownA := own_below HOq bA
        have rA := Rd.new wq 3 #[.int .i64 (kd : Int)] 1 (I64 [(kd : Int)]) (by simp [I64]) (by simp)
        have e1 : k + 1 ≤ maxLen := by simp only [maxLen]; omega
        have e2 : (k + 1) * 8 ≤ 140737488355328 := by omega
        have e3 : va.heap.size ≤ (wq.alloc (.cells #[.int .i64 (kd : Int)] 3)).heap.size := by have := HBq.size; simp; omega
        rw [hsq] at rA
        have HWQ := Lib.hid hwq
        have HBQ := Lib.hid HBq
        subst hwq
        clear kk hkd hdd HB HBq HOq hsq HO
        go_wp2_with (first
          | (at_builtin; go_must (refine wpList_append_rd _ rfl _ _ 25 rfl va.heap.size 3 i0 (.int .i64 0) 8 Try.underlying25 hi0 hz0 hz1 hz2 rfl (.slice A1 k cw1) k (I64 (ofNB (wkn sg nm M V r k))) rfl ownA (wr.heap.size + 1 + 1) (some ⟨wr.heap.size + 1, 0, none⟩) 1 1 (I64 [(kd : Int)]) rfl rA (I64_one _) e1 e2 e3 ?_)))
        intro A7 c7 w7 hc7 hm7 hown7 hg7 _
        have O7 : Hid (w7.ownsRow va.heap.size 3 1 (.slice A7 (k + 1) c7) (k + 1) (I64 (ofNB (wkn sg nm M V r (k + 1))))) := by
          have := hown7
          rw [← I64_append] at this
          rw [NX.out, ofN_appendB]
          exact this
        have B7 : Hid (Below va.heap.size va w7) := (HBQ.out.trans (bA.mono HBQ.out.size)).trans (Below.appended ownA hg7 e3)
        clear bA ownA rA e1 e2 e3 hown7 hg7 HBQ HWQ
        go_wp2_with fail
        go_roundw
        case rel => exact ⟨k + 1, c7, A7, by omega, by go_num, rfl, O7, B7⟩
        case measure => simp [intOf]; omega
      · obtain rfl : k = N := by omega
        obtain ⟨KS, hKS⟩ : ∃ KS, KS = wkn sg nm M V r k := ⟨_, rfl⟩
        rw [← hKS] at HO HPLN HPRG
        have hKL : KS.length = k := by rw [hKS]; exact wkn_length sg nm M V r k
        have HKL := Lib.hid hKL
        have HKS := Lib.hid hKS
        clear hKS hKL
        have GD := Lib.hid (good4_p A1 k cw1 KS wr (Rd.ofOwn HO.out) HPRG.out.kd (by omega))
        have RK := Lib.hid (Rd.ofOwn HO.out)
        have RLw := Lib.hid (RL.out.below HB.out)
        have Zw := Lib.hid (Z9.out.trans (HB.out.mono Z9.out.size))
        clear HO RL
        go_wp2_with fail
        refine GD.out.mono ?_
        rintro e w5 ⟨b5, rg, rfl, hrg⟩
        obtain rfl : rg = true := hrg.2 ⟨prg_bal HPRG.out, prg_bal HPRG.out⟩
        have MM := Lib.hid (mates4_p A1 k cw1 KS w5 ((RK.out.below b5).up b5.size) HPRG.out.kd (by omega) (prg_bal HPRG.out) (prg_bal HPRG.out))
        have hsz5 := HB.out.size
        have hv5 := Nat.le_trans hsz5 b5.size
        have RL5 := Lib.hid (RLw.out.below (b5.mono hsz5))
        have Z5 := Lib.hid (Zw.out.trans (b5.mono Zw.out.size))
        clear hrg b5 GD RK RLw Zw hsz5
        go_wp2_with fail
        refine MM.out.mono ?_
        rintro e w6 ⟨Y, cy, y, rfl, oy, hy, b6⟩
        have HY := Lib.hid hy
        have RY := Lib.hid (Rd.ofOwn oy)
        have RL6 := Lib.hid (RL5.out.below (b6.mono hv5))
        have hv6 := Nat.le_trans hv5 b6.size
        have Z6 := Lib.hid (Z5.out.trans (b6.mono Z5.out.size))
        clear hy oy b6 MM RL5 Z5 HB hv5
        go_wp2_with fail
        go_loopw [15, 61] (fun p i wr => ∃ (j : Nat) (pb : Bool), j ≤ k ∧ i = .int .i64 (j : Int) ∧ p = .bool pb ∧ Hid (pb = true ↔ ∀ t, t < j → MateAt KS t (tw t)) ∧ Hid (Below w6.heap.size w6 wr)) (fun _ i _ => k - (intOf i).toNat)
        case atStart => exact ⟨0, true, by omega, rfl, rfl, ⟨fun _ t ht => absurd ht (by omega), fun _ => rfl⟩, Below.refl _ _⟩
        case round =>
          obtain ⟨j, pb, hj, rfl, rfl, HQ2, HB⟩ := hrel
          by_cases hlt : j < k
          · obtain ⟨yb, yo, rfl, _, ky⟩ := (RY.out.below HB.out).i64 (by omega)
            have y1 := ky j hlt
            obtain ⟨u, hu, hmu⟩ := HY.out j hlt
            rw [hu] at y1
            have huk : u < k := by have := hmu.1; rw [HKL.out] at this; exact this
            have CC : Hid (∃ bb, AL = some ⟨bb, 0, none⟩ ∧ ∀ W, Below w6.heap.size w6 W → W.cell? ⟨bb, j * 2, none⟩ = some (.int .i64 ((wrun sg nm M V r j).d : Int)) ∧ W.cell? ⟨bb, u * 2, none⟩ = some (.int .i64 ((wrun sg nm M V r u).d : Int))) := by
              obtain ⟨bb, e, hbB, kk⟩ := RL6.out.2 (by omega)
              refine ⟨bb, e, fun W z => ?_⟩
              obtain ⟨bb', e', _, kk'⟩ := (RL6.out.below (z.mono hv6)).2 (by omega)
              rw [e] at e'
              cases e'
              have cw1 := kk' (2 * j) (by omega)
              have cw2 := kk' (2 * u) (by omega)
              rw [wst_d sg nm M V r hlt] at cw1
              rw [wst_d sg nm M V r huk] at cw2
              rw [show j * 2 = 2 * j by omega, show u * 2 = 2 * u by omega]
              exact ⟨cw1, cw2⟩
            obtain ⟨bb, rfl, CD⟩ := CC.out
            have CD2 := Lib.hid CD
            obtain ⟨x0, x1⟩ := CD wr HB.out
            have hdl := HLT.out j
            have MT1 := Lib.hid (MTP.out (wrun sg nm M V r j).d wr.drew hdl (Z6.out.trans (HB.out.drew.mono Z6.out.size)))
            -- what is told by the comparison
            have KEY : Hid ((wrun sg nm M V r u).d = mt (wrun sg nm M V r j).d ↔ MateAt KS j (tw j)) := by
              obtain ⟨t1, t2⟩ := HCYC.out j hlt
              constructor
              · intro e
                have := HINJ.out u (tw j) huk t1 (by rw [e, t2])
                rw [← this]; exact hmu
              · intro e
                have := mateAt_uniq hmu e
                rw [this]; exact t2
            obtain ⟨dj, hdj⟩ : ∃ dj, dj = (wrun sg nm M V r j).d := ⟨_, rfl⟩
            obtain ⟨du, hdu⟩ : ∃ du, du = (wrun sg nm M V r u).d := ⟨_, rfl⟩
            rw [← hdj] at x0 MT1 KEY CD2
            rw [← hdu] at x1 KEY CD2
            obtain ⟨md, hmd⟩ : ∃ md, md = mt dj := ⟨_, rfl⟩
            rw [← hmd] at MT1 KEY
            clear ky hu hmu CC CD hdl hdj hdu hmd
            cases pb with
            | false =>
              have HN2 : Hid (false = true ↔ ∀ t, t < j + 1 → MateAt KS t (tw t)) := ⟨fun h => (by cases h), fun h => HQ2.out.2 fun t ht => h t (by omega)⟩
              go_wp2_with fail
              go_quiet (fail)
              go_wp2_with fail
              go_roundw
              case rel => exact ⟨j + 1, false, by omega, by go_num, rfl, HN2, below_draws HB.out _⟩
              case measure => simp [intOf]; omega
            | true =>
              obtain ⟨eq, heq⟩ : ∃ eq : Bool, (eq = true ↔ du = md) := ⟨decide (du = md), by simp⟩
              have HN2 : Hid (eq = true ↔ ∀ t, t < j + 1 → MateAt KS t (tw t)) := by
                refine ⟨fun e t ht => ?_, fun h => heq.2 (KEY.out.2 (h j (by omega)))⟩
                by_cases c : t = j
                · subst c; exact KEY.out.1 (heq.1 e)
                · exact HQ2.out.1 rfl t (by omega)
              have d1 : ((du : Int) == (md : Int)) = eq := by
                rw [Bool.eq_iff_iff, beq_iff_eq, heq]; omega
              have d2 : decide ((du : Int) = (md : Int)) = eq := by
                rw [Bool.eq_iff_iff, decide_eq_true_iff, heq]; omega
              have hba0 := HB.out
              have hba1 := HB.out.drew
              obtain ⟨y0d, y1d⟩ := CD2.out _ hba1
              have SK2 : Hid (∀ W, Below w6.heap.size w6 W → Below w6.heap.size w6 W ∧ W.cell? ⟨bb, j * 2, none⟩ = some (.int .i64 (dj : Int)) ∧ W.cell? ⟨bb, u * 2, none⟩ = some (.int .i64 (du : Int))) := fun W z => ⟨z, CD2.out W z⟩
              clear heq KEY
              go_wp2_with fail
              go_region_held3 (fun W => Below w6.heap.size w6 W ∧ W.cell? ⟨bb, j * 2, none⟩ = some (.int .i64 (dj : Int)) ∧ W.cell? ⟨bb, u * 2, none⟩ = some (.int .i64 (du : Int)))
                (exact SK2.out _ (by assumption))
                (first
                | (go_at_call 23; (with_reducible refine MT1.out.mono ?_); rintro e wa ⟨rfl, za⟩; have hba := hba1.trans (za.mono hba1.size); have HBA := Lib.hid hba; clear za))
              all_goals (
                go_wp2_with fail
                go_roundw
                case rel => exact ⟨j + 1, eq, by omega, by go_num, by first | rfl | (rw [d1]) | (rw [d2]) | (simp [d1]) | (simp [d2]), HN2, HBA⟩
                case measure => simp [intOf]; omega)
          · obtain rfl : j = k := by omega
            have HQG : Hid (pb = decide (G = 0)) := by
              show _ = _
              rw [Bool.eq_iff_iff, decide_eq_true_iff, HQ2.out, ← HPLN.out.2]
              constructor
              · intro H
                exact mate_nx HPRG.out fun x hx _ => H x (by rw [HKL.out] at hx; exact hx)
              · intro H t ht
                have hk := HPRG.out.kd.getD t
                have htl : t < KS.length := by rw [HKL.out]; exact ht
                rcases (show KS.getD t 0 / 2 = 0 ∨ KS.getD t 0 / 2 = 1 by omega) with s | s
                · exact mate_of HPRG.out HPLN.out.1 htl s
                · exact mate_of HPRG.out H htl s
            have Z3 := Lib.hid (Z6.out.trans (HB.out.mono Z6.out.size))
            clear HQ2 HPLN HPRG HCYC HINJ HY RY RL6 Z6 HB MTP HKS HS Z9
            go_wp2_with fail
            have SK : Hid (∀ W, Below w3.heap.size w3 W → W.cell? ⟨w2.heap.size, 0, none⟩ = some (.slice A l.length cA) ∧ W.cell? ⟨w2.heap.size, 1, none⟩ = some (.int .i64 root) ∧ W.cell? ⟨w2.heap.size, 2, none⟩ = some (.int .i64 0)) := fun W z => by
              have h0 := (XB.out _ z).cell 0
              have h1 := (XB.out _ z).cell 1
              have h2 := (XB.out _ z).cell 2
              exact ⟨by simpa using h0, by simpa using h1, by simpa using h2⟩
            have RP2 : Hid (∀ W, Below wr.heap.size wr W → Calls Try.prog 20 #[.agg #[.slice A l.length cA, .int .i64 root, .int .i64 0]] W fun e wa => ∃ g9 c9, e = .returned (.slice (some ⟨g9, 0, none⟩) (pN l) c9) ∧ Hid (∀ W', Below wa.heap.size wa W' → W'.cell? ⟨g9, q * 5, none⟩ = some (.int .i64 (rt (part l) q : Int)) ∧ W'.cell? ⟨g9, q * 5 + 1, none⟩ = some (.int .i64 (VV : Int)) ∧ W'.cell? ⟨g9, q * 5 + 2, none⟩ = some (.int .i64 (E : Int)) ∧ W'.cell? ⟨g9, q * 5 + 3, none⟩ = some (.int .i64 (BB : Int)) ∧ W'.cell? ⟨g9, q * 5 + 4, none⟩ = some (.int .i64 (G : Int))) ∧ Below W.heap.size W wa ∧ Below wr.heap.size wr wa) := fun W z =>
              (RP.out W (Z3.out.trans (z.mono Z3.out.size))).mono fun e wa ⟨A9, c9, h1, h2, h3, h4, h5⟩ => by
                obtain ⟨g9, rfl⟩ := own_some5w h4 (by omega)
                refine ⟨g9, c9, h1, fun W' z' => ?_, h5, z.trans (h5.mono z.size)⟩
                have k := own_below h4 z'
                have k0 := own_cell5w k q 0 hqN (by omega)
                have k1 := own_cell5w k q 1 hqN (by omega)
                have k2 := own_cell5w k q 2 hqN (by omega)
                have k3 := own_cell5w k q 3 hqN (by omega)
                have k4 := own_cell5w k q 4 hqN (by omega)
                rw [Nat.add_zero, Nat.add_zero, c0] at k0
                rw [c1] at k1
                rw [c2] at k2
                rw [c3] at k3
                rw [c4] at k4
                exact ⟨k0, k1, k2, k3, k4⟩
            have NP2 : Hid (∀ W, Below wr.heap.size wr W → Calls Try.prog 13 #[.agg #[.slice A l.length cA, .int .i64 root, .int .i64 0]] W fun e wa => ∃ g9 c9, e = .returned (.slice (some ⟨g9, 0, none⟩) l.length c9) ∧ Hid (∀ W', Below wa.heap.size wa W' → W'.cell? ⟨g9, r, none⟩ = some (.int .i64 (q : Int))) ∧ Below W.heap.size W wa ∧ Below wr.heap.size wr wa) := fun W z =>
              (NP.out W (Z3.out.trans (z.mono Z3.out.size))).mono fun e wa ⟨A9, c9, h1, h2, h3, h4, h5⟩ => by
                rw [ofN_len, enames_len] at h1 h4
                obtain ⟨g9, rfl, _⟩ := own_some h4 (by omega)
                refine ⟨g9, c9, h1, fun W' z' => ?_, h5, z.trans (h5.mono z.size)⟩
                have k := own_cellI (own_below h4 z') r (show r < l.length by omega)
                rw [ofN_get, hpq.out] at k
                exact k
            have hqI : (q : Int) < (pN l : Int) := by omega
            have hqI0 : (0 : Int) ≤ (q : Int) := by omega
            have hrI : (r : Int) < (l.length : Int) := by omega
            go_cut [18] (fun s18 wx => ∃ gx, s18 = .pointer (some ⟨gx, 0, none⟩) ∧ Below wr.heap.size wr wx ∧ Blk wx gx 50 #[.int .i64 (rt (part l) q : Int), .int .i64 (VV : Int), .int .i64 (E : Int), .int .i64 (BB : Int), .int .i64 (G : Int)])
            case first =>
              have hba0 := Below.refl wr.heap.size wr
              have hba1 := hba0.drew
              have hba2 : Below wr.heap.size wr (wr.alloc (.cells #[.int .i64 0, .int .i64 0, .int .i64 0, .int .i64 0, .int .i64 0] 50)).drew := (hba0.alloc hba0.size _).drew
              obtain ⟨x0, x1, x2⟩ := SK.out _ Z3.out
              obtain ⟨xx0, xx1, xx2⟩ := SK.out _ (Z3.out.trans (hba1.mono Z3.out.size))
              obtain ⟨xz0, xz1, xz2⟩ := SK.out _ (Z3.out.trans (hba2.mono Z3.out.size))
              clear c0 c1 c2 c3 c4 HQ HC HPD HWP HLT HN1 HC1 RP NP
              have BZ1 := Lib.hid (Blk.drewN (Blk.new wr 50 #[.int .i64 0, .int .i64 0, .int .i64 0, .int .i64 0, .int .i64 0]) 1)
              go_region_with (first
                | (go_at_call 13; (with_reducible refine (NP2.out _ (by assumption)).mono ?_); rintro e wb ⟨g10, c10, rfl, kn, zn, hbb⟩; have n0 := kn.out _ (Below.refl _ _); (have zz : Below wa.heap.size wa wb := by first | exact zn | exact hza.out.trans (zn.mono hza.out.size)); obtain ⟨p0, p1, p2, p3, p4⟩ := kp.out _ zz; have nz := kn.out _ ((Below.refl wb.heap.size wb).alloc (Nat.le_refl _) (.cells #[.int .i64 0, .int .i64 0, .int .i64 0, .int .i64 0, .int .i64 0] 50)); obtain ⟨pz0, pz1, pz2, pz3, pz4⟩ := kp.out _ (zz.alloc zz.size (.cells #[.int .i64 0, .int .i64 0, .int .i64 0, .int .i64 0, .int .i64 0] 50)); have hbz := hbb.alloc hbb.size (.cells #[.int .i64 0, .int .i64 0, .int .i64 0, .int .i64 0, .int .i64 0] 50); (first | (have bq := bp.below zz; have y0 := bq.cell 0; have y1 := bq.cell 1; have y2 := bq.cell 2; have y3 := bq.cell 3; have y4 := bq.cell 4; have f0 := bq.frozen 0; have f1 := bq.frozen 1; have f2 := bq.frozen 2; have f3 := bq.frozen 3; have f4 := bq.frozen 4; simp at y0 y1 y2 y3 y4) | (have bq := BZ2.out.below zn; have y0 := bq.cell 0; have y1 := bq.cell 1; have y2 := bq.cell 2; have y3 := bq.cell 3; have y4 := bq.cell 4; have f0 := bq.frozen 0; have f1 := bq.frozen 1; have f2 := bq.frozen 2; have f3 := bq.frozen 3; have f4 := bq.frozen 4; simp at y0 y1 y2 y3 y4) | skip))
                | (go_at_call 20; (with_reducible refine (RP2.out _ (by assumption)).mono ?_); rintro e wa ⟨g9, c9, rfl, kp, za, hba⟩; obtain ⟨xa0, xa1, xa2⟩ := SK.out _ (Z3.out.trans (hba.mono Z3.out.size)); have hbaz := hba.alloc hba.size (.cells #[.int .i64 0, .int .i64 0, .int .i64 0, .int .i64 0, .int .i64 0] 50); obtain ⟨xq0, xq1, xq2⟩ := SK.out _ (Z3.out.trans (hbaz.mono Z3.out.size)); have hza := Lib.hid ((Below.refl wa.heap.size wa).alloc (Nat.le_refl _) (.cells #[.int .i64 0, .int .i64 0, .int .i64 0, .int .i64 0, .int .i64 0] 50)); have BZ2 := Lib.hid (Blk.new wa 50 #[.int .i64 0, .int .i64 0, .int .i64 0, .int .i64 0, .int .i64 0]); (first | (have bp := BZ1.out.below za) | skip)))
              all_goals (
                go_wp2_with fail
                go_meet
                refine ⟨_, rfl, ?_, ?_⟩
                · first
                  | with_reducible exact hbb.alloc hbb.size _
                  | with_reducible exact ((((hbb.setCell hba.size _).setCell hba.size _).setCell hba.size _).setCell hba.size _).setCell hba.size _
                  | with_reducible exact ((((hbb.setCell (Nat.le_refl _) _).setCell (Nat.le_refl _) _).setCell (Nat.le_refl _) _).setCell (Nat.le_refl _) _).setCell (Nat.le_refl _) _
                · first
                  | with_reducible exact Blk.new wb _ _
                  | with_reducible exact ((((bq.set_ 0 (.int .i64 (rt (part l) q : Int))).set_ 1 (.int .i64 (VV : Int))).set_ 2 (.int .i64 (E : Int))).set_ 3 (.int .i64 (BB : Int))).set_ 4 (.int .i64 (G : Int))
                  | (have := ((((bq.set_ 0 (.int .i64 (rt (part l) q : Int))).set_ 1 (.int .i64 (VV : Int))).set_ 2 (.int .i64 (E : Int))).set_ 3 (.int .i64 (BB : Int))).set_ 4 (.int .i64 (G : Int)); simpa using this))
            case rest =>
              obtain ⟨gx, rfl, z5, hpb⟩ := hcut
              have p4 : wc.cell? ⟨gx, 4, none⟩ = some (.int .i64 (G : Int)) := hpb.cell 4
              have BW : Hid (Below w.heap.size w wc) := B3.out.trans ((Z3.out.trans (z5.mono Z3.out.size)).mono B3.out.size)
              have g1 : ((G : Int) == 0) = pb := by
                rw [HQG.out, Bool.eq_iff_iff, beq_iff_eq, decide_eq_true_iff]; omega
              have g2 : decide ((G : Int) = 0) = pb := by
                rw [HQG.out, Bool.eq_iff_iff, decide_eq_true_iff, decide_eq_true_iff]; omega
              clear hpb z5 HQG SK RP2 NP2
              go_wp2_with fail
              go_ret
              exact ⟨by first | rfl | simp [g1] | simp [g2], BW.out⟩
end Go.Proofs.Ythkocodajjapmaa
