/- WalkTrees: the tree of a walk, and the order in which the vertices are met. -/
import Derived.Test.YtgohdhmijfajfaaWOrder
import Derived.Test.YtgohdhmijfajfaaWSides
import Derived.Deep.RegionHeld3
import Derived.Deep.DeepCutAuto
namespace Go.Proofs.Ytgohdhmijfajfaa
set_option maxRecDepth 20000
open Go.RowKit
set_option linter.unusedVariables false
theorem ordN_eq (sg nm : Nat → Nat) (m V r : Nat) : ∀ j, ordN sg nm m V r j = nm r :: (treN sg nm m V r j).map fun d => nm (mt d)
  | 0 => rfl
  | j + 1 => by
    have ih := ordN_eq sg nm m V r j
    unfold ordN treN
    split
    · rw [ih, List.map_append, List.cons_append]; rfl
    · exact ih
theorem treeL_treN (sg nm : Nat → Nat) (m V r N : Nat) : ∀ k, k ≤ N → treeL (wst sg nm m V r N) k = ofN (treN sg nm m V r k)
  | 0, _ => rfl
  | k + 1, h => by
    have ih := treeL_treN sg nm m V r N k (by omega)
    unfold treeL treN
    rw [wst_k sg nm m V r (show k < N by omega), wst_d sg nm m V r (show k < N by omega)]
    by_cases c : (wrun sg nm m V r k).k nm = 0
    · rw [if_pos (by omega), if_pos c, ih, ofN_append]; rfl
    · rw [if_neg (by omega), if_neg c, ih]
theorem order_nil (pp : Option Addr) (w : World) :
    Calls Try.prog 18 #[.pointer pp, .slice none 0 0] w (NewI64 w []) := by
  have hmf : ∀ (fn : Fn) (first cap : Array Value) (w : World), (Instr.makeFunc fn first cap).run Try.prog w = .ok (.func fn first cap) w := fun _ _ _ _ => rfl
  go_enter Try.func18, Try.ntmps18
  go_upto_region 3 with fail
  have HB3 : Hid (Below w.heap.size w ((w.alloc (.cells #[.pointer pp] 24)).alloc (.cells #[.slice none 0 0] 25))) := ((Below.refl w.heap.size w).alloc (Nat.le_refl _) _).alloc (by simp) _
  have HBO : Hid (Blk ((w.alloc (.cells #[.pointer pp] 24)).alloc (.cells #[.slice none 0 0] 25)) (w.heap.size + 1) 25 #[.slice none 0 0]) := by
    have := Blk.new (w.alloc (.cells #[.pointer pp] 24)) 25 #[.slice none 0 0]
    rw [show (w.alloc (.cells #[.pointer pp] 24)).heap.size = w.heap.size + 1 by simp] at this
    exact this
  generalize hw3 : (w.alloc (.cells #[.pointer pp] 24)).alloc (.cells #[.slice none 0 0] 25) = w3 at *
  clear hw3
  have TP := Lib.hid (tree_p none 0 0 w3.heap.size [] w3 (RdS.nil _ _ _) (Nat.le_refl _) (by omega))
  have e0 : (treeL [] 0).length = 0 := rfl
  go_wp2_with fail
  refine TP.out.mono ?_
  rintro e w5 ⟨AT, cT, rfl, hcT, hmT, ownT, z⟩
  rw [e0]
  have x1 := (HBO.out.below z).cell 0
  simp at x1
  have HB5 := Lib.hid (HB3.out.trans (z.mono HB3.out.size))
  clear TP HB3 HBO ownT z hcT hmT e0
  go_wp2_with fail
  go_loopw [22] (fun i wr => i = .int .i64 0 ∧ wr = w5) (fun i _ => 0)
  case atStart => exact ⟨rfl, rfl⟩
  case round =>
    obtain ⟨rfl, rfl⟩ := hrel
    go_wp2_with fail
    go_ret
    exact .mk rfl (World.ownsRow_nil _ _ _ _) HB5.out
set_option maxHeartbeats 8000000 in
theorem walkTrees_walk (A0 : Option Addr) (n m c rr : Nat) (by_ : List Int) (w : World) (h0 : Rd w w.heap.size A0 m (Z8 by_)) (hb0 : ∀ x ∈ by_, 0 ≤ x ∧ x < 256) (hmc : m ≤ c) (hcm : c ≤ maxLen) (hn : n < 256) (hrr : rr < 256) :
    Calls Try.prog 4 #[.int .u8 (n : Int), .slice A0 m c, .int .u8 (rr : Int)] w fun e w' => e = .returned (.bool true) ∧ Below w.heap.size w w' := by
  unfold maxLen at hcm
  have AW := Lib.hid (awake9_p w)
  have H0 := Lib.hid h0
  have HB0 := Lib.hid hb0
  clear h0 hb0
  go_enter Try.func4, Try.ntmps4
  go_wp2_with fail
  refine AW.out.mono ?_
  rintro e w1 ⟨rfl, b1⟩
  have MD := Lib.hid (made9_p n m c _ A0 by_ w1 (H0.out.below b1) HB0.out b1.size hn (by omega))
  have B1 := Lib.hid b1
  clear b1 AW
  go_wp2_with fail
  refine MD.out.mono ?_
  rintro e w2 ⟨g, v, l, b, root, rfl, hmap, hrm, hl, hroot, b2⟩
  have e03 : ((0 : Nat) : Int) = 0 := rfl
  rw [e03] at hmap hrm
  obtain ⟨hinv, A, cA, hla, rfl, hlc, hcA, hrA⟩ := hrm
  have hbx := (Below.refl w2.heap.size w2).alloc (Nat.le_refl _) (.cells #[.slice A l.length cA, .int .i64 root, .int .i64 0] 27)
  have HX := Lib.hid (Blk.new w2 27 #[.slice A l.length cA, .int .i64 root, .int .i64 0])
  have HM := Lib.hid (hmap.below hbx)
  have HR := Lib.hid (hrA.more hbx)
  have HI := Lib.hid hinv
  have hl20 : l.length ≤ 26 := by have := Nat.mod_lt n (show 0 < 14 by decide); omega
  have HEV : Hid (l.length % 2 = 0) := by show _ = _; omega
  have B2 : Hid (Below w.heap.size w w2) := B1.out.trans (b2.mono B1.out.size)
  have B3 : Hid (Below w.heap.size w (w2.alloc (.cells #[.slice A l.length cA, .int .i64 root, .int .i64 0] 27))) := B2.out.trans (hbx.mono B2.out.size)
  clear hmap hbx hrA hinv b2 B1 MD hlc hcA hla hl hroot B2 e03
  go_upto_region 4 with fail
  generalize hw3 : w2.alloc (.cells #[.slice A l.length cA, .int .i64 root, .int .i64 0] 27) = w3 at *
  have hX3 : w2.heap.size < w3.heap.size := by rw [← hw3]; simp
  have XB : Hid (∀ W, Below w3.heap.size w3 W → Blk W w2.heap.size 27 #[.slice A l.length cA, .int .i64 root, .int .i64 0]) := fun W z => HX.out.below z
  clear hw3 HX
  obtain ⟨D, hD⟩ : ∃ D, D = l.length := ⟨_, rfl⟩
  have DP : Hid (∀ W, Below w3.heap.size w3 W → Calls Try.prog 17 #[.pointer (some ⟨g, 0, none⟩)] W fun e w' => e = .returned (.int .i64 (D : Int)) ∧ Below W.heap.size W w') := fun W m => by rw [hD]; exact darts_p g l b root 0 W (HM.out.below m)
  have Z0 := Below.refl w3.heap.size w3
  by_cases hD0 : D = 0
  · subst hD0
    have hl0 : l.length = 0 := hD.symm
    clear hD
    go_wp2_with fail
    refine (DP.out _ Z0).mono ?_
    rintro e v1 ⟨rfl, z⟩
    have Z1 := Z0.trans (z.mono Z0.size)
    have B4 := Lib.hid (B3.out.trans (Z1.mono B3.out.size))
    clear z Z0 Z1
    have ON := Lib.hid (order_nil (some ⟨g, 0, none⟩) v1)
    go_wp2_with fail
    refine ON.out.mono ?_
    rintro e v2 ⟨AO, cO, rfl, _, _, _, z⟩
    have B5 := Lib.hid (B4.out.trans (z.mono B4.out.size))
    clear z ON
    go_wp2_with fail
    go_ret
    exact ⟨by first | rfl | simp, B5.out⟩
  · have hD0i : ¬ (D : Int) = 0 := by omega
    have hDb : ((D : Int) == 0) = false := by rw [beq_eq_false_iff_ne]; exact hD0i
    have hDp : 0 < D := by omega
    obtain ⟨r, hr⟩ : ∃ r, r = rr % D := ⟨_, rfl⟩
    have hrl : r < D := by rw [hr]; exact Nat.mod_lt _ hDp
    have hr1 : (rr : Int) % (D : Int) = (r : Int) := by rw [hr, Int.natCast_emod]
    have hr2 : (rr : Int).tmod (D : Int) = (r : Int) := by rw [Int.tmod_eq_emod_of_nonneg (by omega)]; exact hr1
    obtain ⟨M, hMM⟩ : ∃ M, M = l.length / 2 := ⟨_, rfl⟩
    obtain ⟨V, hVV⟩ : ∃ V : Nat, (V : Int) = ((sizes l).length : Int) + 0 := ⟨(sizes l).length, by omega⟩
    have hvl := nm_lt HI.out (V := V) (by omega)
    have OP : Hid (∀ (q : Nat) W, q < D → Below w3.heap.size w3 W → Calls Try.prog 10 #[.pointer (some ⟨g, 0, none⟩), .int .i64 (q : Int)] W (WalkPost W (wN (sgL l) (nameOf l) M V q) (wst (sgL l) (nameOf l) M V q (wN (sgL l) (nameOf l) M V q)))) := fun q W hq z => walkOf_p g l b root 0 q M V W (HM.out.below z) HI.out (by omega) hMM hVV
    have RP : Hid (∀ W, Below w3.heap.size w3 W → Calls Try.prog 20 #[.agg #[.slice A l.length cA, .int .i64 root, .int .i64 0]] W (NewQt W (pN l) (partsC l (pN l)))) := fun W z => by
      have := reparts_p A cA l b root 0 W (HR.out.more z) HI.out HEV.out (by omega) (by omega)
      exact this
    have NP : Hid (∀ W, Below w3.heap.size w3 W → Calls Try.prog 13 #[.agg #[.slice A l.length cA, .int .i64 root, .int .i64 0]] W (NewI64 W (ofN (enames l)))) := fun W z => renames_p A cA l b root 0 W (HR.out.more z) HI.out HEV.out (by omega)
    have HPD := Lib.hid (fun x hx => pq_part HI.out HEV.out (r := r) (x := x) (by omega) hx)
    have HC := Lib.hid (fun q hq => walk_counts HI.out HEV.out hvl (r := q) hq)
    have HWP : Hid (∀ x, x < l.length → (part l r x ↔ ∃ j, j < wN (sgL l) (nameOf l) M V r ∧ (wrun (sgL l) (nameOf l) M V r j).d = x)) := fun x hx => by
      rw [hMM]; exact wpart (sgL_pf HI.out) (by have := HEV.out; omega) (nm_ok HI.out) hvl (by omega) hx
    have HLT : Hid (∀ j : Nat, (wrun (sgL l) (nameOf l) M V r j).d < l.length) := fun j => by
      rw [hMM]; exact (wok (sgL_pf HI.out) (by have := HEV.out; omega) (nm_ok HI.out) hvl (by omega) j).lt
    have HN1 : Hid (1 ≤ wN (sgL l) (nameOf l) M V r ∧ wN (sgL l) (nameOf l) M V r ≤ l.length) := by
      rw [hMM]
      obtain ⟨a1, a2, _⟩ := wN_is (m := l.length / 2) (sgL_pf HI.out) (by have := HEV.out; omega) (nm_ok HI.out) hvl (r := r) (by omega)
      exact ⟨a1, a2⟩
    -- the part
    obtain ⟨q, hq⟩ : ∃ q, q = pq l r := ⟨_, rfl⟩
    have hqN : q < pN l := by rw [hq]; exact pq_lt HI.out HEV.out (i := r) (d := l.length) (by omega) (by omega)
    have hpq : Hid ((enames l).getD r 0 = q) := by show _ = _; rw [hq]; unfold enames prts; rw [map_rangeN _ _ _ (show r < l.length by omega)]; rfl
    obtain ⟨G, hG1, hG2⟩ := pG_is HI.out HEV.out (phi_inv HI.out HEV.out) hqN
    have hpl := pN_le l
    have c0 : pcL l (5 * q) = (rt (part l) q : Int) := by unfold pcL; rw [if_pos (by omega), pc_0]
    have c1 : pcL l (5 * q + 1) = (pV l q l.length : Int) := by unfold pcL; rw [if_pos (by omega), pc_1]
    have c2 : pcL l (5 * q + 2) = (pE l q l.length : Int) := by unfold pcL; rw [if_pos (by omega), pc_2]
    have c3 : pcL l (5 * q + 3) = (pB l q l.length : Int) := by unfold pcL; rw [if_pos (by omega), pc_3]
    have c4 : pcL l (5 * q + 4) = (G : Int) := by unfold pcL; rw [if_pos (by omega), pc_4, if_pos hqN, hG1]
    have HQ := Lib.hid (And.intro hq (And.intro c0 (And.intro c1 (And.intro c2 (And.intro c3 c4)))))
    have hNp : pN l ≤ 26 := by omega
    have hVl := pV_le l q l.length
    have hEl := pE_le l q l.length
    have hBl := pB_le l q l.length
    have hG13 : G ≤ 14 := by omega
    obtain ⟨E, hE⟩ : ∃ E, E = pE l q l.length := ⟨_, rfl⟩
    obtain ⟨VV, hVV2⟩ : ∃ VV, VV = pV l q l.length := ⟨_, rfl⟩
    obtain ⟨BB, hBB⟩ : ∃ BB, BB = pB l q l.length := ⟨_, rfl⟩
    obtain ⟨N, hN⟩ : ∃ N, N = wN (sgL l) (nameOf l) M V r := ⟨_, rfl⟩
    have hc := HC.out r (by omega)
    rw [← hq, ← hMM, ← hN, ← hE, ← hVV2] at hc
    have HC1 := Lib.hid hc
    have hN26 : 1 ≤ N ∧ N ≤ 26 := by have := HN1.out; rw [← hN] at this; omega
    have OF1 : Hid (∀ W, Below w3.heap.size w3 W → Calls Try.prog 10 #[.pointer (some ⟨g, 0, none⟩), .int .i64 (r : Int)] W (WalkPost W N (wst (sgL l) (nameOf l) M V r N))) := fun W z => by rw [hN]; exact OP.out r W hrl z
    rw [← hE, ← hVV2, ← hBB] at hG2
    rw [← hE] at hEl c2
    rw [← hVV2] at hVl c1
    rw [← hBB] at hBl c3
    have hrll : r < l.length := by omega
    have HDL := Lib.hid hD
    have HN := Lib.hid hN
    have HMM := Lib.hid hMM
    have HVL := Lib.hid hvl
    have HVV := Lib.hid hVV
    have HE := Lib.hid hE
    have HVV2 := Lib.hid hVV2
    clear hq hc hD hMM hVV hvl hN hE hVV2 hBB hr hG1
    -- to the walk
    go_wp2_with fail
    refine (DP.out _ Z0).mono ?_
    rintro e v1 ⟨rfl, z⟩
    have Z1 := Z0.trans (z.mono Z0.size)
    clear z Z0
    go_wp2_with fail
    refine (DP.out _ Z1).mono ?_
    rintro e v2 ⟨rfl, z⟩
    have Z2 := Lib.hid (Z1.trans (z.mono Z1.size))
    clear z Z1
    have OF2 := Lib.hid (OF1.out _ Z2.out)
    go_wp2_with fail
    refine OF2.out.mono ?_
    rintro e v3 ⟨AL, cL, rfl, ownL, z⟩
    have RL := Lib.hid (RdS.own ownL)
    have Z3 := Lib.hid (Z2.out.trans (z.mono Z2.out.size))
    clear z Z2 OF2 ownL
    -- the tree and the order
    obtain ⟨sg, hsg⟩ : ∃ sg, sg = sgL l := ⟨_, rfl⟩
    obtain ⟨nm, hnm⟩ : ∃ nm, nm = nameOf l := ⟨_, rfl⟩
    have TA := Lib.hid (tre_at (sgL_pf HI.out) (show l.length = 2 * (l.length / 2) by have := HEV.out; omega) (nm_ok HI.out) HVL.out hrll N)
    rw [← hsg, ← hnm] at HC1 RL
    rw [← hsg, ← hnm, ← HMM.out] at TA
    obtain ⟨tr, htr⟩ : ∃ tr, tr = treN sg nm M V r N := ⟨_, rfl⟩
    obtain ⟨od, hod⟩ : ∃ od, od = ordN sg nm M V r N := ⟨_, rfl⟩
    have hoe := ordN_eq sg nm M V r N
    rw [← htr, ← hod] at TA hoe
    have hTl := tre_wcn sg nm M V r N
    rw [← htr] at hTl
    have htree := treeL_treN sg nm M V r N N (Nat.le_refl _)
    rw [← htr] at htree
    have hL0 : (wst sg nm M V r N).getD 0 0 = (r : Int) := wst_d sg nm M V r (show 0 < N by omega)
    have hlt : ∀ d ∈ tr, d < l.length := fun d hd => by
      obtain ⟨i, hi, e⟩ := List.getElem_of_mem hd
      obtain ⟨d', h1, h2, _⟩ := TA.out i hi
      rw [List.getD_eq_getElem?_getD, List.getElem?_eq_getElem hi] at h2
      have h2' : tr[i] = d' := h2
      omega
    have hoe2 : nameOf l r :: tr.map (fun d => nameOf l (mateN d)) = od := by
      rw [hoe, hnm]
      congr 1
      exact List.map_congr_left fun d _ => by rw [mt_mateN]
    have hTV : tr.length + 1 = VV ∧ tr.length ≤ 26 := by
      have := HC1.out
      omega
    have hol : od.length = tr.length + 1 := by rw [← hoe2, List.length_cons, List.length_map]
    have hod0 : od.getD 0 0 = nameOf l r := by rw [← hoe2]; rfl
    have TP := Lib.hid (tree_p AL N cL _ _ v3 RL.out (Nat.le_refl _) (by omega))
    rw [htree] at TP
    have OD := Lib.hid (fun W (z : Below v3.heap.size v3 W) => order_p g N cL _ r AL l b root 0 _ tr W (HM.out.below (Z3.out.trans (z.mono Z3.out.size))) (RL.out.below z) z.size (by omega) (by omega) hL0 hrll htree hlt)
    rw [hoe2] at OD
    have HNM := Lib.hid hnm
    clear hsg hnm htr hod hoe hTl htree hL0 hoe2 HC1 OF1
    go_wp2_with fail
    refine TP.out.mono ?_
    rintro e v4 ⟨AT, cT, rfl, hcT, hmT, ownT, z⟩
    have RT := Lib.hid (Rd.ofOwn ownT)
    have Z4 := Lib.hid (Z3.out.trans (z.mono Z3.out.size))
    have OD4 := Lib.hid (OD.out v4 z)
    rw [ofN_len] at hcT RT
    rw [ofN_len]
    clear z ownT TP OD
    go_wp2_with fail
    refine OD4.out.mono ?_
    rintro e v5 ⟨AO, cO, rfl, hcO, hmO, ownO, z⟩
    have RO := Lib.hid (Rd.ofOwn ownO)
    have RT5 := Lib.hid (RT.out.below z)
    have Z5 := Lib.hid (Z4.out.trans (z.mono Z4.out.size))
    have hv45 := z.size
    rw [ofN_len] at hcO RO
    rw [ofN_len]
    clear z ownO OD4 RT
    obtain ⟨T, hT⟩ : ∃ T, T = tr.length := ⟨_, rfl⟩
    rw [← hT] at hTV hol hcT RT5 TA
    rw [hol] at hcO RO
    rw [← hT, hol]
    obtain ⟨hTV1, hT26⟩ := hTV
    rw [hTV1] at hcO RO
    rw [hTV1]
    have HTV := Lib.hid hTV1
    have hVV26 : VV ≤ 27 := by omega
    have hVV0 : 0 < VV := by omega
    clear hTV1
    have HTL := Lib.hid hT
    have HOL := Lib.hid hol
    have HOD0 := Lib.hid hod0
    have HLT := Lib.hid hlt
    clear hT hol hod0 hlt
    go_wp2_with fail
    have SK : Hid (∀ W, Below w3.heap.size w3 W → W.cell? ⟨w2.heap.size, 0, none⟩ = some (.slice A l.length cA) ∧ W.cell? ⟨w2.heap.size, 1, none⟩ = some (.int .i64 root) ∧ W.cell? ⟨w2.heap.size, 2, none⟩ = some (.int .i64 0)) := fun W z => by
      have h0 := (XB.out _ z).cell 0
      have h1 := (XB.out _ z).cell 1
      have h2 := (XB.out _ z).cell 2
      exact ⟨by simpa using h0, by simpa using h1, by simpa using h2⟩
    have RP2 : Hid (∀ W, Below v5.heap.size v5 W → Calls Try.prog 20 #[.agg #[.slice A l.length cA, .int .i64 root, .int .i64 0]] W fun e wa => ∃ g9 c9, e = .returned (.slice (some ⟨g9, 0, none⟩) (pN l) c9) ∧ Hid (∀ W', Below wa.heap.size wa W' → W'.cell? ⟨g9, q * 5, none⟩ = some (.int .i64 (rt (part l) q : Int)) ∧ W'.cell? ⟨g9, q * 5 + 1, none⟩ = some (.int .i64 (VV : Int)) ∧ W'.cell? ⟨g9, q * 5 + 2, none⟩ = some (.int .i64 (E : Int)) ∧ W'.cell? ⟨g9, q * 5 + 3, none⟩ = some (.int .i64 (BB : Int)) ∧ W'.cell? ⟨g9, q * 5 + 4, none⟩ = some (.int .i64 (G : Int))) ∧ Below W.heap.size W wa ∧ Below v5.heap.size v5 wa) := fun W z =>
      (RP.out W (Z5.out.trans (z.mono Z5.out.size))).mono fun e wa ⟨A9, c9, h1, h2, h3, h4, h5⟩ => by
        obtain ⟨g9, rfl⟩ := own_some5w h4 (by omega)
        refine ⟨g9, c9, h1, fun W' z' => ?_, h5, z.trans (h5.mono z.size)⟩
        have k := own_below h4 z'
        have k0 := own_cell5w k q 0 hqN (by omega)
        have k1 := own_cell5w k q 1 hqN (by omega)
        have k2 := own_cell5w k q 2 hqN (by omega)
        have k3 := own_cell5w k q 3 hqN (by omega)
        have k4 := own_cell5w k q 4 hqN (by omega)
        rw [Nat.add_zero, Nat.add_zero, c0] at k0
        rw [c1] at k1
        rw [c2] at k2
        rw [c3] at k3
        rw [c4] at k4
        exact ⟨k0, k1, k2, k3, k4⟩
    have NP2 : Hid (∀ W, Below v5.heap.size v5 W → Calls Try.prog 13 #[.agg #[.slice A l.length cA, .int .i64 root, .int .i64 0]] W fun e wa => ∃ g9 c9, e = .returned (.slice (some ⟨g9, 0, none⟩) l.length c9) ∧ Hid (∀ W', Below wa.heap.size wa W' → W'.cell? ⟨g9, r, none⟩ = some (.int .i64 (q : Int))) ∧ Below W.heap.size W wa ∧ Below v5.heap.size v5 wa) := fun W z =>
      (NP.out W (Z5.out.trans (z.mono Z5.out.size))).mono fun e wa ⟨A9, c9, h1, h2, h3, h4, h5⟩ => by
        rw [ofN_len, enames_len] at h1 h4
        obtain ⟨g9, rfl, _⟩ := own_some h4 (by omega)
        refine ⟨g9, c9, h1, fun W' z' => ?_, h5, z.trans (h5.mono z.size)⟩
        have k := own_cellI (own_below h4 z') r (show r < l.length by omega)
        rw [ofN_get, hpq.out] at k
        exact k
    have hqI : (q : Int) < (pN l : Int) := by omega
    have hqI0 : (0 : Int) ≤ (q : Int) := by omega
    have hrI : (r : Int) < (l.length : Int) := by omega
    go_cut [14] (fun s14 wx => ∃ gx, s14 = .pointer (some ⟨gx, 0, none⟩) ∧ Below v5.heap.size v5 wx ∧ Blk wx gx 50 #[.int .i64 (rt (part l) q : Int), .int .i64 (VV : Int), .int .i64 (E : Int), .int .i64 (BB : Int), .int .i64 (G : Int)])
    case first =>
      have hba0 := Below.refl v5.heap.size v5
      have hba1 := hba0.drew
      have hba2 : Below v5.heap.size v5 (v5.alloc (.cells #[.int .i64 0, .int .i64 0, .int .i64 0, .int .i64 0, .int .i64 0] 50)).drew := (hba0.alloc hba0.size _).drew
      obtain ⟨x0, x1, x2⟩ := SK.out _ Z5.out
      obtain ⟨xx0, xx1, xx2⟩ := SK.out _ (Z5.out.trans (hba1.mono Z5.out.size))
      obtain ⟨xz0, xz1, xz2⟩ := SK.out _ (Z5.out.trans (hba2.mono Z5.out.size))
      clear c0 c1 c2 c3 c4 HQ HC HPD HWP HLT HN1 RP NP RL TA RT5 RO HTL HOL HOD0
      have BZ1 := Lib.hid (Blk.drewN (Blk.new v5 50 #[.int .i64 0, .int .i64 0, .int .i64 0, .int .i64 0, .int .i64 0]) 1)
      go_region_with (first
        | (go_at_call 13; (with_reducible refine (NP2.out _ (by assumption)).mono ?_); rintro e wb ⟨g10, c10, rfl, kn, zn, hbb⟩; have n0 := kn.out _ (Below.refl _ _); (have zz : Below wa.heap.size wa wb := by first | exact zn | exact hza.out.trans (zn.mono hza.out.size)); obtain ⟨p0, p1, p2, p3, p4⟩ := kp.out _ zz; have nz := kn.out _ ((Below.refl wb.heap.size wb).alloc (Nat.le_refl _) (.cells #[.int .i64 0, .int .i64 0, .int .i64 0, .int .i64 0, .int .i64 0] 50)); obtain ⟨pz0, pz1, pz2, pz3, pz4⟩ := kp.out _ (zz.alloc zz.size (.cells #[.int .i64 0, .int .i64 0, .int .i64 0, .int .i64 0, .int .i64 0] 50)); have hbz := hbb.alloc hbb.size (.cells #[.int .i64 0, .int .i64 0, .int .i64 0, .int .i64 0, .int .i64 0] 50); (first | (have bq := bp.below zz; have y0 := bq.cell 0; have y1 := bq.cell 1; have y2 := bq.cell 2; have y3 := bq.cell 3; have y4 := bq.cell 4; have f0 := bq.frozen 0; have f1 := bq.frozen 1; have f2 := bq.frozen 2; have f3 := bq.frozen 3; have f4 := bq.frozen 4; simp at y0 y1 y2 y3 y4) | (have bq := BZ2.out.below zn; have y0 := bq.cell 0; have y1 := bq.cell 1; have y2 := bq.cell 2; have y3 := bq.cell 3; have y4 := bq.cell 4; have f0 := bq.frozen 0; have f1 := bq.frozen 1; have f2 := bq.frozen 2; have f3 := bq.frozen 3; have f4 := bq.frozen 4; simp at y0 y1 y2 y3 y4) | skip))
        | (go_at_call 20; (with_reducible refine (RP2.out _ (by assumption)).mono ?_); rintro e wa ⟨g9, c9, rfl, kp, za, hba⟩; obtain ⟨xa0, xa1, xa2⟩ := SK.out _ (Z5.out.trans (hba.mono Z5.out.size)); have hbaz := hba.alloc hba.size (.cells #[.int .i64 0, .int .i64 0, .int .i64 0, .int .i64 0, .int .i64 0] 50); obtain ⟨xq0, xq1, xq2⟩ := SK.out _ (Z5.out.trans (hbaz.mono Z5.out.size)); have hza := Lib.hid ((Below.refl wa.heap.size wa).alloc (Nat.le_refl _) (.cells #[.int .i64 0, .int .i64 0, .int .i64 0, .int .i64 0, .int .i64 0] 50)); have BZ2 := Lib.hid (Blk.new wa 50 #[.int .i64 0, .int .i64 0, .int .i64 0, .int .i64 0, .int .i64 0]); (first | (have bp := BZ1.out.below za) | skip)))
      all_goals (
        go_wp2_with fail
        go_meet
        refine ⟨_, rfl, ?_, ?_⟩
        · first
          | with_reducible exact hbb.alloc hbb.size _
          | with_reducible exact ((((hbb.setCell hba.size _).setCell hba.size _).setCell hba.size _).setCell hba.size _).setCell hba.size _
          | with_reducible exact ((((hbb.setCell (Nat.le_refl _) _).setCell (Nat.le_refl _) _).setCell (Nat.le_refl _) _).setCell (Nat.le_refl _) _).setCell (Nat.le_refl _) _
        · first
          | with_reducible exact Blk.new wb _ _
          | with_reducible exact ((((bq.set_ 0 (.int .i64 (rt (part l) q : Int))).set_ 1 (.int .i64 (VV : Int))).set_ 2 (.int .i64 (E : Int))).set_ 3 (.int .i64 (BB : Int))).set_ 4 (.int .i64 (G : Int))
          | (have := ((((bq.set_ 0 (.int .i64 (rt (part l) q : Int))).set_ 1 (.int .i64 (VV : Int))).set_ 2 (.int .i64 (E : Int))).set_ 3 (.int .i64 (BB : Int))).set_ 4 (.int .i64 (G : Int)); simpa using this))
    case rest =>
      obtain ⟨gx, rfl, z6, hpb⟩ := hcut
      obtain ⟨wd, rfl⟩ : ∃ wd, wd = wc := ⟨_, rfl⟩
      have hz6 := z6.size
      have RO6 := Lib.hid (RO.out.below z6)
      have RT6 := Lib.hid (RT5.out.below (z6.mono hv45))
      have Z6 := Lib.hid (Z5.out.trans (z6.mono Z5.out.size))
      have HPB := Lib.hid hpb
      have B6 : Hid (Below w.heap.size w wd) := B3.out.trans (Z6.out.mono B3.out.size)
      clear z6 hpb RO RT5 SK RP2 NP2 c0 c1 c2 c3 c4 RP NP XB RL
      have VP : Hid (∀ (d : Nat) W, d < l.length → Below wd.heap.size wd W → Calls Try.prog 21 #[.pointer (some ⟨g, 0, none⟩), .int .i64 (d : Int)] W fun e w' => e = .returned (.int .i64 ((nameOf l d : Nat) : Int)) ∧ Below W.heap.size W w') := fun d W hd z => vertex_in g l b root 0 d W (HM.out.below (Z6.out.trans (z.mono Z6.out.size))) hd
      have MP : Hid (∀ (d : Nat) W, d < l.length → Below wd.heap.size wd W → Calls Try.prog 23 #[.pointer (some ⟨g, 0, none⟩), .int .i64 (d : Int)] W fun e w' => e = .returned (.int .i64 ((mateN d : Nat) : Int)) ∧ Below W.heap.size W w') := fun d W hd z => mate_in g l b root 0 d W (HM.out.below (Z6.out.trans (z.mono Z6.out.size))) hd
      have HLE : Hid (l.length % 2 = 0) := HEV.out
      obtain ⟨ob, o, rfl, hob, kk⟩ := RO6.out.i64 hVV0
      have k0 := kk 0 hVV0
      rw [ofN_get, HOD0.out, Nat.add_zero] at k0
      obtain ⟨v0, hv0⟩ : ∃ v0, v0 = nameOf l r := ⟨_, rfl⟩
      rw [← hv0] at k0
      have VR : Hid (∀ W, Below wd.heap.size wd W → Calls Try.prog 21 #[.pointer (some ⟨g, 0, none⟩), .int .i64 (r : Int)] W fun e w' => e = .returned (.int .i64 (v0 : Int)) ∧ Below wd.heap.size wd w') := fun W z => by
        rw [hv0]
        exact (VP.out r W hrll z).mono fun e w' ⟨h1, h2⟩ => ⟨h1, z.trans (h2.mono z.size)⟩
      have hobd : ob < wd.heap.size := by omega
      have SK : Hid (∀ W, Below wd.heap.size wd W → Below wd.heap.size wd W ∧ W.cell? ⟨gx, 1, none⟩ = some (.int .i64 (VV : Int)) ∧ W.cell? ⟨ob, o, none⟩ = some (.int .i64 (v0 : Int))) := fun W z =>
        ⟨z, by have := (HPB.out.below z).cell 1; simpa using this, (z.cell (p := ⟨ob, o, none⟩) hobd).trans k0⟩
      have e1 : (VV : Int) - 1 = (T : Int) := by have := HTV.out; omega
      have e2 : IntKind.i64.wrap (T : Int) = (T : Int) := by simp [IntKind.wrap, IntKind.signed, IntKind.bits]; omega
      have e3 : IntKind.i64.wrap ((VV : Int) - 1) = (T : Int) := by rw [e1]; exact e2
      have hVI : (0 : Int) < (VV : Int) := by omega
      clear hv0 kk k0
      go_upto_region 10 with fail
      go_cut [78] (fun s wx => s = .bool false ∧ Below wd.heap.size wd wx)
      case first =>
        have hba0 := Below.refl wd.heap.size wd
        have hba1 := hba0.drew
        obtain ⟨_, x0, x1⟩ := SK.out _ hba0
        obtain ⟨_, xx0, xx1⟩ := SK.out _ hba1
        go_region_held3 (fun W => Below wd.heap.size wd W ∧ W.cell? ⟨gx, 1, none⟩ = some (.int .i64 (VV : Int)) ∧ W.cell? ⟨ob, o, none⟩ = some (.int .i64 (v0 : Int)))
          (exact SK.out _ (by assumption))
          ((go_at_call 21; (with_reducible refine (VR.out _ (by assumption)).mono ?_); rintro e wa ⟨rfl, hba⟩))
        all_goals (go_wp2_with fail; go_meet; exact ⟨rfl, hba⟩)
      case rest =>
        obtain ⟨rfl, b7⟩ := hcut
        obtain ⟨wf, rfl⟩ : ∃ wf, wf = wc := ⟨_, rfl⟩
        have B7 := Lib.hid b7
        clear b7 SK VR e1 e2 e3
        go_wp2_with fail
        go_loopw [81] (fun i wr => ∃ k : Nat, k ≤ T ∧ i = .int .i64 (k : Int) ∧ Hid (Below wd.heap.size wd wr)) (fun i _ => T - (intOf i).toNat)
        case atStart => exact ⟨0, by omega, rfl, B7.out⟩
        case round =>
          obtain ⟨k, hk, rfl, HB⟩ := hrel
          by_cases hlt : k < T
          · obtain ⟨d, hdl, hdk, hin, hget, hnin⟩ := TA.out k hlt
            rw [HNM.out] at hin hget hnin
            rw [← mt_mateN] at hget hnin
            obtain ⟨tb, t_, rfl, htb, tk⟩ := (RT6.out.below (HB.out.mono (by omega))).i64 (show 0 < T by omega)
            have t0 := tk k hlt
            rw [ofN_get, hdk] at t0
            have RW := Lib.hid (RO6.out.below (HB.out.mono hz6))
            obtain ⟨ob', o', e', _, kk⟩ := RW.out.i64 hVV0
            cases e'
            have hTVk : k + 1 < VV := by have := HTV.out; omega
            have k1 := kk (k + 1) hTVk
            rw [ofN_get, hget] at k1
            obtain ⟨y, hy⟩ : ∃ y, y = mateN d := ⟨_, rfl⟩
            have hyl : y < l.length := by rw [hy]; exact mateN_lt HLE.out hdl
            obtain ⟨v, hv⟩ : ∃ v, v = nameOf l d := ⟨_, rfl⟩
            obtain ⟨u, hu⟩ : ∃ u, u = nameOf l (mateN d) := ⟨_, rfl⟩
            have hu2 : nameOf l y = u := by rw [hy, hu]
            have hv2 : nameOf l d = v := hv.symm
            rw [← hu] at k1 hnin
            rw [← hv] at hin
            have lift : ∀ {f : Nat} {args : Array Value} {x : Value}, (∀ W, Below wd.heap.size wd W → Calls Try.prog f args W fun e w' => e = .returned x ∧ Below W.heap.size W w') → Hid (∀ W, Below wr.heap.size wr W → Calls Try.prog f args W fun e w' => e = .returned x ∧ Below wr.heap.size wr w') := fun h W z =>
              (h W (HB.out.trans (z.mono HB.out.size))).mono fun e w' ⟨h1, h2⟩ => ⟨h1, z.trans (h2.mono z.size)⟩
            have V1 := lift fun W z => VP.out d W hdl z
            have V2 := lift fun W z => VP.out y W hyl z
            have M1 := lift fun W z => MP.out d W hdl z
            rw [hv2] at V1
            rw [hu2] at V2
            rw [← hy] at M1
            have C1 : Hid (∀ W, Below wr.heap.size wr W → Calls Try.prog 22 #[.slice (some ⟨ob, o, none⟩) (k + 1) cO, .int .i64 (v : Int)] W fun e w' => e = .returned (.bool true) ∧ Below wr.heap.size wr w') := fun W z => by
              have R := (RW.out.below (z.mono (by have := HB.out.size; omega))).cutI64 (k + 1) (by omega)
              refine (contains_p _ (k + 1) cO _ _ (v : Int) W R (by omega)).mono fun e w' ⟨h1, h2⟩ => ⟨?_, h2 ▸ z⟩
              rw [h1, decide_eq_true]
              simp only [ofN, ← List.map_take, List.mem_map]
              exact ⟨v, hin, rfl⟩
            have C2 : Hid (∀ W, Below wr.heap.size wr W → Calls Try.prog 22 #[.slice (some ⟨ob, o, none⟩) (k + 1) cO, .int .i64 (u : Int)] W fun e w' => e = .returned (.bool false) ∧ Below wr.heap.size wr w') := fun W z => by
              have R := (RW.out.below (z.mono (by have := HB.out.size; omega))).cutI64 (k + 1) (by omega)
              refine (contains_p _ (k + 1) cO _ _ (u : Int) W R (by omega)).mono fun e w' ⟨h1, h2⟩ => ⟨?_, h2 ▸ z⟩
              rw [h1, decide_eq_false]
              simp only [ofN, ← List.map_take, List.mem_map]
              rintro ⟨q, hq, e⟩
              exact hnin (by rw [show u = q by omega]; exact hq)
            have hobr : ob < wr.heap.size := by have := HB.out.size; omega
            have SK : Hid (∀ W, Below wr.heap.size wr W → Below wr.heap.size wr W ∧ W.cell? ⟨ob, o + (k + 1), none⟩ = some (.int .i64 (u : Int))) := fun W z =>
              ⟨z, (z.cell (p := ⟨ob, o + (k + 1), none⟩) hobr).trans k1⟩
            have hk4 : (k : Int) + 1 ≤ (cO : Int) := by omega
            have hk5 : (k : Int) + 1 < (VV : Int) := by omega
            have hk2 : (0 : Int) ≤ (k : Int) + 1 := by omega
            have hk3 : ((k : Int) + 1).toNat = k + 1 := by omega
            have hkT : (k : Int) < (T : Int) := by omega
            have hk1 : IntKind.i64.wrap ((k : Int) + 1) = (k : Int) + 1 := by simp [IntKind.wrap, IntKind.signed, IntKind.bits]; omega
            clear hTVk
            clear lift tk kk k1 hy hv hu hu2 hv2 hin hget hnin hdk
            go_upto_region 15 with fail
            go_cut [119] from 82 to 120 (fun s wx => s = .bool false ∧ Below wr.heap.size wr wx)
            case first =>
              have hba0 := Below.refl wr.heap.size wr
              have hba1 := hba0.drew
              obtain ⟨_, x0⟩ := SK.out _ hba0
              obtain ⟨_, xx0⟩ := SK.out _ hba1
              go_region_held3 (fun W => Below wr.heap.size wr W ∧ W.cell? ⟨ob, o + (k + 1), none⟩ = some (.int .i64 (u : Int)))
                (exact SK.out _ (by assumption))
                (first
                | (go_at_call 21; (with_reducible refine (V1.out _ (by assumption)).mono ?_); rintro e wa ⟨rfl, hba⟩)
                | (go_at_call 21; (with_reducible refine (V2.out _ (by assumption)).mono ?_); rintro e wa ⟨rfl, hba⟩)
                | (go_at_call 23; (with_reducible refine (M1.out _ (by assumption)).mono ?_); rintro e wa ⟨rfl, hba⟩)
                | (go_at_call 22; (with_reducible refine (C1.out _ (by assumption)).mono ?_); rintro e wa ⟨rfl, hba⟩)
                | (go_at_call 22; (with_reducible refine (C2.out _ (by assumption)).mono ?_); rintro e wa ⟨rfl, hba⟩))
              all_goals (go_wp2_with fail; go_meet; exact ⟨rfl, hba⟩)
            case rest =>
              obtain ⟨rfl, hbc⟩ := hcut
              have HB8 := Lib.hid (HB.out.trans (hbc.mono HB.out.size))
              clear hk1 hk2 hk3 hk4 hk5
              go_wp2_with fail
              go_roundw
              case rel => exact ⟨k + 1, by omega, by go_num, HB8.out⟩
              case measure => simp [intOf]; omega
          · obtain rfl : k = T := by omega
            go_wp2_with fail
            go_ret
            exact ⟨rfl, B6.out.trans (HB.out.mono B6.out.size)⟩
end Go.Proofs.Ytgohdhmijfajfaa
