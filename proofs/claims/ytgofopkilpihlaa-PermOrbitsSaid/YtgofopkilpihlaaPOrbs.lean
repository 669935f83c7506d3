/- The walk of the statement on orbits. -/
import Derived.Test.YtgofopkilpihlaaPRow
import Derived.Deep.RegionWith
namespace Go.Proofs.Ytgofopkilpihlaa
open Go.RowKit
set_option linter.unusedVariables false

/-- How many numbers the first k orbits hold. -/
noncomputable def osum (l : List Nat) (k : Nat) : Nat := (((orbits l).take k).map List.length).sum
theorem osum_next (l : List Nat) (k : Nat) (hk : k < (orbits l).length) : osum l (k + 1) = osum l k + ((orbits l).getD k []).length := by
  unfold osum
  rw [List.take_add_one, List.map_append, List.sum_append, List.getD_eq_getElem?_getD, List.getElem?_eq_getElem hk]
  simp only [Option.toList_some, List.map_cons, List.map_nil, List.sum_cons, List.sum_nil, Nat.add_zero, Option.getD_some]
theorem osum_all {l b : List Nat} (h : Inv l b) : osum l (orbits l).length = l.length := by
  unfold osum
  rw [List.take_length]
  exact count_all h
theorem osum_le {l b : List Nat} (h : Inv l b) (k : Nat) : osum l k ≤ l.length := by
  rw [← count_all h]
  unfold osum
  conv => rhs; rw [← List.take_append_drop k (orbits l)]
  rw [List.map_append, List.sum_append]
  exact Nat.le_add_right _ _

set_option maxRecDepth 100000 in
set_option maxHeartbeats 8000000 in
theorem permOrbits_walk (n n1 c1 : Nat) (A1 : Option Addr) (x1 : List Int) (w : World) (hn : n < 256)
    (h1 : Rd w w.heap.size A1 n1 (Z8 x1)) (b1 : ∀ x ∈ x1, 0 ≤ x ∧ x < 256) (l1 : n1 ≤ 9223372036854775807) :
    Calls Try.prog 4 #[.int .u8 (n : Int), .slice A1 n1 c1] w fun e w' => e = .returned (.bool true) ∧ Below w.heap.size w w' := by
  obtain ⟨k, hk, hk25⟩ : ∃ k : Nat, (n : Int) % 25 = (k : Int) ∧ k < 25 := ⟨n % 25, by omega, by omega⟩
  go_enter Try.func4, Try.ntmps4
  go_wp2_with fail
  refine (awake_p _).mono ?_
  rintro e w1 ⟨rfl, hb1⟩
  go_wp2_with fail
  refine (mix_p k n1 c1 _ A1 x1 _ (h1.below hb1) b1 (by omega) l1).mono ?_
  rintro e w2 ⟨l, b, il, hll, D, kD, rfl, hkD, hmD, hown2, hb2⟩
  have hB := hb1.trans (hb2.mono hb1.size)
  have rl := Rd.ofOwn hown2
  clear h1 b1 hown2 hb1 hb2
  rw [ofN_len] at rl hkD ⊢
  obtain rfl := hll
  go_wp2_with fail
  refine (of_good D _ _ _ l b _ rl il (by omega)).mono ?_
  rintro e w3 ⟨g, rfl, hp, hb3⟩
  have hB := hB.trans (hb3.mono hB.size)
  have rl := (rl.lt).below hb3
  have rl := rl.up hb3.size
  clear hb3
  go_wp2_with fail
  refine (rnames_p D _ _ l b _ rl il (by omega)).mono ?_
  rintro e w4 ⟨E, kE, rfl, hkE, hmE, hownE, hb4⟩
  have hB := hB.trans (hb4.mono hB.size)
  have rl := rl.more hb4
  have hp := hp.below hb4
  have rn := Rd.ofOwn hownE
  clear hb4 hownE
  rw [ofN_len, names_len] at rn hkE ⊢
  go_wp2_with fail
  refine (orbits_p g l b _ hp).mono ?_
  rintro e w5 ⟨F, kF, vs, rfl, hkF, hov, hrows, hb5⟩
  have hB := hB.trans (hb5.mono hB.size)
  have rl := rl.more hb5
  have rn := rn.lt.more hb5
  have hp := hp.below hb5
  have ro := Rd.ofOwn hov
  clear hov hb5
  go_wp2_with fail
  refine (names_p g l b _ hp).mono ?_
  rintro e w6 ⟨G, kG, rfl, hkG, hmG, hownG, hb6⟩
  have hB := hB.trans (hb6.mono hB.size)
  have rl := rl.more hb6
  have rn := rn.more hb6
  have ro := ro.lt.more hb6
  have hp := hp.below hb6
  have hrows := hrows.below hb6
  have rm := Rd.ofOwn hownG
  clear hownG hb6
  rw [ofN_len, names_len] at rm hkG ⊢
  go_wp2_with fail
  refine (equalI_any G E _ _ _ _ _ _ (ofN (names l)) (ofN (names l)) _ rm rn (by omega) (by omega)).mono ?_
  rintro e w7 ⟨he, d7, rfl⟩
  rw [decide_eq_true rfl] at he
  subst he
  have hB := below_draws hB d7
  have rl := rl.more (below_draws (Below.refl _ _) d7)
  have rn := rn.more (below_draws (Below.refl _ _) d7)
  have ro := ro.more (below_draws (Below.refl _ _) d7)
  have hp := hp.drewN d7
  have hrows := hrows.below (below_draws (Below.refl _ _) d7)
  clear rm
  generalize hv7 : World.drewN _ d7 = y7 at *
  clear hv7
  go_wp2_with fail
  refine (rcount_p D _ _ l b _ rl il (by omega)).mono ?_
  rintro e w8 ⟨rfl, hb8⟩
  have hB := hB.trans (hb8.mono hB.size)
  have rl := rl.more hb8
  have rn := rn.more hb8
  have ro := ro.more hb8
  have hp := hp.below hb8
  have hrows := hrows.below hb8
  clear hb8
  have hne : (((orbits l).length : Int) != ((orbits l).length : Int)) = false := by simp
  go_wp2_with fail
  have HIL := Lib.hid il
  have HROWS := Lib.hid hrows
  obtain ⟨M, hM⟩ : ∃ M, M = (orbits l).length := ⟨_, rfl⟩
  have HM := Lib.hid hM
  have hMl : M ≤ 25 := by
    have : (orbits l).length ≤ l.length := by
      unfold orbits leads
      rw [List.length_map]
      exact Nat.le_trans (List.length_filter_le _ _) (by rw [List.length_range]; exact Nat.le_refl _)
    omega
  rw [← hM] at ro hkF hne ⊢
  clear hM hne hrows
  have HS : Hid (∀ k, k < M → osum l (k + 1) = osum l k + ((orbits l).getD k []).length ∧ osum l (k + 1) ≤ l.length) := fun k hk => ⟨osum_next l k (by rw [← HM.out]; exact hk), osum_le il (k + 1)⟩
  have HSE : Hid (osum l M = l.length) := by show _ = _; rw [HM.out]; exact osum_all il
  go_loopw [10, 49] (fun s v wr => ∃ k S : Nat, k ≤ M ∧ Hid (S = osum l k) ∧ S ≤ l.length ∧ s = .int .i64 (S : Int) ∧ v = .int .i64 (k : Int) ∧ Below w8.heap.size w8 wr) (fun _ v _ => M - (intOf v).toNat)
  case atStart => exact ⟨0, 0, by omega, by show 0 = _; simp [osum], by omega, rfl, rfl, Below.refl _ _⟩
  case round =>
    obtain ⟨k, S, hk, hS, hSl, rfl, rfl, hbl⟩ := hrel
    have rlR := rl.more hbl
    have rnR := rn.more hbl
    have roR := ro.more hbl
    have hpR := hp.below hbl
    have hBR := hB.trans (hbl.mono hB.size)
    have hrR := HROWS.out.below hbl
    by_cases hlt : k < M
    · obtain ⟨Ak, ck, hvk, hck, hok⟩ := hrR.2 k (by rw [← HM.out]; exact hlt)
      have rk := Rd.ofOwn hok
      obtain ⟨O, hO⟩ : ∃ O, O = (orbits l).getD k [] := ⟨_, rfl⟩
      obtain ⟨i, hi⟩ : ∃ i, i = (leads l l.length).getD k 0 := ⟨_, rfl⟩
      have hOi : O = orb l i := by rw [hO, hi]; exact orbits_get l k (by rw [← HM.out]; exact hlt)
      obtain ⟨hil, hL⟩ := lead_get (l := l) (k := k) (by rw [← HM.out]; exact hlt)
      rw [← hi] at hil hL
      rw [← hO] at hvk hck rk
      obtain ⟨hs1, hs2⟩ := HS.out k hlt
      rw [← hO] at hs1
      rw [hs1] at hs2
      obtain ⟨P, hP⟩ : ∃ P, P = O.length := ⟨_, rfl⟩
      have hP1 : 1 ≤ P := by rw [hP, hOi]; unfold orb; rw [way_len]; exact (per_is il hil).1
      have hPl : P ≤ l.length := by rw [hP, hOi]; unfold orb; rw [way_len]; exact per_le il hil
      have hS2 : S + P ≤ l.length := by rw [hS.out, hP]; exact hs2
      have HSN : Hid (S + P = osum l (k + 1)) := by show _ = _; rw [hs1, hS.out, hP]
      have hO0 : O.getD 0 0 = i := by rw [hOi]; unfold orb; rw [way_get _ _ _ _ (by have := (per_is il hil).1; omega)]; rfl
      have HMIN : Hid (∀ j, j < P → i ≤ O.getD j 0) := fun j hj => by
        have hm : O.getD j 0 ∈ orb l i := by rw [← hOi]; exact getD_mem O j (by rw [← hP]; exact hj)
        have hx := orb_lt il hil hm
        have h1 := lead_eq il hx hil hL hm
        have h2 := (lead_is il hx).1
        omega
      have HOO := Lib.hid hO
      have HOI := Lib.hid hOi
      have HO0 := Lib.hid hO0
      have HP := Lib.hid hP
      rw [← hP] at rk hck hvk
      obtain ⟨bF, oF, rfl, hbF, hcF⟩ := roR.at_ (by omega)
      have hvl : vs.length = M := roR.len
      have tF := hcF k (by rw [hvl]; exact hlt)
      have tk : vs[k]'(by rw [hvl]; exact hlt) = .slice Ak P ck := by
        have h := hvk
        rw [List.getElem?_eq_getElem (by rw [hvl]; exact hlt)] at h
        exact Option.some.inj h
      rw [tk] at tF
      obtain ⟨bk, ok_, rfl, hbk, hck2⟩ := rk.i64 (by omega)
      have tk0 := hck2 0 (by omega)
      rw [ofN_get, HO0.out, Nat.add_zero] at tk0
      clear tk hcF hck2 hvk hs1 hs2 hO hi hOi hO0 hP hrR hvl roR hL hok
      have RO : Hid (∀ w', Below wr.heap.size wr w' → Calls Try.prog 24 #[.slice D l.length kD, .int .i64 (i : Int)] w' (NewI64 w' (ofN O))) := fun w' hb => by
        rw [HOI.out]
        exact rorbit_p D kD _ l b i w' (rlR.below hb) HIL.out (by omega) hil
      have EQ : Hid (∀ A c B w', Rd w' B A P (I64 (ofN O)) → Below wr.heap.size wr w' → Calls Try.prog 17 #[.slice (some ⟨bk, ok_, none⟩) P ck, .slice A P c] w' fun e w'' => e = .returned (.bool true) ∧ Below wr.heap.size wr w'') := fun A c B w' hr hb =>
        (equalI_any _ A P ck P c _ B (ofN O) (ofN O) w' (rk.below hb) hr (by omega) (by omega)).mono fun e w'' ⟨he, d, hw⟩ => ⟨by rw [he, decide_eq_true rfl], by rw [hw]; exact below_draws hb d⟩
      have MN : Hid (∀ w', Below wr.heap.size wr w' → Calls Try.prog 25 #[.slice (some ⟨bk, ok_, none⟩) P ck] w' fun e w'' => e = .returned (.int .i64 (i : Int)) ∧ w' = w'') := fun w' hb => by
        have := min_first (some ⟨bk, ok_, none⟩) P ck _ (ofN O) w' (rk.below hb) (by omega) (by omega) (fun j hj => by rw [ofN_get, ofN_get, HO0.out]; have := HMIN.out j hj; omega)
        rwa [ofN_get, HO0.out] at this
      have TK : Hid (∀ w', Below wr.heap.size wr w' → w'.cell? ⟨bk, ok_, none⟩ = some (.int .i64 (i : Int))) := fun w' hb => by
        obtain ⟨b2, o2, h2, _, hc⟩ := (rk.below hb).i64 (by omega)
        cases h2
        have := hc 0 (by omega)
        rwa [ofN_get, HO0.out, Nat.add_zero] at this
      have hlO : Hid ((ofN O).length = P) := by show _ = _; rw [ofN_len, HP.out]
      have hni : ((i : Int) != (i : Int)) = false := by simp
      go_upto_region 14 with fail
      go_cut [73] from 58 to 74 (fun s wx => s = .bool false ∧ Below wr.heap.size wr wx)
      case first =>
        go_region_with (first
          | (go_at_call 24; refine (RO.out _ (Below.refl _ _).drew).mono ?_; rintro e w9 ⟨A9, c9, rfl, hc9, hm9, hown9, hb9⟩; rw [hlO.out] at hown9 ⊢; have hbx9 := (Below.refl wr.heap.size wr).drew.trans (hb9.mono (Below.refl wr.heap.size wr).drew.size); have r9 := Rd.ofOwn hown9; clear hown9 hb9)
          | (go_at_call 17; refine (EQ.out _ _ _ _ r9 hbx9).mono ?_; rintro e w10 ⟨rfl, hbx10⟩; have tk10 := TK.out _ hbx10)
          | (go_at_call 25; refine (MN.out _ hbx10).mono ?_; rintro e w11 ⟨rfl, rfl⟩))
        all_goals (go_wp2_with fail; go_meet; exact ⟨rfl, hbx10⟩)
      case rest =>
        obtain ⟨rfl, hbx⟩ := hcut
        have HMEM : Hid (∀ j, j < P → O.getD j 0 < l.length ∧ (names l).getD (O.getD j 0) 0 = k) := fun j hj => by
          have hm0 : O.getD j 0 ∈ O := getD_mem O j (by rw [← HP.out]; exact hj)
          have hm : O.getD j 0 ∈ orb l i := by rw [← HOI.out]; exact hm0
          have hx := orb_lt HIL.out hil hm
          refine ⟨hx, ?_⟩
          rw [names_get _ _ hx]
          exact (name_row HIL.out (by rw [← HM.out]; exact hlt) hx).2 (by rw [← HOO.out]; exact hm0)
        have rlX := rlR.more hbx
        have rnX := rnR.more hbx
        have hpX := hpR.below hbx
        have rkX := (rk.lt).more hbx
        clear RO EQ MN TK rk tk0 tF HMIN rlR rnR hpR
        have hxs := hbx.size
        go_wp2_with fail
        go_loopw [14, 76] (fun u v wy => ∃ j : Nat, j ≤ P ∧ v = .int .i64 (j : Int) ∧ Below wc.heap.size wc wy) (fun _ v _ => P - (intOf v).toNat)
        case atStart => exact ⟨0, by omega, rfl, Below.refl _ _⟩
        case round =>
          obtain ⟨j, hj, rfl, hby⟩ := hrel
          by_cases hjP : j < P
          · obtain ⟨hxl, hxk⟩ := HMEM.out j hjP
            have rlY := rlX.more hby
            have rnY := rnX.more hby
            have hpY := hpX.below hby
            obtain ⟨bE, oE, rfl, hbE, hcE⟩ := rnY.i64 (by omega)
            obtain ⟨b3, o3, h3, hb3, hc3⟩ := (rkX.more hby).i64 (by omega)
            cases h3
            have tE := hcE (O.getD j 0) hxl
            have t3 := hc3 j hjP
            rw [ofN_get] at tE t3
            rw [hxk] at tE
            have hnk : ((k : Int) != (k : Int)) = false := by simp
            have hHX := Lib.hid hxk
            have OP : Hid (Calls Try.prog 26 #[.pointer (some ⟨g, 0, none⟩), .int .i64 ((O.getD j 0 : Nat) : Int)] wr (NewI64 wr (ofN (orb l (O.getD j 0))))) := orbit_p g l b _ wr hpY hxl
            have OR : Hid (∀ w', Below wr.heap.size wr w' → Calls Try.prog 24 #[.slice D l.length kD, .int .i64 ((O.getD j 0 : Nat) : Int)] w' (NewI64 w' (ofN (orb l (O.getD j 0))))) := fun w' hb => rorbit_p D kD _ l b _ w' (rlY.below hb) HIL.out (by omega) hxl
            clear hcE hc3 rlY rnY hpY hxk
            have hpl : (orb l (O.getD j 0)).length ≤ 25 := by unfold orb; rw [way_len]; have := per_le HIL.out hxl; omega
            generalize orb l (O.getD j 0) = OX at *
            generalize O.getD j 0 = x at *
            go_wp2_with fail
            refine OP.out.mono ?_
            rintro e w9 ⟨A9, c9, rfl, hc9, hm9, hown9, hb9⟩
            have r9 := Rd.ofOwn hown9
            rw [ofN_len] at r9 ⊢
            clear hown9
            go_wp2_with fail
            refine (OR.out _ hb9).mono ?_
            rintro e w10 ⟨A10, c10, rfl, hc10, hm10, hown10, hb10⟩
            have r10 := Rd.ofOwn hown10
            have r9 := r9.below hb10
            rw [ofN_len] at r10 ⊢
            have hb10' := hb9.trans (hb10.mono hb9.size)
            clear hown10
            go_wp2_with fail
            refine (equalI_any A9 A10 _ _ _ _ _ _ (ofN OX) (ofN OX) _ r9 r10 (by omega) (by omega)).mono ?_
            rintro e w11 ⟨he, d11, rfl⟩
            rw [decide_eq_true rfl] at he
            subst he
            go_wp2
            go_roundw
            case rel => exact ⟨j + 1, by omega, by go_num, hby.trans ((below_draws hb10' d11).mono hby.size)⟩
            case measure => simp [intOf]; omega
          · obtain rfl : j = P := by omega
            go_wp2
            go_roundw
            case rel => exact ⟨k + 1, S + j, by omega, HSN, hS2, by go_num, by go_num, hbl.trans ((hbx.trans (hby.mono hxs)).mono hbl.size)⟩
            case measure => simp [intOf]; omega
    · obtain rfl : k = M := by omega
      have hSL : S = l.length := by rw [hS.out, HSE.out]
      subst hSL
      clear rlR rnR roR hrR
      go_wp2_with fail
      refine (orbit_out g l b (-1) _ hpR (.inl (by omega))).mono ?_
      rintro e w9 ⟨rfl, rfl⟩
      go_wp2_with fail
      refine (orbit_out g l b _ _ hpR (.inr (by omega))).mono ?_
      rintro e w9 ⟨rfl, rfl⟩
      go_wp2
      go_ret
      exact ⟨rfl, hBR⟩
end Go.Proofs.Ytgofopkilpihlaa
