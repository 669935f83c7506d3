/- DartSums: faces and vertices have each dart once. -/
import Derived.Test.YtafgjfdbmijgcaaDSumsM
import Derived.Test.YtafgjfdbmijgcaaRegion
import Derived.BigQuiet
import Derived.Deep.RegionHeld3
import Derived.Deep.DeepCutAuto
namespace Go.Proofs.Ytafgjfdbmijgcaa
open Go.RowKit Go.Maps
set_option linter.unusedVariables false

set_option maxRecDepth 20000 in
set_option maxHeartbeats 8000000 in
theorem dartSums_walk (A0 : Option Addr) (n m c r lo : Nat) (by_ : List Int) (w : World) (h0 : Rd w w.heap.size A0 m (Z8 by_)) (hb0 : ∀ x ∈ by_, 0 ≤ x ∧ x < 256) (hmc : m ≤ c) (hcm : c ≤ maxLen) (hn : n < 256) (hr : r < 256) (hlo : lo < 256) :
    Calls Try.prog 8 #[.int .u8 (n : Int), .slice A0 m c, .int .u8 (r : Int), .int .u8 (lo : Int)] w fun e w' => e = .returned (.bool true) ∧ Below w.heap.size w w' := by
  unfold maxLen at hcm
  have AW := Lib.hid (dawake_p w)
  have H0 := Lib.hid h0
  have HB0 := Lib.hid hb0
  have hmm := @run_makeMap Try.prog
  clear h0 hb0
  go_enter Try.func8, Try.ntmps8
  go_wp2_with fail
  refine AW.out.mono ?_
  rintro e w1 ⟨rfl, b1⟩
  have MD := Lib.hid (made_p n r lo m c _ A0 by_ w1 (H0.out.below b1) HB0.out b1.size hn hr hlo (by omega))
  have B1 := Lib.hid b1
  clear b1 AW
  go_wp2_with fail
  refine MD.out.mono ?_
  rintro e w2 ⟨g, v, l, b, root, rfl, hmap, hrm, hl, hroot, b2⟩
  generalize hq0 : lo % 5 = q0 at hmap hrm
  have hq5 : q0 < 5 := by omega
  obtain ⟨hinv, A, cA, hla, rfl, hlc, hcA, hrA⟩ := hrm
  have hbx := (Below.refl w2.heap.size w2).alloc (Nat.le_refl _) (.cells #[.slice A l.length cA, .int .i64 root, .int .i64 (q0 : Int)] 36)
  have HX := Lib.hid (Blk.new w2 36 #[.slice A l.length cA, .int .i64 root, .int .i64 (q0 : Int)])
  have HM := Lib.hid (hmap.below hbx)
  have HI := Lib.hid hinv
  have hl20 : l.length ≤ 18 := by have := Nat.mod_lt n (show 0 < 10 by decide); omega
  have HEV : Hid (l.length % 2 = 0) := by show _ = _; omega
  have B2 : Hid (Below w.heap.size w w2) := B1.out.trans (b2.mono B1.out.size)
  have B3 : Hid (Below w.heap.size w (w2.alloc (.cells #[.slice A l.length cA, .int .i64 root, .int .i64 (q0 : Int)] 36))) := B2.out.trans (hbx.mono B2.out.size)
  clear hmap hbx hrA hinv b2 hq0 B1 MD hl hroot hlc hcA hla
  go_upto_region 4 with fail
  generalize hw3 : w2.alloc (.cells #[.slice A l.length cA, .int .i64 root, .int .i64 (q0 : Int)] 36) = w3 at *
  have hX3 : w2.heap.size < w3.heap.size := by rw [← hw3]; simp
  have x0 : w3.cell? ⟨w2.heap.size, 0, none⟩ = some (.slice A l.length cA) := HX.out.cell 0
  clear hw3 HX B2
  generalize w2.heap.size = gx at *
  have OW1 : Hid (OwnM (w3.alloc (.map #[] 0)) w3.heap.size 0 (.map [])) := World.ownsMap_made _ _ _ _
  have OW2 : Hid (OwnM ((w3.alloc (.map #[] 0)).alloc (.map #[] 0)) (w3.heap.size + 1) 0 (.map [])) := by
    have hs : (w3.alloc (.map #[] 0)).heap.size = w3.heap.size + 1 := by simp
    show OwnM _ _ _ _
    rw [← hs]
    exact World.ownsMap_made _ _ _ _
  have BX : Hid (Below w3.heap.size w3 ((w3.alloc (.map #[] 0)).alloc (.map #[] 0))) := ((Below.refl _ _).alloc (Nat.le_refl _) _).alloc (by simp) _
  go_wp2_with fail
  clear hmm
  go_loopw [30] (fun i wr => ∃ (k : Nat) (D1 D2 : DataW Unit), k ≤ l.length ∧ i = .int .i64 (k : Int) ∧ Hid (OwnM wr w3.heap.size k D1) ∧ Hid (OwnM wr (w3.heap.size + 1) k D2) ∧ Hid (MC D1 (phiL l) k) ∧ Hid (MC D2 l k) ∧ Below w3.heap.size w3 wr) (fun i _ => l.length - (intOf i).toNat)
  case atStart => exact ⟨0, .map [], .map [], by omega, rfl, World.ownsMap.alloc OW1.out _, OW2.out, MC.zero _, MC.zero _, BX.out⟩
  case round =>
    clear OW1 OW2 BX
    obtain ⟨k, D1, D2, hk, rfl, ho1, ho2, hm1, hm2, hbl⟩ := hrel
    by_cases hlt : k < l.length
    · have MM := Lib.hid (HM.out.below hbl)
      have hlp : k < (phiL l).length := by rw [phiL_len]; exact hlt
      have FC := Lib.hid (face_in g l b root q0 k wr MM.out hlt)
      obtain ⟨x, hx⟩ : ∃ x, Hid (x = nameOf (phiL l) k) := ⟨_, rfl⟩
      obtain ⟨y, hy⟩ : ∃ y, Hid (y = nameOf l k) := ⟨_, rfl⟩
      have hx18 : x ≤ 18 := by
        have h1 := name_lt (phi_inv HI.out HEV.out) hlp
        have h2 := sizes_le (phiL l)
        rw [sizes_len, phiL_len] at h2
        rw [hx.out]; omega
      have hy18 : y ≤ 18 := by
        have h1 := name_lt HI.out hlt
        have h2 := sizes_le l
        rw [sizes_len] at h2
        rw [hy.out]; omega
      rw [← hx.out] at FC
      obtain ⟨cx, hcx⟩ : ∃ cx, Hid (cx = cntN (phiL l) k x) := ⟨_, rfl⟩
      obtain ⟨cy, hcy⟩ : ∃ cy, Hid (cy = cntN l k y) := ⟨_, rfl⟩
      have hcx18 : cx ≤ 18 := by have := cntN_le (phiL l) k x; rw [hcx.out]; omega
      have hcy18 : cy ≤ 18 := by have := cntN_le l k y; rw [hcy.out]; omega
      have hsz3 := hbl.size
      go_wp2_with fail
      refine FC.out.mono ?_
      rintro e v1 ⟨rfl, c1⟩
      have o1 := own_map_below ho1.out c1
      have lk1 := look_m o1 hm1.out x (by omega)
      rw [← hcx.out] at lk1
      have O2 := Lib.hid (own_map_below ho2.out c1)
      have O1 := Lib.hid o1
      clear o1 FC
      go_wp2_with (first
        | (at_mapUpdate; refine wpList_mapUpdate_own _ rfl _ _ _ 49 rfl 3 3 mlaw Try.underlying49 (plainElem Try.prog 3) w3.heap.size k D1 rfl O1.out (by unfold maxLen; omega) _ _ (kI x) rfl rfl (mkey x (by omega)) (.lit (.int .i64 ((cx : Int) + 1))) [] (plainElem_int Try.underlying3 (WalkArith.wf_i64 (by omega))) ?_; intro v2 hown1 hgrow1))
      have S1 := hm1.out.step (phi_inv HI.out HEV.out) hlp
      rw [← hx.out, ← hcx.out] at S1
      have HS1 := Lib.hid S1
      have HO1 := Lib.hid hown1
      have HO2 := Lib.hid (World.ownsMap.kept O2.out hgrow1 (by simp))
      have B3v : Hid (Below w3.heap.size w3 v2) := (hbl.trans (c1.mono hsz3)).grown hgrow1 (Nat.le_trans hsz3 c1.size) (fun j hj => by cases hj; exact Nat.le_refl _)
      have VC := Lib.hid (vertex_in g l b root q0 k v2 (HM.out.below B3v.out) hlt)
      rw [← hy.out] at VC
      clear O1 O2 c1 hown1 hgrow1 S1 lk1 ho1 ho2 hm1 MM hbl hsz3
      refine VC.out.mono ?_
      rintro e v3 ⟨rfl, c3⟩
      have o2 := own_map_below HO2.out c3
      have lk2 := look_m o2 hm2.out y (by omega)
      rw [← hcy.out] at lk2
      have O2 := Lib.hid o2
      have O1 := Lib.hid (own_map_below HO1.out c3)
      have B3w : Hid (Below w3.heap.size w3 v3) := B3v.out.trans (c3.mono B3v.out.size)
      clear o2 VC HO1 HO2 c3 B3v
      go_wp2_with (first
        | (at_mapUpdate; refine wpList_mapUpdate_own _ rfl _ _ _ 49 rfl 3 3 mlaw Try.underlying49 (plainElem Try.prog 3) (w3.heap.size + 1) k D2 rfl O2.out (by unfold maxLen; omega) _ _ (kI y) rfl rfl (mkey y (by omega)) (.lit (.int .i64 ((cy : Int) + 1))) [] (plainElem_int Try.underlying3 (WalkArith.wf_i64 (by omega))) ?_; intro v4 hown2 hgrow2))
      have S2 := hm2.out.step HI.out hlt
      rw [← hy.out, ← hcy.out] at S2
      have HS2 := Lib.hid S2
      have HO2 := Lib.hid hown2
      have HO1 := Lib.hid (World.ownsMap.kept O1.out hgrow2 (by simp))
      have B3x : Hid (Below w3.heap.size w3 v4) := B3w.out.grown hgrow2 B3w.out.size (fun j hj => by cases hj; exact Nat.le_succ _)
      have MX := Lib.hid (HM.out.below B3x.out)
      clear O1 O2 hown2 hgrow2 S2 lk2 hm2 hx hy hcx hcy B3w
      have lift : ∀ {f : Nat} {xs : Array Value} {v : Value}, (∀ w', MapAt w' g l b root q0 → Calls Try.prog f xs w' fun e w'' => e = .returned v ∧ Below w'.heap.size w' w'') → Hid (∀ w', Below v4.heap.size v4 w' →
          Calls Try.prog f xs w' fun e w'' => e = .returned v ∧ Below v4.heap.size v4 w'') := fun h w' hb =>
        (h w' (MX.out.below hb)).mono fun e w'' ⟨he, h2⟩ => ⟨he, hb.trans (h2.mono hb.size)⟩
      have hml := mateN_lt HEV.out hlt
      obtain ⟨ph, hph⟩ : ∃ ph, ph = (phiL l).getD k 0 := ⟨_, rfl⟩
      have hphl : ph < l.length := by
        have := (phi_inv HI.out HEV.out).lt k hlp
        rw [phiL_len, ← hph] at this
        exact this
      have C1 := lift fun w' hm => phi_in g l b root q0 k w' hm hlt
      have C2 := lift fun w' hm => mback_in g l b root q0 ph w' hm hphl
      have C3 := lift fun w' hm => mate_in g l b root q0 k w' hm hlt
      have C4 := lift fun w' hm => mate_in g l b root q0 (mateN k) w' hm hml
      have C5 := lift fun w' hm => mback_in g l b root q0 k w' hm hlt
      have C6 := lift fun w' hm => sigma_in g l b root q0 (b.getD k 0) w' hm (HI.out.lt' k hlt)
      have e2 : b.getD ph 0 = mateN k := by rw [hph, phiL_get _ _ hlt]; exact HI.out.lb (mateN k) hml
      have e4 : mateN (mateN k) = k := mateN_twice k
      have e6 : l.getD (b.getD k 0) 0 = k := HI.out.bl k hlt
      rw [← hph] at C1
      rw [e2] at C2
      rw [e4] at C4
      rw [e6] at C6
      clear lift e2 e4 e6 hph hml MX
      generalize mateN k = mk at *
      generalize b.getD k 0 = bk at *
      go_wp2_with fail
      refine (C1.out _ (Below.refl _ _)).mono ?_
      rintro e y1 ⟨rfl, hy1⟩
      clear C1
      go_wp2_with fail
      refine (C2.out _ hy1).mono ?_
      rintro e y2 ⟨rfl, hy2⟩
      clear C2 hy1
      go_wp2_with fail
      refine (C3.out _ hy2).mono ?_
      rintro e y3 ⟨rfl, hy3⟩
      clear hy2
      go_wp2_with fail
      refine (C3.out _ hy3).mono ?_
      rintro e y4 ⟨rfl, hy4⟩
      clear C3 hy3
      go_wp2_with fail
      refine (C4.out _ hy4).mono ?_
      rintro e y5 ⟨rfl, hy5⟩
      clear C4 hy4
      go_wp2_with fail
      refine (C5.out _ hy5).mono ?_
      rintro e y6 ⟨rfl, hy6⟩
      clear C5 hy5
      go_wp2_with fail
      refine (C6.out _ hy6).mono ?_
      rintro e y7 ⟨rfl, hy7⟩
      clear C6 hy6
      go_wp2_with fail
      go_roundw
      case rel => exact ⟨k + 1, _, _, by omega, by go_num, own_map_below HO1.out hy7, own_map_below HO2.out hy7, HS1.out, HS2.out, B3x.out.trans (hy7.mono B3x.out.size)⟩
      case measure => simp [intOf]; omega
    · obtain rfl : k = l.length := by omega
      obtain ⟨wd, rfl⟩ : ∃ wd : World, wd = wr := ⟨_, rfl⟩
      have BD : Hid (Below w.heap.size w wd) := B3.out.trans (hbl.mono B3.out.size)
      have MM := Lib.hid (HM.out.below hbl)
      have hXd : gx < wd.heap.size := by have := hbl.size; omega
      have xd := (hbl.cell (p := ⟨gx, 0, none⟩) hX3).trans x0
      clear hbl HM B3 x0 hX3
      generalize w3.heap.size = gm at *
      go_wp2_with fail
      go_loopw [76] (fun i wr => ∃ k : Nat, k ≤ l.length ∧ i = .int .i64 (k : Int) ∧ Below wd.heap.size wd wr) (fun i _ => l.length - (intOf i).toNat)
      case atStart => exact ⟨0, by omega, rfl, Below.refl _ _⟩
      case round =>
        obtain ⟨k, hk, rfl, hby⟩ := hrel
        by_cases hlt : k < l.length
        · have hlp : k < (phiL l).length := by rw [phiL_len]; exact hlt
          have M2 := Lib.hid (MM.out.below hby)
          have e1 := cnt_orb (phi_inv HI.out HEV.out) hlp
          have e2 := cnt_orb HI.out hlt
          rw [phiL_len] at e1
          have hx18 : nameOf (phiL l) k ≤ 18 := by
            have h1 := name_lt (phi_inv HI.out HEV.out) hlp
            have h2 := sizes_le (phiL l)
            rw [sizes_len, phiL_len] at h2
            omega
          have hy18 : nameOf l k ≤ 18 := by
            have h1 := name_lt HI.out hlt
            have h2 := sizes_le l
            rw [sizes_len] at h2
            omega
          have LK : Hid (∀ w', Below wr.heap.size wr w' → (Instr.lookup 49 (.map (some gm)) (.int .i64 ((nameOf (phiL l) k : Nat) : Int)) false).run Try.prog w' = .ok (.int .i64 (((orb (phiL l) k).length : Nat) : Int)) w' ∧
              (Instr.lookup 49 (.map (some (gm + 1))) (.int .i64 ((nameOf l k : Nat) : Int)) false).run Try.prog w' = .ok (.int .i64 (((orb l k).length : Nat) : Int)) w') := fun w' hb => by
            have a1 := look_m (own_map_below (own_map_below ho1.out hby) hb) hm1.out (nameOf (phiL l) k) (by omega)
            have a2 := look_m (own_map_below (own_map_below ho2.out hby) hb) hm2.out (nameOf l k) (by omega)
            rw [e1] at a1
            rw [e2] at a2
            exact ⟨a1, a2⟩
          have lift : ∀ {f : Nat} {xs : Array Value} {v : Value}, (∀ w', MapAt w' g l b root q0 → Calls Try.prog f xs w' fun e w'' => e = .returned v ∧ Below w'.heap.size w' w'') → Hid (∀ w', Below wr.heap.size wr w' →
              Calls Try.prog f xs w' fun e w'' => e = .returned v ∧ Below wr.heap.size wr w'') := fun h w' hb =>
            (h w' (M2.out.below hb)).mono fun e w'' ⟨he, h2⟩ => ⟨he, hb.trans (h2.mono hb.size)⟩
          have K1 := lift fun w' hm => face_in g l b root q0 k w' hm hlt
          have K3 := lift fun w' hm => vertex_in g l b root q0 k w' hm hlt
          have lift2 : ∀ {f : Nat} {xs : Array Value} {z : List Nat}, (∀ w', MapAt w' g l b root q0 → Calls Try.prog f xs w' (NewI64 w' (ofN z))) → Hid (∀ w', Below wr.heap.size wr w' →
              Calls Try.prog f xs w' fun e w'' => ∃ A9 c9, e = .returned (.slice A9 z.length c9) ∧ Below wr.heap.size wr w'') := fun h w' hb =>
            (h w' (M2.out.below hb)).mono fun e w'' ⟨A9, c9, he, _, _, _, h2⟩ => ⟨A9, c9, by rw [ofN_len] at he; exact he, hb.trans (h2.mono hb.size)⟩
          have K2 := lift2 fun w' hm => border_in g l b root q0 k w' hm hlt
          have K4 := lift2 fun w' hm => around_in g l b root q0 k w' hm hlt
          clear lift lift2 e1 e2 hlp M2
          generalize (orb (phiL l) k).length = nx at *
          generalize (orb l k).length = ny at *
          generalize nameOf (phiL l) k = x at *
          generalize nameOf l k = y at *
          go_upto_region 16 with fail
          go_cut [100] from 79 to 101 (fun s wx => s = .bool false ∧ Below wr.heap.size wr wx)
          case first =>
            have d0 : Below wr.heap.size wr wr.drew := (Below.refl _ _).drew
            obtain ⟨lka, lkb⟩ := LK.out _ d0
            go_region_held3 (fun w' => Below wr.heap.size wr w')
              (assumption)
              (first
              | (go_at_call 31; (with_reducible refine (K1.out _ (by assumption)).mono ?_); rintro e wa ⟨rfl, hba⟩; obtain ⟨lka, lkb⟩ := LK.out _ hba)
              | (go_at_call 29; (with_reducible refine (K2.out _ (by assumption)).mono ?_); rintro e wa ⟨A9, c9, rfl, hba⟩; obtain ⟨lka, lkb⟩ := LK.out _ hba)
              | (go_at_call 30; (with_reducible refine (K3.out _ (by assumption)).mono ?_); rintro e wa ⟨rfl, hba⟩; obtain ⟨lka, lkb⟩ := LK.out _ hba)
              | (go_at_call 27; (with_reducible refine (K4.out _ (by assumption)).mono ?_); rintro e wa ⟨A9, c9, rfl, hba⟩; obtain ⟨lka, lkb⟩ := LK.out _ hba))
            all_goals (go_wp2_with fail; go_meet; exact ⟨rfl, hba⟩)
          case rest =>
            obtain ⟨rfl, hbc⟩ := hcut
            go_wp2_with fail
            go_roundw
            case rel => exact ⟨k + 1, by omega, by go_num, hby.trans (hbc.mono hby.size)⟩
            case measure => simp [intOf]; omega
        · obtain rfl : k = l.length := by omega
          have M2 := Lib.hid (MM.out.below hby)
          obtain ⟨nb, hnb⟩ : ∃ nb, nb = (sizes (phiL l)).length := ⟨_, rfl⟩
          obtain ⟨nv, hnv⟩ : ∃ nv, nv = (sizes l).length := ⟨_, rfl⟩
          have hz1 : Maps.size D1 = nb := by
            rw [hnb, hm1.out.size_]; unfold sizes; rw [sizesTo_len, phiL_len]
          have hz2 : Maps.size D2 = nv := by
            rw [hnv, hm2.out.size_]; unfold sizes; rw [sizesTo_len]
          have hnv18 : nv ≤ 18 := by have := sizes_le l; omega
          have LN : Hid (∀ w', Below wr.heap.size wr w' → ∀ ty, (Builtin.len_ #[49] ty #[.map (some gm)]).run Try.prog w' = .ok (.int .i64 (nb : Int)) w') := fun w' hb ty => by
            have := World.ownsMap.len (own_map_below (own_map_below ho1.out hby) hb) Try.underlying49 ty
            rwa [hz1] at this
          have LM : Hid (∀ w', Below wr.heap.size wr w' → ∀ ty, (Builtin.len_ #[49] ty #[.map (some (gm + 1))]).run Try.prog w' = .ok (.int .i64 (nv : Int)) w') := fun w' hb ty => by
            have := World.ownsMap.len (own_map_below (own_map_below ho2.out hby) hb) Try.underlying49 ty
            rwa [hz2] at this
          have C1 := borders_p g l b root q0 wr M2.out
          rw [← hnb] at C1
          have C2 : Hid (∀ w', Below wr.heap.size wr w' → Calls Try.prog 35 #[.pointer (some ⟨g, 0, none⟩)] w' fun e w'' => e = .returned (.int .i64 ((nv : Int) + (q0 : Int))) ∧ Below w'.heap.size w' w'') := fun w' hb => by
            have := vertices_p g l b root q0 w' (M2.out.below hb)
            rwa [← hnv] at this
          have C3 : Hid (∀ w', Below wr.heap.size wr w' → Calls Try.prog 16 #[.pointer (some ⟨g, 0, none⟩)] w' fun e w'' => e = .returned (.int .i64 (q0 : Int)) ∧ w' = w'') := fun w' hb => lone_p g l b root q0 w' (M2.out.below hb)
          have l1 := LN.out _ (Below.refl _ _)
          have HC1 := Lib.hid C1
          have B9 : Hid (Below w.heap.size w wr) := BD.out.trans (hby.mono BD.out.size)
          clear C1 hz1 hz2 hnb hnv ho1 ho2 hm1 hm2 M2 MM
          go_wp2_with fail
          refine HC1.out.mono ?_
          rintro e y1 ⟨rfl, hy1⟩
          have l2 := LM.out _ hy1
          clear l1
          go_wp2_with fail
          refine (C2.out _ hy1).mono ?_
          rintro e y2 ⟨rfl, hy2⟩
          have hy12 := hy1.trans (hy2.mono hy1.size)
          go_wp2_with fail
          refine (C3.out _ hy12).mono ?_
          rintro e y3 ⟨rfl, rfl⟩
          go_wp2_with fail
          go_ret
          exact ⟨rfl, B9.out.trans (hy12.mono B9.out.size)⟩
end Go.Proofs.Ytafgjfdbmijgcaa
