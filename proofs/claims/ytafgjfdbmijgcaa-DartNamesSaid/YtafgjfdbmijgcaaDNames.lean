/- DartNames: vertices' and faces' names; degrees. -/
import Derived.Test.YtafgjfdbmijgcaaDDegM
import Derived.Test.YtafgjfdbmijgcaaRegion
import Derived.BigQuiet
import Derived.Deep.RegionWith
import Derived.Deep.DeepCutAuto
namespace Go.Proofs.Ytafgjfdbmijgcaa
open Go.RowKit
set_option linter.unusedVariables false

set_option maxRecDepth 20000 in
set_option maxHeartbeats 8000000 in
theorem dartNames_walk (A0 : Option Addr) (n m c r lo : Nat) (by_ : List Int) (w : World) (h0 : Rd w w.heap.size A0 m (Z8 by_)) (hb0 : ∀ x ∈ by_, 0 ≤ x ∧ x < 256) (hmc : m ≤ c) (hcm : c ≤ maxLen) (hn : n < 256) (hr : r < 256) (hlo : lo < 256) :
    Calls Try.prog 5 #[.int .u8 (n : Int), .slice A0 m c, .int .u8 (r : Int), .int .u8 (lo : Int)] w fun e w' => e = .returned (.bool true) ∧ Below w.heap.size w w' := by
  unfold maxLen at hcm
  have AW := Lib.hid (dawake_p w)
  have H0 := Lib.hid h0
  have HB0 := Lib.hid hb0
  clear h0 hb0
  go_enter Try.func5, Try.ntmps5
  go_wp2_with fail
  refine AW.out.mono ?_
  rintro e w1 ⟨rfl, b1⟩
  have MD := Lib.hid (made_p n r lo m c _ A0 by_ w1 (H0.out.below b1) HB0.out b1.size hn hr hlo (by omega))
  have B1 := Lib.hid b1
  clear b1 AW
  go_wp2_with fail
  refine MD.out.mono ?_
  rintro e w2 ⟨g, v, l, b, root, rfl, hmap, hrm, hl, hroot, b2⟩
  generalize hq0 : lo % 5 = q0 at hmap hrm
  have hq5 : q0 < 5 := by omega
  obtain ⟨hinv, A, cA, hla, rfl, hlc, hcA, hrA⟩ := hrm
  have hbx := (Below.refl w2.heap.size w2).alloc (Nat.le_refl _) (.cells #[.slice A l.length cA, .int .i64 root, .int .i64 (q0 : Int)] 36)
  have HX := Lib.hid (Blk.new w2 36 #[.slice A l.length cA, .int .i64 root, .int .i64 (q0 : Int)])
  have HM := Lib.hid (hmap.below hbx)
  have HR := Lib.hid (hrA.more hbx)
  have HI := Lib.hid hinv
  have hl20 : l.length ≤ 18 := by have := Nat.mod_lt n (show 0 < 10 by decide); omega
  have HEV : Hid (l.length % 2 = 0) := by show _ = _; omega
  have B2 : Hid (Below w.heap.size w w2) := B1.out.trans (b2.mono B1.out.size)
  have B3 : Hid (Below w.heap.size w (w2.alloc (.cells #[.slice A l.length cA, .int .i64 root, .int .i64 (q0 : Int)] 36))) := B2.out.trans (hbx.mono B2.out.size)
  clear hmap hbx hrA hinv b2 hq0 B1 MD hl hroot hlc hcA hla
  go_upto_region 4 with fail
  generalize hw3 : w2.alloc (.cells #[.slice A l.length cA, .int .i64 root, .int .i64 (q0 : Int)] 36) = w3 at *
  have hX3 : w2.heap.size < w3.heap.size := by rw [← hw3]; simp
  have x0 : w3.cell? ⟨w2.heap.size, 0, none⟩ = some (.slice A l.length cA) := HX.out.cell 0
  have x1 : w3.cell? ⟨w2.heap.size, 1, none⟩ = some (.int .i64 root) := HX.out.cell 1
  have x2 : w3.cell? ⟨w2.heap.size, 2, none⟩ = some (.int .i64 (q0 : Int)) := HX.out.cell 2
  have PH : Hid (∀ w', Below w3.heap.size w3 w' → Calls Try.prog 20 #[.agg #[.slice A l.length cA, .int .i64 root, .int .i64 (q0 : Int)]] w' (NewI64 w' (ofN (phiL l)))) := fun w' hb =>
    rphi_p A cA l root (q0 : Int) w' (HR.out.more hb) HEV.out (by omega)
  have NV : Hid (∀ w', Below w3.heap.size w3 w' → Calls Try.prog 32 #[.slice A l.length cA] w' (NewI64 w' (ofN (names l)))) := fun w' hb =>
    rnames_p A cA _ l b w' (HR.out.more hb) HI.out (by omega)
  have NF : Hid (∀ A' c' w', Rd w' w'.heap.size A' l.length (I64 (ofN (phiL l))) → Calls Try.prog 32 #[.slice A' l.length c'] w' (NewI64 w' (ofN (names (phiL l))))) := fun A' c' w' hb => by
    have := rnames_p A' c' _ (phiL l) (phiB l b) w' (by rw [phiL_len]; exact hb) (phi_inv HI.out HEV.out) (by rw [phiL_len]; omega)
    rwa [phiL_len] at this
  clear hw3
  have HPL : Hid ((ofN (phiL l)).length = l.length) := by show _ = _; rw [ofN_len, phiL_len]
  have HVL : Hid ((ofN (names l)).length = l.length) := by show _ = _; rw [ofN_len, names_len]
  have HFL : Hid ((ofN (names (phiL l))).length = l.length) := by show _ = _; rw [ofN_len, names_len, phiL_len]
  go_cut [11, 12] from 28 to 33 (fun s t wx => ∃ (Av Af : Option Addr) (cv cf : Nat), s = .slice Av l.length cv ∧ t = .slice Af l.length cf ∧ Rd wx wx.heap.size Av l.length (I64 (ofN (names l))) ∧ Rd wx wx.heap.size Af l.length (I64 (ofN (names (phiL l)))) ∧ Below w3.heap.size w3 wx)
  case first =>
    go_region_with (first
      | (go_at_call 20; refine (PH.out _ hbx9).mono ?_; rintro e w10 ⟨A10, c10, rfl, hc10, hm10, hown10, hb10⟩; rw [HPL.out] at hown10 ⊢; have hbx10 := hbx9.trans (hb10.mono hbx9.size); have r10 := Rd.ofOwn hown10; have r9b := r9.more hb10; clear hown10 hb10 xx0 xx1 xx2)
      | (go_at_call 32; have hu := r10; clear hu; refine (NF.out _ _ _ r10).mono ?_; rintro e w11 ⟨A11, c11, rfl, hc11, hm11, hown11, hb11⟩; rw [HFL.out] at hown11 ⊢; have hbx11 := hbx10.trans (hb11.mono hbx10.size); have r11 := Rd.ofOwn hown11; have r9c := r9b.more hb11; clear hown11 hb11)
      | (go_at_call 32; refine (NV.out _ (Below.refl _ _).drew).mono ?_; rintro e w9 ⟨A9, c9, rfl, hc9, hm9, hown9, hb9⟩; rw [HVL.out] at hown9 ⊢; have hbx9 := (Below.refl w3.heap.size w3).drew.trans (hb9.mono (Below.refl w3.heap.size w3).drew.size); have xx0 := (hbx9.cell (p := ⟨w2.heap.size, 0, none⟩) hX3).trans x0; have xx1 := (hbx9.cell (p := ⟨w2.heap.size, 1, none⟩) hX3).trans x1; have xx2 := (hbx9.cell (p := ⟨w2.heap.size, 2, none⟩) hX3).trans x2; have r9 := Rd.ofOwn hown9; clear hown9 hb9))
    all_goals (go_wp2_with fail; go_meet; exact ⟨_, _, _, _, rfl, rfl, r9c, r11, hbx11⟩)
  case rest =>
    obtain ⟨Av, Af, cv, cf, rfl, rfl, HRv, HRf, b4⟩ := hcut
    have B4 : Hid (Below w.heap.size w wc) := B3.out.trans (b4.mono B3.out.size)
    have HV := Lib.hid HRv
    have HF := Lib.hid HRf
    have HS := Lib.hid (HR.out.more b4)
    have HM4 := Lib.hid (HM.out.below b4)
    have y0 := (b4.cell (p := ⟨w2.heap.size, 0, none⟩) hX3).trans x0
    have y1 := (b4.cell (p := ⟨w2.heap.size, 1, none⟩) hX3).trans x1
    have y2 := (b4.cell (p := ⟨w2.heap.size, 2, none⟩) hX3).trans x2
    have hXc : w2.heap.size < wc.heap.size := by have := b4.size; omega
    clear HRv HRf x0 x1 x2 hX3 PH NV NF HX HR HM B3 b4 HPL HVL HFL
    have hzl := sizes_le l
    obtain ⟨M, hM⟩ : ∃ M, M = (sizes l).length + q0 := ⟨_, rfl⟩
    have hMI : ((sizes l).length : Int) + (q0 : Int) = (M : Int) := by omega
    have hM30 : M ≤ 30 := by omega
    have HMS : Hid ((sizes l).length ≤ M) := by show _ ≤ _; omega
    have RV : Hid (∀ w', Below wc.heap.size wc w' → Calls Try.prog 33 #[.agg #[.slice A l.length cA, .int .i64 root, .int .i64 (q0 : Int)]] w' fun e w'' => e = .returned (.int .i64 (M : Int)) ∧ Below w'.heap.size w' w'') := fun w' hb => by
      have := rverts_p A cA l b root (q0 : Int) w' (HS.out.more hb) HI.out (by omega) (by omega) (by omega)
      rwa [hMI] at this
    have HQM := Lib.hid hM
    have HMI := Lib.hid hMI
    obtain ⟨i0, hi0, hz0, hz1, hz2⟩ := info_parts info_int
    have hmk := run_make_one (P := Try.prog) 22 3 i0 (.int .i64 0) 8 Try.underlying22 hi0 hz0 hz1 hz2 rfl .i64 .i64 M (by omega) (by omega)
    clear hM hMI hzl
    go_wp2_with fail
    refine (RV.out _ (Below.refl _ _)).mono ?_
    rintro e w5 ⟨rfl, b5⟩
    have hX5 : w2.heap.size < w5.heap.size := by have := b5.size; omega
    have B5 : Hid (Below w.heap.size w w5) := B4.out.trans (b5.mono B4.out.size)
    have HV5 := Lib.hid (HV.out.more b5)
    have HF5 := Lib.hid (HF.out.more b5)
    have HS5 := Lib.hid (HS.out.more b5)
    have HM5 := Lib.hid (HM4.out.below b5)
    have z0 := (b5.cell (p := ⟨w2.heap.size, 0, none⟩) hXc).trans y0
    have z1 := (b5.cell (p := ⟨w2.heap.size, 1, none⟩) hXc).trans y1
    have z2 := (b5.cell (p := ⟨w2.heap.size, 2, none⟩) hXc).trans y2
    clear b5 y0 y1 y2 hXc HV HF HS HM4 RV B4
    have own0 := own_made w5 3 M (.int .i64 0) (by simp only [maxLen]; omega)
    have bx0 := (Below.refl w5.heap.size w5).alloc (Nat.le_refl _) (.cells (List.replicate M (.int .i64 0)).toArray 3)
    simp only [List.toArray_replicate] at own0 bx0
    have e0 : List.replicate M (Value.int .i64 0) = I64 (ofN (sizesTo l M 0)) := by rw [degs_zero, ← I64_replicate]; simp [ofN]
    rw [e0] at own0
    clear e0
    have OWN0 := Lib.hid own0
    have BX0 := Lib.hid bx0
    clear own0 bx0
    go_wp2_with fail
    clear hmk
    go_loopw [40] (fun i wr => ∃ k : Nat, k ≤ l.length ∧ i = .int .i64 (k : Int) ∧ Hid (wr.ownsRow w5.heap.size 3 1 (.slice (some ⟨w5.heap.size, 0, none⟩) M M) M (I64 (ofN (sizesTo l M k)))) ∧ Below w5.heap.size w5 wr) (fun i _ => l.length - (intOf i).toNat)
    case atStart => exact ⟨0, by omega, rfl, OWN0.out, BX0.out⟩
    case round =>
      clear OWN0 BX0
      obtain ⟨k, hk, rfl, hown, hbl⟩ := hrel
      by_cases hlt : k < l.length
      · have hsz := hbl.size
        have HVr := HV5.out.more hbl
        have HFr := HF5.out.more hbl
        have MM := HM5.out.below hbl
        have C1 : Hid (∀ w', Below wr.heap.size wr w' → Calls Try.prog 30 #[.pointer (some ⟨g, 0, none⟩), .int .i64 (k : Int)] w' fun e w'' => e = .returned (.int .i64 ((nameOf l k : Nat) : Int)) ∧ Below wr.heap.size wr w'') := fun w' hb =>
          (vertex_in g l b root (q0 : Int) k w' (MM.below hb) hlt).mono fun e w'' ⟨he, h2⟩ => ⟨he, hb.trans (h2.mono hb.size)⟩
        have C2 : Hid (∀ w', Below wr.heap.size wr w' → Calls Try.prog 31 #[.pointer (some ⟨g, 0, none⟩), .int .i64 (k : Int)] w' fun e w'' => e = .returned (.int .i64 ((nameOf (phiL l) k : Nat) : Int)) ∧ Below wr.heap.size wr w'') := fun w' hb =>
          (face_in g l b root (q0 : Int) k w' (MM.below hb) hlt).mono fun e w'' ⟨he, h2⟩ => ⟨he, hb.trans (h2.mono hb.size)⟩
        obtain ⟨bv, ov, rfl, hbv, kV⟩ := HVr.i64 (by omega)
        obtain ⟨bf, of, rfl, hbf, kF⟩ := HFr.i64 (by omega)
        have tV := kV k hlt
        have tF := kF k hlt
        rw [ofN_get, names_get _ _ hlt] at tV
        rw [ofN_get, names_get _ _ (by rw [phiL_len]; exact hlt)] at tF
        have LV : Hid (∀ w', Below wr.heap.size wr w' → w'.cell? ⟨bv, ov + k, none⟩ = some (.int .i64 ((nameOf l k : Nat) : Int))) := fun w' hb => (hb.cell (p := ⟨bv, ov + k, none⟩) hbv).trans tV
        have LF : Hid (∀ w', Below wr.heap.size wr w' → w'.cell? ⟨bf, of + k, none⟩ = some (.int .i64 ((nameOf (phiL l) k : Nat) : Int))) := fun w' hb => (hb.cell (p := ⟨bf, of + k, none⟩) hbf).trans tF
        have hxM : nameOf l k < M := by
          have h1 := name_lt HI.out hlt
          rw [← sizes_len] at h1
          have := HMS.out; omega
        have SX : Hid (nameOf l k < M ∧ (sizesTo l M k).set (nameOf l k) (cntN l k (nameOf l k) + 1) = sizesTo l M (k + 1)) := ⟨hxM, sizes_set l M k _ hxM rfl⟩
        have SG : Hid ((sizesTo l M k).getD (nameOf l k) 0 = cntN l k (nameOf l k)) := sizesTo_get _ _ _ _ hxM
        have hq18 := cntN_le l k (nameOf l k)
        clear kV kF tV tF MM HVr HFr
        generalize cntN l k (nameOf l k) = q at *
        generalize nameOf l k = x at *
        generalize nameOf (phiL l) k = y at *
        go_wp2_with fail
        refine region_class (Below wr.heap.size wr) (by kernel_rfl) (by kernel_rfl) (Below.refl _ _).drew ?_
        repeat (
          first
            | go_big_quiet_skip
            | (go_big_quiet_want; go_big_quiet_op
               first
                 | go_big_quiet_on
                 | ((with_reducible refine ⟨_, C1.out, ?_⟩); go_big_quiet_on)
                 | ((with_reducible refine ⟨_, C2.out, ?_⟩); go_big_quiet_on)
                 | (refine ⟨_, fun _ _ => rfl, ?_⟩; go_big_quiet_on)
                 | (refine ⟨_, fun w' hw' => by rw [LV.out w' hw']; exact ⟨rfl, rfl⟩, ?_⟩; go_big_quiet_on)
                 | (refine ⟨_, fun w' hw' => by rw [LF.out w' hw']; exact ⟨rfl, rfl⟩, ?_⟩; go_big_quiet_on)
                 | (trace_state; fail)))
        refine wpQuiet_nil ?_
        intro w8 hb8
        have xv := LV.out _ hb8
        have ow8 := own_below hown.out hb8
        have xd := own_cellI ow8 x hxM
        rw [ofN_get, SG.out] at xd
        have fd := ow8.frozenAt x
        have O8 := Lib.hid ow8
        have hxI : (x : Int) < (M : Int) := by omega
        have B8 : Hid (Below w5.heap.size w5 w8) := hbl.trans (hb8.mono hbl.size)
        clear C1 C2 LV LF ow8 hb8
        go_wp2_with fail
        go_roundw
        case rel =>
          refine ⟨k + 1, by omega, by go_num, ?_, B8.out.setCell (Nat.le_refl _) _⟩
          have := own_setI O8.out x ((q : Int) + 1)
          rw [ofN_set, SX.out.2] at this
          exact this
        case measure => simp [intOf]; omega
      · obtain rfl : k = l.length := by omega
        obtain ⟨wd, rfl⟩ : ∃ wd : World, wd = wr := ⟨_, rfl⟩
        have B6 : Hid (Below w.heap.size w wd) := B5.out.trans (hbl.mono B5.out.size)
        have HM6 := Lib.hid (HM5.out.below hbl)
        have HS6 := Lib.hid (HS5.out.more hbl)
        have hX6 : w2.heap.size < wd.heap.size := by have := hbl.size; omega
        have u0 := (hbl.cell (p := ⟨w2.heap.size, 0, none⟩) hX5).trans z0
        have u1 := (hbl.cell (p := ⟨w2.heap.size, 1, none⟩) hX5).trans z1
        have u2 := (hbl.cell (p := ⟨w2.heap.size, 2, none⟩) hX5).trans z2
        have LD : Hid (∀ j, j < M → wd.cell? ⟨w5.heap.size, j, none⟩ = some (.int .i64 (degOf l q0 j))) := fun j hj => by
          rw [own_cellI hown.out j hj, ofN_get]
          have hj2 : j < (sizes l).length + q0 := by rw [← HQM.out]; exact hj
          have := degs_get HI.out q0 j hj2
          rw [← HQM.out] at this
          rw [this]
        have hd5 := (hown.out.lt _ rfl).2
        have hd5' : w5.heap.size < wd.heap.size := hd5
        have SL : Hid ((sizesTo l M l.length).length = M ∧ (sizesTo l M l.length).sum = l.length) := ⟨sizesTo_len _ _ _, degs_sum HI.out M HMS.out _ (Nat.le_refl _)⟩
        have SD : Hid (∀ j, j < M → degOf l q0 j = ((sizesTo l M l.length).getD j 0 : Nat)) := fun j hj => by
          have hj2 : j < (sizes l).length + q0 := by rw [← HQM.out]; exact hj
          have := degs_get HI.out q0 j hj2
          rw [← HQM.out] at this
          exact this.symm
        clear hbl hown z0 z1 z2 hX5 HV5 HF5 HS5 HM5 B5 hd5
        go_wp2_with fail
        generalize sizesTo l M l.length = L at *
        go_loopw [15, 16] (fun s i wr => ∃ (v : Int) (q : Nat), -1 ≤ v ∧ v ≤ M + 1 ∧ i = .int .i64 v ∧ s = .int .i64 (q : Int) ∧ q ≤ l.length ∧ Hid (q = (L.take v.toNat).sum) ∧ Below wd.heap.size wd wr) (fun _ i _ => (M + 1 - intOf i).toNat)
        case atStart => exact ⟨-1, 0, by omega, by omega, rfl, rfl, by omega, rfl, Below.refl _ _⟩
        case round =>
          obtain ⟨v, q, hv0, hv1, rfl, rfl, hq, hqs, hby⟩ := hrel
          have DG : Hid (Calls Try.prog 34 #[.pointer (some ⟨g, 0, none⟩), .int .i64 v] wr fun e w' => e = .returned (.int .i64 (degOf l q0 v)) ∧ Below wd.heap.size wd w') :=
            (degree_p g l b root q0 v wr (HM6.out.below hby)).mono fun e w' ⟨he, h2⟩ => ⟨he, hby.trans (h2.mono hby.size)⟩
          by_cases hm1 : v = -1
          · subst hm1
            have hd : degOf l q0 (-1) = -1 := by unfold degOf; rw [if_pos (.inl (by omega))]
            rw [hd] at DG
            clear hd
            have hq0' : q = 0 := hqs.out
            have HQ0 := Lib.hid hq0'
            clear hq0' hqs
            go_wp2_with fail
            refine DG.out.mono ?_
            rintro e w9 ⟨rfl, hb9⟩
            go_wp2_with fail
            go_roundw
            case rel => exact ⟨0, q, by omega, by omega, by go_num, rfl, hq, HQ0.out, hb9⟩
            case measure => simp [intOf]; omega
          · obtain ⟨n2, rfl⟩ : ∃ n : Nat, v = (n : Int) := ⟨v.toNat, by omega⟩
            rw [Int.toNat_natCast] at hqs
            by_cases hlt : n2 < M
            · have hd := SD.out n2 hlt
              rw [hd] at DG
              have ld := (hby.cell (p := ⟨w5.heap.size, n2, none⟩) hd5').trans (LD.out n2 hlt)
              rw [hd] at ld
              have hs1 := sum_take L n2 (by rw [SL.out.1]; exact hlt)
              have hs2 := sum_take_le L (n2 + 1)
              rw [SL.out.2] at hs2
              rw [← hqs.out] at hs1
              generalize L.getD n2 0 = x at hs1 ld DG
              have HS1 := Lib.hid hs1
              have hqx : q + x ≤ l.length := by omega
              clear hd hs1 hs2 hqs
              go_wp2_with fail
              refine DG.out.mono ?_
              rintro e w9 ⟨rfl, hb9⟩
              go_wp2_with fail
              go_roundw
              case rel => exact ⟨(n2 : Int) + 1, q + x, by omega, by omega, rfl, by go_num, hqx, by rw [show ((n2 : Int) + 1).toNat = n2 + 1 by omega]; exact HS1.out.symm, hb9⟩
              case measure => simp [intOf]; omega
            · by_cases hle : n2 = M
              · subst hle
                have hd : degOf l q0 n2 = -1 := by unfold degOf; rw [if_pos (.inr (by rw [HMI.out]; exact Int.le_refl _))]
                rw [hd] at DG
                clear hd
                have HSM : Hid (q = (L.take (n2 + 1)).sum) := by
                  show _ = _
                  have := hqs.out
                  rw [List.take_of_length_le (by rw [SL.out.1]; exact Nat.le_refl _)] at this
                  rw [List.take_of_length_le (by rw [SL.out.1]; exact Nat.le_succ _), this]
                clear hqs
                go_wp2_with fail
                refine DG.out.mono ?_
                rintro e w9 ⟨rfl, hb9⟩
                go_wp2_with fail
                go_roundw
                case rel => exact ⟨(n2 : Int) + 1, q, by omega, by omega, rfl, rfl, hq, by rw [show ((n2 : Int) + 1).toNat = n2 + 1 by omega]; exact HSM.out, hb9⟩
                case measure => simp [intOf]
              · obtain rfl : n2 = M + 1 := by omega
                have hqe : q = l.length := by
                  have := hqs.out
                  rw [List.take_of_length_le (by rw [SL.out.1]; exact Nat.le_succ _), SL.out.2] at this
                  exact this
                subst hqe
                have hX7 : w2.heap.size < wr.heap.size := by have := hby.size; omega
                have v0 := (hby.cell (p := ⟨w2.heap.size, 0, none⟩) hX6).trans u0
                have v1 := (hby.cell (p := ⟨w2.heap.size, 1, none⟩) hX6).trans u1
                have v2 := (hby.cell (p := ⟨w2.heap.size, 2, none⟩) hX6).trans u2
                have B9 : Hid (Below w.heap.size w wr) := B6.out.trans (hby.mono B6.out.size)
                have SS := Lib.hid (HS6.out.more hby)
                have MM := Lib.hid (HM6.out.below hby)
                obtain ⟨X, hX⟩ : ∃ X : Value, X = .agg #[.slice A l.length cA, .int .i64 root, .int .i64 (q0 : Int)] := ⟨_, rfl⟩
                have C1 : Hid (∀ w', Below wr.heap.size wr w' → Calls Try.prog 35 #[.pointer (some ⟨g, 0, none⟩)] w' fun e w'' => e = .returned (.int .i64 (M : Int)) ∧ Below wr.heap.size wr w'') := fun w' hb => by
                  have := vertices_p g l b root (q0 : Int) w' (MM.out.below hb)
                  rw [HMI.out] at this
                  exact this.mono fun e w'' ⟨he, h2⟩ => ⟨he, hb.trans (h2.mono hb.size)⟩
                have C2 : Hid (∀ w', Below wr.heap.size wr w' → Calls Try.prog 33 #[.agg #[.slice A l.length cA, .int .i64 root, .int .i64 (q0 : Int)]] w' fun e w'' => e = .returned (.int .i64 (M : Int)) ∧ Below wr.heap.size wr w'') := fun w' hb => by
                  have := rverts_p A cA l b root (q0 : Int) w' (SS.out.more hb) HI.out (by omega) (by omega) (by omega)
                  rw [HMI.out] at this
                  exact this.mono fun e w'' ⟨he, h2⟩ => ⟨he, hb.trans (h2.mono hb.size)⟩
                obtain ⟨nb, hnb⟩ : ∃ nb, nb = (sizes (phiL l)).length := ⟨_, rfl⟩
                have C3 : Hid (∀ w', Below wr.heap.size wr w' → Calls Try.prog 36 #[.pointer (some ⟨g, 0, none⟩)] w' fun e w'' => e = .returned (.int .i64 (nb : Int)) ∧ Below wr.heap.size wr w'') := fun w' hb => by
                  have := borders_p g l b root (q0 : Int) w' (MM.out.below hb)
                  rw [← hnb] at this
                  exact this.mono fun e w'' ⟨he, h2⟩ => ⟨he, hb.trans (h2.mono hb.size)⟩
                have C4 : Hid (∀ w', Below wr.heap.size wr w' → Calls Try.prog 37 #[.agg #[.slice A l.length cA, .int .i64 root, .int .i64 (q0 : Int)]] w' fun e w'' => e = .returned (.int .i64 (nb : Int)) ∧ Below wr.heap.size wr w'') := fun w' hb => by
                  have := rborders_p A cA l b root (q0 : Int) w' (SS.out.more hb) HI.out HEV.out (by omega)
                  rw [← hnb] at this
                  exact this.mono fun e w'' ⟨he, h2⟩ => ⟨he, hb.trans (h2.mono hb.size)⟩
                obtain ⟨ne, hne⟩ : ∃ ne, l.length = 2 * ne := ⟨l.length / 2, by have := HEV.out; omega⟩
                have C5 : Hid (∀ w', Below wr.heap.size wr w' → Calls Try.prog 18 #[.pointer (some ⟨g, 0, none⟩)] w' fun e w'' => e = .returned (.int .i64 (ne : Int)) ∧ Below wr.heap.size wr w'') := fun w' hb => by
                  have := edges_p g l b root (q0 : Int) w' (MM.out.below hb)
                  rw [show l.length / 2 = ne by omega] at this
                  exact this.mono fun e w'' ⟨he, h2⟩ => ⟨he, hb.trans (h2.mono hb.size)⟩
                have L0 : Hid (∀ w', Below wr.heap.size wr w' → w'.cell? ⟨w2.heap.size, 0, none⟩ = some (.slice A l.length cA) ∧ w'.cell? ⟨w2.heap.size, 1, none⟩ = some (.int .i64 root) ∧ w'.cell? ⟨w2.heap.size, 2, none⟩ = some (.int .i64 (q0 : Int))) := fun w' hb =>
                  ⟨(hb.cell (p := ⟨w2.heap.size, 0, none⟩) hX7).trans v0, (hb.cell (p := ⟨w2.heap.size, 1, none⟩) hX7).trans v1, (hb.cell (p := ⟨w2.heap.size, 2, none⟩) hX7).trans v2⟩
                have HNE : ((l.length : Int) == 2 * (ne : Int)) = true := by rw [beq_iff_eq]; omega
                have hne9 : ne ≤ 9 := by omega
                clear hnb hqs DG hne v0 v1 v2 u0 u1 u2 hX
                go_wp2_with fail
                refine region_class (Below wr.heap.size wr) (by kernel_rfl) (by kernel_rfl) (Below.refl _ _).drew ?_
                repeat (
                  first
                    | go_big_quiet_skip
                    | (go_big_quiet_want; go_big_quiet_op
                       first
                         | go_big_quiet_on
                         | ((with_reducible refine ⟨_, C1.out, ?_⟩); go_big_quiet_on)
                         | ((with_reducible refine ⟨_, C2.out, ?_⟩); go_big_quiet_on)
                         | ((with_reducible refine ⟨_, C3.out, ?_⟩); go_big_quiet_on)
                         | ((with_reducible refine ⟨_, C4.out, ?_⟩); go_big_quiet_on)
                         | ((with_reducible refine ⟨_, C5.out, ?_⟩); go_big_quiet_on)
                         | (refine ⟨_, fun _ _ => rfl, ?_⟩; go_big_quiet_on)
                         | (refine ⟨.agg #[.slice A l.length cA, .int .i64 root, .int .i64 (q0 : Int)], fun w' hw' => by (obtain ⟨a0, a1, a2⟩ := L0.out w' hw'; simp [a0, a1, a2, Result.andThen]), ?_⟩; go_big_quiet_on)
                         | (trace_state; fail)))
                refine wpQuiet_nil ?_
                intro w8 hb8
                go_wp2_with fail
                go_ret
                exact ⟨rfl, B9.out.trans (hb8.mono B9.out.size)⟩
end Go.Proofs.Ytafgjfdbmijgcaa
