/- DartTurns: each dart's next ones. -/
import Derived.Test.YtggakminmipneaaDPhi
import Derived.Test.YtggakminmipneaaRegion
import Derived.BigQuiet
import Derived.Deep.RegionWith
import Derived.Deep.DeepCutAuto
namespace Go.Proofs.Ytggakminmipneaa
open Go.RowKit
set_option linter.unusedVariables false

set_option maxRecDepth 20000 in
set_option maxHeartbeats 8000000 in
theorem dartTurns_walk (A0 : Option Addr) (n m c r lo : Nat) (by_ : List Int) (w : World) (h0 : Rd w w.heap.size A0 m (Z8 by_)) (hb0 : ∀ x ∈ by_, 0 ≤ x ∧ x < 256) (hmc : m ≤ c) (hcm : c ≤ maxLen) (hn : n < 256) (hr : r < 256) (hlo : lo < 256) :
    Calls Try.prog 4 #[.int .u8 (n : Int), .slice A0 m c, .int .u8 (r : Int), .int .u8 (lo : Int)] w fun e w' => e = .returned (.bool true) ∧ Below w.heap.size w w' := by
  unfold maxLen at hcm
  have AW := Lib.hid (dawake_p w)
  have H0 := Lib.hid h0
  have HB0 := Lib.hid hb0
  clear h0 hb0
  go_enter Try.func4, Try.ntmps4
  go_wp2_with fail
  refine AW.out.mono ?_
  rintro e w1 ⟨rfl, b1⟩
  have MD := Lib.hid (made_p n r lo m c _ A0 by_ w1 (H0.out.below b1) HB0.out b1.size hn hr hlo (by omega))
  have B1 := Lib.hid b1
  clear b1 AW
  go_wp2_with fail
  refine MD.out.mono ?_
  rintro e w2 ⟨g, v, l, b, root, rfl, hmap, hrm, hl, hroot, b2⟩
  obtain ⟨hinv, A, cA, hla, rfl, hlc, hcA, hrA⟩ := hrm
  generalize hlo5 : ((lo % 5 : Nat) : Int) = lone at *
  have hbx := (Below.refl w2.heap.size w2).alloc (Nat.le_refl _) (.cells #[.slice A l.length cA, .int .i64 root, .int .i64 lone] 36)
  have HX := Lib.hid (Blk.new w2 36 #[.slice A l.length cA, .int .i64 root, .int .i64 lone])
  have HM := Lib.hid (hmap.below hbx)
  have HR := Lib.hid (hrA.more hbx)
  have HI := Lib.hid hinv
  have hl20 : l.length ≤ 18 := by have := Nat.mod_lt n (show 0 < 10 by decide); omega
  have HEV : Hid (l.length % 2 = 0) := by show _ = _; omega
  have B2 : Hid (Below w.heap.size w w2) := B1.out.trans (b2.mono B1.out.size)
  have B3 : Hid (Below w.heap.size w (w2.alloc (.cells #[.slice A l.length cA, .int .i64 root, .int .i64 lone] 36))) := B2.out.trans (hbx.mono B2.out.size)
  clear hmap hbx hrA hinv b2 hlo5 B1 MD hl hroot hlc hcA hla
  go_upto_region 4 with fail
  generalize hw3 : w2.alloc (.cells #[.slice A l.length cA, .int .i64 root, .int .i64 lone] 36) = w3 at *
  have hX3 : w2.heap.size < w3.heap.size := by rw [← hw3]; simp
  have x0 : w3.cell? ⟨w2.heap.size, 0, none⟩ = some (.slice A l.length cA) := HX.out.cell 0
  have x1 : w3.cell? ⟨w2.heap.size, 1, none⟩ = some (.int .i64 root) := HX.out.cell 1
  have x2 : w3.cell? ⟨w2.heap.size, 2, none⟩ = some (.int .i64 lone) := HX.out.cell 2
  have PH : Hid (∀ w', Below w3.heap.size w3 w' → Calls Try.prog 20 #[.agg #[.slice A l.length cA, .int .i64 root, .int .i64 lone]] w' (NewI64 w' (ofN (phiL l)))) := fun w' hb =>
    rphi_p A cA l root lone w' (HR.out.more hb) HEV.out (by omega)
  have IV : Hid (∀ w', Below w3.heap.size w3 w' → Calls Try.prog 21 #[.slice A l.length cA] w' (NewI64 w' (ofN b))) := fun w' hb =>
    rinverse_p A cA _ l b w' (HR.out.more hb) HI.out (by omega)
  clear hw3
  have HPL : Hid ((ofN (phiL l)).length = l.length) := by show _ = _; rw [ofN_len, phiL_len]
  have HBL : Hid ((ofN b).length = l.length) := by show _ = _; rw [ofN_len, HI.out.len]
  go_cut [11, 12] from 26 to 31 (fun s t wx => ∃ (Ap Ab : Option Addr) (cp cb : Nat), s = .slice Ap l.length cp ∧ t = .slice Ab l.length cb ∧ Rd wx wx.heap.size Ap l.length (I64 (ofN (phiL l))) ∧ Rd wx wx.heap.size Ab l.length (I64 (ofN b)) ∧ Below w3.heap.size w3 wx)
  case first =>
    go_region_with (first
      | (go_at_call 20; refine (PH.out _ (Below.refl _ _).drew).mono ?_; rintro e w9 ⟨A9, c9, rfl, hc9, hm9, hown9, hb9⟩; rw [HPL.out] at hown9 ⊢; have hbx9 := (Below.refl w3.heap.size w3).drew.trans (hb9.mono (Below.refl w3.heap.size w3).drew.size); have xx0 := (hbx9.cell (p := ⟨w2.heap.size, 0, none⟩) hX3).trans x0; have r9 := Rd.ofOwn hown9; clear hown9 hb9)
      | (go_at_call 21; refine (IV.out _ hbx9).mono ?_; rintro e w10 ⟨A10, c10, rfl, hc10, hm10, hown10, hb10⟩; rw [HBL.out] at hown10 ⊢; have hbx10 := hbx9.trans (hb10.mono hbx9.size); have r10 := Rd.ofOwn hown10; have r9b := r9.more hb10; clear hown10 hb10 xx0))
    all_goals (go_wp2_with fail; go_meet; exact ⟨_, _, _, _, rfl, rfl, r9b, r10, hbx10⟩)
  case rest =>
    obtain ⟨Ap, Ab, cp, cb, rfl, rfl, HRp, HRb, b4⟩ := hcut
    have B4 : Hid (Below w.heap.size w wc) := B3.out.trans (b4.mono B3.out.size)
    have HP := Lib.hid HRp
    have HB := Lib.hid HRb
    have HS := Lib.hid (HR.out.more b4)
    have HM4 := Lib.hid (HM.out.below b4)
    have x0c := (b4.cell (p := ⟨w2.heap.size, 0, none⟩) hX3).trans x0
    have hXc : w2.heap.size < wc.heap.size := by have := b4.size; omega
    clear HRp HRb x0 x1 x2 hX3 PH IV HX HR HM B3 b4
    go_wp2_with fail
    go_loopw [34] (fun i wr => ∃ k : Nat, k ≤ l.length ∧ i = .int .i64 (k : Int) ∧ Below wc.heap.size wc wr) (fun i _ => l.length - (intOf i).toNat)
    case atStart => exact ⟨0, by omega, rfl, Below.refl _ _⟩
    case round =>
      obtain ⟨k, hk, rfl, hbl⟩ := hrel
      by_cases hlt : k < l.length
      · have hml := mateN_lt HEV.out hlt
        have xwr := (hbl.cell (p := ⟨w2.heap.size, 0, none⟩) hXc).trans x0c
        have RS := HS.out.below hbl
        have RP := HP.out.below hbl
        have RB := HB.out.below hbl
        have MM := HM4.out.below hbl
        have lift : ∀ {f : Nat} {xs : Array Value} {v : Value}, (∀ w', MapAt w' g l b root lone → Calls Try.prog f xs w' fun e w'' => e = .returned v ∧ Below w'.heap.size w' w'') → Hid (∀ w', Below wr.heap.size wr w' →
            Calls Try.prog f xs w' fun e w'' => e = .returned v ∧ Below wr.heap.size wr w'') := fun h w' hb =>
          (h w' (MM.below hb)).mono fun e w'' ⟨he, h2⟩ => ⟨he, hb.trans (h2.mono hb.size)⟩
        have C1 := lift fun w' hm => sigma_in g l b root lone k w' hm hlt
        have C2 := lift fun w' hm => mback_in g l b root lone k w' hm hlt
        have C3 := lift fun w' hm => mate_in g l b root lone k w' hm hlt
        have C4 := lift fun w' hm => phi_in g l b root lone k w' hm hlt
        have C5 : Hid (∀ w', Below wr.heap.size wr w' → Calls Try.prog 25 #[.int .i64 (k : Int)] w' fun e w'' => e = .returned (.int .i64 ((mateN k : Nat) : Int)) ∧ Below wr.heap.size wr w'') := fun w' hb =>
          (rmate_p k w' (by omega)).mono fun e w'' ⟨he, h2⟩ => ⟨he, h2 ▸ hb⟩
        obtain ⟨ba, oa, rfl, hba, kS⟩ := RS.i64 (by omega)
        obtain ⟨bp, op, rfl, hbp, kP⟩ := RP.i64 (by omega)
        obtain ⟨bb, ob, rfl, hbb, kB⟩ := RB.i64 (by omega)
        have tS := kS k hlt
        have tP := kP k hlt
        have tB := kB k hlt
        rw [ofN_get] at tS tP tB
        have hsz := hbl.size
        have LX : Hid (∀ w', Below wr.heap.size wr w' → w'.cell? ⟨w2.heap.size, 0, none⟩ = some (.slice (some ⟨ba, oa, none⟩) l.length cA)) := fun w' hb => (hb.cell (p := ⟨w2.heap.size, 0, none⟩) (Nat.lt_of_lt_of_le hXc hsz)).trans xwr
        have LS : Hid (∀ w', Below wr.heap.size wr w' → w'.cell? ⟨ba, oa + k, none⟩ = some (.int .i64 ((l.getD k 0 : Nat) : Int))) := fun w' hb => (hb.cell (p := ⟨ba, oa + k, none⟩) (Nat.lt_of_lt_of_le hba hsz)).trans tS
        have LP : Hid (∀ w', Below wr.heap.size wr w' → w'.cell? ⟨bp, op + k, none⟩ = some (.int .i64 (((phiL l).getD k 0 : Nat) : Int))) := fun w' hb => (hb.cell (p := ⟨bp, op + k, none⟩) (Nat.lt_of_lt_of_le hbp hsz)).trans tP
        have LB : Hid (∀ w', Below wr.heap.size wr w' → w'.cell? ⟨bb, ob + k, none⟩ = some (.int .i64 ((b.getD k 0 : Nat) : Int))) := fun w' hb => (hb.cell (p := ⟨bb, ob + k, none⟩) (Nat.lt_of_lt_of_le hbb hsz)).trans tB
        clear kS kP kB tS tP tB lift
        generalize mateN k = mk at *
        generalize l.getD k 0 = vs at *
        generalize b.getD k 0 = vb at *
        generalize (phiL l).getD k 0 = vp at *
        go_wp2_with fail
        refine region_class (Below wr.heap.size wr) (by kernel_rfl) (by kernel_rfl) (Below.refl _ _).drew ?_
        repeat (
          first
            | go_big_quiet_skip
            | (go_big_quiet_want; go_big_quiet_op
               first
                 | go_big_quiet_on
                 | ((with_reducible refine ⟨_, C1.out, ?_⟩); go_big_quiet_on)
                 | ((with_reducible refine ⟨_, C2.out, ?_⟩); go_big_quiet_on)
                 | ((with_reducible refine ⟨_, C3.out, ?_⟩); go_big_quiet_on)
                 | ((with_reducible refine ⟨_, C4.out, ?_⟩); go_big_quiet_on)
                 | ((with_reducible refine ⟨_, C5.out, ?_⟩); go_big_quiet_on)
                 | (refine ⟨_, fun _ _ => rfl, ?_⟩; go_big_quiet_on)
                 | (refine ⟨_, fun w' hw' => by rw [LX.out w' hw']; exact ⟨rfl, rfl⟩, ?_⟩; go_big_quiet_on)
                 | (refine ⟨_, fun w' hw' => by rw [LS.out w' hw']; exact ⟨rfl, rfl⟩, ?_⟩; go_big_quiet_on)
                 | (refine ⟨_, fun w' hw' => by rw [LB.out w' hw']; exact ⟨rfl, rfl⟩, ?_⟩; go_big_quiet_on)
                 | (refine ⟨_, fun w' hw' => by rw [LP.out w' hw']; exact ⟨rfl, rfl⟩, ?_⟩; go_big_quiet_on)
                 | (trace_state; fail)))
        refine wpQuiet_nil ?_
        intro w8 hb8
        have xx8 := LX.out _ hb8
        have hbk := hb8.drew
        have RS2 := RS.up hsz
        have RP2 := RP.up hsz
        have AR : Hid (∀ w', Below wr.heap.size wr w' → Calls Try.prog 27 #[.pointer (some ⟨g, 0, none⟩), .int .i64 (k : Int)] w' (NewI64 w' (ofN (orb l k)))) := fun w' hb => around_in g l b root lone k w' (MM.below hb) hlt
        have BR : Hid (∀ w', Below wr.heap.size wr w' → Calls Try.prog 29 #[.pointer (some ⟨g, 0, none⟩), .int .i64 (k : Int)] w' (NewI64 w' (ofN (orb (phiL l) k)))) := fun w' hb => border_in g l b root lone k w' (MM.below hb) hlt
        have OR : Hid (∀ w', Below wr.heap.size wr w' → Calls Try.prog 28 #[.slice (some ⟨ba, oa, none⟩) l.length cA, .int .i64 (k : Int)] w' (NewI64 w' (ofN (orb l k)))) := fun w' hb =>
          rorbit_p _ cA _ l b k w' (RS2.more hb) HI.out (by omega) hlt
        have OP : Hid (∀ w', Below wr.heap.size wr w' → Calls Try.prog 28 #[.slice (some ⟨bp, op, none⟩) l.length cp, .int .i64 (k : Int)] w' (NewI64 w' (ofN (orb (phiL l) k)))) := fun w' hb => by
          have := rorbit_p (some ⟨bp, op, none⟩) cp _ (phiL l) (phiB l b) k w' (by rw [phiL_len]; exact RP2.more hb) (phi_inv HI.out HEV.out) (by rw [phiL_len]; omega) (by rw [phiL_len]; exact hlt)
          rwa [phiL_len] at this
        generalize ofN (orb l k) = z1 at *
        generalize ofN (orb (phiL l) k) = z2 at *
        have EQ : ∀ z : List Int, Hid (∀ A c B A' c' B' w', Rd w' B A z.length (I64 z) → Rd w' B' A' z.length (I64 z) → z.length ≤ c → c ≤ maxLen → Below wr.heap.size wr w' →
            Calls Try.prog 14 #[.slice A z.length c, .slice A' z.length c'] w' fun e w'' => e = .returned (.bool true) ∧ Below wr.heap.size wr w'') := fun z A c B A' c' B' w' h1 h2 h3 h4 hb => by
          unfold maxLen at h4
          exact (equalI_any A A' z.length c z.length c' B B' z z w' h1 h2 (by omega) (by omega)).mono fun e w'' ⟨he, d, hw⟩ => ⟨by rw [he, decide_eq_true rfl], by rw [hw]; exact below_draws hb d⟩
        have EQ1 := EQ z1
        have EQ2 := EQ z2
        clear EQ C1 C2 C3 C4 C5 LS LP LB RS RP RB RS2 RP2 MM
        go_upto_region 10 with fail
        go_cut [92] from 74 to 93 (fun s wx => s = .bool false ∧ Below wr.heap.size wr wx)
        case first =>
          go_region_with (first
            | (go_at_call 27; refine (AR.out _ hbk).mono ?_; rintro e w9 ⟨A9, c9, rfl, hc9, hm9, hown9, hb9⟩; have hbx9 := hbk.trans (hb9.mono hbk.size); have xx9 := LX.out _ hbx9; have r9 := Rd.ofOwn hown9; clear hown9 hb9)
            | (go_at_call 28; have hu := r12; clear hu; refine (OP.out _ hbx12).mono ?_; rintro e w13 ⟨A13, c13, rfl, hc13, hm13, hown13, hb13⟩; have hbx13 := hbx12.trans (hb13.mono hbx12.size); have r13 := Rd.ofOwn hown13; have r12b := r12.more hb13; clear hown13 hb13)
            | (go_at_call 28; refine (OR.out _ hbx9).mono ?_; rintro e w10 ⟨A10, c10, rfl, hc10, hm10, hown10, hb10⟩; have hbx10 := hbx9.trans (hb10.mono hbx9.size); have r10 := Rd.ofOwn hown10; have r9b := r9.more hb10; clear hown10 hb10)
            | (go_at_call 14; have hu := r13; clear hu; refine (EQ2.out _ _ _ _ _ _ _ r12b r13 hc12 hm12 hbx13).mono ?_; rintro e w14 ⟨rfl, hbx14⟩)
            | (go_at_call 14; refine (EQ1.out _ _ _ _ _ _ _ r9b r10 hc9 hm9 hbx10).mono ?_; rintro e w11 ⟨rfl, hbx11⟩)
            | (go_at_call 29; refine (BR.out _ hbx11).mono ?_; rintro e w12 ⟨A12, c12, rfl, hc12, hm12, hown12, hb12⟩; have hbx12 := hbx11.trans (hb12.mono hbx11.size); have r12 := Rd.ofOwn hown12; clear hown12 hb12))
          all_goals (go_wp2_with fail; go_meet; exact ⟨rfl, hbx14⟩)
        case rest =>
          obtain ⟨rfl, hbx⟩ := hcut
          go_wp2_with fail
          go_roundw
          case rel => exact ⟨k + 1, by omega, by go_num, hbl.trans (hbx.mono hbl.size)⟩
          case measure => simp [intOf]; omega
      · obtain rfl : k = l.length := by omega
        have xwr := (hbl.cell (p := ⟨w2.heap.size, 0, none⟩) hXc).trans x0c
        have MM := HM4.out.below hbl
        have BB : Hid (Below w.heap.size w wr) := B4.out.trans (hbl.mono B4.out.size)
        have hba := (Below.refl wr.heap.size wr).alloc (Nat.le_refl _) (.cells #[.int .i64 (-1), .int .i64 (l.length : Int)] 3)
        have HAX := Lib.hid (Blk.new wr 3 #[.int .i64 (-1), .int .i64 (l.length : Int)])
        have MA := Lib.hid (MM.below hba)
        have BA : Hid (Below w.heap.size w (wr.alloc (.cells #[.int .i64 (-1), .int .i64 (l.length : Int)] 3))) := BB.out.trans (hba.mono BB.out.size)
        clear MM BB HP HB HS HM4 x0c hba
        go_wp2_with fail
        generalize hwa : wr.alloc (.cells #[.int .i64 (-1), .int .i64 (l.length : Int)] 3) = wa at *
        have ha : wr.heap.size < wa.heap.size := by rw [← hwa]; simp
        have a0 : wa.cell? ⟨wr.heap.size, 0, none⟩ = some (.int .i64 (-1)) := HAX.out.cell 0
        have a1 : wa.cell? ⟨wr.heap.size, 1, none⟩ = some (.int .i64 (l.length : Int)) := HAX.out.cell 1
        clear hwa HAX hbl xwr
        generalize wr.heap.size = bx at *
        have lift : ∀ {f : Nat} {xs : Array Value} {v : Value}, (∀ w', MapAt w' g l b root lone → Calls Try.prog f xs w' fun e w'' => e = .returned v ∧ Below w'.heap.size w' w'') → Hid (∀ w', Below wa.heap.size wa w' →
            Calls Try.prog f xs w' fun e w'' => e = .returned v ∧ Below wa.heap.size wa w'') := fun h w' hb =>
          (h w' (MA.out.below hb)).mono fun e w'' ⟨he, h2⟩ => ⟨he, hb.trans (h2.mono hb.size)⟩
        go_loopw [99] (fun i wy => ∃ j : Nat, j ≤ 2 ∧ i = .int .i64 (j : Int) ∧ Below wa.heap.size wa wy) (fun i _ => 2 - (intOf i).toNat)
        case atStart => exact ⟨0, by omega, rfl, Below.refl _ _⟩
        case round =>
          obtain ⟨j, hj, rfl, hby⟩ := hrel
          by_cases hj2 : j < 2
          · have hd : ∃ d : Int, (d < 0 ∨ (l.length : Int) ≤ d) ∧ wr.cell? ⟨bx, j, none⟩ = some (.int .i64 d) := by
              have hc : ∀ o, wr.cell? ⟨bx, o, none⟩ = wa.cell? ⟨bx, o, none⟩ := fun o => hby.cell (p := ⟨bx, o, none⟩) ha
              have : j = 0 ∨ j = 1 := by omega
              rcases this with rfl | rfl
              · exact ⟨-1, .inl (by omega), (hc 0).trans a0⟩
              · exact ⟨_, .inr (Int.le_refl _), (hc 1).trans a1⟩
            obtain ⟨d, hd, xd⟩ := hd
            have C1 := lift fun w' hm => sigma_out g l b root lone d w' hm hd
            have C2 := lift fun w' hm => mback_out g l b root lone d w' hm hd
            have C3 := lift fun w' hm => mate_out g l b root lone d w' hm hd
            have C4 := lift fun w' hm => phi_out g l b root lone d w' hm hd
            have C5 := lift fun w' hm => vertex_out g l b root lone d w' hm hd
            have C6 := lift fun w' hm => face_out g l b root lone d w' hm hd
            have C7 := lift fun w' hm => around_out g l b root lone d w' hm hd
            have C8 := lift fun w' hm => border_out g l b root lone d w' hm hd
            clear lift a0 a1 hd
            go_wp2_with fail
            refine (C1.out _ hby).mono ?_
            rintro e y1 ⟨rfl, hy1⟩
            clear C1
            go_wp2_with fail
            refine (C2.out _ hy1).mono ?_
            rintro e y2 ⟨rfl, hy2⟩
            clear C2 hy1
            go_wp2_with fail
            refine (C3.out _ hy2).mono ?_
            rintro e y3 ⟨rfl, hy3⟩
            clear C3 hy2
            go_wp2_with fail
            refine (C4.out _ hy3).mono ?_
            rintro e y4 ⟨rfl, hy4⟩
            clear C4 hy3
            go_wp2_with fail
            refine (C5.out _ hy4).mono ?_
            rintro e y5 ⟨rfl, hy5⟩
            clear C5 hy4
            go_wp2_with fail
            refine (C6.out _ hy5).mono ?_
            rintro e y6 ⟨rfl, hy6⟩
            clear C6 hy5
            go_wp2_with fail
            refine (C7.out _ hy6).mono ?_
            rintro e y7 ⟨rfl, hy7⟩
            clear C7 hy6
            go_wp2_with fail
            refine (C8.out _ hy7).mono ?_
            rintro e y8 ⟨rfl, hy8⟩
            clear C8 hy7
            go_wp2_with fail
            go_roundw
            case rel => exact ⟨j + 1, by omega, by go_num, hy8⟩
            case measure => simp [intOf]; omega
          · obtain rfl : j = 2 := by omega
            go_wp2
            go_ret
            exact ⟨rfl, BA.out.trans (hby.mono BA.out.size)⟩
end Go.Proofs.Ytggakminmipneaa
