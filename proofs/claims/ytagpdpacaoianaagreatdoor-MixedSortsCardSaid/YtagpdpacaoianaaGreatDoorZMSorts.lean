/- MixedSorts: the four kinds ahead of a place, and who owns a letter. -/
import Derived.Test.YtagpdpacaoianaaGreatDoorZMSortM
import Derived.Test.YtagpdpacaoianaaGreatDoorZMCounts
namespace Go.Proofs.YtagpdpacaoianaaGreatDoor
set_option maxRecDepth 20000
open Go.RowKit
set_option linter.unusedVariables false
set_option maxRecDepth 100000 in
set_option maxHeartbeats 16000000 in
theorem mixedSorts_walk (A0 : Option Addr) (n0 c0 pr iv : Nat) (bs : List Nat) (w : World) (hT : MTabs w)
    (h0 : Rd w w.heap.size A0 n0 (U8 bs)) (hbs : ∀ b ∈ bs, b < 256) (hn0 : n0 ≤ c0) (hc0 : c0 ≤ maxLen) (hpr : pr < 65536) (hiv : iv < 65536) :
    Calls Tryz.prog 8 #[.int .u16 (pr : Int), .slice A0 n0 c0, .int .u16 (iv : Int)] w fun e w' => e = .returned (.bool true) ∧ Below w.heap.size w w' := by
  unfold maxLen at hc0
  have AW := Lib.hid (awake4_p w hT)
  have HT := Lib.hid hT
  have H0 := Lib.hid h0
  have HBS := Lib.hid hbs
  obtain ⟨P, hP, hP9⟩ : ∃ P : Nat, (pr : Int) % 600 = (P : Int) ∧ P ≤ 599 := ⟨pr % 600, by omega, by omega⟩
  obtain ⟨P1, hP1⟩ : ∃ P1 : Nat, P1 = 1 + P := ⟨_, rfl⟩
  have hP1I : (1 : Int) + (P : Int) = (P1 : Int) := by omega
  have hP1w : IntKind.i64.wrap (P1 : Int) = (P1 : Int) := by rw [IntKind.wrap_i64]; omega
  have hP19 : 1 ≤ P1 ∧ P1 ≤ 600 := by omega
  obtain ⟨hP11, hP16⟩ := hP19
  clear hP1
  clear hT h0 hbs
  go_enter Tryz.func8, Tryz.ntmps8
  go_wp2_with fail
  refine AW.out.mono ?_
  rintro e w1 ⟨rfl, b1⟩
  have AN := Lib.hid (any4_p A0 n0 c0 P1 bs w1 ((H0.out.below b1).up b1.size) HBS.out (by omega) (by omega))
  have B1 := Lib.hid b1
  clear b1 AW
  go_wp2_with fail
  refine AN.out.mono ?_
  rintro e w2 ⟨ks, A, c, hso, rfl, hmc, hcm, own2, b2⟩
  obtain ⟨N, hN⟩ : ∃ N, 2 * P1 = N := ⟨_, rfl⟩
  rw [hN] at hso hmc own2 ⊢
  have hN9 : 2 ≤ N ∧ N ≤ 1200 := by omega
  have B2 : Hid (Below w.heap.size w w2) := B1.out.trans (b2.mono B1.out.size)
  have OF := Lib.hid (of4_p A N c ks w2 (Rd.ofOwn own2) hso.kd (own_inBlk own2) (by omega))
  have R2 := Lib.hid (Rd.ofOwn own2)
  have SO := Lib.hid hso
  clear hso own2 b2 AN B1 hN
  go_wp2_with fail
  refine OF.out.mono ?_
  rintro e w3 ⟨g, rfl, hw3, b3⟩
  have B3 : Hid (Below w.heap.size w w3) := B2.out.trans (b3.mono B2.out.size)
  have R3 := Lib.hid ((R2.out.below b3).up b3.size)
  have IP := Lib.hid (index_p (some ⟨g, 0, none⟩) ks w3 SO.out.kd (HT.out.below B3.out) (tells_word _ g _ w3 hw3 (by rw [SO.out.len]; omega)))
  clear hw3 b3 OF R2 B2
  go_wp2_with fail
  refine IP.out.mono ?_
  rintro e w4 (⟨m, gx, p0, g0, p1, g1, rfl, hm⟩ | ⟨hno, _⟩)
  case inr => exact absurd SO.out.bal hno
  have HM := Lib.hid hm
  have hln : ks.length = N := SO.out.len
  have HLN := Lib.hid hln
  clear hm IP hln
  clear hP hP1I hP1w hP11 hP16 hP9 HT
  obtain ⟨hN2, hN9⟩ := hN9
  obtain ⟨x, hx, hxN⟩ : ∃ x : Nat, (iv : Int).tmod (N : Int) = (x : Int) ∧ x < N := ⟨iv % N, by rw [Int.tmod_eq_emod_of_nonneg (by omega)]; exact (Int.natCast_emod iv N).symm, Nat.mod_lt _ (by omega)⟩
  have hx2 : (iv : Int) % (N : Int) = (x : Int) := by rw [← hx, Int.tmod_eq_emod_of_nonneg (by omega)]
  have hNz : (N : Int) ≠ 0 := by omega
  have hNzb : ((N : Int) == 0) = false := by rw [beq_eq_false_iff_ne]; omega
  have xw : IntKind.i64.wrap (x : Int) = (x : Int) := by rw [IntKind.wrap_i64]; omega
  go_wp2_with fail
  clear hx hx2 hNz hNzb xw
  obtain ⟨v0, hv0⟩ : ∃ v, v = cntK 0 (ks.take x) := ⟨_, rfl⟩
  obtain ⟨v1, hv1⟩ : ∃ v, v = cntK 1 (ks.take x) := ⟨_, rfl⟩
  obtain ⟨v2, hv2⟩ : ∃ v, v = cntK 2 (ks.take x) := ⟨_, rfl⟩
  obtain ⟨v3, hv3⟩ : ∃ v, v = cntK 3 (ks.take x) := ⟨_, rfl⟩
  have h4 := cnt_four (SO.out.kd.take x)
  rw [← hv0, ← hv1, ← hv2, ← hv3, List.length_take, HLN.out, Nat.min_eq_left (by omega)] at h4
  have d0 := exc_diff SO.out.kd 0 x (by rw [HLN.out]; omega)
  have d1 := exc_diff SO.out.kd 1 x (by rw [HLN.out]; omega)
  rw [show 2 * 0 = 0 from rfl, show 0 + 1 = 1 from rfl, ← hv0, ← hv1] at d0
  rw [show 2 * 1 = 2 from rfl, show 2 + 1 = 3 from rfl, ← hv2, ← hv3] at d1
  have e0 := SO.out.bal.1.1 _ (ah_end 0 ks x (by rw [HLN.out]; omega))
  have e1 := SO.out.bal.2.1 _ (ah_end 1 ks x (by rw [HLN.out]; omega))
  have l10 : v1 ≤ v0 := by omega
  have l32 : v3 ≤ v2 := by omega
  have HV0 : Hid (v0 = cntK 0 (ks.take x)) := hv0
  have HV1 : Hid (v1 = cntK 1 (ks.take x)) := hv1
  have HV2 : Hid (v2 = cntK 2 (ks.take x)) := hv2
  have HV3 : Hid (v3 = cntK 3 (ks.take x)) := hv3
  clear hv0 hv1 hv2 hv3 d0 d1 e0 e1
  have RKA : Hid (∀ (k v q : Nat) (W : World), k < 4 → v = cntK k (ks.take x) → Mx w3 W m gx p0 g0 p1 g1 ks q → q ≤ 900000 → Calls Tryz.prog 29 #[.pointer (some ⟨m, 0, none⟩), .int .i64 (k : Int), .int .i64 (x : Int)] W (MxP w3 W m gx p0 g0 p1 g1 ks (q + 2) (.returned (.tuple #[.int .i64 (v : Int), .int .i64 0])))) := fun k v q W hk hv hW hq => by
    rw [hv]; exact irank_p hW k x hk (by rw [HLN.out]; omega) hq
  obtain ⟨gn, hgn⟩ : ∃ gn, gn = w4.heap.size := ⟨_, rfl⟩
  have HLT : Hid (∀ i, MxS gx p0 g0 p1 g1 i → i < gn) := fun i hi => by rw [hgn]; exact HM.out.lts i hi
  have HGN : Hid (w3.heap.size ≤ gn) := by have := HM.out.bel.size; show _ ≤ _; omega
  have B0 : Hid (Blk (w4.alloc (.cells #[.int .i64 0, .int .i64 0, .int .i64 0, .int .i64 0] 61)) gn 61 #[.int .i64 0, .int .i64 0, .int .i64 0, .int .i64 0]) := by rw [hgn]; exact Blk.new _ _ _
  have X0 : Hid (Mx w3 (w4.alloc (.cells #[.int .i64 0, .int .i64 0, .int .i64 0, .int .i64 0] 61)) m gx p0 g0 p1 g1 ks 0) := HM.out.below ((Below.refl _ _).alloc (Nat.le_refl _) _)
  rw [← hgn]
  clear HM hgn
  generalize w4.alloc (.cells #[.int .i64 0, .int .i64 0, .int .i64 0, .int .i64 0] 61) = w5 at *
  go_loopw [12, 37] (fun s i wr => (i = .int .i64 0 ∧ s = .int .i64 (0) ∧ Hid (Blk wr gn 61 #[.int .i64 0, .int .i64 0, .int .i64 0, .int .i64 0]) ∧ Hid (Mx w3 wr m gx p0 g0 p1 g1 ks 0)) ∨ (i = .int .i64 1 ∧ s = .int .i64 (0 + (v0 : Int)) ∧ Hid (Blk wr gn 61 #[.int .i64 (v0 : Int), .int .i64 0, .int .i64 0, .int .i64 0]) ∧ Hid (Mx w3 wr m gx p0 g0 p1 g1 ks 2)) ∨ (i = .int .i64 2 ∧ s = .int .i64 (0 + (v0 : Int) + (v1 : Int)) ∧ Hid (Blk wr gn 61 #[.int .i64 (v0 : Int), .int .i64 (v1 : Int), .int .i64 0, .int .i64 0]) ∧ Hid (Mx w3 wr m gx p0 g0 p1 g1 ks 4)) ∨ (i = .int .i64 3 ∧ s = .int .i64 (0 + (v0 : Int) + (v1 : Int) + (v2 : Int)) ∧ Hid (Blk wr gn 61 #[.int .i64 (v0 : Int), .int .i64 (v1 : Int), .int .i64 (v2 : Int), .int .i64 0]) ∧ Hid (Mx w3 wr m gx p0 g0 p1 g1 ks 6)) ∨ (i = .int .i64 4 ∧ s = .int .i64 (0 + (v0 : Int) + (v1 : Int) + (v2 : Int) + (v3 : Int)) ∧ Hid (Blk wr gn 61 #[.int .i64 (v0 : Int), .int .i64 (v1 : Int), .int .i64 (v2 : Int), .int .i64 (v3 : Int)]) ∧ Hid (Mx w3 wr m gx p0 g0 p1 g1 ks 8))) (fun _ i _ => 4 - (intOf i).toNat)
  case atStart => exact .inl ⟨rfl, rfl, B0, X0⟩
  case round =>
    clear B0 X0
    obtain ⟨rfl, rfl, HBK, HX⟩ | ⟨rfl, rfl, HBK, HX⟩ | ⟨rfl, rfl, HBK, HX⟩ | ⟨rfl, rfl, HBK, HX⟩ | ⟨rfl, rfl, HBK, HX⟩ := hrel
    · have RK : Hid (Calls Tryz.prog 29 #[.pointer (some ⟨m, 0, none⟩), .int .i64 0, .int .i64 (x : Int)] wr (MxP w3 wr m gx p0 g0 p1 g1 ks (0 + 2) (.returned (.tuple #[.int .i64 (v0 : Int), .int .i64 0])))) := RKA.out 0 v0 0 wr (by decide) HV0.out HX.out (by decide)
      have HBK2 := Lib.hid HBK.out
      go_wp2_with fail
      refine RK.out.mono ?_
      rintro e w6 ⟨rfl, h6, m6⟩
      have b6 := HBK.out.mod m6 (fun h => by have := HLT.out _ h; omega)
      have k1 : w6.cell? ⟨gn, 0, none⟩ = some (.int .i64 0) := b6.cell 0
      have f1 : w6.frozen? ⟨gn, 0, none⟩ = false := b6.frozen 0
      have NB : Hid (Blk (w6.setCell ⟨gn, 0, none⟩ (.int .i64 (v0 : Int))) gn 61 #[.int .i64 (v0 : Int), .int .i64 0, .int .i64 0, .int .i64 0]) := b6.set_ 0 (.int .i64 (v0 : Int))
      have NX : Hid (Mx w3 (w6.setCell ⟨gn, 0, none⟩ (.int .i64 (v0 : Int))) m gx p0 g0 p1 g1 ks 2) := h6.off (by decide) (Mod.setCell (p := ⟨gn, 0, none⟩) (Mod.refl (fun i => i = gn) w6) (fun _ => rfl) _) b6 HGN.out
      clear h6 m6 b6 RK HBK HX HBK2
      go_wp2_with fail
      go_roundw
      case rel => exact .inr (.inl ⟨rfl, by first | rfl | (show _ = _; simp), NB, NX⟩)
      case measure => simp [intOf]
    · have RK : Hid (Calls Tryz.prog 29 #[.pointer (some ⟨m, 0, none⟩), .int .i64 1, .int .i64 (x : Int)] wr (MxP w3 wr m gx p0 g0 p1 g1 ks (2 + 2) (.returned (.tuple #[.int .i64 (v1 : Int), .int .i64 0])))) := RKA.out 1 v1 2 wr (by decide) HV1.out HX.out (by decide)
      have HBK2 := Lib.hid HBK.out
      go_wp2_with fail
      refine RK.out.mono ?_
      rintro e w6 ⟨rfl, h6, m6⟩
      have b6 := HBK.out.mod m6 (fun h => by have := HLT.out _ h; omega)
      have k1 : w6.cell? ⟨gn, 1, none⟩ = some (.int .i64 0) := b6.cell 1
      have f1 : w6.frozen? ⟨gn, 1, none⟩ = false := b6.frozen 1
      have NB : Hid (Blk (w6.setCell ⟨gn, 1, none⟩ (.int .i64 (v1 : Int))) gn 61 #[.int .i64 (v0 : Int), .int .i64 (v1 : Int), .int .i64 0, .int .i64 0]) := b6.set_ 1 (.int .i64 (v1 : Int))
      have NX : Hid (Mx w3 (w6.setCell ⟨gn, 1, none⟩ (.int .i64 (v1 : Int))) m gx p0 g0 p1 g1 ks 4) := h6.off (by decide) (Mod.setCell (p := ⟨gn, 1, none⟩) (Mod.refl (fun i => i = gn) w6) (fun _ => rfl) _) b6 HGN.out
      clear h6 m6 b6 RK HBK HX HBK2
      go_wp2_with fail
      go_roundw
      case rel => exact .inr (.inr (.inl ⟨rfl, by first | rfl | (show _ = _; simp), NB, NX⟩))
      case measure => simp [intOf]
    · have RK : Hid (Calls Tryz.prog 29 #[.pointer (some ⟨m, 0, none⟩), .int .i64 2, .int .i64 (x : Int)] wr (MxP w3 wr m gx p0 g0 p1 g1 ks (4 + 2) (.returned (.tuple #[.int .i64 (v2 : Int), .int .i64 0])))) := RKA.out 2 v2 4 wr (by decide) HV2.out HX.out (by decide)
      have HBK2 := Lib.hid HBK.out
      go_wp2_with fail
      refine RK.out.mono ?_
      rintro e w6 ⟨rfl, h6, m6⟩
      have b6 := HBK.out.mod m6 (fun h => by have := HLT.out _ h; omega)
      have k1 : w6.cell? ⟨gn, 2, none⟩ = some (.int .i64 0) := b6.cell 2
      have f1 : w6.frozen? ⟨gn, 2, none⟩ = false := b6.frozen 2
      have NB : Hid (Blk (w6.setCell ⟨gn, 2, none⟩ (.int .i64 (v2 : Int))) gn 61 #[.int .i64 (v0 : Int), .int .i64 (v1 : Int), .int .i64 (v2 : Int), .int .i64 0]) := b6.set_ 2 (.int .i64 (v2 : Int))
      have NX : Hid (Mx w3 (w6.setCell ⟨gn, 2, none⟩ (.int .i64 (v2 : Int))) m gx p0 g0 p1 g1 ks 6) := h6.off (by decide) (Mod.setCell (p := ⟨gn, 2, none⟩) (Mod.refl (fun i => i = gn) w6) (fun _ => rfl) _) b6 HGN.out
      clear h6 m6 b6 RK HBK HX HBK2
      go_wp2_with fail
      go_roundw
      case rel => exact .inr (.inr (.inr (.inl ⟨rfl, by first | rfl | (show _ = _; simp), NB, NX⟩)))
      case measure => simp [intOf]
    · have RK : Hid (Calls Tryz.prog 29 #[.pointer (some ⟨m, 0, none⟩), .int .i64 3, .int .i64 (x : Int)] wr (MxP w3 wr m gx p0 g0 p1 g1 ks (6 + 2) (.returned (.tuple #[.int .i64 (v3 : Int), .int .i64 0])))) := RKA.out 3 v3 6 wr (by decide) HV3.out HX.out (by decide)
      have HBK2 := Lib.hid HBK.out
      go_wp2_with fail
      refine RK.out.mono ?_
      rintro e w6 ⟨rfl, h6, m6⟩
      have b6 := HBK.out.mod m6 (fun h => by have := HLT.out _ h; omega)
      have k1 : w6.cell? ⟨gn, 3, none⟩ = some (.int .i64 0) := b6.cell 3
      have f1 : w6.frozen? ⟨gn, 3, none⟩ = false := b6.frozen 3
      have NB : Hid (Blk (w6.setCell ⟨gn, 3, none⟩ (.int .i64 (v3 : Int))) gn 61 #[.int .i64 (v0 : Int), .int .i64 (v1 : Int), .int .i64 (v2 : Int), .int .i64 (v3 : Int)]) := b6.set_ 3 (.int .i64 (v3 : Int))
      have NX : Hid (Mx w3 (w6.setCell ⟨gn, 3, none⟩ (.int .i64 (v3 : Int))) m gx p0 g0 p1 g1 ks 8) := h6.off (by decide) (Mod.setCell (p := ⟨gn, 3, none⟩) (Mod.refl (fun i => i = gn) w6) (fun _ => rfl) _) b6 HGN.out
      clear h6 m6 b6 RK HBK HX HBK2
      go_wp2_with fail
      go_roundw
      case rel => exact .inr (.inr (.inr (.inr (⟨rfl, by first | rfl | (show _ = _; simp), NB, NX⟩))))
      case measure => simp [intOf]
    · have k0 : wr.cell? ⟨gn, 0, none⟩ = some (.int .i64 (v0 : Int)) := HBK.out.cell 0
      have k1 : wr.cell? ⟨gn, 1, none⟩ = some (.int .i64 (v1 : Int)) := HBK.out.cell 1
      have k2 : wr.cell? ⟨gn, 2, none⟩ = some (.int .i64 (v2 : Int)) := HBK.out.cell 2
      have k3 : wr.cell? ⟨gn, 3, none⟩ = some (.int .i64 (v3 : Int)) := HBK.out.cell 3
      have hsum : (0 : Int) + (v0 : Int) + (v1 : Int) + (v2 : Int) + (v3 : Int) = (x : Int) := by omega
      have hsum2 : (v0 : Int) + (v1 : Int) + (v2 : Int) + (v3 : Int) = (x : Int) := by omega
      have b10 : decide ((v0 : Int) < (v1 : Int)) = false := decide_eq_false (by omega)
      have b32 : decide ((v2 : Int) < (v3 : Int)) = false := decide_eq_false (by omega)
      have OW := Lib.hid (ownerI_p HX.out x (by rw [HLN.out]; omega) (by omega))
      have OF := Lib.hid (fun r (h : OwnAt ks x r) => own_f SO.out.kd SO.out.bal.1 (by rw [HLN.out]; omega) h)
      have B6 : Hid (Below w.heap.size w wr) := B3.out.trans (HX.out.bel.mono B3.out.size)
      have HL4 := Lib.hid h4
      clear HX h4
      go_wp2_with fail
      refine OW.out.mono ?_
      rintro e w6 ⟨r, hr, rfl, h6, m6⟩
      have b6 := HBK.out.mod m6 (fun h => by have := HLT.out _ h; omega)
      have j0 : w6.cell? ⟨gn, 0, none⟩ = some (.int .i64 (v0 : Int)) := b6.cell 0
      have j1 : w6.cell? ⟨gn, 1, none⟩ = some (.int .i64 (v1 : Int)) := b6.cell 1
      clear k0 k1 k2 k3 b6 HBK hsum hsum2 m6
      rcases OF.out r hr with ⟨rfl, h01⟩ | ⟨p, rfl, hpx, hp0, hc⟩
      · have e01 : v0 = v1 := by rw [HV0.out, HV1.out]; exact h01
        subst e01
        have B7 : Hid (Below w.heap.size w w6) := B3.out.trans (h6.bel.mono B3.out.size)
        clear h6 hr h01
        go_wp2_with fail
        go_ret
        exact ⟨rfl, B7.out⟩
      · have hpb : decide ((x : Int) ≤ (p : Int)) = false := decide_eq_false (by omega)
        have hp0b : decide ((p : Int) < 0) = false := decide_eq_false (by omega)
        have MT := Lib.hid (mateI_p h6 p (by rw [HLN.out]; omega) (by omega))
        have HP0 := Lib.hid hp0
        have HC := Lib.hid hc
        clear h6 hr hp0 hc OF OW
        go_wp2_with fail
        refine MT.out.mono ?_
        rintro e w7 ⟨c, hmc, rfl, h7, m7⟩
        obtain ⟨hc1, hc2, hc3⟩ := HC.out c hmc
        have hcl : c < ks.length := hmc.1
        have hcN : c < N := by rw [← HLN.out]; exact hcl
        have A1 := Lib.hid (iat_p h7 p (by rw [HLN.out]; omega) (by omega))
        rw [HP0.out] at A1
        have hcx : decide ((x : Int) ≤ (c : Int)) = true := decide_eq_true (by omega)
        have HC2 := Lib.hid hc2
        have HC3 := Lib.hid hc3
        have HCL := Lib.hid hcl
        clear h7 m7 hmc MT hc2 hc3 hcl
        go_wp2_with fail
        refine A1.out.mono ?_
        rintro e w8 ⟨rfl, h8, m8⟩
        have A2 := Lib.hid (iat_p h8 c HCL.out (by omega))
        rw [HC2.out] at A2
        clear h8 m8 A1
        go_wp2_with fail
        refine A2.out.mono ?_
        rintro e w9 ⟨rfl, h9, m9⟩
        have A3 := Lib.hid (iat_p h9 x (by rw [HLN.out]; omega) (by omega))
        clear h9 m9 A2
        go_wp2_with fail
        refine A3.out.mono ?_
        rintro e w10 ⟨rfl, h10, m10⟩
        have B10 : Hid (Below w.heap.size w w10) := B3.out.trans (h10.bel.mono B3.out.size)
        clear h10 m10 A3
        by_cases hk1 : ks.getD x 0 = 1
        · obtain rfl := HC3.out hk1
          rw [hk1]
          go_wp2_with fail
          go_ret
          exact ⟨rfl, B10.out⟩
        · have hkb : (((ks.getD x 0 : Nat) : Int) == 1) = false := by rw [beq_eq_false_iff_ne]; omega
          have hki : ¬ ((ks.getD x 0 : Nat) : Int) = 1 := by omega
          generalize ks.getD x 0 = kx at *
          go_wp2_with fail
          go_ret
          exact ⟨rfl, B10.out⟩
end Go.Proofs.YtagpdpacaoianaaGreatDoor
