/- MixedPairs: of any word each letter's mate and owner. -/
import Derived.Test.YtagpdpacaoianaaGreatDoorZMCounts
import Derived.Test.YtagpdpacaoianaaGreatDoorZMAddS
import Derived.Test.YtagpdpacaoianaaGreatDoorZMRefM
import Derived.Test.YtagpdpacaoianaaGreatDoorZMSize
import Derived.Deep.RegionHeld3
namespace Go.Proofs.YtagpdpacaoianaaGreatDoor
set_option maxRecDepth 20000
open Go.RowKit
set_option linter.unusedVariables false
theorem MateAt.back {ks : List Nat} {i p : Nat} (hi : i < ks.length) (h : MateAt ks i p) : MateAt ks p i := by
  obtain ⟨h1, h2, h3⟩ := h
  refine ⟨hi, h2.symm, ?_⟩
  rw [h2]
  exact h3.back
set_option maxRecDepth 100000 in
set_option maxHeartbeats 16000000 in
theorem mixedPairs_walk (A0 : Option Addr) (n0 c0 pr st : Nat) (bs : List Nat) (w : World) (hT : MTabs w)
    (h0 : Rd w w.heap.size A0 n0 (U8 bs)) (hbs : ∀ b ∈ bs, b < 256) (hn0 : n0 ≤ c0) (hc0 : c0 ≤ maxLen) (hpr : pr < 65536) (hst : st < 256) :
    Calls Tryz.prog 5 #[.int .u16 (pr : Int), .slice A0 n0 c0, .int .u8 (st : Int)] w fun e w' => e = .returned (.bool true) ∧ Below w.heap.size w w' := by
  unfold maxLen at hc0
  have AW := Lib.hid (awake4_p w hT)
  have HT := Lib.hid hT
  have H0 := Lib.hid h0
  have HBS := Lib.hid hbs
  obtain ⟨P, hP, hP9⟩ : ∃ P : Nat, (pr : Int) % 1500 = (P : Int) ∧ P ≤ 1499 := ⟨pr % 1500, by omega, by omega⟩
  obtain ⟨T, hT20, hT9⟩ : ∃ T : Nat, (st : Int) % 20 = (T : Int) ∧ T ≤ 19 := ⟨st % 20, by omega, by omega⟩
  clear hT h0 hbs
  go_enter Tryz.func5, Tryz.ntmps5
  go_wp2_with fail
  refine AW.out.mono ?_
  rintro e w1 ⟨rfl, b1⟩
  have AN := Lib.hid (any4_p A0 n0 c0 P bs w1 ((H0.out.below b1).up b1.size) HBS.out (by omega) (by omega))
  have B1 := Lib.hid b1
  clear b1 AW
  go_wp2_with fail
  refine AN.out.mono ?_
  rintro e w2 ⟨ks, A, c, hso, rfl, hmc, hcm, own2, b2⟩
  obtain ⟨N, hN⟩ : ∃ N, 2 * P = N := ⟨_, rfl⟩
  rw [hN] at hso hmc own2 ⊢
  have hN9 : N ≤ 2998 := by omega
  have B2 : Hid (Below w.heap.size w w2) := B1.out.trans (b2.mono B1.out.size)
  have OF := Lib.hid (of4_p A N c ks w2 (Rd.ofOwn own2) hso.kd (own_inBlk own2) (by omega))
  have R2 := Lib.hid (Rd.ofOwn own2)
  have SO := Lib.hid hso
  clear hso own2 b2 AN B1 hN
  go_wp2_with fail
  refine OF.out.mono ?_
  rintro e w3 ⟨g, rfl, hw3, b3⟩
  have B3 : Hid (Below w.heap.size w w3) := B2.out.trans (b3.mono B2.out.size)
  have W3 := Lib.hid hw3
  have BB3 := Lib.hid b3
  have IP := Lib.hid (index_p (some ⟨g, 0, none⟩) ks w3 SO.out.kd (HT.out.below B3.out) (tells_word _ g _ w3 hw3 (by rw [SO.out.len]; omega)))
  clear hw3 b3 OF
  go_wp2_with fail
  refine IP.out.mono ?_
  rintro e w4 (⟨m, gx, p0, g0, p1, g1, rfl, hm⟩ | ⟨hno, _⟩)
  case inr => exact absurd SO.out.bal hno
  have hln : ks.length = N := SO.out.len
  have HLN := Lib.hid hln
  have s1 : (w4.alloc (.cells #[.int .i64 0] 3)).heap.size = w4.heap.size + 1 := by simp
  have b41 := (Below.refl w4.heap.size w4).alloc (Nat.le_refl _) (.cells #[.int .i64 0] 3)
  have hm1 := hm.below b41
  have hz34 := hm.bel.size
  have WU := W3.out.under (M := w4.heap.size + 1) (hm1.bel)
  have RN := Rd.new w4 3 #[.int .i64 0] 1 (I64 [0]) (by simp [I64]) (by simp)
  have ad := madd_s w2.heap.size g ks (some ⟨w4.heap.size, 0, none⟩) 1 1 [0] (w4.alloc (.cells #[.int .i64 0] 3)) _ WU (by rw [s1]; exact RN) (fun i ⟨a, ea, ei⟩ => by cases ea; subst ei; exact ⟨hz34, by show w4.heap.size < _; omega⟩) (fun i hi => by rw [s1]; exact hi.2) (by rw [hln]; omega)
  have AD := Lib.hid (ad.mono (R' := fun e w' => ∃ z, e = .returned (.int .i64 z) ∧ Mx w2 w' m gx p0 g0 p1 g1 ks 0) fun e w' ⟨he, _, hb, hmd⟩ => ⟨_, he, hm1.rebase (hmd.mono fun i hi hs => by
      rcases Nat.lt_or_ge i w3.heap.size with c | c
      · exact c
      · exact absurd ⟨c, by rw [s1] at hi; exact hi⟩ hs) BB3.out.size ((BB3.out.trans (hm1.bel.mono BB3.out.size)).trans hb) (HT.out.below B2.out).nul ⟨(HT.out.below B2.out).tab, (HT.out.below B2.out).lt⟩⟩)
  clear hm hm1 WU RN ad b41 IP s1 hz34 W3 HT
  go_wp2_with fail
  refine AD.out.mono ?_
  rintro e w5 ⟨zz, rfl, h5⟩
  have LN := Lib.hid (ilen_p h5)
  rw [HLN.out] at LN
  have H5 := Lib.hid h5
  have HL5 := Lib.hid h5.lts
  have R5 := Lib.hid ((R2.out.below h5.bel).up h5.bel.size)
  have MT := Lib.hid (mates4_p A N c ks w5 R5.out SO.out.kd (by omega) SO.out.bal.1 SO.out.bal.2)
  clear h5 AD BB3
  go_wp2_with fail
  refine LN.out.mono ?_
  rintro e w6 ⟨rfl, rfl⟩
  clear LN
  go_wp2_with fail
  refine MT.out.mono ?_
  rintro e w6 ⟨Y, cy, y, rfl, oy, hy, b6⟩
  have H6 := Lib.hid (H5.out.below b6)
  have HL6 := Lib.hid H6.out.lts
  have R6 := Lib.hid ((R5.out.below b6).up b6.size)
  have OY := Lib.hid oy
  have HY := Lib.hid hy
  have OW := Lib.hid (owners_p A N c ks w6 R6.out SO.out.kd (by omega) SO.out.bal.1)
  clear oy hy b6 MT R5 H5
  go_wp2_with fail
  refine OW.out.mono ?_
  rintro e w7 ⟨Z, cz, z, rfl, oz, hz, b7⟩
  have H7 := Lib.hid (H6.out.below b7)
  have R7 := Lib.hid ((R6.out.below b7).up b7.size)
  have RY := Lib.hid ((Rd.ofOwn OY.out).below b7 |>.up b7.size)
  have RZ := Lib.hid (Rd.ofOwn oz)
  have HZ := Lib.hid hz
  have NA : Hid (0 < N → ∀ k, inBlk A k → ¬ MxS gx p0 g0 p1 g1 k) := fun h0 k ⟨a, ea, ei⟩ hs => by
    obtain ⟨b, o, e, hb, _⟩ := R2.out.at_ h0
    rw [e] at ea
    cases ea
    have := H7.out.ge k hs
    subst ei
    simp at this
    omega
  have NY : Hid (0 < N → ∀ k, inBlk Y k → ¬ MxS gx p0 g0 p1 g1 k) := fun h0 k ⟨a, ea, ei⟩ hs => by
    obtain ⟨b, e, hb, _⟩ := own_some OY.out h0
    rw [e] at ea
    cases ea
    have := HL5.out k hs
    subst ei
    simp at this
    omega
  have NZ : Hid (0 < N → ∀ k, inBlk Z k → ¬ MxS gx p0 g0 p1 g1 k) := fun h0 k ⟨a, ea, ei⟩ hs => by
    obtain ⟨b, e, hb, _⟩ := own_some oz h0
    rw [e] at ea
    cases ea
    have := HL6.out k hs
    subst ei
    simp at this
    omega
  clear oz hz b7 OW R6 H6 OY
  go_wp2_with fail
  go_loopw [13] (fun x wr => ∃ j q : Nat, x = .int .i64 (j : Int) ∧ j ≤ N + 20 ∧ q ≤ 20 * j ∧ Hid (Mx w2 wr m gx p0 g0 p1 g1 ks q) ∧ Hid (Mod (MxS gx p0 g0 p1 g1) w7 wr)) (fun x _ => N - (intOf x).toNat)
  case atStart => exact ⟨0, 0, rfl, by omega, by omega, H7, Mod.refl _ _⟩
  case round =>
    clear H7
    obtain ⟨j, q, rfl, hj, hq, HX, HMD⟩ := hrel
    by_cases hlt : j < N
    · have hjl : j < ks.length := by rw [HLN.out]; exact hlt
      have A1 := Lib.hid (mateI_p HX.out j hjl (by omega))
      have HJL := Lib.hid hjl
      clear HX hjl
      go_wp2_with fail
      refine A1.out.mono ?_
      rintro e w8 ⟨a, ha, rfl, h8, m8⟩
      have A2 := Lib.hid (ownerI_p h8 j HJL.out (by omega))
      have HA := Lib.hid ha
      have M8 := Lib.hid (HMD.out.trans m8 fun _ _ h => h)
      clear ha h8 m8 A1 HMD
      go_wp2_with fail
      refine A2.out.mono ?_
      rintro e w9 ⟨r, hr, rfl, h9, m9⟩
      have A3 := Lib.hid (mateI_p h9 a HA.out.1 (by omega))
      have HR := Lib.hid hr
      have M9 := Lib.hid (M8.out.trans m9 fun _ _ h => h)
      clear hr h9 m9 A2 M8
      go_wp2_with fail
      refine A3.out.mono ?_
      rintro e w10 ⟨b, hb, rfl, h10, m10⟩
      obtain rfl : b = j := hb.uniq (HA.out.back HJL.out)
      have M10 := Lib.hid (M9.out.trans m10 fun _ _ h => h)
      have hd := h10.below ((Below.refl w10.heap.size w10).drew)
      have IC := Lib.hid (iat_p hd b HJL.out (by omega))
      have H10 := Lib.hid h10
      clear hb h10 m10 A3 M9 hd
      obtain ⟨a', hva, hma⟩ := HY.out b hlt
      obtain rfl : a' = a := hma.uniq HA.out
      have hvr : z.getD b 0 = r := (HZ.out b hlt).uniq HR.out
      have HVA := Lib.hid hva
      have HVR := Lib.hid hvr
      obtain ⟨kk, hkk⟩ : ∃ kk, kk = ks.getD b 0 := ⟨_, rfl⟩
      rw [← hkk] at IC
      have CELLS : Hid (∃ (x1 o1 x2 o2 x3 o3 : Nat), A = some ⟨x1, o1, none⟩ ∧ Y = some ⟨x2, o2, none⟩ ∧ Z = some ⟨x3, o3, none⟩ ∧ ∀ W, Mod (MxS gx p0 g0 p1 g1) w7 W → W.cell? ⟨x1, o1 + b, none⟩ = some (.int .i64 (kk : Int)) ∧ W.cell? ⟨x2, o2 + b, none⟩ = some (.int .i64 (a' : Int)) ∧ W.cell? ⟨x3, o3 + b, none⟩ = some (.int .i64 r)) := by
        obtain ⟨x1, o1, e1, _, k1⟩ := R7.out.i64 (by omega)
        obtain ⟨x2, o2, e2, _, k2⟩ := RY.out.i64 (by omega)
        obtain ⟨x3, o3, e3, _, k3⟩ := RZ.out.i64 (by omega)
        refine ⟨x1, o1, x2, o2, x3, o3, e1, e2, e3, fun W md => ⟨?_, ?_, ?_⟩⟩
        · obtain ⟨y1, q1, f1, _, l1⟩ := (R7.out.mod md (Nat.le_refl _) NA.out).i64 (by omega)
          rw [e1] at f1; cases f1
          rw [l1 b hlt, ofN_getB, hkk]
        · obtain ⟨y1, q1, f1, _, l1⟩ := (RY.out.mod md (Nat.le_refl _) NY.out).i64 (by omega)
          rw [e2] at f1; cases f1
          rw [l1 b hlt, HVA.out]
        · obtain ⟨y1, q1, f1, _, l1⟩ := (RZ.out.mod md (Nat.le_refl _) NZ.out).i64 (by omega)
          rw [e3] at f1; cases f1
          rw [l1 b hlt, HVR.out]
      obtain ⟨x1, o1, x2, o2, x3, o3, rfl, rfl, rfl, CC⟩ := CELLS.out
      have SK : Hid (∀ W, Mod (MxS gx p0 g0 p1 g1) w7 W → Mod (MxS gx p0 g0 p1 g1) w7 W ∧ W.cell? ⟨x1, o1 + b, none⟩ = some (.int .i64 (kk : Int)) ∧ W.cell? ⟨x2, o2 + b, none⟩ = some (.int .i64 (a' : Int)) ∧ W.cell? ⟨x3, o3 + b, none⟩ = some (.int .i64 r)) := fun W md => ⟨md, CC W md⟩
      have hT1 : (T : Int) ≤ 19 := by omega
      clear CELLS CC HVA HVR hva hvr hma hkk H10 HA HR
      go_wp2_with fail
      have md0 := M10.out
      have md1 := M10.out.drew
      obtain ⟨_, z0, z1, z2⟩ := SK.out _ md0
      obtain ⟨_, y0, y1, y2⟩ := SK.out _ md1
      go_region_held3 (fun W => Mod (MxS gx p0 g0 p1 g1) w7 W ∧ W.cell? ⟨x1, o1 + b, none⟩ = some (.int .i64 (kk : Int)) ∧ W.cell? ⟨x2, o2 + b, none⟩ = some (.int .i64 (a' : Int)) ∧ W.cell? ⟨x3, o3 + b, none⟩ = some (.int .i64 r))
        (exact SK.out _ (by assumption))
        (first
        | (go_at_call 27; (with_reducible refine IC.out.mono ?_); rintro e wa ⟨rfl, h11, m11⟩; have md11 := M10.out.drew.trans m11 fun _ _ h => h; have H11 := Lib.hid h11; clear h11 m11))
      all_goals (
        go_wp2_with fail
        go_roundw
        case rel => exact ⟨b + (1 + T), q + 20, congrArg (Value.int .i64) (by omega), by omega, by omega, H11.out.le (by omega), md11⟩
        case measure => simp [intOf]; omega)
    · have B7 : Hid (Below w.heap.size w wr) := B2.out.trans (HX.out.bel.mono B2.out.size)
      have IO1 := Lib.hid (iat_out HX.out (-1) (.inl (by omega)))
      have IO2 := Lib.hid (iat_out HX.out (N : Int) (.inr (by rw [HLN.out]; omega)))
      have l0 := ah_le 0 ks ks.length (Nat.le_refl _)
      have l1 := ah_le 1 ks ks.length (Nat.le_refl _)
      rw [ah_all, HLN.out] at l0 l1
      have IZ := Lib.hid (isize_p HX.out (by rw [HLN.out]; omega))
      rw [HLN.out] at IZ
      have HZ9 : Hid (32 * (blk N + 1) + 64 * (4 * (((ownL 0 ks).length + 511) / 512) + 1) + 64 * (4 * (((ownL 1 ks).length + 511) / 512) + 1) ≤ N + 4096) := by
        show _ ≤ _
        unfold blk
        omega
      clear HX l0 l1
      go_wp2_with fail
      refine IO1.out.mono ?_
      rintro e w8 ⟨rfl, rfl⟩
      go_wp2_with fail
      refine IO2.out.mono ?_
      rintro e w8 ⟨rfl, rfl⟩
      go_wp2_with fail
      refine IZ.out.mono ?_
      rintro e w8 ⟨sz, rfl, hsz, rfl⟩
      have hszI : sz ≤ N + 4096 := Nat.le_trans hsz HZ9.out
      have hszb : decide ((sz : Int) ≤ (N : Int) + 4096) = true := decide_eq_true (by omega)
      clear hsz
      go_wp2_with fail
      go_ret
      exact ⟨rfl, B7.out⟩
end Go.Proofs.YtagpdpacaoianaaGreatDoor
