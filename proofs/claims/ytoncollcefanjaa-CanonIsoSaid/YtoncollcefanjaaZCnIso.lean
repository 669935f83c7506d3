/- CanonIso: the walk. -/
import Derived.Test.YtoncollcefanjaaZg21
import Derived.Test.YtoncollcefanjaaZCnTqA
import Derived.Deep.RegionHeld3
namespace Go.Proofs.Ytoncollcefanjaa
set_option maxRecDepth 100000
open Go.RowKit
set_option linter.unusedVariables false
set_option linter.unusedSimpArgs false
theorem pN_posC {l b : List Nat} (hi : Inv l b) (he : l.length % 2 = 0) (h1 : pN l = 1) : 0 < l.length := by
  rcases Nat.eq_zero_or_pos l.length with h | h
  · have : l = [] := List.eq_nil_of_length_eq_zero h
    subst this
    exact absurd h1 (by decide +kernel)
  · exact h
open Classical in
set_option maxHeartbeats 16000000 in
theorem canonIso_walk (A0 A1 : Option Addr) (n k m0 c0 m1 c1 rr oo : Nat) (by_ to_ : List Int) (same : Bool) (w : World) (hn : n < 256) (hk : k < 256) (hrr : rr < 256) (hoo : oo < 256)
    (h0 : Rd w w.heap.size A0 m0 (Z8 by_)) (hb0 : ∀ x ∈ by_, 0 ≤ x ∧ x < 256) (hmc0 : m0 ≤ c0) (hcm0 : c0 ≤ maxLen) (h1 : Rd w w.heap.size A1 m1 (Z8 to_)) (hb1 : ∀ x ∈ to_, 0 ≤ x ∧ x < 256) (hmc1 : m1 ≤ c1) (hcm1 : c1 ≤ maxLen) :
    Calls Try.prog 5 #[.int .u8 (n : Int), .int .u8 (k : Int), .slice A0 m0 c0, .slice A1 m1 c1, .int .u8 (rr : Int), .int .u8 (oo : Int), .bool same] w fun e w' => e = .returned (.bool true) ∧ Below w.heap.size w w' := by
  have hcm0' : c0 ≤ 9223372036854775807 := by unfold maxLen at hcm0; omega
  have hcm1' : c1 ≤ 9223372036854775807 := by unfold maxLen at hcm1; omega
  have AW := Lib.hid (awake11_p w)
  have H0 := Lib.hid h0
  have HB0 := Lib.hid hb0
  have H1 := Lib.hid h1
  have HB1 := Lib.hid hb1
  obtain ⟨ka, hka⟩ : ∃ ka, ka = n % 6 := ⟨_, rfl⟩
  have hkab : ka < 6 := by omega
  have y1 : (n : Int) % 6 = (ka : Int) := by omega
  have y2 : (n : Int).tmod 6 = (ka : Int) := by rw [Int.tmod_eq_emod_of_nonneg (by omega)]; omega
  obtain ⟨kb, hkb⟩ : ∃ kb, kb = k % 6 := ⟨_, rfl⟩
  have hkbb : kb < 6 := by omega
  have y3 : (k : Int) % 6 = (kb : Int) := by omega
  have y4 : (k : Int).tmod 6 = (kb : Int) := by rw [Int.tmod_eq_emod_of_nonneg (by omega)]; omega
  clear h0 hb0 h1 hb1 hka hkb hcm0 hcm1
  go_enter Try.func5, Try.ntmps5
  go_wp2_with fail
  refine AW.out.mono ?_
  rintro e w1 ⟨rfl, b1⟩
  have B1 := Lib.hid b1
  have AN := Lib.hid (any_p ka rr m0 c0 w.heap.size A0 by_ w1 (H0.out.below b1) HB0.out b1.size (by omega) hrr (by omega))
  clear b1 AW H0 HB0
  go_wp2_with fail
  refine AN.out.mono ?_
  rintro e w2 ⟨v, l, b, root, rfl, hrm, hl, hroot, b2⟩
  have B2 := Lib.hid (B1.out.trans (b2.mono B1.out.size))
  have AN2 := Lib.hid (any_p kb oo m1 c1 w.heap.size A1 to_ w2 (H1.out.below B2.out) HB1.out B2.out.size (by omega) hoo (by omega))
  obtain ⟨hinv, A, cA, hla, rfl, hlc, hcA, hrA⟩ := hrm
  obtain ⟨N, hN⟩ : ∃ N, N = l.length := ⟨_, rfl⟩
  have HNN := Lib.hid hN
  have hN2 : N = 2 * ka := by omega
  rw [← hN] at hrA ⊢
  rw [← hN2] at hroot
  have HRT : Hid (RootOk root l.length) := by rw [← hN]; exact hroot
  have HEV : Hid (l.length % 2 = 0) := by show _ = _; omega
  have HI := Lib.hid hinv
  have hN10 : N ≤ 10 := by omega
  have HRA := Lib.hid hrA
  clear hN hinv hla hlc hcA hrA b2 B1 AN hl hroot hN2 H1 HB1
  go_wp2_with fail
  refine AN2.out.mono ?_
  rintro e w3 ⟨v3, l3, b3, root3, rfl, hrm, hl, hroot, z⟩
  obtain ⟨hinv, A3, cA3, hla, rfl, hlc, hcA, hrA⟩ := hrm
  obtain ⟨N3, hN⟩ : ∃ N3, N3 = l3.length := ⟨_, rfl⟩
  rw [← hN] at hrA ⊢
  have hrt3 : RootOk root3 l3.length := by rw [hl]; exact hroot
  have hev3 : l3.length % 2 = 0 := by omega
  have hl3 : l3.length ≤ 10 := by omega
  obtain ⟨wx, hwx⟩ : ∃ wx, wx = (w3.alloc (.cells #[.slice A N cA, .int .i64 root, .int .i64 0] 26)).alloc (.cells #[.slice A3 N3 cA3, .int .i64 root3, .int .i64 0] 26) := ⟨_, rfl⟩
  have bx : Below w3.heap.size w3 wx := by rw [hwx]; exact ((Below.refl w3.heap.size w3).alloc (Nat.le_refl _) _).alloc (by simp) _
  have XB : Hid (Blk wx w3.heap.size 26 #[.slice A N cA, .int .i64 root, .int .i64 0]) := by show Blk _ _ _ _; rw [hwx]; exact (Blk.new w3 _ _).alloc _
  have YB : Hid (Blk wx (w3.heap.size + 1) 26 #[.slice A3 N3 cA3, .int .i64 root3, .int .i64 0]) := by
    show Blk _ _ _ _
    rw [hwx]
    have := Blk.new (w3.alloc (.cells #[.slice A N cA, .int .i64 root, .int .i64 0] 26)) 26 #[.slice A3 N3 cA3, .int .i64 root3, .int .i64 0]
    simpa using this
  have zb := z.trans (bx.mono z.size)
  have hww3 : w.heap.size ≤ w3.heap.size := (B2.out.trans (z.mono B2.out.size)).size
  have B3 := Lib.hid (B2.out.trans (zb.mono B2.out.size))
  have RA : Hid (Rd wx w3.heap.size A N (I64 (ofN l))) := (HRA.out.more z).below bx
  have R3 : Hid (Rd wx w3.heap.size A3 N3 (I64 (ofN l3))) := hrA.below bx
  have Y3 : Hid (Inv l3 b3 ∧ l3.length % 2 = 0 ∧ l3.length ≤ 10 ∧ RootOk root3 l3.length ∧ N3 = l3.length) := ⟨hinv, hev3, hl3, hrt3, hN⟩
  have hsx : wx.heap.size = w3.heap.size + 2 := by rw [hwx]; simp
  clear hN hinv hla hlc hcA hrA z bx zb AN2 hl hroot HRA hrt3 hev3 hl3 B2
  go_upto_if 33 with fail
  rw [← hwx]
  clear hwx
  obtain ⟨gx, hgx⟩ : ∃ gx, gx = w3.heap.size := ⟨_, rfl⟩
  rw [← hgx] at XB YB hsx RA R3
  simp only [← hgx]
  have HGS : Hid (wx.heap.size = gx + 2) := hsx
  have HGW : Hid (w.heap.size ≤ gx) := by show _ ≤ _; rw [hgx]; exact hww3
  clear hgx hsx hww3
  have MID : Hid (∀ (wz : World) (AY : Option Addr) (cY : Nat) (l2 b2 : List Nat) (root2 : Int), Mod (fun i => i = gx + 1) wx wz → Blk wz (gx + 1) 26 #[.slice AY l2.length cY, .int .i64 root2, .int .i64 0] → (Inv l2 b2 ∧ l2.length % 2 = 0 ∧ l2.length ≤ 10 ∧ RootOk root2 l2.length) → Rd wx gx AY l2.length (I64 (ofN l2)) →
      ∃ (AY : Option Addr) (cY : Nat) (l2 b2 : List Nat) (root2 : Int), Hid (Blk wz gx 26 #[.slice A N cA, .int .i64 root, .int .i64 0]) ∧ Hid (Blk wz (gx + 1) 26 #[.slice AY l2.length cY, .int .i64 root2, .int .i64 0]) ∧ Hid (Inv l2 b2 ∧ l2.length % 2 = 0 ∧ l2.length ≤ 10 ∧ RootOk root2 l2.length) ∧ Hid (Rd wz wz.heap.size AY l2.length (I64 (ofN l2))) ∧ Hid (Rd wz wz.heap.size A N (I64 (ofN l))) ∧ Hid (Below w.heap.size w wz)) := fun wz AY cY l2 b2 root2 mm yb inv rd => by
    have hs := HGS.out
    have bg : Below gx wx wz := mm.belowB (by omega) fun i hi e => by omega
    have hz := mm.size
    exact ⟨AY, cY, l2, b2, root2, XB.out.mod mm (by show ¬ gx = gx + 1; omega), yb, inv, (rd.below bg).up (by omega), (RA.out.below bg).up (by omega), B3.out.trans (bg.mono HGW.out)⟩
  go_cut [16] from 33 to 49 (fun s wz => s = .pointer (some ⟨gx + 1, 0, none⟩) ∧ ∃ (AY : Option Addr) (cY : Nat) (l2 b2 : List Nat) (root2 : Int), Hid (Blk wz gx 26 #[.slice A N cA, .int .i64 root, .int .i64 0]) ∧ Hid (Blk wz (gx + 1) 26 #[.slice AY l2.length cY, .int .i64 root2, .int .i64 0]) ∧ Hid (Inv l2 b2 ∧ l2.length % 2 = 0 ∧ l2.length ≤ 10 ∧ RootOk root2 l2.length) ∧ Hid (Rd wz wz.heap.size AY l2.length (I64 (ofN l2))) ∧ Hid (Rd wz wz.heap.size A N (I64 (ofN l))) ∧ Hid (Below w.heap.size w wz))
  case first =>
    cases same with
    | false =>
      have F := MID.out wx A3 cA3 l3 b3 root3 (Mod.refl _ _) (by have := YB.out; rwa [Y3.out.2.2.2.2] at this) ⟨Y3.out.1, Y3.out.2.1, Y3.out.2.2.1, Y3.out.2.2.2.1⟩ (by have := R3.out; rwa [Y3.out.2.2.2.2] at this)
      have FF := Lib.hid F
      clear F MID
      go_wp2_with fail
      go_meet
      exact ⟨rfl, FF.out⟩
    | true =>
      have x0 := XB.out.cell 0
      have x1 := XB.out.cell 1
      have x2 := XB.out.cell 2
      have yy0 := YB.out.cell 0
      have yy1 := YB.out.cell 1
      have yy2 := YB.out.cell 2
      have fz0 := YB.out.frozen 0
      have fz1 := YB.out.frozen 1
      have fz2 := YB.out.frozen 2
      simp at x0 x1 x2 yy0 yy1 yy2
      have MMt : ∀ (wz : World) (o : Nat) (u : Value), Mod (fun i => i = gx + 1) wx wz → Mod (fun i => i = gx + 1) wx (wz.setCell ⟨gx + 1, o, none⟩ u) := fun wz o u mm => Mod.setCell (p := ⟨gx + 1, o, none⟩) mm (fun _ => rfl) u
      have m3 := MMt _ 2 (.int .i64 0) (MMt _ 1 (.int .i64 root) (MMt _ 0 (.slice A N cA) (Mod.refl _ wx)))
      have b3 : Blk (((wx.setCell ⟨gx + 1, 0, none⟩ (.slice A N cA)).setCell ⟨gx + 1, 1, none⟩ (.int .i64 root)).setCell ⟨gx + 1, 2, none⟩ (.int .i64 0)) (gx + 1) 26 #[.slice A N cA, .int .i64 root, .int .i64 0] := by
        have := ((YB.out.set_ 0 (.slice A N cA)).set_ 1 (.int .i64 root)).set_ 2 (.int .i64 0)
        simpa using this
      have hne : gx ≠ gx + 1 := by omega
      by_cases hN0 : N = 0
      · have F := MID.out _ A cA l b root m3 (by rw [← HNN.out]; exact b3) ⟨HI.out, HEV.out, by have := HNN.out; omega, HRT.out⟩ (by have := RA.out; rwa [HNN.out] at this)
        have FF := Lib.hid F
        have hd : decide (0 < N) = false := by rw [decide_eq_false_iff_not]; omega
        have hnp : ¬ (0 : Int) < (N : Int) := by omega
        clear F MID m3 b3 MMt hN0
        go_wp2_with fail
        go_meet
        exact ⟨rfl, FF.out⟩
      · obtain ⟨q, hq, hqn⟩ : ∃ q : Nat, (oo : Int) % (N : Int) = (q : Int) ∧ q < N := ⟨oo % N, by rw [Int.natCast_emod], Nat.mod_lt _ (by omega)⟩
        have hq2 : (oo : Int).tmod (N : Int) = (q : Int) := by rw [Int.tmod_eq_emod_of_nonneg (by omega)]; exact hq
        have m4 := MMt _ 1 (.int .i64 (q : Int)) m3
        have b4 : Blk ((((wx.setCell ⟨gx + 1, 0, none⟩ (.slice A N cA)).setCell ⟨gx + 1, 1, none⟩ (.int .i64 root)).setCell ⟨gx + 1, 2, none⟩ (.int .i64 0)).setCell ⟨gx + 1, 1, none⟩ (.int .i64 (q : Int))) (gx + 1) 26 #[.slice A N cA, .int .i64 (q : Int), .int .i64 0] := by
          have := b3.set_ 1 (.int .i64 (q : Int))
          simpa using this
        have F := MID.out _ A cA l b (q : Int) m4 (by rw [← HNN.out]; exact b4) ⟨HI.out, HEV.out, by have := HNN.out; omega, .inr ⟨by have := HNN.out; omega, by omega, by have := HNN.out; omega⟩⟩ (by have := RA.out; rwa [HNN.out] at this)
        have FF := Lib.hid F
        have hd : decide (0 < N) = true := by rw [decide_eq_true_iff]; omega
        have hnp : (0 : Int) < (N : Int) := by omega
        have hnz : ¬ (N : Int) = 0 := by omega
        have bc1 := b3.cell 1
        have bf1 := b3.frozen 1
        simp at bc1
        clear F MID m3 m4 b3 b4 MMt hN0
        go_wp2_with fail
        go_meet
        exact ⟨rfl, FF.out⟩
  case rest =>
    obtain ⟨rfl, AY, cY, l2, b2, root2, XB, YB, Y2, RY, RA, BW⟩ := hcut
    obtain ⟨wd, rfl⟩ : ∃ wd : World, wd = wc := ⟨_, rfl⟩
    obtain ⟨N2, hN2⟩ : ∃ N2, N2 = l2.length := ⟨_, rfl⟩
    have HN2 := Lib.hid hN2
    have HN10 := Lib.hid hN10
    have hN210 : N2 ≤ 10 := by have := Y2.out.2.2.1; omega
    rw [← hN2] at YB RY
    have hgx := XB.out.lt
    have hgy := YB.out.lt
    have x0 := XB.out.cell 0
    have x1 := XB.out.cell 1
    have x2 := XB.out.cell 2
    have yy0 := YB.out.cell 0
    have yy1 := YB.out.cell 1
    have yy2 := YB.out.cell 2
    simp at x0 x1 x2 yy0 yy1 yy2
    have SK : Hid (∀ W, Below wd.heap.size wd W → Below wd.heap.size wd W ∧ W.cell? ⟨gx, 0, none⟩ = some (.slice A N cA) ∧ W.cell? ⟨gx, 1, none⟩ = some (.int .i64 root) ∧ W.cell? ⟨gx, 2, none⟩ = some (.int .i64 0) ∧ W.cell? ⟨gx + 1, 0, none⟩ = some (.slice AY N2 cY) ∧ W.cell? ⟨gx + 1, 1, none⟩ = some (.int .i64 root2) ∧ W.cell? ⟨gx + 1, 2, none⟩ = some (.int .i64 0)) := fun W m => ⟨m, (m.cell (p := ⟨gx, 0, none⟩) hgx).trans x0, (m.cell (p := ⟨gx, 1, none⟩) hgx).trans x1, (m.cell (p := ⟨gx, 2, none⟩) hgx).trans x2, (m.cell (p := ⟨gx + 1, 0, none⟩) hgy).trans yy0, (m.cell (p := ⟨gx + 1, 1, none⟩) hgy).trans yy1, (m.cell (p := ⟨gx + 1, 2, none⟩) hgy).trans yy2⟩
    have OFX : Hid (∀ W, Below wd.heap.size wd W → Calls Try.prog 12 #[.agg #[.slice A N cA, .int .i64 root, .int .i64 0]] W fun e w' => ∃ g, e = .returned (.pointer (some ⟨g, 0, none⟩)) ∧ MapAt w' g l b root 0 ∧ Below W.heap.size W w') := fun W mm => by
      have := of11_p A cA l b root 0 W (by have := RA.out.more mm; rwa [HNN.out] at this) HI.out HEV.out (by have := HNN.out; omega) HRT.out (by omega) (by omega)
      rwa [← HNN.out] at this
    have OFY : Hid (∀ W, Below wd.heap.size wd W → Calls Try.prog 12 #[.agg #[.slice AY N2 cY, .int .i64 root2, .int .i64 0]] W fun e w' => ∃ g, e = .returned (.pointer (some ⟨g, 0, none⟩)) ∧ MapAt w' g l2 b2 root2 0 ∧ Below W.heap.size W w') := fun W mm => by
      have := of11_p AY cY l2 b2 root2 0 W (by have := RY.out.more mm; rwa [HN2.out] at this) Y2.out.1 Y2.out.2.1 (by have := Y2.out.2.2.1; omega) Y2.out.2.2.2 (by omega) (by omega)
      rwa [← HN2.out] at this
    have PTX : Hid (∀ W, Below wd.heap.size wd W → Calls Try.prog 22 #[.agg #[.slice A N cA, .int .i64 root, .int .i64 0]] W (NewQt W (pN l) (partsC l (pN l)))) := fun W mm => by
      have := reparts_p A cA l b root 0 W (by have := RA.out.more mm; rwa [HNN.out] at this) HI.out HEV.out (by have := HNN.out; omega) (by omega)
      rwa [← HNN.out] at this
    have PTY : Hid (∀ W, Below wd.heap.size wd W → Calls Try.prog 22 #[.agg #[.slice AY N2 cY, .int .i64 root2, .int .i64 0]] W (NewQt W (pN l2) (partsC l2 (pN l2)))) := fun W mm => by
      have := reparts_p AY cY l2 b2 root2 0 W (by have := RY.out.more mm; rwa [HN2.out] at this) Y2.out.1 Y2.out.2.1 (by have := Y2.out.2.2.1; omega) (by omega)
      rwa [← HN2.out] at this
    have hba0 := Below.refl wd.heap.size wd
    have hba1 := hba0.drew
    clear hN2 x0 x1 x2 yy0 yy1 yy2 MID R3 Y3 B3 HGS hgx hgy hN10 HGW
    obtain ⟨_, x0, x1, x2, yy0, yy1, yy2⟩ := SK.out _ hba0
    obtain ⟨_, zx0, zx1, zx2, zy0, zy1, zy2⟩ := SK.out _ hba1
    have hne : gx ≠ gx + 1 := by omega
    go_upto_region 8 with fail
    go_cut [17, 18] from 50 to 53 (fun s t wz => ∃ g1 g2, s = .pointer (some ⟨g1, 0, none⟩) ∧ t = .pointer (some ⟨g2, 0, none⟩) ∧ Hid (MapAt wz g1 l b root 0) ∧ Hid (MapAt wz g2 l2 b2 root2 0) ∧ Hid (Below wd.heap.size wd wz))
    case first =>
      go_region_held3 (fun W => Below wd.heap.size wd W ∧ W.cell? ⟨gx, 0, none⟩ = some (.slice A N cA) ∧ W.cell? ⟨gx, 1, none⟩ = some (.int .i64 root) ∧ W.cell? ⟨gx, 2, none⟩ = some (.int .i64 0) ∧ W.cell? ⟨gx + 1, 0, none⟩ = some (.slice AY N2 cY) ∧ W.cell? ⟨gx + 1, 1, none⟩ = some (.int .i64 root2) ∧ W.cell? ⟨gx + 1, 2, none⟩ = some (.int .i64 0))
        (exact SK.out _ (by assumption))
        (first
        | (go_at_call 12; (with_reducible refine (OFY.out _ hbc).mono ?_); rintro e wq ⟨gh, rfl, hm2, hz2⟩; have hbd := hbc.trans (hz2.mono hbc.size))
        | (go_at_call 12; (with_reducible refine (OFX.out _ (by assumption)).mono ?_); rintro e wq ⟨gg, rfl, hm1, hz1⟩; have hbc := hba1.trans (hz1.mono hba1.size)))
      all_goals (go_wp2_with fail; go_meet; exact ⟨_, _, rfl, rfl, hm1.below hz2, hm2, hbd⟩)
    case rest =>
      obtain ⟨g1, g2, rfl, rfl, M1, M2, ZE⟩ := hcut
      obtain ⟨we, rfl⟩ : ∃ we : World, we = wc := ⟨_, rfl⟩
      have CN1 : Hid (∀ W, Below we.heap.size we W → Calls Try.prog 26 #[.pointer (some ⟨g1, 0, none⟩)] W fun e w' => e = .returned (.bool (decide (pN l = 1))) ∧ Below W.heap.size W w') := fun W m => connected_p g1 l b root 0 W (M1.out.below m)
      have CN2 : Hid (∀ W, Below we.heap.size we W → Calls Try.prog 26 #[.pointer (some ⟨g2, 0, none⟩)] W fun e w' => e = .returned (.bool (decide (pN l2 = 1))) ∧ Below W.heap.size W w') := fun W m => connected_p g2 l2 b2 root2 0 W (M2.out.below m)
      have BE := Lib.hid (BW.out.trans (ZE.out.mono BW.out.size))
      obtain ⟨P, Q, hC⟩ := canO_is (b := b) HI.out HEV.out HRT.out
      obtain ⟨P2, Q2, hC2⟩ := canO_is (b := b2) Y2.out.1 Y2.out.2.1 Y2.out.2.2.2
      have HC := Lib.hid hC
      have HC2 := Lib.hid hC2
      obtain ⟨np, hnp⟩ : ∃ np, np = pN l := ⟨_, rfl⟩
      obtain ⟨np2, hnp2⟩ : ∃ np2, np2 = pN l2 := ⟨_, rfl⟩
      rw [← hnp] at CN1 PTX
      rw [← hnp2] at CN2 PTY
      have HP1 := Lib.hid hnp
      have HP2 := Lib.hid hnp2
      clear hC hC2 x0 x1 x2 yy0 yy1 yy2 zx0 zx1 zx2 zy0 zy1 zy2 hba0 hba1 OFX OFY hnp hnp2
      have E0 := Below.refl we.heap.size we
      by_cases hn1 : np = 1
      · have hdn : decide (np = 1) = true := decide_eq_true hn1
        have hb1 : ((np : Int) != 1) = false := by rw [hn1]; rfl
        rw [hdn] at CN1
        have C1 := Lib.hid (CN1.out _ E0)
        clear hdn CN1
        by_cases hn2 : np2 = 1
        · have hdn : decide (np2 = 1) = true := decide_eq_true hn2
          rw [hdn] at CN2
          have HQ1 : Hid (pN l = 1) := by show _ = _; rw [← HP1.out]; exact hn1
          have HQ2 : Hid (pN l2 = 1) := by show _ = _; rw [← HP2.out]; exact hn2
          clear hdn hn1 hn2
          go_wp2_with fail
          refine C1.out.mono ?_
          rintro e v1 ⟨rfl, z⟩
          have Z1 := Lib.hid z
          clear z C1
          go_wp2_with fail
          refine (CN2.out _ Z1.out).mono ?_
          rintro e v2 ⟨rfl, z⟩
          have Z2 := Lib.hid (Z1.out.trans (z.mono Z1.out.size))
          clear z CN2 Z1
          have hl0 := pN_posC HI.out HEV.out HQ1.out
          have hl20 := pN_posC Y2.out.1 Y2.out.2.1 HQ2.out
          obtain ⟨r, hr, hrd⟩ : ∃ r : Nat, root = (r : Int) ∧ r < l.length := by
            rcases HRT.out with ⟨e, _⟩ | ⟨_, e1, e2⟩
            · omega
            · exact ⟨root.toNat, by omega, by omega⟩
          obtain ⟨r2, hr2, hrd2⟩ : ∃ r2 : Nat, root2 = (r2 : Int) ∧ r2 < l2.length := by
            rcases Y2.out.2.2.2 with ⟨e, _⟩ | ⟨_, e1, e2⟩
            · omega
            · exact ⟨root2.toNat, by omega, by omega⟩
          subst hr hr2
          obtain ⟨bq, hbq⟩ : ∃ bq : Bool, bq = decide (∃ p q, Trn l l2 r r2 p q) := ⟨_, rfl⟩
          have hbi : bq = true ↔ ∃ p q, Trn l l2 r r2 p q := by rw [hbq, decide_eq_true_iff]
          have TI := turn_iso HI.out Y2.out.1 HEV.out Y2.out.2.1 hrd hrd2 HQ1.out HQ2.out HC.out HC2.out
          have I1 : Hid (∀ W, Below v2.heap.size v2 W → Calls Try.prog 25 #[.pointer (some ⟨g1, 0, none⟩), .pointer (some ⟨g2, 0, none⟩)] W fun e w' => e = .returned (.bool bq) ∧ Below W.heap.size W w') := fun W m => by
            have mm := Z2.out.trans (m.mono Z2.out.size)
            have h3 := ciso_p g1 g2 l b l2 b2 (r : Int) 0 (r2 : Int) 0 P Q P2 Q2 W (M1.out.below mm) (M2.out.below mm) HI.out Y2.out.1 HC.out HC2.out
            rwa [decide_eq_decide.2 TI, ← hbq] at h3
          have I2 : Hid (∀ W, Below v2.heap.size v2 W → Calls Try.prog 25 #[.pointer (some ⟨g2, 0, none⟩), .pointer (some ⟨g1, 0, none⟩)] W fun e w' => e = .returned (.bool bq) ∧ Below W.heap.size W w') := fun W m => by
            have mm := Z2.out.trans (m.mono Z2.out.size)
            have h3 := ciso_p g2 g1 l2 b2 l b (r2 : Int) 0 (r : Int) 0 P2 Q2 P Q W (M2.out.below mm) (M1.out.below mm) Y2.out.1 HI.out HC2.out HC.out
            have e3 : (reRoot P2 (r2 : Int) = reRoot P (r : Int) ∧ (0 : Int) = 0 ∧ cjL P2 Q2 l2 = cjL P Q l) ↔ ∃ p q, Trn l l2 r r2 p q := ⟨fun k => TI.1 ⟨k.1.symm, rfl, k.2.2.symm⟩, fun k => by
              have := TI.2 k
              exact ⟨this.1.symm, rfl, this.2.2.symm⟩⟩
            rwa [decide_eq_decide.2 e3, ← hbq] at h3
          have TT : Hid (∀ W, Below v2.heap.size v2 W → Calls Try.prog 27 #[.agg #[.slice A N cA, .int .i64 (r : Int), .int .i64 0], .agg #[.slice AY N2 cY, .int .i64 (r2 : Int), .int .i64 0]] W fun e w' => e = .returned (.bool bq) ∧ Below W.heap.size W w') := fun W m => by
            have mm := ZE.out.trans ((Z2.out.trans (m.mono Z2.out.size)).mono ZE.out.size)
            have := rturn_p A AY cA cY l b l2 b2 r r2 0 bq W (by have := RA.out.more mm; rwa [HNN.out] at this) (by have := RY.out.more mm; rwa [HN2.out] at this) HI.out Y2.out.1 HEV.out (by have := HNN.out; have := HN10.out; omega) (by have := Y2.out.2.2.1; omega) hrd hrd2 (fun j hj => one_of_pN HI.out HEV.out HQ1.out hrd hj) hbi
            rwa [← HNN.out, ← HN2.out] at this
          have BV := Lib.hid (BE.out.trans (Z2.out.mono BE.out.size))
          have SKV : Hid (∀ W, Below v2.heap.size v2 W → Below v2.heap.size v2 W ∧ W.cell? ⟨gx, 0, none⟩ = some (.slice A N cA) ∧ W.cell? ⟨gx, 1, none⟩ = some (.int .i64 (r : Int)) ∧ W.cell? ⟨gx, 2, none⟩ = some (.int .i64 0) ∧ W.cell? ⟨gx + 1, 0, none⟩ = some (.slice AY N2 cY) ∧ W.cell? ⟨gx + 1, 1, none⟩ = some (.int .i64 (r2 : Int)) ∧ W.cell? ⟨gx + 1, 2, none⟩ = some (.int .i64 0)) := fun W m => ⟨m, (SK.out W (ZE.out.trans ((Z2.out.trans (m.mono Z2.out.size)).mono ZE.out.size))).2⟩
          have hba0 := Below.refl v2.heap.size v2
          have hba1 := hba0.drew
          clear hl0 hl20 hrd hrd2 hbq hbi TI SK PTX PTY
          obtain ⟨_, x0, x1, x2, yy0, yy1, yy2⟩ := SKV.out _ hba0
          obtain ⟨_, zx0, zx1, zx2, zy0, zy1, zy2⟩ := SKV.out _ hba1
          go_upto_region 11 with fail
          go_region_held3 (fun W => Below v2.heap.size v2 W ∧ W.cell? ⟨gx, 0, none⟩ = some (.slice A N cA) ∧ W.cell? ⟨gx, 1, none⟩ = some (.int .i64 (r : Int)) ∧ W.cell? ⟨gx, 2, none⟩ = some (.int .i64 0) ∧ W.cell? ⟨gx + 1, 0, none⟩ = some (.slice AY N2 cY) ∧ W.cell? ⟨gx + 1, 1, none⟩ = some (.int .i64 (r2 : Int)) ∧ W.cell? ⟨gx + 1, 2, none⟩ = some (.int .i64 0))
            (exact SKV.out _ (by assumption))
            (first
            | (go_at_call 27; (with_reducible refine (TT.out _ hb3).mono ?_); rintro e wq ⟨rfl, hz⟩; have hend := hb3.trans (hz.mono hb3.size))
            | (go_at_call 25; (with_reducible refine (I2.out _ hb2).mono ?_); rintro e wq ⟨rfl, hz⟩; have hb3 := hb2.trans (hz.mono hb2.size); clear hz)
            | (go_at_call 27; (with_reducible refine (TT.out _ hb1').mono ?_); rintro e wq ⟨rfl, hz⟩; have hb2 := hb1'.trans (hz.mono hb1'.size); clear hz)
            | (go_at_call 25; (with_reducible refine (I1.out _ (by assumption)).mono ?_); rintro e wq ⟨rfl, hz⟩; have hb1' := hba1.trans (hz.mono hba1.size); clear hz))
          all_goals (
            go_wp2_with fail
            go_ret
            exact ⟨by simp, BV.out.trans (hend.mono BV.out.size)⟩)
        · have hdn : decide (np2 = 1) = false := decide_eq_false hn2
          rw [hdn] at CN2
          have hb2 : ((np2 : Int) != 1) = true := by rw [bne_iff_ne]; omega
          clear hdn hn1 hn2
          go_wp2_with fail
          refine C1.out.mono ?_
          rintro e v1 ⟨rfl, z⟩
          have Z1 := Lib.hid z
          clear z C1
          go_wp2_with fail
          refine (CN2.out _ Z1.out).mono ?_
          rintro e v2 ⟨rfl, z⟩
          have Z2 := Lib.hid (Z1.out.trans (z.mono Z1.out.size))
          have ZD := Lib.hid (ZE.out.trans (Z2.out.mono ZE.out.size))
          clear z CN2 Z1
          obtain ⟨_, x0, x1, x2, yy0, yy1, yy2⟩ := SK.out _ ZD.out
          go_wp2_with fail
          refine (PTX.out _ ZD.out).mono ?_
          rintro e v3 ⟨Aq, cq, rfl, _, _, _, z⟩
          have Z3 := Lib.hid (ZD.out.trans (z.mono ZD.out.size))
          clear z ZD PTX x0 x1 x2 yy0 yy1 yy2
          obtain ⟨_, x0, x1, x2, yy0, yy1, yy2⟩ := SK.out _ Z3.out
          go_wp2_with fail
          refine (PTY.out _ Z3.out).mono ?_
          rintro e v4 ⟨Aq2, cq2, rfl, _, _, _, z⟩
          have B4 := Lib.hid (BW.out.trans ((Z3.out.trans (z.mono Z3.out.size)).mono BW.out.size))
          clear z PTY
          go_wp2_with fail
          go_ret
          exact ⟨by simp, B4.out⟩
      · have hdn : decide (np = 1) = false := decide_eq_false hn1
        rw [hdn] at CN1
        have hb1 : ((np : Int) != 1) = true := by rw [bne_iff_ne]; omega
        have C1 := Lib.hid (CN1.out _ E0)
        clear hdn hn1 CN1 CN2
        go_wp2_with fail
        refine C1.out.mono ?_
        rintro e v1 ⟨rfl, z⟩
        have ZD := Lib.hid (ZE.out.trans (z.mono ZE.out.size))
        clear z C1
        obtain ⟨_, x0, x1, x2, yy0, yy1, yy2⟩ := SK.out _ ZD.out
        go_wp2_with fail
        refine (PTX.out _ ZD.out).mono ?_
        rintro e v3 ⟨Aq, cq, rfl, _, _, _, z⟩
        have B4 := Lib.hid (BW.out.trans ((ZD.out.trans (z.mono ZD.out.size)).mono BW.out.size))
        clear z PTX
        go_wp2_with fail
        go_ret
        exact ⟨by simp, B4.out⟩
end Go.Proofs.Ytoncollcefanjaa
