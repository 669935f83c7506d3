/- DualTwice: the walk. -/
import Derived.Test.YthbhbcakiaaapaaULike
import Derived.Test.YthbhbcakiaaapaaUNil
import Derived.Test.YthbhbcakiaaapaaUDualM
import Derived.Test.YthbhbcakiaaapaaDSame
namespace Go.Proofs.Ythbhbcakiaaapaa
set_option maxRecDepth 20000
open Go.RowKit
set_option linter.unusedVariables false
set_option maxHeartbeats 8000000 in
theorem dualTwice_walk (A0 : Option Addr) (n m c lo rr : Nat) (by_ : List Int) (w : World) (h0 : Rd w w.heap.size A0 m (Z8 by_)) (hb0 : ∀ x ∈ by_, 0 ≤ x ∧ x < 256) (hmc : m ≤ c) (hcm : c ≤ maxLen) (hn : n < 256) (hlo : lo < 256) (hrr : rr < 256) :
    Calls Try.prog 3 #[.int .u8 (n : Int), .slice A0 m c, .int .u8 (rr : Int), .int .u8 (lo : Int)] w fun e w' => e = .returned (.bool true) ∧ Below w.heap.size w w' := by
  unfold maxLen at hcm
  have AW := Lib.hid (awake10_p w)
  have H0 := Lib.hid h0
  have HB0 := Lib.hid hb0
  clear h0 hb0
  go_enter Try.func3, Try.ntmps3
  go_wp2_with fail
  refine AW.out.mono ?_
  rintro e w1 ⟨rfl, b1⟩
  have MD := Lib.hid (made10_p n rr lo m c _ A0 by_ w1 (H0.out.below b1) HB0.out b1.size hn hrr hlo (by omega))
  have B1 := Lib.hid b1
  clear b1 AW
  go_wp2_with fail
  refine MD.out.mono ?_
  rintro e w2 ⟨g, v, l, b, root, rfl, hmap, hrm, hl, hroot, b2⟩
  generalize hq0 : lo % 3 = q0 at hmap hrm
  have hq5 : q0 < 3 := by omega
  obtain ⟨hinv, A, cA, hla, rfl, hlc, hcA, hrA⟩ := hrm
  have hbx := (Below.refl w2.heap.size w2).alloc (Nat.le_refl _) (.cells #[.slice A l.length cA, .int .i64 root, .int .i64 (q0 : Int)] 27)
  have HX := Lib.hid (Blk.new w2 27 #[.slice A l.length cA, .int .i64 root, .int .i64 (q0 : Int)])
  have HM := Lib.hid (hmap.below hbx)
  have HR := Lib.hid (hrA.more hbx)
  have HI := Lib.hid hinv
  have hl20 : l.length ≤ 22 := by have := Nat.mod_lt n (show 0 < 12 by decide); omega
  have HEV : Hid (l.length % 2 = 0) := by show _ = _; omega
  have B2 : Hid (Below w.heap.size w w2) := B1.out.trans (b2.mono B1.out.size)
  have B3 : Hid (Below w.heap.size w (w2.alloc (.cells #[.slice A l.length cA, .int .i64 root, .int .i64 (q0 : Int)] 27))) := B2.out.trans (hbx.mono B2.out.size)
  have HRT : Hid (RootOk root l.length) := by rw [hl]; exact hroot
  clear hmap hbx hrA hinv b2 hq0 B1 MD hlc hcA hla hl hroot B2
  go_upto_region 4 with fail
  generalize hw3 : w2.alloc (.cells #[.slice A l.length cA, .int .i64 root, .int .i64 (q0 : Int)] 27) = w3 at *
  have hX3 : w2.heap.size < w3.heap.size := by rw [← hw3]; simp
  have x0 : w3.cell? ⟨w2.heap.size, 0, none⟩ = some (.slice A l.length cA) := HX.out.cell 0
  have x1 : w3.cell? ⟨w2.heap.size, 1, none⟩ = some (.int .i64 root) := HX.out.cell 1
  have x2 : w3.cell? ⟨w2.heap.size, 2, none⟩ = some (.int .i64 (q0 : Int)) := HX.out.cell 2
  have SK : Hid (∀ W, Below w3.heap.size w3 W → W.cell? ⟨w2.heap.size, 0, none⟩ = some (.slice A l.length cA) ∧ W.cell? ⟨w2.heap.size, 1, none⟩ = some (.int .i64 root) ∧ W.cell? ⟨w2.heap.size, 2, none⟩ = some (.int .i64 (q0 : Int))) := fun W m => ⟨(m.cell (p := ⟨w2.heap.size, 0, none⟩) hX3).trans x0, (m.cell (p := ⟨w2.heap.size, 1, none⟩) hX3).trans x1, (m.cell (p := ⟨w2.heap.size, 2, none⟩) hX3).trans x2⟩
  have SB : Hid (∀ W, Below w3.heap.size w3 W → Blk W w2.heap.size 27 #[.slice A l.length cA, .int .i64 root, .int .i64 (q0 : Int)]) := fun W m => HX.out.below m
  clear hw3 x0 x1 x2
  have HRD : Hid (RootOk root (phiL l).length) := by rw [phiL_len]; exact HRT.out
  have HRB : Hid (RootOk root b.length) := by rw [HI.out.len]; exact HRT.out
  have HPI := Lib.hid (phi_inv HI.out HEV.out)
  have D1 := Lib.hid (dual_p g l b root (q0 : Int) w3 HM.out HI.out HRT.out)
  have Z0 := Below.refl w3.heap.size w3
  go_wp2_with fail
  refine D1.out.mono ?_
  rintro e v1 ⟨d, rfl, hd, z⟩
  have HD1 := Lib.hid hd
  have Z1 := Z0.trans (z.mono Z0.size)
  clear z hd D1
  have M1 := Lib.hid (mirror_p g l b root (q0 : Int) v1 (HM.out.below Z1) HI.out HRT.out)
  go_wp2_with fail
  refine M1.out.mono ?_
  rintro e v2 ⟨o, rfl, ho, z⟩
  have HO2 := Lib.hid ho
  have HD2 := Lib.hid (HD1.out.below z)
  have Z2 := Z1.trans (z.mono Z1.size)
  clear z ho M1 HD1 Z1
  have HM2 := Lib.hid (HM.out.below Z2)
  have HR2 := Lib.hid (HR.out.more Z2)
  have B2 := Lib.hid (B3.out.trans (Z2.mono B3.out.size))
  have hX2 : w2.heap.size < v2.heap.size := (SB.out _ Z2).lt
  obtain ⟨x0, x1, x2⟩ := SK.out _ Z2
  have SK2 : Hid (∀ W, Below v2.heap.size v2 W → W.cell? ⟨w2.heap.size, 0, none⟩ = some (.slice A l.length cA) ∧ W.cell? ⟨w2.heap.size, 1, none⟩ = some (.int .i64 root) ∧ W.cell? ⟨w2.heap.size, 2, none⟩ = some (.int .i64 (q0 : Int))) := fun W m => ⟨(m.cell (p := ⟨w2.heap.size, 0, none⟩) hX2).trans x0, (m.cell (p := ⟨w2.heap.size, 1, none⟩) hX2).trans x1, (m.cell (p := ⟨w2.heap.size, 2, none⟩) hX2).trans x2⟩
  have PT := Lib.hid (phi_twice HI.out HEV.out)
  have GD := Lib.hid (genus_dual HI.out HEV.out)
  have GB := Lib.hid (genus_both HI.out HEV.out)
  have RD : Hid (∀ W, Below v2.heap.size v2 W → Calls Try.prog 14 #[.agg #[.slice A l.length cA, .int .i64 root, .int .i64 (q0 : Int)]] W (NewR W (phiL l) root (q0 : Int))) := fun W m => rdual10_p A cA l b root (q0 : Int) W (HR2.out.more m) HI.out HEV.out (by omega)
  have RM : Hid (∀ W, Below v2.heap.size v2 W → Calls Try.prog 15 #[.agg #[.slice A l.length cA, .int .i64 root, .int .i64 (q0 : Int)]] W (NewR W b root (q0 : Int))) := fun W m => rmirror10_p A cA l b root (q0 : Int) W (HR2.out.more m) HI.out HEV.out (by omega)
  have LK1 : Hid (∀ A3 c3 W, Rd W W.heap.size A3 l.length (I64 (ofN (phiL l))) → l.length ≤ c3 → c3 ≤ maxLen → Below v2.heap.size v2 W → Calls Try.prog 13 #[.pointer (some ⟨d, 0, none⟩), .agg #[.slice A3 l.length c3, .int .i64 root, .int .i64 (q0 : Int)]] W fun e w' => e = .returned (.bool true) ∧ Below W.heap.size W w') := fun A3 c3 W h1 h2 h3 m => by
    have := like10_p d (phiL l) (phiB l b) root (q0 : Int) A3 c3 W (HD2.out.below m) (by rw [phiL_len]; exact h1) (by rw [phiL_len]; exact h2) h3
    rwa [phiL_len] at this
  have LK2 : Hid (∀ A3 c3 W, Rd W W.heap.size A3 l.length (I64 (ofN b)) → l.length ≤ c3 → c3 ≤ maxLen → Below v2.heap.size v2 W → Calls Try.prog 13 #[.pointer (some ⟨o, 0, none⟩), .agg #[.slice A3 l.length c3, .int .i64 root, .int .i64 (q0 : Int)]] W fun e w' => e = .returned (.bool true) ∧ Below W.heap.size W w') := fun A3 c3 W h1 h2 h3 m => by
    have := like10_p o b l root (q0 : Int) A3 c3 W (HO2.out.below m) (by rw [HI.out.len]; exact h1) (by rw [HI.out.len]; exact h2) h3
    rwa [HI.out.len] at this
  have DD : Hid (∀ W, Below v2.heap.size v2 W → Calls Try.prog 11 #[.pointer (some ⟨d, 0, none⟩)] W fun e w' => ∃ g', e = .returned (.pointer (some ⟨g', 0, none⟩)) ∧ (∃ b', MapAt w' g' l b' root (q0 : Int)) ∧ Below W.heap.size W w') := fun W m =>
    (dual_p d (phiL l) (phiB l b) root (q0 : Int) W (HD2.out.below m) HPI.out HRD.out).mono fun e w' ⟨g', h1, h2, h3⟩ => ⟨g', h1, ⟨_, by rw [PT.out] at h2; exact h2⟩, h3⟩
  have OO : Hid (∀ W, Below v2.heap.size v2 W → Calls Try.prog 12 #[.pointer (some ⟨o, 0, none⟩)] W fun e w' => ∃ g', e = .returned (.pointer (some ⟨g', 0, none⟩)) ∧ (∃ b', MapAt w' g' l b' root (q0 : Int)) ∧ Below W.heap.size W w') := fun W m =>
    (mirror_p o b l root (q0 : Int) W (HO2.out.below m) HI.out.symm HRB.out).mono fun e w' ⟨g', h1, h2, h3⟩ => ⟨g', h1, ⟨_, h2⟩, h3⟩
  have SM : Hid (∀ g' W, (∃ b', MapAt W g' l b' root (q0 : Int)) → Below v2.heap.size v2 W → Calls Try.prog 16 #[.pointer (some ⟨g', 0, none⟩), .pointer (some ⟨g, 0, none⟩)] W fun e w' => e = .returned (.bool true) ∧ Below W.heap.size W w') := fun g' W ⟨b', h⟩ m => by
    have := dsame_p g' g l b' l b root (q0 : Int) root (q0 : Int) W h (HM2.out.below m)
    rwa [decide_eq_true (show root = root ∧ (q0 : Int) = (q0 : Int) ∧ l = l from ⟨rfl, rfl, rfl⟩)] at this
  have Y0 := Below.refl v2.heap.size v2
  clear HRT HRD HRB HPI SB SK HM HR B3 Z0 Z2 HX hX3
  go_wp2_with fail
  refine (RD.out _ Y0).mono ?_
  rintro e v3 ⟨A3, c3, rfl, hc3, hm3, r3, z⟩
  rw [phiL_len] at hc3 r3 ⊢
  have Y3 := Y0.trans (z.mono Y0.size)
  clear z
  go_wp2_with fail
  refine (LK1.out _ _ _ r3 hc3 hm3 Y3).mono ?_
  rintro e v4 ⟨rfl, z⟩
  have Y4 := Y3.trans (z.mono Y3.size)
  clear z x0 x1 x2 r3 hc3 hm3
  obtain ⟨x0, x1, x2⟩ := SK2.out _ Y4
  go_wp2_with fail
  refine (RM.out _ Y4).mono ?_
  rintro e v5 ⟨A5, c5, rfl, hc5, hm5, r5, z⟩
  rw [HI.out.len] at hc5 r5 ⊢
  have Y5 := Y4.trans (z.mono Y4.size)
  clear z x0 x1 x2
  go_wp2_with fail
  refine (LK2.out _ _ _ r5 hc5 hm5 Y5).mono ?_
  rintro e v6 ⟨rfl, z⟩
  have Y6 := Y5.trans (z.mono Y5.size)
  clear z r5 hc5 hm5
  go_wp2_with fail
  refine (DD.out _ Y6).mono ?_
  rintro e v7 ⟨g7, rfl, h7, z⟩
  have H7 := Lib.hid h7
  have Y7 := Y6.trans (z.mono Y6.size)
  clear z h7
  go_wp2_with fail
  refine (SM.out _ _ H7.out Y7).mono ?_
  rintro e v8 ⟨rfl, z⟩
  have Y8 := Y7.trans (z.mono Y7.size)
  clear z H7
  go_wp2_with fail
  refine (OO.out _ Y8).mono ?_
  rintro e v9 ⟨g9, rfl, h9, z⟩
  have H9 := Lib.hid h9
  have Y9 := Y8.trans (z.mono Y8.size)
  clear z h9
  go_wp2_with fail
  refine (SM.out _ _ H9.out Y9).mono ?_
  rintro e v10 ⟨rfl, z⟩
  have Y10 := Lib.hid (Y9.trans (z.mono Y9.size))
  clear z H9 Y0 Y3 Y4 Y5 Y6 Y7 Y8 Y9 RD RM LK1 LK2 DD OO SM SK2
  have DP : Hid (∀ W, Below v2.heap.size v2 W → Calls Try.prog 17 #[.pointer (some ⟨g, 0, none⟩)] W fun e w' => e = .returned (.int .i64 (l.length : Int)) ∧ Below W.heap.size W w') := fun W m => darts_p g l b root q0 W (HM2.out.below m)
  go_wp2_with fail
  refine (DP.out _ Y10.out).mono ?_
  rintro e v11 ⟨rfl, z⟩
  have Y11 := Lib.hid (Y10.out.trans (z.mono Y10.out.size))
  clear z DP
  go_wp2_with fail
  go_loopw [56] (fun i wr => ∃ (k : Nat), k ≤ l.length ∧ i = .int .i64 (k : Int) ∧ Hid (Below v2.heap.size v2 wr)) (fun i _ => l.length - (intOf i).toNat)
  case atStart => exact ⟨0, by omega, rfl, Y11.out⟩
  case round =>
    clear Y10 Y11
    obtain ⟨k, hk, rfl, HB⟩ := hrel
    by_cases hlt : k < l.length
    · have hdk : decide (k < l.length) = true := by rw [decide_eq_true_iff]; exact hlt
      have V1 : Hid (∀ W, Below v2.heap.size v2 W → Calls Try.prog 18 #[.pointer (some ⟨d, 0, none⟩), .int .i64 (k : Int)] W fun e w' => e = .returned (.int .i64 ((nameOf (phiL l) k : Nat) : Int)) ∧ Below W.heap.size W w') := fun W m => vertex_in d (phiL l) _ root q0 k W (HD2.out.below m) (by rw [phiL_len]; exact hlt)
      have V2 : Hid (∀ W, Below v2.heap.size v2 W → Calls Try.prog 19 #[.pointer (some ⟨g, 0, none⟩), .int .i64 (k : Int)] W fun e w' => e = .returned (.int .i64 ((nameOf (phiL l) k : Nat) : Int)) ∧ Below W.heap.size W w') := fun W m => face_in g l _ root q0 k W (HM2.out.below m) hlt
      have V3 : Hid (∀ W, Below v2.heap.size v2 W → Calls Try.prog 19 #[.pointer (some ⟨d, 0, none⟩), .int .i64 (k : Int)] W fun e w' => e = .returned (.int .i64 ((nameOf l k : Nat) : Int)) ∧ Below W.heap.size W w') := fun W m => by
        have := face_in d (phiL l) _ root q0 k W (HD2.out.below m) (by rw [phiL_len]; exact hlt)
        rwa [PT.out] at this
      have V4 : Hid (∀ W, Below v2.heap.size v2 W → Calls Try.prog 18 #[.pointer (some ⟨g, 0, none⟩), .int .i64 (k : Int)] W fun e w' => e = .returned (.int .i64 ((nameOf l k : Nat) : Int)) ∧ Below W.heap.size W w') := fun W m => vertex_in g l _ root q0 k W (HM2.out.below m) hlt
      generalize nameOf (phiL l) k = N1 at *
      generalize nameOf l k = N2 at *
      go_wp2_with fail
      refine (V1.out _ HB.out).mono ?_
      rintro e u1 ⟨rfl, z⟩
      have Q1 := HB.out.trans (z.mono HB.out.size)
      clear z
      go_wp2_with fail
      refine (V2.out _ Q1).mono ?_
      rintro e u2 ⟨rfl, z⟩
      have Q2 := Q1.trans (z.mono Q1.size)
      clear z
      go_wp2_with fail
      refine (V3.out _ Q2).mono ?_
      rintro e u3 ⟨rfl, z⟩
      have Q3 := Q2.trans (z.mono Q2.size)
      clear z
      go_wp2_with fail
      refine (V4.out _ Q3).mono ?_
      rintro e u4 ⟨rfl, z⟩
      have Q4 := Lib.hid (Q3.trans (z.mono Q3.size))
      clear z Q1 Q2 Q3
      go_wp2_with fail
      go_roundw
      case rel => exact ⟨k + 1, by omega, by go_num, Q4.out⟩
      case measure => simp [intOf]; omega
    · obtain rfl : k = l.length := by omega
      have hdk : decide (l.length < l.length) = false := by simp
      have G1 : Hid (∀ W, Below v2.heap.size v2 W → Calls Try.prog 20 #[.pointer (some ⟨d, 0, none⟩)] W fun e w' => e = .returned (.int .i64 (genusN l : Int)) ∧ Below W.heap.size W w') := fun W m => by
        have := genus_p d (phiL l) _ root q0 W (HD2.out.below m)
        rwa [GD.out] at this
      have G2 : Hid (∀ W, Below v2.heap.size v2 W → Calls Try.prog 20 #[.pointer (some ⟨g, 0, none⟩)] W fun e w' => e = .returned (.int .i64 (genusN l : Int)) ∧ Below W.heap.size W w') := fun W m => genus_p g l b root q0 W (HM2.out.below m)
      have G3 : Hid (∀ W, Below v2.heap.size v2 W → Calls Try.prog 20 #[.pointer (some ⟨o, 0, none⟩)] W fun e w' => e = .returned (.int .i64 (genusN l : Int)) ∧ Below W.heap.size W w') := fun W m => by
        have := genus_p o b l root q0 W (HO2.out.below m)
        rwa [GB.out] at this
      have VD : Hid (∀ W, Below v2.heap.size v2 W → Calls Try.prog 21 #[.pointer (some ⟨d, 0, none⟩)] W fun e w' => e = .returned (.int .i64 (((sizes (phiL l)).length : Int) + (q0 : Int))) ∧ Below W.heap.size W w') := fun W m => vertices_p d (phiL l) _ root q0 W (HD2.out.below m)
      have LD : Hid (∀ W, Below v2.heap.size v2 W → Calls Try.prog 22 #[.pointer (some ⟨d, 0, none⟩)] W fun e w' => e = .returned (.int .i64 (q0 : Int)) ∧ W = w') := fun W m => lone_p d (phiL l) _ root q0 W (HD2.out.below m)
      have BD : Hid (∀ W, Below v2.heap.size v2 W → Calls Try.prog 23 #[.pointer (some ⟨g, 0, none⟩)] W fun e w' => e = .returned (.int .i64 ((sizes (phiL l)).length : Int)) ∧ Below W.heap.size W w') := fun W m => borders_p g l b root q0 W (HM2.out.below m)
      have hsz : (sizes (phiL l)).length ≤ 22 := Nat.le_trans (sizes_le _) (by rw [phiL_len]; exact hl20)
      generalize (sizes (phiL l)).length = S at *
      generalize genusN l = G at *
      have s1 : ((S : Int) + (q0 : Int) - (q0 : Int)) = (S : Int) := by omega
      have s2 : IntKind.i64.wrap ((S : Int) + (q0 : Int) - (q0 : Int)) = (S : Int) := by rw [s1]; simp [IntKind.wrap, IntKind.signed, IntKind.bits]; omega
      go_wp2_with fail
      refine (G1.out _ HB.out).mono ?_
      rintro e u1 ⟨rfl, z⟩
      have Q1 := HB.out.trans (z.mono HB.out.size)
      clear z
      go_wp2_with fail
      refine (G2.out _ Q1).mono ?_
      rintro e u2 ⟨rfl, z⟩
      have Q2 := Q1.trans (z.mono Q1.size)
      clear z
      go_wp2_with fail
      refine (G3.out _ Q2).mono ?_
      rintro e u3 ⟨rfl, z⟩
      have Q3 := Q2.trans (z.mono Q2.size)
      clear z
      go_wp2_with fail
      refine (G2.out _ Q3).mono ?_
      rintro e u4 ⟨rfl, z⟩
      have Q4 := Q3.trans (z.mono Q3.size)
      clear z
      go_wp2_with fail
      refine (VD.out _ Q4).mono ?_
      rintro e u5 ⟨rfl, z⟩
      have Q5 := Q4.trans (z.mono Q4.size)
      clear z
      go_wp2_with fail
      refine (LD.out _ Q5).mono ?_
      rintro e u6 ⟨rfl, rfl⟩
      go_wp2_with fail
      refine (BD.out _ Q5).mono ?_
      rintro e u6 ⟨rfl, z⟩
      have Q6 := Lib.hid (B2.out.trans ((Q5.trans (z.mono Q5.size)).mono B2.out.size))
      clear z Q1 Q2 Q3 Q4 Q5
      go_wp2_with fail
      go_ret
      exact ⟨rfl, Q6.out⟩
end Go.Proofs.Ythbhbcakiaaapaa
