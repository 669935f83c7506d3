/- DualCuts: the walk. -/
import Derived.Test.YtnnjjhjohjajnaaZUShrR
import Derived.Test.YtnnjjhjohjajnaaZUNil
import Derived.Test.YtnnjjhjohjajnaaZEPartsW
namespace Go.Proofs.Ytnnjjhjohjajnaa
set_option maxRecDepth 100000
open Go.RowKit
set_option linter.unusedVariables false
set_option maxHeartbeats 8000000 in
theorem dualCuts_walk (A0 : Option Addr) (n m c lo rr : Nat) (ei : Int) (by_ : List Int) (w : World) (h0 : Rd w w.heap.size A0 m (Z8 by_)) (hb0 : ∀ x ∈ by_, 0 ≤ x ∧ x < 256) (hmc : m ≤ c) (hcm : c ≤ maxLen) (hn : n < 256) (hlo : lo < 256) (hrr : rr < 256) (hei : -9223372036854775808 ≤ ei ∧ ei ≤ 9223372036854775807) :
    Calls Try.prog 3 #[.int .u8 (n : Int), .slice A0 m c, .int .u8 (rr : Int), .int .u8 (lo : Int), .int .i64 ei] w fun e w' => e = .returned (.bool true) ∧ Below w.heap.size w w' := by
  unfold maxLen at hcm
  have AW := Lib.hid (awake10_p w)
  have H0 := Lib.hid h0
  have HB0 := Lib.hid hb0
  clear h0 hb0
  go_enter Try.func3, Try.ntmps3
  go_wp2_with fail
  refine AW.out.mono ?_
  rintro e w1 ⟨rfl, b1⟩
  have MD := Lib.hid (made10_p n rr lo m c _ A0 by_ w1 (H0.out.below b1) HB0.out b1.size hn hrr hlo (by omega))
  have B1 := Lib.hid b1
  clear b1 AW
  go_wp2_with fail
  refine MD.out.mono ?_
  rintro e w2 ⟨g, v, l, b, root, rfl, hmap, hrm, hl, hroot, b2⟩
  generalize hq0 : lo % 3 = q0 at hmap hrm
  have hq5 : q0 < 3 := by omega
  obtain ⟨hinv, A, cA, hla, rfl, hlc, hcA, hrA⟩ := hrm
  have hbx := (Below.refl w2.heap.size w2).alloc (Nat.le_refl _) (.cells #[.slice A l.length cA, .int .i64 root, .int .i64 (q0 : Int)] 27)
  have HX := Lib.hid (Blk.new w2 27 #[.slice A l.length cA, .int .i64 root, .int .i64 (q0 : Int)])
  have HM := Lib.hid (hmap.below hbx)
  have HR := Lib.hid (hrA.more hbx)
  have HI := Lib.hid hinv
  have hl20 : l.length ≤ 22 := by have := Nat.mod_lt n (show 0 < 12 by decide); omega
  have HEV : Hid (l.length % 2 = 0) := by show _ = _; omega
  have B2 : Hid (Below w.heap.size w w2) := B1.out.trans (b2.mono B1.out.size)
  have B3 : Hid (Below w.heap.size w (w2.alloc (.cells #[.slice A l.length cA, .int .i64 root, .int .i64 (q0 : Int)] 27))) := B2.out.trans (hbx.mono B2.out.size)
  have HRT : Hid (RootOk root l.length) := by rw [hl]; exact hroot
  clear hmap hbx hrA hinv b2 hq0 B1 MD hlc hcA hla hl hroot B2
  go_upto_region 4 with fail
  generalize hw3 : w2.alloc (.cells #[.slice A l.length cA, .int .i64 root, .int .i64 (q0 : Int)] 27) = w3 at *
  have hX3 : w2.heap.size < w3.heap.size := by rw [← hw3]; simp
  have x0 : w3.cell? ⟨w2.heap.size, 0, none⟩ = some (.slice A l.length cA) := HX.out.cell 0
  have x1 : w3.cell? ⟨w2.heap.size, 1, none⟩ = some (.int .i64 root) := HX.out.cell 1
  have x2 : w3.cell? ⟨w2.heap.size, 2, none⟩ = some (.int .i64 (q0 : Int)) := HX.out.cell 2
  have SK : Hid (∀ W, Below w3.heap.size w3 W → W.cell? ⟨w2.heap.size, 0, none⟩ = some (.slice A l.length cA) ∧ W.cell? ⟨w2.heap.size, 1, none⟩ = some (.int .i64 root) ∧ W.cell? ⟨w2.heap.size, 2, none⟩ = some (.int .i64 (q0 : Int))) := fun W m => ⟨(m.cell (p := ⟨w2.heap.size, 0, none⟩) hX3).trans x0, (m.cell (p := ⟨w2.heap.size, 1, none⟩) hX3).trans x1, (m.cell (p := ⟨w2.heap.size, 2, none⟩) hX3).trans x2⟩
  clear hw3 x0 x1 x2
  have Z0 := Below.refl w3.heap.size w3
  by_cases hin : ei < 0 ∨ ((l.length / 2 : Nat) : Int) ≤ ei
  · -- there is no such edge
    have CO := Lib.hid (cut_out g l b root (q0 : Int) ei w3 HM.out hin)
    have SO : Hid (∀ W, Below w3.heap.size w3 W → Calls Try.prog 7 #[.pointer (some ⟨g, 0, none⟩), .int .i64 ei] W fun e w' => e = .returned (.tuple #[.pointer none, .int .i64 1]) ∧ Below W.heap.size W w') := fun W m => shrink_out g l b root (q0 : Int) ei W (HM.out.below m) hin
    have EO : Hid (∀ W, Below w3.heap.size w3 W → Calls Try.prog 8 #[.pointer (some ⟨g, 0, none⟩)] W fun e w' => e = .returned (.int .i64 ((l.length / 2 : Nat) : Int)) ∧ Below W.heap.size W w') := fun W m => edges_p g l b root (q0 : Int) W (HM.out.below m)
    have HIN := Lib.hid hin
    clear hin
    obtain ⟨E, hE⟩ : ∃ E, E = l.length / 2 := ⟨_, rfl⟩
    rw [← hE] at EO HIN
    clear hE
    go_wp2_with fail
    refine CO.out.mono ?_
    rintro e v1 ⟨rfl, z⟩
    have Z1 := Z0.trans (z.mono Z0.size)
    clear z
    go_wp2_with fail
    refine (SO.out _ Z1).mono ?_
    rintro e v2 ⟨rfl, z⟩
    have Z2 := Z1.trans (z.mono Z1.size)
    clear z
    by_cases h0 : ei < 0
    · have h0d : decide (ei < 0) = true := decide_eq_true h0
      have FB := Lib.hid (B3.out.trans (Z2.mono B3.out.size))
      go_wp2_with fail
      go_ret
      exact ⟨rfl, FB.out⟩
    · have h0d : decide (ei < 0) = false := decide_eq_false h0
      have h1 : (E : Int) ≤ ei := by rcases HIN.out with q | q <;> omega
      have h1d : decide ((E : Int) ≤ ei) = true := decide_eq_true h1
      go_wp2_with fail
      refine (EO.out _ Z2).mono ?_
      rintro e v3 ⟨rfl, z⟩
      have FB := Lib.hid (B3.out.trans ((Z2.trans (z.mono Z2.size)).mono B3.out.size))
      go_wp2_with fail
      go_ret
      exact ⟨rfl, FB.out⟩
  · obtain ⟨x, rfl⟩ : ∃ x : Nat, ei = (x : Int) := ⟨ei.toNat, by omega⟩
    have hx : x < l.length / 2 := by omega
    have hE2 : 2 * x + 2 ≤ l.length := by omega
    obtain ⟨r, hr, hrr2⟩ : ∃ r : Nat, root = (r : Int) ∧ r < l.length := by
      rcases HRT.out with ⟨q, _⟩ | ⟨_, q1, q2⟩
      · omega
      · exact ⟨root.toNat, by omega, by omega⟩
    subst hr
    obtain ⟨C, hC⟩ : ∃ C, C = woN l l x := ⟨_, rfl⟩
    obtain ⟨RT, hRT⟩ : ∃ RT, RT = heirN l b r x := ⟨_, rfl⟩
    obtain ⟨LC, hLC⟩ : ∃ LC, LC = (q0 : Int) + ((zerTo (besN l (q0 : Int) x) (besN l (q0 : Int) x).length : Nat) : Int) := ⟨_, rfl⟩
    have CP := Lib.hid (cut_p g l b r x (q0 : Int) w3 HM.out HI.out hrr2 hx (by omega) (by omega))
    have RC : Hid (∀ W, Below w3.heap.size w3 W → Calls Try.prog 10 #[.agg #[.slice A l.length cA, .int .i64 (r : Int), .int .i64 (q0 : Int)], .int .i64 (x : Int)] W (NewRO W C RT LC)) := fun W mm => by
      rw [hC, hRT, hLC]
      exact rcut_p A cA l b r (q0 : Int) x W (HR.out.more mm) HI.out HEV.out (by omega) hrr2 hE2 (by omega) (by omega)
    have HCL : Hid (C.length = l.length - 2) := by show _ = _; rw [hC]; exact woN_len l l x hE2
    have HCV : Hid (∀ b', Inv C b' → ((sizes C).length : Int) + LC = ((sizes l).length : Int) + (q0 : Int)) := fun b' hb' => by
      have h1 := cut_verts HI.out hE2 (b' := b') (by rw [← hC]; exact hb') (q0 : Int) (by omega)
      rw [met_sizes hb', met_sizes HI.out, hLC, hC]
      omega
    have EO : Hid (∀ W, Below w3.heap.size w3 W → Calls Try.prog 8 #[.pointer (some ⟨g, 0, none⟩)] W fun e w' => e = .returned (.int .i64 ((l.length / 2 : Nat) : Int)) ∧ Below W.heap.size W w') := fun W m => edges_p g l b (r : Int) (q0 : Int) W (HM.out.below m)
    have VO : Hid (∀ W, Below w3.heap.size w3 W → Calls Try.prog 13 #[.pointer (some ⟨g, 0, none⟩)] W fun e w' => e = .returned (.int .i64 (((sizes l).length : Int) + (q0 : Int))) ∧ Below W.heap.size W w') := fun W m => vertices_p g l b (r : Int) (q0 : Int) W (HM.out.below m)
    have GO : Hid (∀ W, Below w3.heap.size w3 W → Calls Try.prog 14 #[.pointer (some ⟨g, 0, none⟩)] W fun e w' => e = .returned (.int .i64 (genusN l : Int)) ∧ Below W.heap.size W w') := fun W m => genus_p g l b (r : Int) q0 W (HM.out.below m)
    have RN : Hid (∀ W, Below w3.heap.size w3 W → Calls Try.prog 11 #[.slice A l.length cA] W (NewI64 W (ofN (names l)))) := fun W m => rnames_p A cA _ l b W (HR.out.below m) HI.out (by omega)
    have CP2 : Hid (Calls Try.prog 6 #[.pointer (some ⟨g, 0, none⟩), .int .i64 (x : Int)] w3 fun en w' => ∃ b', Inv C b' ∧ NewMap w3 C b' RT LC en w') := by rw [hC, hRT, hLC]; exact CP.out
    have hVM : 0 ≤ ((sizes l).length : Int) + (q0 : Int) ∧ ((sizes l).length : Int) + (q0 : Int) ≤ 1000 := by have := sizes_le l; omega
    obtain ⟨VM, hVMe⟩ : ∃ VM, VM = ((sizes l).length : Int) + (q0 : Int) := ⟨_, rfl⟩
    rw [← hVMe] at VO HCV hVM
    obtain ⟨E, hE⟩ : ∃ E, E = l.length / 2 := ⟨_, rfl⟩
    obtain ⟨E1, hE1⟩ : ∃ E1, E1 = l.length / 2 - 1 := ⟨_, rfl⟩
    have HCE : Hid (C.length / 2 = E1) := by show _ = _; have := HCL.out; omega
    have ee1 : (E : Int) - 1 = (E1 : Int) := by omega
    have xE : x < E := by omega
    have xEi : (x : Int) < (E : Int) := by omega
    have hlt0 : ¬ (x : Int) < 0 := by omega
    have hlt0d : decide ((x : Int) < 0) = false := decide_eq_false hlt0
    have hge : ¬ (E : Int) ≤ (x : Int) := by omega
    have hged : decide ((E : Int) ≤ (x : Int)) = false := decide_eq_false hge
    have hged2 : decide (E ≤ x) = false := decide_eq_false (by omega)
    have wE1 : IntKind.i64.wrap (E1 : Int) = (E1 : Int) := by simp [IntKind.wrap, IntKind.signed, IntKind.bits]; omega
    rw [← hE] at EO
    have HRT2 : Hid (RT = heirN l b r x) := hRT
    have HVM : Hid (VM = ((sizes l).length : Int) + (q0 : Int)) := hVMe
    clear hin hx CP hC hRT hLC hE hE1 hVMe HRT
    go_wp2_with fail
    refine CP2.out.mono ?_
    rintro e v1 ⟨bC, hiC, gC, rfl, hmC, z, _⟩
    have HMC := Lib.hid hmC
    have HIC := Lib.hid hiC
    have Z1 := Z0.trans (z.mono Z0.size)
    clear z hmC hiC CP2
    have LK : Hid (∀ A3 c3 W, Rd W W.heap.size A3 C.length (I64 (ofN C)) → C.length ≤ c3 → c3 ≤ maxLen → Below v1.heap.size v1 W → Calls Try.prog 9 #[.pointer (some ⟨gC, 0, none⟩), .agg #[.slice A3 C.length c3, .int .i64 RT, .int .i64 LC]] W fun e w' => e = .returned (.bool true) ∧ Below W.heap.size W w') := fun A3 c3 W h1 h2 h3 m => like10_p gC C bC RT LC A3 c3 W (HMC.out.below m) h1 h2 h3
    have EC : Hid (∀ W, Below v1.heap.size v1 W → Calls Try.prog 8 #[.pointer (some ⟨gC, 0, none⟩)] W fun e w' => e = .returned (.int .i64 (E1 : Int)) ∧ Below W.heap.size W w') := fun W m => by
      have := edges_p gC C bC RT LC W (HMC.out.below m)
      rwa [HCE.out] at this
    have VC : Hid (∀ W, Below v1.heap.size v1 W → Calls Try.prog 13 #[.pointer (some ⟨gC, 0, none⟩)] W fun e w' => e = .returned (.int .i64 VM) ∧ Below W.heap.size W w') := fun W m => by
      have := vertices_p gC C bC RT LC W (HMC.out.below m)
      rwa [HCV.out bC HIC.out] at this
    have Y0 := Below.refl v1.heap.size v1
    have hz1 := Z1.size
    have Z1H := Lib.hid Z1
    by_cases hq : nameOf l (2 * x) = nameOf l (2 * x + 1)
    · have SL : Hid (Calls Try.prog 7 #[.pointer (some ⟨g, 0, none⟩), .int .i64 (x : Int)] v1 fun e w' => e = .returned (.tuple #[.pointer none, .int .i64 8]) ∧ Below v1.heap.size v1 w') := shrink_loop g l b (r : Int) (q0 : Int) x v1 (HM.out.below Z1) (by omega) hq
      obtain ⟨a0, ha0⟩ : ∃ a0, a0 = 2 * x := ⟨_, rfl⟩
      obtain ⟨a1, ha1⟩ : ∃ a1, a1 = 2 * x + 1 := ⟨_, rfl⟩
      have i1 : 2 * (x : Int) = (a0 : Int) := by omega
      have i2 : (a0 : Int) + 1 = (a1 : Int) := by omega
      have hl0 : a0 < l.length := by omega
      have hl1 : a1 < l.length := by omega
      have hl0i : (a0 : Int) < (l.length : Int) := by omega
      have hl1i : (a1 : Int) < (l.length : Int) := by omega
      have w0i : IntKind.i64.wrap (a0 : Int) = (a0 : Int) := by simp [IntKind.wrap, IntKind.signed, IntKind.bits]; omega
      have w1i : IntKind.i64.wrap (a1 : Int) = (a1 : Int) := by simp [IntKind.wrap, IntKind.signed, IntKind.bits]; omega
      rw [← ha1, ← ha0] at hq
      have HQ := Lib.hid hq
      clear ha0 ha1 hq Z1
      go_wp2_with fail
      refine SL.out.mono ?_
      rintro e v2 ⟨rfl, z⟩
      have YY := Lib.hid (Y0.trans (z.mono Y0.size))
      clear z SL
      have hz2 := YY.out.size
      have UP1 : ∀ W, Below v2.heap.size v2 W → Below v1.heap.size v1 W := fun W m => YY.out.trans (m.mono hz2)
      have UP3 : ∀ W, Below v2.heap.size v2 W → Below w3.heap.size w3 W := fun W m => Z1H.out.trans ((UP1 W m).mono hz1)
      have LK2 : Hid (∀ A3 c3 W, Rd W W.heap.size A3 C.length (I64 (ofN C)) → C.length ≤ c3 → c3 ≤ maxLen → Below v2.heap.size v2 W → Calls Try.prog 9 #[.pointer (some ⟨gC, 0, none⟩), .agg #[.slice A3 C.length c3, .int .i64 RT, .int .i64 LC]] W fun e w' => e = .returned (.bool true) ∧ Below W.heap.size W w') := fun A3 c3 W h1 h2 h3 m => LK.out A3 c3 W h1 h2 h3 (UP1 W m)
      have EC2 : Hid (∀ W, Below v2.heap.size v2 W → Calls Try.prog 8 #[.pointer (some ⟨gC, 0, none⟩)] W fun e w' => e = .returned (.int .i64 (E1 : Int)) ∧ Below W.heap.size W w') := fun W m => EC.out W (UP1 W m)
      have VC2 : Hid (∀ W, Below v2.heap.size v2 W → Calls Try.prog 13 #[.pointer (some ⟨gC, 0, none⟩)] W fun e w' => e = .returned (.int .i64 VM) ∧ Below W.heap.size W w') := fun W m => VC.out W (UP1 W m)
      have EO2 : Hid (∀ W, Below v2.heap.size v2 W → Calls Try.prog 8 #[.pointer (some ⟨g, 0, none⟩)] W fun e w' => e = .returned (.int .i64 (E : Int)) ∧ Below W.heap.size W w') := fun W m => EO.out W (UP3 W m)
      have VO2 : Hid (∀ W, Below v2.heap.size v2 W → Calls Try.prog 13 #[.pointer (some ⟨g, 0, none⟩)] W fun e w' => e = .returned (.int .i64 VM) ∧ Below W.heap.size W w') := fun W m => VO.out W (UP3 W m)
      have GO2 : Hid (∀ W, Below v2.heap.size v2 W → Calls Try.prog 14 #[.pointer (some ⟨g, 0, none⟩)] W fun e w' => e = .returned (.int .i64 (genusN l : Int)) ∧ Below W.heap.size W w') := fun W m => GO.out W (UP3 W m)
      have RC2 : Hid (∀ W, Below v2.heap.size v2 W → Calls Try.prog 10 #[.agg #[.slice A l.length cA, .int .i64 (r : Int), .int .i64 (q0 : Int)], .int .i64 (x : Int)] W (NewRO W C RT LC)) := fun W m => RC.out W (UP3 W m)
      have RN2 : Hid (∀ W, Below v2.heap.size v2 W → Calls Try.prog 11 #[.slice A l.length cA] W (NewI64 W (ofN (names l)))) := fun W m => RN.out W (UP3 W m)
      have SK2 : Hid (∀ W, Below v2.heap.size v2 W → W.cell? ⟨w2.heap.size, 0, none⟩ = some (.slice A l.length cA) ∧ W.cell? ⟨w2.heap.size, 1, none⟩ = some (.int .i64 (r : Int)) ∧ W.cell? ⟨w2.heap.size, 2, none⟩ = some (.int .i64 (q0 : Int))) := fun W m => SK.out W (UP3 W m)
      have FB2 : Hid (∀ W, Below v2.heap.size v2 W → Below w.heap.size w W) := fun W m => B3.out.trans ((UP3 W m).mono B3.out.size)
      have Q0 := Below.refl v2.heap.size v2
      clear UP1 UP3 LK EC VC EO VO GO RC RN SK YY Y0
      go_wp2_with fail
      refine (EO2.out _ Q0).mono ?_
      rintro e v3 ⟨rfl, z⟩
      have Yv3 := Q0.trans (z.mono Q0.size)
      clear z
      obtain ⟨x0, x1, x2⟩ := SK2.out _ Yv3
      go_wp2_with fail
      refine (RC2.out _ Yv3).mono ?_
      rintro e v4 ⟨A4, c4, rfl, hc4, hm4, ho4, z⟩
      have Yv4 := Yv3.trans (z.mono Yv3.size)
      have r4 := Rd.ofOwn ho4
      clear z x0 x1 x2 ho4
      go_wp2_with fail
      refine (LK2.out _ _ _ r4 hc4 hm4 Yv4).mono ?_
      rintro e v5 ⟨rfl, z⟩
      have Yv5 := Yv4.trans (z.mono Yv4.size)
      clear z r4 hc4 hm4
      go_wp2_with fail
      refine (EC2.out _ Yv5).mono ?_
      rintro e v6 ⟨rfl, z⟩
      have Yv6 := Yv5.trans (z.mono Yv5.size)
      clear z
      go_wp2_with fail
      refine (EO2.out _ Yv6).mono ?_
      rintro e v7 ⟨rfl, z⟩
      have Yv7 := Yv6.trans (z.mono Yv6.size)
      clear z
      obtain ⟨x0, x1, x2⟩ := SK2.out _ Yv7
      go_wp2_with fail
      refine (RN2.out _ Yv7).mono ?_
      rintro e v8 ⟨A8, c8, rfl, hc8, hm8, hown8, z⟩
      rw [ofN_len, names_len] at hc8 hown8 ⊢
      have Yv8 := Yv7.trans (z.mono Yv7.size)
      obtain ⟨gv, rfl, _, hgv⟩ := own_some hown8 (by omega)
      have hk0 := own_cellI hown8 a0 hl0
      have hk1 := own_cellI hown8 a1 hl1
      rw [ofN_get, names_get _ _ hl0] at hk0
      rw [ofN_get, names_get _ _ hl1] at hk1
      clear z x0 x1 x2 hown8 hc8 hm8
      obtain ⟨n0, hn0⟩ : ∃ n0, n0 = nameOf l a0 := ⟨_, rfl⟩
      obtain ⟨n1, hn1⟩ : ∃ n1, n1 = nameOf l a1 := ⟨_, rfl⟩
      rw [← hn0] at hk0
      rw [← hn1] at hk1
      have hne : n0 = n1 := by rw [hn0, hn1]; exact HQ.out
      clear hn0 hn1
      subst hne
      have FB := Lib.hid (FB2.out _ Yv8)
      have hned : ((n0 : Int) == (n0 : Int)) = true := by simp
      go_upto_if 94 with (go_quiet (fail))
      have FBq := Lib.hid (below_draws FB.out nq)
      go_wp2_with fail
      go_ret
      exact ⟨rfl, FBq.out⟩
    · obtain ⟨S, hS⟩ : ∃ S, S = woN l (phiL l) x := ⟨_, rfl⟩
      obtain ⟨LS, hLS⟩ : ∃ LS, LS = (q0 : Int) + (if degOf l (q0 : Int) (nameOf l (2 * x) : Nat) + degOf l (q0 : Int) (nameOf l (2 * x + 1) : Nat) = 2 then 1 else 0) := ⟨_, rfl⟩
      have SP : Hid (Calls Try.prog 7 #[.pointer (some ⟨g, 0, none⟩), .int .i64 (x : Int)] v1 fun en w' => ∃ b', Inv S b' ∧ NewMap v1 S b' RT LS en w') := by
        rw [hS, hLS, HRT2.out]
        exact shrink_p g l b r x (q0 : Int) v1 (HM.out.below Z1) HI.out hrr2 (by omega) (by omega) (by omega) hq
      have RS : Hid (∀ W, Below w3.heap.size w3 W → Calls Try.prog 12 #[.agg #[.slice A l.length cA, .int .i64 (r : Int), .int .i64 (q0 : Int)], .int .i64 (x : Int)] W (NewRO W S RT LS)) := fun W mm => by
        rw [hS, HRT2.out, hLS]
        exact rshrink_p A cA l b r (q0 : Int) x W (HR.out.more mm) HI.out HEV.out (by omega) hrr2 hE2 (by omega) (by omega) hq
      have HSV : Hid (∀ b', Inv S b' → ((sizes S).length : Int) + LS = VM - 1) := fun b' hb' => by
        rw [hS] at hb'
        have h1 := shr_verts HI.out hE2 hq hb'
        have h2 := both_deg HI.out (q0 : Int) (by omega) hE2
        rw [hS, met_sizes hb', hLS, HVM.out, met_sizes HI.out]
        by_cases c : bothA l x
        · rw [if_pos (h2.2 c)]
          rw [if_pos c] at h1
          omega
        · rw [if_neg (fun q => c (h2.1 q))]
          rw [if_neg c] at h1
          omega
      have HSG : Hid (∀ b', Inv S b' → genusN S = genusN l) := fun b' hb' => by
        rw [hS] at hb' ⊢
        exact shr_genus HI.out HEV.out hE2 hq hb'
      obtain ⟨a0, ha0⟩ : ∃ a0, a0 = 2 * x := ⟨_, rfl⟩
      obtain ⟨a1, ha1⟩ : ∃ a1, a1 = 2 * x + 1 := ⟨_, rfl⟩
      have i1 : 2 * (x : Int) = (a0 : Int) := by omega
      have i2 : (a0 : Int) + 1 = (a1 : Int) := by omega
      have hl0 : a0 < l.length := by omega
      have hl1 : a1 < l.length := by omega
      have hl0i : (a0 : Int) < (l.length : Int) := by omega
      have hl1i : (a1 : Int) < (l.length : Int) := by omega
      have w0i : IntKind.i64.wrap (a0 : Int) = (a0 : Int) := by simp [IntKind.wrap, IntKind.signed, IntKind.bits]; omega
      have w1i : IntKind.i64.wrap (a1 : Int) = (a1 : Int) := by simp [IntKind.wrap, IntKind.signed, IntKind.bits]; omega
      rw [← ha1, ← ha0] at hq
      have HQ := Lib.hid hq
      obtain ⟨VS, hVS⟩ : ∃ VS, VS = VM - 1 := ⟨_, rfl⟩
      have v1e : VM - 1 = VS := hVS.symm
      have v1w : IntKind.i64.wrap VS = VS := by simp [IntKind.wrap, IntKind.signed, IntKind.bits]; omega
      rw [v1e] at HSV
      clear ha0 ha1 hq Z1 hS hLS hVS
      go_wp2_with fail
      refine SP.out.mono ?_
      rintro e v2 ⟨bS, hiS, gS, rfl, hmS, z, _⟩
      have HMS := Lib.hid hmS
      have HIS := Lib.hid hiS
      have YY := Lib.hid (Y0.trans (z.mono Y0.size))
      clear z hmS hiS SP
      have LKS : Hid (∀ A3 c3 W, Rd W W.heap.size A3 S.length (I64 (ofN S)) → S.length ≤ c3 → c3 ≤ maxLen → Below v2.heap.size v2 W → Calls Try.prog 9 #[.pointer (some ⟨gS, 0, none⟩), .agg #[.slice A3 S.length c3, .int .i64 RT, .int .i64 LS]] W fun e w' => e = .returned (.bool true) ∧ Below W.heap.size W w') := fun A3 c3 W h1 h2 h3 m => like10_p gS S bS RT LS A3 c3 W (HMS.out.below m) h1 h2 h3
      have VSP : Hid (∀ W, Below v2.heap.size v2 W → Calls Try.prog 13 #[.pointer (some ⟨gS, 0, none⟩)] W fun e w' => e = .returned (.int .i64 VS) ∧ Below W.heap.size W w') := fun W m => by
        have := vertices_p gS S bS RT LS W (HMS.out.below m)
        rwa [HSV.out bS HIS.out] at this
      have GSP : Hid (∀ W, Below v2.heap.size v2 W → Calls Try.prog 14 #[.pointer (some ⟨gS, 0, none⟩)] W fun e w' => e = .returned (.int .i64 (genusN l : Int)) ∧ Below W.heap.size W w') := fun W m => by
        have hl9 := (HMS.out.1).2.1
        obtain ⟨LSn, hLSn⟩ : ∃ LSn : Nat, LS = (LSn : Int) := ⟨LS.toNat, by omega⟩
        have := genus_p gS S bS RT LSn W (by rw [← hLSn]; exact HMS.out.below m)
        rwa [HSG.out bS HIS.out] at this
      have RSU := RS
      have hz2 := YY.out.size
      have UP1 : ∀ W, Below v2.heap.size v2 W → Below v1.heap.size v1 W := fun W m => YY.out.trans (m.mono hz2)
      have UP3 : ∀ W, Below v2.heap.size v2 W → Below w3.heap.size w3 W := fun W m => Z1H.out.trans ((UP1 W m).mono hz1)
      have LK2 : Hid (∀ A3 c3 W, Rd W W.heap.size A3 C.length (I64 (ofN C)) → C.length ≤ c3 → c3 ≤ maxLen → Below v2.heap.size v2 W → Calls Try.prog 9 #[.pointer (some ⟨gC, 0, none⟩), .agg #[.slice A3 C.length c3, .int .i64 RT, .int .i64 LC]] W fun e w' => e = .returned (.bool true) ∧ Below W.heap.size W w') := fun A3 c3 W h1 h2 h3 m => LK.out A3 c3 W h1 h2 h3 (UP1 W m)
      have EC2 : Hid (∀ W, Below v2.heap.size v2 W → Calls Try.prog 8 #[.pointer (some ⟨gC, 0, none⟩)] W fun e w' => e = .returned (.int .i64 (E1 : Int)) ∧ Below W.heap.size W w') := fun W m => EC.out W (UP1 W m)
      have VC2 : Hid (∀ W, Below v2.heap.size v2 W → Calls Try.prog 13 #[.pointer (some ⟨gC, 0, none⟩)] W fun e w' => e = .returned (.int .i64 VM) ∧ Below W.heap.size W w') := fun W m => VC.out W (UP1 W m)
      have EO2 : Hid (∀ W, Below v2.heap.size v2 W → Calls Try.prog 8 #[.pointer (some ⟨g, 0, none⟩)] W fun e w' => e = .returned (.int .i64 (E : Int)) ∧ Below W.heap.size W w') := fun W m => EO.out W (UP3 W m)
      have VO2 : Hid (∀ W, Below v2.heap.size v2 W → Calls Try.prog 13 #[.pointer (some ⟨g, 0, none⟩)] W fun e w' => e = .returned (.int .i64 VM) ∧ Below W.heap.size W w') := fun W m => VO.out W (UP3 W m)
      have GO2 : Hid (∀ W, Below v2.heap.size v2 W → Calls Try.prog 14 #[.pointer (some ⟨g, 0, none⟩)] W fun e w' => e = .returned (.int .i64 (genusN l : Int)) ∧ Below W.heap.size W w') := fun W m => GO.out W (UP3 W m)
      have RC2 : Hid (∀ W, Below v2.heap.size v2 W → Calls Try.prog 10 #[.agg #[.slice A l.length cA, .int .i64 (r : Int), .int .i64 (q0 : Int)], .int .i64 (x : Int)] W (NewRO W C RT LC)) := fun W m => RC.out W (UP3 W m)
      have RN2 : Hid (∀ W, Below v2.heap.size v2 W → Calls Try.prog 11 #[.slice A l.length cA] W (NewI64 W (ofN (names l)))) := fun W m => RN.out W (UP3 W m)
      have SK2 : Hid (∀ W, Below v2.heap.size v2 W → W.cell? ⟨w2.heap.size, 0, none⟩ = some (.slice A l.length cA) ∧ W.cell? ⟨w2.heap.size, 1, none⟩ = some (.int .i64 (r : Int)) ∧ W.cell? ⟨w2.heap.size, 2, none⟩ = some (.int .i64 (q0 : Int))) := fun W m => SK.out W (UP3 W m)
      have FB2 : Hid (∀ W, Below v2.heap.size v2 W → Below w.heap.size w W) := fun W m => B3.out.trans ((UP3 W m).mono B3.out.size)
      have Q0 := Below.refl v2.heap.size v2
      have RS2 : Hid (∀ W, Below v2.heap.size v2 W → Calls Try.prog 12 #[.agg #[.slice A l.length cA, .int .i64 (r : Int), .int .i64 (q0 : Int)], .int .i64 (x : Int)] W (NewRO W S RT LS)) := fun W m => RS.out W (UP3 W m)
      clear RS RSU UP1 UP3 LK EC VC EO VO GO RC RN SK YY Y0
      generalize genusN l = G at *
      go_wp2_with fail
      refine (EO2.out _ Q0).mono ?_
      rintro e v3 ⟨rfl, z⟩
      have Yv3 := Q0.trans (z.mono Q0.size)
      clear z
      obtain ⟨x0, x1, x2⟩ := SK2.out _ Yv3
      go_wp2_with fail
      refine (RC2.out _ Yv3).mono ?_
      rintro e v4 ⟨A4, c4, rfl, hc4, hm4, ho4, z⟩
      have Yv4 := Yv3.trans (z.mono Yv3.size)
      have r4 := Rd.ofOwn ho4
      clear z x0 x1 x2 ho4
      go_wp2_with fail
      refine (LK2.out _ _ _ r4 hc4 hm4 Yv4).mono ?_
      rintro e v5 ⟨rfl, z⟩
      have Yv5 := Yv4.trans (z.mono Yv4.size)
      clear z r4 hc4 hm4
      go_wp2_with fail
      refine (EC2.out _ Yv5).mono ?_
      rintro e v6 ⟨rfl, z⟩
      have Yv6 := Yv5.trans (z.mono Yv5.size)
      clear z
      go_wp2_with fail
      refine (EO2.out _ Yv6).mono ?_
      rintro e v7 ⟨rfl, z⟩
      have Yv7 := Yv6.trans (z.mono Yv6.size)
      clear z
      obtain ⟨x0, x1, x2⟩ := SK2.out _ Yv7
      go_wp2_with fail
      refine (RN2.out _ Yv7).mono ?_
      rintro e v8 ⟨A8, c8, rfl, hc8, hm8, hown8, z⟩
      rw [ofN_len, names_len] at hc8 hown8 ⊢
      have Yv8 := Yv7.trans (z.mono Yv7.size)
      obtain ⟨gv, rfl, _, hgv⟩ := own_some hown8 (by omega)
      have hk0 := own_cellI hown8 a0 hl0
      have hk1 := own_cellI hown8 a1 hl1
      rw [ofN_get, names_get _ _ hl0] at hk0
      rw [ofN_get, names_get _ _ hl1] at hk1
      clear z x0 x1 x2 hown8 hc8 hm8
      obtain ⟨n0, hn0⟩ : ∃ n0, n0 = nameOf l a0 := ⟨_, rfl⟩
      obtain ⟨n1, hn1⟩ : ∃ n1, n1 = nameOf l a1 := ⟨_, rfl⟩
      rw [← hn0] at hk0
      rw [← hn1] at hk1
      have hne : n0 ≠ n1 := by rw [hn0, hn1]; exact HQ.out
      clear hn0 hn1
      have hned : ((n0 : Int) == (n1 : Int)) = false := by simp; omega
      have hned2 : decide (n0 = n1) = false := decide_eq_false hne
      have YH := Lib.hid Yv8
      clear Yv3 Yv4 Yv5 Yv6 Yv7 Yv8
      go_upto_if 94 with (go_quiet (fail))
      have Yq := below_draws YH.out nq
      generalize v8.drewN nq = vq at *
      obtain ⟨x0, x1, x2⟩ := SK2.out _ Yq
      clear hk0 hk1 hned YH
      go_wp2_with fail
      refine (RS2.out _ Yq).mono ?_
      rintro e v9 ⟨A9, c9, rfl, hc9, hm9, ho9, z⟩
      have Yv9 := Yq.trans (z.mono Yq.size)
      have r9 := Rd.ofOwn ho9
      clear z x0 x1 x2 ho9
      go_wp2_with fail
      refine (LKS.out _ _ _ r9 hc9 hm9 Yv9).mono ?_
      rintro e v10 ⟨rfl, z⟩
      have Yv10 := Yv9.trans (z.mono Yv9.size)
      clear z r9 hc9 hm9
      go_wp2_with fail
      refine (VSP.out _ Yv10).mono ?_
      rintro e v11 ⟨rfl, z⟩
      have Yv11 := Yv10.trans (z.mono Yv10.size)
      clear z
      go_wp2_with fail
      refine (VO2.out _ Yv11).mono ?_
      rintro e v12 ⟨rfl, z⟩
      have Yv12 := Yv11.trans (z.mono Yv11.size)
      clear z
      go_wp2_with fail
      refine (GSP.out _ Yv12).mono ?_
      rintro e v13 ⟨rfl, z⟩
      have Yv13 := Yv12.trans (z.mono Yv12.size)
      clear z
      go_wp2_with fail
      refine (GO2.out _ Yv13).mono ?_
      rintro e v14 ⟨rfl, z⟩
      have Yv14 := Yv13.trans (z.mono Yv13.size)
      clear z
      go_wp2_with fail
      refine (VC2.out _ Yv14).mono ?_
      rintro e v15 ⟨rfl, z⟩
      have Yv15 := Yv14.trans (z.mono Yv14.size)
      clear z
      go_wp2_with fail
      refine (VO2.out _ Yv15).mono ?_
      rintro e v16 ⟨rfl, z⟩
      have Yv16 := Yv15.trans (z.mono Yv15.size)
      clear z
      have FB := Lib.hid (FB2.out _ Yv16)
      go_wp2_with fail
      go_ret
      exact ⟨rfl, FB.out⟩
end Go.Proofs.Ytnnjjhjohjajnaa
