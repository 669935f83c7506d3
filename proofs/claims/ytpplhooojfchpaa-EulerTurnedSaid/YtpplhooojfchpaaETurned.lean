/- EulerTurned: the walk. -/
import Derived.Test.YtpplhooojfchpaaETurnM
import Derived.Test.YtpplhooojfchpaaDSame
import Derived.Test.YtpplhooojfchpaaEAwake
import Derived.BigQuiet
namespace Go.Proofs.Ytpplhooojfchpaa
open Go.RowKit
set_option linter.unusedVariables false
set_option maxRecDepth 20000
theorem bool_of' (P : Prop) : ∃ b : Bool, b = true ↔ P := by
  by_cases h : P
  · exact ⟨true, fun _ => h, fun _ => rfl⟩
  · exact ⟨false, fun c => (by cases c), fun c => absurd c h⟩
theorem bool_same' {a b : Bool} {P : Prop} (h1 : a = true ↔ P) (h2 : b = true ↔ P) : a = b := by
  cases a <;> cases b <;> simp_all
set_option maxHeartbeats 4000000 in
theorem equalP_p (A1 A2 : Option Addr) (c1 c2 n B1 B2 : Nat) (y : List Int) (w : World) (h1 : w.ownsRow B1 38 5 (.slice A1 n c1) n (I64 y)) (h2 : w.ownsRow B2 38 5 (.slice A2 n c2) n (I64 y)) (hn : n ≤ 1000000) :
    Calls Try.prog 34 #[.slice A1 n c1, .slice A2 n c2] w fun e w' => e = .returned (.bool true) ∧ Below w.heap.size w w' := by
  have H1 := Lib.hid h1
  have H2 := Lib.hid h2
  clear h1 h2
  go_enter Try.func34, Try.ntmps34
  go_wp2_with fail
  go_loopw [13] (fun i wr => ∃ (k : Nat), k ≤ n ∧ i = .int .i64 (k : Int) ∧ Hid (Below w.heap.size w wr)) (fun i _ => n - (intOf i).toNat)
  case atStart => exact ⟨0, by omega, rfl, Below.refl _ _⟩
  case round =>
    obtain ⟨k, hk, rfl, HB⟩ := hrel
    by_cases hlt : k < n
    · obtain ⟨g1, rfl, _, _⟩ := own_some5 H1.out (show 0 < n by omega)
      obtain ⟨g2, rfl, _, _⟩ := own_some5 H2.out (show 0 < n by omega)
      have o1 := own_below H1.out HB.out
      have o2 := own_below H2.out HB.out
      have hdk : decide (k < n) = true := by rw [decide_eq_true_iff]; exact hlt
      have c0 := own_cell5 o1 (k * 5) (by omega)
      have c1' := own_cell5 o1 (k * 5 + 1) (by omega)
      have c2' := own_cell5 o1 (k * 5 + 2) (by omega)
      have c3 := own_cell5 o1 (k * 5 + 3) (by omega)
      have c4 := own_cell5 o1 (k * 5 + 4) (by omega)
      have e0 := own_cell5 o2 (k * 5) (by omega)
      have e1 := own_cell5 o2 (k * 5 + 1) (by omega)
      have e2 := own_cell5 o2 (k * 5 + 2) (by omega)
      have e3 := own_cell5 o2 (k * 5 + 3) (by omega)
      have e4 := own_cell5 o2 (k * 5 + 4) (by omega)
      clear o1 o2
      generalize y.getD (k * 5) 0 = v0 at *
      generalize y.getD (k * 5 + 1) 0 = v1 at *
      generalize y.getD (k * 5 + 2) 0 = v2 at *
      generalize y.getD (k * 5 + 3) 0 = v3 at *
      generalize y.getD (k * 5 + 4) 0 = v4 at *
      go_wp2_with fail
      go_quiet (fail)
      go_wp2_with fail
      go_roundw
      case rel => exact ⟨k + 1, by omega, by go_num, below_draws HB.out _⟩
      case measure => simp [intOf]; omega
    · obtain rfl : k = n := by omega
      have hdk : decide (k < k) = false := by simp
      go_wp2_with fail
      go_ret
      exact ⟨rfl, HB.out⟩
set_option maxRecDepth 20000 in
set_option maxHeartbeats 8000000 in
theorem eulerTurned_walk (A0 : Option Addr) (n m c lo rr : Nat) (by_ : List Int) (w : World) (h0 : Rd w w.heap.size A0 m (Z8 by_)) (hb0 : ∀ x ∈ by_, 0 ≤ x ∧ x < 256) (hmc : m ≤ c) (hcm : c ≤ maxLen) (hn : n < 256) (hlo : lo < 256) (hrr : rr < 256) :
    Calls Try.prog 5 #[.int .u8 (n : Int), .slice A0 m c, .int .u8 (lo : Int), .int .u8 (rr : Int)] w fun e w' => e = .returned (.bool true) ∧ Below w.heap.size w w' := by
  unfold maxLen at hcm
  have AW := Lib.hid (awake8_p w)
  have H0 := Lib.hid h0
  have HB0 := Lib.hid hb0
  clear h0 hb0
  go_enter Try.func5, Try.ntmps5
  go_wp2_with fail
  refine AW.out.mono ?_
  rintro e w1 ⟨rfl, b1⟩
  have MD := Lib.hid (made8_p n lo m c _ A0 by_ w1 (H0.out.below b1) HB0.out b1.size hn hlo (by omega))
  have B1 := Lib.hid b1
  clear b1 AW
  go_wp2_with fail
  refine MD.out.mono ?_
  rintro e w2 ⟨g, v, l, b, root, rfl, hmap, hrm, hl, hroot, b2⟩
  generalize hq0 : lo % 4 = q0 at hmap hrm
  have hq5 : q0 < 4 := by omega
  obtain ⟨hinv, A, cA, hla, rfl, hlc, hcA, hrA⟩ := hrm
  have hbx := (Below.refl w2.heap.size w2).alloc (Nat.le_refl _) (.cells #[.slice A l.length cA, .int .i64 root, .int .i64 (q0 : Int)] 27)
  have HX := Lib.hid (Blk.new w2 27 #[.slice A l.length cA, .int .i64 root, .int .i64 (q0 : Int)])
  have HM := Lib.hid (hmap.below hbx)
  have HR := Lib.hid (hrA.more hbx)
  have HI := Lib.hid hinv
  have hl20 : l.length ≤ 22 := by have := Nat.mod_lt n (show 0 < 12 by decide); omega
  have HEV : Hid (l.length % 2 = 0) := by show _ = _; omega
  have B2 : Hid (Below w.heap.size w w2) := B1.out.trans (b2.mono B1.out.size)
  have B3 : Hid (Below w.heap.size w (w2.alloc (.cells #[.slice A l.length cA, .int .i64 root, .int .i64 (q0 : Int)] 27))) := B2.out.trans (hbx.mono B2.out.size)
  have HRT : Hid (RootOk root l.length) := by rw [hl]; exact hroot
  clear hmap hbx hrA hinv b2 hq0 B1 MD hlc hcA hla hl hroot
  go_upto_region 4 with fail
  generalize hw3 : w2.alloc (.cells #[.slice A l.length cA, .int .i64 root, .int .i64 (q0 : Int)] 27) = w3 at *
  have hX3 : w2.heap.size < w3.heap.size := by rw [← hw3]; simp
  have x0 : w3.cell? ⟨w2.heap.size, 0, none⟩ = some (.slice A l.length cA) := HX.out.cell 0
  have x1 : w3.cell? ⟨w2.heap.size, 1, none⟩ = some (.int .i64 root) := HX.out.cell 1
  have x2 : w3.cell? ⟨w2.heap.size, 2, none⟩ = some (.int .i64 (q0 : Int)) := HX.out.cell 2
  have SK : Hid (∀ W, Below w3.heap.size w3 W → W.cell? ⟨w2.heap.size, 0, none⟩ = some (.slice A l.length cA) ∧ W.cell? ⟨w2.heap.size, 1, none⟩ = some (.int .i64 root) ∧ W.cell? ⟨w2.heap.size, 2, none⟩ = some (.int .i64 (q0 : Int))) := fun W m => ⟨(m.cell (p := ⟨w2.heap.size, 0, none⟩) hX3).trans x0, (m.cell (p := ⟨w2.heap.size, 1, none⟩) hX3).trans x1, (m.cell (p := ⟨w2.heap.size, 2, none⟩) hX3).trans x2⟩
  obtain ⟨i0, hi0, hz0, hz1, hz2⟩ := info_parts info_int
  have hmk := run_make_one (P := Try.prog) 25 3 i0 (.int .i64 0) 8 Try.underlying25 hi0 hz0 hz1 hz2 rfl .i64 .i64 l.length (by omega) (by omega)
  have hown := own_made w3 3 l.length (.int .i64 0) (by simp only [maxLen]; omega)
  rw [← I64_replicate] at hown
  have HOW := Lib.hid hown
  clear hw3 hown
  go_wp2_with fail
  have hba := (Below.refl w3.heap.size w3).alloc (Nat.le_refl _) (.cells (List.replicate l.length (.int .i64 0)).toArray 3)
  obtain ⟨_, z1, z2⟩ := SK.out _ hba
  have HBA := Lib.hid hba
  clear hmk x0 x1 x2 hba z1 z2
  go_loopw [36] (fun i wr => ∃ (k : Nat) (y : List Int), k ≤ l.length ∧ i = .int .i64 (k : Int) ∧ Hid (∀ j, j < k → y.getD (l.getD j 0) 0 = (j : Int)) ∧ Hid (wr.ownsRow w3.heap.size 3 1 (.slice (some ⟨w3.heap.size, 0, none⟩) l.length l.length) l.length (I64 y)) ∧ Hid (Below w3.heap.size w3 wr)) (fun i _ => l.length - (intOf i).toNat)
  case atStart => exact ⟨0, List.replicate l.length 0, by omega, rfl, fun j h => absurd h (by omega), Lib.hid (by simpa [I64] using HOW.out), Lib.hid (by simpa using HBA.out)⟩
  case round =>
    clear HOW HBA
    obtain ⟨k, y, hk, rfl, HY, HO, HB⟩ := hrel
    by_cases hlt : k < l.length
    · have hr := (HR.out.more HB.out)
      obtain ⟨b', o, rfl, hb'l, k1⟩ := hr.i64 (by omega)
      have t1 := k1 k hlt
      rw [ofN_get] at t1
      have hxl := HI.out.lt k hlt
      have co := own_cellI HO.out (l.getD k 0) hxl
      have fo := HO.out.frozenAt (l.getD k 0)
      have hyl := own_lenI HO.out
      have HY1 : Hid (∀ j, j < k + 1 → (y.set (l.getD k 0) (k : Int)).getD (l.getD j 0) 0 = (j : Int)) := fun j hj => by
        rw [getDI_set _ _ _ _ (by omega)]
        by_cases e : j = k
        · rw [e, if_pos rfl]
        · rw [if_neg (fun c => e (HI.out.inj j k (by omega) hlt c))]; exact HY.out j (by omega)
      have HO1 := Lib.hid (own_setI HO.out (l.getD k 0) (k : Int))
      have HB1 := Lib.hid (HB.out.setCell (p := ⟨w3.heap.size, l.getD k 0, none⟩) (Nat.le_refl _) (.int .i64 (k : Int)))
      have hdk : decide (k < l.length) = true := by rw [decide_eq_true_iff]; exact hlt
      clear k1 hr hyl
      generalize y.getD (l.getD k 0) 0 = yk at co
      generalize l.getD k 0 = lk at *
      go_wp2_with fail
      go_roundw
      case rel => exact ⟨k + 1, y.set lk (k : Int), by omega, by go_num, HY1.out, HO1.out, HB1.out⟩
      case measure => simp [intOf]; omega
    · obtain rfl : k = l.length := by omega
      have hbl : b.length = l.length := HI.out.len
      have hye : y = ofN b := ofN_of (by rw [own_lenI HO.out, hbl]) fun i hi => by
        have hi' : i < l.length := by omega
        have h1 := HI.out.symm.lt i hi
        rw [hbl] at h1
        have := HY.out (b.getD i 0) h1
        rwa [HI.out.symm.lb i hi] at this
      have HOB : Hid (Rd wr wr.heap.size (some ⟨w3.heap.size, 0, none⟩) l.length (I64 (ofN b))) := by rw [← hye]; exact Rd.ofOwn HO.out
      have HIB := Lib.hid HI.out.symm
      have NO := Lib.hid (new_ok _ l.length l.length b l root (q0 : Int) wr HOB.out HIB.out HEV.out (by omega) HRT.out (by omega) (by omega))
      obtain ⟨y0, y1, y2⟩ := SK.out _ HB.out
      have hdk : decide (l.length < l.length) = false := by simp
      have hsr := HB.out.size
      have HMr := Lib.hid (HM.out.below HB.out)
      have BR := Lib.hid (B3.out.trans (HB.out.mono B3.out.size))
      have PB : Hid (∀ q, pN b + q = pN l + q ∧ ∀ c, partsC b c = partsC l c) := fun q => ⟨by rw [pN_both HI.out HEV.out], partsC_both HI.out HEV.out⟩
      have TB := Lib.hid (triang_both HI.out HEV.out q0)
      have DB := Lib.hid (dbl_both HI.out HEV.out)
      have hpn := pN_le l
      obtain ⟨bt, hbt⟩ := bool_of' (TriangN l q0)
      have HBT := Lib.hid hbt
      clear hye hbl HO HY hk hlt HOB HR hbt
      go_wp2_with fail
      refine NO.out.mono ?_
      rintro e w5 ⟨go, rfl, hmo, b5, _⟩
      have HMO := Lib.hid hmo
      have HM5 := Lib.hid (HMr.out.below b5)
      have B5 := Lib.hid (BR.out.trans (b5.mono BR.out.size))
      clear hmo b5 NO y0 y1 y2 HMr BR SK HB
      obtain ⟨N, hN⟩ : ∃ N, N = pN l + q0 := ⟨_, rfl⟩
      have hNl : N ≤ 1000 := by omega
      have HN := Lib.hid hN
      clear hN hpn
      have DP : Hid (∀ W, Below w5.heap.size w5 W → Calls Try.prog 32 #[.pointer (some ⟨g, 0, none⟩)] W fun e w' => e = .returned (.int .i64 (l.length : Int)) ∧ Below W.heap.size W w') := fun W m => darts_p g l b root q0 W (HM5.out.below m)
      have REST : ∀ (gr : Nat) (rt : Int) (w6 : World), Hid (MapAt w6 gr l b rt q0) → Hid (Below w5.heap.size w5 w6) → True := fun _ _ _ _ _ => trivial
      clear REST
      have P1 : Hid (∀ W, Below w5.heap.size w5 W → Calls Try.prog 11 #[.pointer (some ⟨g, 0, none⟩)] W (NewPt W N (partsC l N))) := fun W m => by rw [HN.out]; exact parts_p g l b root q0 W (HM5.out.below m)
      have P2 : Hid (∀ W, Below w5.heap.size w5 W → Calls Try.prog 11 #[.pointer (some ⟨go, 0, none⟩)] W (NewPt W N (partsC l N))) := fun W m => by
        have := parts_p go b l root q0 W (HMO.out.below m)
        rw [(PB.out q0).1, (PB.out q0).2] at this
        rw [HN.out]; exact this
      have T1 : Hid (∀ W, Below w5.heap.size w5 W → Calls Try.prog 29 #[.pointer (some ⟨g, 0, none⟩)] W fun e w' => e = .returned (.bool bt) ∧ Below W.heap.size W w') := fun W m => (triang_p g l b root q0 W (HM5.out.below m)).mono fun e w' ⟨r, h1, h3, h2⟩ => ⟨by rw [h1, bool_same' h3 HBT.out], h2⟩
      have T2 : Hid (∀ W, Below w5.heap.size w5 W → Calls Try.prog 29 #[.pointer (some ⟨go, 0, none⟩)] W fun e w' => e = .returned (.bool bt) ∧ Below W.heap.size W w') := fun W m => (triang_p go b l root q0 W (HMO.out.below m)).mono fun e w' ⟨r, h1, h3, h2⟩ => ⟨by rw [h1, bool_same' (h3.trans TB.out) HBT.out], h2⟩
      have D1 : Hid (∀ W, Below w5.heap.size w5 W → Calls Try.prog 27 #[.pointer (some ⟨g, 0, none⟩)] W fun e w' => e = .returned (.int .i64 (dblN l (l.length / 2) : Int)) ∧ Below W.heap.size W w') := fun W m => doubles_p g l b root (q0 : Int) W (HM5.out.below m)
      have D2 : Hid (∀ W, Below w5.heap.size w5 W → Calls Try.prog 27 #[.pointer (some ⟨go, 0, none⟩)] W fun e w' => e = .returned (.int .i64 (dblN l (l.length / 2) : Int)) ∧ Below W.heap.size W w') := fun W m => by
        have := doubles_p go b l root (q0 : Int) W (HMO.out.below m)
        rwa [DB.out] at this
      generalize dblN l (l.length / 2) = D at *
      by_cases hz : l.length = 0
      · have hz1 : decide (0 < l.length) = false := by simp [hz]
        have hz2 : ¬ (0 < (l.length : Int)) := by omega
        have P3 := P1
        clear hz
        go_wp2_with fail
        refine (DP.out _ (Below.refl _ _)).mono ?_
        rintro e v1 ⟨rfl, z⟩
        have Z := z
        clear z
        go_wp2_with fail
        refine (P1.out _ Z).mono ?_
        rintro e u1 ⟨A1, c1, rfl, _, _, o1, z⟩
        have O1 := Lib.hid o1
        have Z2 := Z.trans (z.mono Z.size)
        clear z o1
        go_wp2_with fail
        refine (P2.out _ Z2).mono ?_
        rintro e u2 ⟨A2, c2, rfl, _, _, o2, z⟩
        have O1b := Lib.hid (own_below O1.out z)
        have O2 := Lib.hid o2
        have Z3 := Z2.trans (z.mono Z2.size)
        clear z o2 O1
        go_wp2_with fail
        refine (P3.out _ Z3).mono ?_
        rintro e u3 ⟨A3, c3, rfl, _, _, o3, z⟩
        have O1c := Lib.hid (own_below O1b.out z)
        have O2c := Lib.hid (own_below O2.out z)
        have O3 := Lib.hid o3
        have Z4 := Z3.trans (z.mono Z3.size)
        clear z o3 O1b O2
        have EQ1 := Lib.hid (equalP_p A1 A2 c1 c2 N _ _ _ u3 O1c.out O2c.out (by omega))
        go_wp2_with fail
        refine EQ1.out.mono ?_
        rintro e u4 ⟨rfl, z⟩
        have O1d := Lib.hid (own_below O1c.out z)
        have O3d := Lib.hid (own_below O3.out z)
        have Z5 := Z4.trans (z.mono Z4.size)
        clear z O1c O2c O3 EQ1
        have EQ2 := Lib.hid (equalP_p A1 A3 c1 c3 N _ _ _ u4 O1d.out O3d.out (by omega))
        go_wp2_with fail
        refine EQ2.out.mono ?_
        rintro e u5 ⟨rfl, z⟩
        have Z6 := Z5.trans (z.mono Z5.size)
        clear z O1d O3d EQ2
        go_wp2_with fail
        refine (T1.out _ Z6).mono ?_
        rintro e u6 ⟨rfl, z⟩
        have Z7 := Z6.trans (z.mono Z6.size)
        clear z
        go_wp2_with fail
        refine (T2.out _ Z7).mono ?_
        rintro e u7 ⟨rfl, z⟩
        have Z8 := Z7.trans (z.mono Z7.size)
        clear z
        go_wp2_with fail
        refine (D1.out _ Z8).mono ?_
        rintro e u8 ⟨rfl, z⟩
        have Z9 := Z8.trans (z.mono Z8.size)
        clear z
        go_wp2_with fail
        refine (D2.out _ Z9).mono ?_
        rintro e u9 ⟨rfl, z⟩
        have Z10 := Z9.trans (z.mono Z9.size)
        clear z
        have BB := Lib.hid (B5.out.trans (Z10.mono B5.out.size))
        go_wp2_with fail
        go_ret
        exact ⟨rfl, BB.out⟩
      · have hz1 : decide (0 < l.length) = true := by rw [decide_eq_true_iff]; omega
        have hz2 : 0 < (l.length : Int) := by omega
        have hz3 : (l.length : Int) ≠ 0 := by omega
        have RO : Hid (∀ W, Below w5.heap.size w5 W → Calls Try.prog 33 #[.pointer (some ⟨g, 0, none⟩), .int .i64 ((rr : Int) % (l.length : Int))] W fun e w' => ∃ g', e = .returned (.tuple #[.pointer (some ⟨g', 0, none⟩), .int .i64 0]) ∧ MapAt w' g' l b ((rr : Int) % (l.length : Int)) (q0 : Int) ∧ Below W.heap.size W w') := fun W m => by
          have := rooted_in g l b root (q0 : Int) (rr % l.length) W (HM5.out.below m) (Nat.mod_lt _ (by omega))
          rwa [Int.natCast_emod] at this
        clear hz
        go_wp2_with fail
        refine (DP.out _ (Below.refl _ _)).mono ?_
        rintro e v1 ⟨rfl, z⟩
        have Z0 := z
        clear z
        go_wp2_with fail
        refine (DP.out _ Z0).mono ?_
        rintro e v2 ⟨rfl, z⟩
        have Z1 := Z0.trans (z.mono Z0.size)
        clear z
        go_wp2_with fail
        refine (RO.out _ Z1).mono ?_
        rintro e v3 ⟨gr, rfl, hmr, z⟩
        have Z := Z1.trans (z.mono Z1.size)
        have HM6 := Lib.hid hmr
        clear z hmr
        have P3 : Hid (∀ W, Below v3.heap.size v3 W → Calls Try.prog 11 #[.pointer (some ⟨gr, 0, none⟩)] W (NewPt W N (partsC l N))) := fun W m => by rw [HN.out]; exact parts_p gr l b _ q0 W (HM6.out.below m)
        have ZB := Below.refl v3.heap.size v3
        go_wp2_with fail
        refine (P1.out _ Z).mono ?_
        rintro e u1 ⟨A1, c1, rfl, _, _, o1, z⟩
        have O1 := Lib.hid o1
        have Z2 := Z.trans (z.mono Z.size)
        have ZB2 := ZB.trans (z.mono ZB.size)
        clear z o1
        go_wp2_with fail
        refine (P2.out _ Z2).mono ?_
        rintro e u2 ⟨A2, c2, rfl, _, _, o2, z⟩
        have O1b := Lib.hid (own_below O1.out z)
        have O2 := Lib.hid o2
        have Z3 := Z2.trans (z.mono Z2.size)
        have ZB3 := ZB2.trans (z.mono ZB2.size)
        clear z o2 O1
        go_wp2_with fail
        refine (P3.out _ ZB3).mono ?_
        rintro e u3 ⟨A3, c3, rfl, _, _, o3, z⟩
        have O1c := Lib.hid (own_below O1b.out z)
        have O2c := Lib.hid (own_below O2.out z)
        have O3 := Lib.hid o3
        have Z4 := Z3.trans (z.mono Z3.size)
        clear z o3 O1b O2
        have EQ1 := Lib.hid (equalP_p A1 A2 c1 c2 N _ _ _ u3 O1c.out O2c.out (by omega))
        go_wp2_with fail
        refine EQ1.out.mono ?_
        rintro e u4 ⟨rfl, z⟩
        have O1d := Lib.hid (own_below O1c.out z)
        have O3d := Lib.hid (own_below O3.out z)
        have Z5 := Z4.trans (z.mono Z4.size)
        clear z O1c O2c O3 EQ1
        have EQ2 := Lib.hid (equalP_p A1 A3 c1 c3 N _ _ _ u4 O1d.out O3d.out (by omega))
        go_wp2_with fail
        refine EQ2.out.mono ?_
        rintro e u5 ⟨rfl, z⟩
        have Z6 := Z5.trans (z.mono Z5.size)
        clear z O1d O3d EQ2
        go_wp2_with fail
        refine (T1.out _ Z6).mono ?_
        rintro e u6 ⟨rfl, z⟩
        have Z7 := Z6.trans (z.mono Z6.size)
        clear z
        go_wp2_with fail
        refine (T2.out _ Z7).mono ?_
        rintro e u7 ⟨rfl, z⟩
        have Z8 := Z7.trans (z.mono Z7.size)
        clear z
        go_wp2_with fail
        refine (D1.out _ Z8).mono ?_
        rintro e u8 ⟨rfl, z⟩
        have Z9 := Z8.trans (z.mono Z8.size)
        clear z
        go_wp2_with fail
        refine (D2.out _ Z9).mono ?_
        rintro e u9 ⟨rfl, z⟩
        have Z10 := Z9.trans (z.mono Z9.size)
        clear z
        have BB := Lib.hid (B5.out.trans (Z10.mono B5.out.size))
        go_wp2_with fail
        go_ret
        exact ⟨rfl, BB.out⟩
end Go.Proofs.Ytpplhooojfchpaa
