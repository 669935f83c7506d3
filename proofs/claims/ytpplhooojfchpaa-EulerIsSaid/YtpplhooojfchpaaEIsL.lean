/- EulerIs: the walk. -/
import Derived.Test.YtpplhooojfchpaaETriR
import Derived.Test.YtpplhooojfchpaaEAwake
import Derived.Deep.RegionHeld3
import Derived.Deep.DeepCutAuto
namespace Go.Proofs.Ytpplhooojfchpaa
open Go.RowKit
set_option linter.unusedVariables false
theorem bool_of (P : Prop) : ∃ b : Bool, b = true ↔ P := by
  by_cases h : P
  · exact ⟨true, fun _ => h, fun _ => rfl⟩
  · exact ⟨false, fun c => (by cases c), fun c => absurd c h⟩
theorem bool_same {a b : Bool} {P : Prop} (h1 : a = true ↔ P) (h2 : b = true ↔ P) : a = b := by
  cases a <;> cases b <;> simp_all
set_option maxRecDepth 20000 in
set_option maxHeartbeats 8000000 in
theorem eulerIs_walk (A0 : Option Addr) (n m c lo : Nat) (by_ : List Int) (w : World) (h0 : Rd w w.heap.size A0 m (Z8 by_)) (hb0 : ∀ x ∈ by_, 0 ≤ x ∧ x < 256) (hmc : m ≤ c) (hcm : c ≤ maxLen) (hn : n < 256) (hlo : lo < 256) :
    Calls Try.prog 4 #[.int .u8 (n : Int), .slice A0 m c, .int .u8 (lo : Int)] w fun e w' => e = .returned (.bool true) ∧ Below w.heap.size w w' := by
  unfold maxLen at hcm
  have AW := Lib.hid (awake8_p w)
  have H0 := Lib.hid h0
  have HB0 := Lib.hid hb0
  clear h0 hb0
  go_enter Try.func4, Try.ntmps4
  go_wp2_with fail
  refine AW.out.mono ?_
  rintro e w1 ⟨rfl, b1⟩
  have MD := Lib.hid (made8_p n lo m c _ A0 by_ w1 (H0.out.below b1) HB0.out b1.size hn hlo (by omega))
  have B1 := Lib.hid b1
  clear b1 AW
  go_wp2_with fail
  refine MD.out.mono ?_
  rintro e w2 ⟨g, v, l, b, root, rfl, hmap, hrm, hl, hroot, b2⟩
  generalize hq0 : lo % 4 = q0 at hmap hrm
  have hq5 : q0 < 4 := by omega
  obtain ⟨hinv, A, cA, hla, rfl, hlc, hcA, hrA⟩ := hrm
  have hbx := (Below.refl w2.heap.size w2).alloc (Nat.le_refl _) (.cells #[.slice A l.length cA, .int .i64 root, .int .i64 (q0 : Int)] 27)
  have HX := Lib.hid (Blk.new w2 27 #[.slice A l.length cA, .int .i64 root, .int .i64 (q0 : Int)])
  have HM := Lib.hid (hmap.below hbx)
  have HR := Lib.hid (hrA.more hbx)
  have HI := Lib.hid hinv
  have hl20 : l.length ≤ 22 := by have := Nat.mod_lt n (show 0 < 12 by decide); omega
  have HEV : Hid (l.length % 2 = 0) := by show _ = _; omega
  have B2 : Hid (Below w.heap.size w w2) := B1.out.trans (b2.mono B1.out.size)
  have B3 : Hid (Below w.heap.size w (w2.alloc (.cells #[.slice A l.length cA, .int .i64 root, .int .i64 (q0 : Int)] 27))) := B2.out.trans (hbx.mono B2.out.size)
  clear hmap hbx hrA hinv b2 hq0 B1 MD hl hroot hlc hcA hla
  go_upto_region 4 with fail
  generalize hw3 : w2.alloc (.cells #[.slice A l.length cA, .int .i64 root, .int .i64 (q0 : Int)] 27) = w3 at *
  have hX3 : w2.heap.size < w3.heap.size := by rw [← hw3]; simp
  have x0 : w3.cell? ⟨w2.heap.size, 0, none⟩ = some (.slice A l.length cA) := HX.out.cell 0
  have x1 : w3.cell? ⟨w2.heap.size, 1, none⟩ = some (.int .i64 root) := HX.out.cell 1
  have x2 : w3.cell? ⟨w2.heap.size, 2, none⟩ = some (.int .i64 (q0 : Int)) := HX.out.cell 2
  have SK : Hid (∀ W, Below w3.heap.size w3 W → Below w3.heap.size w3 W ∧ W.cell? ⟨w2.heap.size, 0, none⟩ = some (.slice A l.length cA) ∧ W.cell? ⟨w2.heap.size, 1, none⟩ = some (.int .i64 root) ∧ W.cell? ⟨w2.heap.size, 2, none⟩ = some (.int .i64 (q0 : Int))) := fun W m => ⟨m, (m.cell (p := ⟨w2.heap.size, 0, none⟩) hX3).trans x0, (m.cell (p := ⟨w2.heap.size, 1, none⟩) hX3).trans x1, (m.cell (p := ⟨w2.heap.size, 2, none⟩) hX3).trans x2⟩
  clear hw3 x0 x1 x2
  have lift : ∀ {P : Ending → Prop} {K : FuncId} {args : Array Value}, (∀ W, Below w3.heap.size w3 W → Calls Try.prog K args W fun e w' => P e ∧ Below W.heap.size W w') → ∀ W, Below w3.heap.size w3 W → Calls Try.prog K args W fun e w' => P e ∧ Below w3.heap.size w3 w' := fun H W m => (H W m).mono fun e w' ⟨h1, h2⟩ => ⟨h1, m.trans (h2.mono m.size)⟩
  have hn1 : l.length ≤ 100000 := by omega
  have hq1 : q0 ≤ 65536 := by omega
  obtain ⟨bt, hbt⟩ := bool_of (TriangN l q0)
  have K1 := Lib.hid (lift (fun W m => regenus_p A cA l b root q0 W (HR.out.more m) HI.out HEV.out hn1 hq1))
  have K2 := Lib.hid (lift (fun W m => reloops_p A cA l b root (q0 : Int) W (HR.out.more m) HI.out HEV.out hn1))
  have K3 := Lib.hid (lift (fun W m => redoubles_p A cA l b root (q0 : Int) W (HR.out.more m) HI.out HEV.out hn1))
  have K4 : Hid (∀ W, Below w3.heap.size w3 W → Calls Try.prog 12 #[.agg #[.slice A l.length cA, .int .i64 root, .int .i64 (q0 : Int)]] W fun e w' => ∃ A9 c9, e = .returned (.slice A9 (pN l + q0) c9) ∧ Below w3.heap.size w3 w') := fun W m => (reparts_p A cA l b root q0 W (HR.out.more m) HI.out HEV.out hn1 hq1).mono fun e w' ⟨A9, c9, h1, _, _, _, h2⟩ => ⟨A9, c9, h1, m.trans (h2.mono m.size)⟩
  have K5 : Hid (∀ W, Below w3.heap.size w3 W → Calls Try.prog 30 #[.agg #[.slice A l.length cA, .int .i64 root, .int .i64 (q0 : Int)]] W fun e w' => e = .returned (.bool bt) ∧ Below w3.heap.size w3 w') := fun W m => (retriang_p A cA l b root q0 W (HR.out.more m) HI.out HEV.out hn1 hq1).mono fun e w' ⟨r, h1, h3, h2⟩ => ⟨by rw [h1, bool_same h3 hbt], m.trans (h2.mono m.size)⟩
  have E1 := Lib.hid (lift (fun W m => genus_p g l b root q0 W (HM.out.below m)))
  have E2 := Lib.hid (lift (fun W m => planar_p g l b root q0 W (HM.out.below m)))
  have E3 := Lib.hid (lift (fun W m => connected_p g l b root q0 W (HM.out.below m)))
  have E4 := Lib.hid (lift (fun W m => loops_p g l b root (q0 : Int) W (HM.out.below m)))
  have E5 := Lib.hid (lift (fun W m => doubles_p g l b root (q0 : Int) W (HM.out.below m)))
  have E6 := Lib.hid (lift (fun W m => simple_p g l b root (q0 : Int) W (HM.out.below m)))
  have E7 : Hid (∀ W, Below w3.heap.size w3 W → Calls Try.prog 29 #[.pointer (some ⟨g, 0, none⟩)] W fun e w' => e = .returned (.bool bt) ∧ Below w3.heap.size w3 w') := fun W m => (triang_p g l b root q0 W (HM.out.below m)).mono fun e w' ⟨r, h1, h3, h2⟩ => ⟨by rw [h1, bool_same h3 hbt], m.trans (h2.mono m.size)⟩
  have hbad := edges_are l (l.length / 2)
  have hLl : loopsN l (l.length / 2) ≤ 1000 := by omega
  have hDl : dblN l (l.length / 2) ≤ 1000 := by omega
  clear lift hbad hbt HR HM HI HX
  generalize loopsN l (l.length / 2) = L at *
  generalize dblN l (l.length / 2) = D at *
  generalize genusN l = G at *
  generalize pN l + q0 = N at *
  have wLD : IntKind.i64.wrap ((L : Int) + (D : Int)) = (L : Int) + (D : Int) := by simp [IntKind.wrap, IntKind.signed, IntKind.bits]; omega
  obtain ⟨bg, hbg⟩ : ∃ bg, bg = decide (G = 0) := ⟨_, rfl⟩
  obtain ⟨bc, hbc⟩ : ∃ bc, bc = decide (N = 1) := ⟨_, rfl⟩
  obtain ⟨bs, hbs⟩ : ∃ bs, bs = decide (L = 0 ∧ D = 0) := ⟨_, rfl⟩
  rw [← hbg] at E2
  rw [← hbc] at E3
  rw [← hbs] at E6
  have fg : ((G : Int) == 0) = bg := by rw [hbg, Bool.eq_iff_iff, beq_iff_eq, decide_eq_true_iff]; omega
  have fc : ((N : Int) == 1) = bc := by rw [hbc, Bool.eq_iff_iff, beq_iff_eq, decide_eq_true_iff]; omega
  have fs : ((L : Int) + (D : Int) == 0) = bs := by rw [hbs, Bool.eq_iff_iff, beq_iff_eq, decide_eq_true_iff]; omega
  clear hbg hbc hbs
  go_cut [9, 10, 11] (fun s9 s10 s11 wx => s9 = .int .i64 (G : Int) ∧ s10 = .int .i64 (L : Int) ∧ s11 = .int .i64 (D : Int) ∧ Below w3.heap.size w3 wx)
  case first =>
    clear E1 E2 E3 E4 E5 E6 E7 K4 K5 fg fc fs
    have hba0 := Below.refl w3.heap.size w3
    have hba1 := hba0.drew
    obtain ⟨_, x0, x1, x2⟩ := SK.out _ hba0
    obtain ⟨_, xx0, xx1, xx2⟩ := SK.out _ hba1
    go_region_held3 (fun W => Below w3.heap.size w3 W ∧ W.cell? ⟨w2.heap.size, 0, none⟩ = some (.slice A l.length cA) ∧ W.cell? ⟨w2.heap.size, 1, none⟩ = some (.int .i64 root) ∧ W.cell? ⟨w2.heap.size, 2, none⟩ = some (.int .i64 (q0 : Int)))
      (exact SK.out _ (by assumption))
      (first
      | (go_at_call 20; (with_reducible refine (K1.out _ (by assumption)).mono ?_); rintro e wa ⟨rfl, hba⟩)
      | (go_at_call 21; (with_reducible refine (K2.out _ (by assumption)).mono ?_); rintro e wa ⟨rfl, hba⟩)
      | (go_at_call 22; (with_reducible refine (K3.out _ (by assumption)).mono ?_); rintro e wa ⟨rfl, hba⟩))
    all_goals (go_wp2_with fail; go_meet; exact ⟨rfl, rfl, rfl, hba⟩)
  case rest =>
    obtain ⟨rfl, rfl, rfl, b5⟩ := hcut
    obtain ⟨wd, rfl⟩ : ∃ wd, wd = wc := ⟨_, rfl⟩
    go_wp2_with fail
    have hba0 := b5
    have hba1 := b5.drew
    obtain ⟨_, x0, x1, x2⟩ := SK.out _ hba0
    obtain ⟨_, xx0, xx1, xx2⟩ := SK.out _ hba1
    go_region_held3 (fun W => Below w3.heap.size w3 W ∧ W.cell? ⟨w2.heap.size, 0, none⟩ = some (.slice A l.length cA) ∧ W.cell? ⟨w2.heap.size, 1, none⟩ = some (.int .i64 root) ∧ W.cell? ⟨w2.heap.size, 2, none⟩ = some (.int .i64 (q0 : Int)))
      (exact SK.out _ (by assumption))
      (first
      | (go_at_call 23; (with_reducible refine (E1.out _ (by assumption)).mono ?_); rintro e wa ⟨rfl, hba⟩)
      | (go_at_call 24; (with_reducible refine (E2.out _ (by assumption)).mono ?_); rintro e wa ⟨rfl, hba⟩)
      | (go_at_call 25; (with_reducible refine (E3.out _ (by assumption)).mono ?_); rintro e wa ⟨rfl, hba⟩)
      | (go_at_call 12; (with_reducible refine (K4.out _ (by assumption)).mono ?_); rintro e wa ⟨A9, c9, rfl, hba⟩)
      | (go_at_call 26; (with_reducible refine (E4.out _ (by assumption)).mono ?_); rintro e wa ⟨rfl, hba⟩)
      | (go_at_call 27; (with_reducible refine (E5.out _ (by assumption)).mono ?_); rintro e wa ⟨rfl, hba⟩)
      | (go_at_call 28; (with_reducible refine (E6.out _ (by assumption)).mono ?_); rintro e wa ⟨rfl, hba⟩)
      | (go_at_call 29; (with_reducible refine (E7.out _ (by assumption)).mono ?_); rintro e wa ⟨rfl, hba⟩)
      | (go_at_call 30; (with_reducible refine (K5.out _ (by assumption)).mono ?_); rintro e wa ⟨rfl, hba⟩))
    all_goals (
      go_wp2_with fail
      go_ret
      exact ⟨rfl, B3.out.trans (Below.mono hba B3.out.size)⟩)
end Go.Proofs.Ytpplhooojfchpaa
