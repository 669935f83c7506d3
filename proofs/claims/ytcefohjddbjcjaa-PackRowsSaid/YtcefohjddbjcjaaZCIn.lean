/- A code that is read: bit by bit, behind it noughts. -/
import Derived.Test.YtcefohjddbjcjaaZg4
import Derived.Test.YtcefohjddbjcjaaZBText
import Derived.Deep.CutRange
import Derived.Deep.RegionWith
namespace Go.Proofs.Ytcefohjddbjcjaa
set_option maxRecDepth 20000
open Go.RowKit
set_option linter.unusedVariables false

/-- Behind w0 the bits at g are C. -/
def CodeV (w0 : World) (g : Nat) (C : List Nat) : Prop :=
  (∀ i : Nat, i ≤ 2000000 → ∃ x : Int, -1 ≤ x ∧ x ≤ 1 ∧ (if x < 0 then 0 else x) = ((C.getD i 0 : Nat) : Int) ∧ ∀ W, Below w0.heap.size w0 W → Calls Try.prog 48 #[.pointer (some ⟨g, 0, none⟩), .int .i64 (i : Int)] W fun e w' => e = .returned (.int .i64 x) ∧ W = w') ∧
  ∀ W, Below w0.heap.size w0 W → Calls Try.prog 21 #[.pointer (some ⟨g, 0, none⟩)] W fun e w' => e = .returned (.int .i64 (C.length : Int)) ∧ W = w'
theorem CodeV.of (w0 : World) (B g : Nat) (C : List Nat) (A : Option Addr) (h : VecB w0 B g (val C) C.length A) (hb : Bin C) : CodeV w0 g C := by
  refine ⟨fun i hi => ?_, fun W m => blen_p g _ _ A W (VecB.below h m)⟩
  by_cases hlt : i < C.length
  · have hx := hb.getD i
    refine ⟨((C.getD i 0 : Nat) : Int), by omega, by omega, by rw [if_neg (by omega)], fun W m => ?_⟩
    have h1 := at_p g _ _ i B A W (VecB.below h m) hlt
    rwa [val_bit hb] at h1
  · refine ⟨-1, by omega, by omega, ?_, fun W m => at_outB _ C.length i W (by omega) (.inr (by omega)) (blen_p g _ _ A W (VecB.below h m))⟩
    rw [List.getD_eq_getElem?_getD, List.getElem?_eq_none (by omega)]; rfl
/-- At q lies a reader. -/
def InS (w : World) (q g p v : Nat) : Prop := Blk w q 96 #[.pointer (some ⟨g, 0, none⟩), .int .i64 (p : Int), .int .u64 (v : Int)]
theorem InS.set1 {w : World} {q g p v : Nat} (h : InS w q g p v) (x : Nat) : InS (w.setCell ⟨q, 1, none⟩ (.int .i64 (x : Int))) q g x v := by
  have := Blk.set_ h 1 (.int .i64 (x : Int)); show Blk _ _ _ _; simpa using this
theorem InS.set2 {w : World} {q g p v : Nat} (h : InS w q g p v) (x : Nat) : InS (w.setCell ⟨q, 2, none⟩ (.int .u64 (x : Int))) q g p x := by
  have := Blk.set_ h 2 (.int .u64 (x : Int)); show Blk _ _ _ _; simpa using this
set_option maxHeartbeats 1000000 in
theorem next_p (q g p v : Nat) (C : List Nat) (w0 w : World) (hv : CodeV w0 g C) (h : InS w q g p v) (hw : Below w0.heap.size w0 w) (hp : p ≤ 2000000) :
    Calls Try.prog 63 #[.pointer (some ⟨q, 0, none⟩)] w fun e w' => e = .returned (.int .u64 ((C.getD p 0 : Nat) : Int)) ∧ InS w' q g (p + 1) v ∧ Mod (fun i => i = q) w w' := by
  have HV := Lib.hid hv
  have H := Lib.hid h
  have HW := Lib.hid hw
  have c0 : w.cell? ⟨q, 0, none⟩ = some (.pointer (some ⟨g, 0, none⟩)) := Blk.cell h 0
  have c1 : w.cell? ⟨q, 1, none⟩ = some (.int .i64 (p : Int)) := Blk.cell h 1
  have f1 := Blk.frozen h 1
  obtain ⟨x, x0, x1, x2, at_⟩ := hv.1 p hp
  have AT := Lib.hid at_
  have hy : C.getD p 0 ≤ 1 := by split at x2 <;> omega
  generalize C.getD p 0 = y at *
  clear hv h hw at_
  go_enter Try.func63, Try.ntmps63
  go_wp2_with fail
  go_region_with (first
    | (go_at_call 48; (with_reducible refine (AT.out _ ?hb).mono ?_); (case hb => first | exact HW.out | exact HW.out.drew); rintro e wa ⟨rfl, rfl⟩))
  all_goals (
    go_wp2_with fail
    go_ret
    exact ⟨rfl, H.out.set1 _, ((Mod.refl (fun i => i = q) w).setCell (fun _ => rfl) _).drew⟩)
/-- A way that a span was doubled, told to a reader. -/
theorem ifollow_p (q g p v k : Nat) (C : List Nat) (w0 w : World) (hv : CodeV w0 g C) (h : InS w q g p v) (hw : Below w0.heap.size w0 w) (hp : p ≤ 2000000) (hk : k ≤ 2) :
    Calls Try.prog 57 #[.pointer (some ⟨q, 0, none⟩), .int .i64 (k : Int)] w fun e w' => e = .returned (.tuple #[]) ∧ InS w' q g (p + 1) (((2 * ((v : Int) - (k : Int) * 1073741824) + ((C.getD p 0 : Nat) : Int)) % 18446744073709551616).toNat) ∧ Mod (fun i => i = q) w w' := by
  have NX := Lib.hid (next_p q g p v C w0 w hv h hw hp)
  have DB := Lib.hid (fun W => doubled_p v k W hk)
  have c2 : w.cell? ⟨q, 2, none⟩ = some (.int .u64 (v : Int)) := Blk.cell h 2
  clear hv h hw
  obtain ⟨r, hr⟩ : ∃ r : Nat, r = (((2 * ((v : Int) - (k : Int) * 1073741824) + ((C.getD p 0 : Nat) : Int)) % 18446744073709551616).toNat) := ⟨_, rfl⟩
  have ew : IntKind.u64.wrap (((dblW v k : Nat) : Int) + ((C.getD p 0 : Nat) : Int)) = (r : Int) := by rw [wrap_mod, dblW_int]; omega
  have HR := Lib.hid hr
  generalize C.getD p 0 = y at *
  generalize dblW v k = d at *
  clear hr
  go_enter Try.func57, Try.ntmps57
  go_wp2_with fail
  refine (DB.out _).mono ?_
  rintro e w1 ⟨rfl, rfl⟩
  go_wp2_with fail
  refine NX.out.mono ?_
  rintro e w2 ⟨rfl, h2, m2⟩
  have x2 : w2.cell? ⟨q, 2, none⟩ = some (.int .u64 (v : Int)) := Blk.cell h2 2
  have f2 := Blk.frozen h2 2
  have H2 := Lib.hid h2
  have M2 := Lib.hid m2
  clear h2 m2 NX DB c2
  go_wp2_with fail
  refine bodyPost_end (results_none rfl _ _ _) rfl ⟨rfl, ?_⟩
  rw [← HR.out]
  exact ⟨H2.out.set2 _, M2.out.setCell (fun _ => rfl) _⟩
set_option maxHeartbeats 2000000 in
theorem newInput_p (g : Nat) (C : List Nat) (hb : BinB C) (w0 w : World) (hv : CodeV w0 g C) (hw : Below w0.heap.size w0 w) :
    Calls Try.prog 56 #[.pointer (some ⟨g, 0, none⟩)] w fun e w' => e = .returned (.pointer (some ⟨w.heap.size, 0, none⟩)) ∧ InS w' w.heap.size g 32 (valD C []) ∧ Below w.heap.size w w' ∧ w.heap.size < w'.heap.size := by
  have HV := Lib.hid hv
  have HW := Lib.hid hw
  have HB := Lib.hid hb
  have h0 : InS (w.alloc (.cells #[.pointer (some ⟨g, 0, none⟩), .int .i64 0, .int .u64 0] 96)) w.heap.size g 0 (top C 0) := Blk.new w _ _
  have m0 : Below w.heap.size w (w.alloc (.cells #[.pointer (some ⟨g, 0, none⟩), .int .i64 0, .int .u64 0] 96)) := (Below.refl _ _).alloc (Nat.le_refl _) _
  have H0 := Lib.hid h0
  have M0 := Lib.hid m0
  clear hv hw hb h0 m0
  go_enter Try.func56, Try.ntmps56
  go_wp2_with fail
  generalize (w.alloc (.cells #[.pointer (some ⟨g, 0, none⟩), .int .i64 0, .int .u64 0] 96)) = wa at *
  go_loopw [7] (fun i wr => ∃ j : Nat, j ≤ 32 ∧ i = .int .i64 (j : Int) ∧ Hid (InS wr w.heap.size g j (top C j)) ∧ Hid (Below w.heap.size w wr)) (fun i _ => 32 - (intOf i).toNat)
  case atStart => exact ⟨0, by omega, rfl, H0, M0⟩
  case round =>
    clear H0 M0
    obtain ⟨j, hj, rfl, HI, HM⟩ := hrel
    by_cases hlt : j < 32
    · have NX2 := Lib.hid (next_p w.heap.size g j (top C j) C w0 wr.drew HV.out HI.out ((HW.out.trans (HM.out.mono HW.out.size)).drew) (by omega))
      have hT : top C j < 4294967296 := by
        have := (top_up C HB.out 0 j).2
        rw [Nat.zero_add] at this
        have h2 : 2 ^ j ≤ 2 ^ 32 := Nat.pow_le_pow_right (by decide) (by omega)
        simp [top] at this
        omega
      have hc : C.getD j 0 < 2 := by
        by_cases h : j < C.length
        · rw [List.getD_eq_getElem?_getD, List.getElem?_eq_getElem h]; exact HB.out _ (List.getElem_mem h)
        · rw [List.getD_eq_getElem?_getD, List.getElem?_eq_none (by omega)]; decide
      have HT : Hid (top C (j + 1) = 2 * top C j + C.getD j 0) := rfl
      have c2 : wr.cell? ⟨w.heap.size, 2, none⟩ = some (.int .u64 ((top C j : Nat) : Int)) := Blk.cell HI.out 2
      have f2 := Blk.frozen HI.out 2
      generalize C.getD j 0 = y at *
      generalize top C j = T at *
      obtain ⟨R, hR⟩ : ∃ R, R = 2 * T + y := ⟨_, rfl⟩
      rw [← hR] at HT
      have ew : IntKind.u64.wrap (2 * (T : Int) + (y : Int)) = (R : Int) := wrap_u64e (by omega) (by omega)
      have eT : IntKind.u64.wrap (2 * (T : Int)) = 2 * (T : Int) := by rw [wrap_mod]; omega
      clear hR
      go_wp2_with fail
      go_region_with (first
        | (go_at_call 63; (with_reducible refine NX2.out.mono ?_); rintro e wa ⟨rfl, h2, m2⟩; have x2 : wa.cell? ⟨w.heap.size, 2, none⟩ = some (.int .u64 (T : Int)) := Blk.cell h2 2; have g2 := Blk.frozen h2 2; replace m2 := (Mod.refl (fun i => i = w.heap.size) wr).drew.trans m2 (fun _ _ h => h)))
      all_goals (
        have HI2 := Lib.hid (h2.set2 R)
        have HM3 : Hid (Below w.heap.size w (wa.setCell ⟨w.heap.size, 2, none⟩ (.int .u64 (R : Int)))) := HM.out.trans ((m2.setCell (p := ⟨w.heap.size, 2, none⟩) (fun _ => rfl) (.int .u64 (R : Int))).belowB HM.out.size (fun i hi e => by first | omega | (cases e; omega)))
        clear NX2 c2 f2 HI HM h2 m2 x2 g2
        go_wp2_with fail
        go_roundw
        case rel => exact ⟨j + 1, by omega, by go_num, by rw [HT.out]; exact HI2, HM3⟩
        case measure => simp [intOf]; omega)
    · obtain rfl : j = 32 := by omega
      go_wp2_with fail
      go_ret
      exact ⟨rfl, by rw [valD_nil C HB.out]; exact HI.out, HM.out, HI.out.lt⟩
end Go.Proofs.Ytcefohjddbjcjaa
