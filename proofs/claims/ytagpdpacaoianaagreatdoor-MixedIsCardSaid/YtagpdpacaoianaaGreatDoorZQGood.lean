/- The document's Good; ParenIs. -/
import Derived.Test.YtagpdpacaoianaaGreatDoorZQMade
namespace Go.Proofs.YtagpdpacaoianaaGreatDoor
open Go.RowKit
set_option linter.unusedVariables false
set_option maxRecDepth 20000
theorem exc_list {l : List Nat} (hb : Bin l) (i : Nat) : exc (val l) (i + 1) = exc (val l) i + (2 * ((l.getD i 0 : Nat) : Int) - 1) := by
  rw [exc_next, val_bit hb]
def GoodP (w : World) (l : List Nat) (m : Nat) (e : Ending) (w' : World) : Prop := w = w' ∧ ∃ r : Bool, e = .returned (.bool r) ∧ (r = true ↔ Bal (exc (val l)) m)
theorem GoodP.no {w : World} {l : List Nat} {m : Nat} {e : Ending} (he : e = .returned (.bool false)) (h : ¬ Bal (exc (val l)) m) : GoodP w l m e w := ⟨rfl, false, he, by simp [h]⟩
theorem GoodP.yes {w : World} {l : List Nat} {m : Nat} {e : Ending} (he : e = .returned (.bool true)) (h : Bal (exc (val l)) m) : GoodP w l m e w := ⟨rfl, true, he, by simp [h]⟩
set_option maxHeartbeats 4000000 in
theorem good_p (A : Option Addr) (m c B : Nat) (l : List Nat) (w : World) (hr : Rd w B A m (I64 (ofNB l))) (hb : Bin l) (hm : m ≤ 1000000) :
    Calls Tryz.prog 73 #[.slice A m c] w (GoodP w l m) := by
  have HR := Lib.hid hr
  have HBN := Lib.hid hb
  have HE := Lib.hid (exc_Exc (val l))
  have HX := Lib.hid (fun i => exc_list hb i)
  clear hr hb
  go_enter Tryz.func73, Tryz.ntmps73
  go_wp2_with fail
  go_loop [3, 8] (fun z x => ∃ (i : Nat) (y : Int), x = .int .i64 (i : Int) ∧ z = .int .i64 y ∧ i ≤ m ∧ -1000000 ≤ y ∧ y ≤ 1000000 ∧ Hid (exc (val l) i = y) ∧ Hid (∀ k, k ≤ i → 0 ≤ exc (val l) k)) (fun _ x => m - (intOf x).toNat)
  case atStart => exact ⟨0, 0, rfl, rfl, by omega, by omega, by omega, HE.out.zero, fun k hk => by obtain rfl : k = 0 := by omega
                                                                                                   rw [HE.out.zero]; exact Int.le_refl _⟩
  case round =>
    obtain ⟨i, y, rfl, rfl, hi, hy1, hy2, hy, hab⟩ := hrel
    by_cases hlt : i < m
    · obtain ⟨b', o, e, _, k1⟩ := HR.out.i64 (by omega)
      subst e
      have t1 := k1 i hlt
      rw [ofN_getB] at t1
      have hx := HX.out i
      have hb2 := HBN.out.getD i
      have hbd := HE.out.bound (i + 1)
      rw [hx, hy.out] at hbd
      rw [hy.out] at hx
      clear k1
      generalize l.getD i 0 = b at *
      have HXI := Lib.hid hx
      clear hx
      by_cases hb1 : b = 1
      · subst hb1
        have t2 : w.cell? ⟨b', o + i, none⟩ = some (.int .i64 1) := t1
        have HS : Hid (exc (val l) (i + 1) = y + 1) := by show _ = _; rw [HXI.out]; rfl
        clear t1
        by_cases hneg : y + 1 < 0
        · have NB : Hid (¬ Bal (exc (val l)) m) := fun hB => by have := hB.1 (i + 1) (by omega); rw [HS.out] at this; omega
          go_wp2_with fail
          go_ret
          exact GoodP.no rfl NB.out
        · have hd : decide (y + 1 < 0) = false := decide_eq_false hneg
          have HAB : Hid (∀ k, k ≤ i + 1 → 0 ≤ exc (val l) k) := fun k hk => by
            by_cases e : k = i + 1
            · rw [e, HS.out]; omega
            · exact hab.out k (by omega)
          clear hneg
          go_wp2_with fail
          go_round
          case rel => exact ⟨i + 1, y + 1, by go_num, rfl, by omega, by omega, by omega, HS.out, HAB.out⟩
          case measure => simp [intOf]; omega
      · obtain rfl : b = 0 := by omega
        have t2 : w.cell? ⟨b', o + i, none⟩ = some (.int .i64 0) := t1
        have HS : Hid (exc (val l) (i + 1) = y - 1) := by show _ = _; rw [HXI.out]; show y + (2 * 0 - 1) = y - 1; omega
        clear t1 hb1
        by_cases hneg : y - 1 < 0
        · have NB : Hid (¬ Bal (exc (val l)) m) := fun hB => by have := hB.1 (i + 1) (by omega); rw [HS.out] at this; omega
          go_wp2_with fail
          go_ret
          exact GoodP.no rfl NB.out
        · have hd : decide (y - 1 < 0) = false := decide_eq_false hneg
          have HAB : Hid (∀ k, k ≤ i + 1 → 0 ≤ exc (val l) k) := fun k hk => by
            by_cases e : k = i + 1
            · rw [e, HS.out]; omega
            · exact hab.out k (by omega)
          go_wp2_with fail
          go_round
          case rel => exact ⟨i + 1, y - 1, by go_num, rfl, by omega, by omega, by omega, HS.out, HAB.out⟩
          case measure => simp [intOf]; omega
    · obtain rfl : i = m := by omega
      by_cases hy0 : y = 0
      · have YB : Hid (Bal (exc (val l)) i) := ⟨hab.out, by rw [hy.out, hy0]⟩
        subst hy0
        go_wp2_with fail
        go_ret
        exact GoodP.yes rfl YB.out
      · have NB : Hid (¬ Bal (exc (val l)) i) := fun hB => hy0 (by rw [← hy.out]; exact hB.2)
        have g0 : (y == 0) = false := by rw [beq_eq_false_iff_ne]; exact hy0
        clear hy0
        go_wp2_with fail
        go_ret
        exact GoodP.no rfl NB.out
end Go.Proofs.YtagpdpacaoianaaGreatDoor
