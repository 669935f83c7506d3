/- The document's text of letters. -/
import Derived.Test.YtagpdpacaoianaaGreatDoorZMCnt
import Derived.Test.YtagpdpacaoianaaGreatDoorZg6
import Derived.Laws.Concat
namespace Go.Proofs.YtagpdpacaoianaaGreatDoor
set_option maxRecDepth 20000
open Go.RowKit
set_option linter.unusedVariables false
theorem textM_sz (l : List Nat) : (textM l).size = l.length := by rw [textM, strOfNums_size, List.length_map]
theorem textM_nx (l : List Nat) (b : Nat) : textM (l ++ [b]) = textM l ++ ⟨#[UInt8.ofNat (signN b)]⟩ := by
  apply ByteArray.ext
  rw [ByteArray.data_append]
  simp [textM, strOfNums]
set_option maxHeartbeats 2000000 in
theorem refTextM_p (A : Option Addr) (n c B : Nat) (l : List Nat) (w : World) (h : Rd w B A n (I64 (ofNB l))) (hb : ∀ x ∈ l, x < 4) (hn : n ≤ 1000000) :
    Calls Tryz.prog 42 #[.slice A n c] w fun e w' => e = .returned (.string (textM l)) ∧ w = w' := by
  have hl : l.length = n := by rw [← ofN_lenB, ← I64_len, h.len]
  have HL := Lib.hid hl
  have HBN := Lib.hid hb
  clear hl hb
  go_enter Tryz.func42, Tryz.ntmps42
  go_wp2
  go_loopw [3, 8] (fun x i wr => ∃ (k : Nat) (t : ByteArray), k ≤ n ∧ i = .int .i64 (k : Int) ∧ Hid (t = textM (l.take k)) ∧ x = .string t ∧ wr = w) (fun _ i _ => n - (intOf i).toNat)
  case atStart => exact ⟨0, _, by omega, rfl, rfl, rfl, rfl⟩
  case round =>
    obtain ⟨k, t, hk, rfl, ht, rfl, rfl⟩ := hrel
    have hts : t.size ≤ 1000000 := by rw [ht.out, textM_sz, List.length_take]; omega
    by_cases hlt : k < n
    · obtain ⟨b, o, rfl, _, k1⟩ := h.i64 (by omega)
      have t1 := k1 k hlt
      rw [ofN_getB] at t1
      have hkl : k < l.length := by rw [HL.out]; exact hlt
      have hb2 : l.getD k 0 < 4 := HBN.out _ (by rw [List.getD_eq_getElem?_getD, List.getElem?_eq_getElem hkl]; exact List.getElem_mem hkl)
      have hnx : textM (l.take (k + 1)) = t ++ ⟨#[UInt8.ofNat (signN (l.getD k 0))]⟩ := by
        rw [take_snoc l k hkl, textM_nx, ht.out]
      have HNX := Lib.hid hnx
      clear k1 hnx hkl
      generalize l.getD k 0 = x at *
      rcases (show x = 0 ∨ x = 1 ∨ x = 2 ∨ x = 3 by omega) with rfl | rfl | rfl | rfl
      · have hcat : ∀ W, (Op.stringOp .add t ⟨#[40]⟩).run Tryz.prog W = .ok (.string (t ++ ⟨#[40]⟩)) W := fun W => run_string_add W _ _ (by omega) (by decide)
        clear hb2
        go_wp2_with fail
        go_roundw
        case rel => exact ⟨k + 1, _, by omega, by go_num, HNX.out.symm, rfl, trivial⟩
        case measure => simp [intOf]; omega
      · have hcat : ∀ W, (Op.stringOp .add t ⟨#[41]⟩).run Tryz.prog W = .ok (.string (t ++ ⟨#[41]⟩)) W := fun W => run_string_add W _ _ (by omega) (by decide)
        clear hb2
        go_wp2_with fail
        go_roundw
        case rel => exact ⟨k + 1, _, by omega, by go_num, HNX.out.symm, rfl, trivial⟩
        case measure => simp [intOf]; omega
      · have hcat : ∀ W, (Op.stringOp .add t ⟨#[91]⟩).run Tryz.prog W = .ok (.string (t ++ ⟨#[91]⟩)) W := fun W => run_string_add W _ _ (by omega) (by decide)
        clear hb2
        go_wp2_with fail
        go_roundw
        case rel => exact ⟨k + 1, _, by omega, by go_num, HNX.out.symm, rfl, trivial⟩
        case measure => simp [intOf]; omega
      · have hcat : ∀ W, (Op.stringOp .add t ⟨#[93]⟩).run Tryz.prog W = .ok (.string (t ++ ⟨#[93]⟩)) W := fun W => run_string_add W _ _ (by omega) (by decide)
        clear hb2
        go_wp2_with fail
        go_roundw
        case rel => exact ⟨k + 1, _, by omega, by go_num, HNX.out.symm, rfl, trivial⟩
        case measure => simp [intOf]; omega
    · obtain rfl : k = n := by omega
      have e1 : l.take k = l := List.take_of_length_le (by rw [HL.out]; exact Nat.le_refl _)
      rw [e1] at ht
      go_wp2_with fail
      go_ret
      exact ⟨by rw [← ht.out]; rfl, rfl⟩
end Go.Proofs.YtagpdpacaoianaaGreatDoor
