/- What else the index answers without its directory. -/
import Derived.Test.YtimhpiancpfdbaaDoorKIdx
namespace Go.Proofs.YtimhpiancpfdbaaDoor
open Go.RowKit
set_option linter.unusedVariables false
section
variable (g V n q : Nat) (d : Bool) (w : World)
theorem xones_p (h : IdxAt w g V n d q) : Calls Tryd.prog 11 #[.pointer (some ⟨g, 0, none⟩)] w fun e w' => e = .returned (.int .i64 ((pop V n : Nat) : Int)) ∧ w = w' := by
  obtain ⟨_, _, A, c, H, hb, _⟩ := h
  have c1 : w.cell? ⟨g, 2, none⟩ = some (.int .i64 ((pop V n : Nat) : Int)) := hb.cell 2
  clear hb
  go_enter Tryd.func11, Tryd.ntmps11
  go_wp2
  go_ret
  exact ⟨rfl, rfl⟩
theorem xsize_p (h : IdxAt w g V n d q) : Calls Tryd.prog 20 #[.pointer (some ⟨g, 0, none⟩)] w fun e w' => e = .returned (.int .i64 (32 * ((blk n : Nat) + 1 : Int))) ∧ w = w' := by
  have hn := h.2.1
  have XB := Lib.hid (xblocks_p g V n q d w h)
  have hb9 : blk n ≤ 1000000 := by unfold blk; omega
  clear h
  generalize blk n = r at *
  go_enter Tryd.func20, Tryd.ntmps20
  go_wp2_with fail
  refine XB.out.mono ?_
  rintro e w' ⟨rfl, rfl⟩
  go_wp2
  go_ret
  exact ⟨rfl, rfl⟩
theorem xbuilt_p (h : IdxAt w g V n d q) : Calls Tryd.prog 19 #[.pointer (some ⟨g, 0, none⟩)] w fun e w' => e = .returned (.int .i64 (b01 d)) ∧ w = w' := by
  obtain ⟨_, hn, A, c, H, hb, _⟩ := h
  have c1 : w.cell? ⟨g, 7, none⟩ = some (.int .i64 (b01 d)) := hb.cell 7
  have L := Lib.hid (load64 ⟨g, 7, none⟩ _ w c1)
  have hb1 : 0 ≤ b01 d ∧ b01 d ≤ 1 := by cases d <;> decide
  clear hb
  generalize b01 d = r at *
  go_enter Tryd.func19, Tryd.ntmps19
  go_wp2_with fail
  refine L.out.mono ?_
  rintro e w' ⟨rfl, rfl⟩
  go_wp2
  go_ret
  exact ⟨rfl, rfl⟩
theorem xasked_p (h : IdxAt w g V n d q) : Calls Tryd.prog 16 #[.pointer (some ⟨g, 0, none⟩)] w fun e w' => e = .returned (.int .i64 (q : Int)) ∧ w = w' := by
  obtain ⟨_, hn, A, c, H, hb, _⟩ := h
  have c1 : w.cell? ⟨g, 8, none⟩ = some (.int .i64 (q : Int)) := hb.cell 8
  have L := Lib.hid (load64 ⟨g, 8, none⟩ _ w c1)
  clear hb
  go_enter Tryd.func16, Tryd.ntmps16
  go_wp2_with fail
  refine L.out.mono ?_
  rintro e w' ⟨rfl, rfl⟩
  go_wp2
  go_ret
  exact ⟨rfl, rfl⟩
end
end Go.Proofs.YtimhpiancpfdbaaDoor
