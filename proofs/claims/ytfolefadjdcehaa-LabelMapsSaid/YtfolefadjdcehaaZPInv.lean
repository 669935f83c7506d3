/- The inverse. -/
import Derived.Test.YtfolefadjdcehaaZPMake
namespace Go.Proofs.Ytfolefadjdcehaa
set_option maxRecDepth 20000
open Go.RowKit
set_option linter.unusedVariables false

theorem inverse_p (g : Nat) (l b : List Nat) (w : World) (h : PermAt w g l b) :
    Calls Try.prog 32 #[.pointer (some ⟨g, 0, none⟩)] w (NewP w b l) := by
  obtain ⟨hinv, hl, A, c, A', c', hb, h1, h2⟩ := h
  have c0 : w.cell? ⟨g, 0, none⟩ = some (.slice A l.length c) := hb.cell 0
  have c1 : w.cell? ⟨g, 1, none⟩ = some (.slice A' l.length c') := hb.cell 1
  go_enter Try.func32, Try.ntmps32
  go_wp2
  go_region
  go_wp2
  go_ret
  have hbel : Below w.heap.size w ((w.alloc (.cells #[.slice A' l.length c', .slice A l.length c] 69)).drew) := ((Below.refl _ _).alloc (Nat.le_refl _) _).drew
  refine ⟨_, rfl, ⟨hinv.symm, by rw [hinv.len]; exact hl, A', c', A, c, ?_, ?_, ?_⟩, hbel⟩
  · rw [hinv.len]; exact Blk.new w _ _
  · rw [hinv.len]; exact h2.more hbel
  · rw [hinv.len]; exact h1.more hbel
theorem inverse_pnil (w : World) :
    Calls Try.prog 32 #[.pointer none] w fun e w' => e = .returned (.pointer none) ∧ w = w' := by
  go_enter Try.func32, Try.ntmps32
  go_wp2
  go_ret
  exact ⟨rfl, rfl⟩
end Go.Proofs.Ytfolefadjdcehaa
