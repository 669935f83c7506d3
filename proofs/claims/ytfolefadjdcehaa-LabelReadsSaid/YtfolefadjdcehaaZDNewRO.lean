/- A map of the document's that was told into memory of its own. -/
import Derived.Test.YtfolefadjdcehaaZg1
import Derived.Test.YtfolefadjdcehaaZPNames
namespace Go.Proofs.Ytfolefadjdcehaa
set_option maxRecDepth 20000
open Go.RowKit
set_option linter.unusedVariables false
/-- A map that was told into memory of its own. -/
def NewRO (w : World) (l : List Nat) (root lone : Int) (e : Ending) (w' : World) : Prop :=
  ∃ A c, e = .returned (.agg #[.slice A l.length c, .int .i64 root, .int .i64 lone]) ∧ l.length ≤ c ∧ c ≤ maxLen ∧ w'.ownsRow w.heap.size 3 1 (.slice A l.length c) l.length (I64 (ofN l)) ∧ Below w.heap.size w w'
/-- What a map's box bears when it was told. -/
theorem box_ret {w wz : World} {g base N cS : Nat} {RT LF : Int} {A : Option Addr} {xs : List Value} (hgw : w.heap.size ≤ g) (hB : Below w.heap.size w wz) (hHY : Blk wz g 27 #[.slice none 0 0, .int .i64 0, .int .i64 0]) (hrd : wz.ownsRow base 3 1 (.slice A N cS) N xs) :
    Blk (((wz.setCell ⟨g, 0, none⟩ (.slice A N cS)).setCell ⟨g, 1, none⟩ (.int .i64 RT)).setCell ⟨g, 2, none⟩ (.int .i64 LF)) g 27 #[.slice A N cS, .int .i64 RT, .int .i64 LF] ∧
    (((wz.setCell ⟨g, 0, none⟩ (.slice A N cS)).setCell ⟨g, 1, none⟩ (.int .i64 RT)).setCell ⟨g, 2, none⟩ (.int .i64 LF)).ownsRow base 3 1 (.slice A N cS) N xs ∧
    Below w.heap.size w (((wz.setCell ⟨g, 0, none⟩ (.slice A N cS)).setCell ⟨g, 1, none⟩ (.int .i64 RT)).setCell ⟨g, 2, none⟩ (.int .i64 LF)) := by
  have MM : Mod (fun i => i = g) wz (((wz.setCell ⟨g, 0, none⟩ (.slice A N cS)).setCell ⟨g, 1, none⟩ (.int .i64 RT)).setCell ⟨g, 2, none⟩ (.int .i64 LF)) :=
    Mod.setCell (p := ⟨g, 2, none⟩) (Mod.setCell (p := ⟨g, 1, none⟩) (Mod.setCell (p := ⟨g, 0, none⟩) (Mod.refl (fun i => i = g) wz) (fun _ => rfl) _) (fun _ => rfl) _) (fun _ => rfl) _
  refine ⟨?_, own_mod hrd MM (fun q hq c => own_ne hrd hHY (by decide) (by rw [hq]; exact congrArg some c)), hB.trans (MM.belowB hB.size fun i hi hf => by omega)⟩
  have := ((hHY.set_ 0 (.slice A N cS)).set_ 1 (.int .i64 RT)).set_ 2 (.int .i64 LF)
  simpa using this
end Go.Proofs.Ytfolefadjdcehaa
