/- Triangulations: a vertex put into a face, an edge flipped. -/
import Derived.Test.YtdinmjciippchaaGreatZg13
import Derived.Test.YtdinmjciippchaaGreatZg1
import Derived.Lib.AppendZerosOnto
import Derived.Test.YtdinmjciippchaaGreatZg4
import Derived.Test.YtdinmjciippchaaGreatZg3
import Derived.Test.YtdinmjciippchaaGreatZg2
import Derived.Test.YtdinmjciippchaaGreatZg5
import Derived.Test.YtdinmjciippchaaGreatZg6
import Derived.BigQuiet
set_option linter.unusedVariables false
open Go.RowKit
namespace Go.Proofs.YtdinmjciippchaaGreat
/-! ### triangulations: a vertex put into a face -/
section
variable {n V:Nat} {sg v:Nat→Nat}
end
/-! ### triangulations: an edge flipped -/
section
variable {n V:Nat} {sg v:Nat→Nat}
end
set_option maxRecDepth 20000
section
variable {P:Program} (w:World)
end
set_option maxRecDepth 100000
theorem box_mod (W:World) (g:Nat) (u0 u1 u2:Value):Mod (fun i=>i=g) W (((W.setCell ⟨g,0,none⟩ u0).setCell ⟨g,1,none⟩ u1).setCell ⟨g,2,none⟩ u2) :=
 Mod.setCell (p:=⟨g,2,none⟩) (Mod.setCell (p:=⟨g,1,none⟩) (Mod.setCell (p:=⟨g,0,none⟩) (Mod.refl (fun i=>i=g) W) (fun _=>rfl) _) (fun _=>rfl) _) (fun _=>rfl) _
section
variable {n V:Nat} {sg sg' v:Nat→Nat} {l b:List Nat}
theorem pf_inv (h:PF l.length (sgL l)):∃ b,Inv l b:=by
 apply good_inv
 intro i hi
 rw [ofN_len] at hi
 rw [ofN_get,ofN_len]
 have:=h.lt i hi
 refine ⟨by omega,by unfold sgL at this;omega,fun j hj c=>?_⟩
 rw [ofN_get] at c
 have:=h.inj j i (by omega) hi (by unfold sgL;omega)
 omega
end
end Go.Proofs.YtdinmjciippchaaGreat
