/- Decode of the document: the rows around vertices and the stack while the letters are read. -/
import Derived.Test.YtijbdnhlpbcabaaGreatDoorZg26
import Derived.Test.YtijbdnhlpbcabaaGreatDoorZg28
import Derived.Test.YtijbdnhlpbcabaaGreatDoorZg17
import Derived.Deep.AppendLies
import Derived.BigRegion
import Derived.Test.YtijbdnhlpbcabaaGreatDoorZg6
open Go.RowKit
set_option linter.unusedVariables false
set_option linter.unusedSimpArgs false
namespace Go.Proofs.YtijbdnhlpbcabaaGreatDoor
set_option maxRecDepth 100000
section
variable {w0 w w':World} {B c cs:Nat} {A As:Option Addr} {ps:List GEl} {st:List Nat}
end
section
variable {ks:List Nat} {tw:Nat→Nat} {i:Nat} {ps:List GEl} {st:List Nat}
end
end Go.Proofs.YtijbdnhlpbcabaaGreatDoor
namespace Go.Proofs.YtijbdnhlpbcabaaGreatDoor
set_option maxRecDepth 100000
theorem wf_u16 {x:Int} (h:(Lit.int .u16 x).wf=true):∃ n:Nat,x=(n:Int)∧n < 65536:=by
 simp [Lit.wf,IntKind.min,IntKind.max,IntKind.signed,IntKind.bits] at h
 exact ⟨x.toNat,by omega,by omega⟩
end Go.Proofs.YtijbdnhlpbcabaaGreatDoor
