/- The names of the places of a right word, and the turns of its map: the program's. -/
import Derived.Test.YtijbdnhlpbcabaaGreatDoorZg25
import Derived.Test.YtijbdnhlpbcabaaGreatDoorZg26
import Derived.Test.YtijbdnhlpbcabaaGreatDoorZg10
import Derived.Test.YtijbdnhlpbcabaaGreatDoorZg17
import Derived.Test.YtijbdnhlpbcabaaGreatDoorZg13
import Derived.Test.YtijbdnhlpbcabaaGreatDoorZg12
import Derived.Test.YtijbdnhlpbcabaaGreatDoorZg3
import Derived.Test.YtijbdnhlpbcabaaGreatDoorZg19
open Go.RowKit
set_option linter.unusedVariables false
set_option linter.unusedSimpArgs false
namespace Go.Proofs.YtijbdnhlpbcabaaGreatDoor
set_option maxRecDepth 20000
section
variable {w0 w:World} {m gx p0 g0 p1 g1 q:Nat} {ks:List Nat} {tw:Nat→Nat}
end
end Go.Proofs.YtijbdnhlpbcabaaGreatDoor
namespace Go.Proofs.YtijbdnhlpbcabaaGreatDoor
set_option maxRecDepth 20000
section
variable {w0 w:World} {m gx p0 g0 p1 g1 q:Nat} {ks:List Nat} {tw:Nat→Nat}
end
end Go.Proofs.YtijbdnhlpbcabaaGreatDoor
namespace Go.Proofs.YtijbdnhlpbcabaaGreatDoor
set_option maxRecDepth 20000
section
variable {w0 w w' wL:World} {m gx p0 g0 p1 g1 q:Nat} {ks:List Nat}
theorem Mx.rebase (h:Mx w0 w m gx p0 g0 p1 g1 ks q) (md:Mod (fun i=>i < w0.heap.size) w w') (hle:wL.heap.size≤w0.heap.size) (b:Below wL.heap.size wL w') (hN:Nul wL) (hT:Tab wL∧2 < wL.heap.size):Mx wL w' m gx p0 g0 p1 g1 ks q:=by
 obtain ⟨d,k,hk,hx⟩:=h.ix
 obtain ⟨d0,ha⟩:=h.pa
 obtain ⟨d1,hb⟩:=h.pb
 have lo:=h.lo
 exact ⟨h.blk.mod md (by omega),⟨d,k,hk,hx.mod md fun i hi=>by omega⟩,⟨d0,ha.mod md fun i hi=>by omega⟩,⟨d1,hb.mod md fun i hi=>by omega⟩,h.ne,⟨by omega,by omega,by omega,by omega⟩,h.kd,h.b0,h.b1,b,hN,hT⟩
end
end Go.Proofs.YtijbdnhlpbcabaaGreatDoor
namespace Go.Proofs.YtijbdnhlpbcabaaGreatDoor
set_option maxRecDepth 20000
end Go.Proofs.YtijbdnhlpbcabaaGreatDoor
namespace Go.Proofs.YtijbdnhlpbcabaaGreatDoor
set_option maxRecDepth 20000
set_option maxRecDepth 100000
end Go.Proofs.YtijbdnhlpbcabaaGreatDoor
