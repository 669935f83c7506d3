/- Pairs of letters of one sort: that no two cross is that each letter's mate is its pair's. -/
import Derived.Test.YtdinmjciippchaaGreatZg10
import Derived.Test.YtdinmjciippchaaGreatZg12
set_option linter.unusedVariables false
namespace Go.Proofs.YtdinmjciippchaaGreat
structure Prg (ks:List Nat) (tw:Nat→Nat):Prop where
 kd:Kds ks
 lt:∀ j,j < ks.length→tw j < ks.length
 tt:∀ j,j < ks.length→tw (tw j)=j
 ne:∀ j,j < ks.length→tw j≠j
 sort:∀ j,j < ks.length→ks.getD (tw j) 0 / 2=ks.getD j 0 / 2
 opn:∀ j,j < ks.length→(ks.getD j 0%2=0↔j < tw j)
def UA (ks:List Nat) (tw:Nat→Nat) (s x p:Nat):Prop:=ks.getD p 0 / 2=s∧p < tw p∧x≤tw p
instance (ks:List Nat) (tw:Nat→Nat) (s x:Nat):DecidablePred (UA ks tw s x):=fun p=>by unfold UA;exact inferInstance
section
variable {ks:List Nat} {tw:Nat→Nat} {s:Nat}
theorem step_s {i:Nat} (hi:i < ks.length) (hs:ks.getD i 0 / 2=s):exc (val (ownL s ks)) (ah s ks i+1)=exc (val (ownL s ks)) (ah s ks i)+(2*((1 - ks.getD i 0%2:Nat):Int) - 1):=by
 rw [exc_list (ownL_bin s ks),ownL_get s ks i hi hs]
end
/-! ### where the genus is nought: who is joined by some edges is within one border of them -/
section
variable {n m:Nat} {sg:Nat→Nat}
end
/-! ### a border, and its chords -/
section
variable {n m N:Nat} {sg z P L:Nat→Nat} {gone:Nat→Prop}
end
end Go.Proofs.YtdinmjciippchaaGreat
