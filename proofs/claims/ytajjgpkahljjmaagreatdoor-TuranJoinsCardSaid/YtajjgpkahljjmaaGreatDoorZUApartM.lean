/- A map without an edge: as many vertices, and edges cut out in any order. -/
import Derived.Test.YtajjgpkahljjmaaGreatDoorZg36
import Derived.Test.YtajjgpkahljjmaaGreatDoorZg15
open Go.RowKit
set_option linter.unusedVariables false
namespace Go.Proofs.YtajjgpkahljjmaaGreatDoor
set_option maxRecDepth 20000
/-! ### one taken out of its class -/
section
variable {l b:List Nat}
theorem orb_name (h:Inv l b) {i j:Nat} (hi:i < l.length) (o:Orb (sgL l) i j):nameOf l j=nameOf l i:=by
 obtain ⟨t,ht⟩:=o
 have hm:j∈orb l i:=(mem_orb h hi).2 ⟨t,by rw [← sgL_it];exact ht⟩
 unfold nameOf
 rw [lead_of_mem h hi hm]
theorem deg_num (h:Inv l b) (lone:Int) (hl:0≤lone) {a:Nat} (ha:a < l.length):degOf l lone (nameOf l a:Nat)=(num (fun i=>Orb (sgL l) a i) l.length:Nat):=by
 have hm:=name_met h ha ha
 have hs:(sizes l).length=met l l.length:=by unfold sizes;rw [sizesTo_len]
 unfold degOf
 rw [if_neg (by omega),if_neg (by omega),Int.toNat_natCast]
 unfold sizes
 rw [sizesTo_get _ _ _ _ hm]
 congr 1
 unfold cntN num
 congr 1
 apply List.filter_congr
 intro i hi
 have hi:i < l.length:=by simpa using hi
 rw [decide_eq_decide]
 exact ⟨fun q=>name_orb h ha hi q.symm,fun q=>orb_name h ha q⟩
end
end Go.Proofs.YtajjgpkahljjmaaGreatDoor
