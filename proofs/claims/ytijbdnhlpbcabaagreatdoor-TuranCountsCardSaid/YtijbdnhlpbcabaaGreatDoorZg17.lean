/- append(s, make([]T, k)...) onto a row of one's own: with room and without. -/
import Derived.Test.YtijbdnhlpbcabaaGreatDoorZg1
import Derived.Lib.AppendZerosOnto
import Derived.Test.YtijbdnhlpbcabaaGreatDoorZPNames
import Derived.Test.YtijbdnhlpbcabaaGreatDoorZg3
import Derived.Test.YtijbdnhlpbcabaaGreatDoorZg2
import Derived.Test.YtijbdnhlpbcabaaGreatDoorZg4
import Derived.Test.YtijbdnhlpbcabaaGreatDoorZg15
import Derived.BigQuiet
import Derived.Test.YtijbdnhlpbcabaaGreatDoorZg16
import Derived.Test.YtijbdnhlpbcabaaGreatDoorZg14
open Go.RowKit
set_option linter.unusedVariables false
set_option linter.unusedSimpArgs false
namespace Go.Proofs.YtijbdnhlpbcabaaGreatDoor
set_option maxRecDepth 20000
section
variable {P:Program} (w:World)
end
end Go.Proofs.YtijbdnhlpbcabaaGreatDoor
namespace Go.Proofs.YtijbdnhlpbcabaaGreatDoor
set_option maxRecDepth 20000
set_option maxRecDepth 100000
section
variable {l b p q:List Nat}
/-! ### edges between the same two -/
theorem name_iff (hl:Inv l b) {i j:Nat} (hi:i < l.length) (hj:j < l.length):nameOf l i=nameOf l j↔Orb (sgL l) i j:=by
 refine ⟨name_orb hl hi hj,fun o=>?_⟩
 obtain ⟨h1,h2,h3⟩:=lead_is hl hi
 have hlt:lead l i < l.length:=by omega
 obtain ⟨t,e⟩:=(mem_orb hl hlt).1 h3
 rw [← sgL_it] at e
 have o2:Orb (sgL l) (lead l i) j:=(sgL_pf hl).eqv.trans _ i _ hlt hi hj ⟨t,e⟩ o
 obtain ⟨t2,e2⟩:=o2
 have:=lead_eq hl hj hlt h2 ((mem_orb hl hlt).2 ⟨t2,by rw [← sgL_it];exact e2⟩)
 unfold nameOf
 rw [this]
def fE (p:List Nat) (e:Nat):Nat:=sgL p (2*e) / 2
end
end Go.Proofs.YtijbdnhlpbcabaaGreatDoor
namespace Go.Proofs.YtijbdnhlpbcabaaGreatDoor
set_option maxRecDepth 100000
section
variable {n V:Nat} {sg sg' v:Nat→Nat} {l b:List Nat}
end
end Go.Proofs.YtijbdnhlpbcabaaGreatDoor
namespace Go.Proofs.YtijbdnhlpbcabaaGreatDoor
set_option maxRecDepth 20000
section
variable {ks:List Nat} {tw:Nat→Nat}
theorem matAt_uniq {i p p':Nat} (h:MateAt ks i p) (k:MateAt ks i p'):p=p':=by
 obtain ⟨h1,h2,h3⟩:=h
 obtain ⟨k1,k2,k3⟩:=k
 have:=h3.uniq (exc_Exc _) k3
 exact ah_uniq (ks.getD i 0 / 2) ks p p' h1 k1 h2 k2 (by omega)
theorem matAt_back {i p:Nat} (hi:i < ks.length) (h:MateAt ks i p):MateAt ks p i:=by
 obtain ⟨h1,h2,h3⟩:=h
 refine ⟨hi,h2.symm,?_⟩
 rw [h2]
 exact h3.back
theorem ah_ltP {s i j:Nat} (hi:i < ks.length) (hj:j < ks.length) (h:ah s ks i < ah s ks j):i < j:=by
 rcases Nat.lt_or_ge i j with c | c
 ·exact c
 ·have:=ah_mono s ks j (i - j) (by omega)
  rw [show j+(i - j)=i by omega] at this
  omega
theorem prg_of (kd:Kds ks) (y:List Int) (H:∀ i,i < ks.length→MatI ks i (y.getD i 0)):Prg ks (fun j=>(y.getD j 0).toNat)∧∀ j,j < ks.length→y.getD j 0=(((y.getD j 0).toNat:Nat):Int):=by
 have hm:∀ j,j < ks.length→MateAt ks j (y.getD j 0).toNat:=fun j hj=>by
  obtain ⟨q,e,m⟩:=H j hj
  rw [e];exact m
 refine ⟨⟨kd,fun j hj=>(hm j hj).1,fun j hj=>?_,fun j hj c=>?_,fun j hj=>(hm j hj).2.1,fun j hj=>?_⟩,fun j hj=>?_⟩
 ·exact matAt_uniq (hm _ (hm j hj).1) (matAt_back hj (hm j hj))
 ·have h3:=(hm j hj).2.2
  rw [c] at h3
  obtain ⟨q,e,p | p⟩:=h3
  ·have:=p.lt;omega
  ·have:=p.lt;omega
 ·obtain ⟨h1,h2,h3⟩:=hm j hj
  have st:=step_s (s:=ks.getD j 0 / 2) hj rfl
  have hk:ks.getD j 0%2=0∨ks.getD j 0%2=1:=by omega
  obtain ⟨q,e,p | p⟩:=h3
  ·have o:=p.opens (exc_Exc _)
   have l:=p.lt
   have:=ah_ltP hj h1 (s:=ks.getD j 0 / 2) (by omega)
   constructor
   ·exact fun _=>this
   ·intro _;rcases hk with z | z
    ·exact z
    ·rw [z] at st;exact absurd o (by rw [st];omega)
  ·have o:=p.closes (exc_Exc _)
   have l:=p.lt
   have:=ah_ltP h1 hj (s:=ks.getD j 0 / 2) (by omega)
   constructor
   ·intro z;rw [z] at st;exact absurd o (by rw [st];omega)
   ·intro c;omega
 ·obtain ⟨q,e,m⟩:=H j hj
  rw [e];rfl
end
end Go.Proofs.YtijbdnhlpbcabaaGreatDoor
