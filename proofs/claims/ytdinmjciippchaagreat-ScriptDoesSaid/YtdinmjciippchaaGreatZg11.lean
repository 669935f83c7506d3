/- Num, whole; two vectors side by side; the library's Clone and Equal of words. -/
import Derived.Test.YtdinmjciippchaaGreatZg10
import Derived.Test.YtdinmjciippchaaGreatZg1
import Derived.Laws.BytesArg
import Derived.ArgAppend
import Derived.RegionTactic
import Derived.Deep.QuietTactic
import Derived.BigQuiet
import Derived.Deep.RegionWith
import Derived.Deep.RegionLaw
import Derived.Laws.BitsAllLaws
import Derived.Laws.Bits128
import Derived.Laws.LoneSync
import Derived.Laws.Pointers
import Derived.Defers
import Derived.RegionCalls
import Derived.ChangeAlike
import Derived.Deep.AppendLies
import Derived.Deep.DeepCutAuto
import Derived.Shelf.Spec.TrailingZeros
import Derived.Lib.Hide
open Go.RowKit
set_option linter.unusedVariables false
namespace Go.Proofs.YtdinmjciippchaaGreat
def U8 (l:List Nat):List Value:=l.map fun (b:Nat)=>Value.int .u8 (b:Int)
theorem wf_i64 {x:Int} (h:(Lit.int .i64 x).wf=true):-9223372036854775808≤x∧x≤9223372036854775807:=by
 simp [Lit.wf,IntKind.min,IntKind.max,IntKind.bits,IntKind.signed] at h
 omega





/-! ### sync/atomic -/
/-! ### what the index answers without its directory -/
section
variable (g V n q:Nat) (d:Bool) (w:World)
end



/-! ### Rank -/

section
variable (g V n q:Nat) (d:Bool) (w:World)
end



structure Exc (E:Nat→Int):Prop where
 zero:E 0=0
 step:∀ i,E (i+1)=E i+1∨E (i+1)=E i - 1
def Bal (E:Nat→Int) (n:Nat):Prop:=(∀ i,i≤n→0≤E i)∧E n=0
structure Fwd (E:Nat→Int) (a n:Nat) (m:Int) (j:Nat):Prop where
 lt:a < j
 le:j≤n
 at_:E j≤m
 above:∀ k,a < k→k < j→m < E k
structure Bwd (E:Nat→Int) (a:Nat) (m:Int) (j:Nat):Prop where
 lt:j < a
 at_:E j≤m
 above:∀ k,j < k→k < a→m < E k
theorem Bwd.on {E:Nat→Int} {a b:Nat} {m:Int} {j:Nat} (h:Bwd E b m j) (hab:b≤a) (hb:∀ k,b≤k→k < a→m < E k):Bwd E a m j :=
 ⟨by have:=h.lt;omega,h.at_,fun k h1 h2=>by
  rcases Nat.lt_or_ge k b with x | x
  ·exact h.above k h1 x
  ·exact hb k x h2⟩
theorem first_ex (P:Nat→Prop) (a:Nat):∀ d,P (a+1+d)→∃ j,a < j∧j≤a+1+d∧P j∧∀ k,a < k→k < j→¬ P k
 | 0,h=>⟨a+1,by omega,by omega,h,fun k h1 h2=>by omega⟩
 | d+1,h=>by
   by_cases hx:∃ i,a < i∧i≤a+1+d∧P i
   ·obtain ⟨i,h1,h2,h3⟩:=hx
    have:=first_ex P a (i - a - 1) (by rw [show a+1+(i - a - 1)=i by omega];exact h3)
    obtain ⟨j,p1,p2,p3,p4⟩:=this
    exact ⟨j,p1,by omega,p3,p4⟩
   ·refine ⟨a+1+(d+1),by omega,by omega,h,fun k h1 h2 hk=>hx ⟨k,h1,by omega,hk⟩⟩
termination_by d=>d
decreasing_by omega
theorem fwd_ex {E:Nat→Int} {a n:Nat} (h:Bal E n) (ha:a < n) {m:Int} (hm:0≤m):∃ j,Fwd E a n m j:=by
 obtain ⟨j,h1,h2,h3,h4⟩:=first_ex (fun i=>E i≤m) a (n - a - 1) (by show E _≤m;rw [show a+1+(n - a - 1)=n by omega,h.2];exact hm)
 exact ⟨j,h1,by omega,h3,fun k p q=>by have:=h4 k p q;omega⟩
structure Pair (E:Nat→Int) (o i:Nat):Prop where
 lt:o < i
 same:E (i+1)=E o
 above:∀ k,o < k→k≤i→E o < E k
theorem Pair.uniq {E:Nat→Int} {o i j:Nat} (h:Pair E o i) (k:Pair E o j):i=j:=by
 rcases Nat.lt_trichotomy i j with x | x | x
 ·have:=k.above (i+1) (by have:=h.lt;omega) x;have:=h.same;omega
 ·exact x
 ·have:=h.above (j+1) (by have:=k.lt;omega) x;have:=k.same;omega
theorem Pair.uniq' {E:Nat→Int} {o p i:Nat} (h:Pair E o i) (k:Pair E p i):o=p:=by
 rcases Nat.lt_trichotomy o p with x | x | x
 ·have:=h.above p x (by have:=k.lt;omega);have:=h.same;have:=k.same;omega
 ·exact x
 ·have:=k.above o x (by have:=h.lt;omega);have:=h.same;have:=k.same;omega
theorem Pair.opens {E:Nat→Int} (hE:Exc E) {o i:Nat} (h:Pair E o i):E (o+1)=E o+1:=by
 have:=h.above (o+1) (by omega) (by have:=h.lt;omega)
 rcases hE.step o with x | x <;> omega
theorem Pair.closes {E:Nat→Int} (hE:Exc E) {o i:Nat} (h:Pair E o i):E (i+1)=E i - 1:=by
 have:=h.above i h.lt (Nat.le_refl _)
 have:=h.same
 rcases hE.step i with x | x <;> omega
theorem Fwd.pair {E:Nat→Int} (hE:Exc E) {n i j:Nat} (ho:E (i+1)=E i+1) (h:Fwd E i n (E i) j):Pair E i (j - 1):=by
 have h1:=h.lt
 have hne:j≠i+1:=fun e=>by have:=h.at_;rw [e] at this;omega
 refine ⟨by omega,?_,fun k p q=>h.above k p (by omega)⟩
 rw [show j - 1+1=j by omega]
 have h2:=h.above (j - 1) (by omega) (by omega)
 have h3:=h.at_
 have h4:=hE.step (j - 1)
 rw [show j - 1+1=j by omega] at h4
 omega
def RoundOK (E:Nat→Int) (i:Nat) (z:Int):Prop :=
 ∀ a,(E (i+1)=E i+1∧a=i∨E (i+1)=E i - 1∧a=i+1)→if E a=0 then z=-1 else ∃ j:Nat,z=(j:Int)∧Bwd E a (E a - 1) j
def Stack (E:Nat→Int) (i:Nat) (s:List Nat):Prop:=(s.length:Int)=E i∧∀ j,j < s.length→s.getD j 0 < i∧E (s.getD j 0)=(j:Int)∧∀ k,s.getD j 0 < k→k≤i→(j:Int) < E k
theorem Stack.nil {E:Nat→Int} (hE:Exc E):Stack E 0 []:=⟨by rw [hE.zero];rfl,fun j hj=>by simp at hj⟩
theorem getD_snoc (s:List Nat) (x j:Nat):(s++[x]).getD j 0=if j < s.length then s.getD j 0 else if j=s.length then x else 0:=by
 by_cases h:j < s.length
 ·rw [if_pos h,List.getD_eq_getElem?_getD,List.getElem?_append_left h,← List.getD_eq_getElem?_getD]
 ·rw [if_neg h,List.getD_eq_getElem?_getD,List.getElem?_append_right (by omega)]
  by_cases e:j=s.length
  ·rw [if_pos e,e,Nat.sub_self];rfl
  ·rw [if_neg e,List.getElem?_eq_none (by simp;omega)];rfl
theorem Stack.push {E:Nat→Int} {i:Nat} {s:List Nat} (h:Stack E i s) (ho:E (i+1)=E i+1):Stack E (i+1) (s++[i]):=by
 refine ⟨by have:=h.1;simp;omega,fun j hj=>?_⟩
 rw [getD_snoc]
 simp only [List.length_append,List.length_cons,List.length_nil] at hj
 by_cases hlt:j < s.length
 ·rw [if_pos hlt]
  obtain ⟨h1,h2,h3⟩:=h.2 j hlt
  refine ⟨by omega,h2,fun k p q=>?_⟩
  by_cases e:k=i+1
  ·have:=h.1;rw [e];omega
  ·exact h3 k p (by omega)
 ·rw [if_neg hlt,if_pos (by omega)]
  have h1:=h.1
  refine ⟨by omega,by omega,fun k p q=>?_⟩
  obtain rfl:k=i+1:=by omega
  omega
theorem Stack.pop {E:Nat→Int} {i:Nat} {s:List Nat} (h:Stack E i s) (ho:E (i+1)=E i - 1) (h0:0 < s.length):Stack E (i+1) (s.take (s.length - 1))∧Pair E (s.getD (s.length - 1) 0) i:=by
 have hl:=h.1
 constructor
 ·refine ⟨by rw [List.length_take];omega,fun j hj=>?_⟩
  rw [List.length_take] at hj
  have e:(s.take (s.length - 1)).getD j 0=s.getD j 0:=by
   rw [List.getD_eq_getElem?_getD,List.getElem?_take,if_pos (by omega),← List.getD_eq_getElem?_getD]
  rw [e]
  obtain ⟨h1,h2,h3⟩:=h.2 j (by omega)
  refine ⟨by omega,h2,fun k p q=>?_⟩
  by_cases e:k=i+1
  ·rw [e];omega
  ·exact h3 k p (by omega)
 ·obtain ⟨h1,h2,h3⟩:=h.2 (s.length - 1) (by omega)
  refine ⟨h1,by omega,fun k p q=>by have:=h3 k p q;omega⟩
structure KnownP (E:Nat→Int) (i:Nat) (y z:Nat→Int):Prop where
 close:∀ p,p < i→E (p+1)=E p - 1→∃ o:Nat,y p=(o:Int)∧Pair E o p
 open_:∀ p,p < i→∀ q,q < i→Pair E p q→y p=(q:Int)
 round:∀ p,p < i→RoundOK E p (z p)
theorem KnownP.zero (E:Nat→Int) (y z:Nat→Int):KnownP E 0 y z:=⟨fun p h=>by omega,fun p h=>by omega,fun p h=>by omega⟩
theorem KnownP.push {E:Nat→Int} (hE:Exc E) {i:Nat} {y z z':Nat→Int} {s:List Nat} (h:KnownP E i y z) (hs:Stack E i s) (ho:E (i+1)=E i+1)
  (hz:∀ p,p≠i→z' p=z p) (hi:if s.length=0 then z' i=-1 else z' i=((s.getD (s.length - 1) 0:Nat):Int)):KnownP E (i+1) y z':=by
 refine ⟨fun p hp hc=>?_,fun p hp q hq hpq=>?_,fun p hp=>?_⟩
 ·have:p≠i:=fun e=>by subst e;omega
  exact h.close p (by omega) hc
 ·have h1:q≠i:=fun e=>by subst e;have:=hpq.closes hE;omega
  have h2:=hpq.lt
  exact h.open_ p (by omega) q (by omega) hpq
 ·by_cases e:p=i
  ·subst e
   intro a ha
   obtain rfl:a=p:=by rcases ha with x | x <;> omega
   have hl:=hs.1
   by_cases h0:s.length=0
   ·rw [if_pos h0] at hi
    rw [if_pos (by omega)]
    exact hi
   ·rw [if_neg h0] at hi
    rw [if_neg (by omega)]
    obtain ⟨h1,h2,h3⟩:=hs.2 (s.length - 1) (by omega)
    exact ⟨_,hi,h1,by omega,fun k p q=>by have:=h3 k p (by omega);omega⟩
  ·rw [hz p e];exact h.round p (by omega)
theorem KnownP.pop {E:Nat→Int} (hE:Exc E) {i o:Nat} {y z y' z':Nat→Int} (h:KnownP E i y z) (hp:Pair E o i)
  (hy:∀ p,p≠i→p≠o→y' p=y p) (hyi:y' i=(o:Int)) (hyo:y' o=(i:Int)) (hz:∀ p,p≠i→z' p=z p) (hzi:z' i=z o):KnownP E (i+1) y' z':=by
 have hc:=hp.closes hE
 have hop:=hp.opens hE
 have hlt:=hp.lt
 refine ⟨fun p hp' hc'=>?_,fun p hp' q hq hpq=>?_,fun p hp'=>?_⟩
 ·by_cases e:p=i
  ·subst e;exact ⟨o,hyi,hp⟩
  ·have:p≠o:=fun e=>by subst e;omega
   rw [hy p e this];exact h.close p (by omega) hc'
 ·by_cases e:p=o
  ·subst e
   rw [hyo,hp.uniq hpq]
  ·have h1:q≠i:=fun e'=>by subst e';exact e (hpq.uniq' hp)
   have h2:p≠i:=fun e'=>by subst e';have:=hpq.opens hE;omega
   have h3:=hpq.lt
   rw [hy p h2 e];exact h.open_ p (by omega) q (by omega) hpq
 ·by_cases e:p=i
  ·subst e
   intro a ha
   obtain rfl:a=p+1:=by rcases ha with x | x <;> omega
   rw [hzi,hp.same]
   have hr:=h.round o hlt o (.inl ⟨hop,rfl⟩)
   by_cases h0:E o=0
   ·rw [if_pos h0] at hr ⊢;exact hr
   ·rw [if_neg h0] at hr ⊢
    obtain ⟨j,hj,hb⟩:=hr
    exact ⟨j,hj,hb.on (by omega) fun k h1 h2=>by
     by_cases e:k=o
     ·rw [e];omega
     ·have:=hp.above k (by omega) (by omega);omega⟩
  ·rw [hz p e];exact h.round p (by omega)
def MateOK (E:Nat→Int) (i:Nat) (y:Int):Prop:=∃ q:Nat,y=(q:Int)∧(Pair E i q∨Pair E q i)
theorem MateOK.uniq {E:Nat→Int} (hE:Exc E) {i:Nat} {y z:Int} (h:MateOK E i y) (k:MateOK E i z):y=z:=by
 obtain ⟨p,rfl,hp⟩:=h
 obtain ⟨q,rfl,hq⟩:=k
 rcases hp with hp | hp <;> rcases hq with hq | hq
 ·rw [hp.uniq hq]
 ·have:=hp.opens hE;have:=hq.closes hE;omega
 ·have:=hp.closes hE;have:=hq.opens hE;omega
 ·rw [hp.uniq' hq]
theorem MateOK.back {E:Nat→Int} {i q:Nat} (h:MateOK E i (q:Int)):MateOK E q (i:Int):=by
 obtain ⟨p,hp,h⟩:=h
 obtain rfl:q=p:=by omega
 exact ⟨i,rfl,h.symm⟩
theorem KnownP.done {E:Nat→Int} (hE:Exc E) {n:Nat} {y z:Nat→Int} (h:KnownP E n y z) (hb:Bal E n) (i:Nat) (hi:i < n):MateOK E i (y i)∧RoundOK E i (z i):=by
 refine ⟨?_,h.round i hi⟩
 rcases hE.step i with x | x
 ·obtain ⟨j,hj⟩:=fwd_ex hb hi (hb.1 i (by omega))
  have hp:=hj.pair hE x
  have h1:=hj.le
  have h2:=hj.lt
  exact ⟨j - 1,h.open_ i hi (j - 1) (by omega) hp,.inl hp⟩
 ·obtain ⟨o,ho,hp⟩:=h.close i hi x
  exact ⟨o,ho,.inr hp⟩
set_option maxRecDepth 20000
section
variable (w:World)
end
section
variable (w:World)
end
end Go.Proofs.YtdinmjciippchaaGreat
