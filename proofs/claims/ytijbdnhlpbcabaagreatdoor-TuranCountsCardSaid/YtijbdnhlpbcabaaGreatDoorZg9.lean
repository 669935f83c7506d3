/- Excesses: how many more open than close ahead of a place; the least of a run; nodes of blocks in a row. -/
import Derived.Lib.Hide
import Derived.Test.YtijbdnhlpbcabaaGreatDoorZg1
import Derived.Laws.CopyOwn
set_option linter.unusedVariables false
open Go.RowKit
namespace Go.Proofs.YtijbdnhlpbcabaaGreatDoor
structure Exc (E:Nat→Int):Prop where
 zero:E 0=0
 step:∀ i,E (i+1)=E i+1∨E (i+1)=E i - 1
theorem Exc.bound {E:Nat→Int} (h:Exc E) (i:Nat):-(i:Int)≤E i∧E i≤(i:Int):=by
 induction i with
 | zero=>rw [h.zero];exact ⟨by omega,by omega⟩
 | succ i ih=>have:=h.step i;omega
def mn (E:Nat→Int) (a:Nat):Nat→Int
 | 0=>E a
 | k+1=>min (mn E a k) (E (a+k+1))
theorem mn_le (E:Nat→Int) (a:Nat):∀ k i,a≤i→i≤a+k→mn E a k≤E i
 | 0,i,h1,h2=>by obtain rfl:a=i:=by omega
                 exact Int.le_refl _
 | k+1,i,h1,h2=>by
   unfold mn
   by_cases h:i=a+k+1
   ·subst h;omega
   ·have:=mn_le E a k i h1 (by omega);omega
theorem mn_at (E:Nat→Int) (a:Nat):∀ k,∃ i,a≤i∧i≤a+k∧mn E a k=E i
 | 0=>⟨a,by omega,by omega,rfl⟩
 | k+1=>by
   obtain ⟨i,h1,h2,h3⟩:=mn_at E a k
   unfold mn
   by_cases h:mn E a k≤E (a+k+1)
   ·exact ⟨i,h1,by omega,by omega⟩
   ·exact ⟨a+k+1,by omega,by omega,by omega⟩
theorem mn_iff (E:Nat→Int) (a k:Nat) (m:Int):mn E a k≤m↔∃ i,a≤i∧i≤a+k∧E i≤m :=
 ⟨fun h=>by obtain ⟨i,h1,h2,h3⟩:=mn_at E a k;exact ⟨i,h1,h2,by omega⟩,
  fun ⟨i,h1,h2,h3⟩=>by have:=mn_le E a k i h1 h2;omega⟩
theorem mn_join (E:Nat→Int) (a j:Nat):∀ k,mn E a (j+k)=min (mn E a j) (mn E (a+j) k)
 | 0=>by
   have:=mn_le E a j (a+j) (by omega) (by omega)
   show mn E a j=min (mn E a j) (E (a+j))
   omega
 | k+1=>by
   have ih:=mn_join E a j k
   show min (mn E a (j+k)) (E (a+(j+k)+1))=min (mn E a j) (min (mn E (a+j) k) (E (a+j+k+1)))
   rw [ih,show a+(j+k)+1=a+j+k+1 by omega]
   omega
def nul:Int × Int:=(0,2147483647)
def nd (E:Nat→Int) (n a b:Nat):Int × Int :=
 if n≤512*a∨b≤a then nul else (E (min (512*b) n) - E (512*a),mn E (512*a) (min (512*b) n - 512*a) - E (512*a))
def joinN (a b:Int × Int):Int × Int:=if b=nul then a else (a.1+b.1,min a.2 (a.1+b.2))
theorem nd_nul {E:Nat→Int} {n a b:Nat} (h:n≤512*a∨b≤a):nd E n a b=nul:=by unfold nd;rw [if_pos h]
theorem nd_real {E:Nat→Int} {n a b:Nat} (h1:512*a < n) (h2:a < b):nd E n a b=(E (min (512*b) n) - E (512*a),mn E (512*a) (min (512*b) n - 512*a) - E (512*a)):=by
 unfold nd;rw [if_neg (by omega)]
theorem nd_low {E:Nat→Int} {n a b:Nat} (h1:512*a < n) (h2:a < b):(nd E n a b).2≤0:=by
 rw [nd_real h1 h2]
 have:=mn_le E (512*a) (min (512*b) n - 512*a) (512*a) (by omega) (by omega)
 show _ - _≤(0:Int)
 omega
theorem nd_ne {E:Nat→Int} {n a b:Nat} (h1:512*a < n) (h2:a < b):nd E n a b≠nul:=fun e=>by
 have:=nd_low (E:=E) h1 h2
 rw [e] at this
 exact absurd this (by decide)
theorem nd_join (E:Nat→Int) (n a b c:Nat) (hab:a≤b) (hbc:b≤c):joinN (nd E n a b) (nd E n b c)=nd E n a c:=by
 by_cases h1:n≤512*b∨c≤b
 ·rw [nd_nul h1]
  unfold joinN
  rw [if_pos rfl]
  by_cases h2:n≤512*a∨b≤a
  ·rw [nd_nul h2]
   by_cases h3:n≤512*a∨c≤a
   ·rw [nd_nul h3]
   ·exfalso;omega
  ·rw [nd_real (by omega) (by omega),nd_real (by omega) (by omega)]
   have e:min (512*b) n=min (512*c) n:=by omega
   rw [e]
 ·have hne:=nd_ne (E:=E) (n:=n) (a:=b) (b:=c) (by omega) (by omega)
  unfold joinN
  rw [if_neg hne]
  by_cases h2:b≤a
  ·obtain rfl:a=b:=by omega
   have hl:=nd_low (E:=E) (n:=n) (a:=a) (b:=c) (by omega) (by omega)
   rw [nd_nul (E:=E) (n:=n) (a:=a) (b:=a) (.inr (Nat.le_refl _))]
   have e1:(nul.1+(nd E n a c).1)=(nd E n a c).1:=by show (0:Int)+_=_;omega
   have e2:min nul.2 (nul.1+(nd E n a c).2)=(nd E n a c).2:=by show min (2147483647:Int) ((0:Int)+_)=_;omega
   rw [e1,e2]
  ·rw [nd_real (a:=a) (b:=b) (by omega) (by omega),nd_real (a:=b) (b:=c) (by omega) (by omega),nd_real (a:=a) (b:=c) (by omega) (by omega)]
   have e:min (512*b) n=512*b:=by omega
   rw [e]
   have hj:=mn_join E (512*a) (512*b - 512*a) (min (512*c) n - 512*b)
   rw [show 512*b - 512*a+(min (512*c) n - 512*b)=min (512*c) n - 512*a by omega,show 512*a+(512*b - 512*a)=512*b by omega] at hj
   simp only [Prod.mk.injEq]
   exact ⟨by omega,by omega⟩
theorem nd_bound {E:Nat→Int} (h:Exc E) {n:Nat} (hn:n≤1000000) (a b:Nat):-2000000≤(nd E n a b).1∧(nd E n a b).1≤2000000∧-2000000≤(nd E n a b).2∧(nd E n a b).2≤2147483647:=by
 by_cases h1:n≤512*a∨b≤a
 ·rw [nd_nul h1];unfold nul;exact ⟨by decide,by decide,by decide,by decide⟩
 ·have hl:=nd_low (E:=E) (n:=n) (a:=a) (b:=b) (by omega) (by omega)
  rw [nd_real (by omega) (by omega)] at hl ⊢
  obtain ⟨i,i1,i2,i3⟩:=mn_at E (512*a) (min (512*b) n - 512*a)
  have b1:=h.bound (min (512*b) n)
  have b2:=h.bound (512*a)
  have b3:=h.bound i
  simp only at hl ⊢
  exact ⟨by omega,by omega,by omega,by omega⟩
def Has (E:Nat→Int) (n a b:Nat) (m:Int):Prop:=∃ i,512*a≤i∧i≤min (512*b) n∧E i≤m
theorem has_iff {E:Nat→Int} {n a b:Nat} (h1:512*a < n) (h2:a < b) (m:Int):E (512*a)+(nd E n a b).2≤m↔Has E n a b m:=by
 rw [nd_real h1 h2]
 show E (512*a)+(mn E (512*a) _ - E (512*a))≤m↔_
 rw [show E (512*a)+(mn E (512*a) (min (512*b) n - 512*a) - E (512*a))=mn E (512*a) (min (512*b) n - 512*a) by omega,mn_iff]
 unfold Has
 exact ⟨fun ⟨i,x,y,z⟩=>⟨i,x,by omega,z⟩,fun ⟨i,x,y,z⟩=>⟨i,x,by omega,z⟩⟩
theorem has_back {E:Nat→Int} {n a b:Nat} (h1:512*a < n) (h2:a < b) (m:Int):E (min (512*b) n) - (nd E n a b).1+(nd E n a b).2≤m↔Has E n a b m:=by
 rw [← has_iff h1 h2]
 rw [nd_real h1 h2]
 show E (min (512*b) n) - (E (min (512*b) n) - E (512*a))+_≤m↔_
 rw [show E (min (512*b) n) - (E (min (512*b) n) - E (512*a))=E (512*a) by omega]
theorem nd_end {E:Nat→Int} {n a b:Nat} (h1:512*a < n) (h2:a < b):E (512*a)+(nd E n a b).1=E (min (512*b) n):=by
 rw [nd_real h1 h2]
 show E (512*a)+(E (min (512*b) n) - E (512*a))=_
 omega
def TreeOK (E:Nat→Int) (n H:Nat) (T:Nat→Int × Int):Prop:=∀ x h a,h≤H→x*2 ^ h=2 ^ H+a→a < 2 ^ H→T x=nd E n a (a+2 ^ h)
theorem pow_up (h:Nat):2 ^ (h+1)=2*2 ^ h:=by rw [Nat.pow_succ];omega
theorem node_kids {H h x a:Nat} (hh:h+1≤H) (hx:x*2 ^ (h+1)=2 ^ H+a) (ha:a < 2 ^ H) :
  (2*x)*2 ^ h=2 ^ H+a∧(2*x+1)*2 ^ h=2 ^ H+(a+2 ^ h)∧a+2 ^ h < 2 ^ H:=by
 have e:(2*x)*2 ^ h=x*2 ^ (h+1):=by rw [pow_up,← Nat.mul_assoc,Nat.mul_comm 2 x]
 refine ⟨by rw [e,hx],by rw [Nat.add_mul,e,hx];omega,?_⟩
 obtain ⟨d,rfl⟩:∃ d,H=h+1+d:=⟨H - (h+1),by omega⟩
 have e2:2 ^ (h+1+d)=2 ^ d*2 ^ (h+1):=by rw [Nat.pow_add,Nat.mul_comm]
 rw [e2] at hx ha ⊢
 have hp:0 < 2 ^ h:=Nat.two_pow_pos h
 rw [pow_up] at *
 generalize 2 ^ h=P at *
 generalize 2 ^ d=D at *
 have h1:x*(2*P) < 2*(D*(2*P)):=by omega
 have h2:x < 2*D:=by
  rcases Nat.lt_or_ge x (2*D) with h | h
  ·exact h
  ·have:=Nat.mul_le_mul_right (2*P) h
   rw [Nat.mul_assoc] at this;omega
 have h3:(x+1)*(2*P)≤2*D*(2*P):=Nat.mul_le_mul_right _ h2
 rw [Nat.add_mul,Nat.mul_assoc] at h3
 omega
theorem node_end {H h x a:Nat} (hh:h≤H) (hx:x*2 ^ h=2 ^ H+a) (ha:a < 2 ^ H):a+2 ^ h≤2 ^ H∧1≤x∧x < 2*2 ^ H:=by
 cases h with
 | zero=>simp at hx ⊢;omega
 | succ h =>
   have k:=node_kids hh hx ha
   have hp:0 < 2 ^ h:=Nat.two_pow_pos h
   have h1:x*1≤x*2 ^ (h+1):=Nat.mul_le_mul_left _ (Nat.two_pow_pos _)
   refine ⟨?_,?_,by omega⟩
   ·have hd:2 ^ (h+1)=2*2 ^ h:=pow_up h
    obtain ⟨d,rfl⟩:∃ d,H=h+1+d:=⟨H - (h+1),by omega⟩
    have e2:2 ^ (h+1+d)=2 ^ d*2 ^ (h+1):=by rw [Nat.pow_add,Nat.mul_comm]
    rw [e2,hd] at hx ha ⊢
    generalize 2 ^ h=P at *
    generalize 2 ^ d=D at *
    have h2:x < 2*D:=by
     rcases Nat.lt_or_ge x (2*D) with h | h
     ·exact h
     ·have:=Nat.mul_le_mul_right (2*P) h
      rw [Nat.mul_assoc] at this;omega
    have h3:(x+1)*(2*P)≤2*D*(2*P):=Nat.mul_le_mul_right _ h2
    rw [Nat.add_mul,Nat.mul_assoc] at h3
    omega
   ·rcases Nat.eq_zero_or_pos x with h0 | h0
    ·subst h0;have:=Nat.two_pow_pos H;omega
    ·exact h0
theorem node_ex (H:Nat):∀ x,1≤x→x < 2*2 ^ H→∃ h a,h≤H∧x*2 ^ h=2 ^ H+a∧a < 2 ^ H:=by
 induction H with
 | zero=>intro x h1 h2;obtain rfl:x=1:=by simp at h2;omega
         exact ⟨0,0,Nat.le_refl _,rfl,by decide⟩
 | succ H ih =>
   intro x h1 h2
   have hd:=pow_up H
   rcases Nat.lt_or_ge x (2*2 ^ H) with h | h
   ·obtain ⟨k,a,p1,p2,p3⟩:=ih x h1 h
    refine ⟨k+1,2*a,by omega,?_,by omega⟩
    rw [pow_up,Nat.mul_left_comm,p2];omega
   ·exact ⟨0,x - 2 ^ (H+1),by omega,by rw [Nat.pow_zero];omega,by omega⟩
theorem up_forth {H h x a:Nat} (hx:x*2 ^ h=2 ^ H+a) (ha:a < 2 ^ H) (hh:h≤H) (ho:x%2=1) (he:a+2 ^ h < 2 ^ H) :
  ∃ a',(x / 2)*2 ^ (h+1)=2 ^ H+a'∧a'+2 ^ (h+1)=a+2 ^ h∧h+1≤H∧a' < 2 ^ H:=by
 have hp:0 < 2 ^ h:=Nat.two_pow_pos h
 have e:x=2*(x / 2)+1:=by omega
 have hd:=pow_up h
 have hlt:h < H:=by
  rcases Nat.lt_or_ge h H with k | k
  ·exact k
  ·obtain rfl:h=H:=by omega
   omega
 obtain ⟨d,rfl⟩:∃ d,H=h+1+d:=⟨H - (h+1),by omega⟩
 have e2:2 ^ (h+1+d)=2 ^ d*(2*2 ^ h):=by rw [Nat.pow_add,Nat.mul_comm,hd]
 rw [e2] at hx ha he ⊢
 rw [hd]
 generalize 2 ^ h=P at *
 have hdp:0 < 2 ^ d:=Nat.two_pow_pos d
 generalize 2 ^ d=D at *
 generalize x / 2=y at *
 rw [e,Nat.add_mul,Nat.mul_right_comm,Nat.one_mul] at hx
 have e4:y*(2*P)=2*P*y:=Nat.mul_comm _ _
 rw [Nat.mul_comm (2*P) y] at *
 have hy:D≤y:=by
  rcases Nat.lt_or_ge y D with k | k
  ·have:=Nat.mul_le_mul_right (2*P) (show y+1≤D by omega)
   rw [Nat.add_mul] at this;omega
  ·exact k
 have h3:=Nat.mul_le_mul_right (2*P) hy
 exact ⟨y*(2*P) - D*(2*P),by omega,by omega,by omega,by omega⟩
theorem up_back {H h x a:Nat} (hx:x*2 ^ h=2 ^ H+a) (ha:a < 2 ^ H) (hh:h≤H) (ho:x%2=0) (he:0 < a) :
  (x / 2)*2 ^ (h+1)=2 ^ H+a∧h+1≤H:=by
 have e:x=2*(x / 2):=by omega
 have hd:=pow_up h
 constructor
 ·rw [hd,← Nat.mul_assoc,Nat.mul_comm _ 2,← e,hx]
 ·rcases Nat.lt_or_ge h H with k | k
  ·omega
  ·obtain rfl:h=H:=by omega
   exfalso
   have hp:0 < 2 ^ h:=Nat.two_pow_pos h
   generalize x / 2=y at *
   subst e
   generalize 2 ^ h=P at *
   rw [Nat.mul_right_comm] at hx
   have:y=0∨1≤y:=by omega
   rcases this with rfl | hy
   ·simp at hx;omega
   ·have:=Nat.mul_le_mul_right (2*P) hy
    rw [Nat.mul_comm y (2*P)] at this
    omega
def Bal (E:Nat→Int) (n:Nat):Prop:=(∀ i,i≤n→0≤E i)∧E n=0
structure Fwd (E:Nat→Int) (a n:Nat) (m:Int) (j:Nat):Prop where
 lt:a < j
 le:j≤n
 at_:E j≤m
 above:∀ k,a < k→k < j→m < E k
structure Bwd (E:Nat→Int) (a:Nat) (m:Int) (j:Nat):Prop where
 lt:j < a
 at_:E j≤m
 above:∀ k,j < k→k < a→m < E k
theorem Bwd.uniq {E:Nat→Int} {a:Nat} {m:Int} {i j:Nat} (h:Bwd E a m i) (k:Bwd E a m j):i=j:=by
 rcases Nat.lt_trichotomy i j with x | x | x
 ·have:=h.above j x k.lt;have:=k.at_;omega
 ·exact x
 ·have:=k.above i x h.lt;have:=h.at_;omega
theorem Fwd.on {E:Nat→Int} {a b n:Nat} {m:Int} {j:Nat} (h:Fwd E b n m j) (hab:a≤b) (hb:∀ k,a < k→k≤b→m < E k):Fwd E a n m j :=
 ⟨by have:=h.lt;omega,h.le,h.at_,fun k h1 h2=>by
  rcases Nat.lt_or_ge b k with x | x
  ·exact h.above k x h2
  ·exact hb k h1 x⟩
theorem Bwd.on {E:Nat→Int} {a b:Nat} {m:Int} {j:Nat} (h:Bwd E b m j) (hab:b≤a) (hb:∀ k,b≤k→k < a→m < E k):Bwd E a m j :=
 ⟨by have:=h.lt;omega,h.at_,fun k h1 h2=>by
  rcases Nat.lt_or_ge k b with x | x
  ·exact h.above k h1 x
  ·exact hb k x h2⟩
theorem first_ex (P:Nat→Prop) (a:Nat):∀ d,P (a+1+d)→∃ j,a < j∧j≤a+1+d∧P j∧∀ k,a < k→k < j→¬ P k
 | 0,h=>⟨a+1,by omega,by omega,h,fun k h1 h2=>by omega⟩
 | d+1,h=>by
   by_cases hx:∃ i,a < i∧i≤a+1+d∧P i
   ·obtain ⟨i,h1,h2,h3⟩:=hx
    have:=first_ex P a (i - a - 1) (by rw [show a+1+(i - a - 1)=i by omega];exact h3)
    obtain ⟨j,p1,p2,p3,p4⟩:=this
    exact ⟨j,p1,by omega,p3,p4⟩
   ·refine ⟨a+1+(d+1),by omega,by omega,h,fun k h1 h2 hk=>hx ⟨k,h1,by omega,hk⟩⟩
termination_by d=>d
decreasing_by omega
theorem fwd_ex {E:Nat→Int} {a n:Nat} (h:Bal E n) (ha:a < n) {m:Int} (hm:0≤m):∃ j,Fwd E a n m j:=by
 obtain ⟨j,h1,h2,h3,h4⟩:=first_ex (fun i=>E i≤m) a (n - a - 1) (by show E _≤m;rw [show a+1+(n - a - 1)=n by omega,h.2];exact hm)
 exact ⟨j,h1,by omega,h3,fun k p q=>by have:=h4 k p q;omega⟩
theorem bwd_ex {E:Nat→Int} (hE:Exc E) {a:Nat} (ha:0 < a) {m:Int} (hm:0≤m):∃ j,Bwd E a m j:=by
 have:∀ d a,0 < a→d=a→∃ j,Bwd E a m j:=by
  intro d
  induction d with
  | zero=>intro a h1 h2;omega
  | succ d ih =>
    intro a h1 h2
    by_cases hx:E (a - 1)≤m
    ·exact ⟨a - 1,by omega,hx,fun k p q=>by omega⟩
    ·have h0:a≠1:=fun e=>by subst e;apply hx;rw [show 1 - 1=0 from rfl,hE.zero];exact hm
     obtain ⟨j,hj⟩:=ih (a - 1) (by omega) (by omega)
     exact ⟨j,hj.on (by omega) fun k p q=>by obtain rfl:k=a - 1:=by omega
                                             omega⟩
 exact this a a ha rfl
structure Pair (E:Nat→Int) (o i:Nat):Prop where
 lt:o < i
 same:E (i+1)=E o
 above:∀ k,o < k→k≤i→E o < E k
theorem Pair.uniq {E:Nat→Int} {o i j:Nat} (h:Pair E o i) (k:Pair E o j):i=j:=by
 rcases Nat.lt_trichotomy i j with x | x | x
 ·have:=k.above (i+1) (by have:=h.lt;omega) x;have:=h.same;omega
 ·exact x
 ·have:=h.above (j+1) (by have:=k.lt;omega) x;have:=k.same;omega
theorem Pair.uniq' {E:Nat→Int} {o p i:Nat} (h:Pair E o i) (k:Pair E p i):o=p:=by
 rcases Nat.lt_trichotomy o p with x | x | x
 ·have:=h.above p x (by have:=k.lt;omega);have:=h.same;have:=k.same;omega
 ·exact x
 ·have:=k.above o x (by have:=h.lt;omega);have:=h.same;have:=k.same;omega
theorem Pair.opens {E:Nat→Int} (hE:Exc E) {o i:Nat} (h:Pair E o i):E (o+1)=E o+1:=by
 have:=h.above (o+1) (by omega) (by have:=h.lt;omega)
 rcases hE.step o with x | x <;> omega
theorem Pair.closes {E:Nat→Int} (hE:Exc E) {o i:Nat} (h:Pair E o i):E (i+1)=E i - 1:=by
 have:=h.above i h.lt (Nat.le_refl _)
 have:=h.same
 rcases hE.step i with x | x <;> omega
theorem Fwd.pair {E:Nat→Int} (hE:Exc E) {n i j:Nat} (ho:E (i+1)=E i+1) (h:Fwd E i n (E i) j):Pair E i (j - 1):=by
 have h1:=h.lt
 have hne:j≠i+1:=fun e=>by have:=h.at_;rw [e] at this;omega
 refine ⟨by omega,?_,fun k p q=>h.above k p (by omega)⟩
 rw [show j - 1+1=j by omega]
 have h2:=h.above (j - 1) (by omega) (by omega)
 have h3:=h.at_
 have h4:=hE.step (j - 1)
 rw [show j - 1+1=j by omega] at h4
 omega
theorem Bwd.pair {E:Nat→Int} (hE:Exc E) {i j:Nat} (ho:E (i+1)=E i - 1) (h:Bwd E (i+1) (E (i+1)) j):Pair E j i:=by
 have h1:=h.lt
 have hne:j≠i:=fun e=>by have:=h.at_;rw [e] at this;omega
 have h2:=h.above (j+1) (by omega) (by omega)
 have h3:=h.at_
 have h4:=hE.step j
 refine ⟨by omega,by omega,fun k p q=>by have:=h.above k p (by omega);omega⟩
def RoundOK (E:Nat→Int) (i:Nat) (z:Int):Prop :=
 ∀ a,(E (i+1)=E i+1∧a=i∨E (i+1)=E i - 1∧a=i+1)→if E a=0 then z=-1 else ∃ j:Nat,z=(j:Int)∧Bwd E a (E a - 1) j
theorem RoundOK.uniq {E:Nat→Int} (hE:Exc E) {i:Nat} {y z:Int} (h:RoundOK E i y) (k:RoundOK E i z):y=z:=by
 have:∃ a,E (i+1)=E i+1∧a=i∨E (i+1)=E i - 1∧a=i+1:=by
  rcases hE.step i with x | x
  ·exact ⟨i,.inl ⟨x,rfl⟩⟩
  ·exact ⟨i+1,.inr ⟨x,rfl⟩⟩
 obtain ⟨a,ha⟩:=this
 have h1:=h a ha
 have k1:=k a ha
 by_cases e:E a=0
 ·rw [if_pos e] at h1 k1;omega
 ·rw [if_neg e] at h1 k1
  obtain ⟨p,rfl,hp⟩:=h1
  obtain ⟨q,rfl,hq⟩:=k1
  rw [hp.uniq hq]
def Stack (E:Nat→Int) (i:Nat) (s:List Nat):Prop:=(s.length:Int)=E i∧∀ j,j < s.length→s.getD j 0 < i∧E (s.getD j 0)=(j:Int)∧∀ k,s.getD j 0 < k→k≤i→(j:Int) < E k
theorem Stack.nil {E:Nat→Int} (hE:Exc E):Stack E 0 []:=⟨by rw [hE.zero];rfl,fun j hj=>by simp at hj⟩
theorem getD_snoc (s:List Nat) (x j:Nat):(s++[x]).getD j 0=if j < s.length then s.getD j 0 else if j=s.length then x else 0:=by
 by_cases h:j < s.length
 ·rw [if_pos h,List.getD_eq_getElem?_getD,List.getElem?_append_left h,← List.getD_eq_getElem?_getD]
 ·rw [if_neg h,List.getD_eq_getElem?_getD,List.getElem?_append_right (by omega)]
  by_cases e:j=s.length
  ·rw [if_pos e,e,Nat.sub_self];rfl
  ·rw [if_neg e,List.getElem?_eq_none (by simp;omega)];rfl
theorem Stack.push {E:Nat→Int} {i:Nat} {s:List Nat} (h:Stack E i s) (ho:E (i+1)=E i+1):Stack E (i+1) (s++[i]):=by
 refine ⟨by have:=h.1;simp;omega,fun j hj=>?_⟩
 rw [getD_snoc]
 simp only [List.length_append,List.length_cons,List.length_nil] at hj
 by_cases hlt:j < s.length
 ·rw [if_pos hlt]
  obtain ⟨h1,h2,h3⟩:=h.2 j hlt
  refine ⟨by omega,h2,fun k p q=>?_⟩
  by_cases e:k=i+1
  ·have:=h.1;rw [e];omega
  ·exact h3 k p (by omega)
 ·rw [if_neg hlt,if_pos (by omega)]
  have h1:=h.1
  refine ⟨by omega,by omega,fun k p q=>?_⟩
  obtain rfl:k=i+1:=by omega
  omega
theorem Stack.pop {E:Nat→Int} {i:Nat} {s:List Nat} (h:Stack E i s) (ho:E (i+1)=E i - 1) (h0:0 < s.length):Stack E (i+1) (s.take (s.length - 1))∧Pair E (s.getD (s.length - 1) 0) i:=by
 have hl:=h.1
 constructor
 ·refine ⟨by rw [List.length_take];omega,fun j hj=>?_⟩
  rw [List.length_take] at hj
  have e:(s.take (s.length - 1)).getD j 0=s.getD j 0:=by
   rw [List.getD_eq_getElem?_getD,List.getElem?_take,if_pos (by omega),← List.getD_eq_getElem?_getD]
  rw [e]
  obtain ⟨h1,h2,h3⟩:=h.2 j (by omega)
  refine ⟨by omega,h2,fun k p q=>?_⟩
  by_cases e:k=i+1
  ·rw [e];omega
  ·exact h3 k p (by omega)
 ·obtain ⟨h1,h2,h3⟩:=h.2 (s.length - 1) (by omega)
  refine ⟨h1,by omega,fun k p q=>by have:=h3 k p q;omega⟩
structure KnownP (E:Nat→Int) (i:Nat) (y z:Nat→Int):Prop where
 close:∀ p,p < i→E (p+1)=E p - 1→∃ o:Nat,y p=(o:Int)∧Pair E o p
 open_:∀ p,p < i→∀ q,q < i→Pair E p q→y p=(q:Int)
 round:∀ p,p < i→RoundOK E p (z p)
theorem KnownP.zero (E:Nat→Int) (y z:Nat→Int):KnownP E 0 y z:=⟨fun p h=>by omega,fun p h=>by omega,fun p h=>by omega⟩
theorem KnownP.push {E:Nat→Int} (hE:Exc E) {i:Nat} {y z z':Nat→Int} {s:List Nat} (h:KnownP E i y z) (hs:Stack E i s) (ho:E (i+1)=E i+1)
  (hz:∀ p,p≠i→z' p=z p) (hi:if s.length=0 then z' i=-1 else z' i=((s.getD (s.length - 1) 0:Nat):Int)):KnownP E (i+1) y z':=by
 refine ⟨fun p hp hc=>?_,fun p hp q hq hpq=>?_,fun p hp=>?_⟩
 ·have:p≠i:=fun e=>by subst e;omega
  exact h.close p (by omega) hc
 ·have h1:q≠i:=fun e=>by subst e;have:=hpq.closes hE;omega
  have h2:=hpq.lt
  exact h.open_ p (by omega) q (by omega) hpq
 ·by_cases e:p=i
  ·subst e
   intro a ha
   obtain rfl:a=p:=by rcases ha with x | x <;> omega
   have hl:=hs.1
   by_cases h0:s.length=0
   ·rw [if_pos h0] at hi
    rw [if_pos (by omega)]
    exact hi
   ·rw [if_neg h0] at hi
    rw [if_neg (by omega)]
    obtain ⟨h1,h2,h3⟩:=hs.2 (s.length - 1) (by omega)
    exact ⟨_,hi,h1,by omega,fun k p q=>by have:=h3 k p (by omega);omega⟩
  ·rw [hz p e];exact h.round p (by omega)
theorem KnownP.pop {E:Nat→Int} (hE:Exc E) {i o:Nat} {y z y' z':Nat→Int} (h:KnownP E i y z) (hp:Pair E o i)
  (hy:∀ p,p≠i→p≠o→y' p=y p) (hyi:y' i=(o:Int)) (hyo:y' o=(i:Int)) (hz:∀ p,p≠i→z' p=z p) (hzi:z' i=z o):KnownP E (i+1) y' z':=by
 have hc:=hp.closes hE
 have hop:=hp.opens hE
 have hlt:=hp.lt
 refine ⟨fun p hp' hc'=>?_,fun p hp' q hq hpq=>?_,fun p hp'=>?_⟩
 ·by_cases e:p=i
  ·subst e;exact ⟨o,hyi,hp⟩
  ·have:p≠o:=fun e=>by subst e;omega
   rw [hy p e this];exact h.close p (by omega) hc'
 ·by_cases e:p=o
  ·subst e
   rw [hyo,hp.uniq hpq]
  ·have h1:q≠i:=fun e'=>by subst e';exact e (hpq.uniq' hp)
   have h2:p≠i:=fun e'=>by subst e';have:=hpq.opens hE;omega
   have h3:=hpq.lt
   rw [hy p h2 e];exact h.open_ p (by omega) q (by omega) hpq
 ·by_cases e:p=i
  ·subst e
   intro a ha
   obtain rfl:a=p+1:=by rcases ha with x | x <;> omega
   rw [hzi,hp.same]
   have hr:=h.round o hlt o (.inl ⟨hop,rfl⟩)
   by_cases h0:E o=0
   ·rw [if_pos h0] at hr ⊢;exact hr
   ·rw [if_neg h0] at hr ⊢
    obtain ⟨j,hj,hb⟩:=hr
    exact ⟨j,hj,hb.on (by omega) fun k h1 h2=>by
     by_cases e:k=o
     ·rw [e];omega
     ·have:=hp.above k (by omega) (by omega);omega⟩
  ·rw [hz p e];exact h.round p (by omega)
def MateOK (E:Nat→Int) (i:Nat) (y:Int):Prop:=∃ q:Nat,y=(q:Int)∧(Pair E i q∨Pair E q i)
theorem MateOK.uniq {E:Nat→Int} (hE:Exc E) {i:Nat} {y z:Int} (h:MateOK E i y) (k:MateOK E i z):y=z:=by
 obtain ⟨p,rfl,hp⟩:=h
 obtain ⟨q,rfl,hq⟩:=k
 rcases hp with hp | hp <;> rcases hq with hq | hq
 ·rw [hp.uniq hq]
 ·have:=hp.opens hE;have:=hq.closes hE;omega
 ·have:=hp.closes hE;have:=hq.opens hE;omega
 ·rw [hp.uniq' hq]
theorem MateOK.back {E:Nat→Int} {i q:Nat} (h:MateOK E i (q:Int)):MateOK E q (i:Int):=by
 obtain ⟨p,hp,h⟩:=h
 obtain rfl:q=p:=by omega
 exact ⟨i,rfl,h.symm⟩
theorem KnownP.done {E:Nat→Int} (hE:Exc E) {n:Nat} {y z:Nat→Int} (h:KnownP E n y z) (hb:Bal E n) (i:Nat) (hi:i < n):MateOK E i (y i)∧RoundOK E i (z i):=by
 refine ⟨?_,h.round i hi⟩
 rcases hE.step i with x | x
 ·obtain ⟨j,hj⟩:=fwd_ex hb hi (hb.1 i (by omega))
  have hp:=hj.pair hE x
  have h1:=hj.le
  have h2:=hj.lt
  exact ⟨j - 1,h.open_ i hi (j - 1) (by omega) hp,.inl hp⟩
 ·obtain ⟨o,ho,hp⟩:=h.close i hi x
  exact ⟨o,ho,.inr hp⟩
set_option maxRecDepth 20000
def ndv (p:Int × Int):Value:=.agg #[.int .i32 p.1,.int .i32 p.2]
def ndArr (T:Nat→Int × Int) (m:Nat):Array Value:=((List.range (2*m)).map fun j=>Value.int .i32 (if j%2=0 then (T (j / 2)).1 else (T (j / 2)).2)).toArray
theorem ndArr_size (T:Nat→Int × Int) (m:Nat):(ndArr T m).size=2*m:=by simp [ndArr]
theorem ndArr_get (T:Nat→Int × Int) (m k:Nat) (h:k < m):(ndArr T m)[k*2]?=some (.int .i32 (T k).1)∧(ndArr T m)[k*2+1]?=some (.int .i32 (T k).2):=by
 constructor
 ·have e1:k*2%2=0:=by omega
  have e2:k*2 / 2=k:=by omega
  have hl:k*2 < 2*m:=by omega
  simp [ndArr,hl]
 ·have e1:(k*2+1)%2=1:=by omega
  have e2:(k*2+1) / 2=k:=by omega
  have hl:k*2+1 < 2*m:=by omega
  simp [ndArr,hl,e1,e2]
def upd (T:Nat→Int × Int) (k:Nat) (p:Int × Int):Nat→Int × Int:=fun j=>if j=k then p else T j
theorem ndArr_set (T:Nat→Int × Int) (m k:Nat) (p:Int × Int) (h:k < m):((ndArr T m).setIfInBounds (k*2) (.int .i32 p.1)).setIfInBounds (k*2+1) (.int .i32 p.2)=ndArr (upd T k p) m:=by
 apply Array.ext
 ·simp [ndArr]
 ·intro i h1 h2
  have hi:i < 2*m:=by simpa [ndArr] using h2
  have s1:i < (ndArr T m).size:=by rw [ndArr_size];exact hi
  rw [Array.getElem_setIfInBounds (by simpa using s1),Array.getElem_setIfInBounds s1]
  by_cases e1:k*2+1=i
  ·subst e1
   simp [ndArr,upd,show (k*2+1)%2=1 by omega,show (k*2+1) / 2=k by omega]
  ·rw [if_neg e1]
   by_cases e2:k*2=i
   ·subst e2
    simp [ndArr,upd,show (k*2) / 2=k by omega]
   ·rw [if_neg e2]
    simp [ndArr,upd,show i / 2≠k by omega]
theorem ndArr_congr {T U:Nat→Int × Int} {m:Nat} (h:∀ k,k < m→T k=U k):ndArr T m=ndArr U m:=by
 unfold ndArr
 congr 1
 apply List.map_congr_left
 intro j hj
 have:j < 2*m:=by simpa using hj
 rw [h (j / 2) (by omega)]
structure Nul (w:World):Prop where
 s:w.cell? ⟨1,0,none⟩=some (.int .i32 0)
 l:w.cell? ⟨1,1,none⟩=some (.int .i32 2147483647)
theorem Nul.lt {w:World} (h:Nul w):1 < w.heap.size:=World.block_lt_of_cell? _ _ h.s
theorem Nul.below {w w':World} {B:Nat} (h:Nul w) (hB:1 < B) (m:Below B w w'):Nul w' :=
 ⟨(m.cell (p:=⟨1,0,none⟩) hB).trans h.s,(m.cell (p:=⟨1,1,none⟩) hB).trans h.l⟩
theorem Nul.bel {w w':World} (h:Nul w) (m:Below w.heap.size w w'):Nul w':=h.below h.lt m
theorem Nul.mod {w w':World} {S:Nat→Prop} (h:Nul w) (m:Mod S w w') (hs:¬ S 1):Nul w' :=
 ⟨(m.cell h.lt hs 0).trans h.s,(m.cell h.lt hs 1).trans h.l⟩
theorem info_node:(Tryz.prog.info? 227).map (·.size)=some 2:=by kernel_rfl
def RdT (w:World) (b:Nat) (T:Nat→Int × Int) (m:Nat):Prop:=∀ k,k < m→w.cell? ⟨b,k*2,none⟩=some (.int .i32 (T k).1)∧w.cell? ⟨b,k*2+1,none⟩=some (.int .i32 (T k).2)
theorem RdT.ofBlk {w:World} {b m:Nat} {T:Nat→Int × Int} (h:Blk w b 227 (ndArr T m)):RdT w b T m:=fun k hk =>
 ⟨by rw [h.cell];exact (ndArr_get T m k hk).1,by rw [h.cell];exact (ndArr_get T m k hk).2⟩
theorem RdT.below {w w':World} {b m:Nat} {T:Nat→Int × Int} (h:RdT w b T m) (hb:b < w.heap.size) (m':Below w.heap.size w w'):RdT w' b T m:=fun k hk =>
 ⟨(m'.cell (p:=⟨b,k*2,none⟩) hb).trans (h k hk).1,(m'.cell (p:=⟨b,k*2+1,none⟩) hb).trans (h k hk).2⟩
section
variable (w:World)
theorem leaf_p (A:Option Addr) (m c:Nat) (k:Nat) (hm:m≤10000000) (hk:k≤10000000) :
  Calls Tryz.prog 205 #[.slice A m c,.int .i64 (k:Int)] w fun e w'=>e=.returned (.int .i64 ((m / 2+1+k:Nat):Int))∧w=w':=by
 have e1:((m:Int) / 2+1+k)=((m / 2+1+k:Nat):Int):=by omega
 have E1:=Lib.hid e1
 clear e1
 go_enter Tryz.func205,Tryz.ntmps205
 go_wp2
 go_ret
 exact ⟨congrArg (fun z=>Ending.returned (.int .i64 z)) E1.out,rfl⟩
set_option maxHeartbeats 1000000 in
theorem nodeAt_p (b m c x:Nat) (T:Nat→Int × Int) (h:RdT w b T m) (hx:1≤x) (hxm:x≤m) (hm:m≤10000000) (hb:b < w.heap.size) :
  Calls Tryz.prog 207 #[.slice (some ⟨b,0,none⟩) m c,.int .i64 (x:Int)] w fun e w'=>e=.returned (ndv (T (x - 1)))∧Below w.heap.size w w':=by
 obtain ⟨c1,c2⟩:=h (x - 1) (by omega)
 obtain ⟨k,rfl⟩:∃ k,x=k+1:=⟨x - 1,by omega⟩
 rw [show k+1 - 1=k by omega] at *
 have HINF:=Lib.hid info_node
 have e1:((k+1:Nat):Int) - 1=(k:Int):=by omega
 clear h
 go_enter Tryz.func207,Tryz.ntmps207
 go_wp2_with fail
 refine bodyPost_ret (results_cell_row rfl _ _ w.heap.size 227 _ (0,0) _ rfl (Blk.new w _ _) Tryz.underlying227 rfl HINF.out) rfl ?_
 exact ⟨rfl,(Below.refl _ _).alloc (Nat.le_refl _) _⟩
theorem blk_new3 (w:World) (o1 o2:Obj) (t:TypeId) (cs:Array Value):Blk (((w.alloc o1).alloc o2).alloc (.cells cs t)) (w.heap.size+1+1) t cs:=by
 have:=Blk.new ((w.alloc o1).alloc o2) t cs
 rwa [World.size_alloc,World.size_alloc] at this
structure Fits (a:Int × Int):Prop where
 a1:-2000000≤a.1
 a2:a.1≤2000000
 b1:-2000000≤a.2
 b2:a.2≤2147483647
 real:a=nul∨a.2≤0
theorem nd_fits {E:Nat→Int} (h:Exc E) {n:Nat} (hn:n≤1000000) (a b:Nat):Fits (nd E n a b):=by
 obtain ⟨h1,h2,h3,h4⟩:=nd_bound h hn a b
 refine ⟨h1,h2,h3,h4,?_⟩
 by_cases e:n≤512*a∨b≤a
 ·exact .inl (nd_nul e)
 ·exact .inr (nd_low (by omega) (by omega))
set_option maxHeartbeats 1000000 in
theorem join_p (a b:Int × Int) (hN:Nul w) (ha:Fits a) (hb:Fits b) :
  Calls Tryz.prog 206 #[ndv a,ndv b] w fun e w'=>e=.returned (ndv (joinN a b))∧Below w.heap.size w w':=by
 have hz:=hN.lt
 have z1:1 < w.heap.size+1:=by omega
 have z2:1 < w.heap.size+1+1:=by omega
 try simp at z1
 try simp at z2
 obtain ⟨c1,c2⟩:=hN
 have HINF:=Lib.hid info_node
 by_cases h:b=nul
 ·have e1:joinN a b=a:=by unfold joinN;rw [if_pos h]
  rw [e1]
  obtain ⟨s,l⟩:=b
  obtain ⟨rfl,rfl⟩:s=0∧l=2147483647:=by simpa [nul] using h
  obtain ⟨s,l⟩:=a
  unfold ndv
  clear h e1
  go_enter Tryz.func206,Tryz.ntmps206
  go_wp2_with fail
  refine bodyPost_ret (results_cell_row rfl _ _ (w.heap.size+1+1) 227 _ (0,0) _ rfl (blk_new3 w _ _ _ _) Tryz.underlying227 rfl HINF.out) rfl ?_
  exact ⟨rfl,(((Below.refl _ _).alloc (Nat.le_refl _) _).alloc (by simp) _).alloc (by simp;omega) _⟩
 ·have hl:b.2≤0:=hb.real.resolve_left h
  have e1:joinN a b=(a.1+b.1,min a.2 (a.1+b.2)):=by unfold joinN;rw [if_neg h]
  obtain ⟨s,l⟩:=a
  obtain ⟨s',l'⟩:=b
  have g1:(l' == 2147483647)=false:=by rw [beq_eq_false_iff_ne];intro e;simp only at hl;omega
  obtain ⟨a1,a2,a3,a4,_⟩:=ha
  obtain ⟨b1,b2,b3,b4,_⟩:=hb
  simp only at a1 a2 a3 a4 b1 b2 b3 b4 hl
  rw [e1]
  unfold ndv
  clear h e1
  go_enter Tryz.func206,Tryz.ntmps206
  go_wp2_with fail
  all_goals
   refine bodyPost_ret (results_cell_row rfl _ _ (w.heap.size+1+1) 227 _ (0,0) _ rfl (blk_new3 w _ _ _ _) Tryz.underlying227 rfl HINF.out) rfl ?_
   refine ⟨?_,(((Below.refl _ _).alloc (Nat.le_refl _) _).alloc (by simp) _).alloc (by simp;omega) _⟩
   congr
   omega
end
end Go.Proofs.YtijbdnhlpbcabaaGreatDoor
namespace Go.Proofs.YtijbdnhlpbcabaaGreatDoor
set_option maxRecDepth 20000
section
variable (w:World)
theorem fld_sum (a b:Value) (W:World):(Instr.field 227 (.agg #[a,b]) 0).run Tryz.prog W=.ok a W:=by
 simp [Instr.field,run_underlying Tryz.underlying227,run_underlying Tryz.underlying21,asAgg,Go.part,isAgg]
theorem fld_nd (p:Int × Int) (W:World):(Instr.field 227 (ndv p) 0).run Tryz.prog W=.ok (.int .i32 p.1) W:=fld_sum _ _ W
theorem isFar_f (x:Nat) (hx:x≤10000000) :
  Calls Tryz.prog 209 #[.int .i64 (x:Int),.int .i64 1] w fun e w'=>e=.returned (.bool (decide (x%2=1)))∧w=w':=by
 by_cases h:x%2=1
 ·have e1:(x:Int)%2=1:=by omega
  have hd:decide (x%2=1)=true:=decide_eq_true h
  rw [hd]
  clear h hd
  go_enter Tryz.func209,Tryz.ntmps209
  go_wp2
  go_ret
  exact ⟨rfl,rfl⟩
 ·have e1:(x:Int)%2=0:=by omega
  have hd:decide (x%2=1)=false:=decide_eq_false h
  rw [hd]
  clear h hd
  go_enter Tryz.func209,Tryz.ntmps209
  go_wp2
  go_ret
  exact ⟨rfl,rfl⟩
theorem isFar_b (x:Nat) (hx:x≤10000000) :
  Calls Tryz.prog 209 #[.int .i64 (x:Int),.int .i64 (-1)] w fun e w'=>e=.returned (.bool (decide (x%2=0)))∧w=w':=by
 by_cases h:x%2=1
 ·have e1:(x:Int)%2=1:=by omega
  have hd:decide (x%2=0)=false:=decide_eq_false (by omega)
  rw [hd]
  clear h hd
  go_enter Tryz.func209,Tryz.ntmps209
  go_wp2
  go_ret
  exact ⟨rfl,rfl⟩
 ·have e1:(x:Int)%2=0:=by omega
  have hd:decide (x%2=0)=true:=decide_eq_true (by omega)
  rw [hd]
  clear h hd
  go_enter Tryz.func209,Tryz.ntmps209
  go_wp2
  go_ret
  exact ⟨rfl,rfl⟩
theorem has_f (p:Int × Int) (x m:Int) (hp:Fits p) (hx:-2000000≤x∧x≤2000000) :
  Calls Tryz.prog 208 #[ndv p,.int .i64 1,.int .i64 x,.int .i64 m] w fun e w'=>e=.returned (.bool (decide (x+p.2≤m)))∧Below w.heap.size w w':=by
 obtain ⟨s,l⟩:=p
 obtain ⟨a1,a2,a3,a4,_⟩:=hp
 simp only at a1 a2 a3 a4
 unfold ndv
 go_enter Tryz.func208,Tryz.ntmps208
 go_wp2
 go_ret
 exact ⟨rfl,(Below.refl _ _).alloc (Nat.le_refl _) _⟩
theorem has_b (p:Int × Int) (x m:Int) (hp:Fits p) (hx:-2000000≤x∧x≤2000000) :
  Calls Tryz.prog 208 #[ndv p,.int .i64 (-1),.int .i64 x,.int .i64 m] w fun e w'=>e=.returned (.bool (decide (x - p.1+p.2≤m)))∧Below w.heap.size w w':=by
 obtain ⟨s,l⟩:=p
 obtain ⟨a1,a2,a3,a4,_⟩:=hp
 simp only at a1 a2 a3 a4
 unfold ndv
 go_enter Tryz.func208,Tryz.ntmps208
 go_wp2
 go_ret
 exact ⟨rfl,(Below.refl _ _).alloc (Nat.le_refl _) _⟩
theorem bitOn_f (x:Int) :
  Calls Tryz.prog 159 #[.int .i64 x,.int .i64 1] w fun e w'=>e=.returned (.int .i64 x)∧w=w':=by
 go_enter Tryz.func159,Tryz.ntmps159
 go_wp2
 go_ret
 exact ⟨rfl,rfl⟩
theorem bitOn_b (x:Int) (hx:0≤x) (hx9:x≤10000000) :
  Calls Tryz.prog 159 #[.int .i64 x,.int .i64 (-1)] w fun e w'=>e=.returned (.int .i64 (x - 1))∧w=w':=by
 go_enter Tryz.func159,Tryz.ntmps159
 go_wp2
 go_ret
 exact ⟨rfl,rfl⟩
theorem blocksFor_p (n:Nat) (hn:n≤10000000) :
  Calls Tryz.prog 195 #[.int .i64 (n:Int)] w fun e w'=>e=.returned (.int .i64 (((n+511) / 512:Nat):Int))∧w=w':=by
 have e1:((n:Int)+512 - 1) / 512=(((n+511) / 512:Nat):Int):=by omega
 generalize (n+511) / 512=r at *
 have E1:=Lib.hid e1
 clear e1
 go_enter Tryz.func195,Tryz.ntmps195
 go_wp2
 go_ret
 exact ⟨congrArg (fun z=>Ending.returned (.int .i64 z)) E1.out,rfl⟩
def Lvs (b H:Nat):Prop:=b≤2 ^ H∧∀ h,h < H→2 ^ h < b
theorem Lvs.le {b H:Nat} (h:Lvs b H) (hb:b≤4096):2 ^ H≤8192:=by
 cases H with
 | zero=>decide
 | succ H=>have:=h.2 H (by omega);rw [Nat.pow_succ];omega
theorem nodesFor_p (b:Nat) (hb:b≤4096) :
  Calls Tryz.prog 204 #[.int .i64 (b:Int)] w fun e w'=>∃ H L M:Nat,e=.returned (.int .i64 (M:Int))∧M+1=2*L∧1≤L∧L≤8192∧L=2 ^ H∧Lvs b H∧w=w':=by
 go_enter Tryz.func204,Tryz.ntmps204
 go_wp2
 go_loop [3] (fun x=>∃ H L:Nat,x=.int .i64 (L:Int)∧L≤8192∧1≤L∧Hid (L=2 ^ H∧∀ h,h < H→2 ^ h < b)) (fun x=>(b - (intOf x).toNat))
 case atStart=>exact ⟨0,1,rfl,by omega,by omega,⟨rfl,fun h hh=>by omega⟩⟩
 case round =>
  obtain ⟨H,L,rfl,hL,hL1,hh⟩:=hrel
  by_cases hlt:L < b
  ·have hn:Hid (L*2=2 ^ (H+1)∧∀ h,h < H+1→2 ^ h < b):=⟨by rw [Nat.pow_succ,← hh.out.1],fun h k=>by
    by_cases e:h=H
    ·rw [e,← hh.out.1];exact hlt
    ·exact hh.out.2 h (by omega)⟩
   clear hh
   go_wp2
   go_round
   case rel=>exact ⟨H+1,L*2,by go_num,by omega,by omega,hn⟩
   case measure=>simp [intOf];omega
  ·go_wp2
   go_ret
   exact ⟨H,L,2*L - 1,congrArg (fun z=>Ending.returned (.int .i64 z)) (by omega),by omega,hL1,hL,hh.out.1,⟨by rw [← hh.out.1];omega,hh.out.2⟩,rfl⟩
end
end Go.Proofs.YtijbdnhlpbcabaaGreatDoor
namespace Go.Proofs.YtijbdnhlpbcabaaGreatDoor
set_option maxRecDepth 20000
theorem made_nodes (M:Nat):madeCells #[.int .i32 0,.int .i32 0] (M*2)=ndArr (fun _=>(0,0)) M:=by
 apply Array.ext
 ·simp [madeCells,ndArr];omega
 ·intro i h1 h2
  have h:i%2=0∨i%2=1:=by omega
  rcases h with h | h <;> simp [madeCells,ndArr,h]
theorem info_node2:(Tryz.prog.info? 227).map (fun i=>(i.zero,i.size,i.bytes))=some (some (.agg #[.int .i32 0,.int .i32 0]),2,8):=by kernel_rfl
theorem run_make_nodes (t:TypeId) (ht:Tryz.prog.underlying t=some (.slice 227)) (M:Nat) (hM:M≤100000) (w:World) :
  (Instr.makeSlice t (.int .i64 (M:Int)) (.int .i64 (M:Int))).run Tryz.prog w=.ok (.slice (some ⟨w.heap.size,0,none⟩) M M) (w.alloc (.cells (ndArr (fun _=>(0,0)) M) 227)):=by
 obtain ⟨i,hi,hz,hs,hb⟩:∃ i,Tryz.prog.info? 227=some i∧i.zero=some (.agg #[.int .i32 0,.int .i32 0])∧i.size=2∧i.bytes=8:=by
  have:=info_node2
  cases h:Tryz.prog.info? 227 with
  | none=>rw [h] at this;simp at this
  | some i=>rw [h] at this;simp at this;exact ⟨i,rfl,this.1,this.2.1,this.2.2⟩
 have hr:=run_make (P:=Tryz.prog) w t 227 i _ ht hi hz .i64 .i64 M M (by omega) (Int.le_refl _) (by rw [hb];omega) (by omega)
 simp only [Int.toNat_natCast,hs] at hr
 rw [hr,show (Value.agg #[.int .i32 0,.int .i32 0]).cells=#[.int .i32 0,.int .i32 0] from rfl,made_nodes]
theorem run_copy_rowN {P:Program} (w:World) (dT sT ty elem:TypeId) (g o dLen dCap:Nat) (a:Addr) (sLen sCap sz:Nat) (cur:Array Value) (t:TypeId) (cs:List Value)
  (hu:P.underlying dT=some (.slice elem)) (hs:(P.info? elem).map (·.size)=some sz)
  (hg:w.heap[g]?=some (.cells cur t (0,0))) (hn:cs.length=Nat.min sLen dLen*sz)
  (hsrc:∀ j v,cs[j]?=some v→w.cell? (a.add j)=some v) (hfit:o+cs.length≤cur.size) (h1:∀ v∈cs,v.oneCell'=true) :
  (Builtin.copy_ #[dT,sT] ty #[.slice (some ⟨g,o,none⟩) dLen dCap,.slice (some a) sLen sCap]).run P w =
    .ok (goInt (Nat.min sLen dLen)) (w.setRow g (cur.toList.take o++cs++cur.toList.drop (o+cs.length)).toArray):=by
 have hl:=run_loadCells_list (P:=P) w a cs hsrc
 have hst:=run_storeCells_at P g o t cs 0 cur w hg (by simpa using hfit) h1
 cases hq:P.info? elem with
 | none=>simp [hq] at hs
 | some i =>
   have hi:i.size=sz:=by simpa [hq] using hs
   simp [Builtin.copy_,run_underlying hu,Builtin.lenOf,Builtin.firstCells,sizeOf,typeInfo,hq,hi,← hn,hl,hst]
def laid (U T:Nat→Int × Int) (o B:Nat):Nat→Int × Int:=fun k=>if k < o then U k else if k < o+B then T (k - o) else U k
theorem laid_arr (U T:Nat→Int × Int) (M o B:Nat) (h:o+B≤M) :
  ((ndArr U M).toList.take (o*2)++(ndArr T B).toList++(ndArr U M).toList.drop (o*2+(ndArr T B).toList.length)).toArray=ndArr (laid U T o B) M:=by
 have hl:(ndArr T B).toList.length=2*B:=by simp [ndArr]
 rw [hl]
 apply Array.ext'
 simp only []
 apply List.ext_getElem?
 intro i
 have hU:∀ (X:Nat→Int × Int) (m i:Nat),(ndArr X m).toList[i]?=if i < 2*m then some (Value.int .i32 (if i%2=0 then (X (i / 2)).1 else (X (i / 2)).2)) else none:=by
  intro X m i
  by_cases hi:i < 2*m
  ·rw [if_pos hi];simp [ndArr,hi]
  ·rw [if_neg hi];simp [ndArr,Nat.le_of_not_lt hi]
 have e1:((ndArr U M).toList.take (o*2)).length=o*2:=by rw [List.length_take,Array.length_toList,ndArr_size];omega
 rw [hU,List.append_assoc]
 by_cases h1:i < o*2
 ·rw [List.getElem?_append_left (by rw [e1];exact h1),List.getElem?_take,if_pos h1,hU,if_pos (show i < 2*M by omega),if_pos (show i < 2*M by omega)]
  have:i / 2 < o:=by omega
  simp [laid,this]
 ·rw [List.getElem?_append_right (by rw [e1];omega),e1]
  by_cases h2:i < o*2+2*B
  ·rw [List.getElem?_append_left (by rw [hl];omega),hU,if_pos (show i - o*2 < 2*B by omega),if_pos (show i < 2*M by omega)]
   have k1:¬ i / 2 < o:=by omega
   have k2:i / 2 < o+B:=by omega
   have k3:(i - o*2) / 2=i / 2 - o:=by omega
   have k4:(i - o*2)%2=i%2:=by omega
   simp [laid,k1,k2,k3,k4]
  ·rw [List.getElem?_append_right (by rw [hl];omega),hl,List.getElem?_drop,hU]
   have k1:¬ i / 2 < o:=by omega
   have k2:¬ i / 2 < o+B:=by omega
   rw [show o*2+2*B+(i - o*2 - 2*B)=i by omega]
   simp [laid,k1,k2]
theorem wpList_copy_nodes {w:World} {ops:Array Oper} {rest:List Oper} {o:Oper} {a:Act} {Q:Exit→Act→World→Prop} (hgd:o.guard=none) (d s:Operand) (dT sT:TypeId)
  (ho:o.op=.call { callee:=.builtin .copy,args:=#[d,s],argTypes:=#[dT,sT] }) (hu:Tryz.prog.underlying dT=some (.slice 227))
  (g off dLen dCap bb B sCap M:Nat) (hd:a.eval d=.slice (some ⟨g,off*2,none⟩) dLen dCap) (hs:a.eval s=.slice (some ⟨bb,0,none⟩) B sCap)
  (U T:Nat→Int × Int) (hg:Blk w g 227 (ndArr U M)) (hb:Blk w bb 227 (ndArr T B)) (hle:B≤dLen) (hfit:off+B≤M)
  (h:∀ w',Hid (Blk w' g 227 (ndArr (laid U T off B) M))→Hid (Mod (fun i=>i=g) w w')→wpList Tryz.prog ops Q rest (a.put o.dst (.int .i64 (B:Int))) w') :
  wpList Tryz.prog ops Q (o :: rest) a w:=by
 refine wpList_plain hgd fun K hK=>?_
 have hmin:Nat.min B dLen=B:=Nat.min_eq_left hle
 have hrun:=run_copy_rowN (P:=Tryz.prog) w dT sT o.type 227 g (off*2) dLen dCap ⟨bb,0,none⟩ B sCap 2 (ndArr U M) 227 (ndArr T B).toList hu info_node hg
  (by rw [hmin,Array.length_toList,ndArr_size];omega)
  (fun j v hj=>by
    have e:(⟨bb,0,none⟩:Addr).add j=⟨bb,j,none⟩:=by unfold Addr.add;split <;> simp_all
    rw [e,hb.cell];simpa using hj)
  (by rw [Array.length_toList,ndArr_size,ndArr_size];omega)
  (fun v hv=>by
    simp only [ndArr,List.mem_map,List.mem_range] at hv
    obtain ⟨j,_,rfl⟩:=hv
    rfl)
 rw [hmin,laid_arr U T M off B hfit] at hrun
 have hh:=h (w.setRow g (ndArr (laid U T off B) M)) (setRow_heap w g _ _ _ _ hg) ⟨rfl,rfl,rfl,by simp [World.setRow],fun k hk hn=>setRow_other w g k _ hn⟩
 unfold Oper.wp
 simp [execOp,ho,resolve,invoke,builtin,hd,hs,hrun,Result.andThen]
 exact hK _ _ hh
theorem leaf0_p (w:World) (A:Option Addr) (m c L:Nat) (hm:m+1=2*L) (hL:L≤100000) :
  Calls Tryz.prog 205 #[.slice A m c,.int .i64 0] w fun e w'=>e=.returned (.int .i64 (L:Int))∧w=w':=by
 have:=leaf_p w A m c 0 (by omega) (by omega)
 rw [show m / 2+1+0=L by omega] at this
 exact this
def TreePost (w:World) (E:Nat→Int) (n B:Nat) (e:Ending) (w':World):Prop :=
 ∃ t H M T,e=.returned (.slice (some ⟨t,0,none⟩) M M)∧M+1=2*2 ^ H∧Lvs B H∧w.heap.size≤t∧Blk w' t 227 (ndArr T M)∧TreeOK E n H (fun x=>T (x - 1))∧Below w.heap.size w w'
def leavesTo (E:Nat→Int) (n K i:Nat) (U:Nat→Int × Int):Prop:=∀ j,j < i→U (K+j)=nd E n j (j+1)
def nodesFrom (E:Nat→Int) (n H x:Nat) (U:Nat→Int × Int):Prop:=∀ y h a,x < y→h≤H→y*2 ^ h=2 ^ H+a→a < 2 ^ H→U (y - 1)=nd E n a (a+2 ^ h)
theorem nodesFrom.leaves {E:Nat→Int} {n K H:Nat} {U:Nat→Int × Int} (hK:K+1=2 ^ H) (h:leavesTo E n K (K+1) U):nodesFrom E n H K U:=fun y k a hy hk he ha=>by
 cases k with
 | zero =>
   rw [Nat.pow_zero,Nat.mul_one] at he
   have:=h a (by omega)
   rw [show y - 1=K+a by omega,this]
 | succ k =>
   have:=node_kids hk he ha
   have hp:0 < 2 ^ k:=Nat.two_pow_pos k
   have:=node_end hk he ha
   exfalso
   have h1:2 ^ H≤y:=by omega
   have h2:=Nat.mul_le_mul h1 (show 2≤2 ^ (k+1) by rw [pow_up];omega)
   omega
theorem nodesFrom.next {E:Nat→Int} {n H x:Nat} {U:Nat→Int × Int} (h:nodesFrom E n H x U) (hx1:1≤x) (hx:x < 2 ^ H):nodesFrom E n H (x - 1) (upd U (x - 1) (joinN (U (2*x - 1)) (U (2*x+1 - 1)))):=fun y k a hy hk he ha=>by
 by_cases e:y=x
 ·subst e
  cases k with
  | zero=>rw [Nat.pow_zero,Nat.mul_one] at he;omega
  | succ k =>
    obtain ⟨k1,k2,k3⟩:=node_kids hk he ha
    have h1:=h (2*y) k a (by omega) (by omega) k1 ha
    have h2:=h (2*y+1) k (a+2 ^ k) (by omega) (by omega) k2 k3
    unfold upd
    rw [if_pos rfl,h1,h2,nd_join E n _ _ _ (Nat.le_add_right _ _) (Nat.le_add_right _ _),pow_up,show a+2 ^ k+2 ^ k=a+2*2 ^ k by omega]
 ·unfold upd
  rw [if_neg (by omega)]
  exact h y k a (by omega) hk he ha
theorem nodesFrom.fits {E:Nat→Int} (hE:Exc E) {n H x:Nat} (hn:n≤1000000) {U:Nat→Int × Int} (h:nodesFrom E n H x U) {y:Nat} (hy:x < y) (hy2:y < 2*2 ^ H):Fits (U (y - 1)):=by
 obtain ⟨k,a,h1,h2,h3⟩:=node_ex H y (by omega) hy2
 rw [h y k a hy h1 h2 h3]
 exact nd_fits hE hn _ _
set_option maxHeartbeats 4000000 in
theorem treeOf_p (E:Nat→Int) (hE:Exc E) (bb B cc n:Nat) (w:World) (hN:Nul w) (hn:n≤1000000) (hB:B=(n+511) / 512) (hb:Blk w bb 227 (ndArr (fun k=>nd E n k (k+1)) B)) :
  Calls Tryz.prog 197 #[.slice (some ⟨bb,0,none⟩) B cc] w (TreePost w E n B):=by
 have HB:=Lib.hid hB
 have hB9:B≤4096:=by omega
 have HN:=Lib.hid hN
 have HE:=Lib.hid hE
 have HBB:=Lib.hid hb
 have hbl:=hb.lt
 clear hB hN hE hb
 go_enter Tryz.func197,Tryz.ntmps197
 go_wp2_with fail
 refine (nodesFor_p _ B (by omega)).mono ?_
 rintro e w1 ⟨H,L,M,rfl,hM,hL1,hL9,hLH,hlv,rfl⟩
 obtain ⟨K,rfl⟩:∃ K,L=K+1:=⟨L - 1,by omega⟩
 have HLH:=Lib.hid hLH
 have HLV:=Lib.hid hlv
 have hBK:B≤K+1:=by have:=hlv.1;omega
 have HM:=Lib.hid hM
 have hKM:K < M:=by omega
 have hM9:M≤100000:=by omega
 have hMKI:(M:Int) - (K:Int)=(K:Int)+1:=by omega
 have hMK:M - K=K+1:=by omega
 have eK:((K+1:Nat):Int) - 1=(K:Int):=by omega
 clear hLH hlv hM hL1
 have MK:=run_make_nodes 190 (by kernel_rfl) M (by omega) w
 have hbn:=Blk.new w 227 (ndArr (fun _=>(0,0)) M)
 have HT:=Lib.hid hbn
 have HB1:=Lib.hid (HBB.out.alloc (.cells (ndArr (fun _=>(0,0)) M) 227))
 have L0:=Lib.hid (leaf0_p (w.alloc (.cells (ndArr (fun _=>(0,0)) M) 227)) (some ⟨w.heap.size,0,none⟩) M M (K+1) (by have:=HM.out;omega) (by omega))
 clear hbn
 go_wp2_with (first
  | (go_at_call 205;refine L0.out.mono ?_;rintro e w' ⟨rfl,rfl⟩)
  | (with_reducible refine wpList_copy_nodes rfl (.tmp 16) (.tmp 17) 190 189 rfl (by kernel_rfl) w.heap.size K (K+1) (K+1) bb B cc M rfl rfl (fun _=>(0,0)) (fun k=>nd E n k (k+1)) HT.out HB1.out (by omega) (by omega) ?_))
 intro w3 h3 m3
 have hb3:Hid (Below w.heap.size w w3):=((Below.refl _ _).alloc (Nat.le_refl _) _).trans (m3.out.belowB (by simp) fun i hi e=>by omega)
 have hs3:w.heap.size < w3.heap.size:=by have:=m3.out.size;simp at this;omega
 have L3:Hid (leavesTo E n K B (laid (fun _=>(0,0)) (fun k=>nd E n k (k+1)) K B)):=fun j hj=>by
  unfold laid
  rw [if_neg (by omega),if_pos (by omega),show K+j - K=j by omega]
 generalize hU0:laid (fun _=>(0,0)) (fun k=>nd E n k (k+1)) K B=U0 at *
 generalize hS:w.heap.size=S at *
 clear hU0 HT HB1 MK L0 m3 HBB
 go_wp2_with fail
 go_loopw [5] (fun x wr=>∃ (i:Nat) (U:Nat→Int × Int),B≤i∧i≤K+1∧x=.int .i64 (i:Int)∧Hid (Blk wr S 227 (ndArr U M))∧Hid (leavesTo E n K i U)∧Hid (Below S w wr)) (fun x _=>K+1 - (intOf x).toNat)
 case atStart=>exact ⟨B,U0,by omega,by omega,rfl,h3.out,L3.out,hb3.out⟩
 case round =>
  clear h3 hb3 L3
  obtain ⟨i,U,hBi,hi,rfl,hblk,hlv,hbel⟩:=hrel
  by_cases hlt:i < K+1
  ·have c1:=(hbel.out.cell (p:=⟨1,0,none⟩) (by show 1 < S;have:=HN.out.lt;omega)).trans HN.out.s
   have c2:=(hbel.out.cell (p:=⟨1,1,none⟩) (by show 1 < S;have:=HN.out.lt;omega)).trans HN.out.l
   have f1:=hblk.out.frozen (K*2+i*2)
   have f2:=hblk.out.frozen (K*2+i*2+1)
   have d1:wr.cell? ⟨S,K*2+i*2,none⟩=some (.int .i32 (U (K+i)).1):=by rw [hblk.out.cell,← Nat.add_mul];exact (ndArr_get U M (K+i) (by have:=HM.out;omega)).1
   have d2:wr.cell? ⟨S,K*2+i*2+1,none⟩=some (.int .i32 (U (K+i)).2):=by rw [hblk.out.cell,← Nat.add_mul];exact (ndArr_get U M (K+i) (by have:=HM.out;omega)).2
   have hz:1≠S:=by have:=HN.out.lt;omega
   go_wp2_with fail
   have hki:K+i < M:=by have:=HM.out;omega
   have NB:Hid (Blk ((wr.setCell ⟨S,K*2+i*2,none⟩ (.int .i32 0)).setCell ⟨S,K*2+i*2+1,none⟩ (.int .i32 2147483647)) S 227 (ndArr (upd U (K+i) nul) M)):=by
    have h1:=(hblk.out.set_ (K*2+i*2) (.int .i32 0)).set_ (K*2+i*2+1) (.int .i32 2147483647)
    have h2:=ndArr_set U M (K+i) nul hki
    rw [Nat.add_mul] at h2
    exact h2 ▸ h1
   have NL:Hid (leavesTo E n K (i+1) (upd U (K+i) nul)):=fun j hj=>by
    unfold upd
    by_cases e:j=i
    ·subst e
     rw [if_pos rfl,nd_nul (.inl (by have:=HB.out;omega))]
    ·rw [if_neg (by omega)];exact hlv.out j (by omega)
   have ND:Hid (Below S w ((wr.setCell ⟨S,K*2+i*2,none⟩ (.int .i32 0)).setCell ⟨S,K*2+i*2+1,none⟩ (.int .i32 2147483647))):=(hbel.out.setCell (Nat.le_refl _) _).setCell (Nat.le_refl _) _
   clear c1 c2 f1 f2 d1 d2
   go_roundw
   case rel=>exact ⟨i+1,_,by omega,by omega,by go_num,NB.out,NL.out,ND.out⟩
   case measure=>simp [intOf];omega
  ·obtain rfl:i=K+1:=by omega
   have NF:=Lib.hid (nodesFrom.leaves HLH.out hlv.out)
   have L1:=Lib.hid (leaf0_p wr (some ⟨S,0,none⟩) M M (K+1) (by have:=HM.out;omega) (by omega))
   go_wp2_with (go_at_call 205;refine L1.out.mono ?_;rintro e w' ⟨rfl,rfl⟩)
   clear L1 hlv
   have HBL:=Lib.hid hblk.out
   have HBE:=Lib.hid hbel.out
   clear hblk hbel
   go_loopw [6] (fun x wq=>∃ (k:Nat) (U:Nat→Int × Int),k≤K∧x=.int .i64 (k:Int)∧Hid (Blk wq S 227 (ndArr U M))∧Hid (nodesFrom E n H k U)∧Hid (Below S w wq)) (fun x _=>(intOf x).toNat)
   case atStart=>exact ⟨K,U,by omega,rfl,HBL.out,NF.out,HBE.out⟩
   case round =>
    clear HBL NF HBE
    obtain ⟨k,U2,hk,rfl,hblk,hnf,hbel⟩:=hrel
    by_cases hk0:0 < k
    ·obtain ⟨p,rfl⟩:∃ p,k=p+1:=⟨k - 1,by omega⟩
     have hHM:=HM.out
     have hpl:=HLH.out
     have e1:((2*(p+1):Nat):Int)=2*((p:Int)+1):=by omega
     have e2:((2*(p+1)+1:Nat):Int)=2*((p:Int)+1)+1:=by omega
     have hSq:S < wr.heap.size:=hblk.out.lt
     have A1:=Lib.hid (nodeAt_p wr S M M (2*(p+1)) U2 (RdT.ofBlk hblk.out) (by omega) (by omega) (by omega) hSq)
     rw [e1] at A1
     have F1:=Lib.hid (hnf.out.fits HE.out hn (y:=2*(p+1)) (by omega) (by omega))
     have F2:=Lib.hid (hnf.out.fits HE.out hn (y:=2*(p+1)+1) (by omega) (by omega))
     have NX:=Lib.hid (hnf.out.next (by omega) (by omega))
     rw [show p+1 - 1=p by omega] at NX
     obtain ⟨u1,hu1⟩:∃ u,u=U2 (2*(p+1) - 1):=⟨_,rfl⟩
     obtain ⟨u2,hu2⟩:∃ u,u=U2 (2*(p+1)+1 - 1):=⟨_,rfl⟩
     rw [← hu1] at A1 F1 NX
     rw [← hu2] at F2 NX
     have HU2:=Lib.hid hu2
     have hpM:p < M:=by omega
     have ep:((p+1:Nat):Int) - 1=(p:Int):=by omega
     clear hu1 hu2 e1 hHM hpl
     go_wp2_with fail
     refine A1.out.mono ?_
     rintro e w5 ⟨rfl,b5⟩
     have hB5:=Lib.hid (hblk.out.below b5)
     have A2:=Lib.hid (nodeAt_p w5 S M M (2*(p+1)+1) U2 (RdT.ofBlk hB5.out) (by omega) (by have:=HM.out;have:=HLH.out;omega) (by omega) hB5.out.lt)
     rw [e2,← HU2.out] at A2
     have HE5:Hid (Below S w w5):=hbel.out.trans (b5.mono (by omega))
     clear b5 e2 A1
     go_wp2_with fail
     refine A2.out.mono ?_
     rintro e w6 ⟨rfl,b6⟩
     have hB6:=Lib.hid (hB5.out.below b6)
     have HE6:Hid (Below S w w6):=HE5.out.trans (b6.mono (by have:=hB5.out.lt;omega))
     have JN:=Lib.hid (join_p w6 u1 u2 (HN.out.below (by have:=HN.out.lt;omega) HE6.out) F1.out F2.out)
     clear b6 A2 hB5
     go_wp2_with fail
     refine JN.out.mono ?_
     rintro e w7 ⟨rfl,b7⟩
     have hB7:=Lib.hid (hB6.out.below b7)
     have HE7:Hid (Below S w w7):=HE6.out.trans (b7.mono (by have:=hB6.out.lt;omega))
     clear b7 JN hB6
     have f1:=hB7.out.frozen (p*2)
     have f2:=hB7.out.frozen (p*2+1)
     have d1:w7.cell? ⟨S,p*2,none⟩=some (.int .i32 (U2 p).1):=by rw [hB7.out.cell];exact (ndArr_get U2 M p hpM).1
     have d2:w7.cell? ⟨S,p*2+1,none⟩=some (.int .i32 (U2 p).2):=by rw [hB7.out.cell];exact (ndArr_get U2 M p hpM).2
     generalize hj:joinN u1 u2=u3 at *
     obtain ⟨s3,l3⟩:=u3
     unfold ndv
     have HJ:=Lib.hid hj
     clear hj
     go_wp2_with fail
     have NB:Hid (Blk ((w7.setCell ⟨S,p*2,none⟩ (.int .i32 s3)).setCell ⟨S,p*2+1,none⟩ (.int .i32 l3)) S 227 (ndArr (upd U2 p (s3,l3)) M)):=by
      have h1:=(hB7.out.set_ (p*2) (.int .i32 s3)).set_ (p*2+1) (.int .i32 l3)
      have h2:=ndArr_set U2 M p (s3,l3) hpM
      exact h2 ▸ h1
     have ND:Hid (Below S w ((w7.setCell ⟨S,p*2,none⟩ (.int .i32 s3)).setCell ⟨S,p*2+1,none⟩ (.int .i32 l3))):=(HE7.out.setCell (Nat.le_refl _) _).setCell (Nat.le_refl _) _
     clear f1 f2 d1 d2
     go_roundw
     case rel=>exact ⟨p,_,by omega,rfl,NB.out,NX.out,ND.out⟩
     case measure=>simp [intOf]
    ·obtain rfl:k=0:=by omega
     go_wp2_with fail
     go_ret
     exact ⟨S,H,M,U2,rfl,by have:=HM.out;have:=HLH.out;omega,HLV.out,by omega,hblk.out,fun x h a h1 h2 h3=>hnf.out x h a (by have:=(node_end h1 h2 h3).2.1;omega) h1 h2 h3,by rw [hS];exact hbel.out⟩
end Go.Proofs.YtijbdnhlpbcabaaGreatDoor
