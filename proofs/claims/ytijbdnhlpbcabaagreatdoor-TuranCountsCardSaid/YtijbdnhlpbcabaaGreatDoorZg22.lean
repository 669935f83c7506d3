/- The canonical map of a map of one part: mathematics. -/
import Derived.Test.YtijbdnhlpbcabaaGreatDoorZg21
import Derived.Test.YtijbdnhlpbcabaaGreatDoorZg18
import Derived.Test.YtijbdnhlpbcabaaGreatDoorZg15
import Derived.Test.YtijbdnhlpbcabaaGreatDoorZg17
import Derived.Test.YtijbdnhlpbcabaaGreatDoorZg6
import Derived.Test.YtijbdnhlpbcabaaGreatDoorZg5
import Derived.Test.YtijbdnhlpbcabaaGreatDoorZg12
import Derived.Deep.RegionWith
import Derived.Test.YtijbdnhlpbcabaaGreatDoorZg8
import Derived.Test.YtijbdnhlpbcabaaGreatDoorZg9
import Derived.Test.YtijbdnhlpbcabaaGreatDoorRows
import Derived.MakeChecks
import Derived.Lib.LaidTab
import Derived.Lib.LaidU8
open Go.RowKit
set_option linter.unusedVariables false
set_option linter.unusedSimpArgs false
namespace Go.Proofs.YtijbdnhlpbcabaaGreatDoor
set_option maxRecDepth 20000
noncomputable def wlk (l:List Nat) (r:Nat):List Nat :=
 (List.range (wN (sgL l) (nameOf l) (l.length / 2) (orbits l).length r)).map fun j=>(wrun (sgL l) (nameOf l) (l.length / 2) (orbits l).length r j).d
section
variable {l b:List Nat}
theorem one_nm (hl:Inv l b):∀ x y,x < l.length→y < l.length→(nameOf l x=nameOf l y↔Orb (sgL l) x y):=fun x y hx hy=>name_iff hl hx hy
theorem wlk_lt (hl:Inv l b) (he:l.length%2=0) {r:Nat} (hr:r < l.length):∀ d∈wlk l r,d < l.length:=fun d hd=>by
 obtain ⟨j,_,rfl⟩:=List.mem_map.1 hd
 exact (wok (sgL_pf hl) (show l.length=2*(l.length / 2) by omega) (one_nm hl) (fun x hx=>name_lt hl hx) hr j).lt
theorem wlk_part (hl:Inv l b) (he:l.length%2=0) {r d:Nat} (hr:r < l.length) (hd:d < l.length):d∈wlk l r↔part l r d:=by
 have k:=wpart (sgL_pf hl) (show l.length=2*(l.length / 2) by omega) (one_nm hl) (fun x hx=>name_lt hl hx) hr hd
 unfold part
 rw [k]
 unfold wlk
 rw [List.mem_map]
 exact ⟨fun ⟨j,hj,e⟩=>⟨j,List.mem_range.1 hj,e⟩,fun ⟨j,hj,e⟩=>⟨j,List.mem_range.2 hj,e⟩⟩
theorem wlk_head (hl:Inv l b) (he:l.length%2=0) {r:Nat} (hr:r < l.length):∃ ds,wlk l r=r :: ds:=by
 obtain ⟨n1,_⟩:=wN_is (sgL_pf hl) (show l.length=2*(l.length / 2) by omega) (one_nm hl) (fun x hx=>name_lt hl hx) hr
 unfold wlk
 obtain ⟨N,hN⟩:∃ N,wN (sgL l) (nameOf l) (l.length / 2) (orbits l).length r=N+1:=⟨wN (sgL l) (nameOf l) (l.length / 2) (orbits l).length r - 1,by omega⟩
 rw [hN,List.range_succ_eq_map,List.map_cons]
 exact ⟨_,rfl⟩
structure CanN (l:List Nat) (r:Nat) (P Q:List Nat):Prop where
 nam:Nam l.length P Q
 is:(lookL l.length (wlk l r)).1=ofN P
theorem CanN.root {r:Nat} {P Q:List Nat} (h:CanN l r P Q) (hl:Inv l b) (hr:r < l.length):sgL P r=0:=by
 have he:=h.nam.ev
 obtain ⟨ds,e⟩:=wlk_head hl he hr
 have hlt:=wlk_lt hl he hr
 have k:=(LK.start l.length).first he ds hr (fun d hd=>hlt d (by rw [e];exact List.mem_cons_of_mem _ hd)) (by simp [List.getD_eq_getElem?_getD,hr])
 have g:(lookL l.length (wlk l r)).1.getD r 0=((0:Nat):Int):=by rw [e];exact k
 rw [h.is,ofN_get] at g
 have:((sgL P r:Nat):Int)=((0:Nat):Int):=g
 omega
end
end Go.Proofs.YtijbdnhlpbcabaaGreatDoor
namespace Go.Proofs.YtijbdnhlpbcabaaGreatDoor
set_option maxRecDepth 20000
section
variable {l b:List Nat}
theorem part_mt (hl:Inv l b) (he:l.length%2=0) {d:Nat} (hd:d < l.length):part l d (mt d):=by
 unfold part;exact gk_mt (sgL_pf hl) (by omega) _ hd
end
end Go.Proofs.YtijbdnhlpbcabaaGreatDoor
namespace Go.Proofs.YtijbdnhlpbcabaaGreatDoor
set_option maxRecDepth 20000
structure Wrd (ks:List Nat) (tw f:Nat→Nat) (l:List Nat):Prop where
 P:Prg ks tw
 x0:NX ks tw 0
 x1:NX ks tw 1
 n0:0 < ks.length
 lt:∀ i,i < ks.length→f i < l.length
 inj:∀ i j,i < ks.length→j < ks.length→f i=f j→i=j
 mt:∀ i,i < ks.length→Go.Proofs.YtijbdnhlpbcabaaGreatDoor.mt (f i)=f (tw i)
 sg:∀ i,i < ks.length→sgL l (f i)=f (nxS 0 ks tw i)
section
variable {ks:List Nat} {tw f:Nat→Nat} {l b:List Nat}
theorem Wrd.it (h:Wrd ks tw f l) {i:Nat} (hi:i < ks.length):∀ k,itf (nxS 0 ks tw) k i < ks.length∧itf (sgL l) k (f i)=f (itf (nxS 0 ks tw) k i)
 | 0=>⟨hi,rfl⟩
 | k+1=>by
   obtain ⟨h1,h2⟩:=h.it hi k
   exact ⟨nx_lt h.n0 _,by show sgL l _=f (nxS 0 ks tw _);rw [h2,h.sg _ h1]⟩
theorem Wrd.orb (h:Wrd ks tw f l) {i j:Nat} (hi:i < ks.length) (hj:j < ks.length):Orb (sgL l) (f i) (f j)↔ownP 0 ks tw i=ownP 0 ks tw j:=by
 rw [← own_orb h.P h.x0 h.n0 hi hj]
 constructor
 ·rintro ⟨k,e⟩
  obtain ⟨h1,h2⟩:=h.it hi k
  rw [h2] at e
  exact ⟨k,h.inj _ _ h1 hj e⟩
 ·rintro ⟨k,e⟩
  obtain ⟨h1,h2⟩:=h.it hi k
  exact ⟨k,by rw [h2,e]⟩
theorem kd2 (P:Prg ks tw) (i:Nat):ks.getD i 0 / 2=0∨ks.getD i 0 / 2=1:=by
 have:=P.kd.getD i;omega
theorem Wrd.phi (h:Wrd ks tw f l) {i:Nat} (hi:i < ks.length):sgL (phiL l) (f i)=f (nxS 1 ks tw i):=by
 rw [phi_at l (h.lt i hi),h.mt i hi,h.sg _ (h.P.lt i hi)]
 congr 1
 unfold nxS
 rw [h.P.sort i hi,h.P.tt i hi]
 rcases kd2 h.P i with e | e <;> rw [e] <;> simp
theorem Wrd.itp (h:Wrd ks tw f l) {i:Nat} (hi:i < ks.length):∀ k,itf (nxS 1 ks tw) k i < ks.length∧itf (sgL (phiL l)) k (f i)=f (itf (nxS 1 ks tw) k i)
 | 0=>⟨hi,rfl⟩
 | k+1=>by
   obtain ⟨h1,h2⟩:=h.itp hi k
   exact ⟨nx_lt h.n0 _,by show sgL (phiL l) _=f (nxS 1 ks tw _);rw [h2,h.phi h1]⟩
theorem Wrd.orbp (h:Wrd ks tw f l) {i j:Nat} (hi:i < ks.length) (hj:j < ks.length):Orb (sgL (phiL l)) (f i) (f j)↔ownP 1 ks tw i=ownP 1 ks tw j:=by
 rw [← own_orb h.P h.x1 h.n0 hi hj]
 constructor
 ·rintro ⟨k,e⟩
  obtain ⟨h1,h2⟩:=h.itp hi k
  rw [h2] at e
  exact ⟨k,h.inj _ _ h1 hj e⟩
 ·rintro ⟨k,e⟩
  obtain ⟨h1,h2⟩:=h.itp hi k
  exact ⟨k,by rw [h2,e]⟩
def ClS (s:Nat) (ks:List Nat) (tw:Nat→Nat) (i:Nat):Prop:=ks.getD i 0 / 2=s∧tw i < i
theorem cl_orbs (P:Prg ks tw) (n0:0 < ks.length) {s:Nat} (hX:NX ks tw s) {n:Nat} (hn:ks.length≤n) (hf:∀ i,i < ks.length→f i < n) {R:Nat→Nat→Prop} (E:Eqv n R)
  (hR:∀ i j,i < ks.length→j < ks.length→R (f i) (f j)→ownP s ks tw i=ownP s ks tw j) :
  num (ClS s ks tw) ks.length+1≤num (Least R) n:=by
 have h0:¬ ClS s ks tw 0:=fun h=>by have:=h.2;omega
 have e1:num (fun i=>i < ks.length∧(i=0∨ClS s ks tw i)) n=num (ClS s ks tw) ks.length+1:=by
  have a:∀ k,num (fun i=>i < ks.length∧(i=0∨ClS s ks tw i)) (ks.length+k)=num (fun i=>i=0∨ClS s ks tw i) ks.length:=fun k=>by
   induction k with
   | zero=>exact num_congr fun d hd=>⟨fun h=>h.2,fun h=>⟨hd,h⟩⟩
   | succ k ih=>rw [← Nat.add_assoc,(num_next _ _).2 (fun h=>by omega),ih]
  have b:∀ k,num (fun i=>i=0∨ClS s ks tw i) (k+1)=num (ClS s ks tw) (k+1)+1:=fun k=>by
   induction k with
   | zero=>rw [(num_next _ _).1 (Or.inl rfl),(num_next (ClS s ks tw) 0).2 h0];rfl
   | succ k ih =>
     by_cases c:ClS s ks tw (k+1)
     ·rw [(num_next _ _).1 (Or.inr c),(num_next (ClS s ks tw) (k+1)).1 c,ih]
     ·rw [(num_next _ _).2 (fun h=>h.elim (by omega) c),(num_next (ClS s ks tw) (k+1)).2 c,ih]
  obtain ⟨k,hk⟩:∃ k,n=ks.length+k:=⟨n - ks.length,by omega⟩
  rw [hk,a k]
  obtain ⟨m,hm⟩:∃ m,ks.length=m+1:=⟨ks.length - 1,by omega⟩
  rw [hm,b m]
 rw [← e1]
 refine num_inj (fun i=>rep R (f i)) (fun x hx ⟨hx1,_⟩=>?_) (fun x y hx hy ⟨hx1,ax⟩ ⟨hy1,ay⟩ e=>?_)
 ·obtain ⟨r1,r2,r3⟩:=rep_is E (hf x hx1)
  exact ⟨by have:=hf x hx1;omega,r3⟩
 ·obtain ⟨r1,r2,r3⟩:=rep_is E (hf x hx1)
  obtain ⟨q1,q2,q3⟩:=rep_is E (hf y hy1)
  have fx:=hf x hx1
  have fy:=hf y hy1
  have e':rep R (f x)=rep R (f y):=e
  rw [← e'] at q2
  have o:=hR x y hx1 hy1 (E.trans _ _ _ fx (by omega) fy (E.symm _ _ (by omega) fx r2) q2)
  rcases ax with rfl | ax
  ·rcases ay with rfl | ay
   ·rfl
   ·rw [ownP_zero,ownP_close P hX hy1 ay.1 ay.2] at o;cases o
  ·rcases ay with rfl | ay
   ·rw [ownP_zero,ownP_close P hX hx1 ax.1 ax.2] at o;cases o
   ·rw [ownP_close P hX hx1 ax.1 ax.2,ownP_close P hX hy1 ay.1 ay.2] at o
    have o:=Option.some.inj o
    rw [← P.tt x hx1,o,P.tt y hy1]
theorem cl_half (P:Prg ks tw):num (ClS 0 ks tw) ks.length+num (ClS 1 ks tw) ks.length=ks.length / 2:=by
 rw [num_or (fun e h1 h2=>by have:=h1.1;have:=h2.1;omega)]
 have e:num (fun i=>ClS 0 ks tw i∨ClS 1 ks tw i) ks.length=num (fun j=>¬ ks.getD j 0%2=0) ks.length:=num_congr fun i hi=>by
  have a:=P.opn i hi
  have ne:=P.ne i hi
  have k2:=kd2 P i
  unfold ClS
  constructor
  ·rintro (h | h) c <;> (have:=a.1 c;omega)
  ·intro c
   have:¬ i < tw i:=fun h=>c (a.2 h)
   rcases k2 with e | e
   ·exact .inl ⟨e,by omega⟩
   ·exact .inr ⟨e,by omega⟩
 rw [e]
 have h1:=opN_half P
 obtain ⟨h2,h3⟩:=opN_num ks ks.length
 omega
theorem Wrd.first (h:Wrd ks tw f l) (hi:Inv l b) (he:l.length%2=0):∀ i,i < ks.length→part l (f 0) (f i):=by
 have E:=part_eqv hi he
 intro i
 induction i with
 | zero=>intro h0;exact E.refl _ (h.lt 0 h0)
 | succ i ih =>
   intro h1
   have hi1:i < ks.length:=by omega
   have p:=ih hi1
   have l0:=h.lt 0 h.n0
   have li:=h.lt i hi1
   have key:∀ j,j < ks.length→part l (f i) (f j)→sgL l (f j)=f (i+1)→part l (f 0) (f (i+1)):=fun j hj q e=>by
    have lj:=h.lt j hj
    have l1:=h.lt (i+1) h1
    refine E.trans _ _ _ l0 lj l1 (E.trans _ _ _ l0 li lj p q) ?_
    show gk _ _ _ _
    exact gk_mono (sgL l) (Nat.zero_le _) ⟨1,e⟩
   rcases kd2 h.P i with c | c
   ·refine key (tw i) (h.P.lt i hi1) (by rw [← h.mt i hi1];exact part_mt hi he li) ?_
    rw [h.sg _ (h.P.lt i hi1)]
    unfold nxS
    rw [if_pos (by rw [h.P.sort i hi1];exact c),h.P.tt i hi1,Nat.mod_eq_of_lt h1]
   ·refine key i hi1 (E.refl _ li) ?_
    rw [h.sg _ hi1]
    unfold nxS
    rw [if_neg (by omega),Nat.mod_eq_of_lt h1]
theorem Wrd.plane (h:Wrd ks tw f l) (hi:Inv l b) (hn:l.length=ks.length) (h00:f 0=0) (hs:∀ d,d < l.length→∃ i,i < ks.length∧f i=d) :
  (∀ d,d < l.length→part l 0 d)∧pN l=1∧genusN l=0∧metB l=num (ClS 0 ks tw) ks.length+1∧metB (phiL l)=num (ClS 1 ks tw) ks.length+1:=by
 have he:l.length%2=0:=by have:=opN_half h.P;omega
 have n0:=h.n0
 have hp:∀ d,d < l.length→part l 0 d:=fun d hd=>by
  obtain ⟨i,hi1,rfl⟩:=hs d hd
  have:=h.first hi he i hi1
  rwa [h00] at this
 obtain ⟨h1,h2⟩:=one_part hi he (by omega) hp
 have hq:=phi_inv hi he
 have ll:∀ {l b:List Nat},Inv l b→num (Least (Orb (sgL l))) l.length=metB l:=fun {l b} hi=>by
  rw [← num_leads hi]
  exact num_congr fun d hd=>(leads_least hi (by omega)).symm
 have v:=cl_orbs h.P n0 h.x0 (n:=l.length) (by omega) h.lt (sgL_pf hi).eqv (fun i j hi hj o=>(h.orb hi hj).1 o)
 have v2:=cl_orbs h.P n0 h.x1 (n:=(phiL l).length) (by rw [phiL_len];omega) (fun i hi=>by rw [phiL_len];exact h.lt i hi) (sgL_pf hq).eqv (fun i j hi hj o=>(h.orbp hi hj).1 o)
 rw [ll hi] at v
 rw [ll hq] at v2
 have hh:=cl_half h.P
 have hg:¬ genusN l < 0→genusN l=0:=fun _=>by omega
 refine ⟨hp,h1,?_,?_,?_⟩ <;> omega
end
end Go.Proofs.YtijbdnhlpbcabaaGreatDoor
namespace Go.Proofs.YtijbdnhlpbcabaaGreatDoor
set_option maxRecDepth 20000
def RightW (ks:List Nat) (tw:Nat→Nat):Prop:=∀ i,i < ks.length→ks.getD i 0=2→∀ o,ownP 0 ks tw (tw i)=some o→o < i
theorem half_mt {a b:Nat} (h:a / 2=b / 2):a=b∨a=mt b:=by
 unfold mt;split <;> omega
section
variable {ks:List Nat} {tw f:Nat→Nat} {l b:List Nat} {m V:Nat}
theorem k_ev (P:Prg ks tw) {j:Nat} (hj:j < ks.length):(ks.getD j 0=0↔ks.getD j 0 / 2=0∧j < tw j)∧(ks.getD j 0=1↔ks.getD j 0 / 2=0∧tw j < j)∧(ks.getD j 0=2↔ks.getD j 0 / 2=1∧j < tw j)∧(ks.getD j 0=3↔ks.getD j 0 / 2=1∧tw j < j):=by
 have a:=P.opn j hj
 have ne:=P.ne j hj
 have k2:=P.kd.getD j
 have:ks.getD j 0%2=0∨ks.getD j 0%2=1:=by omega
 rcases this with c | c
 ·have:=a.1 c
  refine ⟨⟨fun h=>?_,fun h=>?_⟩,⟨fun h=>?_,fun h=>?_⟩,⟨fun h=>?_,fun h=>?_⟩,⟨fun h=>?_,fun h=>?_⟩⟩ <;> omega
 ·have:¬ j < tw j:=fun h=>by have:=a.2 h;omega
  refine ⟨⟨fun h=>?_,fun h=>?_⟩,⟨fun h=>?_,fun h=>?_⟩,⟨fun h=>?_,fun h=>?_⟩,⟨fun h=>?_,fun h=>?_⟩⟩ <;> omega
theorem Wrd.met (h:Wrd ks tw f l) (hi:Inv l b) (he:l.length=2*m) (hV:∀ x,x < l.length→nameOf l x < V) :
  ∀ j,j≤ks.length→(∀ i,i < j→(wrun (sgL l) (nameOf l) m V (f 0) i).d=f i∧(wrun (sgL l) (nameOf l) m V (f 0) i).k (nameOf l)=ks.getD i 0) →
  ∀ i,i < ks.length→((wrun (sgL l) (nameOf l) m V (f 0) j).M.getD (nameOf l (f i)) false=true↔(ownP 0 ks tw i=none∨∃ o,ownP 0 ks tw i=some o∧o < j)):=by
 have hs:=sgL_pf hi
 have f0:=h.lt 0 h.n0
 intro j
 induction j with
 | zero =>
   intro _ _ i hi1
   show ((List.replicate V false).set (nameOf l (f 0)) true).getD (nameOf l (f i)) false=true↔_
   rw [getB_set _ _ _ _ (by rw [List.length_replicate];exact hV _ f0)]
   have o:=h.orb hi1 h.n0
   rw [← one_nm hi _ _ (h.lt i hi1) f0,ownP_zero] at o
   by_cases c:nameOf l (f i)=nameOf l (f 0)
   ·rw [if_pos c];exact ⟨fun _=>.inl (o.1 c),fun _=>rfl⟩
   ·rw [if_neg c]
    constructor
    ·intro q
     rw [List.getD_eq_getElem?_getD,List.getElem?_replicate] at q
     split at q <;> simp at q
    ·rintro (q | ⟨o',_,q⟩)
     ·exact absurd (o.2 q) c
     ·omega
 | succ j ih =>
   intro hj hw i hi1
   have hj':j < ks.length:=by omega
   have IH:=ih (by omega) (fun i hi=>hw i (by omega)) i hi1
   obtain ⟨e1,e2⟩:=hw j (by omega)
   have W:=wok hs he (one_nm hi) hV f0 j
   show (wM1 (nameOf l) (wrun (sgL l) (nameOf l) m V (f 0) j).M (wrun (sgL l) (nameOf l) m V (f 0) j).d ((wrun (sgL l) (nameOf l) m V (f 0) j).k (nameOf l))).getD (nameOf l (f i)) false=true↔_
   rw [e1,e2]
   unfold wM1
   obtain ⟨K0,_⟩:=k_ev h.P hj'
   by_cases c:ks.getD j 0=0
   ·rw [if_pos c,h.mt j hj']
    obtain ⟨s0,oj⟩:=K0.1 c
    have ht:=h.P.lt j hj'
    have oc:=ownP_close h.P h.x0 ht (by rw [h.P.sort j hj'];exact s0) (by rw [h.P.tt j hj'];exact oj)
    rw [h.P.tt j hj'] at oc
    rw [getB_set _ _ _ _ (by rw [W.ml];exact hV _ (h.lt _ ht))]
    have o:=h.orb hi1 ht
    rw [← one_nm hi _ _ (h.lt i hi1) (h.lt _ ht),oc] at o
    by_cases d:nameOf l (f i)=nameOf l (f (tw j))
    ·rw [if_pos d]
     exact ⟨fun _=>.inr ⟨j,o.1 d,by omega⟩,fun _=>rfl⟩
    ·rw [if_neg d,IH]
     constructor
     ·rintro (q | ⟨o',q,q2⟩)
      ·exact .inl q
      ·exact .inr ⟨o',q,by omega⟩
     ·rintro (q | ⟨o',q,q2⟩)
      ·exact .inl q
      ·refine .inr ⟨o',q,?_⟩
       have:o'≠j:=fun e=>d (o.2 (by rw [← e];exact q))
       omega
   ·rw [if_neg c,IH]
    constructor
    ·rintro (q | ⟨o',q,q2⟩)
     ·exact .inl q
     ·exact .inr ⟨o',q,by omega⟩
    ·rintro (q | ⟨o',q,q2⟩)
     ·exact .inl q
     ·refine .inr ⟨o',q,?_⟩
      have hm:=ownP_mem q
      have:o'≠j:=fun e=>c (K0.2 ⟨by rw [← e];exact hm.2.1,by rw [← e];exact hm.2.2.1⟩)
      omega
theorem Wrd.isR (h:Wrd ks tw f l) (hi:Inv l b) (he:l.length=2*m) (hV:∀ x,x < l.length→nameOf l x < V)
  (hw:∀ i,i < ks.length→(wrun (sgL l) (nameOf l) m V (f 0) i).d=f i∧(wrun (sgL l) (nameOf l) m V (f 0) i).k (nameOf l)=ks.getD i 0):RightW ks tw:=by
 intro i hi1 h2 o ho
 obtain ⟨e1,e2⟩:=hw i hi1
 have M:=h.met hi he hV i (by omega) (fun j hj=>hw j (by omega)) (tw i) (h.P.lt i hi1)
 rcases WS.kinds (nm:=nameOf l) (wrun (sgL l) (nameOf l) m V (f 0) i) with ⟨k,_⟩ | ⟨k,_⟩ | ⟨k,_,_,q⟩ | ⟨k,_⟩
 ·omega
 ·omega
 ·rw [e1,h.mt i hi1] at q
  rcases M.1 q with c | ⟨o',c,d⟩
  ·rw [ho] at c;cases c
  ·rw [ho] at c;cases c;exact d
 ·omega
theorem Wrd.walk (h:Wrd ks tw f l) (hi:Inv l b) (he:l.length=2*m) (hV:∀ x,x < l.length→nameOf l x < V) (hR:RightW ks tw) :
  ∀ j,j≤ks.length→(∀ i,i < j→(wrun (sgL l) (nameOf l) m V (f 0) i).d=f i∧(wrun (sgL l) (nameOf l) m V (f 0) i).k (nameOf l)=ks.getD i 0) ∧
   (wrun (sgL l) (nameOf l) m V (f 0) j).d=f (j%ks.length) ∧
   ∀ i,i < ks.length→(wrun (sgL l) (nameOf l) m V (f 0) j).K.getD (f i / 2) 0=if i < j∨tw i < j then ((2*(ks.getD i 0 / 2):Nat):Int) else -1:=by
 have hs:=sgL_pf hi
 have f0:=h.lt 0 h.n0
 intro j
 induction j with
 | zero =>
   intro _
   refine ⟨fun i hi=>by omega,by rw [Nat.zero_mod];rfl,fun i hi1=>?_⟩
   show (List.replicate m (-1:Int)).getD (f i / 2) 0=_
   have:=h.lt i hi1
   rw [if_neg (by omega),List.getD_eq_getElem?_getD,List.getElem?_replicate,if_pos (by omega)];rfl
 | succ j ih =>
   intro hj
   have hj':j < ks.length:=by omega
   obtain ⟨h1,h2,h3⟩:=ih (by omega)
   rw [Nat.mod_eq_of_lt hj'] at h2
   have ht:=h.P.lt j hj'
   have M:=h.met hi he hV j (by omega) h1 (tw j) ht
   have W:=wok hs he (one_nm hi) hV f0 j
   have K:=k_ev h.P hj'
   have hkk:=h3 j hj'
   have ne:=h.P.ne j hj'
   have kd:=kd2 h.P j
   have hk:(wrun (sgL l) (nameOf l) m V (f 0) j).k (nameOf l)=ks.getD j 0:=by
    show wKd _ _ _ _=_
    rw [h2]
    unfold wKd
    rw [h.mt j hj']
    by_cases c:tw j < j
    ·rw [if_pos (.inr c)] at hkk
     rcases kd with d | d
     ·rw [d] at hkk
      rw [if_pos (by rw [hkk];rfl)];exact (K.2.1.2 ⟨d,c⟩).symm
     ·rw [d] at hkk
      rw [if_neg (by rw [hkk];decide),if_pos (by rw [hkk];rfl)];exact (K.2.2.2.2 ⟨d,c⟩).symm
    ·rw [if_neg (by omega)] at hkk
     rw [if_neg (by rw [hkk];decide),if_neg (by rw [hkk];decide)]
     rcases kd with d | d
     ·have oc:=ownP_close h.P h.x0 ht (by rw [h.P.sort j hj'];exact d) (by rw [h.P.tt j hj'];omega)
      rw [h.P.tt j hj'] at oc
      rw [if_neg (fun q=>by
       rcases M.1 q with e | ⟨o,e,e2⟩
       ·rw [oc] at e;cases e
       ·rw [oc] at e;have:=Option.some.inj e;omega)]
      exact (K.1.2 ⟨d,by omega⟩).symm
     ·have k2:=K.2.2.1.2 ⟨d,by omega⟩
      have:(wrun (sgL l) (nameOf l) m V (f 0) j).M.getD (nameOf l (f (tw j))) false=true:=M.2 (by
       cases e:ownP 0 ks tw (tw j) with
       | none=>exact .inl rfl
       | some o=>exact .inr ⟨o,rfl,hR j hj' k2 o e⟩)
      rw [if_pos this];exact k2.symm
   refine ⟨fun i hi1=>?_,?_,fun i hi1=>?_⟩
   ·by_cases c:i=j
    ·subst c;exact ⟨h2,hk⟩
    ·exact h1 i (by omega)
   ·show wNx _ _ _=_
    unfold wNx
    rw [hk,h2]
    rcases kd with d | d
    ·rw [if_pos (by omega),h.mt j hj',h.sg _ ht]
     unfold nxS
     rw [if_pos (by rw [h.P.sort j hj'];exact d),h.P.tt j hj']
    ·rw [if_neg (by omega),h.sg _ hj']
     unfold nxS
     rw [if_neg (by omega)]
   ·show (wK1 _ _ _).getD _ _=_
    unfold wK1
    rw [hk,h2]
    have hti:=h.P.tt i hi1
    have eq:f i / 2=f j / 2→i=j∨i=tw j:=fun e=>by
     rcases half_mt e with q | q
     ·exact .inl (h.inj _ _ hi1 hj' q)
     ·rw [h.mt j hj'] at q;exact .inr (h.inj _ _ hi1 ht q)
    by_cases c:ks.getD j 0%2=0
    ·rw [if_pos c,getI_set _ _ _ _ (by rw [W.kl];have:=h.lt j hj';omega)]
     by_cases d:f i / 2=f j / 2
     ·rw [if_pos d]
      rcases eq d with e | e
      ·subst e;rw [if_pos (by omega)];congr 1;omega
      ·rw [e,h.P.tt j hj',if_pos (by omega),h.P.sort j hj'];congr 1;omega
     ·rw [if_neg d,h3 i hi1]
      have n1:i≠j:=fun e=>d (by rw [e])
      have n2:tw i≠j:=fun e=>d (by rw [← e,← h.mt i hi1,mt_half])
      by_cases q:i < j∨tw i < j
      ·rw [if_pos q,if_pos (by omega)]
      ·rw [if_neg q,if_neg (by omega)]
    ·rw [if_neg c,h3 i hi1]
     have cj:tw j < j:=by
      have:=(h.P.opn j hj').2
      omega
     by_cases q:i < j∨tw i < j
     ·rw [if_pos q,if_pos (by omega)]
     ·have n1:i≠j:=fun e=>q (.inr (by rw [e];exact cj))
      have n2:tw i≠j:=fun e=>q (.inl (by rw [← hti,e];exact cj))
      rw [if_neg q,if_neg (by omega)]
theorem Wrd.wN (h:Wrd ks tw f l) (hi:Inv l b) (he:l.length=2*m) (hV:∀ x,x < l.length→nameOf l x < V) (hl:l.length=ks.length)
  (hw:∀ i,i < ks.length→(wrun (sgL l) (nameOf l) m V (f 0) i).d=f i):Go.Proofs.YtijbdnhlpbcabaaGreatDoor.wN (sgL l) (nameOf l) m V (f 0)=ks.length:=by
 obtain ⟨a,b',c,d⟩:=wN_is (sgL_pf hi) he (one_nm hi) hV (h.lt 0 h.n0)
 rcases Nat.lt_or_ge (Go.Proofs.YtijbdnhlpbcabaaGreatDoor.wN (sgL l) (nameOf l) m V (f 0)) ks.length with e | e
 ·rw [hw _ e] at c
  have:=h.inj _ _ e h.n0 c
  omega
 ·omega
theorem look_nm (P:Prg ks tw) {n:Nat} (hn:ks.length=n) (hf:∀ i,i < n→f i < n) (inj:∀ i j,i < n→j < n→f i=f j→i=j) (hm:∀ i,i < n→mt (f i)=f (tw i)) :
  ∀ j,j≤n→(lookL n ((List.range j).map f)).1.length=n∧(lookL n ((List.range j).map f)).2=2*opN ks j∧∀ i,i < n→(lookL n ((List.range j).map f)).1.getD (f i) 0=if i < j∨tw i < j then ((nmF ks tw i:Nat):Int) else -1:=by
 intro j
 induction j with
 | zero =>
   intro _
   refine ⟨by show (List.replicate n (-1:Int)).length=n;simp,rfl,fun i hi1=>?_⟩
   show (List.replicate n (-1:Int)).getD (f i) 0=_
   rw [if_neg (by omega),List.getD_eq_getElem?_getD,List.getElem?_replicate,if_pos (hf i hi1)];rfl
 | succ j ih =>
   intro hj
   obtain ⟨h0,h1,h2⟩:=ih (by omega)
   have hj':j < n:=by omega
   have hjk:j < ks.length:=by omega
   have ht:tw j < n:=by have:=P.lt j hjk;omega
   rw [List.range_succ,List.map_append]
   show (lookL n ((List.range j).map f++[f j])).1.length=_∧(lookL n ((List.range j).map f++[f j])).2=_∧∀ i,i < n→(lookL n ((List.range j).map f++[f j])).1.getD (f i) 0=_
   rw [lookL_snoc]
   unfold lookS
   have hkk:=h2 j hj'
   have a:=P.opn j hjk
   have ne:=P.ne j hjk
   by_cases c:tw j < j
   ·rw [if_pos (.inr c)] at hkk
    rw [if_neg (by rw [hkk];omega)]
    refine ⟨h0,?_,fun i hi1=>?_⟩
    ·rw [h1];show _=2*(opN ks j+_);rw [if_neg (by intro q;have:=a.1 q;omega)];rfl
    ·rw [h2 i hi1]
     have hti:=P.tt i (by omega)
     by_cases q:i < j∨tw i < j
     ·rw [if_pos q,if_pos (by omega)]
     ·have n1:i≠j:=fun e=>q (.inr (by rw [e];exact c))
      have n2:tw i≠j:=fun e=>q (.inl (by rw [← hti,e];exact c))
      rw [if_neg q,if_neg (by omega)]
   ·rw [if_neg (by omega)] at hkk
    have ev:ks.getD j 0%2=0:=a.2 (by omega)
    rw [if_pos hkk,h1,hm j hj']
    refine ⟨by simp [h0],?_,fun i hi1=>?_⟩
    ·show _=2*(opN ks j+_);rw [if_pos ev];omega
    ·show ((((lookL n ((List.range j).map f)).1.set (f j) ((2*opN ks j:Nat):Int)).set (f (tw j)) ((2*opN ks j+1:Nat):Int))).getD (f i) 0=_
     rw [getI_set _ _ _ _ (by rw [List.length_set,h0];exact hf _ ht),getI_set _ _ _ _ (by rw [h0];exact hf _ hj')]
     have hti:=P.tt i (by omega)
     have htj:=P.tt j hjk
     by_cases e2:i=tw j
     ·subst e2
      rw [if_pos rfl,if_pos (by omega)]
      have b:=P.opn (tw j) (by omega)
      unfold nmF
      rw [if_neg (fun q=>by have:=b.1 q;omega),htj]
     ·rw [if_neg (fun q=>e2 (inj _ _ hi1 ht q))]
      by_cases e1:i=j
      ·subst e1
       rw [if_pos rfl,if_pos (by omega)]
       unfold nmF
       rw [if_pos ev]
      ·rw [if_neg (fun q=>e1 (inj _ _ hi1 hj' q)),h2 i hi1]
       have n2:tw i≠j:=fun e=>e2 (by rw [← hti,e])
       by_cases q:i < j∨tw i < j
       ·rw [if_pos q,if_pos (by omega)]
       ·rw [if_neg q,if_neg (by omega)]
end
end Go.Proofs.YtijbdnhlpbcabaaGreatDoor
namespace Go.Proofs.YtijbdnhlpbcabaaGreatDoor
set_option maxRecDepth 20000
theorem add1_p (g:Nat) (l:List Nat) (A:Option Addr) (b:Nat) (w:World) (hv:VecAt w g (val l) l.length A) (hb:b < 2) (hn:l.length+65≤1000000) :
  Calls Tryz.prog 144 #[.pointer (some ⟨g,0,none⟩),.slice (some ⟨w.heap.size,0,none⟩) 1 1] (w.alloc (.cells #[.int .i64 (b:Int)] 3)) fun e w' =>
   e=.returned (.tuple #[])∧∃ A',VecAt w' g (val (l++[b])) (l++[b]).length A'∧Mod (foot g A) w w'∧(A'=A∨∃ b,A'=some ⟨b,0,none⟩∧w.heap.size≤b):=by
 have hvA:=VecB.below hv ((Below.refl w.heap.size w).alloc (Nat.le_refl _) (.cells #[.int .i64 (b:Int)] 3))
 have r5:=Rd.new w 3 #[.int .i64 (b:Int)] 1 (I64 [(b:Int)]) (by simp [I64]) (by simp)
 refine (add_p g l A (some ⟨w.heap.size,0,none⟩) 1 1 [(b:Int)] _ hvA (r5.up (by simp)) (fun i hi hf=>by
    obtain ⟨a,e,rfl⟩:=hi
    cases e
    exact absurd (VecB.foot_lt hv hf) (Nat.lt_irrefl _)) (by omega)).mono ?_
 rintro e w' ⟨rfl,A',h1,m,h2⟩
 have hb1:[(b:Int)].map bit1=[b]:=by
  have:=bit1_ofN (l:=[b]) (fun x hx=>by rw [List.mem_singleton.1 hx];exact hb)
  simpa [ofNB] using this
 rw [hb1] at h1
 refine ⟨rfl,A',h1,⟨m.os,m.tape,m.output,Nat.le_trans (by simp) m.size,fun k hk hn=>?_⟩,?_⟩
 ·exact (m.block k (by simp;omega) hn).trans (Below.heap_alloc _ _ _ hk)
 ·rcases h2 with rfl | ⟨b',rfl,hb'⟩
  ·exact .inl rfl
  ·exact .inr ⟨b',rfl,Nat.le_trans (by simp) hb'⟩
def VecS (w:World) (S:Nat→Prop) (g:Nat) (l:List Nat):Prop:=∃ A,VecAt w g (val l) l.length A∧∀ i,foot g A i→S i
theorem VecS.below {w w':World} {S:Nat→Prop} {g:Nat} {l:List Nat} (h:VecS w S g l) (m:Below w.heap.size w w'):VecS w' S g l:=by
 obtain ⟨A,hv,sf⟩:=h
 exact ⟨A,VecB.below hv m,sf⟩
theorem addS_p (g:Nat) (S:Nat→Prop) (l:List Nat) (b:Nat) (w:World) (hv:VecS w S g l) (hS:∀ i,w.heap.size≤i→S i) (hb:b < 2) (hn:l.length+65≤1000000) :
  Calls Tryz.prog 144 #[.pointer (some ⟨g,0,none⟩),.slice (some ⟨w.heap.size,0,none⟩) 1 1] (w.alloc (.cells #[.int .i64 (b:Int)] 3)) fun e w' =>
   e=.returned (.tuple #[])∧VecS w' S g (l++[b])∧Mod S w w':=by
 obtain ⟨A,h1,sf⟩:=hv
 refine (add1_p g l A b w h1 hb hn).mono ?_
 rintro e w' ⟨rfl,A',h2,m,ha⟩
 refine ⟨rfl,⟨A',h2,?_⟩,m.mono fun i _ hi=>sf i hi⟩
 rintro i (rfl | ⟨b',rfl,rfl⟩)
 ·exact sf _ (.inl rfl)
 ·rcases ha with e | ⟨b2,e,h⟩
  ·exact sf _ (.inr ⟨_,e.symm,rfl⟩)
  ·cases e;exact hS _ h
def vecL (Pr:Nat→Bool) (bt:Nat→Nat) (ks:List Nat):List Nat:=(ks.filter Pr).map bt
theorem vecL_snoc (Pr:Nat→Bool) (bt:Nat→Nat) (ks:List Nat) (k:Nat):vecL Pr bt (ks++[k])=if Pr k=true then vecL Pr bt ks++[bt k] else vecL Pr bt ks:=by
 unfold vecL
 rw [List.filter_append,List.map_append]
 by_cases h:Pr k=true <;> simp [h]
theorem vecL_len (Pr:Nat→Bool) (bt:Nat→Nat) (ks:List Nat):(vecL Pr bt ks).length≤ks.length:=by
 unfold vecL;rw [List.length_map];exact List.length_filter_le _ _
set_option maxHeartbeats 4000000 in
theorem vector_a (F G:Nat) (Pr:Nat→Bool) (bt:Nat→Nat) (B g:Nat) (ks:List Nat) (w:World) (h:WordAt w B g ks) (hn:ks.length≤300000) (hbt:∀ k,k < 4→bt k < 2)
  (hCF:∀ (args:Array Value) (w:World),Sem.run Tryz.prog (callFunc F args) w=.ok (.enter F args) w) (hCG:∀ (args:Array Value) (w:World),Sem.run Tryz.prog (callFunc G args) w=.ok (.enter G args) w)
  (hF:∀ (k:Nat),k < 4→∀ W,Below w.heap.size w W→Calls Tryz.prog F #[.int .i64 (k:Int)] W fun e w'=>e=.returned (.bool (Pr k))∧∃ jf,w'=W.drewN jf)
  (hG:∀ (k:Nat),k < 4→∀ W,Calls Tryz.prog G #[.int .i64 (k:Int)] W fun e w'=>e=.returned (.int .i64 ((bt k:Nat):Int))∧W=w') :
  Calls Tryz.prog 119 #[.pointer (some ⟨g,0,none⟩),.func (.func F) #[] #[],.func (.func G) #[] #[]] w fun e w'=>∃ gv A,e=.returned (.pointer (some ⟨gv,0,none⟩))∧VecAt w' gv (val (vecL Pr bt ks)) (vecL Pr bt ks).length A∧Below w.heap.size w w'∧w.heap.size≤gv:=by
 have HF:=Lib.hid hF
 have HG:=Lib.hid hG
 have HBT:=Lib.hid hbt
 have HW:=Lib.hid h
 have HK:Hid (∀ i,ks.getD i 0 < 4):=fun i=>Kds.getD h.1 i
 have BN:=Lib.hid bnew_p
 have LP:=Lib.hid (fun W (m:Below w.heap.size w W)=>mlen_p B g ks W (h.below m))
 have AP:=Lib.hid (fun i (hi:i < ks.length) W (m:Below w.heap.size w W)=>mat_p B g ks i W (h.below m) hi (by omega))
 clear h hF hG hbt
 go_enter Tryz.func119,Tryz.ntmps119
 go_wp2_with fail
 refine (BN.out _).mono ?_
 rintro e w1 ⟨rfl,hv,b1⟩
 have HV1:Hid (VecS w1 (fun i=>w.heap.size≤i) w.heap.size (vecL Pr bt (ks.take 0))):=⟨none,hv,fun i hi=>by
  rcases hi with rfl | ⟨b,h,_⟩
  ·show _≤_;omega
  ·cases h⟩
 have B1:=Lib.hid b1
 clear hv b1 BN
 go_wp2_with fail
 refine (LP.out _ B1.out).mono ?_
 rintro e w2 ⟨rfl,rfl⟩
 go_wp2_with fail
 go_loopw [13] (fun i wr=>∃ j:Nat,j≤ks.length∧i=.int .i64 (j:Int)∧Hid (VecS wr (fun i=>w.heap.size≤i) w.heap.size (vecL Pr bt (ks.take j)))∧Hid (Below w.heap.size w wr)) (fun i _=>ks.length - (intOf i).toNat)
 case atStart=>exact ⟨0,by omega,rfl,HV1,B1⟩
 case round =>
  clear HV1 B1
  obtain ⟨j,hj,rfl,HV,HB⟩:=hrel
  by_cases hlt:j < ks.length
  ·have AT:=Lib.hid (AP.out j hlt wr HB.out)
   have hk4:=HK.out j
   have NX:Hid (vecL Pr bt (ks.take (j+1))=if Pr (ks.getD j 0)=true then vecL Pr bt (ks.take j)++[bt (ks.getD j 0)] else vecL Pr bt (ks.take j)):=by
    show _=_;rw [take_snoc ks j hlt,vecL_snoc]
   have hll:(vecL Pr bt (ks.take j)).length≤300000:=by
    have:=vecL_len Pr bt (ks.take j);rw [List.length_take] at this;omega
   generalize ks.getD j 0=k at *
   go_wp2_with fail
   refine AT.out.mono ?_
   rintro e w3 ⟨rfl,jj,rfl⟩
   have HV3:=Lib.hid (HV.out.below (below_draws (Below.refl _ _) jj))
   have HB3:=Lib.hid (below_draws HB.out jj)
   generalize wr.drewN jj=w3 at *
   have CF:=Lib.hid (HF.out k hk4 w3 HB3.out)
   clear HV HB AT
   go_wp2_with fail
   refine CF.out.mono ?_
   rintro e w4 ⟨rfl,jf,rfl⟩
   replace HV3:=Lib.hid (HV3.out.below (below_draws (Below.refl _ _) jf))
   replace HB3:=Lib.hid (below_draws HB3.out jf)
   clear CF
   generalize w3.drewN jf=w3 at *
   by_cases hp:Pr k=true
   ·have CG:=Lib.hid (HG.out k hk4 w3)
    rw [if_pos hp] at NX
    have AD:=Lib.hid (addS_p w.heap.size (fun i=>w.heap.size≤i) (vecL Pr bt (ks.take j)) (bt k) w3 HV3.out (fun i hi=>Nat.le_trans HB3.out.size hi) (HBT.out k hk4) (by omega))
    rw [hp]
    generalize bt k=bb at *
    go_wp2_with fail
    refine CG.out.mono ?_
    rintro e w5 ⟨rfl,rfl⟩
    go_wp2_with fail
    refine AD.out.mono ?_
    rintro e w6 ⟨rfl,hv6,m6⟩
    have HV6:Hid (VecS w6 (fun i=>w.heap.size≤i) w.heap.size (vecL Pr bt (ks.take (j+1)))):=by rw [NX.out];exact hv6
    have HB6:Hid (Below w.heap.size w w6):=HB3.out.trans (m6.belowB HB3.out.size (fun i hi h=>by have:w.heap.size≤i:=h;omega))
    clear hv6 m6 AD HV3 HB3 CG NX
    go_wp2_with fail
    go_roundw
    case rel=>exact ⟨j+1,by omega,by go_num,HV6,HB6⟩
    case measure=>simp [intOf];omega
   ·rw [if_neg hp] at NX
    have hpf:Pr k=false:=by simpa using hp
    have HV6:Hid (VecS w3 (fun i=>w.heap.size≤i) w.heap.size (vecL Pr bt (ks.take (j+1)))):=by rw [NX.out];exact HV3.out
    rw [hpf]
    clear HV3 NX hp hpf
    go_wp2_with fail
    go_roundw
    case rel=>exact ⟨j+1,by omega,by go_num,HV6,HB3⟩
    case measure=>simp [intOf];omega
  ·obtain rfl:j=ks.length:=by omega
   rw [List.take_length] at HV
   obtain ⟨A,hv,_⟩:=HV.out
   have HVV:=Lib.hid hv
   clear hv HV
   go_wp2_with fail
   go_ret
   first | exact ⟨w.heap.size,A,rfl,HVV.out,HB.out,Nat.le_refl _⟩ | exact ⟨w.heap.size,rfl,⟨A,HVV.out⟩,HB.out,Nat.le_refl _⟩
set_option maxHeartbeats 4000000 in
theorem vector_b (F G bx:Nat) (Pr:Nat→Bool) (bt:Nat→Nat) (B g:Nat) (ks:List Nat) (w:World) (h:WordAt w B g ks) (hn:ks.length≤300000) (hbt:∀ k,k < 4→bt k < 2)
  (hCF:∀ (args:Array Value) (w:World),Sem.run Tryz.prog (callFunc F args) w=.ok (.enter F args) w) (hCG:∀ (args:Array Value) (w:World),Sem.run Tryz.prog (callFunc G args) w=.ok (.enter G args) w)
  (hF:∀ (k:Nat),k < 4→∀ W,Below w.heap.size w W→Calls Tryz.prog F #[.int .i64 (k:Int),.pointer (some ⟨bx,0,none⟩)] W fun e w'=>e=.returned (.bool (Pr k))∧∃ jf,w'=W.drewN jf)
  (hG:∀ (k:Nat),k < 4→∀ W,Calls Tryz.prog G #[.int .i64 (k:Int)] W fun e w'=>e=.returned (.int .i64 ((bt k:Nat):Int))∧W=w') :
  Calls Tryz.prog 119 #[.pointer (some ⟨g,0,none⟩),.func (.func F) #[] #[.pointer (some ⟨bx,0,none⟩)],.func (.func G) #[] #[]] w fun e w'=>∃ gv A,e=.returned (.pointer (some ⟨gv,0,none⟩))∧VecAt w' gv (val (vecL Pr bt ks)) (vecL Pr bt ks).length A∧Below w.heap.size w w'∧w.heap.size≤gv:=by
 have HF:=Lib.hid hF
 have HG:=Lib.hid hG
 have HBT:=Lib.hid hbt
 have HW:=Lib.hid h
 have HK:Hid (∀ i,ks.getD i 0 < 4):=fun i=>Kds.getD h.1 i
 have BN:=Lib.hid bnew_p
 have LP:=Lib.hid (fun W (m:Below w.heap.size w W)=>mlen_p B g ks W (h.below m))
 have AP:=Lib.hid (fun i (hi:i < ks.length) W (m:Below w.heap.size w W)=>mat_p B g ks i W (h.below m) hi (by omega))
 clear h hF hG hbt
 go_enter Tryz.func119,Tryz.ntmps119
 go_wp2_with fail
 refine (BN.out _).mono ?_
 rintro e w1 ⟨rfl,hv,b1⟩
 have HV1:Hid (VecS w1 (fun i=>w.heap.size≤i) w.heap.size (vecL Pr bt (ks.take 0))):=⟨none,hv,fun i hi=>by
  rcases hi with rfl | ⟨b,h,_⟩
  ·show _≤_;omega
  ·cases h⟩
 have B1:=Lib.hid b1
 clear hv b1 BN
 go_wp2_with fail
 refine (LP.out _ B1.out).mono ?_
 rintro e w2 ⟨rfl,rfl⟩
 go_wp2_with fail
 go_loopw [13] (fun i wr=>∃ j:Nat,j≤ks.length∧i=.int .i64 (j:Int)∧Hid (VecS wr (fun i=>w.heap.size≤i) w.heap.size (vecL Pr bt (ks.take j)))∧Hid (Below w.heap.size w wr)) (fun i _=>ks.length - (intOf i).toNat)
 case atStart=>exact ⟨0,by omega,rfl,HV1,B1⟩
 case round =>
  clear HV1 B1
  obtain ⟨j,hj,rfl,HV,HB⟩:=hrel
  by_cases hlt:j < ks.length
  ·have AT:=Lib.hid (AP.out j hlt wr HB.out)
   have hk4:=HK.out j
   have NX:Hid (vecL Pr bt (ks.take (j+1))=if Pr (ks.getD j 0)=true then vecL Pr bt (ks.take j)++[bt (ks.getD j 0)] else vecL Pr bt (ks.take j)):=by
    show _=_;rw [take_snoc ks j hlt,vecL_snoc]
   have hll:(vecL Pr bt (ks.take j)).length≤300000:=by
    have:=vecL_len Pr bt (ks.take j);rw [List.length_take] at this;omega
   generalize ks.getD j 0=k at *
   go_wp2_with fail
   refine AT.out.mono ?_
   rintro e w3 ⟨rfl,jj,rfl⟩
   have HV3:=Lib.hid (HV.out.below (below_draws (Below.refl _ _) jj))
   have HB3:=Lib.hid (below_draws HB.out jj)
   generalize wr.drewN jj=w3 at *
   have CF:=Lib.hid (HF.out k hk4 w3 HB3.out)
   clear HV HB AT
   go_wp2_with fail
   refine CF.out.mono ?_
   rintro e w4 ⟨rfl,jf,rfl⟩
   replace HV3:=Lib.hid (HV3.out.below (below_draws (Below.refl _ _) jf))
   replace HB3:=Lib.hid (below_draws HB3.out jf)
   clear CF
   generalize w3.drewN jf=w3 at *
   by_cases hp:Pr k=true
   ·have CG:=Lib.hid (HG.out k hk4 w3)
    rw [if_pos hp] at NX
    have AD:=Lib.hid (addS_p w.heap.size (fun i=>w.heap.size≤i) (vecL Pr bt (ks.take j)) (bt k) w3 HV3.out (fun i hi=>Nat.le_trans HB3.out.size hi) (HBT.out k hk4) (by omega))
    rw [hp]
    generalize bt k=bb at *
    go_wp2_with fail
    refine CG.out.mono ?_
    rintro e w5 ⟨rfl,rfl⟩
    go_wp2_with fail
    refine AD.out.mono ?_
    rintro e w6 ⟨rfl,hv6,m6⟩
    have HV6:Hid (VecS w6 (fun i=>w.heap.size≤i) w.heap.size (vecL Pr bt (ks.take (j+1)))):=by rw [NX.out];exact hv6
    have HB6:Hid (Below w.heap.size w w6):=HB3.out.trans (m6.belowB HB3.out.size (fun i hi h=>by have:w.heap.size≤i:=h;omega))
    clear hv6 m6 AD HV3 HB3 CG NX
    go_wp2_with fail
    go_roundw
    case rel=>exact ⟨j+1,by omega,by go_num,HV6,HB6⟩
    case measure=>simp [intOf];omega
   ·rw [if_neg hp] at NX
    have hpf:Pr k=false:=by simpa using hp
    have HV6:Hid (VecS w3 (fun i=>w.heap.size≤i) w.heap.size (vecL Pr bt (ks.take (j+1)))):=by rw [NX.out];exact HV3.out
    rw [hpf]
    clear HV3 NX hp hpf
    go_wp2_with fail
    go_roundw
    case rel=>exact ⟨j+1,by omega,by go_num,HV6,HB3⟩
    case measure=>simp [intOf];omega
  ·obtain rfl:j=ks.length:=by omega
   rw [List.take_length] at HV
   obtain ⟨A,hv,_⟩:=HV.out
   have HVV:=Lib.hid hv
   clear hv HV
   go_wp2_with fail
   go_ret
   first | exact ⟨w.heap.size,A,rfl,HVV.out,HB.out,Nat.le_refl _⟩ | exact ⟨w.heap.size,rfl,⟨A,HVV.out⟩,HB.out,Nat.le_refl _⟩
structure MTabs (w:World):Prop where
 tab:Tab w
 nul:Nul w
 lt:2 < w.heap.size
theorem mtabs_of {W : World} (h : laidMetH Tryz.prog [("math/bits.deBruijn64tab", Rows.laid_math_bits_deBruijn64tab), ("parquetry/paren.nothing", Rows.laid_parquetry_paren_nothing)] W) : MTabs W := by
 rw [MakeChecks.laidMetH_plain _ _ _ (by kernel_rfl)] at h
 have hN:Nul W:=by
  obtain ⟨g,t,cs,fuel,p,hg,ht,hvar,hd⟩:=Lib.laidMet.reads h (List.mem_cons_of_mem _ (List.mem_cons_self ..))
  have e:(Rows.laid_parquetry_paren_nothing:DataW Unit)=.agg (([0,2147483647]:List Int).map fun z=>.lit (.int .i32 z)):=by kernel_rfl
  rw [e] at hd
  obtain rfl : g = 1 := Option.some.inj (hg.symm.trans (show Tryz.prog.globalNamed "parquetry/paren.nothing" = some 1 by kernel_rfl))
  obtain rfl:t=227:=Option.some.inj (ht.symm.trans (show (Tryz.prog.globals[1]?).map (·.type)=some 227 by kernel_rfl))
  have hc:=Lib.ints_of_struct (k:=.i32) Tryz.underlying227 (fun i f hf=>by
   rcases i with _ | _ | i
   ·simp at hf;subst hf;exact ⟨Tryz.underlying21,rfl,by kernel_rfl⟩
   ·simp at hf;subst hf;exact ⟨Tryz.underlying21,rfl,by kernel_rfl⟩
   ·simp at hf) (by kernel_rfl) hd
  have h0 := World.var?_cell (show Tryz.prog.globalNamed "parquetry/paren.nothing" = some 1 by kernel_rfl) hvar 0
  have h1 := World.var?_cell (show Tryz.prog.globalNamed "parquetry/paren.nothing" = some 1 by kernel_rfl) hvar 1
  have hc':cs=#[.int .i32 0,.int .i32 2147483647]:=by
   apply Array.toList_inj.1
   rw [hc]
   rfl
  subst hc'
  exact ⟨h0,h1⟩
 have hT:Tab W:=by
  have e:(Rows.laid_math_bits_deBruijn64tab:DataW Unit)=Lib.tabData .u8 (Lib.deBruijn64tab.map fun (x:Nat)=>(x:Int)):=by kernel_rfl
  rw [e] at h
  have hT:=Lib.tabIs_of_head (g:=2) (by kernel_rfl) (by kernel_rfl) Tryz.underlying236 Tryz.underlying5 (by kernel_rfl) (by kernel_rfl) h
  refine ⟨fun j hj=>?_⟩
  have:=hT.cell (g:=2) (by kernel_rfl) j (by simpa using hj)
  rw [this]
  simp [List.getD_eq_getElem?_getD,hj]
 exact ⟨hT,hN,World.block_lt_of_cell? _ _ (hT.at_ 0 (by decide))⟩
end Go.Proofs.YtijbdnhlpbcabaaGreatDoor
