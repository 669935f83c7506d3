/- A word: the pair around each place, and where the next place of the same vertex, or face, is. -/
import Derived.Test.YtijbdnhlpbcabaaGreatDoorZg17
import Derived.Test.YtijbdnhlpbcabaaGreatDoorZg4
import Derived.Deep.RegionHeld3
import Derived.Deep.RegionWith
import Derived.Deep.DeepCutAuto
open Go.RowKit
set_option linter.unusedVariables false
set_option linter.unusedSimpArgs false
namespace Go.Proofs.YtijbdnhlpbcabaaGreatDoor
set_option maxRecDepth 20000
theorem range_cut {A:Nat→Prop} [DecidablePred A] {i:Nat}:∀ k,(∀ p,i≤p→p < i+k→¬ A p)→((List.range (i+k)).filter fun p=>decide (A p))=(List.range i).filter fun p=>decide (A p)
 | 0,_=>rfl
 | k+1,h=>by
   rw [← Nat.add_assoc,List.range_succ,List.filter_append,range_cut k (fun p h1 h2=>h p h1 (by omega))]
   have:¬ A (i+k):=h _ (by omega) (by omega)
   simp [this]
theorem range_cut2 {A:Nat→Prop} [DecidablePred A] {i n:Nat} (hi:i≤n) (h:∀ p,i≤p→p < n→¬ A p):((List.range n).filter fun p=>decide (A p))=(List.range i).filter fun p=>decide (A p):=by
 obtain ⟨k,rfl⟩:∃ k,n=i+k:=⟨n - i,by omega⟩
 exact range_cut k h
section
variable {ks:List Nat} {tw:Nat→Nat} {s:Nat}
def nxS (s:Nat) (ks:List Nat) (tw:Nat→Nat) (i:Nat):Nat:=(if ks.getD i 0 / 2=s then tw i+1 else i+1)%ks.length
def ownP (s:Nat) (ks:List Nat) (tw:Nat→Nat) (i:Nat):Option Nat:=(UU ks tw s i).getLast?
theorem UU_end (P:Prg ks tw):UU ks tw s ks.length=[]:=by
 unfold UU
 rw [List.filter_eq_nil_iff]
 intro p hp
 have hp:p < ks.length:=by simpa using hp
 have:=P.lt p hp
 rw [decide_eq_true_iff]
 rintro ⟨_,_,q⟩
 omega
theorem UU_mem {x o:Nat} (h:o∈UU ks tw s x):o < x∧ks.getD o 0 / 2=s∧o < tw o∧x≤tw o:=by
 unfold UU at h
 rw [List.mem_filter] at h
 obtain ⟨h1,h2⟩:=h
 have h1:o < x:=by simpa using h1
 simp only [decide_eq_true_iff] at h2
 exact ⟨h1,h2.1,h2.2.1,h2.2.2⟩
theorem ownP_mem {x o:Nat} (h:ownP s ks tw x=some o):o < x∧ks.getD o 0 / 2=s∧o < tw o∧x≤tw o:=UU_mem (List.mem_of_getLast? h)
theorem ownP_zero:ownP s ks tw 0=none:=rfl
theorem ownP_end (P:Prg ks tw):ownP s ks tw ks.length=none:=by unfold ownP;rw [UU_end P];rfl
theorem ownP_open (P:Prg ks tw) {i:Nat} (hi:i < ks.length) (hs:ks.getD i 0 / 2=s) (ho:i < tw i):ownP s ks tw (i+1)=some i:=by
 unfold ownP;rw [UU_open P hi hs ho];simp
theorem ownP_close (P:Prg ks tw) (hX:NX ks tw s) {i:Nat} (hi:i < ks.length) (hs:ks.getD i 0 / 2=s) (hc:tw i < i):ownP s ks tw i=some (tw i):=by
 unfold ownP;rw [UU_last P hX hi hs hc];simp
theorem ownP_skip (P:Prg ks tw) {i:Nat} (hi:i < ks.length) (hs:ks.getD i 0 / 2≠s):ownP s ks tw (i+1)=ownP s ks tw i:=by
 unfold ownP;rw [UU_skip P hi hs]
theorem ownP_over (P:Prg ks tw) (hX:NX ks tw s) {i:Nat} (hi:i < ks.length) (hs:ks.getD i 0 / 2=s) (ho:i < tw i):ownP s ks tw (tw i+1)=ownP s ks tw i:=by
 unfold ownP
 congr 1
 have ht:=P.lt i hi
 have tt:=P.tt i hi
 have hss:=P.sort i hi
 unfold UU
 refine (range_cut2 (A:=UA ks tw s (tw i+1)) (i:=i) (by omega) fun p hp1 hp2 hA=>?_).trans ?_
 ·obtain ⟨a1,a2,a3⟩:=hA
  rcases Nat.eq_or_lt_of_le hp1 with e | e
  ·subst e;omega
  ·by_cases e2:p=tw i
   ·subst e2;rw [tt] at a2;omega
   ·exact hX i p e (by omega) (by omega) hi (by omega) hs a1
 refine filter_same i fun p hp=>?_
 unfold UA
 have hpn:p < ks.length:=by omega
 have ptt:=P.tt p hpn
 constructor
 ·rintro ⟨a1,a2,a3⟩;exact ⟨a1,a2,by omega⟩
 ·rintro ⟨a1,a2,a3⟩
  refine ⟨a1,a2,?_⟩
  have n1:tw p≠i:=fun e=>by rw [e] at ptt;omega
  have n2:tw p≠tw i:=fun e=>by rw [e,tt] at ptt;omega
  rcases Nat.lt_or_ge (tw p) (tw i) with c | c
  ·exact absurd (hX p i hp (by omega) c hpn hi a1 hs) id
  ·omega
theorem nx_lt (n0:0 < ks.length) (i:Nat):nxS s ks tw i < ks.length:=Nat.mod_lt _ n0
theorem own_nx (P:Prg ks tw) (hX:NX ks tw s) {i:Nat} (hi:i < ks.length):ownP s ks tw (nxS s ks tw i)=ownP s ks tw i:=by
 have wrap:∀ j,j < ks.length→ownP s ks tw ((j+1)%ks.length)=ownP s ks tw (j+1):=fun j hj=>by
  by_cases e:j+1=ks.length
  ·rw [e,Nat.mod_self,ownP_end P];rfl
  ·rw [Nat.mod_eq_of_lt (by omega)]
 unfold nxS
 by_cases c:ks.getD i 0 / 2=s
 ·rw [if_pos c,wrap _ (P.lt i hi)]
  have ht:=P.lt i hi
  rcases Nat.lt_trichotomy i (tw i) with d | d | d
  ·exact ownP_over P hX hi c d
  ·exact absurd d.symm (P.ne i hi)
  ·rw [ownP_open P ht (by rw [P.sort i hi];exact c) (by rw [P.tt i hi];exact d),ownP_close P hX hi c d]
 ·rw [if_neg c,wrap _ hi]
  exact ownP_skip P hi c
theorem nx_pf (P:Prg ks tw) (n0:0 < ks.length):PF ks.length (nxS s ks tw):=by
 refine ⟨fun i _=>nx_lt n0 i,fun i j hi hj e=>?_⟩
 have key:∀ a b,a < ks.length→b < ks.length→(a+1)%ks.length=(b+1)%ks.length→a=b:=fun a b ha hb e=>by
  by_cases c:a+1=ks.length
  ·by_cases d:b+1=ks.length
   ·omega
   ·rw [c,Nat.mod_self,Nat.mod_eq_of_lt (show b+1 < ks.length by omega)] at e;omega
  ·rw [Nat.mod_eq_of_lt (show a+1 < ks.length by omega)] at e
   by_cases d:b+1=ks.length
   ·rw [d,Nat.mod_self] at e;omega
   ·rw [Nat.mod_eq_of_lt (show b+1 < ks.length by omega)] at e;omega
 unfold nxS at e
 have si:=P.sort i hi
 have sj:=P.sort j hj
 by_cases c:ks.getD i 0 / 2=s
 ·by_cases d:ks.getD j 0 / 2=s
  ·rw [if_pos c,if_pos d] at e
   have:=key _ _ (P.lt i hi) (P.lt j hj) e
   rw [← P.tt i hi,this,P.tt j hj]
  ·rw [if_pos c,if_neg d] at e
   have:=key _ _ (P.lt i hi) hj e
   rw [this] at si;omega
 ·by_cases d:ks.getD j 0 / 2=s
  ·rw [if_neg c,if_pos d] at e
   have:=key _ _ hi (P.lt j hj) e
   rw [← this] at sj;omega
  ·rw [if_neg c,if_neg d] at e
   exact key _ _ hi hj e
theorem orb_ext {f:Nat→Nat} {a i:Nat} (h:Orb f a i):Orb f a (f i):=by
 obtain ⟨k,e⟩:=h
 exact ⟨k+1,by show f _=_;rw [e]⟩
theorem own_reach (P:Prg ks tw) (hX:NX ks tw s):∀ i,i < ks.length→(ownP s ks tw i=none→Orb (nxS s ks tw) 0 i)∧∀ o,ownP s ks tw i=some o→Orb (nxS s ks tw) (tw o) i:=by
 intro i
 induction i using Nat.strongRecOn with
 | _ i ih =>
   intro hi
   cases i with
   | zero=>exact ⟨fun _=>⟨0,rfl⟩,fun o h=>(by rw [ownP_zero] at h;cases h)⟩
   | succ j =>
     have hj:j < ks.length:=by omega
     by_cases c:ks.getD j 0 / 2=s
     ·rcases Nat.lt_trichotomy j (tw j) with d | d | d
      ·have e:=ownP_open P hj c d
       refine ⟨fun h=>(by rw [e] at h;cases h),fun o h=>?_⟩
       rw [e] at h;cases h
       refine ⟨1,?_⟩
       show nxS s ks tw (tw j)=_
       unfold nxS
       rw [if_pos (by rw [P.sort j hj];exact c),P.tt j hj,Nat.mod_eq_of_lt hi]
      ·exact absurd d.symm (P.ne j hj)
      ·have ht:=P.lt j hj
       have e1:nxS s ks tw (tw j)=j+1:=by
        unfold nxS
        rw [if_pos (by rw [P.sort j hj];exact c),P.tt j hj,Nat.mod_eq_of_lt hi]
       have e2:=own_nx (s:=s) P hX ht
       rw [e1] at e2
       obtain ⟨a,b⟩:=ih (tw j) (by omega) ht
       refine ⟨fun h=>?_,fun o h=>?_⟩
       ·have:=orb_ext (a (by rw [← e2];exact h));rwa [e1] at this
       ·have:=orb_ext (b o (by rw [← e2];exact h));rwa [e1] at this
     ·have e1:nxS s ks tw j=j+1:=by unfold nxS;rw [if_neg c,Nat.mod_eq_of_lt hi]
      have e2:=own_nx (s:=s) P hX hj
      rw [e1] at e2
      obtain ⟨a,b⟩:=ih j (by omega) hj
      refine ⟨fun h=>?_,fun o h=>?_⟩
      ·have:=orb_ext (a (by rw [← e2];exact h));rwa [e1] at this
      ·have:=orb_ext (b o (by rw [← e2];exact h));rwa [e1] at this
theorem own_orb (P:Prg ks tw) (hX:NX ks tw s) (n0:0 < ks.length) {i j:Nat} (hi:i < ks.length) (hj:j < ks.length):Orb (nxS s ks tw) i j↔ownP s ks tw i=ownP s ks tw j:=by
 have E:=(nx_pf (s:=s) P n0).eqv
 constructor
 ·rintro ⟨k,rfl⟩
  have key:∀ k,itf (nxS s ks tw) k i < ks.length∧ownP s ks tw (itf (nxS s ks tw) k i)=ownP s ks tw i:=fun k=>by
   induction k with
   | zero=>exact ⟨hi,rfl⟩
   | succ k ih=>exact ⟨nx_lt n0 _,by show ownP s ks tw (nxS s ks tw _)=_;rw [own_nx P hX ih.1,ih.2]⟩
  exact (key k).2.symm
 ·intro e
  obtain ⟨a,b⟩:=own_reach P hX i hi
  obtain ⟨a',b'⟩:=own_reach P hX j hj
  cases h:ownP s ks tw i with
  | none=>exact E.trans i 0 j hi n0 hj (E.symm 0 i n0 hi (a h)) (a' (by rw [← e];exact h))
  | some o =>
    have hm:=ownP_mem h
    have ho:tw o < ks.length:=P.lt o (by omega)
    exact E.trans i (tw o) j hi ho hj (E.symm _ _ ho hi (b o h)) (b' o (by rw [← e];exact h))
end
structure Wd (ks:List Nat) (tw:Nat→Nat):Prop where
 P:Prg ks tw
 x0:NX ks tw 0
 x1:NX ks tw 1
 at_:∀ i,i < ks.length→MateAt ks i (tw i)
theorem Wd.of {ks:List Nat} {tw:Nat→Nat} (P:Prg ks tw) (hM:∀ i,i < ks.length→MateAt ks i (tw i)):Wd ks tw :=
 ⟨P,mate_nx P fun x hx _=>hM x hx,mate_nx P fun x hx _=>hM x hx,hM⟩
theorem Wd.nx {ks:List Nat} {tw:Nat→Nat} (P:Prg ks tw) (x0:NX ks tw 0) (x1:NX ks tw 1):Wd ks tw :=
 ⟨P,x0,x1,fun i hi=>by
  have:=P.kd.getD i
  have h:ks.getD i 0 / 2=0∨ks.getD i 0 / 2=1:=by omega
  rcases h with h | h
  ·exact mate_of P x0 hi h
  ·exact mate_of P x1 hi h⟩
theorem Wd.uniq {ks:List Nat} {tw tw':Nat→Nat} (h:Wd ks tw) (h':Wd ks tw') {i:Nat} (hi:i < ks.length):tw i=tw' i:=matAt_uniq (h.at_ i hi) (h'.at_ i hi)
theorem Wd.nm {ks:List Nat} {tw tw':Nat→Nat} (h:Wd ks tw) (h':Wd ks tw') {i:Nat} (hi:i < ks.length):nmF ks tw i=nmF ks tw' i:=by
 unfold nmF;rw [h.uniq h' hi]
theorem last_ge:∀ (L:List Nat),L.Pairwise (· < ·)→∀ j∈L,∃ o,L.getLast?=some o∧j≤o:=by
 intro L
 induction L with
 | nil=>intro _ j hj;simp at hj
 | cons a L ih =>
   intro hp j hj
   rw [List.pairwise_cons] at hp
   cases L with
   | nil=>simp at hj;subst hj;exact ⟨j,rfl,Nat.le_refl _⟩
   | cons c L =>
     rcases List.mem_cons.1 hj with e | e
     ·subst e
      obtain ⟨o,h1,h2⟩:=ih hp.2 c (by simp)
      have:=hp.1 c (by simp)
      exact ⟨o,by simpa using h1,by omega⟩
     ·obtain ⟨o,h1,h2⟩:=ih hp.2 j e
      exact ⟨o,by simpa using h1,h2⟩
theorem UU_pw (ks:List Nat) (tw:Nat→Nat) (s x:Nat):(UU ks tw s x).Pairwise (· < ·):=List.Pairwise.filter _ List.pairwise_lt_range
theorem own_ge {ks:List Nat} {tw:Nat→Nat} {s j x:Nat} (hs:ks.getD j 0 / 2=s) (h1:j < x) (h2:x≤tw j):∃ o,ownP s ks tw x=some o∧j≤o:=by
 refine last_ge _ (UU_pw ks tw s x) j ?_
 unfold UU
 rw [List.mem_filter]
 exact ⟨by simpa using h1,by simp only [decide_eq_true_iff];exact ⟨hs,by omega,h2⟩⟩
theorem rise_next {L:List Nat} (hp:L.Pairwise (· < ·)) {k c:Nat} (hk:k < L.length) (hc:c∈L) (h1:L.getD k 0 < c) (h2:∀ x∈L,¬ (L.getD k 0 < x∧x < c)):k+1 < L.length∧L.getD (k+1) 0=c:=by
 have g:∀ i (hi:i < L.length),L.getD i 0=L[i]:=fun i hi=>by rw [List.getD_eq_getElem?_getD,List.getElem?_eq_getElem hi];rfl
 rw [List.pairwise_iff_getElem] at hp
 obtain ⟨m,hm,e⟩:=List.getElem_of_mem hc
 rw [g k hk] at h1 h2
 have hkm:k < m:=by
  rcases Nat.lt_trichotomy k m with q | q | q
  ·exact q
  ·subst q;omega
  ·have:=hp m k hm hk q;omega
 have hk1:k+1 < L.length:=by omega
 refine ⟨hk1,?_⟩
 rw [g _ hk1]
 rcases Nat.eq_or_lt_of_le (show k+1≤m by omega) with q | q
 ·rw [← e];congr 1
 ·exact absurd ⟨hp k (k+1) hk hk1 (by omega),by have:=hp (k+1) m hk1 hm q;omega⟩ (h2 _ (List.getElem_mem hk1))
theorem rise_last {L:List Nat} (hp:L.Pairwise (· < ·)) {k c:Nat} (hk:k < L.length) (hc:c∈L) (h1:∀ x∈L,x≤L.getD k 0) (h2:∀ x∈L,c≤x):¬ k+1 < L.length∧L.getD 0 0=c:=by
 have g:∀ i (hi:i < L.length),L.getD i 0=L[i]:=fun i hi=>by rw [List.getD_eq_getElem?_getD,List.getElem?_eq_getElem hi];rfl
 rw [List.pairwise_iff_getElem] at hp
 rw [g k hk] at h1
 have h0:0 < L.length:=by omega
 refine ⟨fun q=>?_,?_⟩
 ·have a:=hp k (k+1) hk q (by omega)
  have:=h1 _ (List.getElem_mem q)
  omega
 ·rw [g 0 h0]
  obtain ⟨m,hm,e⟩:=List.getElem_of_mem hc
  have a:=h2 _ (List.getElem_mem h0)
  rcases Nat.eq_zero_or_pos m with q | q
  ·subst q;exact e
  ·have:=hp 0 m h0 hm q;omega
def plL (ks:List Nat) (tw:Nat→Nat) (q:Option Nat) (i:Nat):List Nat:=(List.range i).filter fun j=>decide (ownP 0 ks tw j=q)
theorem plL_pw (ks:List Nat) (tw:Nat→Nat) (q:Option Nat) (i:Nat):(plL ks tw q i).Pairwise (· < ·):=List.Pairwise.filter _ List.pairwise_lt_range
theorem plL_mem {ks:List Nat} {tw:Nat→Nat} {q:Option Nat} {i x:Nat}:x∈plL ks tw q i↔x < i∧ownP 0 ks tw x=q:=by
 unfold plL;rw [List.mem_filter];simp
theorem plL_in {ks:List Nat} {tw:Nat→Nat} {q:Option Nat} {i:Nat} (h:ownP 0 ks tw i=q):plL ks tw q (i+1)=plL ks tw q i++[i]:=by
 unfold plL;rw [List.range_succ,List.filter_append];simp [h]
theorem plL_out {ks:List Nat} {tw:Nat→Nat} {q:Option Nat} {i:Nat} (h:ownP 0 ks tw i≠q):plL ks tw q (i+1)=plL ks tw q i:=by
 unfold plL;rw [List.range_succ,List.filter_append];simp [h]
theorem Wd.next {ks:List Nat} {tw:Nat→Nat} (h:Wd ks tw) {q:Option Nat} {k j:Nat} (hk:k < (plL ks tw q ks.length).length) (hj:(plL ks tw q ks.length).getD k 0=j) :
  nxR (plL ks tw q ks.length) k=nxS 0 ks tw j:=by
 have hpw:=plL_pw ks tw q ks.length
 have hjm:j∈plL ks tw q ks.length:=by
  rw [← hj,List.getD_eq_getElem?_getD,List.getElem?_eq_getElem hk];exact List.getElem_mem hk
 obtain ⟨hjn,hjq⟩:=plL_mem.1 hjm
 have n0:0 < ks.length:=by omega
 have hc:nxS 0 ks tw j∈plL ks tw q ks.length:=plL_mem.2 ⟨nx_lt n0 j,by rw [own_nx h.P h.x0 hjn];exact hjq⟩
 have step:(j < nxS 0 ks tw j∧∀ x∈plL ks tw q ks.length,¬ (j < x∧x < nxS 0 ks tw j))∨((∀ x∈plL ks tw q ks.length,x≤j)∧∀ x∈plL ks tw q ks.length,nxS 0 ks tw j≤x):=by
  unfold nxS
  by_cases c:ks.getD j 0 / 2=0
  ·rw [if_pos c]
   have ht:=h.P.lt j hjn
   rcases Nat.lt_trichotomy j (tw j) with d | d | d
   ·have no:∀ x∈plL ks tw q ks.length,¬ (j < x∧x≤tw j):=fun x hx ⟨a,b⟩=>by
     obtain ⟨_,xq⟩:=plL_mem.1 hx
     obtain ⟨o,e,e2⟩:=own_ge c a b
     rw [xq,← hjq] at e
     have:=(ownP_mem e).1
     omega
    by_cases e:tw j+1=ks.length
    ·rw [e,Nat.mod_self]
     refine .inr ⟨fun x hx=>?_,fun x _=>Nat.zero_le x⟩
     have:=(plL_mem.1 hx).1
     have:=no x hx
     omega
    ·rw [Nat.mod_eq_of_lt (by omega)]
     exact .inl ⟨by omega,fun x hx ⟨a,b⟩=>no x hx ⟨a,by omega⟩⟩
   ·exact absurd d.symm (h.P.ne j hjn)
   ·rw [Nat.mod_eq_of_lt (show tw j+1 < ks.length by omega)]
    have oc:=ownP_close h.P h.x0 hjn c d
    have al:∀ x∈plL ks tw q ks.length,tw j < x∧x≤j:=fun x hx=>by
     obtain ⟨_,xq⟩:=plL_mem.1 hx
     rw [← hjq,oc] at xq
     have:=ownP_mem xq
     rw [h.P.tt j hjn] at this
     exact ⟨this.1,this.2.2.2⟩
    exact .inr ⟨fun x hx=>(al x hx).2,fun x hx=>(al x hx).1⟩
  ·rw [if_neg c]
   by_cases e:j+1=ks.length
   ·rw [e,Nat.mod_self]
    refine .inr ⟨fun x hx=>?_,fun x _=>Nat.zero_le x⟩
    have:=(plL_mem.1 hx).1
    omega
   ·rw [Nat.mod_eq_of_lt (by omega)]
    exact .inl ⟨by omega,fun x hx ⟨a,b⟩=>by omega⟩
 unfold nxR
 rcases step with ⟨a,b⟩ | ⟨a,b⟩
 ·obtain ⟨c,d⟩:=rise_next hpw hk hc (by rw [hj];exact a) (fun x hx=>by rw [hj];exact b x hx)
  rw [if_pos c,d]
 ·obtain ⟨c,d⟩:=rise_last hpw hk hc (fun x hx=>by rw [hj];exact a x hx) b
  rw [if_neg c,d]
def TurnW (ks:List Nat) (tw:Nat→Nat) (l:List Nat):Prop:=l.length=ks.length∧∀ i,i < ks.length→sgL l (nmF ks tw i)=nmF ks tw (nxS 0 ks tw i)
end Go.Proofs.YtijbdnhlpbcabaaGreatDoor
namespace Go.Proofs.YtijbdnhlpbcabaaGreatDoor
set_option maxRecDepth 20000
theorem info_walker:(Tryz.prog.info? 120).map (·.size)=some 3:=by kernel_rfl
structure WMem (B gk ck gm cm m V:Nat) (K:List Int) (M:List Bool) (W:World):Prop where
 ok:W.ownsRow B 3 1 (.slice (some ⟨gk,0,none⟩) m ck) m (I64 K)
 om:W.ownsRow B 4 1 (.slice (some ⟨gm,0,none⟩) V cm) V (Bl M)
theorem WMem.below {B gk ck gm cm m V:Nat} {K:List Int} {M:List Bool} {W W':World} (h:WMem B gk ck gm cm m V K M W) (z:Below W.heap.size W W'):WMem B gk ck gm cm m V K M W':=⟨own_below h.ok z,own_below h.om z⟩
theorem WMem.ne {B gk ck gm cm m V:Nat} {K:List Int} {M:List Bool} {W:World} (h:WMem B gk ck gm cm m V K M W):gk≠gm:=fun e=>by
 subst e
 exact own_own_ne h.ok h.om (by decide) gk rfl rfl
theorem WMem.setK {B gk ck gm cm m V:Nat} {K:List Int} {M:List Bool} {W:World} (h:WMem B gk ck gm cm m V K M W) (i:Nat) (v:Int):WMem B gk ck gm cm m V (K.set i v) M (W.setCell ⟨gk,i,none⟩ (.int .i64 v)) :=
 ⟨own_setI h.ok i v,own_mod h.om (Mod.setCell (p:=⟨gk,i,none⟩) (Mod.refl (fun x=>x=gk) W) (fun _=>rfl) (.int .i64 v)) (fun x hx e=>by
  have:=h.ne
  simp [Value.ownBlock] at hx
  omega)⟩
theorem WMem.setM {B gk ck gm cm m V:Nat} {K:List Int} {M:List Bool} {W:World} (h:WMem B gk ck gm cm m V K M W) (i:Nat) (v:Bool):WMem B gk ck gm cm m V K (M.set i v) (W.setCell ⟨gm,i,none⟩ (.bool v)) :=
 ⟨own_mod h.ok (Mod.setCell (p:=⟨gm,i,none⟩) (Mod.refl (fun x=>x=gm) W) (fun _=>rfl) (.bool v)) (fun x hx e=>by
  have:=h.ne
  simp [Value.ownBlock] at hx
  omega),own_setB h.om i v⟩
abbrev wval (g gk ck gm cm m V:Nat):Value:=.agg #[.pointer (some ⟨g,0,none⟩),.slice (some ⟨gk,0,none⟩) m ck,.slice (some ⟨gm,0,none⟩) V cm]
set_option maxHeartbeats 4000000 in
theorem wnext_p (B g:Nat) (l b:List Nat) (root lone:Int) (w:World) (gk ck gm cm m V d k:Nat) (W:World) (HM:Hid (∀ W',Below B w W'→MapAt W' g l b root lone)) (hbe:Below B w W) (hB:B≤w.heap.size) (hd:d < l.length) (hk:k < 4) :
  Calls Tryz.prog 90 #[wval g gk ck gm cm m V,.agg #[.int .i64 (d:Int),.int .i64 (k:Int)]] W fun e w'=>e=.returned (.int .i64 ((wNx (sgL l) d k:Nat):Int))∧Below W.heap.size W w':=by
 have hev:l.length%2=0:=(HM.out _ hbe).1.1
 obtain ⟨md,hmd⟩:∃ md,md=mt d:=⟨_,rfl⟩
 have hml:md < l.length:=by rw [hmd];exact mt_lt (m:=l.length / 2) (by omega) hd
 obtain ⟨S,hS⟩:∃ S,S=wNx (sgL l) d k:=⟨_,rfl⟩
 rw [← hS]
 have hS1:k < 2→S=sgL l md:=fun h=>by rw [hS,hmd];unfold wNx;rw [if_pos h]
 have hS2:¬ k < 2→S=sgL l d:=fun h=>by rw [hS];unfold wNx;rw [if_neg h]
 obtain ⟨q,hq⟩:∃ q:Int,q=(k:Int):=⟨_,rfl⟩
 rw [← hq]
 have hq4:q=0∨q=1∨q=2∨q=3:=by omega
 have low:(q=0∨q=1)→S=sgL l md:=fun h=>hS1 (by omega)
 have high:(q=2∨q=3)→S=sgL l d:=fun h=>hS2 (by omega)
 have HLO:=Lib.hid low
 have HHI:=Lib.hid high
 have HQ4:=Lib.hid hq4
 clear low high hS1 hS2 hS hk hq4 hq
 have Z0:=Below.refl W.heap.size W
 have Z1:=Z0.alloc (Nat.le_refl _) (.cells #[.pointer (some ⟨g,0,none⟩),.slice (some ⟨gk,0,none⟩) m ck,.slice (some ⟨gm,0,none⟩) V cm] 120)
 have Z2:=Lib.hid (Z1.alloc Z1.size (.cells #[.int .i64 (d:Int),.int .i64 q] 123))
 have hbs:B≤W.heap.size:=Nat.le_trans hB hbe.size
 have MP:Hid (∀ W',Below W.heap.size W W'→Calls Tryz.prog 87 #[.pointer (some ⟨g,0,none⟩),.int .i64 (d:Int)] W' fun e w'=>e=.returned (.int .i64 (md:Int))∧Below W'.heap.size W' w'):=fun W' z=>by
  have:=mate_in g l b root lone d W' (HM.out _ (hbe.trans (z.mono hbs))) hd
  rw [mt_mateN] at this
  rw [hmd]
  exact this
 have SP:Hid (∀ x,x < l.length→∀ W',Below W.heap.size W W'→Calls Tryz.prog 104 #[.pointer (some ⟨g,0,none⟩),.int .i64 (x:Int)] W' fun e w'=>e=.returned (.int .i64 ((sgL l x:Nat):Int))∧Below W'.heap.size W' w'):=fun x hx W' z=>sigma_in g l b root lone x W' (HM.out _ (hbe.trans (z.mono hbs))) hx
 have BW:=Lib.hid ((Blk.new W 120 #[.pointer (some ⟨g,0,none⟩),.slice (some ⟨gk,0,none⟩) m ck,.slice (some ⟨gm,0,none⟩) V cm]).alloc (.cells #[.int .i64 (d:Int),.int .i64 q] 123))
 have BS:=Blk.new (W.alloc (.cells #[.pointer (some ⟨g,0,none⟩),.slice (some ⟨gk,0,none⟩) m ck,.slice (some ⟨gm,0,none⟩) V cm] 120)) 123 #[.int .i64 (d:Int),.int .i64 q]
 rw [show (W.alloc (.cells #[.pointer (some ⟨g,0,none⟩),.slice (some ⟨gk,0,none⟩) m ck,.slice (some ⟨gm,0,none⟩) V cm] 120)).heap.size=W.heap.size+1 by simp] at BS
 have HBS:=Lib.hid BS
 clear BS Z0 Z1 HM hbe
 go_enter Tryz.func90,Tryz.ntmps90
 go_upto_region 1 with fail
 generalize (W.alloc (.cells #[.pointer (some ⟨g,0,none⟩),.slice (some ⟨gk,0,none⟩) m ck,.slice (some ⟨gm,0,none⟩) V cm] 120)).alloc (.cells #[.int .i64 (d:Int),.int .i64 q] 123)=w2 at *
 have b0:=BW.out.cell 0
 have s0:=HBS.out.cell 0
 have s1:=HBS.out.cell 1
 simp at b0 s0 s1
 have SK:Hid (∀ W',Below w2.heap.size w2 W'→Below W.heap.size W W'∧W'.cell? ⟨W.heap.size,0,none⟩=some (.pointer (some ⟨g,0,none⟩))∧W'.cell? ⟨W.heap.size+1,0,none⟩=some (.int .i64 (d:Int))):=fun W' z =>
  ⟨Z2.out.trans (z.mono Z2.out.size),by have:=(BW.out.below z).cell 0;simpa using this,by have:=(HBS.out.below z).cell 0;simpa using this⟩
 have MP2:Hid (∀ W',Below w2.heap.size w2 W'→Calls Tryz.prog 87 #[.pointer (some ⟨g,0,none⟩),.int .i64 (d:Int)] W' fun e w'=>e=.returned (.int .i64 (md:Int))∧Below w2.heap.size w2 w'):=fun W' z =>
  (MP.out W' (SK.out W' z).1).mono fun e w' ⟨h1,h2⟩=>⟨h1,z.trans (h2.mono z.size)⟩
 have SP2:Hid (∀ x,x < l.length→∀ W',Below w2.heap.size w2 W'→Calls Tryz.prog 104 #[.pointer (some ⟨g,0,none⟩),.int .i64 (x:Int)] W' fun e w'=>e=.returned (.int .i64 ((sgL l x:Nat):Int))∧Below w2.heap.size w2 w'):=fun x hx W' z =>
  (SP.out x hx W' (SK.out W' z).1).mono fun e w' ⟨h1,h2⟩=>⟨h1,z.trans (h2.mono z.size)⟩
 clear hmd
 have hq4:=HQ4.out
 clear HQ4
 rcases hq4 with rfl | rfl | rfl | rfl
 ·have hSS:=HLO.out (by omega)
  have SMD:=Lib.hid (SP2.out md hml)
  rw [← hSS] at SMD
  clear hSS HLO HHI hml
  go_wp2_with fail
  have hba0:=Below.refl w2.heap.size w2
  have hba1:=hba0.drew
  obtain ⟨_,x0,x1⟩:=SK.out _ hba0
  obtain ⟨_,xx0,xx1⟩:=SK.out _ hba1
  go_region_held3 (fun W'=>Below w2.heap.size w2 W'∧W'.cell? ⟨W.heap.size,0,none⟩=some (.pointer (some ⟨g,0,none⟩))∧W'.cell? ⟨W.heap.size+1,0,none⟩=some (.int .i64 (d:Int)))
   (exact ⟨by assumption,(SK.out _ (by assumption)).2⟩)
   (first
   | (go_at_call 87;(with_reducible refine (MP2.out _ (by assumption)).mono ?_);rintro e wa ⟨rfl,hba⟩)
   | (go_at_call 104;(with_reducible refine (SMD.out _ (by assumption)).mono ?_);rintro e wa ⟨rfl,hba⟩))
  all_goals (
   go_wp2_with fail
   go_ret
   exact ⟨rfl,(SK.out _ (by assumption)).1⟩)
 ·have hSS:=HLO.out (by omega)
  have SMD:=Lib.hid (SP2.out md hml)
  rw [← hSS] at SMD
  clear hSS HLO HHI hml
  go_wp2_with fail
  have hba0:=Below.refl w2.heap.size w2
  have hba1:=hba0.drew
  obtain ⟨_,x0,x1⟩:=SK.out _ hba0
  obtain ⟨_,xx0,xx1⟩:=SK.out _ hba1
  go_region_held3 (fun W'=>Below w2.heap.size w2 W'∧W'.cell? ⟨W.heap.size,0,none⟩=some (.pointer (some ⟨g,0,none⟩))∧W'.cell? ⟨W.heap.size+1,0,none⟩=some (.int .i64 (d:Int)))
   (exact ⟨by assumption,(SK.out _ (by assumption)).2⟩)
   (first
   | (go_at_call 87;(with_reducible refine (MP2.out _ (by assumption)).mono ?_);rintro e wa ⟨rfl,hba⟩)
   | (go_at_call 104;(with_reducible refine (SMD.out _ (by assumption)).mono ?_);rintro e wa ⟨rfl,hba⟩))
  all_goals (
   go_wp2_with fail
   go_ret
   exact ⟨rfl,(SK.out _ (by assumption)).1⟩)
 ·have hSS:=HHI.out (by omega)
  have SMD:=Lib.hid (SP2.out d hd)
  rw [← hSS] at SMD
  clear hSS HLO HHI hml
  have hba0:=Below.refl w2.heap.size w2
  go_wp2_with fail
  refine (SMD.out _ hba0).mono ?_
  rintro e wa ⟨rfl,hba⟩
  go_wp2_with fail
  go_ret
  exact ⟨rfl,(SK.out _ (by assumption)).1⟩
 ·have hSS:=HHI.out (by omega)
  have SMD:=Lib.hid (SP2.out d hd)
  rw [← hSS] at SMD
  clear hSS HLO HHI hml
  have hba0:=Below.refl w2.heap.size w2
  go_wp2_with fail
  refine (SMD.out _ hba0).mono ?_
  rintro e wa ⟨rfl,hba⟩
  go_wp2_with fail
  go_ret
  exact ⟨rfl,(SK.out _ (by assumption)).1⟩
set_option maxHeartbeats 8000000 in
theorem wlook_p (B g:Nat) (l b:List Nat) (root lone:Int) (w:World) (gk ck gm cm m V d:Nat) (K:List Int) (M:List Bool) (W:World) (HM:Hid (∀ W',Below B w W'→MapAt W' g l b root lone)) (hbe:Below B w W) (hB:B≤w.heap.size)
  (hd:d < l.length) (hm:m=l.length / 2) (hV:∀ x,x < l.length→nameOf l x < V) (H:WMem B gk ck gm cm m V K M W) :
  Calls Tryz.prog 89 #[wval g gk ck gm cm m V,.int .i64 (d:Int)] W fun e w'=>e=.returned (.int .i64 ((wKd (nameOf l) K M d:Nat):Int))∧WMem B gk ck gm cm m V (wK1 K d (wKd (nameOf l) K M d)) (wM1 (nameOf l) M d (wKd (nameOf l) K M d)) w'∧Mod (fun i=>i=gk∨i=gm) W w':=by
 have hev:l.length%2=0:=(HM.out _ hbe).1.1
 have hle:=(HM.out _ hbe).2.1
 obtain ⟨md,hmd⟩:∃ md,md=mt d:=⟨_,rfl⟩
 have hml:md < l.length:=by rw [hmd];exact mt_lt (m:=l.length / 2) (by omega) hd
 obtain ⟨v,hv⟩:∃ v,v=nameOf l md:=⟨_,rfl⟩
 have hvV:v < V:=by rw [hv];exact hV _ hml
 obtain ⟨ed,hed⟩:∃ ed,ed=d / 2:=⟨_,rfl⟩
 have hem:ed < m:=by omega
 have e1:(d:Int) / 2=(ed:Int):=by omega
 have e2:(d:Int).tdiv 2=(ed:Int):=by rw [Int.tdiv_eq_ediv_of_nonneg (by omega)];exact e1
 have hwe:IntKind.i64.wrap (ed:Int)=(ed:Int):=by simp [IntKind.wrap,IntKind.signed,IntKind.bits];omega
 obtain ⟨kv,hkv⟩:∃ kv,kv=K.getD ed 0:=⟨_,rfl⟩
 obtain ⟨mv,hmv⟩:∃ mv,mv=M.getD v false:=⟨_,rfl⟩
 have hKD:wKd (nameOf l) K M d=if kv=0 then 1 else if kv=2 then 3 else if mv=true then 2 else 0:=by unfold wKd;rw [← hed,← hkv,← hmd,← hv,← hmv]
 obtain ⟨kd,hkd⟩:∃ kd,kd=wKd (nameOf l) K M d:=⟨_,rfl⟩
 rw [← hkd] at hKD ⊢
 have HK1:Hid (wK1 K d kd=if kd%2=0 then K.set ed kd else K):=by show _=_;unfold wK1;rw [hed]
 have HM1:Hid (wM1 (nameOf l) M d kd=if kd=0 then M.set v true else M):=by show _=_;unfold wM1;rw [hv,hmd]
 have hbs:B≤W.heap.size:=Nat.le_trans hB hbe.size
 have hgm:=own_block H.om
 have hgk:=own_block H.ok
 have hne:=H.ne
 have hck:=own_cellI H.ok ed hem
 have hfk:=H.ok.frozenAt ed
 have hcm:=own_cellB H.om v hvV
 have hfm:=H.om.frozenAt v
 rw [← hkv] at hck
 rw [← hmv] at hcm
 have Z1:=Lib.hid ((Below.refl W.heap.size W).alloc (Nat.le_refl _) (.cells #[.pointer (some ⟨g,0,none⟩),.slice (some ⟨gk,0,none⟩) m ck,.slice (some ⟨gm,0,none⟩) V cm] 120))
 have BW:=Lib.hid (Blk.new W 120 #[.pointer (some ⟨g,0,none⟩),.slice (some ⟨gk,0,none⟩) m ck,.slice (some ⟨gm,0,none⟩) V cm])
 have MP:Hid (∀ W',Below W.heap.size W W'→Calls Tryz.prog 87 #[.pointer (some ⟨g,0,none⟩),.int .i64 (d:Int)] W' fun e w'=>e=.returned (.int .i64 (md:Int))∧Below W'.heap.size W' w'):=fun W' z=>by
  have:=mate_in g l b root lone d W' (HM.out _ (hbe.trans (z.mono hbs))) hd
  rw [mt_mateN] at this
  rw [hmd]
  exact this
 have VP:Hid (∀ W',Below W.heap.size W W'→Calls Tryz.prog 46 #[.pointer (some ⟨g,0,none⟩),.int .i64 (md:Int)] W' fun e w'=>e=.returned (.int .i64 (v:Int))∧Below W'.heap.size W' w'):=fun W' z=>by
  rw [hv];exact vertex_in g l b root lone md W' (HM.out _ (hbe.trans (z.mono hbs))) hml
 have HH:=Lib.hid H
 have HKD:=Lib.hid hKD
 have HBE:=Lib.hid hbe
 have HC:=Lib.hid (And.intro hck (And.intro hfk (And.intro hcm hfm)))
 clear H hkv hmv hkd hKD hbe hv hmd hed HM hV hev hm hck hfk hcm hfm
 generalize wK1 K d kd=K' at *
 generalize wM1 (nameOf l) M d kd=M' at *
 go_enter Tryz.func89,Tryz.ntmps89
 go_upto_region 1 with fail
 have hws:(W.alloc (.cells #[.pointer (some ⟨g,0,none⟩),.slice (some ⟨gk,0,none⟩) m ck,.slice (some ⟨gm,0,none⟩) V cm] 120)).heap.size=W.heap.size+1:=by simp
 generalize W.alloc (.cells #[.pointer (some ⟨g,0,none⟩),.slice (some ⟨gk,0,none⟩) m ck,.slice (some ⟨gm,0,none⟩) V cm] 120)=w2 at *
 have SK:Hid (∀ W',Below w2.heap.size w2 W'→Below W.heap.size W W'∧W'.cell? ⟨W.heap.size,0,none⟩=some (.pointer (some ⟨g,0,none⟩))):=fun W' z =>
  ⟨Z1.out.trans (z.mono Z1.out.size),by have:=(BW.out.below z).cell 0;simpa using this⟩
 have MP2:Hid (∀ W',Below w2.heap.size w2 W'→Calls Tryz.prog 87 #[.pointer (some ⟨g,0,none⟩),.int .i64 (d:Int)] W' fun e w'=>e=.returned (.int .i64 (md:Int))∧Below w2.heap.size w2 w'):=fun W' z =>
  (MP.out W' (SK.out W' z).1).mono fun e w' ⟨h1,h2⟩=>⟨h1,z.trans (h2.mono z.size)⟩
 have VP2:Hid (∀ W',Below w2.heap.size w2 W'→Calls Tryz.prog 46 #[.pointer (some ⟨g,0,none⟩),.int .i64 (md:Int)] W' fun e w'=>e=.returned (.int .i64 (v:Int))∧Below w2.heap.size w2 w'):=fun W' z =>
  (VP.out W' (SK.out W' z).1).mono fun e w' ⟨h1,h2⟩=>⟨h1,z.trans (h2.mono z.size)⟩
 clear MP VP
 go_cut [5,6] (fun s5 s6 wx=>s5=.int .i64 (ed:Int)∧s6=.int .i64 (v:Int)∧Below w2.heap.size w2 wx)
 case first =>
  have hba0:=Below.refl w2.heap.size w2
  have hba1:=hba0.drew
  have x0:=(SK.out _ hba0).2
  have xx0:=(SK.out _ hba1).2
  go_region_held3 (fun W'=>Below w2.heap.size w2 W'∧W'.cell? ⟨W.heap.size,0,none⟩=some (.pointer (some ⟨g,0,none⟩)))
   (exact ⟨by assumption,(SK.out _ (by assumption)).2⟩)
   (first
   | (go_at_call 87;(with_reducible refine (MP2.out _ (by assumption)).mono ?_);rintro e wa ⟨rfl,hba⟩)
   | (go_at_call 46;(with_reducible refine (VP2.out _ (by assumption)).mono ?_);rintro e wa ⟨rfl,hba⟩))
  all_goals (go_wp2_with fail;go_meet;exact ⟨rfl,rfl,by assumption⟩)
 case rest =>
  obtain ⟨rfl,rfl,z5⟩:=hcut
  obtain ⟨wd,rfl⟩:∃ wd,wd=wc:=⟨_,rfl⟩
  have z6:=(SK.out _ z5).1
  have HD:=Lib.hid (HH.out.below z6)
  have BX:=Lib.hid (BW.out.below z5)
  have bx1:wd.cell? ⟨W.heap.size,1,none⟩=some (.slice (some ⟨gk,0,none⟩) m ck):=by have:=BX.out.cell 1;simpa using this
  have bx2:wd.cell? ⟨W.heap.size,2,none⟩=some (.slice (some ⟨gm,0,none⟩) V cm):=by have:=BX.out.cell 2;simpa using this
  have hck:wd.cell? ⟨gk,ed,none⟩=some (.int .i64 kv):=(z6.cell (p:=⟨gk,ed,none⟩) hgk.2).trans HC.out.1
  have hcm:wd.cell? ⟨gm,v,none⟩=some (.bool mv):=(z6.cell (p:=⟨gm,v,none⟩) hgm.2).trans HC.out.2.2.1
  have hfk:=HD.out.ok.frozenAt ed
  have hfm:=HD.out.om.frozenAt v
  have n1:gk≠W.heap.size:=by omega
  have n2:gm≠W.heap.size:=by omega
  have n3:W.heap.size≠gk:=by omega
  have n4:W.heap.size≠gm:=by omega
  have n5:gm≠gk:=fun e=>hne e.symm
  have MM:Hid (Mod (fun i=>i=gk∨i=gm) W wd):=Mod.none_ z6 _
  clear SK MP2 VP2 HC BW z5 HH Z1
  by_cases k0:kv=0
  ·have hk:kd=1:=by rw [HKD.out,if_pos k0]
   have hK:=HK1.out
   have hM:=HM1.out
   rw [hk,if_neg (by omega)] at hK hM
   subst hk k0 hK hM
   clear HKD HK1 HM1
   go_wp2_with fail
   go_ret
   exact ⟨rfl,HD.out,MM.out⟩
  ·by_cases k2:kv=2
   ·have hk:kd=3:=by rw [HKD.out,if_neg k0,if_pos k2]
    have hK:=HK1.out
    have hM:=HM1.out
    rw [hk,if_neg (by omega)] at hK hM
    subst hk k2 hK hM
    clear HKD HK1 HM1
    go_wp2_with fail
    go_ret
    exact ⟨rfl,HD.out,MM.out⟩
   ·have c0:(kv == 0)=false:=by rw [beq_eq_false_iff_ne];exact k0
    have c2:(kv == 2)=false:=by rw [beq_eq_false_iff_ne];exact k2
    have HD2:=Lib.hid (HD.out.setK ed 2)
    have MM2:Hid (Mod (fun i=>i=gk∨i=gm) W (wd.setCell ⟨gk,ed,none⟩ (.int .i64 2))):=MM.out.setCell (fun _=>.inl rfl) _
    by_cases q:mv=true
    ·have hk:kd=2:=by rw [HKD.out,if_neg k0,if_neg k2,if_pos q]
     have hK:=HK1.out
     have hM:=HM1.out
     rw [hk] at hK hM
     rw [if_pos (by omega)] at hK
     rw [if_neg (by omega)] at hM
     subst hk q hK hM
     clear HKD HK1 HM1
     go_wp2_with fail
     go_ret
     exact ⟨rfl,HD2.out,MM2.out⟩
    ·have hk:kd=0:=by rw [HKD.out,if_neg k0,if_neg k2,if_neg q]
     have q':mv=false:=by simpa using q
     have hK:=HK1.out
     have hM:=HM1.out
     rw [hk] at hK hM
     rw [if_pos (by omega)] at hK
     rw [if_pos rfl] at hM
     have HD3:=Lib.hid ((HD2.out.setK ed 0).setM v true)
     rw [List.set_set] at HD3
     have MM3:Hid (Mod (fun i=>i=gk∨i=gm) W (((wd.setCell ⟨gk,ed,none⟩ (.int .i64 2)).setCell ⟨gk,ed,none⟩ (.int .i64 0)).setCell ⟨gm,v,none⟩ (.bool true))):=(MM2.out.setCell (fun _=>.inl rfl) _).setCell (fun _=>.inr rfl) _
     subst hk q' hK hM
     clear HKD HK1 HM1
     go_wp2_with fail
     go_ret
     exact ⟨rfl,HD3.out,MM3.out⟩
def FromPost (w:World) (g m V r:Nat) (nm:Nat→Nat) (e:Ending) (w':World):Prop :=
 ∃ gk ck gm cm,e=.returned (wval g gk ck gm cm m V)∧WMem w.heap.size gk ck gm cm m V (List.replicate m (-1)) ((List.replicate V false).set (nm r) true) w'∧Below w.heap.size w w'
set_option maxHeartbeats 8000000 in
theorem wfrom_p (g:Nat) (l b:List Nat) (root lone:Int) (r m V:Nat) (w:World) (h:MapAt w g l b root lone) (hr:r < l.length) (hm:m=l.length / 2) (hV:(V:Int)=((sizes l).length:Int)+lone) (hvV:nameOf l r < V) :
  Calls Tryz.prog 88 #[.pointer (some ⟨g,0,none⟩),.int .i64 (r:Int)] w (FromPost w g m V r (nameOf l)):=by
 have hle:=h.2.1
 have hlo:=h.1.2.2
 have hsl:=sizes_le l
 have hm1:m≤131072:=by omega
 have hV1:V≤262144:=by omega
 obtain ⟨j0,ji0,jz0,jz1,jz2⟩:=info_parts info_bool
 have hmk:=run_make_one (P:=Tryz.prog) 118 4 j0 (.bool false) 1 Tryz.underlying118 ji0 jz0 jz1 jz2 rfl .i64 .i64 V (by omega) (by omega)
 have EP:Hid (∀ W,Below w.heap.size w W→Calls Tryz.prog 21 #[.pointer (some ⟨g,0,none⟩)] W fun e w'=>e=.returned (.int .i64 (m:Int))∧Below W.heap.size W w'):=fun W z=>by rw [hm];exact edges_p g l b root lone W (h.below z)
 have VS:Hid (∀ W,Below w.heap.size w W→Calls Tryz.prog 44 #[.pointer (some ⟨g,0,none⟩)] W fun e w'=>e=.returned (.int .i64 (V:Int))∧Below W.heap.size W w'):=fun W z=>by rw [hV];exact vertices_p g l b root lone W (h.below z)
 obtain ⟨v,hv⟩:∃ v,v=nameOf l r:=⟨_,rfl⟩
 have VP:Hid (∀ W,Below w.heap.size w W→Calls Tryz.prog 46 #[.pointer (some ⟨g,0,none⟩),.int .i64 (r:Int)] W fun e w'=>e=.returned (.int .i64 (v:Int))∧Below W.heap.size W w'):=fun W z=>by rw [hv];exact vertex_in g l b root lone r W (h.below z) hr
 have HV:=Lib.hid hv
 rw [← hv] at hvV
 have HINF:=Lib.hid info_walker
 have hvI:(v:Int) < (V:Int):=by omega
 have hvI0:(0:Int)≤(v:Int):=by omega
 have R1:=Rd.new (w.alloc (.cells #[.pointer none,.slice none 0 0,.slice none 0 0] 120)) 3 #[.int .i64 (-1)] 1 (I64 [-1]) (by simp [I64]) (by simp)
 have hs1:(w.alloc (.cells #[.pointer none,.slice none 0 0,.slice none 0 0] 120)).heap.size=w.heap.size+1:=by simp
 rw [hs1] at R1
 have HR1:=Lib.hid R1
 have BR:=Lib.hid ((Blk.new w 120 #[.pointer none,.slice none 0 0,.slice none 0 0]).alloc (.cells #[.int .i64 (-1)] 3))
 have Z0:=(Below.refl w.heap.size w).alloc (Nat.le_refl _) (.cells #[.pointer none,.slice none 0 0,.slice none 0 0] 120)
 have Z1:=Lib.hid (Z0.alloc Z0.size (.cells #[.int .i64 (-1)] 3))
 have hs2:((w.alloc (.cells #[.pointer none,.slice none 0 0,.slice none 0 0] 120)).alloc (.cells #[.int .i64 (-1)] 3)).heap.size=w.heap.size+2:=by simp
 have HS2:=Lib.hid hs2
 clear h hm hV hv Z0 R1 hs1 hs2 hle hlo hsl
 go_enter Tryz.func88,Tryz.ntmps88
 go_wp2_with fail
 generalize (w.alloc (.cells #[.pointer none,.slice none 0 0,.slice none 0 0] 120)).alloc (.cells #[.int .i64 (-1)] 3)=w2 at *
 refine (EP.out _ Z1.out).mono ?_
 rintro e w3 ⟨rfl,z⟩
 have Z3:=Lib.hid (Z1.out.trans (z.mono Z1.out.size))
 have hz:=z.size
 have RP:=Lib.hid (repeat_p (w.heap.size+1) m 1 (-1) (w.heap.size+2) w3 hm1 (HR1.out.below (z.mono (by rw [HS2.out];omega))) (by rw [← HS2.out];exact hz))
 have BR3:=Lib.hid (BR.out.below z)
 have hz3:w.heap.size+2≤w3.heap.size:=by rw [← HS2.out];exact hz
 clear z hz EP HR1 BR Z1
 go_wp2_with fail
 refine RP.out.mono ?_
 rintro e w4 ⟨rfl,hown,z⟩
 have HO4:=Lib.hid (hown.base_le' (show w.heap.size≤w3.heap.size by omega))
 have Z4:=Lib.hid (Z3.out.trans (z.mono Z3.out.size))
 have BR4:=Lib.hid (BR3.out.below z)
 have hz4:=z.size
 generalize w3.heap.size=gk at *
 have hgk4:=(own_block HO4.out).2
 clear z hown RP BR3 Z3
 go_wp2_with fail
 refine (VS.out _ Z4.out).mono ?_
 rintro e w5 ⟨rfl,z⟩
 have HO5:=Lib.hid (own_below HO4.out z)
 have Z5:=Lib.hid (Z4.out.trans (z.mono Z4.out.size))
 have BR5:=Lib.hid (BR4.out.below z)
 have hz5:=z.size
 have hm5:=own_made w5 4 V (.bool false) (by simp only [maxLen];omega)
 rw [List.toArray_replicate,show List.replicate V (Value.bool false)=Bl (List.replicate V false) by simp [Bl]] at hm5
 have HM5:=Lib.hid (hm5.base_le' (show w.heap.size≤w5.heap.size by omega))
 clear z HO4 Z4 BR4 VS hm5
 go_wp2_with fail
 have hs6:(w5.alloc (.cells (Array.replicate V (.bool false)) 4)).heap.size=w5.heap.size+1:=by simp
 have BX:=Blk.new (w5.alloc (.cells (Array.replicate V (.bool false)) 4)) 120 #[.pointer (some ⟨g,0,none⟩),.slice (some ⟨gk,0,none⟩) m m,.slice (some ⟨w5.heap.size,0,none⟩) V V]
 rw [hs6] at BX
 have ZA:=(Below.refl w5.heap.size w5).alloc (Nat.le_refl _) (.cells (Array.replicate V (.bool false)) 4)
 have ZB:=ZA.alloc ZA.size (.cells #[.pointer (some ⟨g,0,none⟩),.slice (some ⟨gk,0,none⟩) m m,.slice (some ⟨w5.heap.size,0,none⟩) V V] 120)
 have HO6:=Lib.hid (own_below HO5.out ZB)
 have HM6:=Lib.hid (HM5.out.alloc (.cells #[.pointer (some ⟨g,0,none⟩),.slice (some ⟨gk,0,none⟩) m m,.slice (some ⟨w5.heap.size,0,none⟩) V V] 120))
 have Z6:=Lib.hid (Z5.out.trans (ZB.mono Z5.out.size))
 have BR6:=Lib.hid (BR5.out.below ZB)
 have HBX:=Lib.hid BX
 have hg6:w5.heap.size < ((w5.alloc (.cells (Array.replicate V (.bool false)) 4)).alloc (.cells #[.pointer (some ⟨g,0,none⟩),.slice (some ⟨gk,0,none⟩) m m,.slice (some ⟨w5.heap.size,0,none⟩) V V] 120)).heap.size:=by simp;omega
 generalize (w5.alloc (.cells (Array.replicate V (.bool false)) 4)).alloc (.cells #[.pointer (some ⟨g,0,none⟩),.slice (some ⟨gk,0,none⟩) m m,.slice (some ⟨w5.heap.size,0,none⟩) V V] 120)=w6 at *
 clear hs6 BX ZA ZB HO5 HM5 Z5 BR5
 have hg5:w.heap.size+2≤w5.heap.size:=by omega
 generalize w5.heap.size=gm at *
 have SK:Hid (∀ W',Below w6.heap.size w6 W'→Below w.heap.size w W'∧W'.cell? ⟨gm+1,2,none⟩=some (.slice (some ⟨gm,0,none⟩) V V)):=fun W' z =>
  ⟨Z6.out.trans (z.mono Z6.out.size),by have:=(HBX.out.below z).cell 2;simpa using this⟩
 have VP2:Hid (∀ W',Below w6.heap.size w6 W'→Calls Tryz.prog 46 #[.pointer (some ⟨g,0,none⟩),.int .i64 (r:Int)] W' fun e w'=>e=.returned (.int .i64 (v:Int))∧Below w6.heap.size w6 w'):=fun W' z =>
  (VP.out W' (SK.out W' z).1).mono fun e w' ⟨h1,h2⟩=>⟨h1,z.trans (h2.mono z.size)⟩
 go_cut [] (fun wx=>∃ wy,Below w6.heap.size w6 wy∧wx=wy.setCell ⟨gm,v,none⟩ (.bool true))
 case first =>
  have hba0:=Below.refl w6.heap.size w6
  have hba1:=hba0.drew
  have x0:=(SK.out _ hba0).2
  have x1:=(SK.out _ hba1).2
  have FZ:Hid (∀ W',Below w6.heap.size w6 W'→W'.frozen? ⟨gm,v,none⟩=false∧∃ q,W'.cell? ⟨gm,v,none⟩=some (.bool q)):=fun W' z=>⟨(own_below HM6.out z).frozenAt v,_,own_cellB (own_below HM6.out z) v hvV⟩
  obtain ⟨f0,q0,c0⟩:=FZ.out _ hba0
  obtain ⟨f1,q1,c1⟩:=FZ.out _ hba1
  go_region_with ((go_at_call 46;(with_reducible refine (VP2.out _ (by assumption)).mono ?_);rintro e wa ⟨rfl,hba⟩;have xa:=(SK.out _ hba).2;obtain ⟨fa,qa,ca⟩:=FZ.out _ hba))
  all_goals (go_wp2_with fail;go_meet;exact ⟨_,by assumption,rfl⟩)
 case rest =>
  obtain ⟨wy,hby,rfl⟩:=hcut
  have hzy:=(SK.out _ hby).1
  have MS:Mod (fun i=>i=gm) wy (wy.setCell ⟨gm,v,none⟩ (.bool true)):=Mod.setCell (p:=⟨gm,v,none⟩) (Mod.refl (fun i=>i=gm) wy) (fun _=>rfl) _
  have B1:=Lib.hid ((HBX.out.below hby).mod MS (by omega))
  have B2:=Lib.hid ((BR6.out.below hby).mod MS (by omega))
  have OK:=Lib.hid (own_mod (own_below HO6.out hby) MS (fun k hk e=>by replace e:k=_:=e;simp [Value.ownBlock] at hk;omega))
  have OM:=Lib.hid (own_setB (own_below HM6.out hby) v true)
  have ZZ:Hid (Below w.heap.size w (wy.setCell ⟨gm,v,none⟩ (.bool true))):=hzy.setCell (by show w.heap.size≤gm;omega) _
  have HGK:Hid (gk < w6.heap.size∧w.heap.size+2≤gm):=⟨by have:=own_block HO6.out;omega,hg5⟩
  generalize wy.setCell ⟨gm,v,none⟩ (.bool true)=wz at *
  clear MS hby hzy SK VP2 HBX HM6 HO6 BR6 Z6 VP
  have c0:=B1.out.cell 0
  have c1:=B1.out.cell 1
  have c2:=B1.out.cell 2
  have r0:=B2.out.cell 0
  have r1:=B2.out.cell 1
  have r2:=B2.out.cell 2
  have f0:=B2.out.frozen 0
  have f1:=B2.out.frozen 1
  have f2:=B2.out.frozen 2
  simp at c0 c1 c2 r0 r1 r2
  go_wp2_with fail
  have MM:Mod (fun i=>i=w.heap.size) wz (((wz.setCell ⟨w.heap.size,0,none⟩ (.pointer (some ⟨g,0,none⟩))).setCell ⟨w.heap.size,1,none⟩ (.slice (some ⟨gk,0,none⟩) m m)).setCell ⟨w.heap.size,2,none⟩ (.slice (some ⟨gm,0,none⟩) V V)) :=
   Mod.setCell (p:=⟨w.heap.size,2,none⟩) (Mod.setCell (p:=⟨w.heap.size,1,none⟩) (Mod.setCell (p:=⟨w.heap.size,0,none⟩) (Mod.refl (fun i=>i=w.heap.size) wz) (fun _=>rfl) _) (fun _=>rfl) _) (fun _=>rfl) _
  have hblk:Blk (((wz.setCell ⟨w.heap.size,0,none⟩ (.pointer (some ⟨g,0,none⟩))).setCell ⟨w.heap.size,1,none⟩ (.slice (some ⟨gk,0,none⟩) m m)).setCell ⟨w.heap.size,2,none⟩ (.slice (some ⟨gm,0,none⟩) V V)) w.heap.size 120 #[.pointer (some ⟨g,0,none⟩),.slice (some ⟨gk,0,none⟩) m m,.slice (some ⟨gm,0,none⟩) V V]:=by
   have:=((B2.out.set_ 0 (.pointer (some ⟨g,0,none⟩))).set_ 1 (.slice (some ⟨gk,0,none⟩) m m)).set_ 2 (.slice (some ⟨gm,0,none⟩) V V)
   simpa using this
  refine bodyPost_ret (results_cell_row rfl _ _ w.heap.size 120 _ (0,0) _ rfl hblk Tryz.underlying120 rfl HINF.out) rfl ?_
  refine ⟨gk,m,gm,V,rfl,⟨own_mod OK.out MM (fun k hk e=>by replace e:k=_:=e;simp [Value.ownBlock] at hk;omega),?_⟩,((ZZ.out.setCell (Nat.le_refl _) _).setCell (Nat.le_refl _) _).setCell (Nat.le_refl _) _⟩
  have:=own_mod OM.out MM (fun k hk e=>by replace e:k=_:=e;simp [Value.ownBlock] at hk;omega)
  rw [← HV.out];exact this
end Go.Proofs.YtijbdnhlpbcabaaGreatDoor
