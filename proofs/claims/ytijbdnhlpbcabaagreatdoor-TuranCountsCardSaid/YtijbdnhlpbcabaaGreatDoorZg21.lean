/- A part is planar just if the chords of its walk don't cross. -/
import Derived.Test.YtijbdnhlpbcabaaGreatDoorZg14
import Derived.Test.YtijbdnhlpbcabaaGreatDoorZg19
import Derived.Test.YtijbdnhlpbcabaaGreatDoorZg20
import Derived.Test.YtijbdnhlpbcabaaGreatDoorZg17
import Derived.Test.YtijbdnhlpbcabaaGreatDoorZg4
set_option linter.unusedVariables false
open Go.RowKit
set_option linter.unusedSimpArgs false
namespace Go.Proofs.YtijbdnhlpbcabaaGreatDoor
theorem cls_agree {n:Nat} {f g:Nat→Nat} {P:Nat→Prop} (hf:PF n f) (hg:PF n g) (iff_:∀ i,i < n→(P (f i)↔P i)) (igg:∀ i,i < n→(P (g i)↔P i)) (h:∀ i,i < n→P i→f i=g i):cls (Orb f) P n=cls (Orb g) P n:=by
 refine cls_congr fun i j hi hj pj=>?_
 have key:∀ (u v:Nat→Nat),PF n u→PF n v→(∀ i,i < n→(P (u i)↔P i))→(∀ i,i < n→P i→u i=v i)→P i→Orb u i j→Orb v i j:=fun u v hu hv iu huv pi ⟨k,e⟩=>by
  have:=orb_same (f:=v) (g:=u) (S:=fun x=>x < n∧P x) (fun x hx=>(huv x hx.1 hx.2).symm) (fun x hx=>⟨hu.lt x hx.1,(iu x hx.1).2 hx.2⟩) ⟨hi,pi⟩ k
  exact ⟨k,by rw [this.1];exact e⟩
 have back:∀ (u:Nat→Nat),PF n u→(∀ i,i < n→(P (u i)↔P i))→Orb u i j→P i:=fun u hu iu ⟨k,e⟩=>by
  have:∀ k,P (itf u k i)→P i:=fun k=>by
   induction k with
   | zero=>exact id
   | succ k ih=>intro x;exact ih ((iu _ (hu.itlt hi k)).1 x)
  exact this k (by rw [e];exact pj)
 exact ⟨fun o=>key f g hf hg iff_ h (back f hf iff_ o) o,fun o=>key g f hg hf igg (fun x hx px=>(h x hx px).symm) (back g hg igg o) o⟩
section
variable {n m V:Nat} {sg nm:Nat→Nat} {r:Nat}
theorem wseen (hs:PF n sg) (hn:n=2*m) (hnm:∀ x y,x < n→y < n→(nm x=nm y↔Orb sg x y)) (hV:∀ x,x < n→nm x < V) (hr:r < n) (e:Nat) (he:e < m):∀ j,(wrun sg nm m V r j).K.getD e 0≠-1→∃ i,i < j∧(wrun sg nm m V r i).d / 2=e
 | 0,h=>absurd (show (List.replicate m (-1:Int)).getD e 0=-1 by simp [List.getD_eq_getElem?_getD,he]) h
 | j+1,h=>by
   by_cases c:(wrun sg nm m V r j).d / 2=e
   ·exact ⟨j,by omega,c⟩
   ·have hw:=wok hs hn hnm hV hr j
    have hk:(wrun sg nm m V r (j+1)).K.getD e 0=(wrun sg nm m V r j).K.getD e 0:=by
     show ((wrun sg nm m V r j).next sg nm).K.getD e 0=_
     generalize wrun sg nm m V r j=s at *
     have hse:s.d / 2 < s.K.length:=by rw [hw.kl];have:=hw.lt;omega
     unfold WS.next
     show (wK1 s.K s.d _).getD e 0=_
     unfold wK1
     split
     ·rw [getI_set _ _ _ _ hse,if_neg (fun x=>c x.symm)]
     ·rfl
    rw [hk] at h
    obtain ⟨i,hi,e'⟩:=wseen hs hn hnm hV hr e he j h
    exact ⟨i,by omega,e'⟩
theorem wkn_length (sg nm:Nat→Nat) (m V r:Nat):∀ j,(wkn sg nm m V r j).length=j
 | 0=>rfl
 | j+1=>by unfold wkn;rw [List.length_append,wkn_length sg nm m V r j];rfl
theorem wkn_get (sg nm:Nat→Nat) (m V r:Nat):∀ N j,j < N→(wkn sg nm m V r N).getD j 0=(wrun sg nm m V r j).k nm
 | 0,j,h=>by omega
 | N+1,j,h=>by
   have hl:=wkn_length sg nm m V r N
   unfold wkn
   rcases Nat.lt_or_ge j N with c | c
   ·rw [List.getD_eq_getElem?_getD,List.getElem?_append_left (by omega),← List.getD_eq_getElem?_getD]
    exact wkn_get sg nm m V r N j c
   ·obtain rfl:j=N:=by omega
    rw [List.getD_eq_getElem?_getD,List.getElem?_append_right (by omega),hl,Nat.sub_self];rfl
end
section
variable {l b:List Nat}
open Classical in
noncomputable def wtw (l:List Nat) (V r j:Nat):Nat :=
 if h:∃ k,k < wN (sgL l) (nameOf l) (l.length / 2) V r∧(wrun (sgL l) (nameOf l) (l.length / 2) V r k).d=mt (wrun (sgL l) (nameOf l) (l.length / 2) V r j).d then h.choose else 0
noncomputable def wK (l:List Nat) (V r:Nat):List Int:=(wrun (sgL l) (nameOf l) (l.length / 2) V r (wN (sgL l) (nameOf l) (l.length / 2) V r)).K
def wP (l:List Nat) (r x:Nat):Prop:=x < l.length∧part l r x
def wF (l:List Nat) (V r q e:Nat):Prop:=e < l.length / 2∧wP l r (2*e)∧(wK l V r).getD e 0=(q:Int)
theorem wcyc (h:Inv l b) (he:l.length%2=0) {V:Nat} (hV:∀ x,x < l.length→nameOf l x < V) {r:Nat} (hr:r < l.length) :
  Cyc l.length (l.length / 2) (wN (sgL l) (nameOf l) (l.length / 2) V r) (fK (sgL l) (wK l V r)) (wP l r) (fun j=>(wrun (sgL l) (nameOf l) (l.length / 2) V r j).d) (wtw l V r):=by
 have hs:=sgL_pf h
 have hn:l.length=2*(l.length / 2):=by omega
 have hq:=part_eqv h he
 obtain ⟨n1,n2,n3,n4⟩:=wN_is hs hn (nm_ok h) hV hr
 have hwp:=fun x hx=>wpart hs hn (nm_ok h) hV hr (x:=x) hx
 have hlt:=fun j=>(wok hs hn (nm_ok h) hV hr j).lt
 have horb:=fun j hj=>worb hs hn (nm_ok h) hV hr (wN (sgL l) (nameOf l) (l.length / 2) V r) j hj
 have psg:∀ x,x < l.length→(wP l r (sgL l x)↔wP l r x):=fun x hx =>
  ⟨fun ⟨_,p⟩=>⟨hx,hq.trans _ _ _ hr (hs.lt x hx) hx p (hq.symm _ _ hx (hs.lt x hx) (gk_sig hs x _))⟩,fun ⟨_,p⟩=>⟨hs.lt x hx,hq.trans _ _ _ hr hx (hs.lt x hx) p (gk_sig hs x _)⟩⟩
 have pmt:∀ x,x < l.length→(wP l r (mt x)↔wP l r x):=fun x hx =>
  ⟨fun ⟨_,p⟩=>⟨hx,hq.trans _ _ _ hr (mt_lt hn hx) hx p (hq.symm _ _ hx (mt_lt hn hx) (gk_mt hs hn x hx))⟩,fun ⟨_,p⟩=>⟨mt_lt hn hx,hq.trans _ _ _ hr hx (mt_lt hn hx) p (gk_mt hs hn x hx)⟩⟩
 have htw:∀ j,j < wN (sgL l) (nameOf l) (l.length / 2) V r→wtw l V r j < wN (sgL l) (nameOf l) (l.length / 2) V r∧(wrun (sgL l) (nameOf l) (l.length / 2) V r (wtw l V r j)).d=mt (wrun (sgL l) (nameOf l) (l.length / 2) V r j).d:=fun j hj=>by
  have hx:∃ k,k < wN (sgL l) (nameOf l) (l.length / 2) V r∧(wrun (sgL l) (nameOf l) (l.length / 2) V r k).d=mt (wrun (sgL l) (nameOf l) (l.length / 2) V r j).d:=by
   have p:wP l r (wrun (sgL l) (nameOf l) (l.length / 2) V r j).d:=⟨hlt j,(hwp _ (hlt j)).2 ⟨j,hj,rfl⟩⟩
   exact (hwp _ (mt_lt hn (hlt j))).1 ((pmt _ (hlt j)).2 p).2
  unfold wtw
  rw [dif_pos hx]
  exact hx.choose_spec
 have key:∀ j,j+1≤wN (sgL l) (nameOf l) (l.length / 2) V r→fK (sgL l) (wK l V r) (wrun (sgL l) (nameOf l) (l.length / 2) V r j).d=(wrun (sgL l) (nameOf l) (l.length / 2) V r (j+1)).d:=fun j hj=>by
  have a:=horb j (by omega)
  have c:=horb (j+1) hj
  show fK (sgL l) (wK l V r) (wrun (sgL l) (nameOf l) (l.length / 2) V r j).d=_
  rw [← a,← c];rfl
 refine ⟨fK_pf hs hn _,hn,fun i hi=>?_,pmt,by omega,fun j _=>hlt j,fun j hj=>⟨hlt j,(hwp _ (hlt j)).2 ⟨j,hj,rfl⟩⟩,fun i j hi hj e=>wonce hs hn (nm_ok h) hV hr hi hj e,fun x hx p=>(hwp x hx).1 p.2,fun j hj=>key j (by omega),?_,fun j hj=>(htw j hj).1,fun j hj=>(htw j hj).2⟩
 ·unfold fK
  split
  ·rw [psg _ (mt_lt hn hi),pmt i hi]
  ·exact psg i hi
 ·have:=key (wN (sgL l) (nameOf l) (l.length / 2) V r - 1) (by omega)
  rw [show wN (sgL l) (nameOf l) (l.length / 2) V r - 1+1=wN (sgL l) (nameOf l) (l.length / 2) V r by omega,n3] at this
  exact this
theorem wkind_N (h:Inv l b) (he:l.length%2=0) {V:Nat} (hV:∀ x,x < l.length→nameOf l x < V) {r:Nat} (hr:r < l.length) (j:Nat) (hj:j < wN (sgL l) (nameOf l) (l.length / 2) V r) :
  (wK l V r).getD ((wrun (sgL l) (nameOf l) (l.length / 2) V r j).d / 2) 0=if (wrun (sgL l) (nameOf l) (l.length / 2) V r j).k (nameOf l) < 2 then 0 else 2 :=
 wkind (sgL_pf h) (by omega) (nm_ok h) hV hr hj
theorem wprg (h:Inv l b) (he:l.length%2=0) {V:Nat} (hV:∀ x,x < l.length→nameOf l x < V) {r:Nat} (hr:r < l.length) :
  Prg (wkn (sgL l) (nameOf l) (l.length / 2) V r (wN (sgL l) (nameOf l) (l.length / 2) V r)) (wtw l V r):=by
 have hs:=sgL_pf h
 have hn:l.length=2*(l.length / 2):=by omega
 have C:=wcyc h he hV hr
 have hkn:=wkind_N h he hV hr
 have hlt:=fun j=>(wok hs hn (nm_ok h) hV hr j).lt
 have hwk:=fun i j (hij:i < j)=>wkind hs hn (nm_ok h) hV hr (i:=i) (j:=j) hij
 have hse:=fun e he' j=>wseen hs hn (nm_ok h) hV hr e he' j
 have hget:=fun j hj=>wkn_get (sgL l) (nameOf l) (l.length / 2) V r (wN (sgL l) (nameOf l) (l.length / 2) V r) j hj
 have hlen:=wkn_length (sgL l) (nameOf l) (l.length / 2) V r (wN (sgL l) (nameOf l) (l.length / 2) V r)
 have hk4:=fun j=>wk_lt (sgL l) (nameOf l) (l.length / 2) V r j
 generalize hN:wN (sgL l) (nameOf l) (l.length / 2) V r=N at *
 have odd:∀ j,j < N→((wrun (sgL l) (nameOf l) (l.length / 2) V r j).k (nameOf l)%2=1↔wtw l V r j < j):=fun j hj=>by
  have htt:=C.ttw hj
  have htl:=C.tlt j hj
  have hth:=C.thalf hj
  have hne:=C.tne hj
  have kd:=(wrun (sgL l) (nameOf l) (l.length / 2) V r j).kinds (nm:=nameOf l)
  constructor
  ·intro ho
   have hne1:(wrun (sgL l) (nameOf l) (l.length / 2) V r j).K.getD ((wrun (sgL l) (nameOf l) (l.length / 2) V r j).d / 2) 0≠-1:=by
    rcases kd with ⟨a,c⟩ | ⟨a,c⟩ | ⟨a,_⟩ | ⟨a,_⟩
    ·rw [c];decide
    ·rw [c];decide
    ·omega
    ·omega
   obtain ⟨i,hi,e⟩:=hse _ (by have:=hlt j;omega) j hne1
   rcases C.same (show i < N by omega) hj e with c | c
   ·omega
   ·omega
  ·intro ho
   have:=hwk _ j ho
   rw [hth] at this
   rcases kd with ⟨a,c⟩ | ⟨a,c⟩ | ⟨a,c,d,_⟩ | ⟨a,c,d,_⟩
   ·omega
   ·omega
   ·split at this
    ·exact absurd this c
    ·exact absurd this d
   ·split at this
    ·exact absurd this c
    ·exact absurd this d
 refine ⟨fun k hk=>?_,fun j hj=>?_,fun j hj=>?_,fun j hj=>?_,fun j hj=>?_,fun j hj=>?_⟩
 ·exact wkn_lt (sgL l) (nameOf l) (l.length / 2) V r N k hk
 ·rw [hlen] at hj ⊢;exact C.tlt j hj
 ·rw [hlen] at hj;exact C.ttw hj
 ·rw [hlen] at hj;exact C.tne hj
 ·rw [hlen] at hj
  rw [hget _ (C.tlt j hj),hget j hj]
  have a:=hkn j hj
  have c:=hkn _ (C.tlt j hj)
  have e:=C.thalf hj
  have x1:=hk4 j
  have x2:=hk4 (wtw l V r j)
  rw [e,a] at c
  split at c <;> split at c <;> first | omega | (exfalso;revert c;decide)
 ·rw [hlen] at hj
  rw [hget j hj]
  have a:=odd j hj
  have hne:=C.tne hj
  constructor
  ·intro e
   have:¬ wtw l V r j < j:=fun x=>by have:=a.2 x;omega
   omega
  ·intro e
   have:¬ (wrun (sgL l) (nameOf l) (l.length / 2) V r j).k (nameOf l)%2=1:=fun x=>by have:=a.1 x;omega
   omega
theorem wF_at (h:Inv l b) (he:l.length%2=0) {V:Nat} (hV:∀ x,x < l.length→nameOf l x < V) {r:Nat} (hr:r < l.length) (s:Nat) (hs2:s < 2) (j:Nat) (hj:j < wN (sgL l) (nameOf l) (l.length / 2) V r) :
  wF l V r (2*s) ((wrun (sgL l) (nameOf l) (l.length / 2) V r j).d / 2)↔(wrun (sgL l) (nameOf l) (l.length / 2) V r j).k (nameOf l) / 2=s:=by
 have C:=wcyc h he hV hr
 have a:=wkind_N h he hV hr j hj
 have hlt:=C.lt j hj
 have hp:=C.inP j hj
 have k4:=wk_lt (sgL l) (nameOf l) (l.length / 2) V r j
 have hp2:wP l r (2*((wrun (sgL l) (nameOf l) (l.length / 2) V r j).d / 2)):=by
  rcases Nat.mod_two_eq_zero_or_one (wrun (sgL l) (nameOf l) (l.length / 2) V r j).d with q | q
  ·rw [show 2*((wrun (sgL l) (nameOf l) (l.length / 2) V r j).d / 2)=(wrun (sgL l) (nameOf l) (l.length / 2) V r j).d by omega];exact hp
  ·have:mt (wrun (sgL l) (nameOf l) (l.length / 2) V r j).d=2*((wrun (sgL l) (nameOf l) (l.length / 2) V r j).d / 2):=by unfold mt;rw [if_neg (by omega)];omega
   rw [← this];exact (C.mate _ hlt).2 hp
 unfold wF
 rw [a]
 constructor
 ·rintro ⟨_,_,e⟩
  split at e
  ·omega
  ·omega
 ·intro e
  refine ⟨by omega,hp2,?_⟩
  split <;> omega
theorem wF_in {V r q:Nat} (e:Nat) (hF:wF l V r q e):e < l.length / 2∧wP l r (2*e):=⟨hF.1,hF.2.1⟩
theorem nx_iff (h:Inv l b) (he:l.length%2=0) {V:Nat} (hV:∀ x,x < l.length→nameOf l x < V) {r:Nat} (hr:r < l.length) (s:Nat) (hs2:s < 2) :
  NonX (wN (sgL l) (nameOf l) (l.length / 2) V r) (fun j=>(wrun (sgL l) (nameOf l) (l.length / 2) V r j).d) (wtw l V r) (wF l V r (2*s))↔NX (wkn (sgL l) (nameOf l) (l.length / 2) V r (wN (sgL l) (nameOf l) (l.length / 2) V r)) (wtw l V r) s:=by
 have hget:=fun j hj=>wkn_get (sgL l) (nameOf l) (l.length / 2) V r (wN (sgL l) (nameOf l) (l.length / 2) V r) j hj
 have hlen:=wkn_length (sgL l) (nameOf l) (l.length / 2) V r (wN (sgL l) (nameOf l) (l.length / 2) V r)
 have hF:=wF_at h he hV hr s hs2
 unfold NonX NX
 rw [hlen]
 constructor
 ·intro H i k a c d hi hk si sk
  rw [hget i hi] at si
  rw [hget k hk] at sk
  exact H i k a c d hi hk ((hF i hi).2 si) ((hF k hk).2 sk)
 ·intro H i k a c d hi hk fi fk
  exact H i k a c d hi hk (by rw [hget i hi];exact (hF i hi).1 fi) (by rw [hget k hk];exact (hF k hk).1 fk)
theorem wplane (h:Inv l b) (he:l.length%2=0) (hp:Inv (phiL l) (phiB l b)) {V:Nat} (hV:∀ x,x < l.length→nameOf l x < V) {r:Nat} (hr:r < l.length) {G:Nat}
  (hG:pV l (pq l r) l.length+pB l (pq l r) l.length+2*G=pE l (pq l r) l.length+2) :
  NX (wkn (sgL l) (nameOf l) (l.length / 2) V r (wN (sgL l) (nameOf l) (l.length / 2) V r)) (wtw l V r) 0 ∧
  (NX (wkn (sgL l) (nameOf l) (l.length / 2) V r (wN (sgL l) (nameOf l) (l.length / 2) V r)) (wtw l V r) 1↔G=0):=by
 have hs:=sgL_pf h
 have hn:l.length=2*(l.length / 2):=by omega
 have hq:=part_eqv h he
 have C:=wcyc h he hV hr
 have hkn:=wkind_N h he hV hr
 obtain ⟨c1,c2,c3⟩:=walk_counts h he hV hr
 have hc0:=wcn_is hs hn (nm_ok h) hV hr 0 (.inl rfl) (wN (sgL l) (nameOf l) (l.length / 2) V r)
 have hc2:=wcn_is hs hn (nm_ok h) hV hr 2 (.inr rfl) (wN (sgL l) (nameOf l) (l.length / 2) V r)
 have hw:=wok hs hn (nm_ok h) hV hr (wN (sgL l) (nameOf l) (l.length / 2) V r)
 have hwm:=fun x hx=>wmark h he hV hr (x:=x) hx
 have inK:∀ i,i < l.length→wP l r i→(wK l V r).getD (i / 2) 0=0∨(wK l V r).getD (i / 2) 0=2:=fun i hi pi=>by
  obtain ⟨j,hj,e⟩:=C.all i hi pi
  have:=hkn j hj
  have e':(wrun (sgL l) (nameOf l) (l.length / 2) V r j).d=i:=e
  rw [e'] at this
  rw [this]
  split
  ·exact .inl rfl
  ·exact .inr rfl
 have ev:∀ i,i < l.length→wP l r i→wP l r (2*(i / 2)):=fun i hi pi=>by
  rcases Nat.mod_two_eq_zero_or_one i with q | q
  ·rw [show 2*(i / 2)=i by omega];exact pi
  ·have:mt i=2*(i / 2):=by unfold mt;rw [if_neg (by omega)];omega
   rw [← this];exact (C.mate i hi).2 pi
 have numF:∀ q:Nat,q=0∨q=2→num (wF l V r q) (l.length / 2)=num (fun e=>(wrun (sgL l) (nameOf l) (l.length / 2) V r (wN (sgL l) (nameOf l) (l.length / 2) V r)).K.getD e 0=(q:Int)) (l.length / 2):=fun q hq2=>by
  refine num_same fun e hem=>⟨fun x=>x.2.2,fun x=>⟨hem,⟨by omega,?_⟩,x⟩⟩
  refine (hwm _ (by omega)).2 (hw.me _ (by omega) ?_)
  rw [show 2*e / 2=e by omega,x]
  rcases hq2 with rfl | rfl <;> decide
 have e1:pV l (pq l r) l.length=cls (Orb (sgL l)) (wP l r) l.length:=by
  unfold pV num cls
  congr 1
  apply List.filter_congr
  intro i hi
  have hi:i < l.length:=by simpa using hi
  have a1:pq l i=pq l r↔part l r i:=by unfold pq;rw [eq_comm,prt_iff hq hr hi]
  have a2:=leads_least h (show i≤l.length by omega)
  rw [decide_eq_decide]
  exact ⟨fun ⟨x,y⟩=>⟨⟨hi,a1.1 x⟩,a2.1 y⟩,fun ⟨⟨_,x⟩,y⟩=>⟨a1.2 x,a2.2 y⟩⟩
 have e2:pB l (pq l r) l.length=cls (Orb (fk (sgL l) (l.length / 2))) (wP l r) l.length:=by
  unfold pB num cls
  congr 1
  apply List.filter_congr
  intro i hi
  have hi:i < l.length:=by simpa using hi
  have a1:pq l i=pq l r↔part l r i:=by unfold pq;rw [eq_comm,prt_iff hq hr hi]
  have a2:=leads_phi h he hp (show i≤l.length by omega)
  rw [decide_eq_decide]
  exact ⟨fun ⟨x,y⟩=>⟨⟨hi,a1.1 x⟩,a2.1 y⟩,fun ⟨⟨_,x⟩,y⟩=>⟨a1.2 x,a2.2 y⟩⟩
 have psg:∀ x,x < l.length→(wP l r (sgL l x)↔wP l r x):=fun x hx =>
  ⟨fun ⟨_,p⟩=>⟨hx,hq.trans _ _ _ hr (hs.lt x hx) hx p (hq.symm _ _ hx (hs.lt x hx) (gk_sig hs x _))⟩,fun ⟨_,p⟩=>⟨hs.lt x hx,hq.trans _ _ _ hr hx (hs.lt x hx) p (gk_sig hs x _)⟩⟩
 have hv:cls (Orb (psi (fK (sgL l) (wK l V r)) (wF l V r 0))) (wP l r) l.length=cls (Orb (sgL l)) (wP l r) l.length :=
  cls_agree (psi_pf C.pf C.nm _) hs (psi_inv C.pf C.nm C.inv C.mate _) psg fun i hi pi=>by
   unfold psi
   rcases inK i hi pi with k | k
   ·have hq:wF l V r 0 (i / 2):=⟨by omega,ev i hi pi,k⟩
    rw [if_pos hq]
    unfold fK
    rw [mt_half,if_pos k,mt_mt']
   ·have hq:¬ wF l V r 0 (i / 2):=fun x=>by have:=x.2.2;rw [k] at this;revert this;decide
    rw [if_neg hq]
    unfold fK
    rw [if_neg (by rw [k];decide)]
 have hb:cls (Orb (psi (fK (sgL l) (wK l V r)) (wF l V r 2))) (wP l r) l.length=cls (Orb (fk (sgL l) (l.length / 2))) (wP l r) l.length :=
  cls_agree (psi_pf C.pf C.nm _) (fk_pf hs hn _ (Nat.le_refl _)) (psi_inv C.pf C.nm C.inv C.mate _) (fun i hi=>by
   rw [fk_is,if_pos (by omega),psg _ (mt_lt hn hi),C.mate i hi]) fun i hi pi=>by
   rw [fk_is,if_pos (by omega)]
   unfold psi
   rcases inK i hi pi with k | k
   ·have hq:¬ wF l V r 2 (i / 2):=fun x=>by have:=x.2.2;rw [k] at this;revert this;decide
    rw [if_neg hq]
    unfold fK
    rw [if_pos k]
   ·have hq:wF l V r 2 (i / 2):=⟨by omega,ev i hi pi,k⟩
    rw [if_pos hq]
    unfold fK
    rw [mt_half,if_neg (by rw [k];decide)]
 have i0:=C.iff_ (F:=wF l V r 0) (fun e x=>wF_in e x)
 have i2:=C.iff_ (F:=wF l V r 2) (fun e x=>wF_in e x)
 rw [hv,numF 0 (.inl rfl),← hc0,← e1] at i0
 rw [hb,numF 2 (.inr rfl),← hc2,← e2] at i2
 have n0:=nx_iff h he hV hr 0 (by decide)
 have n1:=nx_iff h he hV hr 1 (by decide)
 refine ⟨n0.1 (i0.1 c2.symm),?_⟩
 rw [← n1]
 show NonX _ _ _ (wF l V r 2)↔_
 rw [← i2]
 omega
end
end Go.Proofs.YtijbdnhlpbcabaaGreatDoor
namespace Go.Proofs.YtijbdnhlpbcabaaGreatDoor
set_option maxRecDepth 20000



theorem cnum_all:∀ k,num (fun _=>True) k=k
 | 0=>rfl
 | k+1=>by rw [(num_next (fun _=>True) k).1 trivial,cnum_all k]
end Go.Proofs.YtijbdnhlpbcabaaGreatDoor
