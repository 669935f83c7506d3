/- A part is planar just if the chords of its walk don't cross. -/
import Derived.Test.YtijbdnhlpbcabaaGreatDoorZg14
import Derived.Test.YtijbdnhlpbcabaaGreatDoorZg19
import Derived.Test.YtijbdnhlpbcabaaGreatDoorZg20
import Derived.Test.YtijbdnhlpbcabaaGreatDoorZg17
import Derived.Test.YtijbdnhlpbcabaaGreatDoorZg4
set_option linter.unusedVariables false
open Go.RowKit
set_option linter.unusedSimpArgs false
namespace Go.Proofs.YtijbdnhlpbcabaaGreatDoor
theorem cls_agree {n:Nat} {f g:Nat→Nat} {P:Nat→Prop} (hf:PF n f) (hg:PF n g) (iff_:∀ i,i < n→(P (f i)↔P i)) (igg:∀ i,i < n→(P (g i)↔P i)) (h:∀ i,i < n→P i→f i=g i):cls (Orb f) P n=cls (Orb g) P n:=by
 refine cls_congr fun i j hi hj pj=>?_
 have key:∀ (u v:Nat→Nat),PF n u→PF n v→(∀ i,i < n→(P (u i)↔P i))→(∀ i,i < n→P i→u i=v i)→P i→Orb u i j→Orb v i j:=fun u v hu hv iu huv pi ⟨k,e⟩=>by
  have:=orb_same (f:=v) (g:=u) (S:=fun x=>x < n∧P x) (fun x hx=>(huv x hx.1 hx.2).symm) (fun x hx=>⟨hu.lt x hx.1,(iu x hx.1).2 hx.2⟩) ⟨hi,pi⟩ k
  exact ⟨k,by rw [this.1];exact e⟩
 have back:∀ (u:Nat→Nat),PF n u→(∀ i,i < n→(P (u i)↔P i))→Orb u i j→P i:=fun u hu iu ⟨k,e⟩=>by
  have:∀ k,P (itf u k i)→P i:=fun k=>by
   induction k with
   | zero=>exact id
   | succ k ih=>intro x;exact ih ((iu _ (hu.itlt hi k)).1 x)
  exact this k (by rw [e];exact pj)
 exact ⟨fun o=>key f g hf hg iff_ h (back f hf iff_ o) o,fun o=>key g f hg hf igg (fun x hx px=>(h x hx px).symm) (back g hg igg o) o⟩
section
variable {n m V:Nat} {sg nm:Nat→Nat} {r:Nat}
theorem wseen (hs:PF n sg) (hn:n=2*m) (hnm:∀ x y,x < n→y < n→(nm x=nm y↔Orb sg x y)) (hV:∀ x,x < n→nm x < V) (hr:r < n) (e:Nat) (he:e < m):∀ j,(wrun sg nm m V r j).K.getD e 0≠-1→∃ i,i < j∧(wrun sg nm m V r i).d / 2=e
 | 0,h=>absurd (show (List.replicate m (-1:Int)).getD e 0=-1 by simp [List.getD_eq_getElem?_getD,he]) h
 | j+1,h=>by
   by_cases c:(wrun sg nm m V r j).d / 2=e
   ·exact ⟨j,by omega,c⟩
   ·have hw:=wok hs hn hnm hV hr j
    have hk:(wrun sg nm m V r (j+1)).K.getD e 0=(wrun sg nm m V r j).K.getD e 0:=by
     show ((wrun sg nm m V r j).next sg nm).K.getD e 0=_
     generalize wrun sg nm m V r j=s at *
     have hse:s.d / 2 < s.K.length:=by rw [hw.kl];have:=hw.lt;omega
     unfold WS.next
     show (wK1 s.K s.d _).getD e 0=_
     unfold wK1
     split
     ·rw [getI_set _ _ _ _ hse,if_neg (fun x=>c x.symm)]
     ·rfl
    rw [hk] at h
    obtain ⟨i,hi,e'⟩:=wseen hs hn hnm hV hr e he j h
    exact ⟨i,by omega,e'⟩
theorem wkn_length (sg nm:Nat→Nat) (m V r:Nat):∀ j,(wkn sg nm m V r j).length=j
 | 0=>rfl
 | j+1=>by unfold wkn;rw [List.length_append,wkn_length sg nm m V r j];rfl
theorem wkn_get (sg nm:Nat→Nat) (m V r:Nat):∀ N j,j < N→(wkn sg nm m V r N).getD j 0=(wrun sg nm m V r j).k nm
 | 0,j,h=>by omega
 | N+1,j,h=>by
   have hl:=wkn_length sg nm m V r N
   unfold wkn
   rcases Nat.lt_or_ge j N with c | c
   ·rw [List.getD_eq_getElem?_getD,List.getElem?_append_left (by omega),← List.getD_eq_getElem?_getD]
    exact wkn_get sg nm m V r N j c
   ·obtain rfl:j=N:=by omega
    rw [List.getD_eq_getElem?_getD,List.getElem?_append_right (by omega),hl,Nat.sub_self];rfl
end
section
variable {l b:List Nat}
open Classical in
noncomputable def wtw (l:List Nat) (V r j:Nat):Nat :=
 if h:∃ k,k < wN (sgL l) (nameOf l) (l.length / 2) V r∧(wrun (sgL l) (nameOf l) (l.length / 2) V r k).d=mt (wrun (sgL l) (nameOf l) (l.length / 2) V r j).d then h.choose else 0
noncomputable def wK (l:List Nat) (V r:Nat):List Int:=(wrun (sgL l) (nameOf l) (l.length / 2) V r (wN (sgL l) (nameOf l) (l.length / 2) V r)).K
def wP (l:List Nat) (r x:Nat):Prop:=x < l.length∧part l r x
def wF (l:List Nat) (V r q e:Nat):Prop:=e < l.length / 2∧wP l r (2*e)∧(wK l V r).getD e 0=(q:Int)
theorem wcyc (h:Inv l b) (he:l.length%2=0) {V:Nat} (hV:∀ x,x < l.length→nameOf l x < V) {r:Nat} (hr:r < l.length) :
  Cyc l.length (l.length / 2) (wN (sgL l) (nameOf l) (l.length / 2) V r) (fK (sgL l) (wK l V r)) (wP l r) (fun j=>(wrun (sgL l) (nameOf l) (l.length / 2) V r j).d) (wtw l V r):=by
 have hs:=sgL_pf h
 have hn:l.length=2*(l.length / 2):=by omega
 have hq:=part_eqv h he
 obtain ⟨n1,n2,n3,n4⟩:=wN_is hs hn (nm_ok h) hV hr
 have hwp:=fun x hx=>wpart hs hn (nm_ok h) hV hr (x:=x) hx
 have hlt:=fun j=>(wok hs hn (nm_ok h) hV hr j).lt
 have horb:=fun j hj=>worb hs hn (nm_ok h) hV hr (wN (sgL l) (nameOf l) (l.length / 2) V r) j hj
 have psg:∀ x,x < l.length→(wP l r (sgL l x)↔wP l r x):=fun x hx =>
  ⟨fun ⟨_,p⟩=>⟨hx,hq.trans _ _ _ hr (hs.lt x hx) hx p (hq.symm _ _ hx (hs.lt x hx) (gk_sig hs x _))⟩,fun ⟨_,p⟩=>⟨hs.lt x hx,hq.trans _ _ _ hr hx (hs.lt x hx) p (gk_sig hs x _)⟩⟩
 have pmt:∀ x,x < l.length→(wP l r (mt x)↔wP l r x):=fun x hx =>
  ⟨fun ⟨_,p⟩=>⟨hx,hq.trans _ _ _ hr (mt_lt hn hx) hx p (hq.symm _ _ hx (mt_lt hn hx) (gk_mt hs hn x hx))⟩,fun ⟨_,p⟩=>⟨mt_lt hn hx,hq.trans _ _ _ hr hx (mt_lt hn hx) p (gk_mt hs hn x hx)⟩⟩
 have htw:∀ j,j < wN (sgL l) (nameOf l) (l.length / 2) V r→wtw l V r j < wN (sgL l) (nameOf l) (l.length / 2) V r∧(wrun (sgL l) (nameOf l) (l.length / 2) V r (wtw l V r j)).d=mt (wrun (sgL l) (nameOf l) (l.length / 2) V r j).d:=fun j hj=>by
  have hx:∃ k,k < wN (sgL l) (nameOf l) (l.length / 2) V r∧(wrun (sgL l) (nameOf l) (l.length / 2) V r k).d=mt (wrun (sgL l) (nameOf l) (l.length / 2) V r j).d:=by
   have p:wP l r (wrun (sgL l) (nameOf l) (l.length / 2) V r j).d:=⟨hlt j,(hwp _ (hlt j)).2 ⟨j,hj,rfl⟩⟩
   exact (hwp _ (mt_lt hn (hlt j))).1 ((pmt _ (hlt j)).2 p).2
  unfold wtw
  rw [dif_pos hx]
  exact hx.choose_spec
 have key:∀ j,j+1≤wN (sgL l) (nameOf l) (l.length / 2) V r→fK (sgL l) (wK l V r) (wrun (sgL l) (nameOf l) (l.length / 2) V r j).d=(wrun (sgL l) (nameOf l) (l.length / 2) V r (j+1)).d:=fun j hj=>by
  have a:=horb j (by omega)
  have c:=horb (j+1) hj
  show fK (sgL l) (wK l V r) (wrun (sgL l) (nameOf l) (l.length / 2) V r j).d=_
  rw [← a,← c];rfl
 refine ⟨fK_pf hs hn _,hn,fun i hi=>?_,pmt,by omega,fun j _=>hlt j,fun j hj=>⟨hlt j,(hwp _ (hlt j)).2 ⟨j,hj,rfl⟩⟩,fun i j hi hj e=>wonce hs hn (nm_ok h) hV hr hi hj e,fun x hx p=>(hwp x hx).1 p.2,fun j hj=>key j (by omega),?_,fun j hj=>(htw j hj).1,fun j hj=>(htw j hj).2⟩
 ·unfold fK
  split
  ·rw [psg _ (mt_lt hn hi),pmt i hi]
  ·exact psg i hi
 ·have:=key (wN (sgL l) (nameOf l) (l.length / 2) V r - 1) (by omega)
  rw [show wN (sgL l) (nameOf l) (l.length / 2) V r - 1+1=wN (sgL l) (nameOf l) (l.length / 2) V r by omega,n3] at this
  exact this
theorem wkind_N (h:Inv l b) (he:l.length%2=0) {V:Nat} (hV:∀ x,x < l.length→nameOf l x < V) {r:Nat} (hr:r < l.length) (j:Nat) (hj:j < wN (sgL l) (nameOf l) (l.length / 2) V r) :
  (wK l V r).getD ((wrun (sgL l) (nameOf l) (l.length / 2) V r j).d / 2) 0=if (wrun (sgL l) (nameOf l) (l.length / 2) V r j).k (nameOf l) < 2 then 0 else 2 :=
 wkind (sgL_pf h) (by omega) (nm_ok h) hV hr hj
theorem wprg (h:Inv l b) (he:l.length%2=0) {V:Nat} (hV:∀ x,x < l.length→nameOf l x < V) {r:Nat} (hr:r < l.length) :
  Prg (wkn (sgL l) (nameOf l) (l.length / 2) V r (wN (sgL l) (nameOf l) (l.length / 2) V r)) (wtw l V r):=by
 have hs:=sgL_pf h
 have hn:l.length=2*(l.length / 2):=by omega
 have C:=wcyc h he hV hr
 have hkn:=wkind_N h he hV hr
 have hlt:=fun j=>(wok hs hn (nm_ok h) hV hr j).lt
 have hwk:=fun i j (hij:i < j)=>wkind hs hn (nm_ok h) hV hr (i:=i) (j:=j) hij
 have hse:=fun e he' j=>wseen hs hn (nm_ok h) hV hr e he' j
 have hget:=fun j hj=>wkn_get (sgL l) (nameOf l) (l.length / 2) V r (wN (sgL l) (nameOf l) (l.length / 2) V r) j hj
 have hlen:=wkn_length (sgL l) (nameOf l) (l.length / 2) V r (wN (sgL l) (nameOf l) (l.length / 2) V r)
 have hk4:=fun j=>wk_lt (sgL l) (nameOf l) (l.length / 2) V r j
 generalize hN:wN (sgL l) (nameOf l) (l.length / 2) V r=N at *
 have odd:∀ j,j < N→((wrun (sgL l) (nameOf l) (l.length / 2) V r j).k (nameOf l)%2=1↔wtw l V r j < j):=fun j hj=>by
  have htt:=C.ttw hj
  have htl:=C.tlt j hj
  have hth:=C.thalf hj
  have hne:=C.tne hj
  have kd:=(wrun (sgL l) (nameOf l) (l.length / 2) V r j).kinds (nm:=nameOf l)
  constructor
  ·intro ho
   have hne1:(wrun (sgL l) (nameOf l) (l.length / 2) V r j).K.getD ((wrun (sgL l) (nameOf l) (l.length / 2) V r j).d / 2) 0≠-1:=by
    rcases kd with ⟨a,c⟩ | ⟨a,c⟩ | ⟨a,_⟩ | ⟨a,_⟩
    ·rw [c];decide
    ·rw [c];decide
    ·omega
    ·omega
   obtain ⟨i,hi,e⟩:=hse _ (by have:=hlt j;omega) j hne1
   rcases C.same (show i < N by omega) hj e with c | c
   ·omega
   ·omega
  ·intro ho
   have:=hwk _ j ho
   rw [hth] at this
   rcases kd with ⟨a,c⟩ | ⟨a,c⟩ | ⟨a,c,d,_⟩ | ⟨a,c,d,_⟩
   ·omega
   ·omega
   ·split at this
    ·exact absurd this c
    ·exact absurd this d
   ·split at this
    ·exact absurd this c
    ·exact absurd this d
 refine ⟨fun k hk=>?_,fun j hj=>?_,fun j hj=>?_,fun j hj=>?_,fun j hj=>?_,fun j hj=>?_⟩
 ·exact wkn_lt (sgL l) (nameOf l) (l.length / 2) V r N k hk
 ·rw [hlen] at hj ⊢;exact C.tlt j hj
 ·rw [hlen] at hj;exact C.ttw hj
 ·rw [hlen] at hj;exact C.tne hj
 ·rw [hlen] at hj
  rw [hget _ (C.tlt j hj),hget j hj]
  have a:=hkn j hj
  have c:=hkn _ (C.tlt j hj)
  have e:=C.thalf hj
  have x1:=hk4 j
  have x2:=hk4 (wtw l V r j)
  rw [e,a] at c
  split at c <;> split at c <;> first | omega | (exfalso;revert c;decide)
 ·rw [hlen] at hj
  rw [hget j hj]
  have a:=odd j hj
  have hne:=C.tne hj
  constructor
  ·intro e
   have:¬ wtw l V r j < j:=fun x=>by have:=a.2 x;omega
   omega
  ·intro e
   have:¬ (wrun (sgL l) (nameOf l) (l.length / 2) V r j).k (nameOf l)%2=1:=fun x=>by have:=a.1 x;omega
   omega
theorem wF_at (h:Inv l b) (he:l.length%2=0) {V:Nat} (hV:∀ x,x < l.length→nameOf l x < V) {r:Nat} (hr:r < l.length) (s:Nat) (hs2:s < 2) (j:Nat) (hj:j < wN (sgL l) (nameOf l) (l.length / 2) V r) :
  wF l V r (2*s) ((wrun (sgL l) (nameOf l) (l.length / 2) V r j).d / 2)↔(wrun (sgL l) (nameOf l) (l.length / 2) V r j).k (nameOf l) / 2=s:=by
 have C:=wcyc h he hV hr
 have a:=wkind_N h he hV hr j hj
 have hlt:=C.lt j hj
 have hp:=C.inP j hj
 have k4:=wk_lt (sgL l) (nameOf l) (l.length / 2) V r j
 have hp2:wP l r (2*((wrun (sgL l) (nameOf l) (l.length / 2) V r j).d / 2)):=by
  rcases Nat.mod_two_eq_zero_or_one (wrun (sgL l) (nameOf l) (l.length / 2) V r j).d with q | q
  ·rw [show 2*((wrun (sgL l) (nameOf l) (l.length / 2) V r j).d / 2)=(wrun (sgL l) (nameOf l) (l.length / 2) V r j).d by omega];exact hp
  ·have:mt (wrun (sgL l) (nameOf l) (l.length / 2) V r j).d=2*((wrun (sgL l) (nameOf l) (l.length / 2) V r j).d / 2):=by unfold mt;rw [if_neg (by omega)];omega
   rw [← this];exact (C.mate _ hlt).2 hp
 unfold wF
 rw [a]
 constructor
 ·rintro ⟨_,_,e⟩
  split at e
  ·omega
  ·omega
 ·intro e
  refine ⟨by omega,hp2,?_⟩
  split <;> omega
theorem wF_in {V r q:Nat} (e:Nat) (hF:wF l V r q e):e < l.length / 2∧wP l r (2*e):=⟨hF.1,hF.2.1⟩
theorem nx_iff (h:Inv l b) (he:l.length%2=0) {V:Nat} (hV:∀ x,x < l.length→nameOf l x < V) {r:Nat} (hr:r < l.length) (s:Nat) (hs2:s < 2) :
  NonX (wN (sgL l) (nameOf l) (l.length / 2) V r) (fun j=>(wrun (sgL l) (nameOf l) (l.length / 2) V r j).d) (wtw l V r) (wF l V r (2*s))↔NX (wkn (sgL l) (nameOf l) (l.length / 2) V r (wN (sgL l) (nameOf l) (l.length / 2) V r)) (wtw l V r) s:=by
 have hget:=fun j hj=>wkn_get (sgL l) (nameOf l) (l.length / 2) V r (wN (sgL l) (nameOf l) (l.length / 2) V r) j hj
 have hlen:=wkn_length (sgL l) (nameOf l) (l.length / 2) V r (wN (sgL l) (nameOf l) (l.length / 2) V r)
 have hF:=wF_at h he hV hr s hs2
 unfold NonX NX
 rw [hlen]
 constructor
 ·intro H i k a c d hi hk si sk
  rw [hget i hi] at si
  rw [hget k hk] at sk
  exact H i k a c d hi hk ((hF i hi).2 si) ((hF k hk).2 sk)
 ·intro H i k a c d hi hk fi fk
  exact H i k a c d hi hk (by rw [hget i hi];exact (hF i hi).1 fi) (by rw [hget k hk];exact (hF k hk).1 fk)
theorem wplane (h:Inv l b) (he:l.length%2=0) (hp:Inv (phiL l) (phiB l b)) {V:Nat} (hV:∀ x,x < l.length→nameOf l x < V) {r:Nat} (hr:r < l.length) {G:Nat}
  (hG:pV l (pq l r) l.length+pB l (pq l r) l.length+2*G=pE l (pq l r) l.length+2) :
  NX (wkn (sgL l) (nameOf l) (l.length / 2) V r (wN (sgL l) (nameOf l) (l.length / 2) V r)) (wtw l V r) 0 ∧
  (NX (wkn (sgL l) (nameOf l) (l.length / 2) V r (wN (sgL l) (nameOf l) (l.length / 2) V r)) (wtw l V r) 1↔G=0):=by
 have hs:=sgL_pf h
 have hn:l.length=2*(l.length / 2):=by omega
 have hq:=part_eqv h he
 have C:=wcyc h he hV hr
 have hkn:=wkind_N h he hV hr
 obtain ⟨c1,c2,c3⟩:=walk_counts h he hV hr
 have hc0:=wcn_is hs hn (nm_ok h) hV hr 0 (.inl rfl) (wN (sgL l) (nameOf l) (l.length / 2) V r)
 have hc2:=wcn_is hs hn (nm_ok h) hV hr 2 (.inr rfl) (wN (sgL l) (nameOf l) (l.length / 2) V r)
 have hw:=wok hs hn (nm_ok h) hV hr (wN (sgL l) (nameOf l) (l.length / 2) V r)
 have hwm:=fun x hx=>wmark h he hV hr (x:=x) hx
 have inK:∀ i,i < l.length→wP l r i→(wK l V r).getD (i / 2) 0=0∨(wK l V r).getD (i / 2) 0=2:=fun i hi pi=>by
  obtain ⟨j,hj,e⟩:=C.all i hi pi
  have:=hkn j hj
  have e':(wrun (sgL l) (nameOf l) (l.length / 2) V r j).d=i:=e
  rw [e'] at this
  rw [this]
  split
  ·exact .inl rfl
  ·exact .inr rfl
 have ev:∀ i,i < l.length→wP l r i→wP l r (2*(i / 2)):=fun i hi pi=>by
  rcases Nat.mod_two_eq_zero_or_one i with q | q
  ·rw [show 2*(i / 2)=i by omega];exact pi
  ·have:mt i=2*(i / 2):=by unfold mt;rw [if_neg (by omega)];omega
   rw [← this];exact (C.mate i hi).2 pi
 have numF:∀ q:Nat,q=0∨q=2→num (wF l V r q) (l.length / 2)=num (fun e=>(wrun (sgL l) (nameOf l) (l.length / 2) V r (wN (sgL l) (nameOf l) (l.length / 2) V r)).K.getD e 0=(q:Int)) (l.length / 2):=fun q hq2=>by
  refine num_same fun e hem=>⟨fun x=>x.2.2,fun x=>⟨hem,⟨by omega,?_⟩,x⟩⟩
  refine (hwm _ (by omega)).2 (hw.me _ (by omega) ?_)
  rw [show 2*e / 2=e by omega,x]
  rcases hq2 with rfl | rfl <;> decide
 have e1:pV l (pq l r) l.length=cls (Orb (sgL l)) (wP l r) l.length:=by
  unfold pV num cls
  congr 1
  apply List.filter_congr
  intro i hi
  have hi:i < l.length:=by simpa using hi
  have a1:pq l i=pq l r↔part l r i:=by unfold pq;rw [eq_comm,prt_iff hq hr hi]
  have a2:=leads_least h (show i≤l.length by omega)
  rw [decide_eq_decide]
  exact ⟨fun ⟨x,y⟩=>⟨⟨hi,a1.1 x⟩,a2.1 y⟩,fun ⟨⟨_,x⟩,y⟩=>⟨a1.2 x,a2.2 y⟩⟩
 have e2:pB l (pq l r) l.length=cls (Orb (fk (sgL l) (l.length / 2))) (wP l r) l.length:=by
  unfold pB num cls
  congr 1
  apply List.filter_congr
  intro i hi
  have hi:i < l.length:=by simpa using hi
  have a1:pq l i=pq l r↔part l r i:=by unfold pq;rw [eq_comm,prt_iff hq hr hi]
  have a2:=leads_phi h he hp (show i≤l.length by omega)
  rw [decide_eq_decide]
  exact ⟨fun ⟨x,y⟩=>⟨⟨hi,a1.1 x⟩,a2.1 y⟩,fun ⟨⟨_,x⟩,y⟩=>⟨a1.2 x,a2.2 y⟩⟩
 have psg:∀ x,x < l.length→(wP l r (sgL l x)↔wP l r x):=fun x hx =>
  ⟨fun ⟨_,p⟩=>⟨hx,hq.trans _ _ _ hr (hs.lt x hx) hx p (hq.symm _ _ hx (hs.lt x hx) (gk_sig hs x _))⟩,fun ⟨_,p⟩=>⟨hs.lt x hx,hq.trans _ _ _ hr hx (hs.lt x hx) p (gk_sig hs x _)⟩⟩
 have hv:cls (Orb (psi (fK (sgL l) (wK l V r)) (wF l V r 0))) (wP l r) l.length=cls (Orb (sgL l)) (wP l r) l.length :=
  cls_agree (psi_pf C.pf C.nm _) hs (psi_inv C.pf C.nm C.inv C.mate _) psg fun i hi pi=>by
   unfold psi
   rcases inK i hi pi with k | k
   ·have hq:wF l V r 0 (i / 2):=⟨by omega,ev i hi pi,k⟩
    rw [if_pos hq]
    unfold fK
    rw [mt_half,if_pos k,mt_mt']
   ·have hq:¬ wF l V r 0 (i / 2):=fun x=>by have:=x.2.2;rw [k] at this;revert this;decide
    rw [if_neg hq]
    unfold fK
    rw [if_neg (by rw [k];decide)]
 have hb:cls (Orb (psi (fK (sgL l) (wK l V r)) (wF l V r 2))) (wP l r) l.length=cls (Orb (fk (sgL l) (l.length / 2))) (wP l r) l.length :=
  cls_agree (psi_pf C.pf C.nm _) (fk_pf hs hn _ (Nat.le_refl _)) (psi_inv C.pf C.nm C.inv C.mate _) (fun i hi=>by
   rw [fk_is,if_pos (by omega),psg _ (mt_lt hn hi),C.mate i hi]) fun i hi pi=>by
   rw [fk_is,if_pos (by omega)]
   unfold psi
   rcases inK i hi pi with k | k
   ·have hq:¬ wF l V r 2 (i / 2):=fun x=>by have:=x.2.2;rw [k] at this;revert this;decide
    rw [if_neg hq]
    unfold fK
    rw [if_pos k]
   ·have hq:wF l V r 2 (i / 2):=⟨by omega,ev i hi pi,k⟩
    rw [if_pos hq]
    unfold fK
    rw [mt_half,if_neg (by rw [k];decide)]
 have i0:=C.iff_ (F:=wF l V r 0) (fun e x=>wF_in e x)
 have i2:=C.iff_ (F:=wF l V r 2) (fun e x=>wF_in e x)
 rw [hv,numF 0 (.inl rfl),← hc0,← e1] at i0
 rw [hb,numF 2 (.inr rfl),← hc2,← e2] at i2
 have n0:=nx_iff h he hV hr 0 (by decide)
 have n1:=nx_iff h he hV hr 1 (by decide)
 refine ⟨n0.1 (i0.1 c2.symm),?_⟩
 rw [← n1]
 show NonX _ _ _ (wF l V r 2)↔_
 rw [← i2]
 omega
end
end Go.Proofs.YtijbdnhlpbcabaaGreatDoor
namespace Go.Proofs.YtijbdnhlpbcabaaGreatDoor
set_option maxRecDepth 20000
def lookS (s:List Int × Nat) (d:Nat):List Int × Nat :=
 if s.1.getD d 0=-1 then ((s.1.set d (s.2:Int)).set (mt d) ((s.2+1:Nat):Int),s.2+2) else s
def lookL (n:Nat) (ds:List Nat):List Int × Nat:=ds.foldl lookS (List.replicate n (-1),0)
theorem lookL_snoc (n:Nat) (ds:List Nat) (d:Nat):lookL n (ds++[d])=lookS (lookL n ds) d:=by simp [lookL]
theorem cmt_ne (d:Nat):mt d≠d:=by unfold mt;split <;> omega
theorem cmt_inj {a b:Nat} (h:mt a=mt b):a=b:=by have:=congrArg mt h;rwa [mt_mt,mt_mt] at this
structure LK (n:Nat) (y:List Int) (nx:Nat) (z:List Nat):Prop where
 len:y.length=n
 zl:z.length=nx
 ev:nx%2=0
 zlt:∀ v,v < nx→z.getD v 0 < n
 yz:∀ v,v < nx→y.getD (z.getD v 0) 0=(v:Int)
 zy:∀ d,d < n→y.getD d 0≠-1→∃ v,v < nx∧y.getD d 0=(v:Int)∧z.getD v 0=d
 mt:∀ d v:Nat,d < n→y.getD d 0=(v:Int)→y.getD (Go.Proofs.YtijbdnhlpbcabaaGreatDoor.mt d) 0=((Go.Proofs.YtijbdnhlpbcabaaGreatDoor.mt v:Nat):Int)
theorem LK.start (n:Nat):LK n (List.replicate n (-1)) 0 []:=by
 have hr:∀ d,d < n→(List.replicate n (-1:Int)).getD d 0=-1:=fun d hd=>by simp [List.getD_eq_getElem?_getD,hd]
 exact ⟨by simp,rfl,rfl,fun v hv=>by omega,fun v hv=>by omega,fun d hd h=>absurd (hr d hd) h,fun d v hd h=>by rw [hr d hd] at h;omega⟩
theorem LK.mate {n:Nat} {y:List Int} {nx:Nat} {z:List Nat} (h:LK n y nx z) (he:n%2=0) {d:Nat} (hd:d < n) (h1:y.getD d 0=-1):y.getD (Go.Proofs.YtijbdnhlpbcabaaGreatDoor.mt d) 0=-1:=by
 have hm:=mt_in he hd
 by_cases c:y.getD (Go.Proofs.YtijbdnhlpbcabaaGreatDoor.mt d) 0=-1
 ·exact c
 ·obtain ⟨v,_,e,_⟩:=h.zy _ hm c
  have:=h.mt _ v hm e
  rw [mt_mt] at this
  omega
theorem LK.next {n:Nat} {y:List Int} {nx:Nat} {z:List Nat} (h:LK n y nx z) (he:n%2=0) {d:Nat} (hd:d < n) (h1:y.getD d 0=-1) :
  LK n ((y.set d (nx:Int)).set (Go.Proofs.YtijbdnhlpbcabaaGreatDoor.mt d) ((nx+1:Nat):Int)) (nx+2) (z++[d,Go.Proofs.YtijbdnhlpbcabaaGreatDoor.mt d]):=by
 have hm:=mt_in he hd
 have h2:=h.mate he hd h1
 have hne:=cmt_ne d
 have hl:=h.len
 have hz:=h.zl
 have hev:=h.ev
 have Y:∀ i,((y.set d (nx:Int)).set (Go.Proofs.YtijbdnhlpbcabaaGreatDoor.mt d) ((nx+1:Nat):Int)).getD i 0=if i=Go.Proofs.YtijbdnhlpbcabaaGreatDoor.mt d then ((nx+1:Nat):Int) else if i=d then (nx:Int) else y.getD i 0:=fun i=>by
  rw [getDI_set _ _ _ _ (by rw [List.length_set,hl];exact hm),getDI_set _ _ _ _ (by rw [hl];exact hd)]
 have Z:∀ v,(z++[d,Go.Proofs.YtijbdnhlpbcabaaGreatDoor.mt d]).getD v 0=if v < nx then z.getD v 0 else if v=nx then d else if v=nx+1 then Go.Proofs.YtijbdnhlpbcabaaGreatDoor.mt d else 0:=fun v=>by
  rw [List.getD_eq_getElem?_getD]
  by_cases c:v < nx
  ·rw [List.getElem?_append_left (by omega),if_pos c,List.getD_eq_getElem?_getD]
  ·rw [List.getElem?_append_right (by omega),if_neg c,hz]
   by_cases c2:v=nx
   ·subst c2;simp
   ·by_cases c3:v=nx+1
    ·subst c3;simp
    ·rw [if_neg c2,if_neg c3,List.getElem?_eq_none (by simp;omega)];rfl
 have old:∀ v,v < nx→z.getD v 0≠d∧z.getD v 0≠Go.Proofs.YtijbdnhlpbcabaaGreatDoor.mt d:=fun v hv=>by
  have:=h.yz v hv
  refine ⟨fun e=>?_,fun e=>?_⟩ <;> rw [e] at this <;> omega
 refine ⟨by rw [List.length_set,List.length_set,hl],by simp [hz],by omega,fun v hv=>?_,fun v hv=>?_,fun i hi hn=>?_,fun i v hi hv=>?_⟩
 ·rw [Z]
  split
  ·exact h.zlt v (by assumption)
  ·split
   ·exact hd
   ·rw [if_pos (by omega)];exact hm
 ·rw [Z]
  by_cases c:v < nx
  ·rw [if_pos c,Y,if_neg (old v c).2,if_neg (old v c).1];exact h.yz v c
  ·rw [if_neg c]
   by_cases c2:v=nx
   ·rw [if_pos c2,Y,if_neg (Ne.symm hne),if_pos rfl,c2]
   ·rw [if_neg c2,if_pos (show v=nx+1 by omega),Y,if_pos rfl,show v=nx+1 by omega]
 ·rw [Y] at hn ⊢
  by_cases c:i=Go.Proofs.YtijbdnhlpbcabaaGreatDoor.mt d
  ·exact ⟨nx+1,by omega,by rw [if_pos c],by rw [Z,if_neg (by omega),if_neg (by omega),if_pos rfl,c]⟩
  ·rw [if_neg c] at hn ⊢
   by_cases c2:i=d
   ·exact ⟨nx,by omega,by rw [if_pos c2],by rw [Z,if_neg (by omega),if_pos rfl,c2]⟩
   ·rw [if_neg c2] at hn ⊢
    obtain ⟨v,hv,e1,e2⟩:=h.zy i hi hn
    exact ⟨v,by omega,e1,by rw [Z,if_pos hv,e2]⟩
 ·rw [Y] at hv ⊢
  by_cases c:i=Go.Proofs.YtijbdnhlpbcabaaGreatDoor.mt d
  ·rw [if_pos c] at hv
   have hvn:v=nx+1:=by omega
   subst c
   rw [mt_mt,if_neg (Ne.symm hne),if_pos rfl,hvn]
   have:Go.Proofs.YtijbdnhlpbcabaaGreatDoor.mt (nx+1)=nx:=by unfold Go.Proofs.YtijbdnhlpbcabaaGreatDoor.mt;rw [if_neg (by omega)];omega
   rw [this]
  ·rw [if_neg c] at hv
   by_cases c2:i=d
   ·rw [if_pos c2] at hv
    have hvn:v=nx:=by omega
    subst c2
    rw [if_pos rfl,hvn]
    have:Go.Proofs.YtijbdnhlpbcabaaGreatDoor.mt nx=nx+1:=by unfold Go.Proofs.YtijbdnhlpbcabaaGreatDoor.mt;rw [if_pos (by omega)]
    rw [this]
   ·rw [if_neg c2] at hv
    have k1:Go.Proofs.YtijbdnhlpbcabaaGreatDoor.mt i≠Go.Proofs.YtijbdnhlpbcabaaGreatDoor.mt d:=fun e=>c2 (cmt_inj e)
    have k2:Go.Proofs.YtijbdnhlpbcabaaGreatDoor.mt i≠d:=fun e=>c (by rw [← e,mt_mt])
    rw [if_neg k1,if_neg k2]
    exact h.mt i v hi hv
theorem LK.done {n:Nat} {y:List Int} {nx:Nat} {z:List Nat} (h:LK n y nx z) (he:n%2=0) (hall:∀ d,d < n→y.getD d 0≠-1):∃ L,y=ofN L∧Nam n L z:=by
 have hy:∀ d,d < n→(y.getD d 0).toNat < nx∧((y.getD d 0).toNat:Int)=y.getD d 0∧z.getD (y.getD d 0).toNat 0=d:=fun d hd=>by
  obtain ⟨v,hv,e1,e2⟩:=h.zy d hd (hall d hd)
  rw [e1]
  exact ⟨by simpa using hv,by simp,by simpa using e2⟩
 have hn:n=nx:=by
  rcases Nat.lt_trichotomy n nx with c | c | c
  ·obtain ⟨x,hx,e⟩:=inj_surj nx (fun v=>z.getD v 0) (fun v hv=>Nat.lt_trans (h.zlt v hv) c) (fun a b ha hb e=>by
    have h1:=h.yz a ha
    have h2:=h.yz b hb
    have e':z.getD a 0=z.getD b 0:=e
    rw [e',h2] at h1;omega) n c
   have:=h.zlt x hx
   have e':z.getD x 0=n:=e
   omega
  ·exact c
  ·obtain ⟨x,hx,e⟩:=inj_surj n (fun d=>(y.getD d 0).toNat) (fun d hd=>Nat.lt_trans (hy d hd).1 c) (fun a b ha hb e=>by
    have h1:=(hy a ha).2.2
    have h2:=(hy b hb).2.2
    have e':(y.getD a 0).toNat=(y.getD b 0).toNat:=e
    rw [e',h2] at h1;exact h1.symm) nx c
   have:=(hy x hx).1
   have e':(y.getD x 0).toNat=nx:=e
   omega
 subst hn
 obtain ⟨L,hL⟩:∃ L,L=y.map Int.toNat:=⟨_,rfl⟩
 have hLl:L.length=n:=by rw [hL,List.length_map,h.len]
 have hLg:∀ d,d < n→L.getD d 0=(y.getD d 0).toNat:=fun d hd=>by
  rw [hL];simp [List.getD_eq_getElem?_getD,List.getElem?_eq_getElem (show d < y.length by rw [h.len];exact hd)]
 have hyL:y=ofN L:=getDI_ext (by rw [ofN_len,hLl,h.len]) fun d hd=>by
  rw [h.len] at hd
  rw [ofN_get,hLg d hd,(hy d hd).2.1]
 refine ⟨L,hyL,⟨⟨?_,?_,?_,?_,?_⟩,hLl,he,?_⟩⟩
 ·rw [h.zl,hLl]
 ·intro i hi;rw [hLl] at hi ⊢;rw [hLg i hi];exact (hy i hi).1
 ·intro i hi;rw [hLl] at hi ⊢;exact h.zlt i hi
 ·intro i hi;rw [hLl] at hi;rw [hLg i hi];exact (hy i hi).2.2
 ·intro i hi
  rw [hLl] at hi
  have h1:=h.yz i hi
  rw [hLg _ (h.zlt i hi),h1];simp
 ·intro d hd
  have h1:=h.mt d _ hd (hy d hd).2.1.symm
  show L.getD (Go.Proofs.YtijbdnhlpbcabaaGreatDoor.mt d) 0=Go.Proofs.YtijbdnhlpbcabaaGreatDoor.mt (L.getD d 0)
  rw [hLg _ (mt_in he hd),h1,hLg d hd];simp
theorem getDN_extC {l m:List Nat} (h:l.length=m.length) (hg:∀ i,i < l.length→l.getD i 0=m.getD i 0):l=m:=by
 apply List.ext_getElem h
 intro i h1 h2
 have:=hg i h1
 rwa [List.getD_eq_getElem?_getD,List.getD_eq_getElem?_getD,List.getElem?_eq_getElem h1,List.getElem?_eq_getElem h2] at this
structure Inc (n n':Nat) (g:Nat→Nat):Prop where
 ev:n%2=0
 lt:∀ x,x < n→g x < n'
 mt:∀ x,x < n→g (Go.Proofs.YtijbdnhlpbcabaaGreatDoor.mt x)=Go.Proofs.YtijbdnhlpbcabaaGreatDoor.mt (g x)
 inj:∀ x y,x < n→y < n→g x=g y→x=y
theorem half_iff {n n':Nat} {g:Nat→Nat} (h:Inc n n' g) {a b:Nat} (ha:a < n) (hb:b < n):g a / 2=g b / 2↔a / 2=b / 2:=by
 have hm:=mt_in h.ev hb
 have key:∀ x y:Nat,x / 2=y / 2↔x=y∨x=mt y:=fun x y=>by unfold mt;split <;> omega
 rw [key,key,← h.mt b hb]
 constructor
 ·rintro (e | e)
  ·exact .inl (h.inj a b ha hb e)
  ·exact .inr (h.inj a (mt b) ha hm e)
 ·rintro (e | e)
  ·exact .inl (by rw [e])
  ·exact .inr (by rw [e])
structure WSim (n:Nat) (g:Nat→Nat) (nm nm':Nat→Nat) (s s':WS):Prop where
 lt:s.d < n
 d:s'.d=g s.d
 k:∀ x,x < n→s'.K.getD (g x / 2) 0=s.K.getD (x / 2) 0
 m:∀ x,x < n→s'.M.getD (nm' (g x)) false=s.M.getD (nm x) false
theorem WSim.kind {n n':Nat} {g:Nat→Nat} (h:Inc n n' g) {nm nm':Nat→Nat} {s s':WS} (w:WSim n g nm nm' s s'):s'.k nm'=s.k nm:=by
 have hm:=mt_in h.ev w.lt
 unfold WS.k wKd
 rw [w.d,w.k s.d w.lt,← h.mt s.d w.lt,w.m _ hm]
theorem WSim.next {n n' m m' V V':Nat} {g:Nat→Nat} (h:Inc n n' g) (hn:n=2*m) (hn':n'=2*m') {sg sg' nm nm':Nat→Nat} (hs:∀ d,d < n→sg d < n) (hsg:∀ d,d < n→sg' (g d)=g (sg d))
  (hnm:∀ a b,a < n→b < n→(nm' (g a)=nm' (g b)↔nm a=nm b)) (hv:∀ d,d < n→nm d < V) (hv':∀ d,d < n'→nm' d < V') {s s':WS} (hk:s.K.length=m) (hk':s'.K.length=m') (hM:s.M.length=V) (hM':s'.M.length=V')
  (w:WSim n g nm nm' s s'):WSim n g nm nm' (s.next sg nm) (s'.next sg' nm'):=by
 have hm:=mt_in h.ev w.lt
 have hkd:=w.kind h
 have hpl:=h.lt _ w.lt
 refine ⟨?_,?_,fun x hx=>?_,fun x hx=>?_⟩
 ·show wNx sg s.d (s.k nm) < n
  unfold wNx
  split
  ·exact hs _ hm
  ·exact hs _ w.lt
 ·show wNx sg' s'.d (s'.k nm')=g (wNx sg s.d (s.k nm))
  rw [hkd,w.d]
  unfold wNx
  split
  ·rw [← h.mt s.d w.lt,hsg _ hm]
  ·rw [hsg _ w.lt]
 ·show (wK1 s'.K s'.d (s'.k nm')).getD (g x / 2) 0=(wK1 s.K s.d (s.k nm)).getD (x / 2) 0
  rw [hkd,w.d]
  unfold wK1
  split
  ·rw [getI_set _ _ _ _ (by rw [hk'];omega),getI_set _ _ _ _ (by rw [hk];have:=w.lt;omega)]
   by_cases c:x / 2=s.d / 2
   ·rw [if_pos ((half_iff h hx w.lt).2 c),if_pos c]
   ·rw [if_neg (fun e=>c ((half_iff h hx w.lt).1 e)),if_neg c];exact w.k x hx
  ·exact w.k x hx
 ·show (wM1 nm' s'.M s'.d (s'.k nm')).getD (nm' (g x)) false=(wM1 nm s.M s.d (s.k nm)).getD (nm x) false
  rw [hkd,w.d]
  unfold wM1
  split
  ·rw [← h.mt s.d w.lt,getB_set _ _ _ _ (by rw [hM'];exact hv' _ (h.lt _ hm)),getB_set _ _ _ _ (by rw [hM];exact hv _ hm)]
   by_cases c:nm x=nm (mt s.d)
   ·rw [if_pos ((hnm x _ hx hm).2 c),if_pos c]
   ·rw [if_neg (fun e=>c ((hnm x _ hx hm).1 e)),if_neg c];exact w.m x hx
  ·exact w.m x hx
theorem next_lens {sg nm:Nat→Nat} {s:WS}:(s.next sg nm).K.length=s.K.length∧(s.next sg nm).M.length=s.M.length:=by
 constructor
 ·show (wK1 _ _ _).length=_
  unfold wK1;split <;> simp
 ·show (wM1 _ _ _ _).length=_
  unfold wM1;split <;> simp
theorem wrun_map {n n' m m' V V':Nat} {g:Nat→Nat} (h:Inc n n' g) (hn:n=2*m) (hn':n'=2*m') {sg sg' nm nm':Nat→Nat} (hs:∀ d,d < n→sg d < n) (hsg:∀ d,d < n→sg' (g d)=g (sg d))
  (hnm:∀ a b,a < n→b < n→(nm' (g a)=nm' (g b)↔nm a=nm b)) (hv:∀ d,d < n→nm d < V) (hv':∀ d,d < n'→nm' d < V') {r:Nat} (hr:r < n) :
  ∀ j,WSim n g nm nm' (wrun sg nm m V r j) (wrun sg' nm' m' V' (g r) j)∧(wrun sg nm m V r j).K.length=m∧(wrun sg' nm' m' V' (g r) j).K.length=m'∧(wrun sg nm m V r j).M.length=V∧(wrun sg' nm' m' V' (g r) j).M.length=V'
 | 0=>by
   refine ⟨⟨hr,rfl,fun x hx=>?_,fun x hx=>?_⟩,by simp [wrun],by simp [wrun],by simp [wrun],by simp [wrun]⟩
   ·have h1:g x / 2 < m':=by have:=h.lt x hx;omega
    have h2:x / 2 < m:=by omega
    show (List.replicate m' (-1:Int)).getD _ 0=(List.replicate m (-1:Int)).getD _ 0
    simp only [List.getD_eq_getElem?_getD,List.getElem?_replicate,h1,h2,if_true]
   ·show ((List.replicate V' false).set (nm' (g r)) true).getD (nm' (g x)) false=((List.replicate V false).set (nm r) true).getD (nm x) false
    rw [getB_set _ _ _ _ (by simp;exact hv' _ (h.lt _ hr)),getB_set _ _ _ _ (by simp;exact hv _ hr)]
    have hf:∀ (W k:Nat),(List.replicate W false).getD k false=false:=fun W k=>by
     rw [List.getD_eq_getElem?_getD,List.getElem?_replicate];split <;> rfl
    by_cases c:nm x=nm r
    ·rw [if_pos ((hnm x r hx hr).2 c),if_pos c]
    ·rw [if_neg (fun e=>c ((hnm x r hx hr).1 e)),if_neg c,hf,hf]
 | j+1=>by
   obtain ⟨w,a1,a2,a3,a4⟩:=wrun_map h hn hn' hs hsg hnm hv hv' hr j
   have l1:=@next_lens sg nm (wrun sg nm m V r j)
   have l2:=@next_lens sg' nm' (wrun sg' nm' m' V' (g r) j)
   exact ⟨w.next h hn hn' hs hsg hnm hv hv' a1 a2 a3 a4,l1.1.trans a1,l2.1.trans a2,l1.2.trans a3,l2.2.trans a4⟩
structure LMore (n:Nat) (ds:List Nat) (s t:List Int × Nat):Prop where
 lk:∃ z,LK n t.1 t.2 z
 le:s.2≤t.2
 keep:∀ d,d < n→s.1.getD d 0≠-1→t.1.getD d 0=s.1.getD d 0
 late:∀ d,d < n→s.1.getD d 0=-1→t.1.getD d 0=-1∨(s.2:Int)≤t.1.getD d 0∧t.1.getD d 0 < (t.2:Int)
 iff:∀ d,d < n→(t.1.getD d 0≠-1↔s.1.getD d 0≠-1∨d∈ds∨mt d∈ds)
theorem lookS_get {n:Nat} {y:List Int} {nx d:Nat} (hl:y.length=n) (he:n%2=0) (hd:d < n) (c:y.getD d 0=-1) (i:Nat) :
  (lookS (y,nx) d).1.getD i 0=if i=mt d then ((nx+1:Nat):Int) else if i=d then (nx:Int) else y.getD i 0:=by
 have hm:=mt_in he hd
 have e:lookS (y,nx) d=((y.set d (nx:Int)).set (mt d) ((nx+1:Nat):Int),nx+2):=by unfold lookS;rw [if_pos c]
 rw [e]
 show ((y.set d (nx:Int)).set (mt d) ((nx+1:Nat):Int)).getD i 0=_
 rw [getDI_set _ _ _ _ (by rw [List.length_set,hl];exact hm),getDI_set _ _ _ _ (by rw [hl];exact hd)]
theorem LK.both {n:Nat} {y:List Int} {nx:Nat} {z:List Nat} (h:LK n y nx z) (he:n%2=0) {d:Nat} (hd:d < n) (c:y.getD d 0≠-1):y.getD (Go.Proofs.YtijbdnhlpbcabaaGreatDoor.mt d) 0≠-1:=fun e=>c (by
 have:=h.mate he (mt_in he hd) e
 rwa [mt_mt] at this)
theorem LK.more {n:Nat} (he:n%2=0):∀ (ds:List Nat) (y:List Int) (nx:Nat) (z:List Nat),(∀ d∈ds,d < n)→LK n y nx z→LMore n ds (y,nx) (ds.foldl lookS (y,nx))
 | [],y,nx,z,_,h=>⟨⟨z,h⟩,Nat.le_refl _,fun d _ _=>rfl,fun d _ c=>.inl c,fun d _=>by simp⟩
 | x :: ds,y,nx,z,hds,h=>by
   have hx:=hds x (List.mem_cons_self ..)
   have hm:=mt_in he hx
   rw [List.foldl_cons]
   by_cases c:y.getD x 0=-1
   ·have e:lookS (y,nx) x=((y.set x (nx:Int)).set (Go.Proofs.YtijbdnhlpbcabaaGreatDoor.mt x) ((nx+1:Nat):Int),nx+2):=by unfold lookS;rw [if_pos c]
    have G:=lookS_get (nx:=nx) h.len he hx c
    have h2:=h.mate he hx c
    rw [e] at G ⊢
    have M:=LK.more he ds _ _ _ (fun d hd=>hds d (List.mem_cons_of_mem _ hd)) (h.next he hx c)
    obtain ⟨lk,le,keep,late,hif⟩:=M
    have keep:∀ d,d < n→((y.set x (nx:Int)).set (Go.Proofs.YtijbdnhlpbcabaaGreatDoor.mt x) ((nx+1:Nat):Int)).getD d 0≠-1→(ds.foldl lookS ((y.set x (nx:Int)).set (Go.Proofs.YtijbdnhlpbcabaaGreatDoor.mt x) ((nx+1:Nat):Int),nx+2)).1.getD d 0=((y.set x (nx:Int)).set (Go.Proofs.YtijbdnhlpbcabaaGreatDoor.mt x) ((nx+1:Nat):Int)).getD d 0:=keep
    have G:∀ i,((y.set x (nx:Int)).set (Go.Proofs.YtijbdnhlpbcabaaGreatDoor.mt x) ((nx+1:Nat):Int)).getD i 0=if i=Go.Proofs.YtijbdnhlpbcabaaGreatDoor.mt x then ((nx+1:Nat):Int) else if i=x then (nx:Int) else y.getD i 0:=G
    have le:nx+2≤(ds.foldl lookS ((y.set x (nx:Int)).set (Go.Proofs.YtijbdnhlpbcabaaGreatDoor.mt x) ((nx+1:Nat):Int),nx+2)).2:=le
    refine ⟨lk,by show nx≤_;omega,fun d hd k=>?_,fun d hd k=>?_,fun d hd=>?_⟩
    ·have k':y.getD d 0≠-1:=k
     have n1:d≠Go.Proofs.YtijbdnhlpbcabaaGreatDoor.mt x:=fun e=>k' (by rw [e];exact h2)
     have n2:d≠x:=fun e=>k' (by rw [e];exact c)
     have g:((y.set x (nx:Int)).set (Go.Proofs.YtijbdnhlpbcabaaGreatDoor.mt x) ((nx+1:Nat):Int)).getD d 0=y.getD d 0:=by rw [G,if_neg n1,if_neg n2]
     rw [keep d hd (by rw [g];exact k'),g]
    ·by_cases c1:d=Go.Proofs.YtijbdnhlpbcabaaGreatDoor.mt x
     ·have g:=G d
      rw [if_pos c1] at g
      right
      rw [keep d hd (by rw [g];omega),g]
      show (nx:Int)≤_∧_
      omega
     ·by_cases c2:d=x
      ·have g:=G d
       rw [if_neg c1,if_pos c2] at g
       right
       rw [keep d hd (by rw [g];omega),g]
       show (nx:Int)≤_∧_
       omega
      ·have g:=G d
       rw [if_neg c1,if_neg c2] at g
       have k':y.getD d 0=-1:=k
       rcases late d hd (by show List.getD _ d 0=-1;rw [g];exact k') with l | ⟨l1,l2⟩
       ·exact .inl l
       ·right
        have l1':((nx+2:Nat):Int)≤_:=l1
        refine ⟨?_,l2⟩
        show (nx:Int)≤_
        omega
    ·rw [hif d hd]
     show (List.getD _ d 0≠-1∨_)↔(y.getD d 0≠-1∨_)
     rw [G]
     have hmm:Go.Proofs.YtijbdnhlpbcabaaGreatDoor.mt d=x↔d=Go.Proofs.YtijbdnhlpbcabaaGreatDoor.mt x:=⟨fun e=>by rw [← e,mt_mt],fun e=>by rw [e,mt_mt]⟩
     simp only [List.mem_cons,hmm]
     by_cases c1:d=Go.Proofs.YtijbdnhlpbcabaaGreatDoor.mt x
     ·rw [if_pos c1]
      exact ⟨fun _=>.inr (.inr (.inl c1)),fun _=>.inl (by omega)⟩
     ·rw [if_neg c1]
      by_cases c2:d=x
      ·rw [if_pos c2]
       exact ⟨fun _=>.inr (.inl (.inl c2)),fun _=>.inl (by omega)⟩
      ·rw [if_neg c2]
       constructor
       ·rintro (a | a | a)
        ·exact .inl a
        ·exact .inr (.inl (.inr a))
        ·exact .inr (.inr (.inr a))
       ·rintro (a | (a | a) | (a | a))
        ·exact .inl a
        ·exact absurd a c2
        ·exact .inr (.inl a)
        ·exact absurd a c1
        ·exact .inr (.inr a)
   ·have e:lookS (y,nx) x=(y,nx):=by unfold lookS;rw [if_neg c]
    rw [e]
    obtain ⟨lk,le,keep,late,hif⟩:=LK.more he ds y nx z (fun d hd=>hds d (List.mem_cons_of_mem _ hd)) h
    refine ⟨lk,le,keep,late,fun d hd=>?_⟩
    rw [hif d hd]
    have hmm:Go.Proofs.YtijbdnhlpbcabaaGreatDoor.mt d=x→y.getD d 0≠-1:=fun e=>by
     have:=h.both he hx c
     rwa [← e,mt_mt] at this
    simp only [List.mem_cons]
    constructor
    ·rintro (a | a | a)
     ·exact .inl a
     ·exact .inr (.inl (.inr a))
     ·exact .inr (.inr (.inr a))
    ·rintro (a | (a | a) | (a | a))
     ·exact .inl a
     ·exact .inl (by rw [a];exact c)
     ·exact .inr (.inl a)
     ·exact .inl (hmm a)
     ·exact .inr (.inr a)
theorem LK.first {n:Nat} {y:List Int} {nx:Nat} {z:List Nat} (h:LK n y nx z) (he:n%2=0) {x:Nat} (ds:List Nat) (hx:x < n) (hds:∀ d∈ds,d < n) (c:y.getD x 0=-1):((x :: ds).foldl lookS (y,nx)).1.getD x 0=(nx:Int):=by
 have e:lookS (y,nx) x=((y.set x (nx:Int)).set (Go.Proofs.YtijbdnhlpbcabaaGreatDoor.mt x) ((nx+1:Nat):Int),nx+2):=by unfold lookS;rw [if_pos c]
 have g:=lookS_get (nx:=nx) h.len he hx c x
 rw [if_neg (Ne.symm (cmt_ne x)),if_pos rfl] at g
 rw [List.foldl_cons]
 rw [e] at g ⊢
 have M:=LK.more he ds _ _ _ hds (h.next he hx c)
 rw [M.keep x hx (by rw [g];omega),g]
theorem look_all {n:Nat} (he:n%2=0) (ds:List Nat) (hds:∀ d∈ds,d < n) (hall:∀ d,d < n→d∈ds∨mt d∈ds):∃ L z,(lookL n ds).1=ofN L∧Nam n L z:=by
 have M:=LK.more he ds _ _ _ hds (LK.start n)
 obtain ⟨z,hz⟩:=M.lk
 obtain ⟨L,e,hN⟩:=hz.done he fun d hd=>(M.iff d hd).2 (.inr (hall d hd))
 exact ⟨L,z,e,hN⟩

theorem cnum_all:∀ k,num (fun _=>True) k=k
 | 0=>rfl
 | k+1=>by rw [(num_next (fun _=>True) k).1 trivial,cnum_all k]
end Go.Proofs.YtijbdnhlpbcabaaGreatDoor
