/- Where the genus is nought: who is joined by some edges is within one border of them; chords of a border never cross; on a border there is one without a chord. -/
import Derived.Test.YtajjgpkahljjmaaGreatDoorZg4
set_option linter.unusedVariables false
namespace Go.Proofs.YtajjgpkahljjmaaGreatDoor
/-! ### where the genus is nought: who is joined by some edges is within one border of them -/
def Clo (n:Nat) (sg:Nat→Nat) (Q:Nat→Prop) (S:Nat→Prop):Prop :=
 (∀ i,i < n→(S (sg i)↔S i))∧∀ e,2*e+1 < n→Q e→(S (2*e)↔S (2*e+1))
def RQ (n:Nat) (sg:Nat→Nat) (Q:Nat→Prop) (i j:Nat):Prop:=∀ S,Clo n sg Q S→(S i↔S j)
theorem RQ.eqv (n:Nat) (sg:Nat→Nat) (Q:Nat→Prop):Eqv n (RQ n sg Q) :=
 ⟨fun i _ S _=>Iff.rfl,fun i j _ _ h S c=>(h S c).symm,fun i j k _ _ _ h g S c=>(h S c).trans (g S c)⟩
theorem RQ.sig {n:Nat} {sg:Nat→Nat} {Q:Nat→Prop} {i:Nat} (hi:i < n):RQ n sg Q i (sg i):=fun S c=>(c.1 i hi).symm
theorem RQ.edge {n:Nat} {sg:Nat→Nat} {Q:Nat→Prop} {e:Nat} (he:2*e+1 < n) (q:Q e):RQ n sg Q (2*e) (2*e+1):=fun S c=>c.2 e he q
theorem RQ.mono {n:Nat} {sg:Nat→Nat} {Q R:Nat→Prop} (h:∀ e,Q e→R e) {i j:Nat} (r:RQ n sg Q i j):RQ n sg R i j:=fun S c=>r S ⟨c.1,fun e he q=>c.2 e he (h e q)⟩
theorem RQ.add {n:Nat} {sg:Nat→Nat} {Q:Nat→Prop} (hs:PF n sg) {a:Nat} (ha:2*a+1 < n) {i j:Nat} (hi:i < n) (hj:j < n) :
  RQ n sg (fun e=>Q e∨e=a) i j↔joinR (RQ n sg Q) (2*a) (2*a+1) i j:=by
 have E:=RQ.eqv n sg Q
 have J:=joinR.eqv E (show 2*a < n by omega) ha
 constructor
 ·intro r
  refine (r (fun x=>x < n∧joinR (RQ n sg Q) (2*a) (2*a+1) i x) ⟨fun x hx=>?_,fun e he q=>?_⟩ |>.1 ⟨hi,J.refl i hi⟩).2
  ·have hx':=hs.lt x hx
   have s:joinR (RQ n sg Q) (2*a) (2*a+1) x (sg x):=.inl (RQ.sig hx)
   exact ⟨fun ⟨_,k⟩=>⟨hx,J.trans _ _ _ hi hx' hx k (J.symm _ _ hx hx' s)⟩,fun ⟨_,k⟩=>⟨hx',J.trans _ _ _ hi hx hx' k s⟩⟩
  ·have s:joinR (RQ n sg Q) (2*a) (2*a+1) (2*e) (2*e+1):=by
    rcases q with q | q
    ·exact .inl (RQ.edge he q)
    ·subst q;exact .inr (.inl ⟨E.refl _ (by omega),E.refl _ he⟩)
   exact ⟨fun ⟨_,k⟩=>⟨he,J.trans _ _ _ hi (by omega) he k s⟩,fun ⟨_,k⟩=>⟨by omega,J.trans _ _ _ hi he (by omega) k (J.symm _ _ (by omega) he s)⟩⟩
 ·have e0:RQ n sg (fun e=>Q e∨e=a) (2*a) (2*a+1):=RQ.edge ha (.inr rfl)
  have up:∀ x y,RQ n sg Q x y→RQ n sg (fun e=>Q e∨e=a) x y:=fun x y r=>r.mono fun e q=>.inl q
  have F:=RQ.eqv n sg (fun e=>Q e∨e=a)
  rintro (r | ⟨r1,r2⟩ | ⟨r1,r2⟩)
  ·exact up _ _ r
  ·exact F.trans _ _ _ hi (by omega) hj (up _ _ r1) (F.trans _ _ _ (by omega) ha hj e0 (up _ _ r2))
  ·exact F.trans _ _ _ hi ha hj (up _ _ r1) (F.trans _ _ _ ha (by omega) hj (F.symm _ _ (by omega) ha e0) (up _ _ r2))
theorem RQ.ofOrb {n:Nat} {sg:Nat→Nat} {Q:Nat→Prop} {m:Nat} (hs:PF n sg) (hn:n=2*m) {i j:Nat} (hi:i < n) (o:Orb (psi sg Q) i j):RQ n sg Q i j:=by
 have E:=RQ.eqv n sg Q
 have P:=psi_pf hs hn Q
 obtain ⟨k,rfl⟩:=o
 induction k with
 | zero=>exact E.refl i hi
 | succ k ih =>
   have hk:=P.itlt hi k
   refine E.trans _ _ _ hi hk (P.lt _ hk) ih ?_
   show RQ n sg Q (itf (psi sg Q) k i) (psi sg Q (itf (psi sg Q) k i))
   generalize itf (psi sg Q) k i=x at *
   unfold psi
   split
   ·next q =>
    have hm:=mt_lt hn hk
    refine E.trans _ _ _ hk hm (hs.lt _ hm) ?_ (RQ.sig hm)
    have ed:=RQ.edge (n:=n) (sg:=sg) (e:=x / 2) (by omega) q
    unfold mt
    split
    ·rw [show x+1=2*(x / 2)+1 by omega]
     have:x=2*(x / 2):=by omega
     rw [← this] at ed ⊢
     exact ed
    ·rw [show x - 1=2*(x / 2) by omega]
     have:x=2*(x / 2)+1:=by omega
     rw [← this] at ed
     exact E.symm _ _ (by omega) hk ed
   ·exact RQ.sig hk
section
variable {n m:Nat} {sg:Nat→Nat}
noncomputable def excJ (n m:Nat) (sg:Nat→Nat) (Q:Nat→Prop):Int :=
 2*(cls (RQ n sg Q) (fun _=>True) n:Nat)+(num Q m:Nat) - (cls (Orb (psi sg Q)) (fun _=>True) n:Nat) - (cls (Orb sg) (fun _=>True) n:Nat)
theorem excJ_step (hs:PF n sg) (hn:n=2*m) {Q:Nat→Prop} {e:Nat} (hQ:¬ Q e) (he:e < m) :
  excJ n m sg Q≤excJ n m sg (fun x=>Q x∨x=e) ∧
  (RQ n sg Q (2*e) (2*e+1)→¬ Orb (psi sg Q) (2*e) (2*e+1)→excJ n m sg Q+2≤excJ n m sg (fun x=>Q x∨x=e)):=by
 have E:=RQ.eqv n sg Q
 have ha:2*e < n:=by omega
 have hb:2*e+1 < n:=by omega
 obtain ⟨s1,s2⟩:=psi_step (P:=fun _=>True) hs hn (fun _ _=>Iff.rfl) (fun _ _=>Iff.rfl) hQ he trivial
 have nm:=num_more (R:=fun x=>Q x∨x=e) he hQ (fun i=>Iff.rfl) m
 rw [if_pos he] at nm
 have cj:cls (RQ n sg fun x=>Q x∨x=e) (fun _=>True) n=cls (joinR (RQ n sg Q) (2*e) (2*e+1)) (fun _=>True) n:=cls_congr fun i j hi hj _=>RQ.add hs hb hi hj
 unfold excJ
 rw [nm,cj]
 by_cases r:RQ n sg Q (2*e) (2*e+1)
 ·have c:=cls_join_eq (P:=fun _=>True) E ha hb r
  rw [c]
  by_cases o:Orb (psi sg Q) (2*e) (2*e+1)
  ·have:=s1 o
   exact ⟨by omega,fun _ no=>absurd o no⟩
  ·have:=s2 o
   exact ⟨by omega,fun _ _=>by omega⟩
 ·have c:=cls_join (P:=fun _=>True) E (fun _ _ _ _ _ _=>trivial) ha hb trivial trivial r
  have o:¬ Orb (psi sg Q) (2*e) (2*e+1):=fun o=>r (RQ.ofOrb hs hn ha o)
  have:=s2 o
  exact ⟨by omega,fun h=>absurd h r⟩
theorem excJ_congr {Q R:Nat→Prop} (h:∀ e,Q e↔R e):excJ n m sg Q=excJ n m sg R:=by
 have:Q=R:=funext fun e=>propext (h e)
 rw [this]
theorem excJ_mono (hs:PF n sg) (hn:n=2*m) {Q R:Nat→Prop} (h:∀ e,Q e→R e):∀ k,k≤m→excJ n m sg Q≤excJ n m sg (fun e=>Q e∨(R e∧e < k))
 | 0,_=>by rw [excJ_congr (Q:=fun e=>Q e∨(R e∧e < 0)) (R:=Q) fun e=>⟨fun x=>x.elim id fun y=>absurd y.2 (by omega),.inl⟩];exact Int.le_refl _
 | k+1,hk=>by
   have ih:=excJ_mono hs hn h k (by omega)
   by_cases c:R k∧¬ Q k
   ·have hq:¬ (Q k∨(R k∧k < k)):=fun x=>x.elim c.2 fun y=>absurd y.2 (by omega)
    have st:=(excJ_step hs hn (Q:=fun e=>Q e∨(R e∧e < k)) hq (show k < m by omega)).1
    rw [excJ_congr (Q:=fun x=>(Q x∨(R x∧x < k))∨x=k) (R:=fun e=>Q e∨(R e∧e < k+1)) fun e=>by
     constructor
     ·rintro ((x | ⟨x,y⟩) | rfl)
      ·exact .inl x
      ·exact .inr ⟨x,by omega⟩
      ·exact .inr ⟨c.1,by omega⟩
     ·rintro (x | ⟨x,y⟩)
      ·exact .inl (.inl x)
      ·by_cases q:e=k
       ·exact .inr q
       ·exact .inl (.inr ⟨x,by omega⟩)] at st
    omega
   ·rw [excJ_congr (Q:=fun e=>Q e∨(R e∧e < k+1)) (R:=fun e=>Q e∨(R e∧e < k)) fun e=>by
     constructor
     ·rintro (x | ⟨x,y⟩)
      ·exact .inl x
      ·by_cases q:e=k
       ·subst q
        exact .inl (Classical.byContradiction fun z=>c ⟨x,z⟩)
       ·exact .inr ⟨x,by omega⟩
     ·rintro (x | ⟨x,y⟩)
      ·exact .inl x
      ·exact .inr ⟨x,by omega⟩]
    exact ih
theorem excJ_le (hs:PF n sg) (hn:n=2*m) {Q R:Nat→Prop} (h:∀ e,Q e→R e) (hR:∀ e,R e→e < m):excJ n m sg Q≤excJ n m sg R:=by
 have:=excJ_mono hs hn h m (Nat.le_refl _)
 rwa [excJ_congr (Q:=fun e=>Q e∨(R e∧e < m)) (R:=R) fun e=>⟨fun x=>x.elim (h e) And.left,fun x=>.inr ⟨x,hR e x⟩⟩] at this
theorem excJ_none (hs:PF n sg) (hn:n=2*m):excJ n m sg (fun _=>False)=0:=by
 unfold excJ
 rw [psi_none sg (Q:=fun _=>False) (fun _ x=>x),num_none' (fun _ x=>x)]
 have:cls (RQ n sg fun _=>False) (fun _=>True) n=cls (Orb sg) (fun _=>True) n:=cls_congr fun i j hi hj _=>by
  constructor
  ·intro r
   have E:=hs.eqv
   refine (r (fun x=>x < n∧Orb sg i x) ⟨fun x hx=>?_,fun e _ q=>q.elim⟩ |>.1 ⟨hi,E.refl i hi⟩).2
   have s:Orb sg x (sg x):=⟨1,rfl⟩
   exact ⟨fun ⟨_,k⟩=>⟨hx,E.trans _ _ _ hi (hs.lt x hx) hx k (E.symm _ _ hx (hs.lt x hx) s)⟩,fun ⟨_,k⟩=>⟨hs.lt x hx,E.trans _ _ _ hi hx (hs.lt x hx) k s⟩⟩
  ·intro o
   refine RQ.ofOrb (m:=m) hs hn hi ?_
   rw [psi_none sg (Q:=fun _=>False) (fun _ x=>x)]
   exact o
 rw [this];omega
theorem jordan (hs:PF n sg) (hn:n=2*m) (h0:excJ n m sg (fun e=>e < m)≤0) {Q:Nat→Prop} (hQm:∀ e,Q e→e < m) {e:Nat} (he:e < m) (hQ:¬ Q e) (r:RQ n sg Q (2*e) (2*e+1)) :
  Orb (psi sg Q) (2*e) (2*e+1):=Classical.byContradiction fun o=>by
 have a:=(excJ_step hs hn hQ he).2 r o
 have b:=excJ_le hs hn (Q:=fun _=>False) (R:=Q) (fun _ x=>x.elim) hQm
 have c:=excJ_le hs hn (Q:=fun x=>Q x∨x=e) (R:=fun e=>e < m) (fun x q=>q.elim (hQm x) fun y=>by omega) (fun _ x=>x)
 rw [excJ_none hs hn] at b
 omega
end
end Go.Proofs.YtajjgpkahljjmaaGreatDoor
namespace Go.Proofs.YtajjgpkahljjmaaGreatDoor
/-! ### a border, and its chords -/
def prv (N t:Nat):Nat:=if t=0 then N - 1 else t - 1
structure Brd (n N:Nat) (sg:Nat→Nat) (z P L:Nat→Nat) (gone:Nat→Prop):Prop where
 N2:2≤N
 zlt:∀ t,t < N→z t < n
 P1:∀ t,t < N→1≤P t∧P t < L t
 pos:∀ t,t < N→itf sg (P t) (mt (z (prv N t)))=z t
 cyc:∀ t,t < N→itf sg (L t) (mt (z (prv N t)))=mt (z (prv N t))
 inj:∀ t,t < N→∀ p q,p < L t→q < L t→itf sg p (mt (z (prv N t)))=itf sg q (mt (z (prv N t)))→p=q
 apart:∀ s t,s < N→t < N→Orb sg (z s) (z t)→s=t
 left:∀ t,t < N→¬ gone (z t)
 turn:∀ x,x < n→(gone (sg x)↔gone x)
 outer:∀ t p,t < N→P t < p→p < L t→gone (mt (itf sg p (mt (z (prv N t)))))
theorem prv_lt {N t:Nat} (h:t < N):prv N t < N:=by unfold prv;split <;> omega
theorem prv_sur {N t:Nat} (h:t < N):∃ s,s < N∧prv N s=t:=by
 by_cases c:t+1 < N
 ·exact ⟨t+1,c,by unfold prv;rw [if_neg (by omega)];omega⟩
 ·exact ⟨0,by omega,by unfold prv;rw [if_pos rfl];omega⟩
section
variable {n m N:Nat} {sg z P L:Nat→Nat} {gone:Nat→Prop}
def Brd.at_ (_:Brd n N sg z P L gone) (t p:Nat):Nat:=itf sg p (mt (z (prv N t)))
theorem Brd.alt (h:Brd n N sg z P L gone) (hs:PF n sg) (hn:n=2*m) {t:Nat} (ht:t < N) (p:Nat):h.at_ t p < n:=hs.itlt (mt_lt hn (h.zlt _ (prv_lt ht))) p
theorem Brd.orb (h:Brd n N sg z P L gone) (hs:PF n sg) (hn:n=2*m) {t:Nat} (ht:t < N) (p:Nat):Orb sg (z t) (h.at_ t p):=by
 have E:=hs.eqv
 have h0:=mt_lt hn (h.zlt _ (prv_lt ht))
 exact E.trans _ _ _ (h.zlt t ht) h0 (h.alt hs hn ht p) (E.symm _ _ h0 (h.zlt t ht) ⟨P t,h.pos t ht⟩) ⟨p,rfl⟩
theorem Brd.ofOrb (h:Brd n N sg z P L gone) (hs:PF n sg) (hn:n=2*m) {t:Nat} (ht:t < N) {x:Nat} (hx:x < n) (o:Orb sg (z t) x):∃ p,p < L t∧x=h.at_ t p:=by
 have E:=hs.eqv
 have h0:=mt_lt hn (h.zlt _ (prv_lt ht))
 obtain ⟨k,e⟩:Orb sg (mt (z (prv N t))) x:=E.trans _ _ _ h0 (h.zlt t ht) hx ⟨P t,h.pos t ht⟩ o
 have hL:0 < L t:=by have:=h.P1 t ht;omega
 refine ⟨k%L t,Nat.mod_lt _ hL,?_⟩
 unfold Brd.at_
 rw [← e]
 have hk:k=k%L t+(k / L t)*L t:=by have:=Nat.div_add_mod k (L t);rw [Nat.mul_comm] at this;omega
 calc itf sg k (mt (z (prv N t)))=itf sg (k%L t+(k / L t)*L t) (mt (z (prv N t))):=by rw [← hk]
  _=_:=by rw [itf_add,itf_mul (h.cyc t ht)]
theorem Brd.uniq (h:Brd n N sg z P L gone) (hs:PF n sg) (hn:n=2*m) {s t:Nat} (hs':s < N) (ht:t < N) {p q:Nat} (hp:p < L s) (hq:q < L t) (e:h.at_ s p=h.at_ t q):s=t∧p=q:=by
 have E:=hs.eqv
 have st:s=t:=h.apart s t hs' ht (E.trans _ _ _ (h.zlt s hs') (h.alt hs hn hs' p) (h.zlt t ht) (h.orb hs hn hs' p) (by rw [e];exact E.symm _ _ (h.zlt t ht) (h.alt hs hn ht q) (h.orb hs hn ht q)))
 subst st
 exact ⟨rfl,h.inj s hs' p q hp hq e⟩
theorem Brd.goneOrb (h:Brd n N sg z P L gone) (hs:PF n sg) {x y:Nat} (hx:x < n) (o:Orb sg x y):gone x↔gone y:=orb_inv hs h.turn hx o
def Brd.Chord (h:Brd n N sg z P L gone) (t r c:Nat):Prop:=t < N∧r < N∧(∃ p,0 < p∧p < P t∧c=h.at_ t p)∧Orb sg (z r) (mt c)
theorem Brd.Chord.symm {h:Brd n N sg z P L gone} (hs:PF n sg) (hn:n=2*m) {t r c:Nat} (k:h.Chord t r c):h.Chord r t (mt c):=by
 obtain ⟨ht,hr,⟨p,p0,p1,rfl⟩,o⟩:=k
 have hc:=h.alt hs hn ht p
 obtain ⟨q,hq,e⟩:=h.ofOrb hs hn hr (mt_lt hn hc) o
 have hPt:=h.P1 t ht
 have hPr:=h.P1 r hr
 refine ⟨hr,ht,⟨q,?_,?_,e⟩,by rw [mt_mt'];exact h.orb hs hn ht p⟩
 ·rcases Nat.eq_zero_or_pos q with c | c
  ·exfalso
   subst c
   have e2:h.at_ t p=z (prv N r):=by
    have e1:mt (h.at_ t p)=mt (z (prv N r)):=e
    rw [← mt_mt' (h.at_ t p),e1,mt_mt']
   have hp':=prv_lt hr
   have:=h.uniq hs hn ht hp' (show p < L t by omega) (h.P1 _ hp').2 (by rw [e2];exact (h.pos _ hp').symm)
   obtain ⟨rfl,rfl⟩:=this
   omega
  ·exact c
 ·rcases Nat.lt_trichotomy q (P r) with c | c | c
  ·exact c
  ·exfalso
   subst c
   have e1:mt (h.at_ t p)=z r:=by rw [e];exact h.pos r hr
   obtain ⟨s,hs',e3⟩:=prv_sur hr
   have e2:h.at_ t p=h.at_ s 0:=by
    show h.at_ t p=mt (z (prv N s))
    rw [e3,← e1,mt_mt']
   have:=h.uniq hs hn ht hs' (show p < L t by omega) (show 0 < L s by have:=h.P1 s hs';omega) e2
   omega
  ·exfalso
   have g:=h.outer r q hr c hq
   have e1:mt (itf sg q (mt (z (prv N r))))=h.at_ t p:=by
    show mt (h.at_ r q)=_
    rw [← e,mt_mt']
   rw [e1] at g
   exact h.left t ht ((h.goneOrb hs (h.zlt t ht) (h.orb hs hn ht p)).2 g)
theorem Brd.cross (h:Brd n N sg z P L gone) (hs:PF n sg) (hn:n=2*m) (h0:excJ n m sg (fun e=>e < m)≤0) {t q d w r c:Nat} (k1:h.Chord t q d) (k2:h.Chord w r c) (htw:t < w) (hwq:w < q) (hr:r < t∨q < r):False:=by
 have hlt:=fun t (ht:t < N)=>h.alt hs hn ht
 have E:=hs.eqv
 have k1':=k1.symm hs hn
 have k2':=k2.symm hs hn
 obtain ⟨ht,hq,⟨pt,pt0,pt1,ed⟩,o1⟩:=k1
 obtain ⟨_,_,⟨pq,pq0,pq1,ed'⟩,_⟩:=k1'
 obtain ⟨hw,hr',⟨pw,pw0,pw1,ec⟩,o2⟩:=k2
 obtain ⟨_,_,⟨pr,pr0,pr1,ec'⟩,_⟩:=k2'
 have PL:=fun t (ht:t < N)=>(h.P1 t ht).2
 have P1:=fun t (ht:t < N)=>(h.P1 t ht).1
 have hd:d < n:=by rw [ed];exact hlt t ht _
 have hc:c < n:=by rw [ec];exact hlt w hw _
 let Q:Nat→Prop:=fun e=>(∃ s,s < N∧e=z s / 2)∨e=d / 2
 have half:∀ x y,x / 2=y / 2→x=y∨x=mt y:=fun x y e=>by unfold mt;split <;> omega
 have inQ:∀ s p,s < N→p < L s→Q (h.at_ s p / 2)→p=0∨p=P s∨(s=t∧p=pt)∨(s=q∧p=pq):=fun s p hs' hp hQ=>by
  rcases hQ with ⟨u,hu,e⟩ | e
  ·rcases half _ _ e with c1 | c1
   ·have:=h.uniq hs hn hs' hu hp (PL u hu) (by rw [c1];exact (h.pos u hu).symm)
    exact .inr (.inl (by rw [this.2,this.1]))
   ·obtain ⟨v,hv,ev⟩:=prv_sur hu
    have:=h.uniq hs hn hs' hv hp (show 0 < L v by have:=PL v hv;omega) (show h.at_ s p=mt (z (prv N v)) by rw [ev];exact c1)
    exact .inl this.2
  ·rcases half _ _ e with c1 | c1
   ·have:=h.uniq hs hn hs' ht hp (show pt < L t by have:=PL t ht;omega) (by rw [c1];exact ed)
    exact .inr (.inr (.inl this))
   ·have:=h.uniq hs hn hs' hq hp (show pq < L q by have:=PL q hq;omega) (by rw [c1];exact ed')
    exact .inr (.inr (.inr this))
 have hQm:∀ e,Q e→e < m:=fun e=>by
  rintro (⟨s,hs',rfl⟩ | rfl)
  ·have:=h.zlt s hs';omega
  ·omega
 have hcQ:¬ Q (c / 2):=fun x=>by
  have:=inQ w pw hw (by have:=PL w hw;omega) (by rw [← ec];exact x)
  have:=P1 w hw
  omega
 have R:=RQ.eqv n sg Q
 have rOrb:∀ {x y},x < n→Orb sg x y→RQ n sg Q x y:=fun {x y} hx o S cl=>orb_inv hs cl.1 hx o
 have rMt:∀ x,x < n→Q (x / 2)→RQ n sg Q x (mt x):=fun x hx hQ=>by
  have ed:=RQ.edge (n:=n) (sg:=sg) (e:=x / 2) (by omega) hQ
  unfold mt
  split
  ·rw [show x+1=2*(x / 2)+1 by omega]
   have e:x=2*(x / 2):=by omega
   rw [← e] at ed ⊢;exact ed
  ·rw [show x - 1=2*(x / 2) by omega]
   have e:x=2*(x / 2)+1:=by omega
   rw [← e] at ed
   exact R.symm _ _ (by omega) hx ed
 have step:∀ s,s+1 < N→RQ n sg Q (z s) (z (s+1)):=fun s hs'=>by
  have hzs:=h.zlt s (by omega)
  have a1:=rMt (z s) hzs (.inl ⟨s,by omega,rfl⟩)
  have a2:Orb sg (mt (z s)) (z (s+1)):=by
   have:=h.pos (s+1) hs'
   unfold prv at this
   rw [if_neg (by omega)] at this
   exact ⟨_,this⟩
  exact R.trans _ _ _ hzs (mt_lt hn hzs) (h.zlt _ hs') a1 (rOrb (mt_lt hn hzs) a2)
 have all0:∀ s,s < N→RQ n sg Q (z 0) (z s):=fun s=>by
  induction s with
  | zero=>intro hs';exact R.refl _ (h.zlt 0 hs')
  | succ s ih=>intro hs';exact R.trans _ _ _ (h.zlt 0 (by omega)) (h.zlt s (by omega)) (h.zlt _ hs') (ih (by omega)) (step s hs')
 have rc:RQ n sg Q c (mt c):=by
  have hz0:=h.zlt 0 (by omega)
  have b1:RQ n sg Q (z 0) c:=R.trans _ _ _ hz0 (h.zlt w hw) hc (all0 w hw) (rOrb (h.zlt w hw) (by rw [ec];exact h.orb hs hn hw pw))
  have b2:RQ n sg Q (z 0) (mt c):=R.trans _ _ _ hz0 (h.zlt r hr') (mt_lt hn hc) (all0 r hr') (rOrb (h.zlt r hr') o2)
  exact R.trans _ _ _ hc hz0 (mt_lt hn hc) (R.symm _ _ hz0 hc b1) b2
 have rc':RQ n sg Q (2*(c / 2)) (2*(c / 2)+1):=by
  unfold mt at rc
  split at rc
  ·rw [show 2*(c / 2)+1=c+1 by omega,show 2*(c / 2)=c by omega];exact rc
  ·rw [show 2*(c / 2)+1=c by omega,show 2*(c / 2)=c - 1 by omega];exact R.symm _ _ hc (by omega) rc
 have J:=jordan hs hn h0 hQm (show c / 2 < m by omega) hcQ rc'
 have PQ:=psi_pf hs hn Q
 have Jc:Orb (psi sg Q) c (mt c):=by
  unfold mt
  split
  ·rw [show 2*(c / 2)+1=c+1 by omega,show 2*(c / 2)=c by omega] at J;exact J
  ·rw [show 2*(c / 2)+1=c by omega,show 2*(c / 2)=c - 1 by omega] at J;exact PQ.eqv.symm _ _ (by omega) hc J
 let S:Nat→Prop:=fun x=>∃ s p,s < N∧x=h.at_ s p∧((t < s∧s < q∧0 < p∧p≤P s)∨(s=q∧0 < p∧p≤pq)∨(s=t∧pt < p∧p≤P t))
 have stay:∀ x,S x→S (psi sg Q x):=fun x ⟨s,p,hs',ex,hsp⟩=>by
  have hpL:p < L s:=by
   have:=PL s hs'
   rcases hsp with ⟨_,_,_,a⟩ | ⟨rfl,_,a⟩ | ⟨rfl,_,a⟩ <;> omega
  by_cases hQ:Q (x / 2)
  ·have e1:psi sg Q x=sg (mt x):=by unfold psi;rw [if_pos hQ]
   rw [e1]
   have cs:=inQ s p hs' hpL (by rw [← ex];exact hQ)
   by_cases c1:p=P s∧s < q
   ·obtain ⟨rfl,hsq⟩:=c1
    have e2:x=z s:=by rw [ex];exact h.pos s hs'
    refine ⟨s+1,1,by omega,?_,?_⟩
    ·rw [e2]
     show sg (mt (z s))=sg (mt (z (prv N (s+1))))
     unfold prv
     rw [if_neg (by omega)]
     rfl
    ·have:=P1 (s+1) (by omega)
     by_cases c2:s+1=q
     ·exact .inr (.inl ⟨c2,by omega,by omega⟩)
     ·refine .inl ⟨?_,by omega,by omega,this⟩
      rcases hsp with ⟨a,_⟩ | ⟨rfl,_⟩ | ⟨rfl,_⟩ <;> omega
   ·by_cases c2:s=q∧p=pq
    ·obtain ⟨rfl,rfl⟩:=c2
     refine ⟨t,pt+1,ht,?_,.inr (.inr ⟨rfl,by omega,by omega⟩)⟩
     rw [ex,← ed',mt_mt',ed];rfl
    ·exfalso
     rcases hsp with ⟨a1,a2,a3,a4⟩ | ⟨rfl,a3,a4⟩ | ⟨rfl,a3,a4⟩
     ·omega
     ·omega
     ·omega
  ·have e1:psi sg Q x=sg x:=by unfold psi;rw [if_neg hQ]
   rw [e1]
   refine ⟨s,p+1,hs',by rw [ex];rfl,?_⟩
   have zQ:p≠P s:=fun e=>hQ (.inl ⟨s,hs',by rw [ex,e];show h.at_ s (P s) / 2=_;rw [show h.at_ s (P s)=z s from h.pos s hs']⟩)
   rcases hsp with ⟨a1,a2,a3,a4⟩ | ⟨rfl,a3,a4⟩ | ⟨rfl,a3,a4⟩
   ·exact .inl ⟨a1,a2,by omega,by omega⟩
   ·have:p≠pq:=fun e=>hQ (.inr (by rw [ex,e,← ed'];exact mt_half d))
    exact .inr (.inl ⟨rfl,by omega,by omega⟩)
   ·exact .inr (.inr ⟨rfl,by omega,by omega⟩)
 have sc:S c:=⟨w,pw,hw,ec,.inl ⟨htw,hwq,pw0,by omega⟩⟩
 obtain ⟨j,ej⟩:=Jc
 have sj:∀ j,S (itf (psi sg Q) j c):=fun j=>by
  induction j with
  | zero=>exact sc
  | succ j ih=>exact stay _ ih
 have:=sj j
 rw [ej] at this
 obtain ⟨s,p,hs',ex,hsp⟩:=this
 have hpL:p < L s:=by
  have:=PL s hs'
  rcases hsp with ⟨_,_,_,a⟩ | ⟨rfl,_,a⟩ | ⟨rfl,_,a⟩ <;> omega
 have:=h.uniq hs hn hs' hr' hpL (show pr < L r by have:=PL r hr';omega) (by rw [← ex];exact ec')
 omega
theorem Brd.free (h:Brd n N sg z P L gone) (hs:PF n sg) (hn:n=2*m) (h0:excJ n m sg (fun e=>e < m)≤0) (hN:3≤N)
  (noloop:∀ x,x < n→¬ Orb sg x (mt x)) (simple:∀ x y,x < n→y < n→Orb sg x y→Orb sg (mt x) (mt y)→x=y):∃ t,0 < t∧t+1 < N∧∀ r c,¬ h.Chord t r c:=by
 refine Classical.byContradiction fun hno=>?_
 have hall:∀ t,0 < t→t+1 < N→∃ r c,h.Chord t r c:=fun t a b=>Classical.byContradiction fun hn'=>hno ⟨t,a,b,fun r c k=>hn' ⟨r,c,k⟩⟩
 have E:=hs.eqv
 have apart:∀ t q d,h.Chord t q d→t < q→t+2≤q:=fun t q d k htq=>by
  refine Classical.byContradiction fun hlt=>?_
  obtain rfl:q=t+1:=by omega
  obtain ⟨ht,hq,⟨p,p0,p1,e⟩,o⟩:=k
  have hd:d < n:=by rw [e];exact h.alt hs hn ht p
  have e2:Orb sg (mt (z t)) (z (t+1)):=by
   have:=h.pos (t+1) hq
   unfold prv at this
   rw [if_neg (by omega)] at this
   exact ⟨_,this⟩
  have hz:=h.zlt t ht
  have:z t=d:=simple (z t) d hz hd (by rw [e];exact h.orb hs hn ht p) (E.trans _ _ _ (mt_lt hn hz) (h.zlt _ hq) (mt_lt hn hd) e2 o)
  have hPt:=h.P1 t ht
  have u:=h.uniq hs hn ht ht (show p < L t by omega) hPt.2 (by rw [← e,← this];exact (h.pos t ht).symm)
  omega
 have short:∀ s t q d,q - t=s→t < q→h.Chord t q d→False:=fun s=>by
  induction s using Nat.strongRecOn with
  | ind s ih =>
    intro t q d hsp htq k
    have h2:=apart t q d k htq
    have hq:=k.2.1
    obtain ⟨r,c,k2⟩:=hall (t+1) (by omega) (by omega)
    have k2':=k2.symm hs hn
    have hne:r≠t+1:=fun e=>by
     subst e
     obtain ⟨hw,_,⟨p,_,_,e⟩,o⟩:=k2
     have hc:c < n:=by rw [e];exact h.alt hs hn hw p
     refine noloop c hc (E.trans _ _ _ hc (h.zlt _ hw) (mt_lt hn hc) (E.symm _ _ (h.zlt _ hw) hc ?_) o)
     rw [e];exact h.orb hs hn hw p
    by_cases c1:r < t∨q < r
    ·exact h.cross hs hn h0 k k2 (by omega) (by omega) c1
    ·by_cases c2:r=t
     ·subst c2
      have:=apart r (r+1) (mt c) k2' (by omega)
      omega
     ·exact ih (r - (t+1)) (by omega) (t+1) r c rfl (by omega) k2
 obtain ⟨r,c,k⟩:=hall 1 (by omega) (by omega)
 have k':=k.symm hs hn
 rcases Nat.lt_trichotomy r 1 with c1 | c1 | c1
 ·have:=apart r 1 (mt c) k' c1;omega
 ·subst c1
  obtain ⟨hw,_,⟨p,_,_,e⟩,o⟩:=k
  have hc:c < n:=by rw [e];exact h.alt hs hn hw p
  exact noloop c hc (E.trans _ _ _ hc (h.zlt _ hw) (mt_lt hn hc) (E.symm _ _ (h.zlt _ hw) hc (by rw [e];exact h.orb hs hn hw p)) o)
 ·exact short (r - 1) 1 r c rfl c1 k
end
end Go.Proofs.YtajjgpkahljjmaaGreatDoor
namespace Go.Proofs.YtajjgpkahljjmaaGreatDoor
/-! ### triangulations: a vertex put into a face -/
theorem mt_e {n k:Nat} (h:n%2=0):mt (n+2*k)=n+2*k+1:=by unfold mt;rw [if_pos (by omega)]
theorem mt_o {n k:Nat} (h:n%2=0):mt (n+2*k+1)=n+2*k:=by unfold mt;rw [if_neg (by omega)];omega
theorem mt_inj {a b:Nat} (h:mt a=mt b):a=b:=by rw [← mt_mt' a,h,mt_mt']
structure TG (n:Nat) (sg v:Nat→Nat) (V:Nat):Prop where
 ev:n%2=0
 pos:0 < n
 pf:PF n sg
 lab:∀ i,i < n→v i < V
 lsg:∀ i,i < n→v (sg i)=v i
 orb:∀ i j,i < n→j < n→v i=v j→Orb sg i j
 sur:∀ k,k < V→∃ i,i < n∧v i=k
 cnt:n+12=6*V
 tri:∀ d,d < n→sg (mt (sg (mt (sg (mt d)))))=d
 noloop:∀ d,d < n→v (mt d)≠v d
 simple:∀ d e,d < n→e < n→v d=v e→v (mt d)=v (mt e)→d=e
 conn:∀ S:Nat→Prop,(∀ i,i < n→S i→S (sg i))→(∀ i,i < n→S i→S (mt i))→S 0→∀ i,i < n→S i
theorem mt_ltn {n i:Nat} (hn:n%2=0) (hi:i < n):mt i < n:=by unfold mt;split <;> omega
section
variable {n V:Nat} {sg v:Nat→Nat}
structure Tri3 (n:Nat) (sg v:Nat→Nat) (x0 x1 x2:Nat):Prop where
 l0:x0 < n
 l1:x1 < n
 l2:x2 < n
 m0:mt x0 < n
 m1:mt x1 < n
 m2:mt x2 < n
 s0:sg (mt x0)=x1
 s1:sg (mt x1)=x2
 s2:sg (mt x2)=x0
 v0:v (mt x0)=v x1
 v1:v (mt x1)=v x2
 v2:v (mt x2)=v x0
 d01:v x0≠v x1
 d12:v x1≠v x2
 d20:v x2≠v x0
theorem TG.face (h:TG n sg v V) {d:Nat} (hd:d < n):Tri3 n sg v d (sg (mt d)) (sg (mt (sg (mt d)))):=by
 have m0:=mt_ltn h.ev hd
 have l1:=h.pf.lt _ m0
 have m1:=mt_ltn h.ev l1
 have l2:=h.pf.lt _ m1
 have m2:=mt_ltn h.ev l2
 have s2:=h.tri d hd
 have v0:=h.lsg _ m0
 have v1:=h.lsg _ m1
 have v2:=h.lsg _ m2
 rw [s2] at v2
 have n0:=h.noloop d hd
 have n1:=h.noloop _ l1
 have n2:=h.noloop _ l2
 exact ⟨hd,l1,l2,m0,m1,m2,rfl,rfl,s2,v0.symm,v1.symm,v2.symm,by omega,by omega,by omega⟩
def putS (n:Nat) (sg:Nat→Nat) (x0 x1 x2:Nat) (i:Nat):Nat :=
 if i=mt x2 then n else if i=mt x0 then n+2 else if i=mt x1 then n+4 else if i=n then x0 else if i=n+2 then x1 else if i=n+4 then x2
 else if i=n+1 then n+5 else if i=n+3 then n+1 else if i=n+5 then n+3 else sg i
def putV (n V:Nat) (v:Nat→Nat) (x0 x1 x2:Nat) (i:Nat):Nat :=
 if i < n then v i else if i=n then v x0 else if i=n+2 then v x1 else if i=n+4 then v x2 else V
theorem TG.put_cases (h:TG n sg v V) {x0 x1 x2:Nat} (t:Tri3 n sg v x0 x1 x2) (i:Nat) (hi:i < n+6) :
  (i=mt x2∧putS n sg x0 x1 x2 i=n)∨(i=mt x0∧putS n sg x0 x1 x2 i=n+2)∨(i=mt x1∧putS n sg x0 x1 x2 i=n+4)∨(i=n∧putS n sg x0 x1 x2 i=x0)∨(i=n+2∧putS n sg x0 x1 x2 i=x1)∨(i=n+4∧putS n sg x0 x1 x2 i=x2) ∨
  (i=n+1∧putS n sg x0 x1 x2 i=n+5)∨(i=n+3∧putS n sg x0 x1 x2 i=n+1)∨(i=n+5∧putS n sg x0 x1 x2 i=n+3) ∨
  (i < n∧i≠mt x0∧i≠mt x1∧i≠mt x2∧putS n sg x0 x1 x2 i=sg i∧sg i < n∧sg i≠x0∧sg i≠x1∧sg i≠x2):=by
 obtain ⟨l0,l1,l2,m0,m1,m2,s0,s1,s2,v0,v1,v2,d01,d12,d20⟩:=t
 have e01:mt x0≠mt x1:=fun e=>d01 (by rw [mt_inj e])
 have e12:mt x1≠mt x2:=fun e=>d12 (by rw [mt_inj e])
 have e20:mt x2≠mt x0:=fun e=>d20 (by rw [mt_inj e])
 unfold putS
 by_cases c1:i=mt x2
 ·rw [if_pos c1];exact .inl ⟨c1,rfl⟩
 rw [if_neg c1]
 by_cases c2:i=mt x0
 ·rw [if_pos c2];exact .inr (.inl ⟨c2,rfl⟩)
 rw [if_neg c2]
 by_cases c3:i=mt x1
 ·rw [if_pos c3];exact .inr (.inr (.inl ⟨c3,rfl⟩))
 rw [if_neg c3]
 by_cases c4:i=n
 ·rw [if_pos c4];exact .inr (.inr (.inr (.inl ⟨c4,rfl⟩)))
 rw [if_neg c4]
 by_cases c5:i=n+2
 ·rw [if_pos c5];exact .inr (.inr (.inr (.inr (.inl ⟨c5,rfl⟩))))
 rw [if_neg c5]
 by_cases c6:i=n+4
 ·rw [if_pos c6];exact .inr (.inr (.inr (.inr (.inr (.inl ⟨c6,rfl⟩)))))
 rw [if_neg c6]
 by_cases c7:i=n+1
 ·rw [if_pos c7];exact .inr (.inr (.inr (.inr (.inr (.inr (.inl ⟨c7,rfl⟩))))))
 rw [if_neg c7]
 by_cases c8:i=n+3
 ·rw [if_pos c8];exact .inr (.inr (.inr (.inr (.inr (.inr (.inr (.inl ⟨c8,rfl⟩)))))))
 rw [if_neg c8]
 by_cases c9:i=n+5
 ·rw [if_pos c9];exact .inr (.inr (.inr (.inr (.inr (.inr (.inr (.inr (.inl ⟨c9,rfl⟩))))))))
 rw [if_neg c9]
 have hlt:i < n:=by omega
 have hl:=h.pf.lt i hlt
 refine .inr (.inr (.inr (.inr (.inr (.inr (.inr (.inr (.inr ⟨hlt,c2,c3,c1,rfl,hl,fun e=>?_,fun e=>?_,fun e=>?_⟩))))))))
 ·exact c1 (h.pf.inj _ _ hlt m2 (by rw [e,s2]))
 ·exact c2 (h.pf.inj _ _ hlt m0 (by rw [e,s0]))
 ·exact c3 (h.pf.inj _ _ hlt m1 (by rw [e,s1]))
theorem TG.put_pf (h:TG n sg v V) {x0 x1 x2:Nat} (t:Tri3 n sg v x0 x1 x2):PF (n+6) (putS n sg x0 x1 x2):=by
 have ⟨l0,l1,l2,m0,m1,m2,s0,s1,s2,v0,v1,v2,d01,d12,d20⟩:=t
 have x01:x0≠x1:=fun e=>d01 (by rw [e])
 have x12:x1≠x2:=fun e=>d12 (by rw [e])
 have x20:x2≠x0:=fun e=>d20 (by rw [e])
 refine ⟨fun i hi=>?_,fun i j hi hj e=>?_⟩
 ·have:=h.put_cases t i hi
  omega
 ·rcases h.put_cases t i hi with ⟨a,b⟩ | ⟨a,b⟩ | ⟨a,b⟩ | ⟨a,b⟩ | ⟨a,b⟩ | ⟨a,b⟩ | ⟨a,b⟩ | ⟨a,b⟩ | ⟨a,b⟩ | ⟨a,a1,a2,a3,b,b0,b1,b2,b3⟩ <;> rw [b] at e <;>
   rcases h.put_cases t j hj with ⟨c,d⟩ | ⟨c,d⟩ | ⟨c,d⟩ | ⟨c,d⟩ | ⟨c,d⟩ | ⟨c,d⟩ | ⟨c,d⟩ | ⟨c,d⟩ | ⟨c,d⟩ | ⟨c,c1,c2,c3,d,d0,d1,d2,d3⟩ <;> rw [d] at e <;>
   first | omega | exact h.pf.inj _ _ a c e
theorem putV_lt {x0 x1 x2 i:Nat} (hi:i < n):putV n V v x0 x1 x2 i=v i:=by unfold putV;rw [if_pos hi]
theorem TG.put (h:TG n sg v V) {x0 x1 x2:Nat} (t:Tri3 n sg v x0 x1 x2):TG (n+6) (putS n sg x0 x1 x2) (putV n V v x0 x1 x2) (V+1):=by
 have P:=h.put_pf t
 have C:=h.put_cases t
 have ⟨l0,l1,l2,m0,m1,m2,s0,s1,s2,v0,v1,v2,d01,d12,d20⟩:=t
 have ev:=h.ev
 have q0:putV n V v x0 x1 x2 n=v x0:=by unfold putV;rw [if_neg (by omega),if_pos rfl]
 have q1:putV n V v x0 x1 x2 (n+1)=V:=by unfold putV;rw [if_neg (by omega),if_neg (by omega),if_neg (by omega),if_neg (by omega)]
 have q2:putV n V v x0 x1 x2 (n+2)=v x1:=by unfold putV;rw [if_neg (by omega),if_neg (by omega),if_pos rfl]
 have q3:putV n V v x0 x1 x2 (n+3)=V:=by unfold putV;rw [if_neg (by omega),if_neg (by omega),if_neg (by omega),if_neg (by omega)]
 have q4:putV n V v x0 x1 x2 (n+4)=v x2:=by unfold putV;rw [if_neg (by omega),if_neg (by omega),if_neg (by omega),if_pos rfl]
 have q5:putV n V v x0 x1 x2 (n+5)=V:=by unfold putV;rw [if_neg (by omega),if_neg (by omega),if_neg (by omega),if_neg (by omega)]
 have ql:∀ i,i < n→putV n V v x0 x1 x2 i=v i:=fun i hi=>putV_lt hi
 have t0:mt n=n+1:=mt_e (k:=0) ev
 have t1:mt (n+1)=n:=mt_o (k:=0) ev
 have t2:mt (n+2)=n+3:=mt_e (k:=1) ev
 have t3:mt (n+3)=n+2:=mt_o (k:=1) ev
 have t4:mt (n+4)=n+5:=mt_e (k:=2) ev
 have t5:mt (n+5)=n+4:=mt_o (k:=2) ev
 have ml:∀ i,i < n→mt i < n:=fun i hi=>mt_ltn ev hi
 have vl:∀ i,i < n→v i < V:=h.lab
 have six:∀ i,i < n+6→i < n∨i=n∨i=n+1∨i=n+2∨i=n+3∨i=n+4∨i=n+5:=fun i hi=>by omega
 have p0:putS n sg x0 x1 x2 n=x0:=by have:=C n (by omega);omega
 have p2:putS n sg x0 x1 x2 (n+2)=x1:=by have:=C (n+2) (by omega);omega
 have p4:putS n sg x0 x1 x2 (n+4)=x2:=by have:=C (n+4) (by omega);omega
 have p1:putS n sg x0 x1 x2 (n+1)=n+5:=by have:=C (n+1) (by omega);omega
 have p3:putS n sg x0 x1 x2 (n+3)=n+1:=by have:=C (n+3) (by omega);omega
 have p5:putS n sg x0 x1 x2 (n+5)=n+3:=by have:=C (n+5) (by omega);omega
 have e01:mt x0≠mt x1:=fun e=>d01 (by rw [mt_inj e])
 have e12:mt x1≠mt x2:=fun e=>d12 (by rw [mt_inj e])
 have e20:mt x2≠mt x0:=fun e=>d20 (by rw [mt_inj e])
 have r2:putS n sg x0 x1 x2 (mt x2)=n:=by have:=C (mt x2) (by omega);omega
 have r0:putS n sg x0 x1 x2 (mt x0)=n+2:=by have:=C (mt x0) (by omega);omega
 have r1:putS n sg x0 x1 x2 (mt x1)=n+4:=by have:=C (mt x1) (by omega);omega
 have rl:∀ i,i < n→i≠mt x0→i≠mt x1→i≠mt x2→putS n sg x0 x1 x2 i=sg i:=fun i hi a b c=>by have:=C i (by omega);omega
 have old:∀ i,i < n→Orb (putS n sg x0 x1 x2) i (sg i):=fun i hi=>by
  by_cases c0:i=mt x0
  ·subst c0;exact ⟨2,by show putS _ _ _ _ _ (putS _ _ _ _ _ (mt x0))=_;rw [r0,p2,s0]⟩
  by_cases c1:i=mt x1
  ·subst c1;exact ⟨2,by show putS _ _ _ _ _ (putS _ _ _ _ _ (mt x1))=_;rw [r1,p4,s1]⟩
  by_cases c2:i=mt x2
  ·subst c2;exact ⟨2,by show putS _ _ _ _ _ (putS _ _ _ _ _ (mt x2))=_;rw [r2,p0,s2]⟩
  exact ⟨1,rl i hi c0 c1 c2⟩
 have E:=P.eqv
 have oldO:∀ k i,i < n→Orb (putS n sg x0 x1 x2) i (itf sg k i):=fun k=>by
  induction k with
  | zero=>intro i _;exact ⟨0,rfl⟩
  | succ k ih =>
    intro i hi
    have hk:=h.pf.itlt hi k
    exact E.trans _ _ _ (by omega) (by omega) (by have:=h.pf.lt _ hk;show itf sg (k+1) i < _;show sg (itf sg k i) < _;omega) (ih i hi) (old _ hk)
 have stand:∀ i,i < n+6→putV n V v x0 x1 x2 i < V→∃ j,j < n∧v j=putV n V v x0 x1 x2 i∧Orb (putS n sg x0 x1 x2) i j:=fun i hi hV=>by
  rcases six i hi with c | rfl | rfl | rfl | rfl | rfl | rfl
  ·exact ⟨i,c,(ql i c).symm,⟨0,rfl⟩⟩
  ·exact ⟨x0,l0,q0.symm,⟨1,p0⟩⟩
  ·omega
  ·exact ⟨x1,l1,q2.symm,⟨1,p2⟩⟩
  ·omega
  ·exact ⟨x2,l2,q4.symm,⟨1,p4⟩⟩
  ·omega
 have odd3:∀ i,i < n+6→putV n V v x0 x1 x2 i=V→Orb (putS n sg x0 x1 x2) (n+1) i:=fun i hi hV=>by
  rcases six i hi with c | rfl | rfl | rfl | rfl | rfl | rfl
  ·rw [ql i c] at hV;have:=vl i c;omega
  ·have:=vl x0 l0;omega
  ·exact ⟨0,rfl⟩
  ·have:=vl x1 l1;omega
  ·exact ⟨2,by show putS _ _ _ _ _ (putS _ _ _ _ _ (n+1))=_;rw [p1,p5]⟩
  ·have:=vl x2 l2;omega
  ·exact ⟨1,p1⟩
 refine ⟨by omega,by omega,P,fun i hi=>?_,fun i hi=>?_,fun i j hi hj e=>?_,fun k hk=>?_,by have:=h.cnt;omega,fun d hd=>?_,fun d hd=>?_,fun d e hd he e1 e2=>?_,fun S hs hm h0 i hi=>?_⟩
 ·rcases six i hi with c | rfl | rfl | rfl | rfl | rfl | rfl
  ·rw [ql i c];have:=vl i c;omega
  ·have:=vl x0 l0;omega
  ·omega
  ·have:=vl x1 l1;omega
  ·omega
  ·have:=vl x2 l2;omega
  ·omega
 ·rcases C i hi with ⟨rfl,b⟩ | ⟨rfl,b⟩ | ⟨rfl,b⟩ | ⟨rfl,b⟩ | ⟨rfl,b⟩ | ⟨rfl,b⟩ | ⟨rfl,b⟩ | ⟨rfl,b⟩ | ⟨rfl,b⟩ | ⟨a,a1,a2,a3,b,b0,b1,b2,b3⟩ <;> rw [b]
  ·rw [q0,ql _ m2,v2]
  ·rw [q2,ql _ m0,v0]
  ·rw [q4,ql _ m1,v1]
  ·rw [q0,ql _ l0]
  ·rw [q2,ql _ l1]
  ·rw [q4,ql _ l2]
  ·rw [q5,q1]
  ·rw [q1,q3]
  ·rw [q3,q5]
  ·rw [ql _ b0,ql _ a,h.lsg i a]
 ·by_cases hV:putV n V v x0 x1 x2 i < V
  ·obtain ⟨a,ha,ea,oa⟩:=stand i hi hV
   obtain ⟨c,hc,ec,oc⟩:=stand j hj (by omega)
   obtain ⟨k,ek⟩:=h.orb a c ha hc (by omega)
   exact E.trans _ _ _ hi (by omega) hj oa (E.trans _ _ _ (by omega) (show c < n+6 by omega) hj (by rw [← ek];exact oldO k a ha) (E.symm _ _ hj (by omega) oc))
  ·have hi':putV n V v x0 x1 x2 i=V:=by
    rcases six i hi with c | rfl | rfl | rfl | rfl | rfl | rfl
    ·rw [ql i c] at hV;exact absurd (vl i c) hV
    ·rw [q0] at hV;exact absurd (vl _ l0) hV
    ·exact q1
    ·rw [q2] at hV;exact absurd (vl _ l1) hV
    ·exact q3
    ·rw [q4] at hV;exact absurd (vl _ l2) hV
    ·exact q5
   exact E.trans _ _ _ hi (show n+1 < n+6 by omega) hj (E.symm _ _ (by omega) hi (odd3 i hi hi')) (odd3 j hj (by omega))
 ·by_cases c:k < V
  ·obtain ⟨i,hi,e⟩:=h.sur k c
   exact ⟨i,by omega,by rw [ql i hi,e]⟩
  ·exact ⟨n+1,by omega,by rw [q1];omega⟩
 ·rcases six d hd with c | rfl | rfl | rfl | rfl | rfl | rfl
  ·by_cases c0:d=x0
   ·subst c0;rw [r0,t2,p3,t1,p0]
   by_cases c1:d=x1
   ·subst c1;rw [r1,t4,p5,t3,p2]
   by_cases c2:d=x2
   ·subst c2;rw [r2,t0,p1,t5,p4]
   have f:=h.face c
   have hm:=f.m0
   have nx:∀ y z,mt y=mt z→y=z:=fun y z e=>mt_inj e
   have g0:putS n sg x0 x1 x2 (mt d)=sg (mt d):=rl _ hm (fun e=>c0 (nx _ _ e)) (fun e=>c1 (nx _ _ e)) (fun e=>c2 (nx _ _ e))
   have inj3:∀ y z,y < n→z < n→sg (mt y)=sg (mt z)→y=z:=fun y z hy hz e=>mt_inj (h.pf.inj _ _ (ml y hy) (ml z hz) e)
   have g1:putS n sg x0 x1 x2 (mt (sg (mt d)))=sg (mt (sg (mt d))):=rl _ f.m1
    (fun e=>c2 (inj3 d x2 c l2 (by rw [s2];exact nx _ _ e))) (fun e=>c0 (inj3 d x0 c l0 (by rw [s0];exact nx _ _ e))) (fun e=>c1 (inj3 d x1 c l1 (by rw [s1];exact nx _ _ e)))
   have g2:putS n sg x0 x1 x2 (mt (sg (mt (sg (mt d)))))=d:=by
    have f2:=f.s2
    rw [rl _ f.m2
     (fun e=>c1 (by rw [nx _ _ e,s0] at f2;exact f2.symm)) (fun e=>c2 (by rw [nx _ _ e,s1] at f2;exact f2.symm)) (fun e=>c0 (by rw [nx _ _ e,s2] at f2;exact f2.symm))]
    exact f2
   rw [g0,g1,g2]
  ·rw [t0,p1,t5,p4,r2]
  ·rw [t1,p0,r0,t2,p3]
  ·rw [t2,p3,t1,p0,r0]
  ·rw [t3,p2,r1,t4,p5]
  ·rw [t4,p5,t3,p2,r1]
  ·rw [t5,p4,r2,t0,p1]
 ·rcases six d hd with c | rfl | rfl | rfl | rfl | rfl | rfl
  ·rw [ql _ (ml d c),ql _ c];exact h.noloop d c
  ·rw [t0,q1,q0];have:=vl x0 l0;omega
  ·rw [t1,q1,q0];have:=vl x0 l0;omega
  ·rw [t2,q3,q2];have:=vl x1 l1;omega
  ·rw [t3,q3,q2];have:=vl x1 l1;omega
  ·rw [t4,q5,q4];have:=vl x2 l2;omega
  ·rw [t5,q5,q4];have:=vl x2 l2;omega
 ·have w0:=vl x0 l0
  have w1:=vl x1 l1
  have w2:=vl x2 l2
  rcases six d hd with c | rfl | rfl | rfl | rfl | rfl | rfl <;> rcases six e he with c' | rfl | rfl | rfl | rfl | rfl | rfl <;>
   (try rw [ql _ c] at e1) <;> (try rw [ql _ (ml d c)] at e2) <;> (try have:=vl d c) <;> (try have:=vl _ (ml d c)) <;>
   (try rw [ql _ c'] at e1) <;> (try rw [ql _ (ml e c')] at e2) <;> (try have:=vl e c') <;> (try have:=vl _ (ml e c')) <;>
   (try simp only [t0,t1,t2,t3,t4,t5,q0,q1,q2,q3,q4,q5] at e1 e2) <;>
   first | omega | exact h.simple d e c c' e1 e2
 ·have so:∀ i,i < n→S i:=h.conn S (fun i hi s=>by
   obtain ⟨k,ek⟩:=old i hi
   rw [← ek]
   have:∀ k,S (itf (putS n sg x0 x1 x2) k i):=fun k=>by
    induction k with
    | zero=>exact s
    | succ k ih=>exact hs _ (P.itlt (by omega) k) ih
   exact this k) (fun i hi s=>hm i (by omega) s) h0
  have a0:S n:=by rw [← r2];exact hs _ (by omega) (so _ m2)
  have a2:S (n+2):=by rw [← r0];exact hs _ (by omega) (so _ m0)
  have a4:S (n+4):=by rw [← r1];exact hs _ (by omega) (so _ m1)
  rcases six i hi with c | rfl | rfl | rfl | rfl | rfl | rfl
  ·exact so i c
  ·exact a0
  ·rw [← t0];exact hm _ (by omega) a0
  ·exact a2
  ·rw [← t2];exact hm _ (by omega) a2
  ·exact a4
  ·rw [← t4];exact hm _ (by omega) a4
end
end Go.Proofs.YtajjgpkahljjmaaGreatDoor
namespace Go.Proofs.YtajjgpkahljjmaaGreatDoor
/-! ### triangulations: an edge flipped -/
section
variable {n V:Nat} {sg v:Nat→Nat}
end
end Go.Proofs.YtajjgpkahljjmaaGreatDoor
