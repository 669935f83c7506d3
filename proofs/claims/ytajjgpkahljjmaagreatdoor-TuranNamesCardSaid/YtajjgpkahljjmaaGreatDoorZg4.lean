/- The walk around a spanning tree: mathematics. -/
import Derived.Test.YtajjgpkahljjmaaGreatDoorZENam
set_option linter.unusedVariables false
namespace Go.Proofs.YtajjgpkahljjmaaGreatDoor
/-! ### the walk -/
def wKd (nm:Nat→Nat) (K:List Int) (M:List Bool) (d:Nat):Nat:=if K.getD (d / 2) 0=0 then 1 else if K.getD (d / 2) 0=2 then 3 else if M.getD (nm (mt d)) false=true then 2 else 0
def wK1 (K:List Int) (d k:Nat):List Int:=if k%2=0 then K.set (d / 2) k else K
def wM1 (nm:Nat→Nat) (M:List Bool) (d k:Nat):List Bool:=if k=0 then M.set (nm (mt d)) true else M
def wNx (sg:Nat→Nat) (d k:Nat):Nat:=if k < 2 then sg (mt d) else sg d
structure WS where
 d:Nat
 K:List Int
 M:List Bool
def WS.k (nm:Nat→Nat) (s:WS):Nat:=wKd nm s.K s.M s.d
def WS.next (sg nm:Nat→Nat) (s:WS):WS:=⟨wNx sg s.d (s.k nm),wK1 s.K s.d (s.k nm),wM1 nm s.M s.d (s.k nm)⟩
def wrun (sg nm:Nat→Nat) (m V r:Nat):Nat→WS
 | 0=>⟨r,List.replicate m (-1),(List.replicate V false).set (nm r) true⟩
 | j+1=>(wrun sg nm m V r j).next sg nm
def fK (sg:Nat→Nat) (K:List Int) (d:Nat):Nat:=sg (if K.getD (d / 2) 0=0 then mt d else d)
theorem mt_half (d:Nat):mt d / 2=d / 2:=by unfold mt;split <;> omega
theorem mt_mt' (d:Nat):mt (mt d)=d:=by unfold mt;split <;> split <;> omega
theorem mt_ne (d:Nat):mt d≠d:=by unfold mt;split <;> omega
theorem fK_pf {n m:Nat} {sg:Nat→Nat} (h:PF n sg) (hn:n=2*m) (K:List Int):PF n (fK sg K):=by
 refine ⟨fun i hi=>?_,fun i j hi hj e=>?_⟩
 ·unfold fK
  split
  ·exact h.lt _ (mt_lt hn hi)
  ·exact h.lt _ hi
 ·unfold fK at e
  have hi':=mt_lt hn hi
  have hj':=mt_lt hn hj
  split at e
  ·next a =>
   split at e
   ·have:=h.inj _ _ hi' hj' e
    have:=congrArg mt this
    rwa [mt_mt',mt_mt'] at this
   ·next c =>
    have:=h.inj _ _ hi' hj e
    rw [← this,mt_half] at c
    exact absurd a c
  ·next a =>
   split at e
   ·next c =>
    have:=h.inj _ _ hi hj' e
    rw [this,mt_half] at a
    exact absurd c a
   ·exact h.inj _ _ hi hj e
structure WOk (n m V:Nat) (sg nm:Nat→Nat) (r:Nat) (s:WS):Prop where
 lt:s.d < n
 kl:s.K.length=m
 ml:s.M.length=V
 ks:∀ e,e < m→s.K.getD e 0=-1∨s.K.getD e 0=0∨s.K.getD e 0=2
 md:s.M.getD (nm s.d) false=true
 me:∀ d,d < n→s.K.getD (d / 2) 0≠-1→s.M.getD (nm d) false=true
 mo:∀ x,x < n→(Orb (fK sg s.K) r x↔s.M.getD (nm x) false=true)
theorem getB_set (y:List Bool) (k j:Nat) (v:Bool) (hk:k < y.length):(y.set k v).getD j false=if j=k then v else y.getD j false:=by
 by_cases e:j=k
 ·subst e;simp [List.getD_eq_getElem?_getD,hk]
 ·rw [if_neg e];simp [List.getD_eq_getElem?_getD,Ne.symm e]
theorem getI_set (y:List Int) (k j:Nat) (v:Int) (hk:k < y.length):(y.set k v).getD j 0=if j=k then v else y.getD j 0:=by
 by_cases e:j=k
 ·subst e;simp [List.getD_eq_getElem?_getD,hk]
 ·rw [if_neg e];simp [List.getD_eq_getElem?_getD,Ne.symm e]
section
variable {n m V:Nat} {sg nm:Nat→Nat} {r:Nat}
theorem orb_same {f g:Nat→Nat} {S:Nat→Prop} (hs:∀ x,S x→f x=g x) (hc:∀ x,S x→S (g x)) {i:Nat} (hi:S i):∀ k,itf f k i=itf g k i∧S (itf g k i)
 | 0=>⟨rfl,hi⟩
 | k+1=>by
   obtain ⟨e,s⟩:=orb_same hs hc hi k
   exact ⟨by show f (itf f k i)=g (itf g k i);rw [e,hs _ s],hc _ s⟩
theorem nm_it (hs:PF n sg) (hnm:∀ x y,x < n→y < n→(nm x=nm y↔Orb sg x y)) {x:Nat} (hx:x < n):nm (sg x)=nm x:=((hnm x (sg x) hx (hs.lt x hx)).2 ⟨1,rfl⟩).symm
theorem WOk.start (hs:PF n sg) (hn:n=2*m) (hnm:∀ x y,x < n→y < n→(nm x=nm y↔Orb sg x y)) (hV:∀ x,x < n→nm x < V) (hr:r < n):WOk n m V sg nm r (wrun sg nm m V r 0):=by
 have hk:∀ e,e < m→(List.replicate m (-1:Int)).getD e 0=-1:=fun e he=>by simp [List.getD_eq_getElem?_getD,he]
 have hm:∀ x,((List.replicate V false).set (nm r) true).getD x false=decide (x=nm r):=fun x=>by
  rw [getB_set _ _ _ _ (by simpa using hV r hr)]
  by_cases c:x=nm r
  ·rw [if_pos c,decide_eq_true_iff.2 c]
  ·rw [if_neg c,decide_eq_false_iff_not.2 c]
   simp [List.getD_eq_getElem?_getD,List.getElem?_replicate]
   split <;> rfl
 refine ⟨hr,by simp [wrun],by simp [wrun],fun e he=>.inl (hk e he),?_,fun d hd c=>absurd (hk _ (by omega)) c,fun x hx=>?_⟩
 ·show _=true;rw [wrun,hm];simp
 ·show Orb (fK sg (List.replicate m (-1))) r x↔((List.replicate V false).set (nm r) true).getD (nm x) false=true
  rw [hm,decide_eq_true_iff]
  have hf:∀ y,y < n→fK sg (List.replicate m (-1)) y=sg y:=fun y hy=>by unfold fK;rw [if_neg (by rw [hk _ (by omega)];omega)]
  constructor
  ·rintro ⟨k,e⟩
   have:=(orb_same (S:=fun y=>y < n) hf (fun y hy=>hs.lt y hy) hr k).1
   exact ((hnm r x hr hx).2 ⟨k,by rw [← this];exact e⟩).symm
  ·intro e
   obtain ⟨k,e⟩:=(hnm r x hr hx).1 e.symm
   have:=(orb_same (S:=fun y=>y < n) hf (fun y hy=>hs.lt y hy) hr k).1
   exact ⟨k,by rw [this];exact e⟩
theorem WS.kinds (s:WS):(s.k nm=1∧s.K.getD (s.d / 2) 0=0)∨(s.k nm=3∧s.K.getD (s.d / 2) 0=2)∨(s.k nm=2∧s.K.getD (s.d / 2) 0≠0∧s.K.getD (s.d / 2) 0≠2∧s.M.getD (nm (mt s.d)) false=true)∨(s.k nm=0∧s.K.getD (s.d / 2) 0≠0∧s.K.getD (s.d / 2) 0≠2∧s.M.getD (nm (mt s.d)) false≠true):=by
 unfold WS.k wKd
 by_cases a:s.K.getD (s.d / 2) 0=0
 ·exact .inl ⟨by rw [if_pos a],a⟩
 ·by_cases c:s.K.getD (s.d / 2) 0=2
  ·exact .inr (.inl ⟨by rw [if_neg a,if_pos c],c⟩)
  ·by_cases q:s.M.getD (nm (mt s.d)) false=true
   ·exact .inr (.inr (.inl ⟨by rw [if_neg a,if_neg c,if_pos q],a,c,q⟩))
   ·exact .inr (.inr (.inr ⟨by rw [if_neg a,if_neg c,if_neg q],a,c,q⟩))
theorem WOk.next (hs:PF n sg) (hn:n=2*m) (hnm:∀ x y,x < n→y < n→(nm x=nm y↔Orb sg x y)) (hV:∀ x,x < n→nm x < V) (hr:r < n) {s:WS} (h:WOk n m V sg nm r s):WOk n m V sg nm r (s.next sg nm):=by
 have hd:=h.lt
 have hmd:mt s.d < n:=mt_lt hn hd
 have he:s.d / 2 < m:=by omega
 have nsg:∀ x,x < n→nm (sg x)=nm x:=fun x hx=>nm_it hs hnm hx
 unfold WS.next
 rcases s.kinds (nm:=nm) with ⟨k,a⟩ | ⟨k,a⟩ | ⟨k,a,c,q⟩ | ⟨k,a,c,q⟩
 ·rw [k]
  refine ⟨by show wNx sg s.d 1 < n;unfold wNx;rw [if_pos (by omega)];exact hs.lt _ hmd,h.kl,h.ml,h.ks,?_,h.me,h.mo⟩
  show s.M.getD (nm (wNx sg s.d 1)) false=true
  unfold wNx
  rw [if_pos (by omega),nsg _ hmd]
  exact h.me _ hmd (by rw [mt_half,a];omega)
 ·rw [k]
  refine ⟨by show wNx sg s.d 3 < n;unfold wNx;rw [if_neg (by omega)];exact hs.lt _ hd,h.kl,h.ml,h.ks,?_,h.me,h.mo⟩
  show s.M.getD (nm (wNx sg s.d 3)) false=true
  unfold wNx
  rw [if_neg (by omega),nsg _ hd]
  exact h.md
 ·rw [k]
  have hK:∀ e,(wK1 s.K s.d 2).getD e 0=if e=s.d / 2 then 2 else s.K.getD e 0:=fun e=>by
   unfold wK1;rw [if_pos (by omega)];exact getI_set _ _ _ _ (by rw [h.kl];exact he)
  refine ⟨by show wNx sg s.d 2 < n;unfold wNx;rw [if_neg (by omega)];exact hs.lt _ hd,by show (wK1 s.K s.d 2).length=m;unfold wK1;rw [if_pos (by omega),List.length_set];exact h.kl,h.ml,fun e hem=>?_,?_,fun d hdn=>?_,fun x hx=>?_⟩
  ·show (wK1 s.K s.d 2).getD e 0=-1∨_
   rw [hK]
   split
   ·exact .inr (.inr rfl)
   ·exact h.ks e hem
  ·show s.M.getD (nm (wNx sg s.d 2)) false=true
   unfold wNx
   rw [if_neg (by omega),nsg _ hd]
   exact h.md
  ·show (wK1 s.K s.d 2).getD (d / 2) 0≠-1→s.M.getD (nm d) false=true
   rw [hK]
   split
   ·next x =>
    intro _
    have:d=s.d∨d=mt s.d:=by unfold mt;split <;> omega
    rcases this with rfl | rfl
    ·exact h.md
    ·exact q
   ·exact h.me d hdn
  ·show Orb (fK sg (wK1 s.K s.d 2)) r x↔s.M.getD (nm x) false=true
   rw [← h.mo x hx]
   have:fK sg (wK1 s.K s.d 2)=fK sg s.K:=by
    funext y
    unfold fK
    rw [hK]
    by_cases c':y / 2=s.d / 2
    ·rw [if_pos c',if_neg (by omega),if_neg (by rw [c'];exact a)]
    ·rw [if_neg c']
   rw [this]
 ·rw [k]
  have q':s.M.getD (nm (mt s.d)) false=false:=by simpa using q
  have hK:∀ e,(wK1 s.K s.d 0).getD e 0=if e=s.d / 2 then 0 else s.K.getD e 0:=fun e=>by
   unfold wK1;rw [if_pos (by omega)];exact getI_set _ _ _ _ (by rw [h.kl];exact he)
  have hM:∀ v,(wM1 nm s.M s.d 0).getD v false=if v=nm (mt s.d) then true else s.M.getD v false:=fun v=>by
   unfold wM1;rw [if_pos rfl];exact getB_set _ _ _ _ (by rw [h.ml];exact hV _ hmd)
  have hfp:=fK_pf hs hn s.K
  refine ⟨by show wNx sg s.d 0 < n;unfold wNx;rw [if_pos (by omega)];exact hs.lt _ hmd,by show (wK1 s.K s.d 0).length=m;unfold wK1;rw [if_pos (by omega),List.length_set];exact h.kl,by show (wM1 nm s.M s.d 0).length=V;unfold wM1;rw [if_pos rfl,List.length_set];exact h.ml,fun e hem=>?_,?_,fun d hdn=>?_,fun x hx=>?_⟩
  ·show (wK1 s.K s.d 0).getD e 0=-1∨_
   rw [hK]
   split
   ·exact .inr (.inl rfl)
   ·exact h.ks e hem
  ·show (wM1 nm s.M s.d 0).getD (nm (wNx sg s.d 0)) false=true
   unfold wNx
   rw [if_pos (by omega),nsg _ hmd,hM,if_pos rfl]
  ·show (wK1 s.K s.d 0).getD (d / 2) 0≠-1→(wM1 nm s.M s.d 0).getD (nm d) false=true
   rw [hK,hM]
   intro x
   split
   ·rfl
   ·split at x
    ·next y z =>
     have:d=s.d∨d=mt s.d:=by unfold mt;split <;> omega
     rcases this with rfl | rfl
     ·exact h.md
     ·exact absurd rfl y
    ·exact h.me d hdn x
  ·show Orb (fK sg (wK1 s.K s.d 0)) r x↔(wM1 nm s.M s.d 0).getD (nm x) false=true
   have hd2:s.d=2*(s.d / 2)∨s.d=2*(s.d / 2)+1:=by omega
   have hsw:∀ y,swp s.d (mt s.d) y=if y / 2=s.d / 2 then mt y else y:=fun y=>by
    unfold swp mt
    repeat' split
    all_goals omega
   have hfe:fK sg (wK1 s.K s.d 0)=fun i=>fK sg s.K (swp s.d (mt s.d) i):=by
    funext y
    unfold fK
    rw [hK,hsw]
    by_cases c':y / 2=s.d / 2
    ·rw [if_pos c',if_pos rfl,if_pos c',if_neg (by rw [mt_half,c'];exact a)]
    ·rw [if_neg c',if_neg c']
   have hno:¬ Orb (fK sg s.K) s.d (mt s.d):=fun o=>by
    have hE:=hfp.eqv
    have o1:=(h.mo s.d hd).2 h.md
    have:=(h.mo (mt s.d) hmd).1 (hE.trans _ _ _ hr hd hmd o1 o)
    exact q this
   have hab:=orb_meet hfp hd hmd hno
   have hfp2:=(hfp.swap hd hmd).eqv
   have hj:joinR (Orb fun i=>fK sg s.K (swp s.d (mt s.d) i)) s.d (mt s.d) r x↔Orb (fun i=>fK sg s.K (swp s.d (mt s.d) i)) r x:=by
    constructor
    ·rintro (y | ⟨y1,y2⟩ | ⟨y1,y2⟩)
     ·exact y
     ·exact hfp2.trans _ _ _ hr hd hx y1 (hfp2.trans _ _ _ hd hmd hx hab y2)
     ·exact hfp2.trans _ _ _ hr hmd hx y1 (hfp2.trans _ _ _ hmd hd hx (hfp2.symm _ _ hd hmd hab) y2)
    ·exact .inl
   rw [hfe,← hj,← orb_join hfp hd hmd r x hr hx,hM]
   have hv:∀ y,y < n→nm y=nm (mt s.d)→fK sg s.K y=sg y:=fun y hy e=>by
    unfold fK
    by_cases z:s.K.getD (y / 2) 0=0
    ·have:=h.me y hy (by rw [z];omega)
     rw [e] at this
     exact absurd this q
    ·rw [if_neg z]
   have hnew:Orb (fK sg s.K) (mt s.d) x↔nm x=nm (mt s.d):=by
    have key:=fun t=>orb_same (f:=fK sg s.K) (g:=sg) (S:=fun y=>y < n∧nm y=nm (mt s.d)) (fun y hy=>hv y hy.1 hy.2) (fun y hy=>⟨hs.lt y hy.1,by rw [nsg y hy.1];exact hy.2⟩) (i:=mt s.d) ⟨hmd,rfl⟩ t
    constructor
    ·rintro ⟨t,e⟩
     have:=key t
     rw [← e,this.1];exact this.2.2
    ·intro e
     obtain ⟨t,e⟩:=(hnm _ _ hmd hx).1 e.symm
     exact ⟨t,by rw [(key t).1];exact e⟩
   have o1:=(h.mo s.d hd).2 h.md
   have o2:¬ Orb (fK sg s.K) r (mt s.d):=fun o=>q ((h.mo _ hmd).1 o)
   unfold joinR
   rw [h.mo x hx,hnew]
   constructor
   ·rintro (y | ⟨_,y⟩ | ⟨y,_⟩)
    ·split
     ·rfl
     ·exact y
    ·rw [if_pos y]
    ·exact absurd y o2
   ·intro y
    split at y
    ·next z=>exact .inr (.inl ⟨o1,z⟩)
    ·exact .inl y
theorem wok (hs:PF n sg) (hn:n=2*m) (hnm:∀ x y,x < n→y < n→(nm x=nm y↔Orb sg x y)) (hV:∀ x,x < n→nm x < V) (hr:r < n):∀ j,WOk n m V sg nm r (wrun sg nm m V r j)
 | 0=>.start hs hn hnm hV hr
 | j+1=>(wok hs hn hnm hV hr j).next hs hn hnm hV hr
end
section
variable {n m V:Nat} {sg nm:Nat→Nat} {r:Nat}
theorem wkeep (hs:PF n sg) (hn:n=2*m) (hnm:∀ x y,x < n→y < n→(nm x=nm y↔Orb sg x y)) (hV:∀ x,x < n→nm x < V) (hr:r < n) (e:Nat) (he:e < m) (j:Nat):∀ i,(wrun sg nm m V r j).K.getD e 0≠-1→(wrun sg nm m V r (j+i)).K.getD e 0=(wrun sg nm m V r j).K.getD e 0
 | 0,_=>rfl
 | i+1,h=>by
   have ih:=wkeep hs hn hnm hV hr e he j i h
   have hw:=wok hs hn hnm hV hr (j+i)
   rw [← ih] at h ⊢
   show ((wrun sg nm m V r (j+i)).next sg nm).K.getD e 0=_
   generalize wrun sg nm m V r (j+i)=s at *
   have hse:s.d / 2 < s.K.length:=by rw [hw.kl];have:=hw.lt;omega
   unfold WS.next
   rcases s.kinds (nm:=nm) with ⟨k,a⟩ | ⟨k,a⟩ | ⟨k,a,c,q⟩ | ⟨k,a,c,q⟩
   ·rw [k];rfl
   ·rw [k];rfl
   ·rw [k]
    show (wK1 s.K s.d 2).getD e 0=_
    unfold wK1
    rw [if_pos (by omega),getI_set _ _ _ _ hse]
    split
    ·next x=>subst x;rcases hw.ks _ he with y | y | y <;> omega
    ·rfl
   ·rw [k]
    show (wK1 s.K s.d 0).getD e 0=_
    unfold wK1
    rw [if_pos (by omega),getI_set _ _ _ _ hse]
    split
    ·next x=>subst x;rcases hw.ks _ he with y | y | y <;> omega
    ·rfl
theorem wkind (hs:PF n sg) (hn:n=2*m) (hnm:∀ x y,x < n→y < n→(nm x=nm y↔Orb sg x y)) (hV:∀ x,x < n→nm x < V) (hr:r < n) {i j:Nat} (hij:i < j) :
  (wrun sg nm m V r j).K.getD ((wrun sg nm m V r i).d / 2) 0=if (wrun sg nm m V r i).k nm < 2 then 0 else 2:=by
 have hw:=wok hs hn hnm hV hr i
 have he:(wrun sg nm m V r i).d / 2 < m:=by have:=hw.lt;omega
 have h1:(wrun sg nm m V r (i+1)).K.getD ((wrun sg nm m V r i).d / 2) 0=if (wrun sg nm m V r i).k nm < 2 then 0 else 2:=by
  show ((wrun sg nm m V r i).next sg nm).K.getD _ 0=_
  generalize wrun sg nm m V r i=s at *
  have hse:s.d / 2 < s.K.length:=by rw [hw.kl];exact he
  unfold WS.next
  rcases s.kinds (nm:=nm) with ⟨k,a⟩ | ⟨k,a⟩ | ⟨k,a,c,q⟩ | ⟨k,a,c,q⟩
  ·rw [k];exact a
  ·rw [k];exact a
  ·rw [k]
   show (wK1 s.K s.d 2).getD _ 0=_
   unfold wK1
   rw [if_pos (by omega),getI_set _ _ _ _ hse,if_pos rfl];rfl
  ·rw [k]
   show (wK1 s.K s.d 0).getD _ 0=_
   unfold wK1
   rw [if_pos (by omega),getI_set _ _ _ _ hse,if_pos rfl];rfl
 have h2:=wkeep hs hn hnm hV hr _ he (i+1) (j - (i+1)) (by rw [h1];split <;> omega)
 rw [show i+1+(j - (i+1))=j by omega] at h2
 rw [h2,h1]
theorem wnext (hs:PF n sg) (hn:n=2*m) (hnm:∀ x y,x < n→y < n→(nm x=nm y↔Orb sg x y)) (hV:∀ x,x < n→nm x < V) (hr:r < n) {i j:Nat} (hij:i < j) :
  (wrun sg nm m V r (i+1)).d=fK sg (wrun sg nm m V r j).K (wrun sg nm m V r i).d:=by
 have h:=wkind hs hn hnm hV hr hij
 unfold fK
 rw [h]
 show wNx sg (wrun sg nm m V r i).d ((wrun sg nm m V r i).k nm)=_
 unfold wNx
 split
 ·rw [if_pos rfl]
 ·rw [if_neg (by omega)]
theorem wback (hs:PF n sg) (hn:n=2*m) (hnm:∀ x y,x < n→y < n→(nm x=nm y↔Orb sg x y)) (hV:∀ x,x < n→nm x < V) (hr:r < n):∀ i j,i < j→(wrun sg nm m V r i).d=(wrun sg nm m V r j).d→(wrun sg nm m V r (j - i)).d=r
 | 0,j,_,e=>e.symm
 | i+1,j,h,e=>by
   have hfp:=fK_pf hs hn (wrun sg nm m V r j).K
   have e1:=wnext hs hn hnm hV hr (show i < j by omega)
   have e2:=wnext hs hn hnm hV hr (i:=j - 1) (j:=j) (by omega)
   rw [show j - 1+1=j by omega] at e2
   rw [e1,e2] at e
   have:=hfp.inj _ _ (wok hs hn hnm hV hr i).lt (wok hs hn hnm hV hr (j - 1)).lt e
   have:=wback hs hn hnm hV hr i (j - 1) (by omega) this
   rwa [show j - 1 - i=j - (i+1) by omega] at this
theorem wends (hs:PF n sg) (hn:n=2*m) (hnm:∀ x y,x < n→y < n→(nm x=nm y↔Orb sg x y)) (hV:∀ x,x < n→nm x < V) (hr:r < n):∃ N,1≤N∧N≤n∧(wrun sg nm m V r N).d=r∧∀ j,1≤j→j < N→(wrun sg nm m V r j).d≠r:=by
 have:∃ i j,i < j∧j≤n∧(wrun sg nm m V r i).d=(wrun sg nm m V r j).d:=Classical.byContradiction fun hx=>by
  have hinj:∀ a b,a < n+1→b < n+1→(wrun sg nm m V r a).d=(wrun sg nm m V r b).d→a=b:=fun a b ha hb e=>by
   rcases Nat.lt_trichotomy a b with x | x | x
   ·exact absurd ⟨a,b,x,by omega,e⟩ hx
   ·exact x
   ·exact absurd ⟨b,a,x,by omega,e.symm⟩ hx
  obtain ⟨k,hk,e⟩:=inj_surj (n+1) (fun k=>(wrun sg nm m V r k).d) (fun k _=>by have:=(wok hs hn hnm hV hr k).lt;show (wrun sg nm m V r k).d < n+1;omega) hinj n (by omega)
  have:=(wok hs hn hnm hV hr k).lt
  have e':(wrun sg nm m V r k).d=n:=e
  omega
 obtain ⟨i,j,hij,hjn,e⟩:=this
 have hb:=wback hs hn hnm hV hr i j hij e
 obtain ⟨N,hN,hp,hl⟩:=least_k (p:=fun k=>1≤k∧(wrun sg nm m V r k).d=r) (j - i) ⟨by omega,hb⟩
 exact ⟨N,hp.1,by omega,hp.2,fun k k1 k2 k3=>hl k k2 ⟨k1,k3⟩⟩
open Classical in
noncomputable def wN (sg nm:Nat→Nat) (m V r:Nat):Nat:=if h:∃ N,1≤N∧(wrun sg nm m V r N).d=r∧∀ j,1≤j→j < N→(wrun sg nm m V r j).d≠r then h.choose else 0
theorem wN_is (hs:PF n sg) (hn:n=2*m) (hnm:∀ x y,x < n→y < n→(nm x=nm y↔Orb sg x y)) (hV:∀ x,x < n→nm x < V) (hr:r < n) :
  1≤wN sg nm m V r∧wN sg nm m V r≤n∧(wrun sg nm m V r (wN sg nm m V r)).d=r∧∀ j,1≤j→j < wN sg nm m V r→(wrun sg nm m V r j).d≠r:=by
 obtain ⟨N,n1,n2,n3,n4⟩:=wends hs hn hnm hV hr
 have hx:∃ N,1≤N∧(wrun sg nm m V r N).d=r∧∀ j,1≤j→j < N→(wrun sg nm m V r j).d≠r:=⟨N,n1,n3,n4⟩
 have e:wN sg nm m V r=hx.choose:=by unfold wN;rw [dif_pos hx]
 obtain ⟨c1,c2,c3⟩:=hx.choose_spec
 rw [← e] at c1 c2 c3
 refine ⟨c1,?_,c2,c3⟩
 rcases Nat.lt_or_ge N (wN sg nm m V r) with x | x
 ·exact absurd n3 (c3 N n1 x)
 ·omega
theorem wonce (hs:PF n sg) (hn:n=2*m) (hnm:∀ x y,x < n→y < n→(nm x=nm y↔Orb sg x y)) (hV:∀ x,x < n→nm x < V) (hr:r < n) {i j:Nat} (hi:i < wN sg nm m V r) (hj:j < wN sg nm m V r) (e:(wrun sg nm m V r i).d=(wrun sg nm m V r j).d):i=j:=by
 obtain ⟨_,_,_,n4⟩:=wN_is hs hn hnm hV hr
 rcases Nat.lt_trichotomy i j with x | x | x
 ·exact absurd (wback hs hn hnm hV hr i j x e) (n4 _ (by omega) (by omega))
 ·exact x
 ·exact absurd (wback hs hn hnm hV hr j i x e.symm) (n4 _ (by omega) (by omega))
theorem worb (hs:PF n sg) (hn:n=2*m) (hnm:∀ x y,x < n→y < n→(nm x=nm y↔Orb sg x y)) (hV:∀ x,x < n→nm x < V) (hr:r < n) (N:Nat):∀ j,j≤N→itf (fK sg (wrun sg nm m V r N).K) j r=(wrun sg nm m V r j).d
 | 0,_=>rfl
 | j+1,h=>by
   rw [wnext hs hn hnm hV hr (show j < N by omega)]
   show fK _ _ (itf _ j r)=_
   rw [worb hs hn hnm hV hr N j (by omega)]
theorem wpart (hs:PF n sg) (hn:n=2*m) (hnm:∀ x y,x < n→y < n→(nm x=nm y↔Orb sg x y)) (hV:∀ x,x < n→nm x < V) (hr:r < n) {x:Nat} (hx:x < n):gk sg m r x↔∃ j,j < wN sg nm m V r∧(wrun sg nm m V r j).d=x:=by
 obtain ⟨n1,n2,n3,n4⟩:=wN_is hs hn hnm hV hr
 have hw:=wok hs hn hnm hV hr (wN sg nm m V r)
 have ho:∀ x,x < n→(Orb (fK sg (wrun sg nm m V r (wN sg nm m V r)).K) r x↔∃ j,j < wN sg nm m V r∧(wrun sg nm m V r j).d=x):=fun x hx=>by
  constructor
  ·rintro ⟨k,e⟩
   have hb:itf (fK sg (wrun sg nm m V r (wN sg nm m V r)).K) (wN sg nm m V r) r=r:=by rw [worb hs hn hnm hV hr _ _ (Nat.le_refl _)];exact n3
   have hmod:itf (fK sg (wrun sg nm m V r (wN sg nm m V r)).K) (k%wN sg nm m V r) r=x:=by
    have h1:=itf_mul hb (k / wN sg nm m V r)
    rw [← Nat.mod_add_div k (wN sg nm m V r),itf_add,Nat.mul_comm,h1] at e
    exact e
   have hlt:k%wN sg nm m V r < wN sg nm m V r:=Nat.mod_lt _ (by omega)
   exact ⟨_,hlt,by rw [← worb hs hn hnm hV hr _ _ (Nat.le_of_lt hlt)];exact hmod⟩
  ·rintro ⟨j,hj,e⟩
   exact ⟨j,by rw [worb hs hn hnm hV hr _ _ (Nat.le_of_lt hj)];exact e⟩
 rw [← ho x hx,hw.mo x hx]
 have hsS:∀ i,i < n→(wrun sg nm m V r (wN sg nm m V r)).M.getD (nm i) false=true→(wrun sg nm m V r (wN sg nm m V r)).M.getD (nm (sg i)) false=true:=fun i hi c=>by rw [nm_it hs hnm hi];exact c
 have hsm:∀ i,i < n→(wrun sg nm m V r (wN sg nm m V r)).M.getD (nm i) false=true→(wrun sg nm m V r (wN sg nm m V r)).M.getD (nm (mt i)) false=true:=fun i hi c=>by
  obtain ⟨j,hj,e⟩:=(ho i hi).1 ((hw.mo i hi).2 c)
  have hk:=wkind hs hn hnm hV hr hj
  refine hw.me (mt i) (mt_lt hn hi) ?_
  rw [mt_half,← e,hk]
  split <;> omega
 constructor
 ·intro g
  exact (part_closed hs hn (S:=fun i=>(wrun sg nm m V r (wN sg nm m V r)).M.getD (nm i) false=true) hsS hsm r x hr hx g).1 ((hw.mo r hr).1 ⟨0,rfl⟩)
 ·intro c
  obtain ⟨j,hj,e⟩:=(ho x hx).1 ((hw.mo x hx).2 c)
  have hE:=gk_eqv hs hn m (Nat.le_refl _)
  have key:∀ j,gk sg m r (wrun sg nm m V r j).d:=fun j=>by
   induction j with
   | zero=>exact hE.refl r hr
   | succ j ih =>
     have hl:=(wok hs hn hnm hV hr j).lt
     have hm:=mt_lt hn hl
     show gk sg m r (wNx sg _ _)
     unfold wNx
     split
     ·exact hE.trans _ _ _ hr hm (hs.lt _ hm) (hE.trans _ _ _ hr hl hm ih (gk_mt hs hn _ hl)) (gk_sig hs _ m)
     ·exact hE.trans _ _ _ hr hl (hs.lt _ hl) ih (gk_sig hs _ m)
  rw [← e];exact key j
end
end Go.Proofs.YtajjgpkahljjmaaGreatDoor
namespace Go.Proofs.YtajjgpkahljjmaaGreatDoor
/-! ### chords on a cycle -/
open Classical in
noncomputable def psi (f:Nat→Nat) (Q:Nat→Prop) (i:Nat):Nat:=f (if Q (i / 2) then mt i else i)
theorem psi_pf {n m:Nat} {f:Nat→Nat} (hf:PF n f) (hn:n=2*m) (Q:Nat→Prop):PF n (psi f Q):=by
 refine ⟨fun i hi=>?_,fun i j hi hj e=>?_⟩
 ·unfold psi
  split
  ·exact hf.lt _ (mt_lt hn hi)
  ·exact hf.lt _ hi
 ·unfold psi at e
  have hi':=mt_lt hn hi
  have hj':=mt_lt hn hj
  split at e
  ·next a =>
   split at e
   ·have:=congrArg mt (hf.inj _ _ hi' hj' e)
    rwa [mt_mt',mt_mt'] at this
   ·next c =>
    have:=hf.inj _ _ hi' hj e
    rw [← this,mt_half] at c
    exact absurd a c
  ·next a =>
   split at e
   ·next c =>
    have:=hf.inj _ _ hi hj' e
    rw [this,mt_half] at a
    exact absurd c a
   ·exact hf.inj _ _ hi hj e
theorem psi_congr (f:Nat→Nat) {Q R:Nat→Prop} (h:∀ e,Q e↔R e):psi f Q=psi f R:=by
 funext i
 unfold psi
 by_cases c:Q (i / 2)
 ·rw [if_pos c,if_pos ((h _).1 c)]
 ·rw [if_neg c,if_neg fun d=>c ((h _).2 d)]
theorem psi_none (f:Nat→Nat) {Q:Nat→Prop} (h:∀ e,¬ Q e):psi f Q=f:=by
 funext i
 unfold psi
 rw [if_neg (h _)]
theorem psi_add (f:Nat→Nat) {Q:Nat→Prop} {e:Nat} (he:¬ Q e):psi f (fun x=>Q x∨x=e)=fun i=>psi f Q (swp (2*e) (2*e+1) i):=by
 funext i
 unfold psi
 have hsw:swp (2*e) (2*e+1) i=if i / 2=e then mt i else i:=by
  unfold swp mt
  repeat' split
  all_goals omega
 rw [hsw]
 by_cases c:i / 2=e
 ·rw [if_pos c,if_pos (.inr c),if_neg (by rw [mt_half,c];exact he)]
 ·rw [if_neg c]
  by_cases d:Q (i / 2)
  ·rw [if_pos d,if_pos (.inl d)]
  ·rw [if_neg d,if_neg fun x=>x.elim d c]
section
variable {n m:Nat} {f:Nat→Nat} {P:Nat→Prop}
theorem psi_inv (hf:PF n f) (hn:n=2*m) (hP:∀ i,i < n→(P (f i)↔P i)) (hm:∀ i,i < n→(P (mt i)↔P i)) (Q:Nat→Prop):∀ i,i < n→(P (psi f Q i)↔P i):=fun i hi=>by
 unfold psi
 split
 ·rw [hP _ (mt_lt hn hi),hm i hi]
 ·exact hP i hi
theorem psi_step (hf:PF n f) (hn:n=2*m) (hP:∀ i,i < n→(P (f i)↔P i)) (hm:∀ i,i < n→(P (mt i)↔P i)) {Q:Nat→Prop} {e:Nat} (hQ:¬ Q e) (he:e < m) (pe:P (2*e)) :
  (Orb (psi f Q) (2*e) (2*e+1)→cls (Orb (psi f fun x=>Q x∨x=e)) P n=cls (Orb (psi f Q)) P n+1) ∧
  (¬ Orb (psi f Q) (2*e) (2*e+1)→cls (Orb (psi f fun x=>Q x∨x=e)) P n+1=cls (Orb (psi f Q)) P n):=by
 rw [psi_add f hQ]
 have h1:mt (2*e)=2*e+1:=by unfold mt;rw [if_pos (by omega)]
 exact cls_swap (psi_pf hf hn Q) (psi_inv hf hn hP hm Q) (by omega) (by omega) (by omega) pe (by rw [← h1];exact (hm _ (by omega)).2 pe)
end
theorem num_more {n:Nat} {Q R:Nat→Prop} {a:Nat} (ha:a < n) (q:¬ Q a) (h:∀ i,R i↔Q i∨i=a):∀ k,num R k=num Q k+if a < k then 1 else 0
 | 0=>by rw [if_neg (by omega)];rfl
 | k+1=>by
   have ih:=num_more ha q h k
   by_cases c:k=a
   ·subst c
    rw [if_neg (by omega)] at ih
    rw [(num_next R k).1 ((h k).2 (.inr rfl)),(num_next Q k).2 q,if_pos (by omega),ih]
   ·by_cases d:Q k
    ·rw [(num_next R k).1 ((h k).2 (.inl d)),(num_next Q k).1 d,ih]
     split <;> split <;> omega
    ·rw [(num_next R k).2 (fun x=>((h k).1 x).elim d c),(num_next Q k).2 d,ih]
     split <;> split <;> omega
theorem num_none' {Q:Nat→Prop} (h:∀ i,¬ Q i):∀ k,num Q k=0
 | 0=>rfl
 | k+1=>by rw [(num_next Q k).2 (h k),num_none' h k]
structure Cyc (n m N:Nat) (f:Nat→Nat) (P:Nat→Prop) (dt tw:Nat→Nat):Prop where
 pf:PF n f
 nm:n=2*m
 inv:∀ i,i < n→(P (f i)↔P i)
 mate:∀ i,i < n→(P (mt i)↔P i)
 pos:0 < N
 lt:∀ j,j < N→dt j < n
 inP:∀ j,j < N→P (dt j)
 inj:∀ i j,i < N→j < N→dt i=dt j→i=j
 all:∀ x,x < n→P x→∃ j,j < N∧dt j=x
 next:∀ j,j+1 < N→f (dt j)=dt (j+1)
 wrap:f (dt (N - 1))=dt 0
 tlt:∀ j,j < N→tw j < N
 tw_:∀ j,j < N→dt (tw j)=mt (dt j)
section
variable {n m N:Nat} {f:Nat→Nat} {P:Nat→Prop} {dt tw:Nat→Nat} {F:Nat→Prop}
theorem Cyc.ttw (h:Cyc n m N f P dt tw) {j:Nat} (hj:j < N):tw (tw j)=j :=
 h.inj _ _ (h.tlt _ (h.tlt _ hj)) hj (by rw [h.tw_ _ (h.tlt _ hj),h.tw_ _ hj,mt_mt'])
theorem Cyc.tne (h:Cyc n m N f P dt tw) {j:Nat} (hj:j < N):tw j≠j:=fun e=>by
 have:=h.tw_ j hj
 rw [e] at this
 exact mt_ne _ this.symm
theorem Cyc.thalf (h:Cyc n m N f P dt tw) {j:Nat} (hj:j < N):dt (tw j) / 2=dt j / 2:=by rw [h.tw_ j hj,mt_half]
theorem Cyc.same (h:Cyc n m N f P dt tw) {i j:Nat} (hi:i < N) (hj:j < N) (e:dt i / 2=dt j / 2):i=j∨i=tw j:=by
 have:dt i=dt j∨dt i=mt (dt j):=by unfold mt;split <;> omega
 rcases this with c | c
 ·exact .inl (h.inj _ _ hi hj c)
 ·exact .inr (h.inj _ _ hi (h.tlt _ hj) (by rw [h.tw_ _ hj];exact c))
def NonX (N:Nat) (dt tw:Nat→Nat) (F:Nat→Prop):Prop:=∀ i k,i < k→k < tw i→tw i < tw k→i < N→k < N→F (dt i / 2)→F (dt k / 2)→False
def ShutC (dt tw:Nat→Nat) (F:Nat→Prop) (x e:Nat):Prop:=F e∧∃ y,y < x∧dt y / 2=e∧tw y < y
theorem Cyc.one (h:Cyc n m N f P dt tw):cls (Orb f) P n=1:=by
 have hd0:=h.lt 0 h.pos
 have it:∀ j,j < N→itf f j (dt 0)=dt j:=fun j=>by
  induction j with
  | zero=>intro _;rfl
  | succ j ih=>intro hj;show f (itf f j (dt 0))=_;rw [ih (by omega),h.next j hj]
 refine cls_one h.pf.eqv hd0 fun i hi=>⟨fun p=>?_,fun ⟨k,e⟩=>?_⟩
 ·obtain ⟨j,hj,e⟩:=h.all i hi p
  exact ⟨j,by rw [it j hj,e]⟩
 ·subst e
  have:∀ k,P (itf f k (dt 0)):=fun k=>by
   induction k with
   | zero=>exact h.inP 0 h.pos
   | succ k ih=>exact (h.inv _ (h.pf.itlt hd0 k)).2 ih
  exact this k
theorem Cyc.reach (h:Cyc n m N f P dt tw) (hX:NonX N dt tw F) {x:Nat} (hx:x < N) (hc:tw x < x) (hF:F (dt x / 2)):∀ d t,x - t=d→tw x < t→t≤x →
  (∀ o,o < N→F (dt o / 2)→tw x < o→o < t→t≤tw o→tw o < x→False)→Orb (psi f (ShutC dt tw F x)) (dt t) (dt x):=by
 intro d
 induction d using Nat.strongRecOn with
 | ind d ih =>
   intro t hd h1 h2 top
   by_cases ht:t=x
   ·subst ht;exact ⟨0,rfl⟩
   have htN:t < N:=by omega
   by_cases hf:F (dt t / 2)
   ·have hc1:=h.tlt t htN
    have hcc:=h.ttw htN
    have hcn:=h.tne htN
    rcases Nat.lt_or_ge (tw t) t with q | q
    ·exfalso
     have e1:tw (tw x)=x:=h.ttw hx
     rcases Nat.lt_trichotomy (tw t) (tw x) with w | w | w
     ·exact hX (tw t) (tw x) w (by rw [hcc];omega) (by rw [hcc,e1];omega) hc1 (h.tlt _ hx) (by rw [h.thalf htN];exact hf) (by rw [h.thalf hx];exact hF)
     ·have:=congrArg tw w;rw [hcc,e1] at this;omega
     ·exact top (tw t) hc1 (by rw [h.thalf htN];exact hf) w q (by rw [hcc];exact Nat.le_refl _) (by rw [hcc];omega)
    ·have hlt:tw t < x:=by
      rcases Nat.lt_trichotomy (tw t) x with w | w | w
      ·exact w
      ·have:=congrArg tw w;rw [hcc] at this;omega
      ·exfalso
       have e1:tw (tw x)=x:=h.ttw hx
       exact hX (tw x) t h1 (by rw [e1];omega) (by rw [e1];exact w) (h.tlt _ hx) htN (by rw [h.thalf hx];exact hF) hf
     have hs:ShutC dt tw F x (dt t / 2):=⟨hf,tw t,hlt,h.thalf htN,by rw [hcc];omega⟩
     have hst:psi f (ShutC dt tw F x) (dt t)=dt (tw t+1):=by
      unfold psi
      rw [if_pos hs,← h.tw_ t htN,h.next _ (by omega)]
     obtain ⟨k,hk⟩:=ih (x - (tw t+1)) (by omega) (tw t+1) rfl (by omega) (by omega) (fun o ho hfo a b c e=>by
      rcases Nat.lt_trichotomy o t with w | w | w
      ·exact top o ho hfo a w (by omega) e
      ·subst w;omega
      ·rcases Nat.lt_or_ge o (tw t) with v | v
       ·exact hX t o w v (by omega) htN ho hf hfo
       ·have:o=tw t:=by omega
        subst this
        rw [hcc] at c;omega)
     exact ⟨k+1,by rw [itf_succ,hst];exact hk⟩
   ·have hst:psi f (ShutC dt tw F x) (dt t)=dt (t+1):=by
     unfold psi
     rw [if_neg fun s=>hf s.1,h.next _ (by omega)]
    obtain ⟨k,hk⟩:=ih (x - (t+1)) (by omega) (t+1) rfl (by omega) (by omega) (fun o ho hfo a b c e=>by
     rcases Nat.lt_or_ge o t with w | w
     ·exact top o ho hfo a w (by omega) e
     ·have:o=t:=by omega
      subst this
      exact hf hfo)
    exact ⟨k+1,by rw [itf_succ,hst];exact hk⟩
theorem Cyc.fresh (h:Cyc n m N f P dt tw) {x:Nat} (hx:x < N) (hc:tw x < x):¬ ShutC dt tw F x (dt x / 2):=fun ⟨_,y,hy,e,hty⟩=>by
 rcases h.same (by omega) hx e with c | c
 ·omega
 ·subst c
  rw [h.ttw hx] at hty
  omega
theorem Cyc.ends (h:Cyc n m N f P dt tw) (hX:NonX N dt tw F) {x:Nat} (hx:x < N) (hc:tw x < x) (hF:F (dt x / 2)):Orb (psi f (ShutC dt tw F x)) (dt (tw x)) (dt x):=by
 obtain ⟨k,hk⟩:=h.reach hX hx hc hF (x - (tw x+1)) (tw x+1) rfl (by omega) (by omega) (fun o _ _ a b _ _=>by omega)
 refine ⟨k+1,?_⟩
 rw [itf_succ]
 have:psi f (ShutC dt tw F x) (dt (tw x))=dt (tw x+1):=by
  unfold psi
  rw [if_neg (by rw [h.thalf hx];exact h.fresh hx hc),h.next _ (by omega)]
 rw [this];exact hk
theorem Cyc.noX (h:Cyc n m N f P dt tw) (hX:NonX N dt tw F):∀ x,x≤N→cls (Orb (psi f (ShutC dt tw F x))) P n=num (ShutC dt tw F x) m+1
 | 0,_=>by
   have hn:∀ e,¬ ShutC dt tw F 0 e:=fun e ⟨_,y,hy,_⟩=>by omega
   rw [psi_none f hn,num_none' hn,h.one]
 | x+1,hx=>by
   have ih:=h.noX hX x (by omega)
   by_cases c:F (dt x / 2)∧tw x < x
   ·obtain ⟨cf,cc⟩:=c
    have hfr:=h.fresh (F:=F) (show x < N by omega) cc
    have heq:∀ e,ShutC dt tw F (x+1) e↔ShutC dt tw F x e∨e=dt x / 2:=fun e=>by
     constructor
     ·rintro ⟨a,y,hy,b,d⟩
      by_cases q:y=x
      ·subst q;exact .inr b.symm
      ·exact .inl ⟨a,y,by omega,b,d⟩
     ·rintro (⟨a,y,hy,b,d⟩ | q)
      ·exact ⟨a,y,by omega,b,d⟩
      ·subst q;exact ⟨cf,x,by omega,rfl,cc⟩
    have hem:dt x / 2 < m:=by have:=h.lt x (by omega);have:=h.nm;omega
    have hpe:P (2*(dt x / 2)):=by
     have hlt:=h.lt x (by omega)
     have hp:=h.inP x (by omega)
     rcases Nat.mod_two_eq_zero_or_one (dt x) with q | q
     ·rw [show 2*(dt x / 2)=dt x by omega];exact hp
     ·have:mt (dt x)=2*(dt x / 2):=by unfold mt;rw [if_neg (by omega)];omega
      rw [← this];exact (h.mate _ hlt).2 hp
    have hst:=(psi_step h.pf h.nm h.inv h.mate hfr hem hpe).1 (by
     have ho:=h.ends hX (show x < N by omega) cc cf
     have he:=(psi_pf h.pf h.nm (ShutC dt tw F x)).eqv
     have hlt:=h.lt x (by omega)
     have hlt2:=h.lt _ (h.tlt x (by omega))
     have h2:=h.tw_ x (by omega)
     rcases Nat.mod_two_eq_zero_or_one (dt x) with q | q
     ·have:mt (dt x)=2*(dt x / 2)+1:=by unfold mt;rw [if_pos (by omega)];omega
      rw [← this,← h2,show 2*(dt x / 2)=dt x by omega]
      exact he.symm _ _ hlt2 hlt ho
     ·have:mt (dt x)=2*(dt x / 2):=by unfold mt;rw [if_neg (by omega)];omega
      rw [← this,← h2]
      rw [show dt (tw x)+1=dt x by rw [h2,this];omega]
      exact ho)
    rw [psi_congr f heq,hst,ih,num_more hem hfr heq m,if_pos hem]
   ·have heq:∀ e,ShutC dt tw F (x+1) e↔ShutC dt tw F x e:=fun e=>by
     constructor
     ·rintro ⟨a,y,hy,b,d⟩
      by_cases q:y=x
      ·subst q;subst b;exact absurd ⟨a,d⟩ c
      ·exact ⟨a,y,by omega,b,d⟩
     ·rintro ⟨a,y,hy,b,d⟩
      exact ⟨a,y,by omega,b,d⟩
    have hfun:ShutC dt tw F (x+1)=ShutC dt tw F x:=funext fun e=>propext (heq e)
    rw [hfun];exact ih
theorem Cyc.shutAll (h:Cyc n m N f P dt tw) (hF:∀ e,F e→e < m∧P (2*e)) (e:Nat):ShutC dt tw F N e↔F e:=by
 refine ⟨fun s=>s.1,fun s=>?_⟩
 obtain ⟨h1,h2⟩:=hF e s
 obtain ⟨j,hj,ej⟩:=h.all (2*e) (by have:=h.nm;omega) h2
 have hc:=h.tlt j hj
 rcases Nat.lt_or_ge (tw j) j with q | q
 ·exact ⟨s,j,hj,by omega,q⟩
 ·have:=h.tne hj
  exact ⟨s,tw j,hc,by rw [h.thalf hj];omega,by rw [h.ttw hj];omega⟩
theorem Cyc.noCross (h:Cyc n m N f P dt tw) (hF:∀ e,F e→e < m∧P (2*e)) (hX:NonX N dt tw F):cls (Orb (psi f F)) P n=num F m+1:=by
 have hfun:ShutC dt tw F N=F:=funext fun e=>propext (h.shutAll hF e)
 have:=h.noX hX N (Nat.le_refl _)
 rwa [hfun] at this
theorem Cyc.most (h:Cyc n m N f P dt tw) (hF:∀ e,F e→e < m∧P (2*e)) (B:Nat→Prop) (hB:∀ e,B e→F e):∀ k,cls (Orb (psi f fun e=>B e∨(F e∧e < k))) P n+num B k≤cls (Orb (psi f B)) P n+num F k
 | 0=>by
   have:∀ e,(B e∨(F e∧e < 0))↔B e:=fun e=>⟨fun x=>x.elim id fun y=>absurd y.2 (by omega),.inl⟩
   rw [psi_congr f this];exact Nat.le_refl _
 | k+1=>by
   have ih:=h.most hF B hB k
   by_cases c:F k
   ·by_cases d:B k
    ·have heq:∀ e,(B e∨(F e∧e < k+1))↔(B e∨(F e∧e < k)):=fun e=>by
      constructor
      ·rintro (x | ⟨x,y⟩)
       ·exact .inl x
       ·by_cases q:e=k
        ·subst q;exact .inl d
        ·exact .inr ⟨x,by omega⟩
      ·rintro (x | ⟨x,y⟩)
       ·exact .inl x
       ·exact .inr ⟨x,by omega⟩
     rw [psi_congr f heq,(num_next F k).1 c,(num_next B k).1 d];omega
    ·have hfr:¬ (B k∨(F k∧k < k)):=fun x=>x.elim d fun y=>absurd y.2 (by omega)
     have heq:∀ e,(B e∨(F e∧e < k+1))↔((B e∨(F e∧e < k))∨e=k):=fun e=>by
      constructor
      ·rintro (x | ⟨x,y⟩)
       ·exact .inl (.inl x)
       ·by_cases q:e=k
        ·exact .inr q
        ·exact .inl (.inr ⟨x,by omega⟩)
      ·rintro ((x | ⟨x,y⟩) | q)
       ·exact .inl x
       ·exact .inr ⟨x,by omega⟩
       ·subst q;exact .inr ⟨c,by omega⟩
     obtain ⟨s1,s2⟩:=psi_step (Q:=fun e=>B e∨(F e∧e < k)) h.pf h.nm h.inv h.mate hfr (hF k c).1 (hF k c).2
     rw [psi_congr f heq,(num_next F k).1 c,(num_next B k).2 d]
     by_cases o:Orb (psi f fun e=>B e∨(F e∧e < k)) (2*k) (2*k+1)
     ·have:=s1 o;omega
     ·have:=s2 o;omega
   ·have heq:∀ e,(B e∨(F e∧e < k+1))↔(B e∨(F e∧e < k)):=fun e=>by
     constructor
     ·rintro (x | ⟨x,y⟩)
      ·exact .inl x
      ·by_cases q:e=k
       ·subst q;exact absurd x c
       ·exact .inr ⟨x,by omega⟩
     ·rintro (x | ⟨x,y⟩)
      ·exact .inl x
      ·exact .inr ⟨x,by omega⟩
    rw [psi_congr f heq,(num_next F k).2 c,(num_next B k).2 fun b=>c (hB k b)];omega
theorem Cyc.cross (h:Cyc n m N f P dt tw) (hF:∀ e,F e→e < m∧P (2*e)) {i k:Nat} (h1:i < k) (h2:k < tw i) (h3:tw i < tw k) (hi:i < N) (hk:k < N) (fi:F (dt i / 2)) (fk:F (dt k / 2)) :
  cls (Orb (psi f F)) P n+1≤num F m:=by
 obtain ⟨e1,he1⟩:∃ e1,e1=dt i / 2:=⟨_,rfl⟩
 obtain ⟨e2,he2⟩:∃ e2,e2=dt k / 2:=⟨_,rfl⟩
 have hne:e2≠e1:=fun e=>by
  rw [he1,he2] at e
  rcases h.same hk hi e with c | c
  ·omega
  ·omega
 rw [← he1] at fi
 rw [← he2] at fk
 have hj:=h.tlt i hi
 have hl:=h.tlt k hk
 have s1:=psi_step (Q:=fun _=>False) h.pf h.nm h.inv h.mate (e:=e1) (fun x=>x) (hF e1 fi).1 (hF e1 fi).2
 have hb1:psi f (fun x=>False∨x=e1)=psi f (fun x=>x=e1):=psi_congr f fun e=>⟨fun x=>x.elim False.elim id,.inr⟩
 rw [hb1,psi_none f (Q:=fun _=>False) (fun _ x=>x),h.one] at s1
 have c1:cls (Orb (psi f fun x=>x=e1)) P n≤2:=by
  by_cases o:Orb f (2*e1) (2*e1+1)
  ·have:=s1.1 o;omega
  ·have:=s1.2 o;omega
 have stay:∀ q t,i < t→t≤tw i→∃ t',i < t'∧t'≤tw i∧itf (psi f fun x=>x=e1) q (dt t)=dt t':=fun q=>by
  induction q with
  | zero=>intro t a b;exact ⟨t,a,b,rfl⟩
  | succ q ih =>
    intro t a b
    rw [itf_succ]
    have htN:t < N:=by omega
    by_cases c:t=tw i
    ·have:psi f (fun x=>x=e1) (dt t)=dt (i+1):=by
      unfold psi
      rw [if_pos (by rw [c,h.thalf hi,he1]),← h.tw_ t htN,c,h.ttw hi,h.next i (by omega)]
     rw [this]
     exact ih (i+1) (by omega) (by omega)
    ·have hn1:¬ dt t / 2=e1:=fun e=>by
      rw [he1] at e
      rcases h.same htN hi e with d | d
      ·omega
      ·exact c d
     have:psi f (fun x=>x=e1) (dt t)=dt (t+1):=by
      unfold psi
      rw [if_neg hn1,h.next t (by omega)]
     rw [this]
     exact ih (t+1) (by omega) (by omega)
 have hno:¬ Orb (psi f fun x=>x=e1) (dt k) (dt (tw k)):=fun ⟨q,e⟩=>by
  obtain ⟨t',a,b,c⟩:=stay q k h1 (by omega)
  rw [c] at e
  have:=h.inj _ _ (by omega) hl e
  omega
 have hpf:=(psi_pf h.pf h.nm (fun x=>x=e1)).eqv
 have s2:=(psi_step (Q:=fun x=>x=e1) h.pf h.nm h.inv h.mate (e:=e2) hne (hF e2 fk).1 (hF e2 fk).2).2 (fun o=>by
  apply hno
  have hlk:=h.lt k hk
  have hlt:=h.lt _ hl
  have ht:=h.tw_ k hk
  rcases Nat.mod_two_eq_zero_or_one (dt k) with q | q
  ·have e3:mt (dt k)=2*e2+1:=by unfold mt;rw [if_pos (by omega)];omega
   rw [ht,e3]
   have:dt k=2*e2:=by omega
   rw [this];exact o
  ·have e3:mt (dt k)=2*e2:=by unfold mt;rw [if_neg (by omega)];omega
   rw [ht,e3]
   have e4:dt k=2*e2+1:=by omega
   rw [e4]
   exact hpf.symm _ _ (by omega) (by omega) o)
 have mo:=h.most hF (fun x=>x=e1∨x=e2) (fun e x=>by rcases x with rfl | rfl <;> assumption) m
 have hall:∀ e,((e=e1∨e=e2)∨(F e∧e < m))↔F e:=fun e=>by
  constructor
  ·rintro ((rfl | rfl) | ⟨x,_⟩)
   ·exact fi
   ·exact fk
   ·exact x
  ·intro x;exact .inr ⟨x,(hF e x).1⟩
 rw [psi_congr f hall] at mo
 have n1:num (fun x=>x=e1∨x=e2) m=2:=by
  have a:=num_more (Q:=fun x=>x=e1) (R:=fun x=>x=e1∨x=e2) (hF e2 fk).1 hne (fun i=>Iff.rfl) m
  have b:=num_more (Q:=fun _=>False) (R:=fun x=>x=e1) (hF e1 fi).1 (fun x=>x) (fun i=>⟨.inr,fun x=>x.elim False.elim id⟩) m
  rw [if_pos (hF e2 fk).1] at a
  rw [if_pos (hF e1 fi).1,num_none' (fun _ x=>x)] at b
  omega
 omega
theorem Cyc.iff_ (h:Cyc n m N f P dt tw) (hF:∀ e,F e→e < m∧P (2*e)):cls (Orb (psi f F)) P n=num F m+1↔NonX N dt tw F:=by
 constructor
 ·intro e i k h1 h2 h3 hi hk fi fk
  have:=h.cross hF h1 h2 h3 hi hk fi fk
  omega
 ·exact h.noCross hF
end
end Go.Proofs.YtajjgpkahljjmaaGreatDoor
namespace Go.Proofs.YtajjgpkahljjmaaGreatDoor
def wd (V i:Nat):Nat:=V / 2 ^ (64*i)%2 ^ 64
theorem wd_lt (V i:Nat):wd V i < 2 ^ 64:=Nat.mod_lt _ (by decide)
theorem wd_bit (V i j:Nat):(wd V i).testBit j=(decide (j < 64) && V.testBit (64*i+j)):=by
 unfold wd
 rw [Nat.testBit_mod_two_pow,Nat.testBit_div_two_pow]
 congr 2
 omega
def put (V n x k:Nat):Nat:=V+x%2 ^ k*2 ^ n
theorem put_lt {V n:Nat} (x k:Nat) (h:V < 2 ^ n):put V n x k < 2 ^ (n+k):=by
 unfold put
 have h1:x%2 ^ k < 2 ^ k:=Nat.mod_lt _ (Nat.two_pow_pos k)
 have h2:x%2 ^ k*2 ^ n≤(2 ^ k - 1)*2 ^ n:=Nat.mul_le_mul_right _ (by omega)
 have h3:(2 ^ k - 1)*2 ^ n=2 ^ (n+k) - 2 ^ n:=by rw [Nat.sub_mul,Nat.one_mul,← Nat.pow_add,Nat.add_comm k n]
 have h4:2 ^ n≤2 ^ (n+k):=Nat.pow_le_pow_right (by omega) (by omega)
 omega
theorem put_bit {V n:Nat} (x k j:Nat) (h:V < 2 ^ n):(put V n x k).testBit j=if j < n then V.testBit j else (decide (j - n < k) && x.testBit (j - n)):=by
 unfold put
 rw [Nat.add_comm,Nat.mul_comm,Nat.testBit_two_pow_mul_add _ h,Nat.testBit_mod_two_pow]
theorem wd_put_low {V n:Nat} (x k i:Nat) (h:V < 2 ^ n) (hi:64*i+64≤n):wd (put V n x k) i=wd V i:=by
 apply Nat.eq_of_testBit_eq
 intro j
 rw [wd_bit,wd_bit]
 by_cases hj:j < 64
 ·rw [put_bit x k _ h,if_pos (by omega)]
 ·simp [hj]
theorem wd_put_new {V n:Nat} (x k i:Nat) (h:V < 2 ^ n) (hi:n=64*i) (hk:k≤64):wd (put V n x k) i=x%2 ^ k:=by
 apply Nat.eq_of_testBit_eq
 intro j
 rw [wd_bit,put_bit x k _ h,if_neg (by omega),show 64*i+j - n=j by omega,Nat.testBit_mod_two_pow]
 by_cases hj:j < k
 ·simp [hj,show j < 64 by omega]
 ·simp [hj]
theorem wd_put_last {V n:Nat} (x k i s:Nat) (h:V < 2 ^ n) (hn:n=64*i+s) (hs:s < 64):wd (put V n x k) i=wd V i ||| (x%2 ^ k*2 ^ s)%2 ^ 64:=by
 apply Nat.eq_of_testBit_eq
 intro j
 rw [Nat.testBit_or,wd_bit,wd_bit,put_bit x k _ h,Nat.testBit_mod_two_pow,Nat.mul_comm (x%2 ^ k),Nat.testBit_two_pow_mul,Nat.testBit_mod_two_pow]
 by_cases hj:j < 64
 ·by_cases hjs:j < s
  ·simp [hj,show 64*i+j < n by omega,show ¬ s≤j by omega]
  ·have hV:V.testBit (64*i+j)=false:=Nat.testBit_lt_two_pow (Nat.lt_of_lt_of_le h (Nat.pow_le_pow_right (by omega) (by omega)))
   rw [if_neg (by omega),show 64*i+j - n=j - s by omega,hV]
   simp [hj,show s≤j by omega]
 ·simp [hj]
theorem wd_put_next {V n:Nat} (x k i s:Nat) (h:V < 2 ^ n) (hn:n=64*i+s) (hs:s < 64) (hs0:0 < s) (hk:k≤64):wd (put V n x k) (i+1)=x%2 ^ k / 2 ^ (64 - s):=by
 apply Nat.eq_of_testBit_eq
 intro j
 rw [wd_bit,put_bit x k _ h,if_neg (by omega),Nat.testBit_div_two_pow,Nat.testBit_mod_two_pow,show 64*(i+1)+j - n=64 - s+j by omega]
 by_cases hj:64 - s+j < k
 ·simp [show j+(64 - s) < k by omega,show j < 64 by omega,Nat.add_comm]
 ·simp [show ¬ 64 - s+j < k by omega,show ¬ j+(64 - s) < k by omega]
theorem get_one (V i s k:Nat) (h:s+k≤64):wd V i / 2 ^ s%2 ^ k=V / 2 ^ (64*i+s)%2 ^ k:=by
 apply Nat.eq_of_testBit_eq
 intro j
 rw [Nat.testBit_mod_two_pow,Nat.testBit_mod_two_pow,Nat.testBit_div_two_pow,Nat.testBit_div_two_pow,wd_bit]
 by_cases hj:j < k
 ·simp [hj,show j+s < 64 by omega,show 64*i+(j+s)=j+(64*i+s) by omega]
 ·simp [hj]
theorem get_two (V i s k:Nat) (hs:s < 64) (hs0:0 < s) (hk:k≤64):(wd V i / 2 ^ s ||| wd V (i+1)*2 ^ (64 - s)%2 ^ 64)%2 ^ k=V / 2 ^ (64*i+s)%2 ^ k:=by
 apply Nat.eq_of_testBit_eq
 intro j
 rw [Nat.testBit_mod_two_pow,Nat.testBit_mod_two_pow,Nat.testBit_or,Nat.testBit_div_two_pow,Nat.testBit_div_two_pow,wd_bit,Nat.testBit_mod_two_pow,Nat.mul_comm (wd V (i+1)),Nat.testBit_two_pow_mul,wd_bit]
 by_cases hj:j < k
 ·by_cases hjs:j+s < 64
  ·simp [hj,hjs,show ¬ 64 - s≤j by omega,show 64*i+(j+s)=j+(64*i+s) by omega]
  ·simp [hj,hjs,show 64 - s≤j by omega,show j < 64 by omega,show j - (64 - s) < 64 by omega,show 64*(i+1)+(j - (64 - s))=j+(64*i+s) by omega]
 ·simp [hj]
end Go.Proofs.YtajjgpkahljjmaaGreatDoor
