/- Turns of one map into another: mathematics. -/
import Derived.Test.YtajjgpkahljjmaaGreatDoorZg21
import Derived.Test.YtajjgpkahljjmaaGreatDoorZg18
import Derived.Test.YtajjgpkahljjmaaGreatDoorZg15
import Derived.Test.YtajjgpkahljjmaaGreatDoorZg17
import Derived.Test.YtajjgpkahljjmaaGreatDoorZg6
open Go.RowKit
set_option linter.unusedVariables false
set_option linter.unusedSimpArgs false
namespace Go.Proofs.YtajjgpkahljjmaaGreatDoor
set_option maxRecDepth 20000
def compL (p p':List Nat):List Nat:=p.map (sgL p')
theorem compL_len (p p':List Nat):(compL p p').length=p.length:=by simp [compL]
theorem compL_get {p p':List Nat} {d:Nat} (hd:d < p.length):sgL (compL p p') d=sgL p' (sgL p d):=by
 show (compL p p').getD d 0=_
 simp [compL,sgL,List.getD_eq_getElem?_getD,hd]
theorem Nam.comp {n:Nat} {p q p' q':List Nat} (h:Nam n p q) (h':Nam n p' q'):Nam n (compL p p') (compL q' q):=by
 have l1:=h.len
 have l2:=h'.len
 have l3:q.length=n:=h.symm.len
 have l4:q'.length=n:=h'.symm.len
 have g1:∀ d,d < n→sgL (compL p p') d=sgL p' (sgL p d):=fun d hd=>compL_get (by rw [l1];exact hd)
 have g2:∀ d,d < n→sgL (compL q' q) d=sgL q (sgL q' d):=fun d hd=>compL_get (by rw [l4];exact hd)
 have c1:(compL p p').length=n:=by rw [compL_len,l1]
 refine ⟨⟨by rw [compL_len,c1,l4],fun i hi=>?_,fun i hi=>?_,fun i hi=>?_,fun i hi=>?_⟩,c1,h.ev,fun d hd=>?_⟩
 ·rw [c1] at hi ⊢;show sgL (compL p p') i < n;rw [g1 i hi];exact h'.lt (h.lt hi)
 ·rw [c1] at hi ⊢;show sgL (compL q' q) i < n;rw [g2 i hi];exact h.lt' (h'.lt' hi)
 ·rw [c1] at hi;show sgL (compL q' q) (sgL (compL p p') i)=i;rw [g1 i hi,g2 _ (h'.lt (h.lt hi)),h'.qp (h.lt hi),h.qp hi]
 ·rw [c1] at hi;show sgL (compL p p') (sgL (compL q' q) i)=i;rw [g2 i hi,g1 _ (h.lt' (h'.lt' hi)),h.pq (h'.lt' hi),h'.pq hi]
 ·rw [g1 _ (mt_in h.ev hd),g1 d hd,h.mt d hd,h'.mt _ (h.lt hd)]
theorem cj_comp {l p q p' q':List Nat} (h:Nam l.length p q) (h':Nam l.length p' q') (hl:∀ d,d < l.length→sgL l d < l.length):cjL (compL p p') (compL q' q) l=cjL p' q' (cjL p q l):=by
 refine getDN_extC (by rw [cjL_len,cjL_len,cjL_len]) fun i hi=>?_
 rw [cjL_len] at hi
 have e1:(cjL (compL p p') (compL q' q) l).getD i 0=sgL (compL p p') (sgL l (sgL (compL q' q) i)):=cjL_get _ _ _ hi
 have e2:(cjL p' q' (cjL p q l)).getD i 0=sgL p' (sgL (cjL p q l) (sgL q' i)):=cjL_get _ _ _ (by rw [cjL_len];exact hi)
 have hq:=h'.lt' hi
 have e3:sgL (compL q' q) i=sgL q (sgL q' i):=compL_get (by rw [h'.symm.len];exact hi)
 have e4:sgL (compL p p') (sgL l (sgL q (sgL q' i)))=sgL p' (sgL p (sgL l (sgL q (sgL q' i)))):=compL_get (by rw [h.len];exact hl _ (h.lt' hq))
 rw [e1,e2,cjL_get _ _ _ hq,e3,e4]
structure Trn (l l':List Nat) (r r':Nat) (p q:List Nat):Prop where
 nam:Nam l.length p q
 img:cjL p q l=l'
 root:sgL p r=r'
theorem Trn.len {l l' p q:List Nat} {r r':Nat} (t:Trn l l' r r' p q):l'.length=l.length:=by rw [← t.img,cjL_len]
theorem Trn.symm {l l' b p q:List Nat} {r r':Nat} (hl:Inv l b) (hr:r < l.length) (t:Trn l l' r r' p q):Trn l' l r' r q p :=
 ⟨by rw [t.len];exact t.nam.symm,by rw [← t.img];exact cj_back t.nam hl,by rw [← t.root];exact t.nam.qp hr⟩
theorem Trn.trans {l l' l2 b p q p' q':List Nat} {r r' r2:Nat} (hl:Inv l b) (hr:r < l.length) (t:Trn l l' r r' p q) (t':Trn l' l2 r' r2 p' q'):Trn l l2 r r2 (compL p p') (compL q' q):=by
 have hn:Nam l.length p' q':=by have:=t'.nam;rwa [t.len] at this
 exact ⟨t.nam.comp hn,by rw [cj_comp t.nam hn fun d hd=>hl.lt d hd,t.img,t'.img],by rw [compL_get (by rw [t.nam.len];exact hr),t.root,t'.root]⟩
theorem Trn.once {l l' b p q p' q':List Nat} {r r':Nat} (hl:Inv l b) (hr:r < l.length) (hp:∀ j,j < l.length→part l r j) (t:Trn l l' r r' p q) (t':Trn l l' r r' p' q'):∀ d,d < l.length→sgL p d=sgL p' d:=by
 intro d hd
 have hpf:=sgL_pf hl
 have ev:=t.nam.ev
 refine (part_closed (S:=fun x=>sgL p x=sgL p' x) hpf (m:=l.length / 2) (by omega) (fun x hx s=>?_) (fun x hx s=>?_) r d hr hd (hp d hd)).1 (by rw [t.root,t'.root])
 ·have k1:=cj_at t.nam hx
  have k2:=cj_at t'.nam hx
  rw [t.img] at k1
  rw [t'.img] at k2
  rw [← k1,← k2,s]
 ·rw [t.nam.mt x hx,t'.nam.mt x hx,s]
theorem Trn.ofSame {l l' c P Q P' Q' b b':List Nat} {r r' k:Nat} (hl:Inv l b) (hl':Inv l' b') (hr:r < l.length) (hr':r' < l'.length) (h:Trn l c r k P Q) (h':Trn l' c r' k P' Q'):Trn l l' r r' (compL P Q') (compL P' Q) :=
 h.trans hl hr (h'.symm hl' hr')
theorem cnum_or {P Q:Nat→Prop} (h:∀ e,P e→¬ Q e):∀ k,num P k+num Q k=num (fun e=>P e∨Q e) k
 | 0=>rfl
 | k+1=>by
   have ih:=cnum_or h k
   by_cases p:P k
   ·rw [(num_next P k).1 p,(num_next Q k).2 (h k p),(num_next (fun e=>P e∨Q e) k).1 (.inl p)];omega
   ·rw [(num_next P k).2 p]
    by_cases q:Q k
    ·rw [(num_next Q k).1 q,(num_next (fun e=>P e∨Q e) k).1 (.inr q)];omega
    ·rw [(num_next Q k).2 q,(num_next (fun e=>P e∨Q e) k).2 (fun x=>x.elim p q)];omega
theorem cnum_all:∀ k,num (fun _=>True) k=k
 | 0=>rfl
 | k+1=>by rw [(num_next (fun _=>True) k).1 trivial,cnum_all k]
def TurnsTo (l:List Nat) (d e:Nat):Prop:=∃ p q,Trn l l d e p q
theorem range_nam {n:Nat} (he:n%2=0):Nam n (List.range n) (List.range n):=by
 have g:∀ i,i < n→(List.range n).getD i 0=i:=fun i hi=>by simp [List.getD_eq_getElem?_getD,hi]
 refine ⟨⟨rfl,fun i hi=>?_,fun i hi=>?_,fun i hi=>?_,fun i hi=>?_⟩,by simp,he,fun d hd=>?_⟩
 ·simp only [List.length_range] at hi ⊢;rw [g i hi];exact hi
 ·simp only [List.length_range] at hi ⊢;rw [g i hi];exact hi
 ·simp only [List.length_range] at hi;rw [g i hi,g i hi]
 ·simp only [List.length_range] at hi;rw [g i hi,g i hi]
 ·show (List.range n).getD _ 0=Go.Proofs.YtajjgpkahljjmaaGreatDoor.mt ((List.range n).getD d 0)
  rw [g _ (mt_in he hd),g d hd]
theorem range_trn {l b:List Nat} (hl:Inv l b) (he:l.length%2=0) {d:Nat} (hd:d < l.length):Trn l l d d (List.range l.length) (List.range l.length):=by
 have g:∀ i,i < l.length→sgL (List.range l.length) i=i:=fun i hi=>by simp [sgL,List.getD_eq_getElem?_getD,hi]
 refine ⟨range_nam he,getDN_extC (by rw [cjL_len]) fun i hi=>?_,g d hd⟩
 rw [cjL_len] at hi
 have e1:(cjL (List.range l.length) (List.range l.length) l).getD i 0=sgL (List.range l.length) (sgL l (sgL (List.range l.length) i)):=cjL_get _ _ _ hi
 rw [e1,g i hi]
 exact g _ (hl.lt i hi)
theorem turns_eqv {l b:List Nat} (hl:Inv l b) (he:l.length%2=0):Eqv l.length (TurnsTo l) :=
 ⟨fun i hi=>⟨_,_,range_trn hl he hi⟩,fun i j hi hj ⟨p,q,t⟩=>⟨q,p,t.symm hl hi⟩,fun i j k hi hj hk ⟨p,q,t⟩ ⟨p',q',t'⟩=>⟨_,_,t.trans hl hi t'⟩⟩
noncomputable def wlk (l:List Nat) (r:Nat):List Nat :=
 (List.range (wN (sgL l) (nameOf l) (l.length / 2) (orbits l).length r)).map fun j=>(wrun (sgL l) (nameOf l) (l.length / 2) (orbits l).length r j).d
section
variable {l b:List Nat}
theorem one_nm (hl:Inv l b):∀ x y,x < l.length→y < l.length→(nameOf l x=nameOf l y↔Orb (sgL l) x y):=fun x y hx hy=>name_iff hl hx hy
theorem wlk_lt (hl:Inv l b) (he:l.length%2=0) {r:Nat} (hr:r < l.length):∀ d∈wlk l r,d < l.length:=fun d hd=>by
 obtain ⟨j,_,rfl⟩:=List.mem_map.1 hd
 exact (wok (sgL_pf hl) (show l.length=2*(l.length / 2) by omega) (one_nm hl) (fun x hx=>name_lt hl hx) hr j).lt
theorem wlk_part (hl:Inv l b) (he:l.length%2=0) {r d:Nat} (hr:r < l.length) (hd:d < l.length):d∈wlk l r↔part l r d:=by
 have k:=wpart (sgL_pf hl) (show l.length=2*(l.length / 2) by omega) (one_nm hl) (fun x hx=>name_lt hl hx) hr hd
 unfold part
 rw [k]
 unfold wlk
 rw [List.mem_map]
 exact ⟨fun ⟨j,hj,e⟩=>⟨j,List.mem_range.1 hj,e⟩,fun ⟨j,hj,e⟩=>⟨j,List.mem_range.2 hj,e⟩⟩
theorem wlk_head (hl:Inv l b) (he:l.length%2=0) {r:Nat} (hr:r < l.length):∃ ds,wlk l r=r :: ds:=by
 obtain ⟨n1,_⟩:=wN_is (sgL_pf hl) (show l.length=2*(l.length / 2) by omega) (one_nm hl) (fun x hx=>name_lt hl hx) hr
 unfold wlk
 obtain ⟨N,hN⟩:∃ N,wN (sgL l) (nameOf l) (l.length / 2) (orbits l).length r=N+1:=⟨wN (sgL l) (nameOf l) (l.length / 2) (orbits l).length r - 1,by omega⟩
 rw [hN,List.range_succ_eq_map,List.map_cons]
 exact ⟨_,rfl⟩
theorem wlk_map {p q:List Nat} (h:Nam l.length p q) (hl:Inv l b) {r:Nat} (hr:r < l.length):wlk (cjL p q l) (sgL p r)=(wlk l r).map (sgL p):=by
 have he:=h.ev
 have hn:l.length=2*(l.length / 2):=by omega
 have hc:=cj_inv h hl
 have hpr:=h.lt hr
 have hs1:=sgL_pf hl
 have hs2:PF l.length (sgL (cjL p q l)):=by have:=sgL_pf hc;rwa [cjL_len] at this
 have nm2:∀ x y,x < l.length→y < l.length→(nameOf (cjL p q l) x=nameOf (cjL p q l) y↔Orb (sgL (cjL p q l)) x y):=by have:=one_nm hc;rwa [cjL_len] at this
 have v2:∀ x,x < l.length→nameOf (cjL p q l) x < (orbits (cjL p q l)).length:=fun x hx=>name_lt hc (by rw [cjL_len];exact hx)
 have key:=fun j=>(wrun_map h.inc hn hn (sg:=sgL l) (sg':=sgL (cjL p q l)) (nm:=nameOf l) (nm':=nameOf (cjL p q l)) (fun d hd=>hl.lt d hd) (fun d hd=>cj_at h hd) (fun x y hx hy=>cj_name h hl hx hy) (fun d hd=>name_lt hl hd) v2 hr j).1
 obtain ⟨a1,a2,a3,a4⟩:=wN_is hs1 hn (one_nm hl) (fun x hx=>name_lt hl hx) hr
 obtain ⟨b1,b2,b3,b4⟩:=wN_is hs2 hn nm2 v2 hpr
 have eN:wN (sgL (cjL p q l)) (nameOf (cjL p q l)) (l.length / 2) (orbits (cjL p q l)).length (sgL p r)=wN (sgL l) (nameOf l) (l.length / 2) (orbits l).length r:=by
  refine Nat.le_antisymm ?_ ?_
  ·refine Nat.le_of_not_lt fun c=>b4 _ a1 c ?_
   rw [(key _).d,a3]
  ·refine Nat.le_of_not_lt fun c=>a4 _ b1 c ?_
   have k:=(key (wN (sgL (cjL p q l)) (nameOf (cjL p q l)) (l.length / 2) (orbits (cjL p q l)).length (sgL p r))).d
   rw [b3] at k
   exact h.inc.inj _ _ (key _).lt hr k.symm
 unfold wlk
 rw [cjL_len,eN,List.map_map]
 exact List.map_congr_left fun j _=>(key j).d
structure CanN (l:List Nat) (r:Nat) (P Q:List Nat):Prop where
 nam:Nam l.length P Q
 is:(lookL l.length (wlk l r)).1=ofN P
theorem CanN.root {r:Nat} {P Q:List Nat} (h:CanN l r P Q) (hl:Inv l b) (hr:r < l.length):sgL P r=0:=by
 have he:=h.nam.ev
 obtain ⟨ds,e⟩:=wlk_head hl he hr
 have hlt:=wlk_lt hl he hr
 have k:=(LK.start l.length).first he ds hr (fun d hd=>hlt d (by rw [e];exact List.mem_cons_of_mem _ hd)) (by simp [List.getD_eq_getElem?_getD,hr])
 have g:(lookL l.length (wlk l r)).1.getD r 0=((0:Nat):Int):=by rw [e];exact k
 rw [h.is,ofN_get] at g
 have:((sgL P r:Nat):Int)=((0:Nat):Int):=g
 omega
theorem CanN.turn {l' p q:List Nat} {r r':Nat} {P Q P' Q':List Nat} (h:CanN l r P Q) (h':CanN l' r' P' Q') (hl:Inv l b) (hr:r < l.length) (t:Trn l l' r r' p q):(∀ d,d < l.length→sgL P' (sgL p d)=sgL P d)∧cjL P' Q' l'=cjL P Q l:=by
 obtain ⟨hN,rfl,rfl⟩:=t
 have hn':Nam l.length P' Q':=by have:=h'.nam;rwa [cjL_len] at this
 have e1:=h'.is
 rw [cjL_len,wlk_map hN hl hr] at e1
 have lm:=(look_map hN (wlk l r) (wlk_lt hl hN.ev hr)).2
 rw [e1,h.is] at lm
 have he:∀ d,d < l.length→sgL P' (sgL p d)=sgL P d:=fun d hd=>by
  have:=lm d hd
  rw [ofN_get,ofN_get] at this
  have k:((sgL P' (sgL p d):Nat):Int)=((sgL P d:Nat):Int):=this
  omega
 exact ⟨he,cj_once hN h.nam hn' (fun d hd=>hl.lt d hd) he⟩
theorem CanN.iff {l' b':List Nat} {r r':Nat} {P Q P' Q':List Nat} (h:CanN l r P Q) (h':CanN l' r' P' Q') (hl:Inv l b) (hl':Inv l' b') (hr:r < l.length) (hr':r' < l'.length):cjL P' Q' l'=cjL P Q l↔∃ p q,Trn l l' r r' p q:=by
 constructor
 ·intro e
  exact ⟨_,_,Trn.ofSame hl hl' hr hr' ⟨h.nam,rfl,h.root hl hr⟩ ⟨h'.nam,e,h'.root hl' hr'⟩⟩
 ·rintro ⟨p,q,t⟩
  exact (h.turn h' hl hr t).2
theorem CanN.again {r:Nat} {P Q P' Q':List Nat} (h:CanN l r P Q) (h':CanN (cjL P Q l) (sgL P r) P' Q') (hl:Inv l b) (hr:r < l.length):(∀ d,d < l.length→sgL P' d=d)∧cjL P' Q' (cjL P Q l)=cjL P Q l:=by
 obtain ⟨k1,k2⟩:=h.turn h' hl hr ⟨h.nam,rfl,rfl⟩
 refine ⟨fun d hd=>?_,k2⟩
 have:=k1 _ (h.nam.lt' hd)
 rwa [h.nam.pq hd] at this
end
end Go.Proofs.YtajjgpkahljjmaaGreatDoor
namespace Go.Proofs.YtajjgpkahljjmaaGreatDoor
set_option maxRecDepth 20000
section
variable {l b:List Nat}
theorem part_mt (hl:Inv l b) (he:l.length%2=0) {d:Nat} (hd:d < l.length):part l d (mt d):=by
 unfold part;exact gk_mt (sgL_pf hl) (by omega) _ hd
theorem parts_order (hl:Inv l b) (he:l.length%2=0):∀ (st:List Nat) (y:List Int) (nx:Nat) (z:List Nat),LK l.length y nx z→(∀ s∈st,s < l.length∧∀ d,d < l.length→part l s d→y.getD d 0=-1)→st.Pairwise (fun s s'=>¬ part l s s') →
  st.Pairwise (fun s s'=>(((st.flatMap (wlk l)).foldl lookS (y,nx)).1.getD s 0 < ((st.flatMap (wlk l)).foldl lookS (y,nx)).1.getD s' 0)) ∧
  ∀ s∈st,(nx:Int)≤((st.flatMap (wlk l)).foldl lookS (y,nx)).1.getD s 0∧∀ d,d < l.length→part l s d→((st.flatMap (wlk l)).foldl lookS (y,nx)).1.getD s 0≤((st.flatMap (wlk l)).foldl lookS (y,nx)).1.getD d 0
 | [],y,nx,z,_,_,_=>⟨List.Pairwise.nil,fun s hs=>by cases hs⟩
 | s :: st,y,nx,z,h,hst,hpw=>by
   have hq:=part_eqv hl he
   obtain ⟨hs,hun⟩:=hst s (List.mem_cons_self ..)
   have hsu:=hun s hs (hq.refl s hs)
   have hwl:=wlk_lt hl he hs
   obtain ⟨ds,hds⟩:=wlk_head hl he hs
   rw [List.pairwise_cons] at hpw
   obtain ⟨hp1,hp2⟩:=hpw
   have M:=LK.more he (wlk l s) y nx z hwl h
   obtain ⟨⟨z',hz'⟩,mle,mkeep,mlate,miff⟩:=M
   have T1:((wlk l s).foldl lookS (y,nx)).1.getD s 0=(nx:Int):=by
    rw [hds];exact h.first he ds hs (fun d hd=>hwl d (by rw [hds];exact List.mem_cons_of_mem _ hd)) hsu
   have T2:=hz'.named hs (by rw [T1];omega)
   rw [T1] at T2
   have hlt':∀ d∈st.flatMap (wlk l),d < l.length:=fun d hd=>by
    obtain ⟨s',hs',hd'⟩:=List.mem_flatMap.1 hd
    exact wlk_lt hl he (hst s' (List.mem_cons_of_mem _ hs')).1 d hd'
   have hst':∀ s'∈st,s' < l.length∧∀ d,d < l.length→part l s' d→((wlk l s).foldl lookS (y,nx)).1.getD d 0=-1:=fun s' hs'=>by
    obtain ⟨k1,k2⟩:=hst s' (List.mem_cons_of_mem _ hs')
    refine ⟨k1,fun d hd hp=>Classical.byContradiction fun c=>?_⟩
    have hmd:=mt_in he hd
    have hn:=hp1 s' hs'
    rcases (miff d hd).1 c with c | c | c
    ·exact c (k2 d hd hp)
    ·exact hn (hq.trans _ _ _ hs hd k1 ((wlk_part hl he hs hd).1 c) (hq.symm _ _ k1 hd hp))
    ·exact hn (hq.trans _ _ _ hs hmd k1 ((wlk_part hl he hs hmd).1 c) (hq.trans _ _ _ hmd hd k1 (hq.symm _ _ hd hmd (part_mt hl he hd)) (hq.symm _ _ k1 hd hp)))
   obtain ⟨I1,I2⟩:=parts_order hl he st _ _ z' hz' hst' hp2
   have M2:=LK.more he (st.flatMap (wlk l)) _ _ z' hlt' hz'
   have eF:((s :: st).flatMap (wlk l)).foldl lookS (y,nx)=(st.flatMap (wlk l)).foldl lookS ((wlk l s).foldl lookS (y,nx)):=by
    rw [List.flatMap_cons,List.foldl_append]
   have hall:∀ d∈(s :: st).flatMap (wlk l),d < l.length:=fun d hd=>by
    rw [List.flatMap_cons,List.mem_append] at hd
    exact hd.elim (hwl d) (hlt' d)
   have MW:=LK.more he ((s :: st).flatMap (wlk l)) y nx z hall h
   rw [eF] at MW ⊢
   have F1:((st.flatMap (wlk l)).foldl lookS ((wlk l s).foldl lookS (y,nx))).1.getD s 0=(nx:Int):=by
    rw [M2.keep s hs (by show List.getD _ s 0≠-1;rw [T1];omega)];exact T1
   refine ⟨List.Pairwise.cons (fun s' hs'=>?_) I1,fun s' hs'=>?_⟩
   ·have k:=(I2 s' hs').1
    rw [F1]
    have k':((((wlk l s).foldl lookS (y,nx)).2:Nat):Int)≤((st.flatMap (wlk l)).foldl lookS ((wlk l s).foldl lookS (y,nx))).1.getD s' 0:=k
    omega
   ·rcases List.mem_cons.1 hs' with c | c
    ·subst c
     refine ⟨by rw [F1];exact Int.le_refl _,fun d hd hp=>?_⟩
     rw [F1]
     rcases MW.late d hd (hun d hd hp) with k | k
     ·exact absurd k ((MW.iff d hd).2 (.inr (.inl (List.mem_flatMap.2 ⟨s',List.mem_cons_self ..,(wlk_part hl he hs hd).2 hp⟩))))
     ·exact k.1
    ·obtain ⟨k1,k2⟩:=I2 s' c
     have k1':((((wlk l s).foldl lookS (y,nx)).2:Nat):Int)≤((st.flatMap (wlk l)).foldl lookS ((wlk l s).foldl lookS (y,nx))).1.getD s' 0:=k1
     exact ⟨by omega,k2⟩
end
end Go.Proofs.YtajjgpkahljjmaaGreatDoor
namespace Go.Proofs.YtajjgpkahljjmaaGreatDoor
set_option maxRecDepth 20000
structure Wrd (ks:List Nat) (tw f:Nat→Nat) (l:List Nat):Prop where
 P:Prg ks tw
 x0:NX ks tw 0
 x1:NX ks tw 1
 n0:0 < ks.length
 lt:∀ i,i < ks.length→f i < l.length
 inj:∀ i j,i < ks.length→j < ks.length→f i=f j→i=j
 mt:∀ i,i < ks.length→Go.Proofs.YtajjgpkahljjmaaGreatDoor.mt (f i)=f (tw i)
 sg:∀ i,i < ks.length→sgL l (f i)=f (nxS 0 ks tw i)
section
variable {ks:List Nat} {tw f:Nat→Nat} {l b:List Nat}
theorem Wrd.it (h:Wrd ks tw f l) {i:Nat} (hi:i < ks.length):∀ k,itf (nxS 0 ks tw) k i < ks.length∧itf (sgL l) k (f i)=f (itf (nxS 0 ks tw) k i)
 | 0=>⟨hi,rfl⟩
 | k+1=>by
   obtain ⟨h1,h2⟩:=h.it hi k
   exact ⟨nx_lt h.n0 _,by show sgL l _=f (nxS 0 ks tw _);rw [h2,h.sg _ h1]⟩
theorem Wrd.orb (h:Wrd ks tw f l) {i j:Nat} (hi:i < ks.length) (hj:j < ks.length):Orb (sgL l) (f i) (f j)↔ownP 0 ks tw i=ownP 0 ks tw j:=by
 rw [← own_orb h.P h.x0 h.n0 hi hj]
 constructor
 ·rintro ⟨k,e⟩
  obtain ⟨h1,h2⟩:=h.it hi k
  rw [h2] at e
  exact ⟨k,h.inj _ _ h1 hj e⟩
 ·rintro ⟨k,e⟩
  obtain ⟨h1,h2⟩:=h.it hi k
  exact ⟨k,by rw [h2,e]⟩
theorem kd2 (P:Prg ks tw) (i:Nat):ks.getD i 0 / 2=0∨ks.getD i 0 / 2=1:=by
 have:=P.kd.getD i;omega
theorem Wrd.phi (h:Wrd ks tw f l) {i:Nat} (hi:i < ks.length):sgL (phiL l) (f i)=f (nxS 1 ks tw i):=by
 rw [phi_at l (h.lt i hi),h.mt i hi,h.sg _ (h.P.lt i hi)]
 congr 1
 unfold nxS
 rw [h.P.sort i hi,h.P.tt i hi]
 rcases kd2 h.P i with e | e <;> rw [e] <;> simp
theorem Wrd.itp (h:Wrd ks tw f l) {i:Nat} (hi:i < ks.length):∀ k,itf (nxS 1 ks tw) k i < ks.length∧itf (sgL (phiL l)) k (f i)=f (itf (nxS 1 ks tw) k i)
 | 0=>⟨hi,rfl⟩
 | k+1=>by
   obtain ⟨h1,h2⟩:=h.itp hi k
   exact ⟨nx_lt h.n0 _,by show sgL (phiL l) _=f (nxS 1 ks tw _);rw [h2,h.phi h1]⟩
theorem Wrd.orbp (h:Wrd ks tw f l) {i j:Nat} (hi:i < ks.length) (hj:j < ks.length):Orb (sgL (phiL l)) (f i) (f j)↔ownP 1 ks tw i=ownP 1 ks tw j:=by
 rw [← own_orb h.P h.x1 h.n0 hi hj]
 constructor
 ·rintro ⟨k,e⟩
  obtain ⟨h1,h2⟩:=h.itp hi k
  rw [h2] at e
  exact ⟨k,h.inj _ _ h1 hj e⟩
 ·rintro ⟨k,e⟩
  obtain ⟨h1,h2⟩:=h.itp hi k
  exact ⟨k,by rw [h2,e]⟩
def ClS (s:Nat) (ks:List Nat) (tw:Nat→Nat) (i:Nat):Prop:=ks.getD i 0 / 2=s∧tw i < i
theorem cl_orbs (P:Prg ks tw) (n0:0 < ks.length) {s:Nat} (hX:NX ks tw s) {n:Nat} (hn:ks.length≤n) (hf:∀ i,i < ks.length→f i < n) {R:Nat→Nat→Prop} (E:Eqv n R)
  (hR:∀ i j,i < ks.length→j < ks.length→R (f i) (f j)→ownP s ks tw i=ownP s ks tw j) :
  num (ClS s ks tw) ks.length+1≤num (Least R) n:=by
 have h0:¬ ClS s ks tw 0:=fun h=>by have:=h.2;omega
 have e1:num (fun i=>i < ks.length∧(i=0∨ClS s ks tw i)) n=num (ClS s ks tw) ks.length+1:=by
  have a:∀ k,num (fun i=>i < ks.length∧(i=0∨ClS s ks tw i)) (ks.length+k)=num (fun i=>i=0∨ClS s ks tw i) ks.length:=fun k=>by
   induction k with
   | zero=>exact num_congr fun d hd=>⟨fun h=>h.2,fun h=>⟨hd,h⟩⟩
   | succ k ih=>rw [← Nat.add_assoc,(num_next _ _).2 (fun h=>by omega),ih]
  have b:∀ k,num (fun i=>i=0∨ClS s ks tw i) (k+1)=num (ClS s ks tw) (k+1)+1:=fun k=>by
   induction k with
   | zero=>rw [(num_next _ _).1 (Or.inl rfl),(num_next (ClS s ks tw) 0).2 h0];rfl
   | succ k ih =>
     by_cases c:ClS s ks tw (k+1)
     ·rw [(num_next _ _).1 (Or.inr c),(num_next (ClS s ks tw) (k+1)).1 c,ih]
     ·rw [(num_next _ _).2 (fun h=>h.elim (by omega) c),(num_next (ClS s ks tw) (k+1)).2 c,ih]
  obtain ⟨k,hk⟩:∃ k,n=ks.length+k:=⟨n - ks.length,by omega⟩
  rw [hk,a k]
  obtain ⟨m,hm⟩:∃ m,ks.length=m+1:=⟨ks.length - 1,by omega⟩
  rw [hm,b m]
 rw [← e1]
 refine num_inj (fun i=>rep R (f i)) (fun x hx ⟨hx1,_⟩=>?_) (fun x y hx hy ⟨hx1,ax⟩ ⟨hy1,ay⟩ e=>?_)
 ·obtain ⟨r1,r2,r3⟩:=rep_is E (hf x hx1)
  exact ⟨by have:=hf x hx1;omega,r3⟩
 ·obtain ⟨r1,r2,r3⟩:=rep_is E (hf x hx1)
  obtain ⟨q1,q2,q3⟩:=rep_is E (hf y hy1)
  have fx:=hf x hx1
  have fy:=hf y hy1
  have e':rep R (f x)=rep R (f y):=e
  rw [← e'] at q2
  have o:=hR x y hx1 hy1 (E.trans _ _ _ fx (by omega) fy (E.symm _ _ (by omega) fx r2) q2)
  rcases ax with rfl | ax
  ·rcases ay with rfl | ay
   ·rfl
   ·rw [ownP_zero,ownP_close P hX hy1 ay.1 ay.2] at o;cases o
  ·rcases ay with rfl | ay
   ·rw [ownP_zero,ownP_close P hX hx1 ax.1 ax.2] at o;cases o
   ·rw [ownP_close P hX hx1 ax.1 ax.2,ownP_close P hX hy1 ay.1 ay.2] at o
    have o:=Option.some.inj o
    rw [← P.tt x hx1,o,P.tt y hy1]
theorem cl_half (P:Prg ks tw):num (ClS 0 ks tw) ks.length+num (ClS 1 ks tw) ks.length=ks.length / 2:=by
 rw [num_or (fun e h1 h2=>by have:=h1.1;have:=h2.1;omega)]
 have e:num (fun i=>ClS 0 ks tw i∨ClS 1 ks tw i) ks.length=num (fun j=>¬ ks.getD j 0%2=0) ks.length:=num_congr fun i hi=>by
  have a:=P.opn i hi
  have ne:=P.ne i hi
  have k2:=kd2 P i
  unfold ClS
  constructor
  ·rintro (h | h) c <;> (have:=a.1 c;omega)
  ·intro c
   have:¬ i < tw i:=fun h=>c (a.2 h)
   rcases k2 with e | e
   ·exact .inl ⟨e,by omega⟩
   ·exact .inr ⟨e,by omega⟩
 rw [e]
 have h1:=opN_half P
 obtain ⟨h2,h3⟩:=opN_num ks ks.length
 omega
theorem Wrd.first (h:Wrd ks tw f l) (hi:Inv l b) (he:l.length%2=0):∀ i,i < ks.length→part l (f 0) (f i):=by
 have E:=part_eqv hi he
 intro i
 induction i with
 | zero=>intro h0;exact E.refl _ (h.lt 0 h0)
 | succ i ih =>
   intro h1
   have hi1:i < ks.length:=by omega
   have p:=ih hi1
   have l0:=h.lt 0 h.n0
   have li:=h.lt i hi1
   have key:∀ j,j < ks.length→part l (f i) (f j)→sgL l (f j)=f (i+1)→part l (f 0) (f (i+1)):=fun j hj q e=>by
    have lj:=h.lt j hj
    have l1:=h.lt (i+1) h1
    refine E.trans _ _ _ l0 lj l1 (E.trans _ _ _ l0 li lj p q) ?_
    show gk _ _ _ _
    exact gk_mono (sgL l) (Nat.zero_le _) ⟨1,e⟩
   rcases kd2 h.P i with c | c
   ·refine key (tw i) (h.P.lt i hi1) (by rw [← h.mt i hi1];exact part_mt hi he li) ?_
    rw [h.sg _ (h.P.lt i hi1)]
    unfold nxS
    rw [if_pos (by rw [h.P.sort i hi1];exact c),h.P.tt i hi1,Nat.mod_eq_of_lt h1]
   ·refine key i hi1 (E.refl _ li) ?_
    rw [h.sg _ hi1]
    unfold nxS
    rw [if_neg (by omega),Nat.mod_eq_of_lt h1]
theorem Wrd.plane (h:Wrd ks tw f l) (hi:Inv l b) (hn:l.length=ks.length) (h00:f 0=0) (hs:∀ d,d < l.length→∃ i,i < ks.length∧f i=d) :
  (∀ d,d < l.length→part l 0 d)∧pN l=1∧genusN l=0∧metB l=num (ClS 0 ks tw) ks.length+1∧metB (phiL l)=num (ClS 1 ks tw) ks.length+1:=by
 have he:l.length%2=0:=by have:=opN_half h.P;omega
 have n0:=h.n0
 have hp:∀ d,d < l.length→part l 0 d:=fun d hd=>by
  obtain ⟨i,hi1,rfl⟩:=hs d hd
  have:=h.first hi he i hi1
  rwa [h00] at this
 obtain ⟨h1,h2⟩:=one_part hi he (by omega) hp
 have hq:=phi_inv hi he
 have ll:∀ {l b:List Nat},Inv l b→num (Least (Orb (sgL l))) l.length=metB l:=fun {l b} hi=>by
  rw [← num_leads hi]
  exact num_congr fun d hd=>(leads_least hi (by omega)).symm
 have v:=cl_orbs h.P n0 h.x0 (n:=l.length) (by omega) h.lt (sgL_pf hi).eqv (fun i j hi hj o=>(h.orb hi hj).1 o)
 have v2:=cl_orbs h.P n0 h.x1 (n:=(phiL l).length) (by rw [phiL_len];omega) (fun i hi=>by rw [phiL_len];exact h.lt i hi) (sgL_pf hq).eqv (fun i j hi hj o=>(h.orbp hi hj).1 o)
 rw [ll hi] at v
 rw [ll hq] at v2
 have hh:=cl_half h.P
 have hg:¬ genusN l < 0→genusN l=0:=fun _=>by omega
 refine ⟨hp,h1,?_,?_,?_⟩ <;> omega
end
end Go.Proofs.YtajjgpkahljjmaaGreatDoor
namespace Go.Proofs.YtajjgpkahljjmaaGreatDoor
set_option maxRecDepth 20000
def RightW (ks:List Nat) (tw:Nat→Nat):Prop:=∀ i,i < ks.length→ks.getD i 0=2→∀ o,ownP 0 ks tw (tw i)=some o→o < i
theorem half_mt {a b:Nat} (h:a / 2=b / 2):a=b∨a=mt b:=by
 unfold mt;split <;> omega
section
variable {ks:List Nat} {tw f:Nat→Nat} {l b:List Nat} {m V:Nat}
theorem k_ev (P:Prg ks tw) {j:Nat} (hj:j < ks.length):(ks.getD j 0=0↔ks.getD j 0 / 2=0∧j < tw j)∧(ks.getD j 0=1↔ks.getD j 0 / 2=0∧tw j < j)∧(ks.getD j 0=2↔ks.getD j 0 / 2=1∧j < tw j)∧(ks.getD j 0=3↔ks.getD j 0 / 2=1∧tw j < j):=by
 have a:=P.opn j hj
 have ne:=P.ne j hj
 have k2:=P.kd.getD j
 have:ks.getD j 0%2=0∨ks.getD j 0%2=1:=by omega
 rcases this with c | c
 ·have:=a.1 c
  refine ⟨⟨fun h=>?_,fun h=>?_⟩,⟨fun h=>?_,fun h=>?_⟩,⟨fun h=>?_,fun h=>?_⟩,⟨fun h=>?_,fun h=>?_⟩⟩ <;> omega
 ·have:¬ j < tw j:=fun h=>by have:=a.2 h;omega
  refine ⟨⟨fun h=>?_,fun h=>?_⟩,⟨fun h=>?_,fun h=>?_⟩,⟨fun h=>?_,fun h=>?_⟩,⟨fun h=>?_,fun h=>?_⟩⟩ <;> omega
theorem Wrd.met (h:Wrd ks tw f l) (hi:Inv l b) (he:l.length=2*m) (hV:∀ x,x < l.length→nameOf l x < V) :
  ∀ j,j≤ks.length→(∀ i,i < j→(wrun (sgL l) (nameOf l) m V (f 0) i).d=f i∧(wrun (sgL l) (nameOf l) m V (f 0) i).k (nameOf l)=ks.getD i 0) →
  ∀ i,i < ks.length→((wrun (sgL l) (nameOf l) m V (f 0) j).M.getD (nameOf l (f i)) false=true↔(ownP 0 ks tw i=none∨∃ o,ownP 0 ks tw i=some o∧o < j)):=by
 have hs:=sgL_pf hi
 have f0:=h.lt 0 h.n0
 intro j
 induction j with
 | zero =>
   intro _ _ i hi1
   show ((List.replicate V false).set (nameOf l (f 0)) true).getD (nameOf l (f i)) false=true↔_
   rw [getB_set _ _ _ _ (by rw [List.length_replicate];exact hV _ f0)]
   have o:=h.orb hi1 h.n0
   rw [← one_nm hi _ _ (h.lt i hi1) f0,ownP_zero] at o
   by_cases c:nameOf l (f i)=nameOf l (f 0)
   ·rw [if_pos c];exact ⟨fun _=>.inl (o.1 c),fun _=>rfl⟩
   ·rw [if_neg c]
    constructor
    ·intro q
     rw [List.getD_eq_getElem?_getD,List.getElem?_replicate] at q
     split at q <;> simp at q
    ·rintro (q | ⟨o',_,q⟩)
     ·exact absurd (o.2 q) c
     ·omega
 | succ j ih =>
   intro hj hw i hi1
   have hj':j < ks.length:=by omega
   have IH:=ih (by omega) (fun i hi=>hw i (by omega)) i hi1
   obtain ⟨e1,e2⟩:=hw j (by omega)
   have W:=wok hs he (one_nm hi) hV f0 j
   show (wM1 (nameOf l) (wrun (sgL l) (nameOf l) m V (f 0) j).M (wrun (sgL l) (nameOf l) m V (f 0) j).d ((wrun (sgL l) (nameOf l) m V (f 0) j).k (nameOf l))).getD (nameOf l (f i)) false=true↔_
   rw [e1,e2]
   unfold wM1
   obtain ⟨K0,_⟩:=k_ev h.P hj'
   by_cases c:ks.getD j 0=0
   ·rw [if_pos c,h.mt j hj']
    obtain ⟨s0,oj⟩:=K0.1 c
    have ht:=h.P.lt j hj'
    have oc:=ownP_close h.P h.x0 ht (by rw [h.P.sort j hj'];exact s0) (by rw [h.P.tt j hj'];exact oj)
    rw [h.P.tt j hj'] at oc
    rw [getB_set _ _ _ _ (by rw [W.ml];exact hV _ (h.lt _ ht))]
    have o:=h.orb hi1 ht
    rw [← one_nm hi _ _ (h.lt i hi1) (h.lt _ ht),oc] at o
    by_cases d:nameOf l (f i)=nameOf l (f (tw j))
    ·rw [if_pos d]
     exact ⟨fun _=>.inr ⟨j,o.1 d,by omega⟩,fun _=>rfl⟩
    ·rw [if_neg d,IH]
     constructor
     ·rintro (q | ⟨o',q,q2⟩)
      ·exact .inl q
      ·exact .inr ⟨o',q,by omega⟩
     ·rintro (q | ⟨o',q,q2⟩)
      ·exact .inl q
      ·refine .inr ⟨o',q,?_⟩
       have:o'≠j:=fun e=>d (o.2 (by rw [← e];exact q))
       omega
   ·rw [if_neg c,IH]
    constructor
    ·rintro (q | ⟨o',q,q2⟩)
     ·exact .inl q
     ·exact .inr ⟨o',q,by omega⟩
    ·rintro (q | ⟨o',q,q2⟩)
     ·exact .inl q
     ·refine .inr ⟨o',q,?_⟩
      have hm:=ownP_mem q
      have:o'≠j:=fun e=>c (K0.2 ⟨by rw [← e];exact hm.2.1,by rw [← e];exact hm.2.2.1⟩)
      omega
theorem Wrd.isR (h:Wrd ks tw f l) (hi:Inv l b) (he:l.length=2*m) (hV:∀ x,x < l.length→nameOf l x < V)
  (hw:∀ i,i < ks.length→(wrun (sgL l) (nameOf l) m V (f 0) i).d=f i∧(wrun (sgL l) (nameOf l) m V (f 0) i).k (nameOf l)=ks.getD i 0):RightW ks tw:=by
 intro i hi1 h2 o ho
 obtain ⟨e1,e2⟩:=hw i hi1
 have M:=h.met hi he hV i (by omega) (fun j hj=>hw j (by omega)) (tw i) (h.P.lt i hi1)
 rcases WS.kinds (nm:=nameOf l) (wrun (sgL l) (nameOf l) m V (f 0) i) with ⟨k,_⟩ | ⟨k,_⟩ | ⟨k,_,_,q⟩ | ⟨k,_⟩
 ·omega
 ·omega
 ·rw [e1,h.mt i hi1] at q
  rcases M.1 q with c | ⟨o',c,d⟩
  ·rw [ho] at c;cases c
  ·rw [ho] at c;cases c;exact d
 ·omega
theorem Wrd.walk (h:Wrd ks tw f l) (hi:Inv l b) (he:l.length=2*m) (hV:∀ x,x < l.length→nameOf l x < V) (hR:RightW ks tw) :
  ∀ j,j≤ks.length→(∀ i,i < j→(wrun (sgL l) (nameOf l) m V (f 0) i).d=f i∧(wrun (sgL l) (nameOf l) m V (f 0) i).k (nameOf l)=ks.getD i 0) ∧
   (wrun (sgL l) (nameOf l) m V (f 0) j).d=f (j%ks.length) ∧
   ∀ i,i < ks.length→(wrun (sgL l) (nameOf l) m V (f 0) j).K.getD (f i / 2) 0=if i < j∨tw i < j then ((2*(ks.getD i 0 / 2):Nat):Int) else -1:=by
 have hs:=sgL_pf hi
 have f0:=h.lt 0 h.n0
 intro j
 induction j with
 | zero =>
   intro _
   refine ⟨fun i hi=>by omega,by rw [Nat.zero_mod];rfl,fun i hi1=>?_⟩
   show (List.replicate m (-1:Int)).getD (f i / 2) 0=_
   have:=h.lt i hi1
   rw [if_neg (by omega),List.getD_eq_getElem?_getD,List.getElem?_replicate,if_pos (by omega)];rfl
 | succ j ih =>
   intro hj
   have hj':j < ks.length:=by omega
   obtain ⟨h1,h2,h3⟩:=ih (by omega)
   rw [Nat.mod_eq_of_lt hj'] at h2
   have ht:=h.P.lt j hj'
   have M:=h.met hi he hV j (by omega) h1 (tw j) ht
   have W:=wok hs he (one_nm hi) hV f0 j
   have K:=k_ev h.P hj'
   have hkk:=h3 j hj'
   have ne:=h.P.ne j hj'
   have kd:=kd2 h.P j
   have hk:(wrun (sgL l) (nameOf l) m V (f 0) j).k (nameOf l)=ks.getD j 0:=by
    show wKd _ _ _ _=_
    rw [h2]
    unfold wKd
    rw [h.mt j hj']
    by_cases c:tw j < j
    ·rw [if_pos (.inr c)] at hkk
     rcases kd with d | d
     ·rw [d] at hkk
      rw [if_pos (by rw [hkk];rfl)];exact (K.2.1.2 ⟨d,c⟩).symm
     ·rw [d] at hkk
      rw [if_neg (by rw [hkk];decide),if_pos (by rw [hkk];rfl)];exact (K.2.2.2.2 ⟨d,c⟩).symm
    ·rw [if_neg (by omega)] at hkk
     rw [if_neg (by rw [hkk];decide),if_neg (by rw [hkk];decide)]
     rcases kd with d | d
     ·have oc:=ownP_close h.P h.x0 ht (by rw [h.P.sort j hj'];exact d) (by rw [h.P.tt j hj'];omega)
      rw [h.P.tt j hj'] at oc
      rw [if_neg (fun q=>by
       rcases M.1 q with e | ⟨o,e,e2⟩
       ·rw [oc] at e;cases e
       ·rw [oc] at e;have:=Option.some.inj e;omega)]
      exact (K.1.2 ⟨d,by omega⟩).symm
     ·have k2:=K.2.2.1.2 ⟨d,by omega⟩
      have:(wrun (sgL l) (nameOf l) m V (f 0) j).M.getD (nameOf l (f (tw j))) false=true:=M.2 (by
       cases e:ownP 0 ks tw (tw j) with
       | none=>exact .inl rfl
       | some o=>exact .inr ⟨o,rfl,hR j hj' k2 o e⟩)
      rw [if_pos this];exact k2.symm
   refine ⟨fun i hi1=>?_,?_,fun i hi1=>?_⟩
   ·by_cases c:i=j
    ·subst c;exact ⟨h2,hk⟩
    ·exact h1 i (by omega)
   ·show wNx _ _ _=_
    unfold wNx
    rw [hk,h2]
    rcases kd with d | d
    ·rw [if_pos (by omega),h.mt j hj',h.sg _ ht]
     unfold nxS
     rw [if_pos (by rw [h.P.sort j hj'];exact d),h.P.tt j hj']
    ·rw [if_neg (by omega),h.sg _ hj']
     unfold nxS
     rw [if_neg (by omega)]
   ·show (wK1 _ _ _).getD _ _=_
    unfold wK1
    rw [hk,h2]
    have hti:=h.P.tt i hi1
    have eq:f i / 2=f j / 2→i=j∨i=tw j:=fun e=>by
     rcases half_mt e with q | q
     ·exact .inl (h.inj _ _ hi1 hj' q)
     ·rw [h.mt j hj'] at q;exact .inr (h.inj _ _ hi1 ht q)
    by_cases c:ks.getD j 0%2=0
    ·rw [if_pos c,getI_set _ _ _ _ (by rw [W.kl];have:=h.lt j hj';omega)]
     by_cases d:f i / 2=f j / 2
     ·rw [if_pos d]
      rcases eq d with e | e
      ·subst e;rw [if_pos (by omega)];congr 1;omega
      ·rw [e,h.P.tt j hj',if_pos (by omega),h.P.sort j hj'];congr 1;omega
     ·rw [if_neg d,h3 i hi1]
      have n1:i≠j:=fun e=>d (by rw [e])
      have n2:tw i≠j:=fun e=>d (by rw [← e,← h.mt i hi1,mt_half])
      by_cases q:i < j∨tw i < j
      ·rw [if_pos q,if_pos (by omega)]
      ·rw [if_neg q,if_neg (by omega)]
    ·rw [if_neg c,h3 i hi1]
     have cj:tw j < j:=by
      have:=(h.P.opn j hj').2
      omega
     by_cases q:i < j∨tw i < j
     ·rw [if_pos q,if_pos (by omega)]
     ·have n1:i≠j:=fun e=>q (.inr (by rw [e];exact cj))
      have n2:tw i≠j:=fun e=>q (.inl (by rw [← hti,e];exact cj))
      rw [if_neg q,if_neg (by omega)]
theorem Wrd.wN (h:Wrd ks tw f l) (hi:Inv l b) (he:l.length=2*m) (hV:∀ x,x < l.length→nameOf l x < V) (hl:l.length=ks.length)
  (hw:∀ i,i < ks.length→(wrun (sgL l) (nameOf l) m V (f 0) i).d=f i):Go.Proofs.YtajjgpkahljjmaaGreatDoor.wN (sgL l) (nameOf l) m V (f 0)=ks.length:=by
 obtain ⟨a,b',c,d⟩:=wN_is (sgL_pf hi) he (one_nm hi) hV (h.lt 0 h.n0)
 rcases Nat.lt_or_ge (Go.Proofs.YtajjgpkahljjmaaGreatDoor.wN (sgL l) (nameOf l) m V (f 0)) ks.length with e | e
 ·rw [hw _ e] at c
  have:=h.inj _ _ e h.n0 c
  omega
 ·omega
end
end Go.Proofs.YtajjgpkahljjmaaGreatDoor
namespace Go.Proofs.YtajjgpkahljjmaaGreatDoor
set_option maxRecDepth 20000
theorem add1_p (g:Nat) (l:List Nat) (A:Option Addr) (b:Nat) (w:World) (hv:VecAt w g (val l) l.length A) (hb:b < 2) (hn:l.length+65≤1000000) :
  Calls Tryz.prog 144 #[.pointer (some ⟨g,0,none⟩),.slice (some ⟨w.heap.size,0,none⟩) 1 1] (w.alloc (.cells #[.int .i64 (b:Int)] 3)) fun e w' =>
   e=.returned (.tuple #[])∧∃ A',VecAt w' g (val (l++[b])) (l++[b]).length A'∧Mod (foot g A) w w'∧(A'=A∨∃ b,A'=some ⟨b,0,none⟩∧w.heap.size≤b):=by
 have hvA:=VecB.below hv ((Below.refl w.heap.size w).alloc (Nat.le_refl _) (.cells #[.int .i64 (b:Int)] 3))
 have r5:=Rd.new w 3 #[.int .i64 (b:Int)] 1 (I64 [(b:Int)]) (by simp [I64]) (by simp)
 refine (add_p g l A (some ⟨w.heap.size,0,none⟩) 1 1 [(b:Int)] _ hvA (r5.up (by simp)) (fun i hi hf=>by
    obtain ⟨a,e,rfl⟩:=hi
    cases e
    exact absurd (VecB.foot_lt hv hf) (Nat.lt_irrefl _)) (by omega)).mono ?_
 rintro e w' ⟨rfl,A',h1,m,h2⟩
 have hb1:[(b:Int)].map bit1=[b]:=by
  have:=bit1_ofN (l:=[b]) (fun x hx=>by rw [List.mem_singleton.1 hx];exact hb)
  simpa [ofNB] using this
 rw [hb1] at h1
 refine ⟨rfl,A',h1,⟨m.os,m.tape,m.output,Nat.le_trans (by simp) m.size,fun k hk hn=>?_⟩,?_⟩
 ·exact (m.block k (by simp;omega) hn).trans (Below.heap_alloc _ _ _ hk)
 ·rcases h2 with rfl | ⟨b',rfl,hb'⟩
  ·exact .inl rfl
  ·exact .inr ⟨b',rfl,Nat.le_trans (by simp) hb'⟩
def VecS (w:World) (S:Nat→Prop) (g:Nat) (l:List Nat):Prop:=∃ A,VecAt w g (val l) l.length A∧∀ i,foot g A i→S i
theorem VecS.mod {w w':World} {S T:Nat→Prop} {g:Nat} {l:List Nat} (h:VecS w S g l) (m:Mod T w w') (hs:∀ i,S i→¬ T i):VecS w' S g l:=by
 obtain ⟨A,hv,sf⟩:=h
 exact ⟨A,hv.mod m (fun i hi=>hs i (sf i hi)),sf⟩
theorem VecS.below {w w':World} {S:Nat→Prop} {g:Nat} {l:List Nat} (h:VecS w S g l) (m:Below w.heap.size w w'):VecS w' S g l:=by
 obtain ⟨A,hv,sf⟩:=h
 exact ⟨A,VecB.below hv m,sf⟩
theorem addS_p (g:Nat) (S:Nat→Prop) (l:List Nat) (b:Nat) (w:World) (hv:VecS w S g l) (hS:∀ i,w.heap.size≤i→S i) (hb:b < 2) (hn:l.length+65≤1000000) :
  Calls Tryz.prog 144 #[.pointer (some ⟨g,0,none⟩),.slice (some ⟨w.heap.size,0,none⟩) 1 1] (w.alloc (.cells #[.int .i64 (b:Int)] 3)) fun e w' =>
   e=.returned (.tuple #[])∧VecS w' S g (l++[b])∧Mod S w w':=by
 obtain ⟨A,h1,sf⟩:=hv
 refine (add1_p g l A b w h1 hb hn).mono ?_
 rintro e w' ⟨rfl,A',h2,m,ha⟩
 refine ⟨rfl,⟨A',h2,?_⟩,m.mono fun i _ hi=>sf i hi⟩
 rintro i (rfl | ⟨b',rfl,rfl⟩)
 ·exact sf _ (.inl rfl)
 ·rcases ha with e | ⟨b2,e,h⟩
  ·exact sf _ (.inr ⟨_,e.symm,rfl⟩)
  ·cases e;exact hS _ h
end Go.Proofs.YtajjgpkahljjmaaGreatDoor
