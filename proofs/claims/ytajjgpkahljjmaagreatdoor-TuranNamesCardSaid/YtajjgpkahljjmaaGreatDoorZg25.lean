/- The darts alike to one. -/
import Derived.Test.YtajjgpkahljjmaaGreatDoorZg24
import Derived.Test.YtajjgpkahljjmaaGreatDoorZg1
import Derived.Test.YtajjgpkahljjmaaGreatDoorZg22
import Derived.BigRegion
import Derived.Test.YtajjgpkahljjmaaGreatDoorZPNames
import Derived.Deep.CutRange
import Derived.Deep.RegionWith
import Derived.Deep.RegionHeld3
import Derived.Test.YtajjgpkahljjmaaGreatDoorZEPartsW
import Derived.Test.YtajjgpkahljjmaaGreatDoorZg3
import Derived.Test.YtajjgpkahljjmaaGreatDoorZg23
import Derived.Test.YtajjgpkahljjmaaGreatDoorZg20
import Derived.Test.YtajjgpkahljjmaaGreatDoorZg21
import Derived.Test.YtajjgpkahljjmaaGreatDoorZg5
import Derived.Test.YtajjgpkahljjmaaGreatDoorZg12
import Derived.Test.YtajjgpkahljjmaaGreatDoorZg9
import Derived.Test.YtajjgpkahljjmaaGreatDoorZg7
import Derived.BigQuiet
open Go.RowKit
set_option linter.unusedVariables false
set_option linter.unusedSimpArgs false
namespace Go.Proofs.YtajjgpkahljjmaaGreatDoor
set_option maxRecDepth 100000
section
variable {l b:List Nat}
end
end Go.Proofs.YtajjgpkahljjmaaGreatDoor
namespace Go.Proofs.YtajjgpkahljjmaaGreatDoor
set_option maxRecDepth 20000
inductive Rch (ts:List (List Nat)) (d:Nat):Nat→Prop
 | refl:Rch ts d d
 | step {x:Nat} {t:List Nat}:Rch ts d x→t∈ts→Rch ts d (sgL t x)
theorem Rch.mono {ts ts':List (List Nat)} (hs:∀ t∈ts,t∈ts') {d x:Nat} (h:Rch ts d x):Rch ts' d x:=by
 induction h with
 | refl=>exact .refl
 | step _ ht ih=>exact .step ih (hs _ ht)
theorem Rch.lt {n:Nat} {ts:List (List Nat)} (ht:∀ t∈ts,∀ x,x < n→sgL t x < n) {d x:Nat} (hd:d < n) (h:Rch ts d x):x < n:=by
 induction h with
 | refl=>exact hd
 | step _ h1 ih=>exact ht _ h1 _ ih
structure Rc (n T d:Nat) (ts:List (List Nat)) (told0 Q told:List Nat) (i j:Nat):Prop where
 nd:Q.Nodup
 lt:∀ x∈Q,x < n
 hd:d∈Q
 rch:∀ x∈Q,Rch ts d x
 tl:told.length=n
 tv:∀ x,x < n→told.getD x 0=if x∈Q then T else told0.getD x 0
 cl:∀ k,k < i→∀ t∈ts,sgL t (Q.getD k 0)∈Q
 cj:∀ k,k < j→sgL (ts.getD k []) (Q.getD i 0)∈Q
theorem getD_left (Q:List Nat) (x k:Nat) (h:k < Q.length):(Q++[x]).getD k 0=Q.getD k 0:=by
 rw [List.getD_eq_getElem?_getD,List.getElem?_append_left h,← List.getD_eq_getElem?_getD]
section
variable {n T d:Nat} {ts:List (List Nat)} {told0 Q told:List Nat} {i j:Nat}
theorem Rc.start (hd:d < n) (hl:told0.length=n):Rc n T d ts told0 [d] (told0.set d T) 0 0 :=
 ⟨by simp,fun x hx=>by rw [List.mem_singleton] at hx;omega,by simp,fun x hx=>by rw [List.mem_singleton] at hx;rw [hx];exact .refl,by simpa using hl,fun x hx=>by
  rw [getDN_set _ _ _ _ (by rw [hl];exact hd)]
  simp only [List.mem_singleton],fun k hk=>absurd hk (by omega),fun k hk=>absurd hk (by omega)⟩
theorem Rc.old (h:Rc n T d ts told0 Q told i j) (h0:∀ x,x < n→told0.getD x 0≠T) {y:Nat} (hy:y=sgL (ts.getD j []) (Q.getD i 0)) (hyn:y < n) (ht:told.getD y 0=T):Rc n T d ts told0 Q told i (j+1):=by
 have hm:y∈Q:=by
  have:=h.tv y hyn
  rw [ht] at this
  by_cases c:y∈Q
  ·exact c
  ·rw [if_neg c] at this;exact absurd this.symm (h0 y hyn)
 refine ⟨h.nd,h.lt,h.hd,h.rch,h.tl,h.tv,h.cl,fun k hk=>?_⟩
 by_cases e:k=j
 ·rw [e,← hy];exact hm
 ·exact h.cj k (by omega)
theorem Rc.new (h:Rc n T d ts told0 Q told i j) {y:Nat} (hi:i < Q.length) (hj:j < ts.length) (hy:y=sgL (ts.getD j []) (Q.getD i 0)) (hyn:y < n) (ht:told.getD y 0≠T):Rc n T d ts told0 (Q++[y]) (told.set y T) i (j+1):=by
 have hm:y ∉ Q:=fun c=>ht (by rw [h.tv y hyn,if_pos c])
 have htj:ts.getD j []∈ts:=by rw [List.getD_eq_getElem?_getD,List.getElem?_eq_getElem hj];exact List.getElem_mem hj
 have hqi:Q.getD i 0∈Q:=getD_orb_mem hi
 refine ⟨List.nodup_append.2 ⟨h.nd,by simp,fun a ha b hb=>by rw [List.mem_singleton] at hb;rw [hb];exact fun e=>hm (by rw [← e];exact ha)⟩,fun x hx=>?_,List.mem_append_left _ h.hd,fun x hx=>?_,by rw [List.length_set];exact h.tl,fun x hx=>?_,fun k hk t ht'=>?_,fun k hk=>?_⟩
 ·rcases List.mem_append.1 hx with q | q
  ·exact h.lt x q
  ·rw [List.mem_singleton] at q;omega
 ·rcases List.mem_append.1 hx with q | q
  ·exact h.rch x q
  ·rw [List.mem_singleton] at q;rw [q,hy];exact .step (h.rch _ hqi) htj
 ·rw [getDN_set _ _ _ _ (by rw [h.tl];exact hyn)]
  by_cases e:x=y
  ·rw [if_pos e,if_pos (by rw [e];simp)]
  ·rw [if_neg e,h.tv x hx]
   have:x∈Q++[y]↔x∈Q:=by simp [e]
   by_cases c:x∈Q
   ·rw [if_pos c,if_pos (this.2 c)]
   ·rw [if_neg c,if_neg (fun w=>c (this.1 w))]
 ·rw [getD_left _ _ _ (by omega)]
  exact List.mem_append_left _ (h.cl k hk t ht')
 ·rw [getD_left _ _ _ hi]
  by_cases e:k=j
  ·rw [e,← hy];simp
  ·exact List.mem_append_left _ (h.cj k (by omega))
theorem Rc.next (h:Rc n T d ts told0 Q told i ts.length) (hi:i < Q.length):Rc n T d ts told0 Q told (i+1) 0 :=
 ⟨h.nd,h.lt,h.hd,h.rch,h.tl,h.tv,fun k hk t ht=>by
  by_cases e:k=i
  ·obtain ⟨j,hj,rfl⟩:=List.getElem_of_mem ht
   have:=h.cj j hj
   rw [List.getD_eq_getElem?_getD,List.getElem?_eq_getElem hj] at this
   rw [e];exact this
  ·exact h.cl k (by omega) t ht,fun k hk=>absurd hk (by omega)⟩
theorem Rc.done (h:Rc n T d ts told0 Q told Q.length 0):∀ x,x∈Q↔Rch ts d x:=fun x=>⟨h.rch x,fun r=>by
 induction r with
 | refl=>exact h.hd
 | step _ ht ih =>
   obtain ⟨k,hk,rfl⟩:=mem_getD ih
   exact h.cl k hk _ ht⟩
end
theorem num_mem {n:Nat}:∀ {Q:List Nat},Q.Nodup→(∀ x∈Q,x < n)→num (fun x=>x∈Q) n=Q.length
 | [],_,_=>num_zero fun d _ c=>by simp at c
 | a :: Q,nd,lt=>by
   obtain ⟨h1,h2⟩:=List.nodup_cons.1 nd
   have ih:=num_mem h2 (fun x hx=>lt x (List.mem_cons_of_mem _ hx))
   have ha:a < n:=lt a (by simp)
   have e1:num (fun x=>x=a) n=1:=by
    have:∀ k,num (fun x=>x=a) k=if a < k then 1 else 0:=fun k=>by
     induction k with
     | zero=>rfl
     | succ k ih =>
       by_cases c:k=a
       ·rw [(num_next (fun x=>x=a) k).1 c,ih,if_neg (by omega),if_pos (by omega)]
       ·rw [(num_next (fun x=>x=a) k).2 c,ih]
        by_cases c2:a < k
        ·rw [if_pos c2,if_pos (by omega)]
        ·rw [if_neg c2,if_neg (by omega)]
    rw [this,if_pos ha]
   rw [List.length_cons,← ih,Nat.add_comm,← e1,cnum_or (P:=fun x=>x=a) (Q:=fun x=>x∈Q) (fun e h3 h4=>h1 (by rw [← h3];exact h4))]
   exact num_congr fun d _=>by simp
def IsT (l t:List Nat):Prop:=∃ q,Nam l.length t q∧cjL t q l=l
theorem IsT.lt {l t:List Nat} (h:IsT l t) {x:Nat} (hx:x < l.length):sgL t x < l.length:=by obtain ⟨q,h,_⟩:=h;exact h.lt hx
theorem IsT.to {l t:List Nat} (h:IsT l t) (x:Nat):TurnsTo l x (sgL t x):=by
 obtain ⟨q,h1,h2⟩:=h
 exact ⟨t,q,h1,h2,rfl⟩
theorem rch_turns {l b:List Nat} (hl:Inv l b) (he:l.length%2=0) {ts:List (List Nat)} (ht:∀ t∈ts,IsT l t) {d x:Nat} (hd:d < l.length) (h:Rch ts d x):x < l.length∧TurnsTo l d x:=by
 induction h with
 | refl=>exact ⟨hd,(turns_eqv hl he).refl d hd⟩
 | step _ h1 ih=>exact ⟨(ht _ h1).lt ih.1,(turns_eqv hl he).trans _ _ _ hd ih.1 ((ht _ h1).lt ih.1) ih.2 ((ht _ h1).to _)⟩
def stp (l:List Nat) (j x:Nat):Nat:=if j=0 then sgL l x else mt x
theorem stp_lt {l b:List Nat} (hl:Inv l b) (he:l.length%2=0) (j:Nat) {x:Nat} (hx:x < l.length):stp l j x < l.length:=by
 unfold stp;split
 ·exact hl.lt x hx
 ·exact mt_in he hx
structure Tn (l:List Nat) (r e:Nat) (Q:List Nat) (img:List Int) (i j:Nat) (ok:Bool):Prop where
 nd:Q.Nodup
 lt:∀ x∈Q,x < l.length
 il:img.length=l.length
 hr:r∈Q
 st:∀ x,x < l.length→(x∈Q↔img.getD x 0≠-1)
 vl:∀ x∈Q,∃ y:Nat,y < l.length∧img.getD x 0=(y:Int)
 rt:img.getD r 0=(e:Int)
 ag:∀ p q,Trn l l r e p q→∀ x∈Q,img.getD x 0=((sgL p x:Nat):Int)
 oc:ok=true→∀ k,k < i→∀ s,s < 2→∃ y:Nat,img.getD (Q.getD k 0) 0=(y:Int)∧img.getD (stp l s (Q.getD k 0)) 0=((stp l s y:Nat):Int)
 oj:ok=true→∀ s,s < j→∃ y:Nat,img.getD (Q.getD i 0) 0=(y:Int)∧img.getD (stp l s (Q.getD i 0)) 0=((stp l s y:Nat):Int)
 bad:ok=false→¬ TurnsTo l r e
section
variable {l b:List Nat} {r e:Nat} {Q:List Nat} {img:List Int} {i j:Nat} {ok:Bool}
theorem Tn.start (hr:r < l.length) (he:e < l.length):Tn l r e [r] ((List.replicate l.length (-1)).set r (e:Int)) 0 0 true:=by
 have g:∀ x,x < l.length→((List.replicate l.length (-1:Int)).set r (e:Int)).getD x 0=if x=r then (e:Int) else -1:=fun x hx=>by
  rw [getDI_set _ _ _ _ (by simpa using hr)]
  split
  ·rfl
  ·rw [List.getD_eq_getElem?_getD,List.getElem?_replicate,if_pos hx];rfl
 refine ⟨by simp,fun x hx=>by rw [List.mem_singleton] at hx;omega,by simp,by simp,fun x hx=>?_,fun x hx=>?_,by rw [g r hr,if_pos rfl],fun p q t x hx=>?_,fun _ k hk=>absurd hk (by omega),fun _ s hs=>absurd hs (by omega),fun c=>by cases c⟩
 ·rw [g x hx,List.mem_singleton]
  by_cases c:x=r
  ·rw [if_pos c];exact ⟨fun _=>by omega,fun _=>c⟩
  ·rw [if_neg c];exact ⟨fun q=>absurd q c,fun q=>absurd rfl q⟩
 ·rw [List.mem_singleton] at hx
  exact ⟨e,he,by rw [hx,g r hr,if_pos rfl]⟩
 ·rw [List.mem_singleton] at hx
  rw [hx,g r hr,if_pos rfl,t.root]
theorem trn_stp {p q:List Nat} (t:Trn l l r e p q) (s:Nat) {x:Nat} (hx:x < l.length):sgL p (stp l s x)=stp l s (sgL p x):=by
 have:=t.map x hx
 unfold stp
 split
 ·exact this.1
 ·exact this.2
theorem Tn.new (hl:Inv l b) (he:l.length%2=0) (h:Tn l r e Q img i j ok) (hi:i < Q.length) {f y:Nat} (hf:f < l.length) (hfi:img.getD (Q.getD i 0) 0=(f:Int)) (hy:y=stp l j (Q.getD i 0)) (hu:img.getD y 0=-1) :
  Tn l r e (Q++[y]) (img.set y ((stp l j f:Nat):Int)) i (j+1) ok:=by
 have hqi:Q.getD i 0∈Q:=getD_orb_mem hi
 have hyn:y < l.length:=by rw [hy];exact stp_lt hl he j (h.lt _ hqi)
 have hyQ:y ∉ Q:=fun c=>((h.st y hyn).1 c) hu
 have g:∀ x,(img.set y ((stp l j f:Nat):Int)).getD x 0=if x=y then ((stp l j f:Nat):Int) else img.getD x 0:=fun x=>getDI_set _ _ _ _ (by rw [h.il];exact hyn)
 have gQ:∀ x,x∈Q→(img.set y ((stp l j f:Nat):Int)).getD x 0=img.getD x 0:=fun x hx=>by rw [g,if_neg (fun c=>hyQ (by rw [← c];exact hx))]
 have gS:∀ x (z:Nat),img.getD x 0=(z:Int)→(img.set y ((stp l j f:Nat):Int)).getD x 0=(z:Int):=fun x z hz=>by
  rw [g]
  by_cases c:x=y
  ·rw [c,hu] at hz;omega
  ·rw [if_neg c,hz]
 refine ⟨List.nodup_append.2 ⟨h.nd,by simp,fun a ha b hb=>by rw [List.mem_singleton] at hb;rw [hb];exact fun e=>hyQ (by rw [← e];exact ha)⟩,fun x hx=>?_,by rw [List.length_set];exact h.il,List.mem_append_left _ h.hr,fun x hx=>?_,fun x hx=>?_,gS r e h.rt,fun p q t x hx=>?_,fun ho k hk s hs=>?_,fun ho s hs=>?_,h.bad⟩
 ·rcases List.mem_append.1 hx with q | q
  ·exact h.lt x q
  ·rw [List.mem_singleton] at q;omega
 ·rw [g,List.mem_append,List.mem_singleton]
  by_cases c:x=y
  ·rw [if_pos c];exact ⟨fun _=>by omega,fun _=>.inr c⟩
  ·rw [if_neg c];exact ⟨fun q=>(h.st x hx).1 (q.elim id fun q=>absurd q c),fun q=>.inl ((h.st x hx).2 q)⟩
 ·rcases List.mem_append.1 hx with q | q
  ·obtain ⟨z,h1,h2⟩:=h.vl x q
   exact ⟨z,h1,gS x z h2⟩
  ·rw [List.mem_singleton] at q
   exact ⟨stp l j f,stp_lt hl he j hf,by rw [q,g,if_pos rfl]⟩
 ·rcases List.mem_append.1 hx with w | w
  ·rw [gQ x w];exact h.ag p q t x w
  ·rw [List.mem_singleton] at w
   rw [w,g,if_pos rfl,hy,trn_stp t j (h.lt _ hqi)]
   have:=h.ag p q t _ hqi
   rw [hfi] at this
   have:f=sgL p (Q.getD i 0):=by omega
   rw [this]
 ·obtain ⟨z,h1,h2⟩:=h.oc ho k hk s hs
  rw [getD_left _ _ _ (by omega)]
  exact ⟨z,gS _ z h1,gS _ _ h2⟩
 ·rw [getD_left _ _ _ hi]
  by_cases c:s=j
  ·exact ⟨f,gS _ f hfi,by rw [c,← hy,g,if_pos rfl]⟩
  ·obtain ⟨z,h1,h2⟩:=h.oj ho s (by omega)
   exact ⟨z,gS _ z h1,gS _ _ h2⟩
theorem Tn.old (h:Tn l r e Q img i j ok) (hi:i < Q.length) {f y:Nat} (hfi:img.getD (Q.getD i 0) 0=(f:Int)) (hy:y=stp l j (Q.getD i 0)) (hyn:y < l.length) (hu:img.getD y 0≠-1) :
  Tn l r e Q img i (j+1) (ok && decide (img.getD y 0=((stp l j f:Nat):Int))):=by
 have hqi:Q.getD i 0∈Q:=getD_orb_mem hi
 refine ⟨h.nd,h.lt,h.il,h.hr,h.st,h.vl,h.rt,h.ag,fun ho=>h.oc (by rw [Bool.and_eq_true] at ho;exact ho.1),fun ho s hs=>?_,fun ho t=>?_⟩
 ·rw [Bool.and_eq_true,decide_eq_true_iff] at ho
  by_cases c:s=j
  ·exact ⟨f,hfi,by rw [c,← hy,ho.2]⟩
  ·exact h.oj ho.1 s (by omega)
 ·cases hok:ok with
  | false=>exact h.bad hok t
  | true =>
    rw [hok,Bool.true_and,decide_eq_false_iff_not] at ho
    obtain ⟨p,q,t⟩:=t
    have h1:=h.ag p q t y ((h.st y hyn).2 hu)
    have h2:=h.ag p q t _ hqi
    rw [hfi] at h2
    apply ho
    rw [h1,hy,trn_stp t j (h.lt _ hqi),show f=sgL p (Q.getD i 0) by omega]
theorem Tn.next (h:Tn l r e Q img i 2 ok) (hi:i < Q.length):Tn l r e Q img (i+1) 0 ok :=
 ⟨h.nd,h.lt,h.il,h.hr,h.st,h.vl,h.rt,h.ag,fun ho k hk s hs=>by
  by_cases c:k=i
  ·rw [c];exact h.oj ho s hs
  ·exact h.oc ho k (by omega) s hs,fun _ s hs=>absurd hs (by omega),h.bad⟩
theorem Tn.done (hl:Inv l b) (he:l.length%2=0) (hr:r < l.length) (hp:∀ j,j < l.length→part l r j) (h:Tn l r e Q img i j true) (hi:Q.length≤i):∃ t,img=ofN t∧IsT l t∧sgL t r=e:=by
 have nx:∀ d∈Q,∀ s,s < 2→stp l s d∈Q:=fun d hd s hs=>by
  obtain ⟨k,hk,rfl⟩:=mem_getD hd
  obtain ⟨z,_,h2⟩:=h.oc rfl k (by omega) s hs
  exact (h.st _ (stp_lt hl he s (h.lt _ hd))).2 (by rw [h2];omega)
 have all:∀ d,d < l.length→d∈Q:=one_closed hl he hr hp h.hr (fun d hd q=>by have:=nx d q 0 (by omega);unfold stp at this;simpa using this) (fun d hd q=>by have:=nx d q 1 (by omega);unfold stp at this;simpa using this)
 obtain ⟨f,hf⟩:∃ f:Nat→Nat,∀ d,d < l.length→f d < l.length∧img.getD d 0=(f d:Int):=⟨fun d=>(img.getD d 0).toNat,fun d hd=>by
  obtain ⟨z,h1,h2⟩:=h.vl d (all d hd)
  simp only [h2,Int.toNat_natCast]
  exact ⟨h1,trivial⟩⟩
 have hst:∀ d,d < l.length→∀ s,s < 2→f (stp l s d)=stp l s (f d):=fun d hd s hs=>by
  obtain ⟨k,hk,hkd⟩:=mem_getD (all d hd)
  obtain ⟨z,h1,h2⟩:=h.oc rfl k (by omega) s hs
  rw [hkd] at h1 h2
  have a:=(hf d hd).2
  have c:=(hf _ (stp_lt hl he s hd)).2
  rw [h1] at a
  rw [h2] at c
  have:z=f d:=by omega
  rw [this] at c
  omega
 have hs:∀ d,d < l.length→f (sgL l d)=sgL l (f d):=fun d hd=>by have:=hst d hd 0 (by omega);unfold stp at this;simpa using this
 have hm:∀ d,d < l.length→f (mt d)=mt (f d):=fun d hd=>by have:=hst d hd 1 (by omega);unfold stp at this;simpa using this
 have hfr:f r < l.length:=(hf r hr).1
 have par:∀ j,j < l.length→part l (f r) j:=fun j hj=>(part_eqv hl he).trans _ _ _ hfr hr hj ((part_eqv hl he).symm _ _ hr hfr (hp _ hfr)) (hp j hj)
 have sur:∀ v,v < l.length→∃ x,x < l.length∧f x=v:=one_closed hl he hfr par (S:=fun v=>∃ x,x < l.length∧f x=v) ⟨r,hr,rfl⟩ (fun d _ ⟨x,h1,h2⟩=>⟨sgL l x,hl.lt x h1,by rw [hs x h1,h2]⟩) (fun d _ ⟨x,h1,h2⟩=>⟨mt x,mt_in he h1,by rw [hm x h1,h2]⟩)
 have inj:∀ d e,d < l.length→e < l.length→f d=f e→d=e:=by
  obtain ⟨g,hg⟩:∃ g:Nat→Nat,∀ v,v < l.length→g v < l.length∧f (g v)=v:=⟨fun v=>if h:v < l.length then (sur v h).choose else 0,fun v hv=>by
   simp only [dif_pos hv]
   exact (sur v hv).choose_spec⟩
  have sg:=inj_surj l.length g (fun i hi=>(hg i hi).1) (fun i j hi hj e=>by rw [← (hg i hi).2,← (hg j hj).2,e])
  intro d e hd he' q
  obtain ⟨v,hv,rfl⟩:=sg d hd
  obtain ⟨u,hu,rfl⟩:=sg e he'
  rw [(hg v hv).2,(hg u hu).2] at q
  rw [q]
 obtain ⟨p,q,t,hpf⟩:=Trn.ofMap hl he rfl (fun d hd=>(hf d hd).1) inj hs hm hr
 have e2:f r=e:=by have:=(hf r hr).2;rw [h.rt] at this;omega
 refine ⟨p,?_,⟨q,t.nam,t.img⟩,by rw [t.root,e2]⟩
 refine getDI_ext (by rw [h.il,ofN_len,t.nam.len]) fun x hx=>?_
 rw [h.il] at hx
 rw [ofN_get,(hf x hx).2]
 have:=hpf x hx
 unfold sgL at this
 rw [this]
end
end Go.Proofs.YtajjgpkahljjmaaGreatDoor
namespace Go.Proofs.YtajjgpkahljjmaaGreatDoor
set_option maxRecDepth 100000
def Kno (w:World) (Fr:Nat→Prop) (n:Nat) (ks:List Value) (ts:List (List Nat)):Prop :=
 ks.length=ts.length∧∀ i,i < ts.length→∃ b c,ks[i]?=some (.slice (some ⟨b,0,none⟩) n c)∧b < w.heap.size∧¬ Fr b∧(ts.getD i []).length=n∧∀ j,j < n→w.cell? ⟨b,j,none⟩=some (.int .i64 ((sgL (ts.getD i []) j:Nat):Int))
theorem Kno.mod {w w':World} {Fr S:Nat→Prop} {n:Nat} {ks:List Value} {ts:List (List Nat)} (h:Kno w Fr n ks ts) (m:Mod S w w') (hS:∀ k,k < w.heap.size→S k→Fr k):Kno w' Fr n ks ts :=
 ⟨h.1,fun i hi=>by
  obtain ⟨b,c,h1,h2,h3,h4,h5⟩:=h.2 i hi
  exact ⟨b,c,h1,Nat.lt_of_lt_of_le h2 m.size,h3,h4,fun j hj=>(m.cell h2 (fun q=>h3 (hS b h2 q)) j).trans (h5 j hj)⟩⟩
theorem Kno.mono {w:World} {Fr Fr':Nat→Prop} {n:Nat} {ks:List Value} {ts:List (List Nat)} (h:Kno w Fr n ks ts) (hs:∀ k,k < w.heap.size→Fr' k→Fr k):Kno w Fr' n ks ts :=
 ⟨h.1,fun i hi=>by
  obtain ⟨b,c,h1,h2,h3,h4,h5⟩:=h.2 i hi
  exact ⟨b,c,h1,h2,fun q=>h3 (hs b h2 q),h4,h5⟩⟩

structure ShM (l:List Nat) (r:Nat) (ds:List Nat) (ts:List (List Nat)) (told:List Nat) (T like i:Nat):Prop where
 it:∀ t∈ts,IsT l t
 tl:told.length=l.length
 to_:∀ x,x < l.length→told.getD x 0≤T
 in_:∀ x,x < l.length→0 < told.getD x 0→Rch ts r x∨¬ TurnsTo l r x
 pr:∀ j,j < i→0 < told.getD (ds.getD j 0) 0
 lk:∃ Q:List Nat,like=Q.length∧Q.Nodup∧(∀ x∈Q,x < l.length)∧∀ x,x∈Q↔Rch ts r x
 b1:T≤i+1
 b2:ts.length≤i
section
variable {l b:List Nat} {r:Nat} {ds:List Nat} {ts:List (List Nat)} {told told':List Nat} {T like i:Nat} {Q:List Nat}
theorem ShM.start (hr:r < l.length) (h1:Q.Nodup) (h2:∀ x∈Q,x < l.length) (h3:∀ x,x∈Q↔Rch [] r x) (hl:told'.length=l.length) (hv:∀ x,x < l.length→told'.getD x 0=if x∈Q then 0+1 else (List.replicate l.length 0).getD x 0):ShM l r ds [] told' (0+1) Q.length 0:=by
 have v:∀ x,x < l.length→told'.getD x 0=if x∈Q then 1 else 0:=fun x hx=>by rw [hv x hx,rep0_get]
 refine ⟨fun t ht=>by simp at ht,hl,fun x hx=>?_,fun x hx h=>?_,fun j hj=>absurd hj (by omega),⟨Q,rfl,h1,h2,h3⟩,by omega,by simp⟩
 ·rw [v x hx];split <;> omega
 ·rw [v x hx] at h
  by_cases c:x∈Q
  ·exact .inl ((h3 x).1 c)
  ·rw [if_neg c] at h;omega
theorem ShM.old (h:ShM l r ds ts told T like i) (ht:0 < told.getD (ds.getD i 0) 0):ShM l r ds ts told T like (i+1) :=
 ⟨h.it,h.tl,h.to_,h.in_,fun j hj=>by
  by_cases c:j=i
  ·rw [c];exact ht
  ·exact h.pr j (by omega),h.lk,by have:=h.b1;omega,by have:=h.b2;omega⟩
theorem ShM.good (h:ShM l r ds ts told T like i) (hd:ds.getD i 0 < l.length) (hds:∀ j,j < i→ds.getD j 0 < l.length) {t:List Nat} (ht:IsT l t) (htr:sgL t r=ds.getD i 0) (h1:Q.Nodup) (h2:∀ x∈Q,x < l.length) (h3:∀ x,x∈Q↔Rch (ts++[t]) r x) (hl:told'.length=l.length)
  (hv:∀ x,x < l.length→told'.getD x 0=if x∈Q then T+1 else told.getD x 0):ShM l r ds (ts++[t]) told' (T+1) Q.length (i+1):=by
 refine ⟨fun t' ht'=>?_,hl,fun x hx=>?_,fun x hx hp=>?_,fun j hj=>?_,⟨Q,rfl,h1,h2,h3⟩,by have:=h.b1;omega,by rw [List.length_append];have:=h.b2;have e:[t].length=1:=rfl;omega⟩
 ·rcases List.mem_append.1 ht' with q | q
  ·exact h.it t' q
  ·rw [List.mem_singleton] at q;rw [q];exact ht
 ·rw [hv x hx];split
  ·exact Nat.le_refl _
  ·have:=h.to_ x hx;omega
 ·rw [hv x hx] at hp
  by_cases c:x∈Q
  ·exact .inl ((h3 x).1 c)
  ·rw [if_neg c] at hp
   rcases h.in_ x hx hp with q | q
   ·exact .inl (q.mono fun t ht=>List.mem_append_left _ ht)
   ·exact .inr q
 ·by_cases c:j=i
  ·have:ds.getD i 0∈Q:=(h3 _).2 (by rw [← htr];exact .step .refl (by simp))
   rw [c,hv _ hd,if_pos this];omega
  ·rw [hv _ (hds j (by omega))]
   split
   ·omega
   ·exact h.pr j (by omega)
theorem ShM.bad (hi:Inv l b) (he:l.length%2=0) (hr:r < l.length) (h:ShM l r ds ts told T like i) (hd:ds.getD i 0 < l.length) (hds:∀ j,j < i→ds.getD j 0 < l.length) (hn:¬ TurnsTo l r (ds.getD i 0)) (h1:Q.Nodup) (h2:∀ x∈Q,x < l.length) (h3:∀ x,x∈Q↔Rch ts (ds.getD i 0) x) (hl:told'.length=l.length)
  (hv:∀ x,x < l.length→told'.getD x 0=if x∈Q then T+1 else told.getD x 0):ShM l r ds ts told' (T+1) like (i+1):=by
 refine ⟨h.it,hl,fun x hx=>?_,fun x hx hp=>?_,fun j hj=>?_,h.lk,by have:=h.b1;omega,by have:=h.b2;omega⟩
 ·rw [hv x hx];split
  ·exact Nat.le_refl _
  ·have:=h.to_ x hx;omega
 ·rw [hv x hx] at hp
  by_cases c:x∈Q
  ·refine .inr fun t=>hn ?_
   have:=(rch_turns hi he h.it hd ((h3 x).1 c)).2
   exact (turns_eqv hi he).trans _ _ _ hr hx hd t ((turns_eqv hi he).symm _ _ hd hx this)
  ·rw [if_neg c] at hp;exact h.in_ x hx hp
 ·by_cases c:j=i
  ·have:ds.getD i 0∈Q:=(h3 _).2 .refl
   rw [c,hv _ hd,if_pos this];omega
  ·rw [hv _ (hds j (by omega))]
   split
   ·omega
   ·exact h.pr j (by omega)
theorem ShM.done (hi:Inv l b) (he:l.length%2=0) (hr:r < l.length) (h:ShM l r ds ts told T like ds.length) (hall:∀ d,d < l.length→TurnsTo l r d→d∈ds):like=num (TurnsTo l r) l.length:=by
 obtain ⟨Q,rfl,h1,h2,h3⟩:=h.lk
 rw [← num_mem h1 h2]
 refine num_congr fun x hx=>⟨fun c=>(rch_turns hi he h.it hr ((h3 x).1 c)).2,fun t=>?_⟩
 obtain ⟨j,hj,e⟩:=mem_getD (hall x hx t)
 have:=h.pr j hj
 rw [e] at this
 rcases h.in_ x hx this with q | q
 ·exact (h3 x).2 q
 ·exact absurd t q
end
end Go.Proofs.YtajjgpkahljjmaaGreatDoor
namespace Go.Proofs.YtajjgpkahljjmaaGreatDoor
set_option maxRecDepth 100000
section
variable {l b:List Nat}
theorem enc_wrd (h:Inv l b) (he:l.length%2=0) {V:Nat} (hV:∀ x,x < l.length→nameOf l x < V) {r:Nat} (hr:r < l.length)
  (x0:NX (wkn (sgL l) (nameOf l) (l.length / 2) V r (wN (sgL l) (nameOf l) (l.length / 2) V r)) (wtw l V r) 0)
  (x1:NX (wkn (sgL l) (nameOf l) (l.length / 2) V r (wN (sgL l) (nameOf l) (l.length / 2) V r)) (wtw l V r) 1) :
  Wrd (wkn (sgL l) (nameOf l) (l.length / 2) V r (wN (sgL l) (nameOf l) (l.length / 2) V r)) (wtw l V r) (fun j=>(wrun (sgL l) (nameOf l) (l.length / 2) V r j).d) l:=by
 have C:=wcyc h he hV hr
 have P:=wprg h he hV hr
 obtain ⟨N,hN⟩:∃ N,N=wN (sgL l) (nameOf l) (l.length / 2) V r:=⟨_,rfl⟩
 have KN:=wkind_N h he hV hr
 rw [← hN] at C P KN x0 x1 ⊢
 have kl:(wkn (sgL l) (nameOf l) (l.length / 2) V r N).length=N:=wkn_length _ _ _ _ _ _
 have kg:=wkn_get (sgL l) (nameOf l) (l.length / 2) V r N
 refine ⟨P,x0,x1,by rw [kl];exact C.pos,fun i hi=>C.lt i (by rw [← kl];exact hi),fun i j hi hj e=>C.inj i j (by rw [← kl];exact hi) (by rw [← kl];exact hj) e,fun i hi=>(C.tw_ i (by rw [← kl];exact hi)).symm,fun i hi=>?_⟩
 rw [kl] at hi
 have step:∀ j,j < N→sgL l (if (wkn (sgL l) (nameOf l) (l.length / 2) V r N).getD j 0 / 2=0 then mt (wrun (sgL l) (nameOf l) (l.length / 2) V r j).d else (wrun (sgL l) (nameOf l) (l.length / 2) V r j).d)=(wrun (sgL l) (nameOf l) (l.length / 2) V r ((j+1)%N)).d:=fun j hj=>by
  have e:fK (sgL l) (wK l V r) (wrun (sgL l) (nameOf l) (l.length / 2) V r j).d=(wrun (sgL l) (nameOf l) (l.length / 2) V r ((j+1)%N)).d:=by
   by_cases c:j+1=N
   ·rw [c,Nat.mod_self]
    have:=C.wrap
    rwa [show N - 1=j by omega] at this
   ·rw [Nat.mod_eq_of_lt (by omega)]
    exact C.next j (by omega)
  rw [← e]
  unfold fK
  rw [KN j hj,kg j hj]
  by_cases c:(wrun (sgL l) (nameOf l) (l.length / 2) V r j).k (nameOf l) < 2
  ·rw [if_pos (by omega),if_pos (by rw [if_pos c])]
  ·rw [if_neg (by omega),if_neg (by rw [if_neg c];decide)]
 show sgL l (wrun (sgL l) (nameOf l) (l.length / 2) V r i).d=(wrun (sgL l) (nameOf l) (l.length / 2) V r (nxS 0 _ _ i)).d
 unfold nxS
 rw [kl]
 by_cases c:(wkn (sgL l) (nameOf l) (l.length / 2) V r N).getD i 0 / 2=0
 ·rw [if_pos c]
  have:=step (wtw l V r i) (C.tlt i hi)
  rw [P.sort i (by rw [kl];exact hi),if_pos c,C.tw_ i hi,mt_mt'] at this
  exact this
 ·rw [if_neg c]
  have:=step i hi
  rw [if_neg c] at this
  exact this
theorem one_pq (h:Inv l b) (he:l.length%2=0) (h1:pN l=1) {x:Nat} (hx:x < l.length):pq l x=0:=by
 have:=pq_lt h he hx hx
 have:=pq_lt h he hx (d:=l.length) hx
 unfold pN at h1
 omega
theorem one_all (h:Inv l b) (he:l.length%2=0) (h1:pN l=1) {r x:Nat} (hr:r < l.length) (hx:x < l.length):part l r x :=
 (pq_part h he hr hx).1 (by rw [one_pq h he h1 hx,one_pq h he h1 hr])
theorem enc_all (h:Inv l b) (he:l.length%2=0) {V:Nat} (hV:∀ x,x < l.length→nameOf l x < V) {r:Nat} (hr:r < l.length) (h1:pN l=1) (hg:genusN l=0) :
  wN (sgL l) (nameOf l) (l.length / 2) V r=l.length ∧
  Wrd (wkn (sgL l) (nameOf l) (l.length / 2) V r l.length) (wtw l V r) (fun j=>(wrun (sgL l) (nameOf l) (l.length / 2) V r j).d) l ∧
  RightW (wkn (sgL l) (nameOf l) (l.length / 2) V r l.length) (wtw l V r) ∧
  ∀ d,d < l.length→∃ i,i < l.length∧(wrun (sgL l) (nameOf l) (l.length / 2) V r i).d=d:=by
 obtain ⟨c1,_⟩:=walk_counts h he hV hr
 have hpE:pE l (pq l r) l.length=l.length / 2:=by
  obtain ⟨m,hm⟩:∃ m,m=l.length / 2:=⟨_,rfl⟩
  have h2:l.length=2*m:=by omega
  unfold pE
  rw [h2,num_evens (fun d=>pq l d=pq l r) m]
  rw [num_congr (S:=fun _=>True) fun e he'=>⟨fun _=>trivial,fun _=>by rw [one_pq h he h1 (by omega),one_pq h he h1 hr]⟩,cnum_all]
  omega
 have hN:wN (sgL l) (nameOf l) (l.length / 2) V r=l.length:=by rw [c1,hpE];omega
 obtain ⟨G,hG1,hG2⟩:=pG_is h he (phi_inv h he) (j:=pq l r) (by rw [one_pq h he h1 hr];omega)
 have hG:G=0:=by
  unfold genusN genusTo at hg
  rw [h1] at hg
  simp [pgen,h1] at hg
  rw [one_pq h he h1 hr] at hG1
  omega
 obtain ⟨p0,p1⟩:=wplane h he (phi_inv h he) hV hr hG2
 have W:=enc_wrd h he hV hr p0 (p1.2 hG)
 rw [hN] at W
 have kl:(wkn (sgL l) (nameOf l) (l.length / 2) V r l.length).length=l.length:=wkn_length _ _ _ _ _ _
 refine ⟨hN,W,?_,fun d hd=>?_⟩
 ·exact W.isR h (m:=l.length / 2) (by omega) hV fun i hi=>⟨rfl,(wkn_get _ _ _ _ _ _ i (by rw [← kl];exact hi)).symm⟩
 ·obtain ⟨j,hj,e⟩:=(wpart (sgL_pf h) (show l.length=2*(l.length / 2) by omega) (nm_ok h) hV hr hd).1 (one_all h he h1 hr hd)
  exact ⟨j,by rw [← hN];exact hj,e⟩
end
end Go.Proofs.YtajjgpkahljjmaaGreatDoor
namespace Go.Proofs.YtajjgpkahljjmaaGreatDoor
set_option maxRecDepth 20000
def ErrM (l:List Nat) (lone:Nat) (E:Int):Prop:=(pN l+lone≠1∧E=8)∨(pN l+lone=1∧genusN l≠0∧E=7)∨(pN l+lone=1∧genusN l=0∧E=0)
theorem ErrM.uniq {l:List Nat} {lone:Nat} {E E':Int} (h:ErrM l lone E) (k:ErrM l lone E'):E=E':=by
 unfold ErrM at h k;omega
theorem tfit_p (g:Nat) (l b:List Nat) (root:Int) (lone:Nat) (E:Int) (w:World) (h:MapAt w g l b root lone) (hE:ErrM l lone E) :
  Calls Tryz.prog 54 #[.pointer (some ⟨g,0,none⟩)] w fun e w'=>e=.returned (.int .i64 E)∧Below w.heap.size w w':=by
 have CN:=Lib.hid (connected_p g l b root lone w h)
 have PL:Hid (∀ W,Below w.heap.size w W→Calls Tryz.prog 35 #[.pointer (some ⟨g,0,none⟩)] W fun e w'=>e=.returned (.bool (decide (genusN l=0)))∧Below W.heap.size W w'):=fun W z=>planar_p g l b root lone W (h.below z)
 obtain ⟨c,hc⟩:∃ c,c=pN l+lone:=⟨_,rfl⟩
 obtain ⟨G,hG⟩:∃ G,G=genusN l:=⟨_,rfl⟩
 unfold ErrM at hE
 rw [← hc,← hG] at hE
 rw [← hc] at CN
 rw [← hG] at PL
 clear h hc hG
 go_enter Tryz.func54,Tryz.ntmps54
 go_wp2_with fail
 refine CN.out.mono ?_
 rintro e w1 ⟨rfl,b1⟩
 by_cases h1:c=1
 ·have d1:decide (c=1)=true:=decide_eq_true h1
  have PL1:=Lib.hid (PL.out w1 b1)
  have B1:=Lib.hid b1
  clear b1 PL CN
  go_wp2_with fail
  refine PL1.out.mono ?_
  rintro e w2 ⟨rfl,b2⟩
  have B2:=Lib.hid (B1.out.trans (b2.mono B1.out.size))
  clear b2
  by_cases h2:G=0
  ·have d2:decide (G=0)=true:=decide_eq_true h2
   obtain rfl:E=0:=by omega
   clear hE h1 h2
   go_wp2_with fail
   go_ret
   exact ⟨rfl,B2.out⟩
  ·have d2:decide (G=0)=false:=decide_eq_false h2
   obtain rfl:E=7:=by omega
   clear hE h1
   go_wp2_with fail
   go_ret
   exact ⟨rfl,B2.out⟩
 ·have d1:decide (c=1)=false:=decide_eq_false h1
  have B1:=Lib.hid b1
  obtain rfl:E=8:=by omega
  clear b1 PL CN hE
  go_wp2_with fail
  go_ret
  exact ⟨rfl,B1.out⟩
noncomputable def wordL (l:List Nat) (root:Int):List Nat:=wkn (sgL l) (nameOf l) (l.length / 2) (sizes l).length root.toNat l.length
theorem wordL_len (l:List Nat) (root:Int):(wordL l root).length=l.length:=wkn_length _ _ _ _ _ _
def EnPost (w:World) (l:List Nat) (root:Int) (E:Int) (e:Ending) (w':World):Prop :=
 (E≠0∧e=.returned (.tuple #[.pointer none,.int .i64 E])∧Below w.heap.size w w') ∨
 (E=0∧∃ g,e=.returned (.tuple #[.pointer (some ⟨g,0,none⟩),.int .i64 0])∧WordAt w' w.heap.size g (wordL l root)∧Below w.heap.size w w')
set_option maxHeartbeats 4000000 in
theorem tenc_p (g:Nat) (l b:List Nat) (root:Int) (lone:Nat) (E:Int) (w:World) (h:MapAt w g l b root lone) (hi:Inv l b) (hr:RootOk root l.length) (hE:ErrM l lone E) :
  Calls Tryz.prog 13 #[.pointer (some ⟨g,0,none⟩)] w (EnPost w l root E):=by
 have F:=Lib.hid (tfit_p g l b root lone E w h hE)
 have RT:Hid (∀ W,Below w.heap.size w W→Calls Tryz.prog 33 #[.pointer (some ⟨g,0,none⟩)] W fun e w'=>e=.returned (.int .i64 root)∧W=w'):=fun W z=>root_p g l b root lone W (h.below z)
 by_cases h0:E=0
 ·have hc:pN l+lone=1∧genusN l=0:=by unfold ErrM at hE;omega
  have WK:Hid (∀ W,Below w.heap.size w W→Calls Tryz.prog 55 #[.pointer (some ⟨g,0,none⟩),.int .i64 root] W fun e w'=>∃ (A:Option Addr) (c:Nat) (L:List Int) (E':Int),e=.returned (.tuple #[.slice A l.length c,.int .i64 E'])∧Hid (RdS w' w'.heap.size A l.length L∧kindsN L l.length=wordL l root)∧Below W.heap.size W w'):=fun W z=>by
   rcases hr with ⟨r0,r1⟩ | ⟨r0,r1,r2⟩
   ·have hl:l=[]:=List.eq_nil_of_length_eq_zero r0
    refine (walkOf_out g l b root lone root W (h.below z) (.inl (by omega))).mono ?_
    rintro e w' ⟨rfl,bb⟩
    refine ⟨none,0,[],5,by rw [r0],⟨by rw [r0];exact RdS.nil _ _ _,?_⟩,bb⟩
    unfold wordL
    rw [hl];rfl
   ·obtain ⟨r,rfl⟩:=Int.eq_ofNat_of_zero_le r1
    have he:=h.1.1
    have hrl:r < l.length:=by omega
    have p1:pN l=1:=by have:=pq_lt hi he hrl hrl;have:=pq_lt hi he (d:=l.length) hrl hrl;unfold pN at *;omega
    have l0:lone=0:=by omega
    have hV:=nm_ltW hi (V:=(sizes l).length) (Nat.le_refl _)
    obtain ⟨hN,_⟩:=enc_all hi he hV hrl p1 hc.2
    refine (walkOf_p g l b (r:Int) lone r (l.length / 2) (sizes l).length W (h.below z) hi hrl rfl (by rw [l0];simp)).mono ?_
    rintro e w' ⟨A,c,rfl,ho,bb⟩
    rw [hN] at ho ⊢
    exact ⟨A,c,_,0,rfl,⟨RdS.own ho,kindsN_wkn _ _ _ _ _ _ _ (Nat.le_refl _)⟩,bb⟩
  have hn:l.length≤131072:=h.2.1
  obtain ⟨n,hnl⟩:∃ n,n=l.length:=⟨_,rfl⟩
  obtain ⟨ks,hks⟩:∃ ks,ks=wordL l root:=⟨_,rfl⟩
  rw [← hnl,← hks] at WK
  rw [← hnl] at hn
  have HK:Hid (ks=wordL l root):=hks
  subst h0
  clear h hi hr hE hc hnl hks
  go_enter Tryz.func13,Tryz.ntmps13
  go_wp2_with fail
  refine F.out.mono ?_
  rintro e w1 ⟨rfl,b1⟩
  have RT1:=Lib.hid (RT.out w1 b1)
  have WK1:=Lib.hid (WK.out w1 b1)
  have B1:=Lib.hid b1
  clear b1 RT WK F
  go_wp2_with fail
  refine RT1.out.mono ?_
  rintro e w2 ⟨rfl,rfl⟩
  go_wp2_with fail
  refine WK1.out.mono ?_
  rintro e w2 ⟨A,c,L,E',rfl,HL,b2⟩
  have WW:=Lib.hid (wword_p A n c _ L w2 HL.out.1 (Nat.le_refl _) (by omega))
  have B2:=Lib.hid (B1.out.trans (b2.mono B1.out.size))
  clear b2 WK1 RT1
  go_wp2_with fail
  refine WW.out.mono ?_
  rintro e w3 ⟨g3,rfl,hw,b3⟩
  have HW3:=Lib.hid hw
  have B3:=Lib.hid (B2.out.trans (b3.mono B2.out.size))
  clear hw b3 WW
  go_wp2_with fail
  go_ret2
  refine .inr ⟨rfl,g3,rfl,?_,B3.out⟩
  rw [← HK.out,← HL.out.2]
  exact HW3.out.base B2.out.size
 ·clear h hi hr hE RT
  have e1:(E == 0)=false:=by simp;exact h0
  go_enter Tryz.func13,Tryz.ntmps13
  go_wp2_with fail
  refine F.out.mono ?_
  rintro e w1 ⟨rfl,b1⟩
  have B1:=Lib.hid b1
  clear b1 F
  go_wp2_with fail
  go_ret2
  exact .inl ⟨h0,rfl,B1.out⟩

section
variable {w0 w:World} {m gx p0 g0 p1 g1 q:Nat} {ks:List Nat}
theorem Mx.lts (h:Mx w0 w m gx p0 g0 p1 g1 ks q) (i:Nat) (hi:MxS gx p0 g0 p1 g1 i):i < w.heap.size:=by
 obtain ⟨d,k,_,hx⟩:=h.ix
 obtain ⟨d0,ha⟩:=h.pa
 obtain ⟨d1,hb⟩:=h.pb
 obtain ⟨cx,bx⟩:=hx.blk_
 obtain ⟨ca,ba⟩:=ha.blk_
 obtain ⟨cb',bb⟩:=hb.blk_
 obtain ⟨cga,bga⟩:=ha.gblk
 obtain ⟨cgb,bgb⟩:=hb.gblk
 rcases hi with rfl | rfl | rfl | rfl | rfl
 ·exact bx.lt
 ·exact ba.lt
 ·exact bga.lt
 ·exact bb.lt
 ·exact bgb.lt
end
end Go.Proofs.YtajjgpkahljjmaaGreatDoor
