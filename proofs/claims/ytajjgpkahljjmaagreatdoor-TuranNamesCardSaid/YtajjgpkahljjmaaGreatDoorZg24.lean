/- A turn, followed from dart to dart: mathematics. -/
import Derived.Test.YtajjgpkahljjmaaGreatDoorZg22
import Derived.Test.YtajjgpkahljjmaaGreatDoorZg1
import Derived.Test.YtajjgpkahljjmaaGreatDoorZPMake
import Derived.BigQuiet
import Derived.Test.YtajjgpkahljjmaaGreatDoorZg19
import Derived.BigRegion
open Go.RowKit
set_option linter.unusedVariables false
set_option linter.unusedSimpArgs false
namespace Go.Proofs.YtajjgpkahljjmaaGreatDoor
set_option maxRecDepth 20000
section
variable {l b l':List Nat} {f:Nat→Nat}
open Classical in
theorem Trn.ofMap (hl:Inv l b) (he:l.length%2=0) (hlen:l'.length=l.length) (hf:∀ d,d < l.length→f d < l.length) (hi:∀ d e,d < l.length→e < l.length→f d=f e→d=e)
  (hs:∀ d,d < l.length→f (sgL l d)=sgL l' (f d)) (hm:∀ d,d < l.length→f (mt d)=mt (f d)) {r:Nat} (hr:r < l.length):∃ p q,Trn l l' r (f r) p q∧∀ d,d < l.length→sgL p d=f d:=by
 have hsu:=inj_surj l.length f hf hi
 obtain ⟨g,hg⟩:∃ g:Nat→Nat,∀ v,v < l.length→g v < l.length∧f (g v)=v:=⟨fun v=>if h:v < l.length then (hsu v h).choose else 0,fun v hv=>by
  simp only [dif_pos hv]
  exact (hsu v hv).choose_spec⟩
 have P:∀ d,d < l.length→((List.range l.length).map f).getD d 0=f d:=fun d hd=>by simp [List.getD_eq_getElem?_getD,hd]
 have Q:∀ d,d < l.length→((List.range l.length).map g).getD d 0=g d:=fun d hd=>by simp [List.getD_eq_getElem?_getD,hd]
 have hN:Nam l.length ((List.range l.length).map f) ((List.range l.length).map g):=by
  refine ⟨⟨by simp,fun i h=>?_,fun i h=>?_,fun i h=>?_,fun i h=>?_⟩,by simp,he,fun d hd=>?_⟩
  ·simp only [List.length_map,List.length_range] at h ⊢;rw [P i h];exact hf i h
  ·simp only [List.length_map,List.length_range] at h ⊢;rw [Q i h];exact (hg i h).1
  ·simp only [List.length_map,List.length_range] at h
   rw [P i h,Q _ (hf i h)]
   exact hi _ _ (hg _ (hf i h)).1 h (hg _ (hf i h)).2
  ·simp only [List.length_map,List.length_range] at h
   rw [Q i h,P _ (hg i h).1]
   exact (hg i h).2
  ·show ((List.range l.length).map f).getD _ 0=mt (((List.range l.length).map f).getD d 0)
   rw [P _ (mt_in he hd),P d hd,hm d hd]
 refine ⟨_,_,⟨hN,getDN_extC (by rw [cjL_len,hlen]) fun i h=>?_,P r hr⟩,P⟩
 rw [cjL_len] at h
 have e1:=cjL_get ((List.range l.length).map f) ((List.range l.length).map g) l h
 have e2:sgL ((List.range l.length).map g) i=g i:=Q i h
 have e3:sgL ((List.range l.length).map f) (sgL l (g i))=f (sgL l (g i)):=P _ (hl.lt _ (hg i h).1)
 show sgL (cjL _ _ l) i=sgL l' i
 rw [e1,e2,e3,hs _ (hg i h).1,(hg i h).2]
theorem Trn.map {p q:List Nat} {r r':Nat} (t:Trn l l' r r' p q):∀ d,d < l.length→sgL p (sgL l d)=sgL l' (sgL p d)∧sgL p (mt d)=mt (sgL p d):=fun d hd=>by
 have k:=cj_at t.nam hd
 rw [t.img] at k
 exact ⟨k.symm,t.nam.mt d hd⟩
theorem Trn.agree {p q:List Nat} {r r':Nat} (hl:Inv l b) (t:Trn l l' r r' p q) {S:Nat→Prop} (hS:∀ d,S d→d < l.length) {f:Nat→Nat} (h:∀ d,S d→f d=sgL p d) {d:Nat} (hd:S d) :
  sgL p (sgL l d)=sgL l' (f d)∧sgL p (mt d)=mt (f d):=by
 rw [h d hd]
 exact t.map d (hS d hd)
theorem one_closed (hl:Inv l b) (he:l.length%2=0) {r:Nat} (hr:r < l.length) (hp:∀ j,j < l.length→part l r j) {S:Nat→Prop} (h0:S r) (hs:∀ d,d < l.length→S d→S (sgL l d)) (hm:∀ d,d < l.length→S d→S (mt d)):∀ d,d < l.length→S d:=fun d hd =>
 (part_closed (S:=S) (sgL_pf hl) (m:=l.length / 2) (by omega) hs hm r d hr hd (hp d hd)).1 h0
end
end Go.Proofs.YtajjgpkahljjmaaGreatDoor
namespace Go.Proofs.YtajjgpkahljjmaaGreatDoor
set_option maxRecDepth 20000
structure Srt (n:Nat) (D P O F Z:List Nat):Prop where
 inv:Inv D P
 dl:D.length=n
 ol:O.length=n
 zl:Z.length=F.length
 olt:∀ d,d < n→O.getD d 0 < F.length
 fz:∀ s,s < F.length→F.getD s 0+Z.getD s 0≤n
 pos:∀ s,s < F.length→0 < Z.getD s 0
 ins:∀ p s,p < n→s < F.length→(O.getD (D.getD p 0) 0=s↔F.getD s 0≤p∧p < F.getD s 0+Z.getD s 0)
structure Cho (n:Nat) (P O F Z C:List Nat) (X:Nat→Prop):Prop where
 len:C.length=F.length
 le:∀ s,s < F.length→C.getD s 0≤Z.getD s 0
 is:∀ d,d < n→(P.getD d 0 < F.getD (O.getD d 0) 0+C.getD (O.getD d 0) 0↔X d)
section
variable {n:Nat} {D P O F Z C:List Nat} {X:Nat→Prop}
theorem Srt.pl (S:Srt n D P O F Z):P.length=n:=by rw [S.inv.len,S.dl]
theorem Srt.plt (S:Srt n D P O F Z) {d:Nat} (hd:d < n):P.getD d 0 < n:=by have:=S.inv.lt' d (by rw [S.dl];exact hd);rwa [S.dl] at this
theorem Srt.dlt (S:Srt n D P O F Z) {p:Nat} (hp:p < n):D.getD p 0 < n:=by have:=S.inv.lt p (by rw [S.dl];exact hp);rwa [S.dl] at this
theorem Srt.dp (S:Srt n D P O F Z) {d:Nat} (hd:d < n):D.getD (P.getD d 0) 0=d:=S.inv.bl d (by rw [S.dl];exact hd)
theorem Srt.pd (S:Srt n D P O F Z) {p:Nat} (hp:p < n):P.getD (D.getD p 0) 0=p:=S.inv.lb p (by rw [S.dl];exact hp)
theorem Srt.at_ (S:Srt n D P O F Z) {d s:Nat} (hd:d < n) (hs:s < F.length):O.getD d 0=s↔F.getD s 0≤P.getD d 0∧P.getD d 0 < F.getD s 0+Z.getD s 0:=by
 have:=S.ins (P.getD d 0) s (S.plt hd) hs
 rwa [S.dp hd] at this
theorem swp_getD (L:List Nat) (p q a c i:Nat) (hp:p < L.length) (hq:q < L.length):((L.set p a).set q c).getD i 0=if i=q then c else if i=p then a else L.getD i 0:=by
 rw [getDN_set _ _ _ _ (by rw [List.length_set];exact hq),getDN_set _ _ _ _ hp]
theorem Srt.choose (S:Srt n D P O F Z) (H:Cho n P O F Z C X) {d:Nat} (hd:d < n) (hx:¬ X d) {s q e p:Nat} (hs:s=O.getD d 0) (hq:q=F.getD s 0+C.getD s 0) (hp:p=P.getD d 0) (he:e=D.getD q 0) :
  s < F.length∧q < n∧e < n∧Srt n ((D.set p e).set q d) ((P.set e p).set d q) O F Z∧Cho n ((P.set e p).set d q) O F Z (C.set s (C.getD s 0+1)) (fun x=>X x∨x=d):=by
 have hsl:s < F.length:=by rw [hs];exact S.olt d hd
 have hqp:q≤p:=by
  have:¬ p < F.getD s 0+C.getD s 0:=fun c=>hx ((H.is d hd).1 (by rw [← hs,← hp];exact c))
  omega
 have hpz:=(S.at_ hd hsl).1 hs.symm
 rw [← hp] at hpz
 have hpn:p < n:=by rw [hp];exact S.plt hd
 have hqn:q < n:=by omega
 have hen:e < n:=by rw [he];exact S.dlt hqn
 have hDp:D.getD p 0=d:=by rw [hp];exact S.dp hd
 have hPe:P.getD e 0=q:=by rw [he];exact S.pd hqn
 have hOe:O.getD e 0=s:=by rw [he];exact (S.ins q s hqn hsl).2 ⟨by omega,by omega⟩
 have gD:∀ i,((D.set p e).set q d).getD i 0=if i=q then d else if i=p then e else D.getD i 0:=fun i=>swp_getD D p q e d i (by rw [S.dl];exact hpn) (by rw [S.dl];exact hqn)
 have gP:∀ i,((P.set e p).set d q).getD i 0=if i=d then q else if i=e then p else P.getD i 0:=fun i=>swp_getD P e d p q i (by rw [S.pl];exact hen) (by rw [S.pl];exact hd)
 have hCl:C.length=F.length:=H.len
 have gC:∀ i,(C.set s (C.getD s 0+1)).getD i 0=if i=s then C.getD s 0+1 else C.getD i 0:=fun i=>getDN_set _ _ _ _ (by rw [hCl];exact hsl)
 have ed:e=d↔p=q:=⟨fun c=>by rw [← hPe,c,hp],fun c=>by rw [he,← c,hDp]⟩
 refine ⟨hsl,hqn,hen,⟨⟨by simp [S.pl,S.dl],?_,?_,?_,?_⟩,by simp [S.dl],S.ol,S.zl,S.olt,S.fz,S.pos,?_⟩,by simpa using hCl,?_,?_⟩
 ·intro i hi
  simp only [List.length_set,S.dl] at hi ⊢
  rw [gD];split
  ·exact hd
  ·split
   ·exact hen
   ·exact S.dlt hi
 ·intro i hi
  simp only [List.length_set,S.dl] at hi ⊢
  rw [gP];split
  ·exact hqn
  ·split
   ·exact hpn
   ·exact S.plt hi
 ·intro i hi
  simp only [List.length_set,S.dl] at hi
  rw [gD,gP]
  by_cases h1:i=q
  ·rw [if_pos h1,if_pos rfl];exact h1.symm
  ·rw [if_neg h1]
   by_cases h2:i=p
   ·rw [if_pos h2]
    have:e≠d:=fun c=>h1 (h2.trans (ed.1 c))
    rw [if_neg this,if_pos rfl];exact h2.symm
   ·rw [if_neg h2]
    have a1:D.getD i 0≠d:=fun c=>h2 (by rw [← S.pd hi,c,hp])
    have a2:D.getD i 0≠e:=fun c=>h1 (by rw [← S.pd hi,c,hPe])
    rw [if_neg a1,if_neg a2,S.pd hi]
 ·intro i hi
  simp only [List.length_set,S.dl] at hi
  rw [gP,gD]
  by_cases h1:i=d
  ·rw [if_pos h1,if_pos rfl];exact h1.symm
  ·rw [if_neg h1]
   by_cases h2:i=e
   ·rw [if_pos h2]
    have:p≠q:=fun c=>h1 (h2.trans (ed.2 c))
    rw [if_neg this,if_pos rfl];exact h2.symm
   ·rw [if_neg h2]
    have a1:P.getD i 0≠q:=fun c=>h2 (by rw [← S.dp hi,c,he])
    have a2:P.getD i 0≠p:=fun c=>h1 (by rw [← S.dp hi,c,hDp])
    rw [if_neg a1,if_neg a2,S.dp hi]
 ·intro i t hi ht
  rw [gD]
  by_cases h1:i=q
  ·rw [if_pos h1,← hs]
   have:=S.ins q t hqn ht
   rw [← he,hOe] at this
   rw [h1];exact this
  ·rw [if_neg h1]
   by_cases h2:i=p
   ·rw [if_pos h2,hOe]
    have:=S.ins p t hpn ht
    rw [hDp,← hs] at this
    rw [h2];exact this
   ·rw [if_neg h2];exact S.ins i t hi ht
 ·intro t ht
  rw [gC];split
  ·rename_i h;rw [h];have:=H.le s hsl;omega
  ·exact H.le t ht
 ·intro x hx'
  rw [gP,gC]
  by_cases h1:x=d
  ·rw [if_pos h1,h1,← hs,if_pos rfl]
   exact ⟨fun _=>.inr rfl,fun _=>by omega⟩
  ·rw [if_neg h1]
   by_cases h2:x=e
   ·have hne:p≠q:=fun c=>h1 (h2.trans (ed.2 c))
    rw [if_pos h2,h2,hOe,if_pos rfl]
    have:=H.is e hen
    rw [hPe,hOe] at this
    exact ⟨fun c=>by omega,fun c=>by
     rcases c with c | c
     ·have:=this.2 c;omega
     ·exact absurd (h2.trans c) h1⟩
   ·rw [if_neg h2]
    have hi:=H.is x hx'
    have hor:(X x∨x=d)↔X x:=⟨fun c=>c.elim id fun c=>absurd c h1,.inl⟩
    rw [hor]
    by_cases h3:O.getD x 0=s
    ·rw [h3,if_pos rfl]
     rw [h3] at hi
     have a1:P.getD x 0≠q:=fun c=>h2 (by rw [← S.dp hx',c,he])
     exact ⟨fun c=>hi.1 (by omega),fun c=>by have:=hi.2 c;omega⟩
    ·rw [if_neg h3];exact hi
theorem Srt.keep (S:Srt n D P O F Z) (H:Cho n P O F Z C X) {s:Nat} (hs:s < F.length):Cho n P O F Z (C.set s 0) (fun x=>X x∧O.getD x 0≠s):=by
 have gC:∀ i,(C.set s 0).getD i 0=if i=s then 0 else C.getD i 0:=fun i=>getDN_set _ _ _ _ (by rw [H.len];exact hs)
 refine ⟨by simpa using H.len,fun t ht=>?_,fun x hx=>?_⟩
 ·rw [gC];split
  ·exact Nat.zero_le _
  ·exact H.le t ht
 ·rw [gC]
  by_cases h:O.getD x 0=s
  ·rw [if_pos h]
   have:=(S.at_ hx hs).1 h
   rw [h]
   exact ⟨fun c=>by omega,fun c=>absurd rfl c.2⟩
  ·rw [if_neg h]
   exact ⟨fun c=>⟨(H.is x hx).1 c,h⟩,fun c=>(H.is x hx).2 c.1⟩
theorem getD_snocC (L:List Nat) (x i:Nat):(L++[x]).getD i 0=if i=L.length then x else L.getD i 0:=by
 by_cases h:i < L.length
 ·rw [if_neg (by omega),List.getD_eq_getElem?_getD,List.getElem?_append_left h,List.getD_eq_getElem?_getD]
 ·by_cases h2:i=L.length
  ·subst h2;simp
  ·rw [if_neg h2,List.getD_eq_getElem?_getD,List.getD_eq_getElem?_getD,List.getElem?_eq_none (by simp;omega),List.getElem?_eq_none (by omega)]
end
end Go.Proofs.YtajjgpkahljjmaaGreatDoor
namespace Go.Proofs.YtajjgpkahljjmaaGreatDoor
set_option maxRecDepth 20000
noncomputable def ofS (O:List Nat) (s k:Nat):Nat:=num (fun x=>O.getD x 0=s) k
noncomputable def ahS (O:List Nat) (s n:Nat):Nat:=num (fun x=>O.getD x 0 < s) n
theorem ahS_next (O:List Nat) (s n:Nat):ahS O (s+1) n=ahS O s n+ofS O s n:=by
 unfold ahS ofS
 rw [cnum_or (P:=fun x=>O.getD x 0 < s) (Q:=fun x=>O.getD x 0=s) (fun e h1 h2=>by omega)]
 exact num_congr fun d _=>by omega
theorem ahS_le (O:List Nat) (s n:Nat):ahS O s n≤n:=num_le _ _
theorem ahS_mono (O:List Nat) (n:Nat) {s t:Nat} (h:s≤t):ahS O s n≤ahS O t n:=by
 induction t with
 | zero=>obtain rfl:s=0:=by omega
         exact Nat.le_refl _
 | succ t ih =>
   by_cases e:s=t+1
   ·rw [e];exact Nat.le_refl _
   ·rw [ahS_next];have:=ih (by omega);omega
theorem ofS_next (O:List Nat) (s k:Nat):(O.getD k 0=s→ofS O s (k+1)=ofS O s k+1)∧(O.getD k 0≠s→ofS O s (k+1)=ofS O s k):=num_next (fun x=>O.getD x 0=s) k
theorem ofS_mono (O:List Nat) (s:Nat) {j k:Nat} (h:j≤k):ofS O s j≤ofS O s k:=by
 induction k with
 | zero=>obtain rfl:j=0:=by omega
         exact Nat.le_refl _
 | succ k ih =>
   by_cases e:j=k+1
   ·rw [e];exact Nat.le_refl _
   ·have:=ih (by omega)
    by_cases c:O.getD k 0=s
    ·rw [(ofS_next O s k).1 c];omega
    ·rw [(ofS_next O s k).2 c];omega
theorem ofS_lt (O:List Nat) {x k:Nat} (h:x < k):ofS O (O.getD x 0) x < ofS O (O.getD x 0) k:=by
 have:=ofS_mono O (O.getD x 0) (show x+1≤k by omega)
 rw [(ofS_next O _ x).1 rfl] at this
 omega
noncomputable def plS (O:List Nat) (n d:Nat):Nat:=ahS O (O.getD d 0) n+ofS O (O.getD d 0) d
theorem plS_in (O:List Nat) {n d:Nat} (hd:d < n):ahS O (O.getD d 0) n≤plS O n d∧plS O n d < ahS O (O.getD d 0) n+ofS O (O.getD d 0) n:=by
 have:=ofS_lt O hd
 unfold plS
 omega
theorem plS_lt (O:List Nat) {n d:Nat} (hd:d < n):plS O n d < n:=by
 have h1:=(plS_in O hd).2
 have h2:=ahS_le O (O.getD d 0+1) n
 rw [ahS_next] at h2
 omega
theorem plS_sort (O:List Nat) {n d s:Nat} (hd:d < n) (h1:ahS O s n≤plS O n d) (h2:plS O n d < ahS O s n+ofS O s n):O.getD d 0=s:=by
 have a:=plS_in O hd
 rcases Nat.lt_trichotomy (O.getD d 0) s with h | h | h
 ·have:=ahS_mono O n (show O.getD d 0+1≤s by omega)
  rw [ahS_next] at this
  omega
 ·exact h
 ·have:=ahS_mono O n (show s+1≤O.getD d 0 by omega)
  rw [ahS_next] at this
  omega
theorem plS_inj (O:List Nat) {n d e:Nat} (hd:d < n) (he:e < n) (h:plS O n d=plS O n e):d=e:=by
 have a:=plS_in O he
 have hs:=plS_sort O hd (by rw [h];exact a.1) (by rw [h];exact a.2)
 unfold plS at h
 rw [hs] at h
 rcases Nat.lt_trichotomy d e with c | c | c
 ·have:=ofS_lt O (x:=d) (k:=e) c
  rw [hs] at this;omega
 ·exact c
 ·have:=ofS_lt O (x:=e) (k:=d) c
  omega
theorem Srt.start {n K:Nat} {D P O F Z:List Nat} (hD:D.length=n) (hP:P.length=n) (hO:O.length=n) (hF:F.length=K) (hZ:Z.length=K)
  (ho:∀ d,d < n→O.getD d 0 < K) (hz:∀ s,s < K→Z.getD s 0=ofS O s n∧0 < Z.getD s 0) (hf:∀ s,s < K→F.getD s 0=ahS O s n)
  (hp:∀ d,d < n→P.getD d 0=plS O n d) (hd:∀ d,d < n→D.getD (plS O n d) 0=d):Srt n D P O F Z:=by
 have sur:=inj_surj n (plS O n) (fun i hi=>plS_lt O hi) (fun i j hi hj e=>plS_inj O hi hj e)
 have dlt:∀ p,p < n→D.getD p 0 < n:=fun p hp'=>by
  obtain ⟨x,hx,rfl⟩:=sur p hp'
  rw [hd x hx];exact hx
 refine ⟨⟨by omega,fun i hi=>?_,fun i hi=>?_,fun i hi=>?_,fun i hi=>?_⟩,hD,hO,by omega,fun d hd'=>by rw [hF];exact ho d hd',fun s hs=>?_,fun s hs=>(hz s (by omega)).2,fun p s hp' hs=>?_⟩
 ·rw [hD] at hi ⊢;exact dlt i hi
 ·rw [hD] at hi ⊢;rw [hp i hi];exact plS_lt O hi
 ·rw [hD] at hi
  obtain ⟨x,hx,rfl⟩:=sur i hi
  rw [hd x hx,hp x hx]
 ·rw [hD] at hi
  rw [hp i hi,hd i hi]
 ·rw [hf s (by omega),(hz s (by omega)).1,← ahS_next];exact ahS_le _ _ _
 ·obtain ⟨x,hx,rfl⟩:=sur p hp'
  rw [hd x hx,hf s (by omega),(hz s (by omega)).1]
  exact ⟨fun c=>by rw [← c];exact plS_in O hx,fun c=>plS_sort O hx c.1 c.2⟩
set_option maxRecDepth 100000
theorem wpList_append_runR {P:Program} {w:World} {ops:Array Oper} {rest:List Oper} {o:Oper} {a:Act} {Q:Exit→Act→World→Prop} (hw:Region.wanted o (yielded ops a.tmps)=true) (s x:Operand) (t:TypeId)
  (ho:o.op=.call { callee:=.builtin .append,args:=#[s,x],argTypes:=#[t,t] }) (v u v':Value) (w':World) (hs:a.eval s=v) (hx:a.eval x=u)
  (hr:(Builtin.append_ #[t,t] o.type #[v,u]).run P w=.ok v' w') (h:wpList P ops Q rest (a.put o.dst v') w'):wpList P ops Q (o :: rest) a w :=
 wpList_wanted hw fun K hK=>by
  unfold Oper.wp execOp
  simp only [ho,resolve,invoke,builtin,Sem.run_bind,Sem.run_pure,Result.andThen_ok,List.map_toArray,List.map_cons,List.map_nil,hs,hx,hr]
  exact hK _ _ h
abbrev RowX:=Option (TypeId × List Value)
structure RowsR (w:World) (Fr:Nat→Prop) (g:Nat) (T:TypeId) (vs:List Value) (xs:List RowX):Prop where
 bx:Blk w g T vs.toArray
 own:∀ i t x,xs.getD i none=some (t,x)→w.ownsRow 0 t 1 (vs.getD i (.bool false)) x.length x
 ap:∀ i j,i≠j→xs.getD i none≠none→xs.getD j none≠none→∀ k,(vs.getD i (.bool false)).ownBlock=some k→(vs.getD j (.bool false)).ownBlock≠some k
 ng:∀ i,xs.getD i none≠none→(vs.getD i (.bool false)).ownBlock≠some g
 frg:Fr g
 fr:∀ i k,xs.getD i none≠none→(vs.getD i (.bool false)).ownBlock=some k→Fr k
theorem getD_setR {α:Type} (l:List α) (i j:Nat) (x d:α) (hi:i < l.length):(l.set i x).getD j d=if j=i then x else l.getD j d:=by
 rw [List.getD_eq_getElem?_getD,List.getD_eq_getElem?_getD,List.getElem?_set]
 by_cases h:i=j
 ·subst h;simp [hi]
 ·simp [h,Ne.symm h]
theorem getD_ltR {l:List RowX} {i:Nat} {v:TypeId × List Value} (h:l.getD i none=some v):i < l.length:=by
 rcases Nat.lt_or_ge i l.length with h1 | h1
 ·exact h1
 ·rw [List.getD_eq_getElem?_getD,List.getElem?_eq_none h1] at h;cases h
section
variable {w w':World} {Fr Fr':Nat→Prop} {g:Nat} {T:TypeId} {vs:List Value} {xs:List RowX}
theorem RowsR.ownLt (h:RowsR w Fr g T vs xs) {i k:Nat} (hx:xs.getD i none≠none) (hk:(vs.getD i (.bool false)).ownBlock=some k):k < w.heap.size:=by
 cases e:xs.getD i none with
 | none=>exact absurd e hx
 | some p=>exact ((h.own i p.1 p.2 e).lt k hk).2
theorem RowsR.mod {S:Nat→Prop} (h:RowsR w Fr g T vs xs) (m:Mod S w w') (hS:∀ k,S k→¬ Fr k):RowsR w' Fr g T vs xs :=
 ⟨h.bx.mod m (fun c=>hS _ c h.frg),fun i t x e=>own_mod (h.own i t x e) m fun k hk c=>hS _ c (h.fr i k (by rw [e];simp) hk),h.ap,h.ng,h.frg,h.fr⟩
theorem RowsR.below (h:RowsR w Fr g T vs xs) (m:Below w.heap.size w w'):RowsR w' Fr g T vs xs :=
 ⟨h.bx.below m,fun i t x e=>own_below (h.own i t x e) m,h.ap,h.ng,h.frg,h.fr⟩
theorem RowsR.drewN (h:RowsR w Fr g T vs xs) (n:Nat):RowsR (w.drewN n) Fr g T vs xs:=h.below (below_draws (Below.refl _ _) n)
theorem RowsR.mono (h:RowsR w Fr g T vs xs) (hs:∀ k,k < w.heap.size→Fr k→Fr' k):RowsR w Fr' g T vs xs :=
 ⟨h.bx,h.own,h.ap,h.ng,hs _ h.bx.lt h.frg,fun i k hx hk=>hs _ (h.ownLt hx hk) (h.fr i k hx hk)⟩
theorem RowsR.put (h:RowsR w Fr g T vs xs) (i:Nat) {t:TypeId} {x:List Value} {b n c:Nat} (hx:xs.getD i none=some (t,x)) (hv:vs.getD i (.bool false)=.slice (some ⟨b,0,none⟩) n c) (hn:x.length=n) (j:Nat) (u:Value) :
  RowsR (w.setCell ⟨b,j,none⟩ u) Fr g T vs (xs.set i (some (t,x.set j u)))∧Mod (fun k=>k=b) w (w.setCell ⟨b,j,none⟩ u)∧Mod Fr w (w.setCell ⟨b,j,none⟩ u):=by
 have hil:=getD_ltR hx
 have hob:(vs.getD i (.bool false)).ownBlock=some b:=by rw [hv];simp [Value.ownBlock]
 have hne:xs.getD i none≠none:=by rw [hx];simp
 have M:Mod (fun k=>k=b) w (w.setCell ⟨b,j,none⟩ u):=Mod.setCell (p:=⟨b,j,none⟩) (Mod.refl (fun k=>k=b) w) (fun _=>rfl) u
 have same:∀ j',(xs.set i (some (t,x.set j u))).getD j' none≠none→xs.getD j' none≠none:=fun j' hj'=>by
  rw [getD_setR _ _ _ _ _ hil] at hj'
  by_cases e:j'=i
  ·rw [e];exact hne
  ·rwa [if_neg e] at hj'
 refine ⟨⟨h.bx.mod M (fun c=>h.ng i hne (by rw [hob,c])),fun i' t' x' e=>?_,fun i' j' hij h1 h2=>h.ap i' j' hij (same i' h1) (same j' h2),fun i' h1=>h.ng i' (same i' h1),h.frg,fun i' k h1=>h.fr i' k (same i' h1)⟩,M,M.mono fun k _ c=>by rw [c];exact h.fr i b hne hob⟩
 rw [getD_setR _ _ _ _ _ hil] at e
 by_cases ei:i'=i
 ·rw [if_pos ei] at e
  simp only [Option.some.injEq,Prod.mk.injEq] at e
  obtain ⟨rfl,rfl⟩:=e
  have o:=h.own i _ _ hx
  rw [hv] at o
  rw [ei,hv,List.length_set,hn]
  rw [hn] at o
  exact (o.stored j u).1
 ·rw [if_neg ei] at e
  exact own_mod (h.own i' t' x' e) M fun k hk c=>h.ap i i' (Ne.symm ei) hne (by rw [e];simp) b hob (by rw [hk,c])
theorem RowsR.app (h:RowsR w Fr g T vs xs) (i:Nat) {t:TypeId} {x y:List Value} (hx:xs.getD i none=some (t,x)) (hiv:i < vs.length) {w1 w2:World} {v':Value} (hb:Below w.heap.size w w1)
  (ho:w2.ownsRow 0 t 1 v' y.length y) (hg:w1.grownBy w2 (vs.getD i (.bool false)).ownBlock) (hat:v'.ownBlock=(vs.getD i (.bool false)).ownBlock∨v'.ownBlock=some w1.heap.size) (hFr:∀ k,w.heap.size≤k→Fr k) :
  Blk w2 g T vs.toArray∧RowsR (w2.setCell ⟨g,i,none⟩ v') Fr g T (vs.set i v') (xs.set i (some (t,y)))∧Mod Fr w (w2.setCell ⟨g,i,none⟩ v'):=by
 have hil:=getD_ltR hx
 have hne:xs.getD i none≠none:=by rw [hx];simp
 have h1:=h.below hb
 have MG:=Mod.ofGrown hg
 have hgw:=h.bx.lt
 have bx2:Blk w2 g T vs.toArray:=h1.bx.mod MG (fun c=>h.ng i hne c.symm)
 have MX:Mod (fun k=>k=g) w2 (w2.setCell ⟨g,i,none⟩ v'):=Mod.setCell (p:=⟨g,i,none⟩) (Mod.refl (fun k=>k=g) w2) (fun _=>rfl) v'
 have new:∀ k,v'.ownBlock=some k→(vs.getD i (.bool false)).ownBlock=some k∨w.heap.size≤k:=fun k hk=>by
  rcases hat with q | q
  ·exact .inl (by rw [← q];exact hk)
  ·rw [hk] at q
   have:=Option.some.inj q
   exact .inr (by have:=hb.size;omega)
 have gv:∀ j,(vs.set i v').getD j (.bool false)=if j=i then v' else vs.getD j (.bool false):=fun j=>getD_setR _ _ _ _ _ hiv
 have same:∀ j,(xs.set i (some (t,y))).getD j none≠none→xs.getD j none≠none:=fun j hj=>by
  rw [getD_setR _ _ _ _ _ hil] at hj
  by_cases e:j=i
  ·rw [e];exact hne
  ·rwa [if_neg e] at hj
 have nv:v'.ownBlock≠some g:=fun c=>by
  rcases new g c with q | q
  ·exact h.ng i hne q
  ·omega
 have apn:∀ j,j≠i→xs.getD j none≠none→∀ k,v'.ownBlock=some k→(vs.getD j (.bool false)).ownBlock≠some k:=fun j hj hjx k hk c=>by
  rcases new k hk with q | q
  ·exact h.ap i j (Ne.symm hj) hne hjx k q c
  ·have:=h.ownLt hjx c;omega
 refine ⟨bx2,⟨?_,fun i' t' x' e=>?_,fun i' j' hij q1 q2 k hk=>?_,fun i' q1=>?_,h.frg,fun i' k q1 hk=>?_⟩,?_⟩
 ·have:=bx2.set_ i v'
  rwa [List.setIfInBounds_toArray] at this
 ·rw [getD_setR _ _ _ _ _ hil] at e
  rw [gv]
  by_cases ei:i'=i
  ·rw [if_pos ei] at e
   simp only [Option.some.injEq,Prod.mk.injEq] at e
   obtain ⟨rfl,rfl⟩:=e
   rw [if_pos ei]
   exact own_mod ho MX fun k hk c=>nv (by rw [hk,c])
  ·rw [if_neg ei] at e
   rw [if_neg ei]
   have hx':xs.getD i' none≠none:=by rw [e];simp
   exact own_mod (own_mod (h1.own i' t' x' e) MG fun k hk c=>h.ap i i' (Ne.symm ei) hne hx' k c.symm hk) MX fun k hk c=>h.ng i' hx' (by rw [hk,c])
 ·rw [gv] at hk
  rw [gv]
  by_cases e1:i'=i
  ·rw [if_pos e1] at hk
   rw [if_neg (fun c=>hij (e1.trans c.symm))]
   exact apn j' (fun c=>hij (e1.trans c.symm)) (same j' q2) k hk
  ·rw [if_neg e1] at hk
   by_cases e2:j'=i
   ·rw [if_pos e2]
    exact fun c=>apn i' e1 (same i' q1) k c hk
   ·rw [if_neg e2];exact h.ap i' j' hij (same i' q1) (same j' q2) k hk
 ·rw [gv]
  by_cases e1:i'=i
  ·rw [if_pos e1];exact nv
  ·rw [if_neg e1];exact h.ng i' (same i' q1)
 ·rw [gv] at hk
  by_cases e1:i'=i
  ·rw [if_pos e1] at hk
   rcases new k hk with q | q
   ·exact h.fr i k hne q
   ·exact hFr k q
  ·rw [if_neg e1] at hk;exact h.fr i' k (same i' q1) hk
 ·refine Mod.setCell (p:=⟨g,i,none⟩) ?_ (fun _=>h.frg) v'
  exact (Mod.mono (Mod.none_ hb (fun _=>False)) (fun _ _ c=>c.elim)).trans (MG.mono fun k _ c=>h.fr i k hne c.symm) fun _ _ q=>q
theorem ofN_snocR (L:List Nat) (x:Nat):I64 (ofN (L++[x]))=I64 (ofN L)++[.int .i64 (x:Int)]:=by simp [I64,ofN]
theorem lenR (L:List Nat):(I64 (ofN L)).length=L.length:=by simp [I64,ofN]
theorem RowsR.push (h:RowsR w Fr g T vs xs) (i:Nat) {L:List Nat} (hx:xs.getD i none=some (3,I64 (ofN L))) (hiv:i < vs.length) {A:Option Addr} {c:Nat} (hv:vs.getD i (.bool false)=.slice A L.length c) (x:Nat) (hL:L.length≤1000000) (hFr:∀ k,w.heap.size≤k→Fr k) :
  ∃ A1 c1 w1,(Builtin.append_ #[25,25] 25 #[.slice A L.length c,.slice (some ⟨w.heap.size,0,none⟩) 1 1]).run Tryz.prog (w.alloc (.cells #[.int .i64 (x:Int)] 3))=.ok (.slice A1 (L.length+1) c1) w1 ∧
   Blk w1 g T vs.toArray∧RowsR (w1.setCell ⟨g,i,none⟩ (.slice A1 (L.length+1) c1)) Fr g T (vs.set i (.slice A1 (L.length+1) c1)) (xs.set i (some (3,I64 (ofN (L++[x])))))∧Mod Fr w (w1.setCell ⟨g,i,none⟩ (.slice A1 (L.length+1) c1)):=by
 obtain ⟨i0,hi0,hz0,hz1,hz2⟩:=info_parts info_int
 have hal:Below w.heap.size w (w.alloc (.cells #[.int .i64 (x:Int)] 3)):=(Below.refl _ _).alloc (Nat.le_refl _) _
 have ho:=h.own i _ _ hx
 rw [lenR,hv] at ho
 have ho1:=own_below ho hal
 have rd:=Rd.new w 3 #[.int .i64 (x:Int)] 1 [.int .i64 (x:Int)] rfl rfl
 obtain ⟨v',w1,hrun,hnew,hgr,hob⟩:=run_append_rd (P:=Tryz.prog) (w.alloc (.cells #[.int .i64 (x:Int)] 3)) 0 25 25 3 i0 (.int .i64 0) 8 Tryz.underlying25 hi0 hz0 hz1 hz2 rfl _ L.length _ ho1 (w.heap.size+1) (some ⟨w.heap.size,0,none⟩) 1 1 _ rd (by simp [Value.oneCell']) (by simp only [maxLen];omega) (by omega) (Nat.zero_le _)
 obtain ⟨A1,c1,rfl,hc1,hm1⟩:=own_form hnew
 have hnew':w1.ownsRow 0 3 1 (.slice A1 (L.length+1) c1) (I64 (ofN (L++[x]))).length (I64 (ofN (L++[x]))):=by
  rw [ofN_snocR,List.length_append,lenR];exact hnew
 have:=h.app i hx hiv hal hnew' (by rw [hv];exact hgr) (by rw [hv];exact hob) hFr
 exact ⟨A1,c1,w1,hrun,this.1,this.2.1,this.2.2⟩
theorem RowsR.rd (h:RowsR w Fr g T vs xs) (i:Nat) {t:TypeId} {x:List Value} {A:Option Addr} {n c:Nat} (hx:xs.getD i none=some (t,x)) (hv:vs.getD i (.bool false)=.slice A n c) (hn:x.length=n):Rd w w.heap.size A n x:=by
 have o:=h.own i _ _ hx
 rw [hv,hn] at o
 exact Rd.ofOwn o
end
end Go.Proofs.YtajjgpkahljjmaaGreatDoor
namespace Go.Proofs.YtajjgpkahljjmaaGreatDoor
set_option maxRecDepth 100000


section
variable {n:Nat} {D P O F Z C:List Nat} {X Y:Nat→Prop}
theorem Cho.congr (H:Cho n P O F Z C X) (h:∀ x,x < n→(X x↔Y x)):Cho n P O F Z C Y:=⟨H.len,H.le,fun d hd=>(H.is d hd).trans (h d hd)⟩
theorem Cho.pos (S:Srt n D P O F Z) (H:Cho n P O F Z C X) {s:Nat} (hs:s < F.length):0 < C.getD s 0↔∃ x,x < n∧X x∧O.getD x 0=s:=by
 have hfz:=S.fz s hs
 have hz:=S.pos s hs
 constructor
 ·intro h
  have h1:F.getD s 0 < n:=by omega
  have hO:=(S.ins (F.getD s 0) s h1 hs).2 ⟨Nat.le_refl _,by omega⟩
  refine ⟨D.getD (F.getD s 0) 0,S.dlt h1,(H.is _ (S.dlt h1)).1 ?_,hO⟩
  rw [hO,S.pd h1];omega
 ·rintro ⟨x,hx,h1,h2⟩
  have:=(H.is x hx).2 h1
  have h3:=(S.at_ hx hs).1 h2
  rw [h2] at this
  omega
end
section
variable {w W W':World} {Fr:Nat→Prop} {g n gD gP gO cD cP cO cT:Nat} {O F Z:List Nat} {X Y:Nat→Prop} {AT:Option Addr} {T D P C:List Nat}
end
end Go.Proofs.YtajjgpkahljjmaaGreatDoor
namespace Go.Proofs.YtajjgpkahljjmaaGreatDoor
set_option maxRecDepth 20000
open Go.RowKit Go.Maps
def kQ (a c:Nat):Lit:=.string (keyBytes [.int .i64 (a:Int),.int .i64 (c:Int)])
structure LMk (M:DataW Unit) (kd kb:Nat→Nat) (O:List Nat) (k:Nat):Prop where
 tidy:Tidy M
 yes:∀ x,x < k→Maps.has M (kQ (kd x) (kb x))=true∧M.atKey (kQ (kd x) (kb x)) (.lit (.int .i64 0))=.lit (.int .i64 ((O.getD x 0:Nat):Int))
 no:∀ a c,a≤1000000→c≤1000000→(∀ x,x < k→¬ (kd x=a∧kb x=c))→Maps.has M (kQ a c)=false∧M.atKey (kQ a c) (.lit (.int .i64 0))=.lit (.int .i64 0)
theorem LMk.zero (kd kb:Nat→Nat) (O:List Nat):LMk (.map []) kd kb O 0:=⟨tidy_empty,fun x hx=>absurd hx (by omega),fun a c _ _ _=>⟨by simp [Maps.has],by simp [DataW.atKey]⟩⟩
theorem LMk.old {M:DataW Unit} {kd kb:Nat→Nat} {O:List Nat} {k x:Nat} (h:LMk M kd kb O k) (hx:x < k) (h1:kd x=kd k) (h2:kb x=kb k) (hk:k < O.length):LMk M kd kb (O.set k (O.getD x 0)) (k+1) :=
 ⟨h.tidy,fun y hy=>by
  rw [getDN_set _ _ _ _ hk]
  by_cases e:y=k
  ·rw [if_pos e,e,← h1,← h2];exact h.yes x hx
  ·rw [if_neg e];exact h.yes y (by omega),fun a c ha hc hn=>h.no a c ha hc fun y hy=>hn y (by omega)⟩
structure So2 (n k:Nat) (kd kb:Nat→Nat) (O Z:List Nat):Prop where
 ol:O.length=n
 lt:∀ x,x < k→O.getD x 0 < Z.length
 eq:∀ x y,x < k→y < k→((kd x=kd y∧kb x=kb y)↔O.getD x 0=O.getD y 0)
 cz:∀ s,s < Z.length→Z.getD s 0=ofS O s k∧0 < Z.getD s 0
section
variable {n k:Nat} {kd kb:Nat→Nat} {O Z:List Nat}
theorem ofS_set (hk:k < O.length) (v s:Nat):ofS (O.set k v) s (k+1)=ofS O s k+if v=s then 1 else 0:=by
 have h0:ofS (O.set k v) s k=ofS O s k:=num_congr fun d hd=>by rw [getDN_set _ _ _ _ hk,if_neg (by omega)]
 have e:(O.set k v).getD k 0=v:=by rw [getDN_set _ _ _ _ hk,if_pos rfl]
 by_cases c:v=s
 ·rw [if_pos c,(ofS_next _ s k).1 (by rw [e,c]),h0]
 ·rw [if_neg c,(ofS_next _ s k).2 (by rw [e];exact c),h0,Nat.add_zero]
theorem So2.old (h:So2 n k kd kb O Z) (hk:k < n) {x:Nat} (hx:x < k) (h1:kd x=kd k) (h2:kb x=kb k):So2 n (k+1) kd kb (O.set k (O.getD x 0)) (Z.set (O.getD x 0) (Z.getD (O.getD x 0) 0+1)):=by
 have hkl:k < O.length:=by rw [h.ol];exact hk
 have hxl:=h.lt x hx
 have g:∀ y,(O.set k (O.getD x 0)).getD y 0=if y=k then O.getD x 0 else O.getD y 0:=fun y=>getDN_set _ _ _ _ hkl
 refine ⟨by rw [List.length_set];exact h.ol,fun y hy=>?_,fun y z hy hz=>?_,fun s hs=>?_⟩
 ·rw [g,List.length_set];split
  ·exact hxl
  ·exact h.lt y (by omega)
 ·rw [g,g]
  by_cases e1:y=k
  ·rw [if_pos e1,e1,← h1,← h2]
   by_cases e2:z=k
   ·rw [if_pos e2,e2,← h1,← h2];exact ⟨fun _=>rfl,fun _=>⟨rfl,rfl⟩⟩
   ·rw [if_neg e2];exact h.eq x z hx (by omega)
  ·rw [if_neg e1]
   by_cases e2:z=k
   ·rw [if_pos e2,e2,← h1,← h2];exact h.eq y x (by omega) hx
   ·rw [if_neg e2];exact h.eq y z (by omega) (by omega)
 ·rw [List.length_set] at hs
  rw [getDN_set _ _ _ _ hxl,ofS_set hkl]
  have:=h.cz s hs
  by_cases e:s=O.getD x 0
  ·rw [if_pos e,if_pos e.symm,← e];omega
  ·rw [if_neg e,if_neg (Ne.symm e)];omega
theorem So2.new (h:So2 n k kd kb O Z) (hk:k < n) (hn:∀ x,x < k→¬ (kd x=kd k∧kb x=kb k)):So2 n (k+1) kd kb (O.set k Z.length) ((Z++[0]).set Z.length 1):=by
 have hkl:k < O.length:=by rw [h.ol];exact hk
 have g:∀ y,(O.set k Z.length).getD y 0=if y=k then Z.length else O.getD y 0:=fun y=>getDN_set _ _ _ _ hkl
 refine ⟨by rw [List.length_set];exact h.ol,fun y hy=>?_,fun y z hy hz=>?_,fun s hs=>?_⟩
 ·rw [g,List.length_set,List.length_append]
  have e1:[0].length=1:=rfl
  split
  ·omega
  ·have:=h.lt y (by omega);omega
 ·rw [g,g]
  by_cases e1:y=k
  ·rw [if_pos e1,e1]
   by_cases e2:z=k
   ·rw [if_pos e2,e2];exact ⟨fun _=>rfl,fun _=>⟨rfl,rfl⟩⟩
   ·rw [if_neg e2]
    have:=h.lt z (by omega)
    exact ⟨fun c=>absurd ⟨c.1.symm,c.2.symm⟩ (hn z (by omega)),fun c=>by omega⟩
  ·rw [if_neg e1]
   by_cases e2:z=k
   ·rw [if_pos e2,e2]
    have:=h.lt y (by omega)
    exact ⟨fun c=>absurd c (hn y (by omega)),fun c=>by omega⟩
   ·rw [if_neg e2];exact h.eq y z (by omega) (by omega)
 ·rw [List.length_set,List.length_append] at hs
  have e1:[0].length=1:=rfl
  rw [getDN_set _ _ _ _ (by rw [List.length_append];omega),ofS_set hkl,getD_snocC]
  by_cases e:s=Z.length
  ·rw [if_pos e,if_pos e.symm]
   have:ofS O s k=0:=num_zero fun d hd c=>by have:=h.lt d hd;omega
   omega
  ·rw [if_neg e,if_neg (Ne.symm e),if_neg e]
   have:=h.cz s (by omega)
   omega
end
end Go.Proofs.YtajjgpkahljjmaaGreatDoor
namespace Go.Proofs.YtajjgpkahljjmaaGreatDoor
set_option maxRecDepth 100000
open Go.RowKit Go.Maps
theorem rep0_get (K s:Nat):(List.replicate K 0).getD s 0=0:=by
 rw [List.getD_eq_getElem?_getD,List.getElem?_replicate]
 split <;> rfl
end Go.Proofs.YtajjgpkahljjmaaGreatDoor
