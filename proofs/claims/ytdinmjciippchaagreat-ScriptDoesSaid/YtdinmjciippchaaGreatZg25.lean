/- Names by the order of looking, and the walk, of a map by other names: mathematics. -/
import Derived.Test.YtdinmjciippchaaGreatZg24
import Derived.Test.YtdinmjciippchaaGreatZg9
open Go.RowKit
set_option linter.unusedVariables false
set_option linter.unusedSimpArgs false
namespace Go.Proofs.YtdinmjciippchaaGreat
set_option maxRecDepth 20000
theorem getDN_extC {l m:List Nat} (h:l.length=m.length) (hg:∀ i,i < l.length→l.getD i 0=m.getD i 0):l=m:=by
 apply List.ext_getElem h
 intro i h1 h2
 have:=hg i h1
 rwa [List.getD_eq_getElem?_getD,List.getD_eq_getElem?_getD,List.getElem?_eq_getElem h1,List.getElem?_eq_getElem h2] at this
structure Inc (n n':Nat) (g:Nat→Nat):Prop where
 ev:n%2=0
 lt:∀ x,x < n→g x < n'
 mt:∀ x,x < n→g (Go.Proofs.YtdinmjciippchaaGreat.mt x)=Go.Proofs.YtdinmjciippchaaGreat.mt (g x)
 inj:∀ x y,x < n→y < n→g x=g y→x=y
theorem half_iff {n n':Nat} {g:Nat→Nat} (h:Inc n n' g) {a b:Nat} (ha:a < n) (hb:b < n):g a / 2=g b / 2↔a / 2=b / 2:=by
 have hm:=mt_in h.ev hb
 have key:∀ x y:Nat,x / 2=y / 2↔x=y∨x=mt y:=fun x y=>by unfold mt;split <;> omega
 rw [key,key,← h.mt b hb]
 constructor
 ·rintro (e | e)
  ·exact .inl (h.inj a b ha hb e)
  ·exact .inr (h.inj a (mt b) ha hm e)
 ·rintro (e | e)
  ·exact .inl (by rw [e])
  ·exact .inr (by rw [e])
structure WSim (n:Nat) (g:Nat→Nat) (nm nm':Nat→Nat) (s s':WS):Prop where
 lt:s.d < n
 d:s'.d=g s.d
 k:∀ x,x < n→s'.K.getD (g x / 2) 0=s.K.getD (x / 2) 0
 m:∀ x,x < n→s'.M.getD (nm' (g x)) false=s.M.getD (nm x) false
theorem WSim.kind {n n':Nat} {g:Nat→Nat} (h:Inc n n' g) {nm nm':Nat→Nat} {s s':WS} (w:WSim n g nm nm' s s'):s'.k nm'=s.k nm:=by
 have hm:=mt_in h.ev w.lt
 unfold WS.k wKd
 rw [w.d,w.k s.d w.lt,← h.mt s.d w.lt,w.m _ hm]
theorem WSim.next {n n' m m' V V':Nat} {g:Nat→Nat} (h:Inc n n' g) (hn:n=2*m) (hn':n'=2*m') {sg sg' nm nm':Nat→Nat} (hs:∀ d,d < n→sg d < n) (hsg:∀ d,d < n→sg' (g d)=g (sg d))
  (hnm:∀ a b,a < n→b < n→(nm' (g a)=nm' (g b)↔nm a=nm b)) (hv:∀ d,d < n→nm d < V) (hv':∀ d,d < n'→nm' d < V') {s s':WS} (hk:s.K.length=m) (hk':s'.K.length=m') (hM:s.M.length=V) (hM':s'.M.length=V')
  (w:WSim n g nm nm' s s'):WSim n g nm nm' (s.next sg nm) (s'.next sg' nm'):=by
 have hm:=mt_in h.ev w.lt
 have hkd:=w.kind h
 have hpl:=h.lt _ w.lt
 refine ⟨?_,?_,fun x hx=>?_,fun x hx=>?_⟩
 ·show wNx sg s.d (s.k nm) < n
  unfold wNx
  split
  ·exact hs _ hm
  ·exact hs _ w.lt
 ·show wNx sg' s'.d (s'.k nm')=g (wNx sg s.d (s.k nm))
  rw [hkd,w.d]
  unfold wNx
  split
  ·rw [← h.mt s.d w.lt,hsg _ hm]
  ·rw [hsg _ w.lt]
 ·show (wK1 s'.K s'.d (s'.k nm')).getD (g x / 2) 0=(wK1 s.K s.d (s.k nm)).getD (x / 2) 0
  rw [hkd,w.d]
  unfold wK1
  split
  ·rw [getI_set _ _ _ _ (by rw [hk'];omega),getI_set _ _ _ _ (by rw [hk];have:=w.lt;omega)]
   by_cases c:x / 2=s.d / 2
   ·rw [if_pos ((half_iff h hx w.lt).2 c),if_pos c]
   ·rw [if_neg (fun e=>c ((half_iff h hx w.lt).1 e)),if_neg c];exact w.k x hx
  ·exact w.k x hx
 ·show (wM1 nm' s'.M s'.d (s'.k nm')).getD (nm' (g x)) false=(wM1 nm s.M s.d (s.k nm)).getD (nm x) false
  rw [hkd,w.d]
  unfold wM1
  split
  ·rw [← h.mt s.d w.lt,getB_set _ _ _ _ (by rw [hM'];exact hv' _ (h.lt _ hm)),getB_set _ _ _ _ (by rw [hM];exact hv _ hm)]
   by_cases c:nm x=nm (mt s.d)
   ·rw [if_pos ((hnm x _ hx hm).2 c),if_pos c]
   ·rw [if_neg (fun e=>c ((hnm x _ hx hm).1 e)),if_neg c];exact w.m x hx
  ·exact w.m x hx
theorem next_lens {sg nm:Nat→Nat} {s:WS}:(s.next sg nm).K.length=s.K.length∧(s.next sg nm).M.length=s.M.length:=by
 constructor
 ·show (wK1 _ _ _).length=_
  unfold wK1;split <;> simp
 ·show (wM1 _ _ _ _).length=_
  unfold wM1;split <;> simp
theorem wrun_map {n n' m m' V V':Nat} {g:Nat→Nat} (h:Inc n n' g) (hn:n=2*m) (hn':n'=2*m') {sg sg' nm nm':Nat→Nat} (hs:∀ d,d < n→sg d < n) (hsg:∀ d,d < n→sg' (g d)=g (sg d))
  (hnm:∀ a b,a < n→b < n→(nm' (g a)=nm' (g b)↔nm a=nm b)) (hv:∀ d,d < n→nm d < V) (hv':∀ d,d < n'→nm' d < V') {r:Nat} (hr:r < n) :
  ∀ j,WSim n g nm nm' (wrun sg nm m V r j) (wrun sg' nm' m' V' (g r) j)∧(wrun sg nm m V r j).K.length=m∧(wrun sg' nm' m' V' (g r) j).K.length=m'∧(wrun sg nm m V r j).M.length=V∧(wrun sg' nm' m' V' (g r) j).M.length=V'
 | 0=>by
   refine ⟨⟨hr,rfl,fun x hx=>?_,fun x hx=>?_⟩,by simp [wrun],by simp [wrun],by simp [wrun],by simp [wrun]⟩
   ·have h1:g x / 2 < m':=by have:=h.lt x hx;omega
    have h2:x / 2 < m:=by omega
    show (List.replicate m' (-1:Int)).getD _ 0=(List.replicate m (-1:Int)).getD _ 0
    simp only [List.getD_eq_getElem?_getD,List.getElem?_replicate,h1,h2,if_true]
   ·show ((List.replicate V' false).set (nm' (g r)) true).getD (nm' (g x)) false=((List.replicate V false).set (nm r) true).getD (nm x) false
    rw [getB_set _ _ _ _ (by simp;exact hv' _ (h.lt _ hr)),getB_set _ _ _ _ (by simp;exact hv _ hr)]
    have hf:∀ (W k:Nat),(List.replicate W false).getD k false=false:=fun W k=>by
     rw [List.getD_eq_getElem?_getD,List.getElem?_replicate];split <;> rfl
    by_cases c:nm x=nm r
    ·rw [if_pos ((hnm x r hx hr).2 c),if_pos c]
    ·rw [if_neg (fun e=>c ((hnm x r hx hr).1 e)),if_neg c,hf,hf]
 | j+1=>by
   obtain ⟨w,a1,a2,a3,a4⟩:=wrun_map h hn hn' hs hsg hnm hv hv' hr j
   have l1:=@next_lens sg nm (wrun sg nm m V r j)
   have l2:=@next_lens sg' nm' (wrun sg' nm' m' V' (g r) j)
   exact ⟨w.next h hn hn' hs hsg hnm hv hv' a1 a2 a3 a4,l1.1.trans a1,l2.1.trans a2,l1.2.trans a3,l2.2.trans a4⟩
structure LMore (n:Nat) (ds:List Nat) (s t:List Int × Nat):Prop where
 lk:∃ z,LK n t.1 t.2 z
 le:s.2≤t.2
 keep:∀ d,d < n→s.1.getD d 0≠-1→t.1.getD d 0=s.1.getD d 0
 late:∀ d,d < n→s.1.getD d 0=-1→t.1.getD d 0=-1∨(s.2:Int)≤t.1.getD d 0∧t.1.getD d 0 < (t.2:Int)
 iff:∀ d,d < n→(t.1.getD d 0≠-1↔s.1.getD d 0≠-1∨d∈ds∨mt d∈ds)
theorem lookS_get {n:Nat} {y:List Int} {nx d:Nat} (hl:y.length=n) (he:n%2=0) (hd:d < n) (c:y.getD d 0=-1) (i:Nat) :
  (lookS (y,nx) d).1.getD i 0=if i=mt d then ((nx+1:Nat):Int) else if i=d then (nx:Int) else y.getD i 0:=by
 have hm:=mt_in he hd
 have e:lookS (y,nx) d=((y.set d (nx:Int)).set (mt d) ((nx+1:Nat):Int),nx+2):=by unfold lookS;rw [if_pos c]
 rw [e]
 show ((y.set d (nx:Int)).set (mt d) ((nx+1:Nat):Int)).getD i 0=_
 rw [getDI_set _ _ _ _ (by rw [List.length_set,hl];exact hm),getDI_set _ _ _ _ (by rw [hl];exact hd)]
theorem LK.both {n:Nat} {y:List Int} {nx:Nat} {z:List Nat} (h:LK n y nx z) (he:n%2=0) {d:Nat} (hd:d < n) (c:y.getD d 0≠-1):y.getD (Go.Proofs.YtdinmjciippchaaGreat.mt d) 0≠-1:=fun e=>c (by
 have:=h.mate he (mt_in he hd) e
 rwa [mt_mt] at this)
theorem LK.more {n:Nat} (he:n%2=0):∀ (ds:List Nat) (y:List Int) (nx:Nat) (z:List Nat),(∀ d∈ds,d < n)→LK n y nx z→LMore n ds (y,nx) (ds.foldl lookS (y,nx))
 | [],y,nx,z,_,h=>⟨⟨z,h⟩,Nat.le_refl _,fun d _ _=>rfl,fun d _ c=>.inl c,fun d _=>by simp⟩
 | x :: ds,y,nx,z,hds,h=>by
   have hx:=hds x (List.mem_cons_self ..)
   have hm:=mt_in he hx
   rw [List.foldl_cons]
   by_cases c:y.getD x 0=-1
   ·have e:lookS (y,nx) x=((y.set x (nx:Int)).set (Go.Proofs.YtdinmjciippchaaGreat.mt x) ((nx+1:Nat):Int),nx+2):=by unfold lookS;rw [if_pos c]
    have G:=lookS_get (nx:=nx) h.len he hx c
    have h2:=h.mate he hx c
    rw [e] at G ⊢
    have M:=LK.more he ds _ _ _ (fun d hd=>hds d (List.mem_cons_of_mem _ hd)) (h.next he hx c)
    obtain ⟨lk,le,keep,late,hif⟩:=M
    have keep:∀ d,d < n→((y.set x (nx:Int)).set (Go.Proofs.YtdinmjciippchaaGreat.mt x) ((nx+1:Nat):Int)).getD d 0≠-1→(ds.foldl lookS ((y.set x (nx:Int)).set (Go.Proofs.YtdinmjciippchaaGreat.mt x) ((nx+1:Nat):Int),nx+2)).1.getD d 0=((y.set x (nx:Int)).set (Go.Proofs.YtdinmjciippchaaGreat.mt x) ((nx+1:Nat):Int)).getD d 0:=keep
    have G:∀ i,((y.set x (nx:Int)).set (Go.Proofs.YtdinmjciippchaaGreat.mt x) ((nx+1:Nat):Int)).getD i 0=if i=Go.Proofs.YtdinmjciippchaaGreat.mt x then ((nx+1:Nat):Int) else if i=x then (nx:Int) else y.getD i 0:=G
    have le:nx+2≤(ds.foldl lookS ((y.set x (nx:Int)).set (Go.Proofs.YtdinmjciippchaaGreat.mt x) ((nx+1:Nat):Int),nx+2)).2:=le
    refine ⟨lk,by show nx≤_;omega,fun d hd k=>?_,fun d hd k=>?_,fun d hd=>?_⟩
    ·have k':y.getD d 0≠-1:=k
     have n1:d≠Go.Proofs.YtdinmjciippchaaGreat.mt x:=fun e=>k' (by rw [e];exact h2)
     have n2:d≠x:=fun e=>k' (by rw [e];exact c)
     have g:((y.set x (nx:Int)).set (Go.Proofs.YtdinmjciippchaaGreat.mt x) ((nx+1:Nat):Int)).getD d 0=y.getD d 0:=by rw [G,if_neg n1,if_neg n2]
     rw [keep d hd (by rw [g];exact k'),g]
    ·by_cases c1:d=Go.Proofs.YtdinmjciippchaaGreat.mt x
     ·have g:=G d
      rw [if_pos c1] at g
      right
      rw [keep d hd (by rw [g];omega),g]
      show (nx:Int)≤_∧_
      omega
     ·by_cases c2:d=x
      ·have g:=G d
       rw [if_neg c1,if_pos c2] at g
       right
       rw [keep d hd (by rw [g];omega),g]
       show (nx:Int)≤_∧_
       omega
      ·have g:=G d
       rw [if_neg c1,if_neg c2] at g
       have k':y.getD d 0=-1:=k
       rcases late d hd (by show List.getD _ d 0=-1;rw [g];exact k') with l | ⟨l1,l2⟩
       ·exact .inl l
       ·right
        have l1':((nx+2:Nat):Int)≤_:=l1
        refine ⟨?_,l2⟩
        show (nx:Int)≤_
        omega
    ·rw [hif d hd]
     show (List.getD _ d 0≠-1∨_)↔(y.getD d 0≠-1∨_)
     rw [G]
     have hmm:Go.Proofs.YtdinmjciippchaaGreat.mt d=x↔d=Go.Proofs.YtdinmjciippchaaGreat.mt x:=⟨fun e=>by rw [← e,mt_mt],fun e=>by rw [e,mt_mt]⟩
     simp only [List.mem_cons,hmm]
     by_cases c1:d=Go.Proofs.YtdinmjciippchaaGreat.mt x
     ·rw [if_pos c1]
      exact ⟨fun _=>.inr (.inr (.inl c1)),fun _=>.inl (by omega)⟩
     ·rw [if_neg c1]
      by_cases c2:d=x
      ·rw [if_pos c2]
       exact ⟨fun _=>.inr (.inl (.inl c2)),fun _=>.inl (by omega)⟩
      ·rw [if_neg c2]
       constructor
       ·rintro (a | a | a)
        ·exact .inl a
        ·exact .inr (.inl (.inr a))
        ·exact .inr (.inr (.inr a))
       ·rintro (a | (a | a) | (a | a))
        ·exact .inl a
        ·exact absurd a c2
        ·exact .inr (.inl a)
        ·exact absurd a c1
        ·exact .inr (.inr a)
   ·have e:lookS (y,nx) x=(y,nx):=by unfold lookS;rw [if_neg c]
    rw [e]
    obtain ⟨lk,le,keep,late,hif⟩:=LK.more he ds y nx z (fun d hd=>hds d (List.mem_cons_of_mem _ hd)) h
    refine ⟨lk,le,keep,late,fun d hd=>?_⟩
    rw [hif d hd]
    have hmm:Go.Proofs.YtdinmjciippchaaGreat.mt d=x→y.getD d 0≠-1:=fun e=>by
     have:=h.both he hx c
     rwa [← e,mt_mt] at this
    simp only [List.mem_cons]
    constructor
    ·rintro (a | a | a)
     ·exact .inl a
     ·exact .inr (.inl (.inr a))
     ·exact .inr (.inr (.inr a))
    ·rintro (a | (a | a) | (a | a))
     ·exact .inl a
     ·exact .inl (by rw [a];exact c)
     ·exact .inr (.inl a)
     ·exact .inl (hmm a)
     ·exact .inr (.inr a)
theorem look_all {n:Nat} (he:n%2=0) (ds:List Nat) (hds:∀ d∈ds,d < n) (hall:∀ d,d < n→d∈ds∨mt d∈ds):∃ L z,(lookL n ds).1=ofN L∧Nam n L z:=by
 have M:=LK.more he ds _ _ _ hds (LK.start n)
 obtain ⟨z,hz⟩:=M.lk
 obtain ⟨L,e,hN⟩:=hz.done he fun d hd=>(M.iff d hd).2 (.inr (hall d hd))
 exact ⟨L,z,e,hN⟩


noncomputable def wlk (l:List Nat) (r:Nat):List Nat :=
 (List.range (wN (sgL l) (nameOf l) (l.length / 2) (orbits l).length r)).map fun j=>(wrun (sgL l) (nameOf l) (l.length / 2) (orbits l).length r j).d
section
variable {l b:List Nat}
theorem one_nm (hl:Inv l b):∀ x y,x < l.length→y < l.length→(nameOf l x=nameOf l y↔Orb (sgL l) x y):=fun x y hx hy=>name_iff hl hx hy
theorem wlk_lt (hl:Inv l b) (he:l.length%2=0) {r:Nat} (hr:r < l.length):∀ d∈wlk l r,d < l.length:=fun d hd=>by
 obtain ⟨j,_,rfl⟩:=List.mem_map.1 hd
 exact (wok (sgL_pf hl) (show l.length=2*(l.length / 2) by omega) (one_nm hl) (fun x hx=>name_lt hl hx) hr j).lt
theorem wlk_part (hl:Inv l b) (he:l.length%2=0) {r d:Nat} (hr:r < l.length) (hd:d < l.length):d∈wlk l r↔part l r d:=by
 have k:=wpart (sgL_pf hl) (show l.length=2*(l.length / 2) by omega) (one_nm hl) (fun x hx=>name_lt hl hx) hr hd
 unfold part
 rw [k]
 unfold wlk
 rw [List.mem_map]
 exact ⟨fun ⟨j,hj,e⟩=>⟨j,List.mem_range.1 hj,e⟩,fun ⟨j,hj,e⟩=>⟨j,List.mem_range.2 hj,e⟩⟩
end
section
variable {l b:List Nat}
theorem part_mt (hl:Inv l b) (he:l.length%2=0) {d:Nat} (hd:d < l.length):part l d (mt d):=by
 unfold part;exact gk_mt (sgL_pf hl) (by omega) _ hd
end
theorem sorted_eq:∀ a b:List Nat,a.Pairwise (· < ·)→b.Pairwise (· < ·)→(∀ x,x∈a↔x∈b)→a=b
 | [],[],_,_,_=>rfl
 | [],y :: b,_,_,h=>absurd ((h y).2 (List.mem_cons_self ..)) (by simp)
 | x :: a,[],_,_,h=>absurd ((h x).1 (List.mem_cons_self ..)) (by simp)
 | x :: a,y :: b,ha,hb,h=>by
   rw [List.pairwise_cons] at ha hb
   have hxy:x=y:=by
    rcases List.mem_cons.1 ((h x).1 (List.mem_cons_self ..)) with c | c
    ·exact c
    ·rcases List.mem_cons.1 ((h y).2 (List.mem_cons_self ..)) with k | k
     ·exact k.symm
     ·have:=ha.1 y k
      have:=hb.1 x c
      omega
   subst hxy
   rw [sorted_eq a b ha.2 hb.2 fun z=>⟨fun hz=>?_,fun hz=>?_⟩]
   ·rcases List.mem_cons.1 ((h z).1 (List.mem_cons_of_mem _ hz)) with c | c
    ·have:=ha.1 z hz;omega
    ·exact c
   ·rcases List.mem_cons.1 ((h z).2 (List.mem_cons_of_mem _ hz)) with c | c
    ·have:=hb.1 z hz;omega
    ·exact c
open Classical in
noncomputable def starts (l:List Nat) (r:Nat):List Nat:=r :: (List.range l.length).filter fun d=>decide (Least (part l) d∧¬ part l r d)
section
variable {l b:List Nat}
theorem starts_mem {r d:Nat}:d∈starts l r↔d=r∨(d < l.length∧Least (part l) d∧¬ part l r d):=by
 simp [starts]
theorem starts_lt {r:Nat} (hr:r < l.length):∀ s∈starts l r,s < l.length:=fun s hs=>by
 rcases starts_mem.1 hs with c | c
 ·rw [c];exact hr
 ·exact c.1
theorem starts_all (hl:Inv l b) (he:l.length%2=0) {r:Nat} (hr:r < l.length) {d:Nat} (hd:d < l.length):∃ s∈starts l r,part l s d:=by
 have hq:=part_eqv hl he
 by_cases c:part l r d
 ·exact ⟨r,starts_mem.2 (.inl rfl),c⟩
 ·obtain ⟨N,hN,hp,hle⟩:=least_k (p:=fun k=>part l k d) d (hq.refl d hd)
  have hNl:N < l.length:=by omega
  exact ⟨N,starts_mem.2 (.inr ⟨hNl,fun j hj hpj=>hle j hj (hq.trans _ _ _ (by omega) hNl hd hpj hp),fun hrN=>c (hq.trans _ _ _ hr hNl hd hrN hp)⟩),hp⟩
structure CanA (l:List Nat) (r:Nat) (P Q:List Nat):Prop where
 nam:Nam l.length P Q
 is:(lookL l.length ((starts l r).flatMap (wlk l))).1=ofN P
theorem looks_lt (hl:Inv l b) (he:l.length%2=0) {r:Nat} (hr:r < l.length):∀ d∈(starts l r).flatMap (wlk l),d < l.length:=fun d hd=>by
 obtain ⟨s,hs,hd'⟩:=List.mem_flatMap.1 hd
 exact wlk_lt hl he (starts_lt hr s hs) d hd'
theorem canA_is (hl:Inv l b) (he:l.length%2=0) {r:Nat} (hr:r < l.length):∃ P Q,CanA l r P Q:=by
 obtain ⟨P,Q,e,h⟩:=look_all he _ (looks_lt hl he hr) fun d hd=>by
  obtain ⟨s,hs,hp⟩:=starts_all hl he hr hd
  exact .inl (List.mem_flatMap.2 ⟨s,hs,(wlk_part hl he (starts_lt hr s hs) hd).2 hp⟩)
 exact ⟨P,Q,h,e⟩
end
def bothD (E:List Nat):List Nat:=E.flatMap fun e=>[2*e,2*e+1]
theorem bothD_len:∀ E:List Nat,(bothD E).length=2*E.length
 | []=>rfl
 | e :: E=>by
   have:=bothD_len E
   unfold bothD at this ⊢
   rw [List.flatMap_cons,List.length_append,this]
   simp only [List.length_cons,List.length_nil]
   omega
theorem bothD_get:∀ (E:List Nat) (i:Nat),i < 2*E.length→(bothD E).getD i 0=2*E.getD (i / 2) 0+i%2
 | [],i,h=>by simp at h
 | e :: E,0,h=>by simp [bothD]
 | e :: E,1,h=>by simp [bothD]
 | e :: E,i+2,h=>by
   have ih:=bothD_get E i (by simp only [List.length_cons] at h;omega)
   have e1:(bothD (e :: E)).getD (i+2) 0=(bothD E).getD i 0:=by
    unfold bothD
    rw [List.flatMap_cons]
    simp [List.getD_eq_getElem?_getD]
   have e2:(e :: E).getD ((i+2) / 2) 0=E.getD (i / 2) 0:=by
    rw [show (i+2) / 2=i / 2+1 by omega]
    simp [List.getD_eq_getElem?_getD]
   rw [e1,e2,ih]
   omega
theorem bothD_mem {E:List Nat} {d:Nat}:d∈bothD E↔d / 2∈E:=by
 unfold bothD
 rw [List.mem_flatMap]
 constructor
 ·rintro ⟨e,he,hd⟩
  simp only [List.mem_cons,List.not_mem_nil,or_false] at hd
  rwa [show d / 2=e by omega]
 ·exact fun h=>⟨d / 2,h,by simp only [List.mem_cons,List.not_mem_nil,or_false];omega⟩
theorem bothD_rises:∀ {E:List Nat},E.Pairwise (· < ·)→(bothD E).Pairwise (· < ·)
 | [],_=>List.Pairwise.nil
 | e :: E,h=>by
   rw [List.pairwise_cons] at h
   have ih:=bothD_rises h.2
   have hm:∀ d∈bothD E,2*e+1 < d:=fun d hd=>by have:=h.1 _ (bothD_mem.1 hd);omega
   show List.Pairwise _ ((2*e) :: (2*e+1) :: bothD E)
   refine List.Pairwise.cons (fun d hd=>?_) (List.Pairwise.cons hm ih)
   rcases List.mem_cons.1 hd with c | c
   ·omega
   ·have:=hm d c;omega
theorem rises_get {D:List Nat} (h:D.Pairwise (· < ·)) {i j:Nat} (hij:i < j) (hj:j < D.length):D.getD i 0 < D.getD j 0:=by
 have:=List.pairwise_iff_getElem.1 h i j (by omega) hj hij
 rw [List.getD_eq_getElem?_getD,List.getD_eq_getElem?_getD,List.getElem?_eq_getElem hj,List.getElem?_eq_getElem (show i < D.length by omega)]
 exact this
open Classical in
noncomputable def own (l:List Nat) (r:Nat):List Nat:=(List.range l.length).filter fun d=>decide (part l r d)
section
variable {l b:List Nat}
theorem own_mem {r d:Nat}:d∈own l r↔d < l.length∧part l r d:=by simp [own]
open Classical in
theorem own_both (hl:Inv l b) (he:l.length%2=0) {r:Nat} (hr:r < l.length):∃ E:List Nat,own l r=bothD E∧E.Pairwise (· < ·):=by
 have hq:=part_eqv hl he
 have hE:((List.range (l.length / 2)).filter fun e=>decide (part l r (2*e))).Pairwise (· < ·):=List.pairwise_lt_range.filter _
 refine ⟨(List.range (l.length / 2)).filter fun e=>decide (part l r (2*e)),sorted_eq _ _ (List.pairwise_lt_range.filter _) (bothD_rises hE) fun d=>?_,hE⟩
 rw [own_mem,bothD_mem,List.mem_filter,List.mem_range]
 simp only [decide_eq_true_eq]
 have key:d < l.length→(part l r d↔part l r (2*(d / 2))):=fun hd=>by
  by_cases c:d%2=0
  ·rw [show 2*(d / 2)=d by omega]
  ·have hm:mt d=2*(d / 2):=by unfold mt;rw [if_neg c];omega
   have hmd:=mt_in he hd
   rw [← hm]
   exact ⟨fun p=>hq.trans _ _ _ hr hd hmd p (part_mt hl he hd),fun p=>hq.trans _ _ _ hr hmd hd p (hq.symm _ _ hd hmd (part_mt hl he hd))⟩
 exact ⟨fun ⟨h1,h2⟩=>⟨by omega,(key h1).1 h2⟩,fun ⟨h1,h2⟩=>⟨by omega,(key (by omega)).2 h2⟩⟩
theorem own_inc (hl:Inv l b) (he:l.length%2=0) {r:Nat} (hr:r < l.length):Inc (own l r).length l.length (sgL (own l r)):=by
 obtain ⟨E,hE,hp⟩:=own_both hl he hr
 have hD:=bothD_rises hp
 have hlen:=bothD_len E
 have hlt:∀ d∈own l r,d < l.length:=fun d hd=>(own_mem.1 hd).1
 rw [hE] at hlt ⊢
 refine ⟨by omega,fun x hx=>hlt _ ?_,fun x hx=>?_,fun x y hx hy e=>?_⟩
 ·show (bothD E).getD x 0∈_
  rw [List.getD_eq_getElem?_getD,List.getElem?_eq_getElem hx]
  exact List.getElem_mem hx
 ·have hm:=mt_in (n:=(bothD E).length) (by omega) hx
  have e1:sgL (bothD E) x=2*E.getD (x / 2) 0+x%2:=bothD_get E x (by omega)
  have e2:sgL (bothD E) (Go.Proofs.YtdinmjciippchaaGreat.mt x)=2*E.getD (Go.Proofs.YtdinmjciippchaaGreat.mt x / 2) 0+Go.Proofs.YtdinmjciippchaaGreat.mt x%2:=bothD_get E _ (by omega)
  have e3:Go.Proofs.YtdinmjciippchaaGreat.mt x / 2=x / 2:=by unfold Go.Proofs.YtdinmjciippchaaGreat.mt;split <;> omega
  rw [e1,e2,e3]
  unfold Go.Proofs.YtdinmjciippchaaGreat.mt
  by_cases c:x%2=0
  ·rw [if_pos c,if_pos (by omega)];omega
  ·rw [if_neg c,if_neg (by omega)];omega
 ·have e':(bothD E).getD x 0=(bothD E).getD y 0:=e
  rcases Nat.lt_trichotomy x y with c | c | c
  ·have:=rises_get hD c hy;omega
  ·exact c
  ·have:=rises_get hD c hx;omega
end
structure Lies (l A:List Nat) (g:Nat→Nat):Prop where
 inc:Inc A.length l.length g
 sig:∀ i,i < A.length→g (sgL A i)=sgL l (g i)
section
variable {l b A B:List Nat} {g:Nat→Nat}
theorem Lies.it (h:Lies l A g) (hA:Inv A B) {i:Nat} (hi:i < A.length):∀ k,itf (sgL l) k (g i)=g (itf (sgL A) k i)
 | 0=>rfl
 | k+1=>by
   have ih:=h.it hA hi k
   show sgL l (itf (sgL l) k (g i))=g (sgL A (itf (sgL A) k i))
   rw [ih,h.sig _ ((sgL_pf hA).itlt hi k)]
theorem Lies.orb (h:Lies l A g) (hA:Inv A B) {i j:Nat} (hi:i < A.length) (hj:j < A.length):Orb (sgL l) (g i) (g j)↔Orb (sgL A) i j:=by
 constructor
 ·rintro ⟨k,e⟩
  rw [h.it hA hi] at e
  exact ⟨k,h.inc.inj _ _ ((sgL_pf hA).itlt hi k) hj e⟩
 ·rintro ⟨k,e⟩
  exact ⟨k,by rw [h.it hA hi,e]⟩
theorem Lies.walk (h:Lies l A g) (hA:Inv A B) (hl:Inv l b) (he:l.length%2=0) {r:Nat} (hr:r < A.length):(wlk A r).map g=wlk l (g r):=by
 have hev:=h.inc.ev
 have hn:A.length=2*(A.length / 2):=by omega
 have hn':l.length=2*(l.length / 2):=by omega
 have hpr:=h.inc.lt r hr
 have hnm:∀ x y,x < A.length→y < A.length→(nameOf l (g x)=nameOf l (g y)↔nameOf A x=nameOf A y):=fun x y hx hy=>by
  rw [name_iff hl (h.inc.lt x hx) (h.inc.lt y hy),name_iff hA hx hy,h.orb hA hx hy]
 have key:=fun j=>(wrun_map h.inc hn hn' (sg:=sgL A) (sg':=sgL l) (nm:=nameOf A) (nm':=nameOf l) (fun d hd=>hA.lt d hd) (fun d hd=>(h.sig d hd).symm) hnm (fun d hd=>name_lt hA hd) (fun d hd=>name_lt hl hd) hr j).1
 obtain ⟨a1,a2,a3,a4⟩:=wN_is (sgL_pf hA) hn (one_nm hA) (fun x hx=>name_lt hA hx) hr
 obtain ⟨b1,b2,b3,b4⟩:=wN_is (sgL_pf hl) hn' (one_nm hl) (fun x hx=>name_lt hl hx) hpr
 have eN:wN (sgL l) (nameOf l) (l.length / 2) (orbits l).length (g r)=wN (sgL A) (nameOf A) (A.length / 2) (orbits A).length r:=by
  refine Nat.le_antisymm ?_ ?_
  ·refine Nat.le_of_not_lt fun c=>b4 _ a1 c ?_
   rw [(key _).d,a3]
  ·refine Nat.le_of_not_lt fun c=>a4 _ b1 c ?_
   have k:=(key (wN (sgL l) (nameOf l) (l.length / 2) (orbits l).length (g r))).d
   rw [b3] at k
   exact h.inc.inj _ _ (key _).lt hr k.symm
 unfold wlk
 rw [eN,List.map_map]
 exact List.map_congr_left fun j _=>((key j).d).symm
end
theorem own_lies {l b A:List Nat} (hl:Inv l b) (he:l.length%2=0) {r:Nat} (hr:r < l.length) (hlen:A.length=(own l r).length) (hs:∀ i,i < A.length→sgL (own l r) (sgL A i)=sgL l (sgL (own l r) i)):Lies l A (sgL (own l r)) :=
 ⟨by rw [hlen];exact own_inc hl he hr,hs⟩
theorem lies_pf {l b A:List Nat} {g:Nat→Nat} (h:Lies l A g) (hl:Inv l b) (hlt:∀ i,i < A.length→sgL A i < A.length):PF A.length (sgL A) :=
 ⟨hlt,fun i j hi hj e=>h.inc.inj i j hi hj ((sgL_pf hl).inj _ _ (h.inc.lt i hi) (h.inc.lt j hj) (by rw [← h.sig i hi,← h.sig j hj,e]))⟩
end Go.Proofs.YtdinmjciippchaaGreat
