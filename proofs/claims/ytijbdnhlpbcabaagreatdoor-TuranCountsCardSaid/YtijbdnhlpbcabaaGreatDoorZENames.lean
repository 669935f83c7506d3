/- Euler's inequality: cycles of a permutation, joined and parted by exchanges; classes of a relation. Euler's inequality: of one part vertices, edges and borders tell a genus that is never below nought; a tree's edges. The parts of a map: their least darts and their numbers; how a part is flooded. -/
import Derived.Test.YtijbdnhlpbcabaaGreatDoorZPMake
set_option linter.unusedVariables false
namespace Go.Proofs.YtijbdnhlpbcabaaGreatDoor
/-! ### classes -/
structure Eqv (n:Nat) (R:Nat→Nat→Prop):Prop where
 refl:∀ i,i < n→R i i
 symm:∀ i j,i < n→j < n→R i j→R j i
 trans:∀ i j k,i < n→j < n→k < n→R i j→R j k→R i k
def Least (R:Nat→Nat→Prop) (i:Nat):Prop:=∀ j,j < i→¬ R j i
open Classical in
noncomputable def cls (R:Nat→Nat→Prop) (P:Nat→Prop) (n:Nat):Nat:=((List.range n).filter fun i=>decide (P i∧Least R i)).length
def joinR (R:Nat→Nat→Prop) (a b:Nat):Nat→Nat→Prop:=fun i j=>R i j∨(R i a∧R b j)∨(R i b∧R a j)
theorem joinR.eqv {n:Nat} {R:Nat→Nat→Prop} (h:Eqv n R) {a b:Nat} (ha:a < n) (hb:b < n):Eqv n (joinR R a b):=by
 refine ⟨fun i hi=>.inl (h.refl i hi),fun i j hi hj=>?_,fun i j k hi hj hk=>?_⟩
 ·rintro (r | ⟨r1,r2⟩ | ⟨r1,r2⟩)
  ·exact .inl (h.symm i j hi hj r)
  ·exact .inr (.inr ⟨h.symm b j hb hj r2,h.symm i a hi ha r1⟩)
  ·exact .inr (.inl ⟨h.symm a j ha hj r2,h.symm i b hi hb r1⟩)
 ·rintro (r | ⟨r1,r2⟩ | ⟨r1,r2⟩) (s | ⟨s1,s2⟩ | ⟨s1,s2⟩)
  ·exact .inl (h.trans i j k hi hj hk r s)
  ·exact .inr (.inl ⟨h.trans i j a hi hj ha r s1,s2⟩)
  ·exact .inr (.inr ⟨h.trans i j b hi hj hb r s1,s2⟩)
  ·exact .inr (.inl ⟨r1,h.trans b j k hb hj hk r2 s⟩)
  ·exact .inr (.inl ⟨r1,s2⟩)
  ·exact .inl (h.trans i a k hi ha hk r1 s2)
  ·exact .inr (.inr ⟨r1,h.trans a j k ha hj hk r2 s⟩)
  ·exact .inl (h.trans i b k hi hb hk r1 s2)
  ·exact .inr (.inr ⟨r1,s2⟩)
theorem cls_congr {R S:Nat→Nat→Prop} {P:Nat→Prop} {n:Nat} (h:∀ i j,i < n→j < n→P j→(R i j↔S i j)):cls R P n=cls S P n:=by
 unfold cls
 congr 1
 apply List.filter_congr
 intro i hi
 have hi':i < n:=by simpa using hi
 have:(P i∧Least R i)↔(P i∧Least S i):=by
  constructor
  ·rintro ⟨p,l⟩;exact ⟨p,fun j hj s=>l j hj ((h j i (by omega) hi' p).2 s)⟩
  ·rintro ⟨p,l⟩;exact ⟨p,fun j hj s=>l j hj ((h j i (by omega) hi' p).1 s)⟩
 simp [this]
theorem least_ex {n:Nat} {R:Nat→Nat→Prop} (h:Eqv n R):∀ a,a < n→∃ p,p≤a∧R p a∧Least R p:=by
 intro a
 induction a using Nat.strongRecOn with
 | ind a ih =>
   intro ha
   by_cases hl:Least R a
   ·exact ⟨a,Nat.le_refl _,h.refl a ha,hl⟩
   ·have:∃ j,j < a∧R j a:=Classical.byContradiction fun hn=>hl fun j hj r=>hn ⟨j,hj,r⟩
    obtain ⟨j,hj,r⟩:=this
    obtain ⟨p,p1,p2,p3⟩:=ih j hj (by omega)
    exact ⟨p,by omega,h.trans p j a (by omega) (by omega) ha p2 r,p3⟩
theorem least_uniq {n:Nat} {R:Nat→Nat→Prop} (h:Eqv n R) {p q:Nat} (hp:p < n) (hq:q < n) (r:R p q) (lp:Least R p) (lq:Least R q):p=q:=by
 rcases Nat.lt_trichotomy p q with x | x | x
 ·exact absurd r (lq p x)
 ·exact x
 ·exact absurd (h.symm p q hp hq r) (lp q x)
theorem filter_less {L:List Nat} (hn:L.Nodup) (A B:Nat→Prop) [DecidablePred A] [DecidablePred B] (q:Nat) (hq:q∈L) (hA:A q) (h:∀ i,i∈L→(B i↔A i∧i≠q)) :
  (L.filter fun i=>decide (B i)).length+1=(L.filter fun i=>decide (A i)).length:=by
 induction L with
 | nil=>cases hq
 | cons x L ih =>
   rw [List.nodup_cons] at hn
   by_cases hx:x=q
   ·subst hx
    have hb:¬ B x:=fun b=>((h x (List.mem_cons_self ..)).1 b).2 rfl
    rw [List.filter_cons_of_neg (by simpa using hb),List.filter_cons_of_pos (by simpa using hA)]
    have:(L.filter fun i=>decide (B i))=L.filter fun i=>decide (A i):=by
     apply List.filter_congr
     intro i hi
     have:=h i (List.mem_cons_of_mem _ hi)
     have hne:i≠x:=fun e=>by subst e;exact hn.1 hi
     simp [this,hne]
    rw [this]
    rfl
   ·have hq':q∈L:=by
     rcases List.mem_cons.1 hq with e | e
     ·exact absurd e.symm hx
     ·exact e
    have ih':=ih hn.2 hq' fun i hi=>h i (List.mem_cons_of_mem _ hi)
    have hxx:=h x (List.mem_cons_self ..)
    by_cases ax:A x
    ·have bx:B x:=hxx.2 ⟨ax,hx⟩
     rw [List.filter_cons_of_pos (by simpa using bx),List.filter_cons_of_pos (by simpa using ax)]
     simp only [List.length_cons]
     omega
    ·have bx:¬ B x:=fun b=>ax (hxx.1 b).1
     rw [List.filter_cons_of_neg (by simpa using bx),List.filter_cons_of_neg (by simpa using ax)]
     exact ih'
theorem cls_join {n:Nat} {R:Nat→Nat→Prop} {P:Nat→Prop} (h:Eqv n R) (hP:∀ i j,i < n→j < n→R i j→P i→P j) {a b:Nat} (ha:a < n) (hb:b < n) (pa:P a) (pb:P b) (hab:¬ R a b) :
  cls (joinR R a b) P n+1=cls R P n:=by
 have key:∀ a b,a < n→b < n→P a→P b→¬ R a b→(∃ p q,p < q∧p≤a∧q≤b∧R p a∧R q b∧Least R p∧Least R q)→cls (joinR R a b) P n+1=cls R P n:=by
  intro a b ha hb pa pb hab ⟨p,q,hpq,hpa,hqb,rp,rq,lp,lq⟩
  unfold cls
  classical
  refine filter_less (List.nodup_range) _ _ q (by simp;omega) ⟨hP b q hb (by omega) (h.symm q b (by omega) hb rq) pb,lq⟩ fun i hi=>?_
  have hi':i < n:=by simpa using hi
  constructor
  ·rintro ⟨pi,li⟩
   refine ⟨⟨pi,fun j hj r=>li j hj (.inl r)⟩,fun e=>?_⟩
   subst e
   exact li p hpq (.inr (.inl ⟨rp,h.symm i b hi' hb rq⟩))
  ·rintro ⟨⟨pi,li⟩,hne⟩
   refine ⟨pi,fun j hj r=>?_⟩
   rcases r with r | ⟨r1,r2⟩ | ⟨r1,r2⟩
   ·exact li j hj r
   ·exact hne (least_uniq h hi' (by omega) (h.trans i b q hi' hb (by omega) (h.symm b i hb hi' r2) (h.symm q b (by omega) hb rq)) li lq)
   ·obtain rfl:i=p:=least_uniq h hi' (by omega) (h.trans i a p hi' ha (by omega) (h.symm a i ha hi' r2) (h.symm p a (by omega) ha rp)) li lp
    exact lq j (by omega) (h.trans j b q (by omega) hb (by omega) r1 (h.symm q b (by omega) hb rq))
 obtain ⟨p,p1,p2,p3⟩:=least_ex h a ha
 obtain ⟨q,q1,q2,q3⟩:=least_ex h b hb
 rcases Nat.lt_trichotomy p q with x | x | x
 ·exact key a b ha hb pa pb hab ⟨p,q,x,p1,q1,p2,q2,p3,q3⟩
 ·subst x
  exact absurd (h.trans a p b ha (by omega) hb (h.symm p a (by omega) ha p2) q2) hab
 ·have:=key b a hb ha pb pa (fun r=>hab (h.symm b a hb ha r)) ⟨q,p,x,q1,p1,q2,p2,q3,p3⟩
  rw [← this]
  congr 1
  exact cls_congr fun i j hi hj pj=>⟨fun r=>by rcases r with r | r | r;exact .inl r;exact .inr (.inr r);exact .inr (.inl r),fun r=>by rcases r with r | r | r;exact .inl r;exact .inr (.inr r);exact .inr (.inl r)⟩
/-! ### permutations -/
structure PF (n:Nat) (f:Nat→Nat):Prop where
 lt:∀ i,i < n→f i < n
 inj:∀ i j,i < n→j < n→f i=f j→i=j
def itf (f:Nat→Nat):Nat→Nat→Nat
 | 0,i=>i
 | k+1,i=>f (itf f k i)
theorem itf_add (f:Nat→Nat) (a i:Nat):∀ k,itf f (k+a) i=itf f k (itf f a i)
 | 0=>by rw [Nat.zero_add];rfl
 | k+1=>by rw [show k+1+a=(k+a)+1 by omega];show f _=f _;rw [itf_add f a i k]
theorem itf_succ (f:Nat→Nat) (k i:Nat):itf f (k+1) i=itf f k (f i):=itf_add f 1 i k
theorem PF.itlt {n:Nat} {f:Nat→Nat} (h:PF n f) {i:Nat} (hi:i < n):∀ k,itf f k i < n
 | 0=>hi
 | k+1=>h.lt _ (h.itlt hi k)
theorem PF.itinj {n:Nat} {f:Nat→Nat} (h:PF n f) {i j:Nat} (hi:i < n) (hj:j < n):∀ k,itf f k i=itf f k j→i=j
 | 0,e=>e
 | k+1,e=>h.itinj hi hj k (h.inj _ _ (h.itlt hi k) (h.itlt hj k) e)
theorem PF.back {n:Nat} {f:Nat→Nat} (h:PF n f) {i:Nat} (hi:i < n):∃ k,1≤k∧itf f k i=i:=by
 have:∃ a b,a < b∧itf f a i=itf f b i:=Classical.byContradiction fun hn=>by
  have hinj:∀ a b,a < n+1→b < n+1→itf f a i=itf f b i→a=b:=fun a b _ _ e=>by
   rcases Nat.lt_trichotomy a b with x | x | x
   ·exact absurd ⟨a,b,x,e⟩ hn
   ·exact x
   ·exact absurd ⟨b,a,x,e.symm⟩ hn
  obtain ⟨k,hk,e⟩:=inj_surj (n+1) (fun k=>itf f k i) (fun k _=>by have:=h.itlt hi k;show itf f k i < n+1;omega) hinj n (by omega)
  have:=h.itlt hi k
  have e':itf f k i=n:=e
  omega
 obtain ⟨a,b,hab,e⟩:=this
 refine ⟨b - a,by omega,?_⟩
 have e2:itf f a (itf f (b - a) i)=itf f a i:=by rw [← itf_add,show a+(b - a)=b by omega,e]
 exact h.itinj (h.itlt hi _) hi a e2
def Orb (f:Nat→Nat) (i j:Nat):Prop:=∃ k,itf f k i=j
theorem itf_mul {f:Nat→Nat} {i k:Nat} (h:itf f k i=i):∀ m,itf f (m*k) i=i
 | 0=>by rw [Nat.zero_mul];rfl
 | m+1=>by rw [Nat.add_mul,Nat.one_mul,itf_add,h,itf_mul h m]
theorem PF.eqv {n:Nat} {f:Nat→Nat} (h:PF n f):Eqv n (Orb f):=by
 refine ⟨fun i _=>⟨0,rfl⟩,fun i j hi hj=>?_,fun i j k _ _ _=>?_⟩
 ·rintro ⟨k,rfl⟩
  obtain ⟨p,hp,e⟩:=h.back hi
  refine ⟨k*p - k,?_⟩
  have hle:k≤k*p:=Nat.le_mul_of_pos_right k hp
  rw [← itf_add,show k*p - k+k=k*p by omega]
  exact itf_mul e k
 ·rintro ⟨a,rfl⟩ ⟨b,rfl⟩
  exact ⟨b+a,itf_add f a i b⟩
def swp (a b i:Nat):Nat:=if i=a then b else if i=b then a else i
theorem swp_lt {n a b i:Nat} (ha:a < n) (hb:b < n) (hi:i < n):swp a b i < n:=by unfold swp;split <;> (try split) <;> assumption
theorem swp_swp (a b i:Nat):swp a b (swp a b i)=i:=by
 unfold swp
 by_cases h1:i=a
 ·subst h1
  rw [if_pos rfl]
  by_cases h2:b=i
  ·rw [if_pos h2,h2]
  ·rw [if_neg h2,if_pos rfl]
 ·rw [if_neg h1]
  by_cases h2:i=b
  ·subst h2;rw [if_pos rfl,if_pos rfl]
  ·rw [if_neg h2,if_neg h1,if_neg h2]
theorem PF.swap {n:Nat} {f:Nat→Nat} (h:PF n f) {a b:Nat} (ha:a < n) (hb:b < n):PF n fun i=>f (swp a b i) :=
 ⟨fun i hi=>h.lt _ (swp_lt ha hb hi),fun i j hi hj e=>by
  have:=h.inj _ _ (swp_lt ha hb hi) (swp_lt ha hb hj) e
  rw [← swp_swp a b i,this,swp_swp]⟩
theorem orb_sub {n:Nat} {f g:Nat→Nat} (hf:PF n f) {a b:Nat} (ha:a < n) (hb:b < n) (hg:∀ i,i < n→g i=f (swp a b i)) (hgn:∀ i,i < n→g i < n) :
  ∀ k i,i < n→joinR (Orb f) a b i (itf g k i):=by
 have hj:=joinR.eqv hf.eqv ha hb
 have hit:∀ k i,i < n→itf g k i < n:=fun k=>by
  induction k with
  | zero=>intro i hi;exact hi
  | succ k ih=>intro i hi;exact hgn _ (ih i hi)
 intro k
 induction k with
 | zero=>intro i hi;exact .inl ⟨0,rfl⟩
 | succ k ih =>
   intro i hi
   have h1:=ih i hi
   have hx:=hit k i hi
   refine hj.trans i (itf g k i) _ hi hx (hgn _ hx) h1 ?_
   show joinR (Orb f) a b (itf g k i) (g (itf g k i))
   rw [hg _ hx]
   generalize itf g k i=x at *
   have h2:joinR (Orb f) a b x (swp a b x):=by
    unfold swp
    by_cases e1:x=a
    ·rw [if_pos e1,e1];exact .inr (.inl ⟨⟨0,rfl⟩,⟨0,rfl⟩⟩)
    ·rw [if_neg e1]
     by_cases e2:x=b
     ·rw [if_pos e2,e2];exact .inr (.inr ⟨⟨0,rfl⟩,⟨0,rfl⟩⟩)
     ·rw [if_neg e2];exact .inl ⟨0,rfl⟩
   exact hj.trans _ _ _ hx (swp_lt ha hb hx) (hf.lt _ (swp_lt ha hb hx)) h2 (.inl ⟨1,rfl⟩)
theorem orb_join {n:Nat} {f:Nat→Nat} (hf:PF n f) {a b:Nat} (ha:a < n) (hb:b < n) (i j:Nat) (hi:i < n) (hj:j < n) :
  joinR (Orb f) a b i j↔joinR (Orb fun i=>f (swp a b i)) a b i j:=by
 have hg:=hf.swap ha hb
 have e1:=joinR.eqv hf.eqv ha hb
 have e2:=joinR.eqv hg.eqv ha hb
 have A:∀ i j,i < n→j < n→Orb (fun i=>f (swp a b i)) i j→joinR (Orb f) a b i j:=fun i j hi hj ⟨k,e⟩=>by
  subst e
  exact orb_sub hf ha hb (fun _ _=>rfl) hg.lt k i hi
 have B:∀ i j,i < n→j < n→Orb f i j→joinR (Orb fun i=>f (swp a b i)) a b i j:=fun i j hi hj ⟨k,e⟩=>by
  subst e
  exact orb_sub hg ha hb (fun x _=>by show f x=f (swp a b (swp a b x));rw [swp_swp]) hf.lt k i hi
 have ab1:joinR (Orb f) a b a b:=.inr (.inl ⟨⟨0,rfl⟩,⟨0,rfl⟩⟩)
 have ab2:joinR (Orb fun i=>f (swp a b i)) a b a b:=.inr (.inl ⟨⟨0,rfl⟩,⟨0,rfl⟩⟩)
 constructor
 ·rintro (r | ⟨r1,r2⟩ | ⟨r1,r2⟩)
  ·exact B i j hi hj r
  ·exact e2.trans i a j hi ha hj (B i a hi ha r1) (e2.trans a b j ha hb hj ab2 (B b j hb hj r2))
  ·exact e2.trans i b j hi hb hj (B i b hi hb r1) (e2.trans b a j hb ha hj (e2.symm a b ha hb ab2) (B a j ha hj r2))
 ·rintro (r | ⟨r1,r2⟩ | ⟨r1,r2⟩)
  ·exact A i j hi hj r
  ·exact e1.trans i a j hi ha hj (A i a hi ha r1) (e1.trans a b j ha hb hj ab1 (A b j hb hj r2))
  ·exact e1.trans i b j hi hb hj (A i b hi hb r1) (e1.trans b a j hb ha hj (e1.symm a b ha hb ab1) (A a j ha hj r2))
theorem least_k {p:Nat→Prop}:∀ n,p n→∃ k,k≤n∧p k∧∀ j,j < k→¬ p j:=by
 intro n
 induction n using Nat.strongRecOn with
 | ind n ih =>
   intro hn
   by_cases h:∃ j,j < n∧p j
   ·obtain ⟨j,hj,pj⟩:=h
    obtain ⟨k,k1,k2,k3⟩:=ih j hj pj
    exact ⟨k,by omega,k2,k3⟩
   ·exact ⟨n,Nat.le_refl _,hn,fun j hj pj=>h ⟨j,hj,pj⟩⟩
theorem orb_part {n:Nat} {f:Nat→Nat} (hf:PF n f) {a b:Nat} (ha:a < n) (hb:b < n) (hab:a≠b) (h:Orb f a b):¬ Orb (fun i=>f (swp a b i)) a b:=by
 have hba:=hf.eqv.symm a b ha hb h
 obtain ⟨m,hm⟩:=hba
 have hm0:m≠0:=fun e=>by subst e;exact hab hm.symm
 obtain ⟨j,hj,⟨hj1,hja⟩,hmin⟩:=least_k (p:=fun k=>1≤k∧itf f k b=a) m ⟨by omega,hm⟩
 have na:∀ i,1≤i→i < j→itf f i b≠a:=fun i h1 h2 e=>hmin i h2 ⟨h1,e⟩
 have nb:∀ i,1≤i→i < j→itf f i b≠b:=fun i h1 h2 e=>by
  have:itf f (j - i) b=a:=by rw [← hja,show j=(j - i)+i by omega,itf_add,e,show j - i+i - i=j - i by omega]
  exact hmin (j - i) (by omega) ⟨by omega,this⟩
 have walk:∀ i,1≤i→i≤j→itf (fun i=>f (swp a b i)) i a=itf f i b:=fun i=>by
  induction i with
  | zero=>intro h;omega
  | succ i ih =>
    intro _ h2
    by_cases h0:i=0
    ·subst h0
     show f (swp a b a)=f b
     unfold swp
     rw [if_pos rfl]
    ·have e:=ih (by omega) (by omega)
     show f (swp a b (itf _ i a))=f (itf f i b)
     rw [e]
     unfold swp
     rw [if_neg (na i (by omega) (by omega)),if_neg (nb i (by omega) (by omega))]
 have hback:itf (fun i=>f (swp a b i)) j a=a:=by rw [walk j hj1 (Nat.le_refl _),hja]
 rintro ⟨k,hk⟩
 have hmod:itf (fun i=>f (swp a b i)) (k%j) a=b:=by
  have e:k=k%j+k / j*j:=by rw [Nat.add_comm,Nat.mul_comm];exact (Nat.div_add_mod k j).symm
  rw [e,itf_add,itf_mul hback] at hk
  exact hk
 have hlt:=Nat.mod_lt k (show 0 < j by omega)
 by_cases h0:k%j=0
 ·rw [h0] at hmod;exact hab hmod
 ·rw [walk _ (by omega) (by omega)] at hmod
  exact nb _ (by omega) hlt hmod
theorem orb_meet {n:Nat} {f:Nat→Nat} (hf:PF n f) {a b:Nat} (ha:a < n) (hb:b < n) (h:¬ Orb f a b):Orb (fun i=>f (swp a b i)) a b:=by
 obtain ⟨m,hm1,hm⟩:=hf.back hb
 obtain ⟨j,hj,⟨hj1,hjb⟩,hmin⟩:=least_k (p:=fun k=>1≤k∧itf f k b=b) m ⟨hm1,hm⟩
 have walk:∀ i,1≤i→i≤j→itf (fun i=>f (swp a b i)) i a=itf f i b:=fun i=>by
  induction i with
  | zero=>intro h;omega
  | succ i ih =>
    intro _ h2
    by_cases h0:i=0
    ·subst h0
     show f (swp a b a)=f b
     unfold swp
     rw [if_pos rfl]
    ·have e:=ih (by omega) (by omega)
     show f (swp a b (itf _ i a))=f (itf f i b)
     rw [e]
     unfold swp
     rw [if_neg (fun e=>h (hf.eqv.symm b a hb ha ⟨i,e⟩)),if_neg (fun e=>hmin i (by omega) ⟨by omega,e⟩)]
 exact ⟨j,by rw [walk j hj1 (Nat.le_refl _),hjb]⟩
theorem cls_swap {n:Nat} {f:Nat→Nat} {P:Nat→Prop} (hf:PF n f) (hP:∀ i,i < n→(P (f i)↔P i)) {a b:Nat} (ha:a < n) (hb:b < n) (hab:a≠b) (pa:P a) (pb:P b) :
  (Orb f a b→cls (Orb fun i=>f (swp a b i)) P n=cls (Orb f) P n+1)∧(¬ Orb f a b→cls (Orb fun i=>f (swp a b i)) P n+1=cls (Orb f) P n):=by
 have hg:=hf.swap ha hb
 have inv:∀ (h:Nat→Nat),PF n h→(∀ i,i < n→(P (h i)↔P i))→∀ i j,i < n→j < n→Orb h i j→P i→P j:=fun h ph hp i j hi hj ⟨k,e⟩ pi=>by
  subst e
  have:∀ k,P (itf h k i):=fun k=>by
   induction k with
   | zero=>exact pi
   | succ k ih=>exact (hp _ (ph.itlt hi k)).2 ih
  exact this k
 have hPg:∀ i,i < n→(P (f (swp a b i))↔P i):=fun i hi=>by
  rw [hP _ (swp_lt ha hb hi)]
  unfold swp
  by_cases e1:i=a
  ·rw [if_pos e1,e1];exact ⟨fun _=>pa,fun _=>pb⟩
  ·rw [if_neg e1]
   by_cases e2:i=b
   ·rw [if_pos e2,e2];exact ⟨fun _=>pb,fun _=>pa⟩
   ·rw [if_neg e2]
 have same:cls (joinR (Orb f) a b) P n=cls (joinR (Orb fun i=>f (swp a b i)) a b) P n:=cls_congr fun i j hi hj _=>orb_join hf ha hb i j hi hj
 have triv:∀ (h:Nat→Nat),PF n h→Orb h a b→cls (joinR (Orb h) a b) P n=cls (Orb h) P n:=fun h ph o=>cls_congr fun i j hi hj _=>by
  constructor
  ·rintro (r | ⟨r1,r2⟩ | ⟨r1,r2⟩)
   ·exact r
   ·exact ph.eqv.trans i a j hi ha hj r1 (ph.eqv.trans a b j ha hb hj o r2)
   ·exact ph.eqv.trans i b j hi hb hj r1 (ph.eqv.trans b a j hb ha hj (ph.eqv.symm a b ha hb o) r2)
  ·exact .inl
 constructor
 ·intro o
  have h1:=cls_join hg.eqv (inv _ hg hPg) ha hb pa pb (orb_part hf ha hb hab o)
  rw [← same,triv f hf o] at h1
  exact h1.symm
 ·intro o
  have h1:=cls_join hf.eqv (inv f hf hP) ha hb pa pb o
  rw [same,triv _ hg (orb_meet hf ha hb o)] at h1
  exact h1
end Go.Proofs.YtijbdnhlpbcabaaGreatDoor
namespace Go.Proofs.YtijbdnhlpbcabaaGreatDoor
def fk (sg:Nat→Nat):Nat→Nat→Nat
 | 0=>sg
 | k+1=>fun i=>fk sg k (swp (2*k) (2*k+1) i)
def gk (sg:Nat→Nat):Nat→Nat→Nat→Prop
 | 0=>Orb sg
 | k+1=>joinR (gk sg k) (2*k) (2*k+1)
def mt (i:Nat):Nat:=if i%2=0 then i+1 else i - 1
theorem fk_is (sg:Nat→Nat):∀ k i,fk sg k i=sg (if i < 2*k then mt i else i)
 | 0,i=>by rw [if_neg (by omega)];rfl
 | k+1,i=>by
   show fk sg k (swp (2*k) (2*k+1) i)=_
   rw [fk_is sg k]
   congr 1
   unfold swp
   by_cases h1:i=2*k
   ·rw [if_pos h1,if_neg (by omega),if_pos (by omega)];unfold mt;rw [if_pos (by omega)];omega
   ·rw [if_neg h1]
    by_cases h2:i=2*k+1
    ·rw [if_pos h2,if_neg (by omega),if_pos (by omega)];unfold mt;rw [if_neg (by omega)];omega
    ·rw [if_neg h2]
     by_cases h3:i < 2*k
     ·rw [if_pos h3,if_pos (by omega)]
     ·rw [if_neg h3,if_neg (by omega)]
section
variable {n m:Nat} {sg:Nat→Nat} {P:Nat→Prop}
theorem fk_pf (h:PF n sg) (hn:n=2*m):∀ k,k≤m→PF n (fk sg k)
 | 0,_=>h
 | k+1,hk=>(fk_pf h hn k (by omega)).swap (by omega) (by omega)
theorem gk_eqv (h:PF n sg) (hn:n=2*m):∀ k,k≤m→Eqv n (gk sg k)
 | 0,_=>h.eqv
 | k+1,hk=>joinR.eqv (gk_eqv h hn k (by omega)) (by omega) (by omega)
theorem fk_inv (hn:n=2*m) (hs:∀ i,i < n→(P (sg i)↔P i)) (hm:∀ e,e < m→(P (2*e)↔P (2*e+1))):∀ k,k≤m→∀ i,i < n→(P (fk sg k i)↔P i)
 | 0,_,i,hi=>hs i hi
 | k+1,hk,i,hi=>by
   show P (fk sg k (swp (2*k) (2*k+1) i))↔P i
   rw [fk_inv hn hs hm k (by omega) _ (swp_lt (by omega) (by omega) hi)]
   unfold swp
   by_cases e1:i=2*k
   ·rw [if_pos e1,e1];exact (hm k (by omega)).symm
   ·rw [if_neg e1]
    by_cases e2:i=2*k+1
    ·rw [if_pos e2,e2];exact hm k (by omega)
    ·rw [if_neg e2]
theorem orb_inv (h:PF n sg) (hs:∀ i,i < n→(P (sg i)↔P i)) {i j:Nat} (hi:i < n) (o:Orb sg i j):P i↔P j:=by
 obtain ⟨k,rfl⟩:=o
 induction k with
 | zero=>rfl
 | succ k ih=>rw [ih];exact (hs _ (h.itlt hi k)).symm
theorem gk_inv (h:PF n sg) (hn:n=2*m) (hs:∀ i,i < n→(P (sg i)↔P i)) (hm:∀ e,e < m→(P (2*e)↔P (2*e+1))):∀ k,k≤m→∀ i j,i < n→j < n→gk sg k i j→(P i↔P j)
 | 0,_,i,j,hi,_,o=>orb_inv h hs hi o
 | k+1,hk,i,j,hi,hj,o=>by
   have ih:=gk_inv h hn hs hm k (by omega)
   have e:=hm k (by omega)
   rcases o with o | ⟨o1,o2⟩ | ⟨o1,o2⟩
   ·exact ih i j hi hj o
   ·exact (ih i _ hi (by omega) o1).trans (e.trans (ih _ j (by omega) hj o2))
   ·exact (ih i _ hi (by omega) o1).trans (e.symm.trans (ih _ j (by omega) hj o2))
theorem gk_mono (sg:Nat→Nat) {k l:Nat} (h:k≤l) {i j:Nat} (o:gk sg k i j):gk sg l i j:=by
 induction l with
 | zero=>obtain rfl:k=0:=by omega
         exact o
 | succ l ih =>
   by_cases e:k=l+1
   ·subst e;exact o
   ·exact .inl (ih (by omega))
theorem fk_sub (h:PF n sg) (hn:n=2*m):∀ k,k≤m→∀ i j,i < n→Orb (fk sg k) i j→gk sg k i j
 | 0,_,i,j,_,o=>o
 | k+1,hk,i,j,hi,⟨t,e⟩=>by
   subst e
   have hf:=fk_pf h hn k (by omega)
   have:=orb_sub hf (a:=2*k) (b:=2*k+1) (by omega) (by omega) (g:=fk sg (k+1)) (fun _ _=>rfl) (fk_pf h hn (k+1) hk).lt t i hi
   have ih:=fk_sub h hn k (by omega)
   rcases this with o | ⟨o1,o2⟩ | ⟨o1,o2⟩
   ·exact .inl (ih _ _ hi o)
   ·exact .inr (.inl ⟨ih _ _ hi o1,ih _ _ (by omega) o2⟩)
   ·exact .inr (.inr ⟨ih _ _ hi o1,ih _ _ (by omega) o2⟩)
theorem cls_out {R:Nat→Nat→Prop} {a b:Nat} (hR:∀ i j,i < n→j < n→R i j→(P i↔P j)) (ha:a < n) (hb:b < n) (pa:¬ P a) (pb:¬ P b):cls (joinR R a b) P n=cls R P n :=
 cls_congr fun i j hi hj pj=>by
  constructor
  ·rintro (r | ⟨_,r⟩ | ⟨_,r⟩)
   ·exact r
   ·exact absurd ((hR b j hb hj r).2 pj) pb
   ·exact absurd ((hR a j ha hj r).2 pj) pa
  ·exact .inl
open Classical in
noncomputable def edg (P:Nat→Prop) (k:Nat):Nat:=((List.range k).filter fun e=>decide (P (2*e))).length
theorem edg_next (P:Nat→Prop) (k:Nat):(P (2*k)→edg P (k+1)=edg P k+1)∧(¬ P (2*k)→edg P (k+1)=edg P k):=by
 unfold edg
 rw [List.range_succ,List.filter_append,List.length_append]
 constructor
 ·intro h;simp [h]
 ·intro h;simp [h]
theorem cls_join_le {R:Nat→Nat→Prop} (h:Eqv n R) (hP:∀ i j,i < n→j < n→R i j→P i→P j) {a b:Nat} (ha:a < n) (hb:b < n) (pa:P a) (pb:P b):cls R P n≤cls (joinR R a b) P n+1:=by
 by_cases o:R a b
 ·have:cls (joinR R a b) P n=cls R P n:=cls_congr fun i j hi hj _=>by
   constructor
   ·rintro (r | ⟨r1,r2⟩ | ⟨r1,r2⟩)
    ·exact r
    ·exact h.trans i a j hi ha hj r1 (h.trans a b j ha hb hj o r2)
    ·exact h.trans i b j hi hb hj r1 (h.trans b a j hb ha hj (h.symm a b ha hb o) r2)
   ·exact .inl
  omega
 ·have:=cls_join h hP ha hb pa pb o
  omega
theorem cls_join_eq {R:Nat→Nat→Prop} (h:Eqv n R) {a b:Nat} (ha:a < n) (hb:b < n) (o:R a b):cls (joinR R a b) P n=cls R P n:=cls_congr fun i j hi hj _=>by
 constructor
 ·rintro (r | ⟨r1,r2⟩ | ⟨r1,r2⟩)
  ·exact r
  ·exact h.trans i a j hi ha hj r1 (h.trans a b j ha hb hj o r2)
  ·exact h.trans i b j hi hb hj r1 (h.trans b a j hb ha hj (h.symm a b ha hb o) r2)
 ·exact .inl
theorem euler_k (h:PF n sg) (hn:n=2*m) (hs:∀ i,i < n→(P (sg i)↔P i)) (hm:∀ e,e < m→(P (2*e)↔P (2*e+1))) :
  ∀ k,k≤m→∃ M,cls (Orb (fk sg k)) P n+2*M=cls (Orb sg) P n+edg P k∧cls (Orb sg) P n≤cls (gk sg k) P n+M
 | 0,_=>⟨0,by show cls (Orb sg) P n+2*0=_;simp [edg],by show _≤cls (Orb sg) P n+0;omega⟩
 | k+1,hk=>by
   obtain ⟨M,h1,h2⟩:=euler_k h hn hs hm k (by omega)
   have hf:=fk_pf h hn k (by omega)
   have hg:=gk_eqv h hn k (by omega)
   have fi:=fk_inv hn hs hm k (by omega)
   have gi:=gk_inv h hn hs hm k (by omega)
   have ha:2*k < n:=by omega
   have hb:2*k+1 < n:=by omega
   have hP2:∀ i j,i < n→j < n→gk sg k i j→P i→P j:=fun i j hi hj r=>(gi i j hi hj r).1
   by_cases pa:P (2*k)
   ·have pb:=(hm k (by omega)).1 pa
    have en:=(edg_next P k).1 pa
    have sw:=cls_swap hf fi ha hb (by omega) pa pb
    by_cases o:Orb (fk sg k) (2*k) (2*k+1)
    ·refine ⟨M,?_,?_⟩
     ·have:=sw.1 o
      show cls (Orb fun i=>fk sg k (swp (2*k) (2*k+1) i)) P n+2*M=_
      omega
     ·have:=cls_join_eq (P:=P) hg ha hb (fk_sub h hn k (by omega) _ _ ha o)
      show _≤cls (joinR (gk sg k) (2*k) (2*k+1)) P n+M
      omega
    ·refine ⟨M+1,?_,?_⟩
     ·have:=sw.2 o
      show cls (Orb fun i=>fk sg k (swp (2*k) (2*k+1) i)) P n+2*(M+1)=_
      omega
     ·have:=cls_join_le hg hP2 ha hb pa pb
      show _≤cls (joinR (gk sg k) (2*k) (2*k+1)) P n+(M+1)
      omega
   ·have pb:¬ P (2*k+1):=fun p=>pa ((hm k (by omega)).2 p)
    have en:=(edg_next P k).2 pa
    have hfk:=fk_pf h hn (k+1) hk
    have e1:cls (joinR (Orb (fk sg k)) (2*k) (2*k+1)) P n=cls (Orb (fk sg k)) P n:=cls_out (fun i j hi hj o=>orb_inv hf fi hi o) ha hb pa pb
    have e2:cls (joinR (Orb (fk sg (k+1))) (2*k) (2*k+1)) P n=cls (Orb (fk sg (k+1))) P n:=cls_out (fun i j hi hj o=>orb_inv hfk (fk_inv hn hs hm (k+1) hk) hi o) ha hb pa pb
    have e3:cls (joinR (Orb (fk sg k)) (2*k) (2*k+1)) P n=cls (joinR (Orb (fk sg (k+1))) (2*k) (2*k+1)) P n:=cls_congr fun i j hi hj _=>orb_join hf ha hb i j hi hj
    have e4:cls (joinR (gk sg k) (2*k) (2*k+1)) P n=cls (gk sg k) P n:=cls_out (fun i j hi hj r=>gi i j hi hj r) ha hb pa pb
    refine ⟨M,by omega,?_⟩
    show _≤cls (joinR (gk sg k) (2*k) (2*k+1)) P n+M
    omega
theorem cls_one {R:Nat→Nat→Prop} (h:Eqv n R) {p:Nat} (hp:p < n) (hP:∀ i,i < n→(P i↔R p i)):cls R P n=1:=by
 obtain ⟨q,q1,q2,q3⟩:=least_ex h p hp
 unfold cls
 classical
 have this:((List.range n).filter fun i=>decide False).length+1=((List.range n).filter fun i=>decide (P i∧Least R i)).length:=filter_less (L:=List.range n) List.nodup_range (fun i=>P i∧Least R i) (fun _=>False) q (by simp;omega) ⟨(hP q (by omega)).2 (h.symm q p (by omega) hp q2),q3⟩ fun i hi=>by
  have hi':i < n:=by simpa using hi
  constructor
  ·intro f;exact f.elim
  ·rintro ⟨⟨pi,li⟩,hne⟩
   exact hne (least_uniq h hi' (by omega) (h.trans i p q hi' hp (by omega) (h.symm p i hp hi' ((hP i hi').1 pi)) (h.symm q p (by omega) hp q2)) li q3)
 rw [show ((List.range n).filter fun i=>decide False).length=0 by simp] at this
 exact this.symm
theorem euler_part (h:PF n sg) (hn:n=2*m) (hs:∀ i,i < n→(P (sg i)↔P i)) (hm:∀ e,e < m→(P (2*e)↔P (2*e+1))) {p:Nat} (hp:p < n) (hP:∀ i,i < n→(P i↔gk sg m p i)) :
  ∃ G:Nat,cls (Orb sg) P n+cls (Orb (fk sg m)) P n+2*G=edg P m+2:=by
 obtain ⟨M,h1,h2⟩:=euler_k h hn hs hm m (Nat.le_refl _)
 rw [cls_one (gk_eqv h hn m (Nat.le_refl _)) hp hP] at h2
 exact ⟨1+M - cls (Orb sg) P n,by omega⟩
theorem gk_sig (h:PF n sg) (i:Nat) (k:Nat):gk sg k i (sg i):=gk_mono sg (Nat.zero_le k) (⟨1,rfl⟩:Orb sg i (sg i))
theorem gk_edge (h:PF n sg) (e k:Nat) (hk:e < k):gk sg k (2*e) (2*e+1):=gk_mono sg (show e+1≤k from hk) (show joinR (gk sg e) (2*e) (2*e+1) (2*e) (2*e+1) from .inr (.inl ⟨gk_mono sg (Nat.zero_le e) (⟨0,rfl⟩:Orb sg _ _),gk_mono sg (Nat.zero_le e) (⟨0,rfl⟩:Orb sg _ _)⟩))
open Classical in
noncomputable def num (Q:Nat→Prop) (k:Nat):Nat:=((List.range k).filter fun e=>decide (Q e)).length
theorem num_next (Q:Nat→Prop) (k:Nat):(Q k→num Q (k+1)=num Q k+1)∧(¬ Q k→num Q (k+1)=num Q k):=by
 unfold num
 rw [List.range_succ,List.filter_append,List.length_append]
 constructor
 ·intro h;simp [h]
 ·intro h;simp [h]
end
end Go.Proofs.YtijbdnhlpbcabaaGreatDoor
namespace Go.Proofs.YtijbdnhlpbcabaaGreatDoor
theorem closed_iff {n:Nat} {sg:Nat→Nat} (h:PF n sg) {S:Nat→Prop} (hs:∀ i,i < n→S i→S (sg i)) (i:Nat) (hi:i < n):S (sg i)↔S i:=by
 refine ⟨fun s=>?_,hs i hi⟩
 obtain ⟨k,h1,h2⟩:=h.back hi
 obtain ⟨j,rfl⟩:∃ j,k=j+1:=⟨k - 1,by omega⟩
 rw [itf_succ] at h2
 have hsi:sg i < n:=by have:=h.itlt hi 1;exact this
 have:∀ t,S (itf sg t (sg i)):=by
  intro t
  induction t with
  | zero=>exact s
  | succ t ih=>exact hs _ (h.itlt hsi t) ih
 rw [← h2];exact this j
theorem part_closed {n m:Nat} {sg:Nat→Nat} (h:PF n sg) (hn:n=2*m) {S:Nat→Prop} (hs:∀ i,i < n→S i→S (sg i)) (hm:∀ i,i < n→S i→S (mt i)) (i j:Nat) (hi:i < n) (hj:j < n) (r:gk sg m i j):S i↔S j:=by
 refine gk_inv h hn (closed_iff h hs) (fun e he=>⟨fun s=>?_,fun s=>?_⟩) m (Nat.le_refl _) i j hi hj r
 ·have:=hm _ (by omega) s
  unfold mt at this
  rwa [if_pos (by omega)] at this
 ·have:=hm _ (by omega) s
  unfold mt at this
  rwa [if_neg (by omega),show 2*e+1 - 1=2*e from by omega] at this
theorem gk_mt {n m:Nat} {sg:Nat→Nat} (h:PF n sg) (hn:n=2*m) (i:Nat) (hi:i < n):gk sg m i (mt i):=by
 have hg:=gk_eqv h hn m (Nat.le_refl _)
 unfold mt
 split
 ·have:=gk_edge h (i / 2) m (by omega)
  rwa [show 2*(i / 2)=i from by omega] at this
 ·have:=gk_edge h (i / 2) m (by omega)
  rw [show 2*(i / 2)+1=i from by omega,show 2*(i / 2)=i - 1 from by omega] at this
  exact hg.symm _ _ (by omega) hi this
theorem mt_lt {n m i:Nat} (hn:n=2*m) (hi:i < n):mt i < n:=by unfold mt;split <;> omega
/-! ### the least of a part, and its number -/
open Classical in
noncomputable def rep (R:Nat→Nat→Prop) (i:Nat):Nat:=if h:∃ p,p≤i∧R p i∧Least R p then h.choose else i
theorem rep_is {n:Nat} {R:Nat→Nat→Prop} (h:Eqv n R) {i:Nat} (hi:i < n):rep R i≤i∧R (rep R i) i∧Least R (rep R i):=by
 have he:=least_ex h i hi
 unfold rep
 rw [dif_pos he]
 exact he.choose_spec
theorem rep_of {n:Nat} {R:Nat→Nat→Prop} (h:Eqv n R) {p i:Nat} (hp:p < n) (hi:i < n) (r:R p i) (l:Least R p):rep R i=p:=by
 obtain ⟨h1,h2,h3⟩:=rep_is h hi
 exact least_uniq h (by omega) hp (h.trans _ i p (by omega) hi hp h2 (h.symm _ _ hp hi r)) h3 l
theorem rep_iff {n:Nat} {R:Nat→Nat→Prop} (h:Eqv n R) {i j:Nat} (hi:i < n) (hj:j < n):R i j↔rep R i=rep R j:=by
 obtain ⟨a1,a2,a3⟩:=rep_is h hi
 obtain ⟨b1,b2,b3⟩:=rep_is h hj
 constructor
 ·intro r
  exact (rep_of h (by omega) hj (h.trans _ i j (by omega) hi hj a2 r) a3).symm
 ·intro e
  rw [← e] at b2
  exact h.trans i _ j hi (by omega) hj (h.symm _ _ (by omega) hi a2) b2
theorem rep_least {n:Nat} {R:Nat→Nat→Prop} (h:Eqv n R) {i:Nat} (hi:i < n):Least R i↔rep R i=i:=by
 obtain ⟨a1,a2,a3⟩:=rep_is h hi
 exact ⟨fun l=>rep_of h hi hi (h.refl i hi) l,fun e=>e ▸ a3⟩
noncomputable def pn (R:Nat→Nat→Prop) (k:Nat):Nat:=cls R (fun _=>True) k
theorem pn_next (R:Nat→Nat→Prop) (k:Nat):(Least R k→pn R (k+1)=pn R k+1)∧(¬ Least R k→pn R (k+1)=pn R k):=by
 unfold pn cls
 rw [List.range_succ,List.filter_append,List.length_append]
 constructor
 ·intro h;simp [h]
 ·intro h;simp [h]
theorem pn_mono (R:Nat→Nat→Prop) {k l:Nat} (h:k≤l):pn R k≤pn R l:=by
 induction l with
 | zero=>obtain rfl:k=0:=by omega
         exact Nat.le_refl _
 | succ l ih =>
   by_cases e:k=l+1
   ·subst e;exact Nat.le_refl _
   ·have:=ih (by omega)
    have:=pn_next R l
    by_cases hl:Least R l
    ·have:=this.1 hl;omega
    ·have:=this.2 hl;omega
theorem pn_lt (R:Nat→Nat→Prop) {k l:Nat} (hk:Least R k) (h:k < l):pn R k < pn R l:=by
 have:=(pn_next R k).1 hk
 have:=pn_mono R (show k+1≤l from h)
 omega
noncomputable def prt (R:Nat→Nat→Prop) (i:Nat):Nat:=pn R (rep R i)
theorem prt_iff {n:Nat} {R:Nat→Nat→Prop} (h:Eqv n R) {i j:Nat} (hi:i < n) (hj:j < n):prt R i=prt R j↔R i j:=by
 rw [rep_iff h hi hj]
 obtain ⟨a1,a2,a3⟩:=rep_is h hi
 obtain ⟨b1,b2,b3⟩:=rep_is h hj
 refine ⟨fun e=>?_,fun e=>by unfold prt;rw [e]⟩
 unfold prt at e
 rcases Nat.lt_trichotomy (rep R i) (rep R j) with x | x | x
 ·have:=pn_lt R a3 x;omega
 ·exact x
 ·have:=pn_lt R b3 x;omega
theorem prt_lt {n:Nat} {R:Nat→Nat→Prop} (h:Eqv n R) {i d:Nat} (hi:i < n) (hd:rep R i < d):prt R i < pn R d:=pn_lt R (rep_is h hi).2.2 hd
theorem prt_least {n:Nat} {R:Nat→Nat→Prop} (h:Eqv n R) {d:Nat} (hd:d < n) (l:Least R d):prt R d=pn R d:=by
 unfold prt;rw [(rep_least h hd).1 l]
noncomputable def prts (R:Nat→Nat→Prop) (n:Nat):List Nat:=(List.range n).map (prt R)
noncomputable def nst (R:Nat→Nat→Prop) (n d:Nat):List Int:=(List.range n).map fun x=>if rep R x < d then ((prt R x:Nat):Int) else -1
theorem nst_len (R:Nat→Nat→Prop) (n d:Nat):(nst R n d).length=n:=by simp [nst]
theorem nst_get (R:Nat→Nat→Prop) (n d x:Nat) (hx:x < n):(nst R n d).getD x 0=if rep R x < d then ((prt R x:Nat):Int) else -1:=by
 unfold nst
 rw [List.getD_eq_getElem?_getD,List.getElem?_map,List.getElem?_range hx];rfl
theorem nst_zero (R:Nat→Nat→Prop) (n:Nat):nst R n 0=List.replicate n (-1):=by
 apply List.ext_getElem
 ·simp [nst]
 ·intro i h1 h2;simp [nst]
theorem nst_all {n:Nat} {R:Nat→Nat→Prop} (h:Eqv n R):nst R n n=(prts R n).map fun (x:Nat)=>(x:Int):=by
 unfold nst prts
 rw [List.map_map]
 apply List.map_congr_left
 intro x hx
 have hx:x < n:=by simpa using hx
 have:=(rep_is h hx).1
 rw [if_pos (by omega)];rfl
theorem nst_old {n:Nat} {R:Nat→Nat→Prop} (h:Eqv n R) {d:Nat} (hd:d < n) (e:(nst R n d).getD d 0≠-1):¬ Least R d∧nst R n (d+1)=nst R n d∧pn R (d+1)=pn R d:=by
 have hl:¬ Least R d:=by
  intro l
  rw [nst_get R n d d hd,if_neg (by rw [(rep_least h hd).1 l];omega)] at e
  exact e rfl
 refine ⟨hl,?_,(pn_next R d).2 hl⟩
 unfold nst
 apply List.map_congr_left
 intro x hx
 have hx:x < n:=by simpa using hx
 have:rep R x≠d:=fun e=>hl (e ▸ (rep_is h hx).2.2)
 by_cases c:rep R x < d
 ·rw [if_pos c,if_pos (by omega)]
 ·rw [if_neg c,if_neg (by omega)]
theorem nst_new {n:Nat} {R:Nat→Nat→Prop} (h:Eqv n R) {d:Nat} (hd:d < n) (e:(nst R n d).getD d 0=-1):Least R d∧pn R (d+1)=pn R d+1∧(∀ x,x < n→R d x→(nst R n d).getD x 0=-1) ∧
  (∀ x,x < n→R d x→(nst R n (d+1)).getD x 0=(pn R d:Nat))∧(∀ x,x < n→¬ R d x→(nst R n (d+1)).getD x 0=(nst R n d).getD x 0):=by
 have hl:Least R d:=by
  rw [nst_get R n d d hd] at e
  have:=(rep_is h hd).1
  by_cases c:rep R d < d
  ·rw [if_pos c] at e;omega
  ·exact (rep_least h hd).2 (by omega)
 have hr:∀ x,x < n→(R d x↔rep R x=d):=fun x hx=>by
  rw [rep_iff h hd hx,(rep_least h hd).1 hl];exact eq_comm
 refine ⟨hl,(pn_next R d).1 hl,fun x hx r=>?_,fun x hx r=>?_,fun x hx r=>?_⟩
 ·rw [nst_get R n d x hx,if_neg (by rw [(hr x hx).1 r];omega)]
 ·rw [nst_get R n (d+1) x hx,if_pos (by rw [(hr x hx).1 r];omega)]
  unfold prt;rw [(hr x hx).1 r]
 ·have:rep R x≠d:=fun e=>r ((hr x hx).2 e)
  rw [nst_get R n (d+1) x hx,nst_get R n d x hx]
  by_cases c:rep R x < d
  ·rw [if_pos c,if_pos (by omega)]
  ·rw [if_neg c,if_neg (by omega)]
/-! ### the flood -/
structure Fl (n m:Nat) (sg:Nat→Nat) (N0:List Int) (d:Nat) (part:Int) (E:Nat→Prop) (nm:List Int) (W:List Nat):Prop where
 len:nm.length=n
 out:∀ x,x < n→¬ gk sg m d x→nm.getD x 0=N0.getD x 0
 ins:∀ x,x < n→gk sg m d x→nm.getD x 0=-1∨nm.getD x 0=part
 fst:nm.getD d 0=part
 wts:∀ y,y∈W→y < n∧gk sg m d y
 got:∀ x,x < n→gk sg m d x→nm.getD x 0=part→x∈W∨E x∨(nm.getD (sg x) 0=part∧nm.getD (mt x) 0=part)
theorem getD_set_eq (l:List Int) (i:Nat) (v:Int) (h:i < l.length):(l.set i v).getD i 0=v:=by
 simp [List.getD_eq_getElem?_getD,h]
theorem getD_set_ne (l:List Int) (i j:Nat) (v:Int) (h:i≠j):(l.set i v).getD j 0=l.getD j 0:=by
 simp [List.getD_eq_getElem?_getD,h]
section
variable {n m:Nat} {sg:Nat→Nat} {N0:List Int} {d:Nat} {part:Int} {E:Nat→Prop} {nm:List Int} {W:List Nat}
theorem Fl.start (h:PF n sg) (hn:n=2*m) (hd:d < n) (h0:N0.length=n) (hu:∀ x,x < n→gk sg m d x→N0.getD x 0=-1) (hp:part≠-1):Fl n m sg N0 d part (fun _=>False) (N0.set d part) [d]:=by
 have hg:=gk_eqv h hn m (Nat.le_refl _)
 refine ⟨by simp [h0],fun x hx r=>?_,fun x hx r=>?_,getD_set_eq _ _ _ (by omega),fun y hy=>?_,fun x hx r e=>?_⟩
 ·exact getD_set_ne _ _ _ _ fun e=>r (e ▸ hg.refl d hd)
 ·by_cases e:d=x
  ·subst e;exact .inr (getD_set_eq _ _ _ (by omega))
  ·rw [getD_set_ne _ _ _ _ e];exact .inl (hu x hx r)
 ·rw [List.mem_singleton] at hy;subst hy;exact ⟨hd,hg.refl _ hd⟩
 ·by_cases c:d=x
  ·subst c;exact .inl (by simp)
  ·rw [getD_set_ne _ _ _ _ c,hu x hx r] at e
   exact absurd e.symm hp
theorem Fl.pop {a:Nat} (f:Fl n m sg N0 d part (fun _=>False) nm (W++[a])):Fl n m sg N0 d part (fun x=>x=a) nm W∧a < n∧gk sg m d a :=
 ⟨⟨f.len,f.out,f.ins,f.fst,fun y hy=>f.wts y (by simp [hy]),fun x hx r e=>by
  rcases f.got x hx r e with g | g | g
  ·rcases List.mem_append.1 g with g | g
   ·exact .inl g
   ·exact .inr (.inl (by simpa using g))
  ·exact g.elim
  ·exact .inr (.inr g)⟩,f.wts a (by simp)⟩
theorem Fl.put (f:Fl n m sg N0 d part E nm W) {y:Nat} (hy:y < n) (r:gk sg m d y) (e:nm.getD y 0=-1) (hp:part≠-1) :
  Fl n m sg N0 d part E (nm.set y part) (W++[y])∧(∀ x,nm.getD x 0=part→(nm.set y part).getD x 0=part)∧(nm.set y part).getD y 0=part:=by
 have hl:=f.len
 have hk:∀ x,nm.getD x 0=part→(nm.set y part).getD x 0=part:=fun x hx=>by
  have:y≠x:=fun c=>hp (by rw [← hx,← c,e])
  rw [getD_set_ne _ _ _ _ this,hx]
 have hyy:=getD_set_eq nm y part (by omega)
 refine ⟨⟨by simp [hl],fun x hx q=>?_,fun x hx q=>?_,hk d f.fst,fun z hz=>?_,fun x hx q c=>?_⟩,hk,hyy⟩
 ·rw [getD_set_ne nm y x part (fun c=>q (c ▸ r))];exact f.out x hx q
 ·by_cases c:y=x
  ·subst c;exact .inr hyy
  ·rw [getD_set_ne _ _ _ _ c];exact f.ins x hx q
 ·rcases List.mem_append.1 hz with g | g
  ·exact f.wts z g
  ·rw [List.mem_singleton] at g;subst g;exact ⟨hy,r⟩
 ·by_cases k:y=x
  ·subst k;exact .inl (by simp)
  ·rw [getD_set_ne _ _ _ _ k] at c
   rcases f.got x hx q c with g | g | g
   ·exact .inl (by simp [g])
   ·exact .inr (.inl g)
   ·exact .inr (.inr ⟨hk _ g.1,hk _ g.2⟩)
theorem Fl.old (f:Fl n m sg N0 d part E nm W) {y:Nat} (hy:y < n) (r:gk sg m d y) (e:nm.getD y 0≠-1):nm.getD y 0=part:=(f.ins y hy r).resolve_left e
theorem Fl.close {a:Nat} (f:Fl n m sg N0 d part (fun x=>x=a) nm W) (h1:nm.getD (sg a) 0=part) (h2:nm.getD (mt a) 0=part):Fl n m sg N0 d part (fun _=>False) nm W :=
 ⟨f.len,f.out,f.ins,f.fst,f.wts,fun x hx r e=>by
  rcases f.got x hx r e with g | g | g
  ·exact .inl g
  ·subst g;exact .inr (.inr ⟨h1,h2⟩)
  ·exact .inr (.inr g)⟩
theorem Fl.sigma (h:PF n sg) (hn:n=2*m) {a:Nat} (hd:d < n) (ha:a < n) (r:gk sg m d a):sg a < n∧gk sg m d (sg a):=by
 have hs:sg a < n:=h.itlt ha 1
 exact ⟨hs,(gk_eqv h hn m (Nat.le_refl _)).trans _ _ _ hd ha hs r (gk_sig h a m)⟩
theorem Fl.mate (h:PF n sg) (hn:n=2*m) {a:Nat} (hd:d < n) (ha:a < n) (r:gk sg m d a):mt a < n∧gk sg m d (mt a):=by
 have hs:=mt_lt hn ha
 exact ⟨hs,(gk_eqv h hn m (Nat.le_refl _)).trans _ _ _ hd ha hs r (gk_mt h hn a ha)⟩
theorem Fl.done (h:PF n sg) (hn:n=2*m) (hd:d < n) (f:Fl n m sg N0 d part (fun _=>False) nm []) (x:Nat) (hx:x < n) (r:gk sg m d x):nm.getD x 0=part:=by
 have hg:=gk_eqv h hn m (Nat.le_refl _)
 have:=part_closed (S:=fun x=>gk sg m d x∧nm.getD x 0=part) h hn (fun i hi s=>?_) (fun i hi s=>?_) d x hd hx r
 ·exact (this.1 ⟨hg.refl d hd,f.fst⟩).2
 ·obtain g | g | g:=f.got i hi s.1 s.2
  ·cases g
  ·exact g.elim
  ·exact ⟨(Fl.sigma h hn hd hi s.1).2,g.1⟩
 ·obtain g | g | g:=f.got i hi s.1 s.2
  ·cases g
  ·exact g.elim
  ·exact ⟨(Fl.mate h hn hd hi s.1).2,g.2⟩
end
def un (l:List Int):Nat:=l.count (-1)
theorem un_set (l:List Int) (i:Nat) (v:Int) (h:i < l.length) (e:l.getD i 0=-1) (hv:v≠-1):un (l.set i v)+1=un l:=by
 have hi:l[i]=-1:=by rw [← e,List.getD_eq_getElem?_getD,List.getElem?_eq_getElem h];rfl
 have hpos:0 < l.count (-1):=List.count_pos_iff.2 (hi ▸ List.getElem_mem h)
 unfold un
 rw [List.count_set h]
 simp [hi,hv]
 omega
end Go.Proofs.YtijbdnhlpbcabaaGreatDoor
