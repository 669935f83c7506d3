/- Chords on a cycle of darts: just if no two cross there is a cycle more for each. -/
import Derived.Test.YtijbdnhlpbcabaaGreatDoorZg4
import Derived.Test.YtijbdnhlpbcabaaGreatDoorZg1
import Derived.Test.YtijbdnhlpbcabaaGreatDoorProg
import Derived.WalkKit
set_option linter.unusedVariables false
open Go.RowKit
namespace Go.Proofs.YtijbdnhlpbcabaaGreatDoor
/-! ### chords on a cycle -/
open Classical in
noncomputable def psi (f:Nat→Nat) (Q:Nat→Prop) (i:Nat):Nat:=f (if Q (i / 2) then mt i else i)
theorem psi_pf {n m:Nat} {f:Nat→Nat} (hf:PF n f) (hn:n=2*m) (Q:Nat→Prop):PF n (psi f Q):=by
 refine ⟨fun i hi=>?_,fun i j hi hj e=>?_⟩
 ·unfold psi
  split
  ·exact hf.lt _ (mt_lt hn hi)
  ·exact hf.lt _ hi
 ·unfold psi at e
  have hi':=mt_lt hn hi
  have hj':=mt_lt hn hj
  split at e
  ·next a =>
   split at e
   ·have:=congrArg mt (hf.inj _ _ hi' hj' e)
    rwa [mt_mt',mt_mt'] at this
   ·next c =>
    have:=hf.inj _ _ hi' hj e
    rw [← this,mt_half] at c
    exact absurd a c
  ·next a =>
   split at e
   ·next c =>
    have:=hf.inj _ _ hi hj' e
    rw [this,mt_half] at a
    exact absurd c a
   ·exact hf.inj _ _ hi hj e
theorem psi_congr (f:Nat→Nat) {Q R:Nat→Prop} (h:∀ e,Q e↔R e):psi f Q=psi f R:=by
 funext i
 unfold psi
 by_cases c:Q (i / 2)
 ·rw [if_pos c,if_pos ((h _).1 c)]
 ·rw [if_neg c,if_neg fun d=>c ((h _).2 d)]
theorem psi_none (f:Nat→Nat) {Q:Nat→Prop} (h:∀ e,¬ Q e):psi f Q=f:=by
 funext i
 unfold psi
 rw [if_neg (h _)]
theorem psi_add (f:Nat→Nat) {Q:Nat→Prop} {e:Nat} (he:¬ Q e):psi f (fun x=>Q x∨x=e)=fun i=>psi f Q (swp (2*e) (2*e+1) i):=by
 funext i
 unfold psi
 have hsw:swp (2*e) (2*e+1) i=if i / 2=e then mt i else i:=by
  unfold swp mt
  repeat' split
  all_goals omega
 rw [hsw]
 by_cases c:i / 2=e
 ·rw [if_pos c,if_pos (.inr c),if_neg (by rw [mt_half,c];exact he)]
 ·rw [if_neg c]
  by_cases d:Q (i / 2)
  ·rw [if_pos d,if_pos (.inl d)]
  ·rw [if_neg d,if_neg fun x=>x.elim d c]
section
variable {n m:Nat} {f:Nat→Nat} {P:Nat→Prop}
theorem psi_inv (hf:PF n f) (hn:n=2*m) (hP:∀ i,i < n→(P (f i)↔P i)) (hm:∀ i,i < n→(P (mt i)↔P i)) (Q:Nat→Prop):∀ i,i < n→(P (psi f Q i)↔P i):=fun i hi=>by
 unfold psi
 split
 ·rw [hP _ (mt_lt hn hi),hm i hi]
 ·exact hP i hi
theorem psi_step (hf:PF n f) (hn:n=2*m) (hP:∀ i,i < n→(P (f i)↔P i)) (hm:∀ i,i < n→(P (mt i)↔P i)) {Q:Nat→Prop} {e:Nat} (hQ:¬ Q e) (he:e < m) (pe:P (2*e)) :
  (Orb (psi f Q) (2*e) (2*e+1)→cls (Orb (psi f fun x=>Q x∨x=e)) P n=cls (Orb (psi f Q)) P n+1) ∧
  (¬ Orb (psi f Q) (2*e) (2*e+1)→cls (Orb (psi f fun x=>Q x∨x=e)) P n+1=cls (Orb (psi f Q)) P n):=by
 rw [psi_add f hQ]
 have h1:mt (2*e)=2*e+1:=by unfold mt;rw [if_pos (by omega)]
 exact cls_swap (psi_pf hf hn Q) (psi_inv hf hn hP hm Q) (by omega) (by omega) (by omega) pe (by rw [← h1];exact (hm _ (by omega)).2 pe)
end
theorem num_more {n:Nat} {Q R:Nat→Prop} {a:Nat} (ha:a < n) (q:¬ Q a) (h:∀ i,R i↔Q i∨i=a):∀ k,num R k=num Q k+if a < k then 1 else 0
 | 0=>by rw [if_neg (by omega)];rfl
 | k+1=>by
   have ih:=num_more ha q h k
   by_cases c:k=a
   ·subst c
    rw [if_neg (by omega)] at ih
    rw [(num_next R k).1 ((h k).2 (.inr rfl)),(num_next Q k).2 q,if_pos (by omega),ih]
   ·by_cases d:Q k
    ·rw [(num_next R k).1 ((h k).2 (.inl d)),(num_next Q k).1 d,ih]
     split <;> split <;> omega
    ·rw [(num_next R k).2 (fun x=>((h k).1 x).elim d c),(num_next Q k).2 d,ih]
     split <;> split <;> omega
theorem num_none' {Q:Nat→Prop} (h:∀ i,¬ Q i):∀ k,num Q k=0
 | 0=>rfl
 | k+1=>by rw [(num_next Q k).2 (h k),num_none' h k]
structure Cyc (n m N:Nat) (f:Nat→Nat) (P:Nat→Prop) (dt tw:Nat→Nat):Prop where
 pf:PF n f
 nm:n=2*m
 inv:∀ i,i < n→(P (f i)↔P i)
 mate:∀ i,i < n→(P (mt i)↔P i)
 pos:0 < N
 lt:∀ j,j < N→dt j < n
 inP:∀ j,j < N→P (dt j)
 inj:∀ i j,i < N→j < N→dt i=dt j→i=j
 all:∀ x,x < n→P x→∃ j,j < N∧dt j=x
 next:∀ j,j+1 < N→f (dt j)=dt (j+1)
 wrap:f (dt (N - 1))=dt 0
 tlt:∀ j,j < N→tw j < N
 tw_:∀ j,j < N→dt (tw j)=mt (dt j)
section
variable {n m N:Nat} {f:Nat→Nat} {P:Nat→Prop} {dt tw:Nat→Nat} {F:Nat→Prop}
theorem Cyc.ttw (h:Cyc n m N f P dt tw) {j:Nat} (hj:j < N):tw (tw j)=j :=
 h.inj _ _ (h.tlt _ (h.tlt _ hj)) hj (by rw [h.tw_ _ (h.tlt _ hj),h.tw_ _ hj,mt_mt'])
theorem Cyc.tne (h:Cyc n m N f P dt tw) {j:Nat} (hj:j < N):tw j≠j:=fun e=>by
 have:=h.tw_ j hj
 rw [e] at this
 exact mt_ne _ this.symm
theorem Cyc.thalf (h:Cyc n m N f P dt tw) {j:Nat} (hj:j < N):dt (tw j) / 2=dt j / 2:=by rw [h.tw_ j hj,mt_half]
theorem Cyc.same (h:Cyc n m N f P dt tw) {i j:Nat} (hi:i < N) (hj:j < N) (e:dt i / 2=dt j / 2):i=j∨i=tw j:=by
 have:dt i=dt j∨dt i=mt (dt j):=by unfold mt;split <;> omega
 rcases this with c | c
 ·exact .inl (h.inj _ _ hi hj c)
 ·exact .inr (h.inj _ _ hi (h.tlt _ hj) (by rw [h.tw_ _ hj];exact c))
def NonX (N:Nat) (dt tw:Nat→Nat) (F:Nat→Prop):Prop:=∀ i k,i < k→k < tw i→tw i < tw k→i < N→k < N→F (dt i / 2)→F (dt k / 2)→False
def ShutC (dt tw:Nat→Nat) (F:Nat→Prop) (x e:Nat):Prop:=F e∧∃ y,y < x∧dt y / 2=e∧tw y < y
theorem Cyc.one (h:Cyc n m N f P dt tw):cls (Orb f) P n=1:=by
 have hd0:=h.lt 0 h.pos
 have it:∀ j,j < N→itf f j (dt 0)=dt j:=fun j=>by
  induction j with
  | zero=>intro _;rfl
  | succ j ih=>intro hj;show f (itf f j (dt 0))=_;rw [ih (by omega),h.next j hj]
 refine cls_one h.pf.eqv hd0 fun i hi=>⟨fun p=>?_,fun ⟨k,e⟩=>?_⟩
 ·obtain ⟨j,hj,e⟩:=h.all i hi p
  exact ⟨j,by rw [it j hj,e]⟩
 ·subst e
  have:∀ k,P (itf f k (dt 0)):=fun k=>by
   induction k with
   | zero=>exact h.inP 0 h.pos
   | succ k ih=>exact (h.inv _ (h.pf.itlt hd0 k)).2 ih
  exact this k
theorem Cyc.reach (h:Cyc n m N f P dt tw) (hX:NonX N dt tw F) {x:Nat} (hx:x < N) (hc:tw x < x) (hF:F (dt x / 2)):∀ d t,x - t=d→tw x < t→t≤x →
  (∀ o,o < N→F (dt o / 2)→tw x < o→o < t→t≤tw o→tw o < x→False)→Orb (psi f (ShutC dt tw F x)) (dt t) (dt x):=by
 intro d
 induction d using Nat.strongRecOn with
 | ind d ih =>
   intro t hd h1 h2 top
   by_cases ht:t=x
   ·subst ht;exact ⟨0,rfl⟩
   have htN:t < N:=by omega
   by_cases hf:F (dt t / 2)
   ·have hc1:=h.tlt t htN
    have hcc:=h.ttw htN
    have hcn:=h.tne htN
    rcases Nat.lt_or_ge (tw t) t with q | q
    ·exfalso
     have e1:tw (tw x)=x:=h.ttw hx
     rcases Nat.lt_trichotomy (tw t) (tw x) with w | w | w
     ·exact hX (tw t) (tw x) w (by rw [hcc];omega) (by rw [hcc,e1];omega) hc1 (h.tlt _ hx) (by rw [h.thalf htN];exact hf) (by rw [h.thalf hx];exact hF)
     ·have:=congrArg tw w;rw [hcc,e1] at this;omega
     ·exact top (tw t) hc1 (by rw [h.thalf htN];exact hf) w q (by rw [hcc];exact Nat.le_refl _) (by rw [hcc];omega)
    ·have hlt:tw t < x:=by
      rcases Nat.lt_trichotomy (tw t) x with w | w | w
      ·exact w
      ·have:=congrArg tw w;rw [hcc] at this;omega
      ·exfalso
       have e1:tw (tw x)=x:=h.ttw hx
       exact hX (tw x) t h1 (by rw [e1];omega) (by rw [e1];exact w) (h.tlt _ hx) htN (by rw [h.thalf hx];exact hF) hf
     have hs:ShutC dt tw F x (dt t / 2):=⟨hf,tw t,hlt,h.thalf htN,by rw [hcc];omega⟩
     have hst:psi f (ShutC dt tw F x) (dt t)=dt (tw t+1):=by
      unfold psi
      rw [if_pos hs,← h.tw_ t htN,h.next _ (by omega)]
     obtain ⟨k,hk⟩:=ih (x - (tw t+1)) (by omega) (tw t+1) rfl (by omega) (by omega) (fun o ho hfo a b c e=>by
      rcases Nat.lt_trichotomy o t with w | w | w
      ·exact top o ho hfo a w (by omega) e
      ·subst w;omega
      ·rcases Nat.lt_or_ge o (tw t) with v | v
       ·exact hX t o w v (by omega) htN ho hf hfo
       ·have:o=tw t:=by omega
        subst this
        rw [hcc] at c;omega)
     exact ⟨k+1,by rw [itf_succ,hst];exact hk⟩
   ·have hst:psi f (ShutC dt tw F x) (dt t)=dt (t+1):=by
     unfold psi
     rw [if_neg fun s=>hf s.1,h.next _ (by omega)]
    obtain ⟨k,hk⟩:=ih (x - (t+1)) (by omega) (t+1) rfl (by omega) (by omega) (fun o ho hfo a b c e=>by
     rcases Nat.lt_or_ge o t with w | w
     ·exact top o ho hfo a w (by omega) e
     ·have:o=t:=by omega
      subst this
      exact hf hfo)
    exact ⟨k+1,by rw [itf_succ,hst];exact hk⟩
theorem Cyc.fresh (h:Cyc n m N f P dt tw) {x:Nat} (hx:x < N) (hc:tw x < x):¬ ShutC dt tw F x (dt x / 2):=fun ⟨_,y,hy,e,hty⟩=>by
 rcases h.same (by omega) hx e with c | c
 ·omega
 ·subst c
  rw [h.ttw hx] at hty
  omega
theorem Cyc.ends (h:Cyc n m N f P dt tw) (hX:NonX N dt tw F) {x:Nat} (hx:x < N) (hc:tw x < x) (hF:F (dt x / 2)):Orb (psi f (ShutC dt tw F x)) (dt (tw x)) (dt x):=by
 obtain ⟨k,hk⟩:=h.reach hX hx hc hF (x - (tw x+1)) (tw x+1) rfl (by omega) (by omega) (fun o _ _ a b _ _=>by omega)
 refine ⟨k+1,?_⟩
 rw [itf_succ]
 have:psi f (ShutC dt tw F x) (dt (tw x))=dt (tw x+1):=by
  unfold psi
  rw [if_neg (by rw [h.thalf hx];exact h.fresh hx hc),h.next _ (by omega)]
 rw [this];exact hk
theorem Cyc.noX (h:Cyc n m N f P dt tw) (hX:NonX N dt tw F):∀ x,x≤N→cls (Orb (psi f (ShutC dt tw F x))) P n=num (ShutC dt tw F x) m+1
 | 0,_=>by
   have hn:∀ e,¬ ShutC dt tw F 0 e:=fun e ⟨_,y,hy,_⟩=>by omega
   rw [psi_none f hn,num_none' hn,h.one]
 | x+1,hx=>by
   have ih:=h.noX hX x (by omega)
   by_cases c:F (dt x / 2)∧tw x < x
   ·obtain ⟨cf,cc⟩:=c
    have hfr:=h.fresh (F:=F) (show x < N by omega) cc
    have heq:∀ e,ShutC dt tw F (x+1) e↔ShutC dt tw F x e∨e=dt x / 2:=fun e=>by
     constructor
     ·rintro ⟨a,y,hy,b,d⟩
      by_cases q:y=x
      ·subst q;exact .inr b.symm
      ·exact .inl ⟨a,y,by omega,b,d⟩
     ·rintro (⟨a,y,hy,b,d⟩ | q)
      ·exact ⟨a,y,by omega,b,d⟩
      ·subst q;exact ⟨cf,x,by omega,rfl,cc⟩
    have hem:dt x / 2 < m:=by have:=h.lt x (by omega);have:=h.nm;omega
    have hpe:P (2*(dt x / 2)):=by
     have hlt:=h.lt x (by omega)
     have hp:=h.inP x (by omega)
     rcases Nat.mod_two_eq_zero_or_one (dt x) with q | q
     ·rw [show 2*(dt x / 2)=dt x by omega];exact hp
     ·have:mt (dt x)=2*(dt x / 2):=by unfold mt;rw [if_neg (by omega)];omega
      rw [← this];exact (h.mate _ hlt).2 hp
    have hst:=(psi_step h.pf h.nm h.inv h.mate hfr hem hpe).1 (by
     have ho:=h.ends hX (show x < N by omega) cc cf
     have he:=(psi_pf h.pf h.nm (ShutC dt tw F x)).eqv
     have hlt:=h.lt x (by omega)
     have hlt2:=h.lt _ (h.tlt x (by omega))
     have h2:=h.tw_ x (by omega)
     rcases Nat.mod_two_eq_zero_or_one (dt x) with q | q
     ·have:mt (dt x)=2*(dt x / 2)+1:=by unfold mt;rw [if_pos (by omega)];omega
      rw [← this,← h2,show 2*(dt x / 2)=dt x by omega]
      exact he.symm _ _ hlt2 hlt ho
     ·have:mt (dt x)=2*(dt x / 2):=by unfold mt;rw [if_neg (by omega)];omega
      rw [← this,← h2]
      rw [show dt (tw x)+1=dt x by rw [h2,this];omega]
      exact ho)
    rw [psi_congr f heq,hst,ih,num_more hem hfr heq m,if_pos hem]
   ·have heq:∀ e,ShutC dt tw F (x+1) e↔ShutC dt tw F x e:=fun e=>by
     constructor
     ·rintro ⟨a,y,hy,b,d⟩
      by_cases q:y=x
      ·subst q;subst b;exact absurd ⟨a,d⟩ c
      ·exact ⟨a,y,by omega,b,d⟩
     ·rintro ⟨a,y,hy,b,d⟩
      exact ⟨a,y,by omega,b,d⟩
    have hfun:ShutC dt tw F (x+1)=ShutC dt tw F x:=funext fun e=>propext (heq e)
    rw [hfun];exact ih
theorem Cyc.shutAll (h:Cyc n m N f P dt tw) (hF:∀ e,F e→e < m∧P (2*e)) (e:Nat):ShutC dt tw F N e↔F e:=by
 refine ⟨fun s=>s.1,fun s=>?_⟩
 obtain ⟨h1,h2⟩:=hF e s
 obtain ⟨j,hj,ej⟩:=h.all (2*e) (by have:=h.nm;omega) h2
 have hc:=h.tlt j hj
 rcases Nat.lt_or_ge (tw j) j with q | q
 ·exact ⟨s,j,hj,by omega,q⟩
 ·have:=h.tne hj
  exact ⟨s,tw j,hc,by rw [h.thalf hj];omega,by rw [h.ttw hj];omega⟩
theorem Cyc.noCross (h:Cyc n m N f P dt tw) (hF:∀ e,F e→e < m∧P (2*e)) (hX:NonX N dt tw F):cls (Orb (psi f F)) P n=num F m+1:=by
 have hfun:ShutC dt tw F N=F:=funext fun e=>propext (h.shutAll hF e)
 have:=h.noX hX N (Nat.le_refl _)
 rwa [hfun] at this
theorem Cyc.most (h:Cyc n m N f P dt tw) (hF:∀ e,F e→e < m∧P (2*e)) (B:Nat→Prop) (hB:∀ e,B e→F e):∀ k,cls (Orb (psi f fun e=>B e∨(F e∧e < k))) P n+num B k≤cls (Orb (psi f B)) P n+num F k
 | 0=>by
   have:∀ e,(B e∨(F e∧e < 0))↔B e:=fun e=>⟨fun x=>x.elim id fun y=>absurd y.2 (by omega),.inl⟩
   rw [psi_congr f this];exact Nat.le_refl _
 | k+1=>by
   have ih:=h.most hF B hB k
   by_cases c:F k
   ·by_cases d:B k
    ·have heq:∀ e,(B e∨(F e∧e < k+1))↔(B e∨(F e∧e < k)):=fun e=>by
      constructor
      ·rintro (x | ⟨x,y⟩)
       ·exact .inl x
       ·by_cases q:e=k
        ·subst q;exact .inl d
        ·exact .inr ⟨x,by omega⟩
      ·rintro (x | ⟨x,y⟩)
       ·exact .inl x
       ·exact .inr ⟨x,by omega⟩
     rw [psi_congr f heq,(num_next F k).1 c,(num_next B k).1 d];omega
    ·have hfr:¬ (B k∨(F k∧k < k)):=fun x=>x.elim d fun y=>absurd y.2 (by omega)
     have heq:∀ e,(B e∨(F e∧e < k+1))↔((B e∨(F e∧e < k))∨e=k):=fun e=>by
      constructor
      ·rintro (x | ⟨x,y⟩)
       ·exact .inl (.inl x)
       ·by_cases q:e=k
        ·exact .inr q
        ·exact .inl (.inr ⟨x,by omega⟩)
      ·rintro ((x | ⟨x,y⟩) | q)
       ·exact .inl x
       ·exact .inr ⟨x,by omega⟩
       ·subst q;exact .inr ⟨c,by omega⟩
     obtain ⟨s1,s2⟩:=psi_step (Q:=fun e=>B e∨(F e∧e < k)) h.pf h.nm h.inv h.mate hfr (hF k c).1 (hF k c).2
     rw [psi_congr f heq,(num_next F k).1 c,(num_next B k).2 d]
     by_cases o:Orb (psi f fun e=>B e∨(F e∧e < k)) (2*k) (2*k+1)
     ·have:=s1 o;omega
     ·have:=s2 o;omega
   ·have heq:∀ e,(B e∨(F e∧e < k+1))↔(B e∨(F e∧e < k)):=fun e=>by
     constructor
     ·rintro (x | ⟨x,y⟩)
      ·exact .inl x
      ·by_cases q:e=k
       ·subst q;exact absurd x c
       ·exact .inr ⟨x,by omega⟩
     ·rintro (x | ⟨x,y⟩)
      ·exact .inl x
      ·exact .inr ⟨x,by omega⟩
    rw [psi_congr f heq,(num_next F k).2 c,(num_next B k).2 fun b=>c (hB k b)];omega
theorem Cyc.cross (h:Cyc n m N f P dt tw) (hF:∀ e,F e→e < m∧P (2*e)) {i k:Nat} (h1:i < k) (h2:k < tw i) (h3:tw i < tw k) (hi:i < N) (hk:k < N) (fi:F (dt i / 2)) (fk:F (dt k / 2)) :
  cls (Orb (psi f F)) P n+1≤num F m:=by
 obtain ⟨e1,he1⟩:∃ e1,e1=dt i / 2:=⟨_,rfl⟩
 obtain ⟨e2,he2⟩:∃ e2,e2=dt k / 2:=⟨_,rfl⟩
 have hne:e2≠e1:=fun e=>by
  rw [he1,he2] at e
  rcases h.same hk hi e with c | c
  ·omega
  ·omega
 rw [← he1] at fi
 rw [← he2] at fk
 have hj:=h.tlt i hi
 have hl:=h.tlt k hk
 have s1:=psi_step (Q:=fun _=>False) h.pf h.nm h.inv h.mate (e:=e1) (fun x=>x) (hF e1 fi).1 (hF e1 fi).2
 have hb1:psi f (fun x=>False∨x=e1)=psi f (fun x=>x=e1):=psi_congr f fun e=>⟨fun x=>x.elim False.elim id,.inr⟩
 rw [hb1,psi_none f (Q:=fun _=>False) (fun _ x=>x),h.one] at s1
 have c1:cls (Orb (psi f fun x=>x=e1)) P n≤2:=by
  by_cases o:Orb f (2*e1) (2*e1+1)
  ·have:=s1.1 o;omega
  ·have:=s1.2 o;omega
 have stay:∀ q t,i < t→t≤tw i→∃ t',i < t'∧t'≤tw i∧itf (psi f fun x=>x=e1) q (dt t)=dt t':=fun q=>by
  induction q with
  | zero=>intro t a b;exact ⟨t,a,b,rfl⟩
  | succ q ih =>
    intro t a b
    rw [itf_succ]
    have htN:t < N:=by omega
    by_cases c:t=tw i
    ·have:psi f (fun x=>x=e1) (dt t)=dt (i+1):=by
      unfold psi
      rw [if_pos (by rw [c,h.thalf hi,he1]),← h.tw_ t htN,c,h.ttw hi,h.next i (by omega)]
     rw [this]
     exact ih (i+1) (by omega) (by omega)
    ·have hn1:¬ dt t / 2=e1:=fun e=>by
      rw [he1] at e
      rcases h.same htN hi e with d | d
      ·omega
      ·exact c d
     have:psi f (fun x=>x=e1) (dt t)=dt (t+1):=by
      unfold psi
      rw [if_neg hn1,h.next t (by omega)]
     rw [this]
     exact ih (t+1) (by omega) (by omega)
 have hno:¬ Orb (psi f fun x=>x=e1) (dt k) (dt (tw k)):=fun ⟨q,e⟩=>by
  obtain ⟨t',a,b,c⟩:=stay q k h1 (by omega)
  rw [c] at e
  have:=h.inj _ _ (by omega) hl e
  omega
 have hpf:=(psi_pf h.pf h.nm (fun x=>x=e1)).eqv
 have s2:=(psi_step (Q:=fun x=>x=e1) h.pf h.nm h.inv h.mate (e:=e2) hne (hF e2 fk).1 (hF e2 fk).2).2 (fun o=>by
  apply hno
  have hlk:=h.lt k hk
  have hlt:=h.lt _ hl
  have ht:=h.tw_ k hk
  rcases Nat.mod_two_eq_zero_or_one (dt k) with q | q
  ·have e3:mt (dt k)=2*e2+1:=by unfold mt;rw [if_pos (by omega)];omega
   rw [ht,e3]
   have:dt k=2*e2:=by omega
   rw [this];exact o
  ·have e3:mt (dt k)=2*e2:=by unfold mt;rw [if_neg (by omega)];omega
   rw [ht,e3]
   have e4:dt k=2*e2+1:=by omega
   rw [e4]
   exact hpf.symm _ _ (by omega) (by omega) o)
 have mo:=h.most hF (fun x=>x=e1∨x=e2) (fun e x=>by rcases x with rfl | rfl <;> assumption) m
 have hall:∀ e,((e=e1∨e=e2)∨(F e∧e < m))↔F e:=fun e=>by
  constructor
  ·rintro ((rfl | rfl) | ⟨x,_⟩)
   ·exact fi
   ·exact fk
   ·exact x
  ·intro x;exact .inr ⟨x,(hF e x).1⟩
 rw [psi_congr f hall] at mo
 have n1:num (fun x=>x=e1∨x=e2) m=2:=by
  have a:=num_more (Q:=fun x=>x=e1) (R:=fun x=>x=e1∨x=e2) (hF e2 fk).1 hne (fun i=>Iff.rfl) m
  have b:=num_more (Q:=fun _=>False) (R:=fun x=>x=e1) (hF e1 fi).1 (fun x=>x) (fun i=>⟨.inr,fun x=>x.elim False.elim id⟩) m
  rw [if_pos (hF e2 fk).1] at a
  rw [if_pos (hF e1 fi).1,num_none' (fun _ x=>x)] at b
  omega
 omega
theorem Cyc.iff_ (h:Cyc n m N f P dt tw) (hF:∀ e,F e→e < m∧P (2*e)):cls (Orb (psi f F)) P n=num F m+1↔NonX N dt tw F:=by
 constructor
 ·intro e i k h1 h2 h3 hi hk fi fk
  have:=h.cross hF h1 h2 h3 hi hk fi fk
  omega
 ·exact h.noCross hF
end
end Go.Proofs.YtijbdnhlpbcabaaGreatDoor
namespace Go.Proofs.YtijbdnhlpbcabaaGreatDoor
def wd (V i:Nat):Nat:=V / 2 ^ (64*i)%2 ^ 64
theorem wd_lt (V i:Nat):wd V i < 2 ^ 64:=Nat.mod_lt _ (by decide)
theorem wd_bit (V i j:Nat):(wd V i).testBit j=(decide (j < 64) && V.testBit (64*i+j)):=by
 unfold wd
 rw [Nat.testBit_mod_two_pow,Nat.testBit_div_two_pow]
 congr 2
 omega
def put (V n x k:Nat):Nat:=V+x%2 ^ k*2 ^ n
theorem put_lt {V n:Nat} (x k:Nat) (h:V < 2 ^ n):put V n x k < 2 ^ (n+k):=by
 unfold put
 have h1:x%2 ^ k < 2 ^ k:=Nat.mod_lt _ (Nat.two_pow_pos k)
 have h2:x%2 ^ k*2 ^ n≤(2 ^ k - 1)*2 ^ n:=Nat.mul_le_mul_right _ (by omega)
 have h3:(2 ^ k - 1)*2 ^ n=2 ^ (n+k) - 2 ^ n:=by rw [Nat.sub_mul,Nat.one_mul,← Nat.pow_add,Nat.add_comm k n]
 have h4:2 ^ n≤2 ^ (n+k):=Nat.pow_le_pow_right (by omega) (by omega)
 omega
theorem put_bit {V n:Nat} (x k j:Nat) (h:V < 2 ^ n):(put V n x k).testBit j=if j < n then V.testBit j else (decide (j - n < k) && x.testBit (j - n)):=by
 unfold put
 rw [Nat.add_comm,Nat.mul_comm,Nat.testBit_two_pow_mul_add _ h,Nat.testBit_mod_two_pow]
theorem wd_put_low {V n:Nat} (x k i:Nat) (h:V < 2 ^ n) (hi:64*i+64≤n):wd (put V n x k) i=wd V i:=by
 apply Nat.eq_of_testBit_eq
 intro j
 rw [wd_bit,wd_bit]
 by_cases hj:j < 64
 ·rw [put_bit x k _ h,if_pos (by omega)]
 ·simp [hj]
theorem wd_put_new {V n:Nat} (x k i:Nat) (h:V < 2 ^ n) (hi:n=64*i) (hk:k≤64):wd (put V n x k) i=x%2 ^ k:=by
 apply Nat.eq_of_testBit_eq
 intro j
 rw [wd_bit,put_bit x k _ h,if_neg (by omega),show 64*i+j - n=j by omega,Nat.testBit_mod_two_pow]
 by_cases hj:j < k
 ·simp [hj,show j < 64 by omega]
 ·simp [hj]
theorem wd_put_last {V n:Nat} (x k i s:Nat) (h:V < 2 ^ n) (hn:n=64*i+s) (hs:s < 64):wd (put V n x k) i=wd V i ||| (x%2 ^ k*2 ^ s)%2 ^ 64:=by
 apply Nat.eq_of_testBit_eq
 intro j
 rw [Nat.testBit_or,wd_bit,wd_bit,put_bit x k _ h,Nat.testBit_mod_two_pow,Nat.mul_comm (x%2 ^ k),Nat.testBit_two_pow_mul,Nat.testBit_mod_two_pow]
 by_cases hj:j < 64
 ·by_cases hjs:j < s
  ·simp [hj,show 64*i+j < n by omega,show ¬ s≤j by omega]
  ·have hV:V.testBit (64*i+j)=false:=Nat.testBit_lt_two_pow (Nat.lt_of_lt_of_le h (Nat.pow_le_pow_right (by omega) (by omega)))
   rw [if_neg (by omega),show 64*i+j - n=j - s by omega,hV]
   simp [hj,show s≤j by omega]
 ·simp [hj]
theorem wd_put_next {V n:Nat} (x k i s:Nat) (h:V < 2 ^ n) (hn:n=64*i+s) (hs:s < 64) (hs0:0 < s) (hk:k≤64):wd (put V n x k) (i+1)=x%2 ^ k / 2 ^ (64 - s):=by
 apply Nat.eq_of_testBit_eq
 intro j
 rw [wd_bit,put_bit x k _ h,if_neg (by omega),Nat.testBit_div_two_pow,Nat.testBit_mod_two_pow,show 64*(i+1)+j - n=64 - s+j by omega]
 by_cases hj:64 - s+j < k
 ·simp [show j+(64 - s) < k by omega,show j < 64 by omega,Nat.add_comm]
 ·simp [show ¬ 64 - s+j < k by omega,show ¬ j+(64 - s) < k by omega]
theorem get_one (V i s k:Nat) (h:s+k≤64):wd V i / 2 ^ s%2 ^ k=V / 2 ^ (64*i+s)%2 ^ k:=by
 apply Nat.eq_of_testBit_eq
 intro j
 rw [Nat.testBit_mod_two_pow,Nat.testBit_mod_two_pow,Nat.testBit_div_two_pow,Nat.testBit_div_two_pow,wd_bit]
 by_cases hj:j < k
 ·simp [hj,show j+s < 64 by omega,show 64*i+(j+s)=j+(64*i+s) by omega]
 ·simp [hj]
theorem get_two (V i s k:Nat) (hs:s < 64) (hs0:0 < s) (hk:k≤64):(wd V i / 2 ^ s ||| wd V (i+1)*2 ^ (64 - s)%2 ^ 64)%2 ^ k=V / 2 ^ (64*i+s)%2 ^ k:=by
 apply Nat.eq_of_testBit_eq
 intro j
 rw [Nat.testBit_mod_two_pow,Nat.testBit_mod_two_pow,Nat.testBit_or,Nat.testBit_div_two_pow,Nat.testBit_div_two_pow,wd_bit,Nat.testBit_mod_two_pow,Nat.mul_comm (wd V (i+1)),Nat.testBit_two_pow_mul,wd_bit]
 by_cases hj:j < k
 ·by_cases hjs:j+s < 64
  ·simp [hj,hjs,show ¬ 64 - s≤j by omega,show 64*i+(j+s)=j+(64*i+s) by omega]
  ·simp [hj,hjs,show 64 - s≤j by omega,show j < 64 by omega,show j - (64 - s) < 64 by omega,show 64*(i+1)+(j - (64 - s))=j+(64*i+s) by omega]
 ·simp [hj]
def ofNB (l:List Nat):List Int:=l.map fun (x:Nat)=>(x:Int)
theorem ofN_lenB (l:List Nat):(ofNB l).length=l.length:=by simp [ofNB]
theorem ofN_appendB (l m:List Nat):ofNB (l++m)=ofNB l++ofNB m:=by simp [ofNB]
theorem ofN_takeB (l:List Nat) (k:Nat):ofNB (l.take k)=(ofNB l).take k:=by simp [ofNB,List.map_take]
theorem ofN_getB (l:List Nat) (i:Nat):(ofNB l).getD i 0=((l.getD i 0:Nat):Int):=by
 by_cases h:i < l.length
 ·simp [ofNB,List.getD_eq_getElem?_getD,h]
 ·simp [ofNB,List.getD_eq_getElem?_getD,Nat.le_of_not_lt h]
def val:List Nat→Nat
 | []=>0
 | b :: l=>b+2*val l
def Bin (l:List Nat):Prop:=∀ b∈l,b < 2
theorem Bin.nil:Bin []:=fun _ h=>by cases h
theorem Bin.tail {b:Nat} {l:List Nat} (h:Bin (b :: l)):Bin l:=fun x hx=>h x (List.mem_cons_of_mem _ hx)
theorem Bin.head {b:Nat} {l:List Nat} (h:Bin (b :: l)):b < 2:=h b (List.mem_cons_self ..)
theorem Bin.append {l m:List Nat} (h:Bin l) (k:Bin m):Bin (l++m):=fun x hx=>by
 rcases List.mem_append.1 hx with hx | hx
 ·exact h x hx
 ·exact k x hx
theorem Bin.take {l:List Nat} (h:Bin l) (k:Nat):Bin (l.take k):=fun x hx=>h x (List.mem_of_mem_take hx)
theorem Bin.getD {l:List Nat} (h:Bin l) (i:Nat):l.getD i 0 < 2:=by
 by_cases hi:i < l.length
 ·rw [List.getD_eq_getElem?_getD,List.getElem?_eq_getElem hi]
  exact h _ (List.getElem_mem hi)
 ·rw [List.getD_eq_getElem?_getD,List.getElem?_eq_none (by omega)];decide
theorem val_lt {l:List Nat} (h:Bin l):val l < 2 ^ l.length:=by
 induction l with
 | nil=>simp [val]
 | cons b l ih =>
   have h1:=ih h.tail
   have h2:=h.head
   simp only [val,List.length_cons,Nat.pow_succ]
   omega
theorem val_append (l m:List Nat):val (l++m)=val l+2 ^ l.length*val m:=by
 induction l with
 | nil=>simp [val]
 | cons b l ih =>
   simp only [List.cons_append,val,ih,List.length_cons,Nat.pow_succ]
   rw [Nat.mul_add,← Nat.mul_assoc,Nat.mul_comm 2 (2 ^ l.length)]
   omega
theorem val_bit {l:List Nat} (h:Bin l) (i:Nat):val l / 2 ^ i%2=l.getD i 0:=by
 induction l generalizing i with
 | nil=>simp [val]
 | cons b l ih =>
   have hb:=h.head
   cases i with
   | zero=>simp [val];omega
   | succ i =>
     have e:(b+2*val l) / 2 ^ (i+1)=val l / 2 ^ i:=by
      rw [Nat.pow_succ,Nat.mul_comm (2 ^ i) 2,← Nat.div_div_eq_div_mul]
      congr 1;omega
     simp only [val,e,List.getD_cons_succ]
     exact ih h.tail i
theorem val_inj {l m:List Nat} (h:Bin l) (k:Bin m) (hl:l.length=m.length) (e:val l=val m):l=m:=by
 apply List.ext_getElem hl
 intro i h1 h2
 have a:=val_bit h i
 have b:=val_bit k i
 rw [e,b] at a
 simpa [List.getD_eq_getElem?_getD,List.getElem?_eq_getElem h1,List.getElem?_eq_getElem h2] using a.symm
def numL (x k:Nat):List Nat:=(List.range k).map fun i=>x / 2 ^ i%2
theorem numL_len (x k:Nat):(numL x k).length=k:=by simp [numL]
theorem numL_bin (x k:Nat):Bin (numL x k):=fun b hb=>by
 simp only [numL,List.mem_map] at hb
 obtain ⟨i,_,rfl⟩:=hb
 exact Nat.mod_lt _ (by decide)
theorem numL_next (x k:Nat):numL x (k+1)=numL x k++[x / 2 ^ k%2]:=by simp [numL,List.range_succ]
theorem mod_next (x k:Nat):x%2 ^ (k+1)=x%2 ^ k+2 ^ k*(x / 2 ^ k%2):=by rw [Nat.pow_succ,Nat.mod_mul]
theorem val_numL (x k:Nat):val (numL x k)=x%2 ^ k:=by
 induction k with
 | zero=>simp [numL,val,Nat.mod_one]
 | succ k ih=>rw [numL_next,val_append,ih,numL_len,mod_next];simp [val]
theorem val_take {l:List Nat} (h:Bin l) (k:Nat):val (l.take k)=val l%2 ^ k:=by
 by_cases hk:k≤l.length
 ·have e:=val_append (l.take k) (l.drop k)
  rw [List.take_append_drop,List.length_take,Nat.min_eq_left hk] at e
  rw [e,Nat.add_mul_mod_self_left]
  have:=val_lt (h.take k)
  rw [List.length_take,Nat.min_eq_left hk] at this
  exact (Nat.mod_eq_of_lt this).symm
 ·rw [List.take_of_length_le (by omega)]
  exact (Nat.mod_eq_of_lt (Nat.lt_of_lt_of_le (val_lt h) (Nat.pow_le_pow_right (by omega) (by omega)))).symm
theorem put_val {l m:List Nat} (hm:Bin m):put (val l) l.length (val m) m.length=val (l++m):=by
 unfold put
 rw [val_append,Nat.mod_eq_of_lt (val_lt hm),Nat.mul_comm]
theorem numL_val {l:List Nat} (h:Bin l) (k:Nat) (hk:k≤l.length):numL (val l) k=l.take k:=by
 refine val_inj (numL_bin _ _) (h.take k) (by rw [numL_len,List.length_take,Nat.min_eq_left hk]) ?_
 rw [val_numL,val_take h]
def bit1 (x:Int):Nat:=if x=0 then 0 else 1
theorem bit1_ofN {l:List Nat} (h:Bin l):(ofNB l).map bit1=l:=by
 induction l with
 | nil=>rfl
 | cons b l ih =>
   have:=h.head
   simp only [ofNB,List.map_cons,List.cons.injEq] at ih ⊢
   refine ⟨?_,ih h.tail⟩
   unfold bit1;split <;> omega
theorem put_one (l:List Nat) (x:Int):put (val l) l.length (bit1 x) 1=val (l++[bit1 x]):=by
 have h:Bin [bit1 x]:=fun b hb=>by
  simp only [List.mem_singleton] at hb
  subst hb;unfold bit1;split <;> decide
 have:=put_val (l:=l) h
 simpa [val] using this
def Kds (ks:List Nat):Prop:=∀ k∈ks,k < 4
theorem Kds.getD {ks:List Nat} (h:Kds ks) (i:Nat):ks.getD i 0 < 4:=by
 by_cases hi:i < ks.length
 ·rw [List.getD_eq_getElem?_getD,List.getElem?_eq_getElem hi];exact h _ (List.getElem_mem hi)
 ·rw [List.getD_eq_getElem?_getD,List.getElem?_eq_none (by omega)];decide
theorem Kds.append {ks ls:List Nat} (h:Kds ks) (k:Kds ls):Kds (ks++ls):=fun x hx=>by
 rcases List.mem_append.1 hx with h1 | h1
 ·exact h x h1
 ·exact k x h1
def shp (ks:List Nat):List Nat:=ks.map (· / 2)
theorem shp_len (ks:List Nat):(shp ks).length=ks.length:=by simp [shp]
theorem shp_bin {ks:List Nat} (h:Kds ks):Bin (shp ks):=fun b hb=>by
 obtain ⟨k,hk,rfl⟩:=List.mem_map.1 hb
 have:=h k hk;omega
theorem shp_get (ks:List Nat) (i:Nat):(shp ks).getD i 0=ks.getD i 0 / 2:=by
 by_cases hi:i < ks.length
 ·simp [shp,List.getD_eq_getElem?_getD,hi]
 ·simp [shp,List.getD_eq_getElem?_getD,List.getElem?_eq_none (show ks.length≤i by omega)]
def ownL (s:Nat) (ks:List Nat):List Nat:=(ks.filter fun k=>decide (k / 2=s)).map fun k=>1 - k%2
theorem ownL_bin (s:Nat) (ks:List Nat):Bin (ownL s ks):=fun b hb=>by
 obtain ⟨k,_,rfl⟩:=List.mem_map.1 hb
 omega
theorem ownL_app (s:Nat) (ks ls:List Nat):ownL s (ks++ls)=ownL s ks++ownL s ls:=by simp [ownL]
theorem ownL_one (s k:Nat):ownL s [k]=if k / 2=s then [1 - k%2] else []:=by
 unfold ownL
 by_cases h:k / 2=s
 ·simp [h]
 ·simp [h]
theorem take_snoc (ks:List Nat) (i:Nat) (h:i < ks.length):ks.take (i+1)=ks.take i++[ks.getD i 0]:=by
 rw [← List.take_append_getElem h,List.getD_eq_getElem?_getD,List.getElem?_eq_getElem h];rfl
def ah (s:Nat) (ks:List Nat) (i:Nat):Nat:=(ownL s (ks.take i)).length
theorem ah_zero (s:Nat) (ks:List Nat):ah s ks 0=0:=by simp [ah,ownL]
theorem ah_next (s:Nat) (ks:List Nat) (i:Nat) (h:i < ks.length):ah s ks (i+1)=ah s ks i+if ks.getD i 0 / 2=s then 1 else 0:=by
 unfold ah
 rw [take_snoc ks i h,ownL_app,ownL_one,List.length_append]
 split <;> simp
theorem ah_le (s:Nat) (ks:List Nat):∀ i,i≤ks.length→ah s ks i≤i
 | 0,_=>by rw [ah_zero];exact Nat.le_refl _
 | i+1,h=>by
   have:=ah_le s ks i (by omega)
   rw [ah_next s ks i (by omega)]
   split <;> omega
theorem ah_mono (s:Nat) (ks:List Nat) (i:Nat):∀ j,i+j≤ks.length→ah s ks i≤ah s ks (i+j)
 | 0,_=>Nat.le_refl _
 | j+1,h=>by
   have:=ah_mono s ks i j (by omega)
   rw [← Nat.add_assoc,ah_next s ks (i+j) (by omega)]
   split <;> omega
theorem ah_all (s:Nat) (ks:List Nat):ah s ks ks.length=(ownL s ks).length:=by unfold ah;rw [List.take_length]
theorem ah_end (s:Nat) (ks:List Nat) (i:Nat) (h:i≤ks.length):ah s ks i≤(ownL s ks).length:=by
 rw [← ah_all s ks]
 have:=ah_mono s ks i (ks.length - i) (by omega)
 rwa [show i+(ks.length - i)=ks.length by omega] at this
theorem ah_lt (s:Nat) (ks:List Nat) (i:Nat) (h:i < ks.length) (hs:ks.getD i 0 / 2=s):ah s ks i < (ownL s ks).length:=by
 have:=ah_end s ks (i+1) (by omega)
 rw [ah_next s ks i h,if_pos hs] at this
 omega
theorem ownL_take (s:Nat) (ks:List Nat) (i:Nat):ownL s (ks.take i)=(ownL s ks).take (ah s ks i):=by
 have h:ownL s ks=ownL s (ks.take i)++ownL s (ks.drop i):=by rw [← ownL_app,List.take_append_drop]
 rw [h];unfold ah;simp
theorem ownL_get (s:Nat) (ks:List Nat) (i:Nat) (h:i < ks.length) (hs:ks.getD i 0 / 2=s):(ownL s ks).getD (ah s ks i) 0=1 - ks.getD i 0%2:=by
 have h1:=ownL_take s ks (i+1)
 rw [take_snoc ks i h,ownL_app,ownL_one,if_pos hs,ah_next s ks i h,if_pos hs] at h1
 have hlt:=ah_lt s ks i h hs
 rw [take_snoc (ownL s ks) (ah s ks i) hlt,ownL_take] at h1
 have h2:[1 - ks.getD i 0%2]=[(ownL s ks).getD (ah s ks i) 0]:=List.append_inj_right h1 rfl
 exact (List.cons.inj h2).1.symm
theorem ah_find (s:Nat) (ks:List Nat) (y:Nat) (hy:y < (ownL s ks).length):∃ i,i < ks.length∧ks.getD i 0 / 2=s∧ah s ks i=y:=by
 suffices ∀ n,n≤ks.length→y < ah s ks n→∃ i,i < n∧ks.getD i 0 / 2=s∧ah s ks i=y by
  obtain ⟨i,h1,h2,h3⟩:=this ks.length (Nat.le_refl _) (by rw [ah_all];exact hy)
  exact ⟨i,h1,h2,h3⟩
 intro n
 induction n with
 | zero=>intro _ h;rw [ah_zero] at h;omega
 | succ n ih =>
   intro hn h
   by_cases h2:y < ah s ks n
   ·obtain ⟨i,a,b,c⟩:=ih (by omega) h2
    exact ⟨i,by omega,b,c⟩
   ·rw [ah_next s ks n (by omega)] at h
    by_cases h3:ks.getD n 0 / 2=s
    ·rw [if_pos h3] at h
     exact ⟨n,by omega,h3,by omega⟩
    ·rw [if_neg h3] at h;omega
theorem ah_uniq (s:Nat) (ks:List Nat) (i j:Nat) (hi:i < ks.length) (hj:j < ks.length) (h1:ks.getD i 0 / 2=s) (h2:ks.getD j 0 / 2=s) (h:ah s ks i=ah s ks j):i=j:=by
 rcases Nat.lt_trichotomy i j with hlt | he | hgt
 ·have a:=ah_next s ks i hi
  rw [if_pos h1] at a
  have b:=ah_mono s ks (i+1) (j - (i+1)) (by omega)
  rw [show i+1+(j - (i+1))=j by omega] at b
  omega
 ·exact he
 ·have a:=ah_next s ks j hj
  rw [if_pos h2] at a
  have b:=ah_mono s ks (j+1) (i - (j+1)) (by omega)
  rw [show j+1+(i - (j+1))=i by omega] at b
  omega
def pop (x k:Nat):Nat:=(numL x k).sum
theorem numL_add (x a b:Nat):numL x (a+b)=numL x a++numL (x / 2 ^ a) b:=by
 simp only [numL,List.range_add,List.map_append,List.map_map]
 congr 1
 refine List.map_congr_left fun i _=>?_
 simp only [Function.comp]
 rw [Nat.pow_add,Nat.div_div_eq_div_mul]
theorem pop_add (x a b:Nat):pop x (a+b)=pop x a+pop (x / 2 ^ a) b:=by
 unfold pop
 rw [numL_add,List.sum_append]
theorem numL_mod (x k:Nat):numL (x%2 ^ k) k=numL x k:=by
 refine List.map_congr_left fun i hi=>?_
 rw [List.mem_range] at hi
 have h:(x%2 ^ k).testBit i=x.testBit i:=by rw [Nat.testBit_mod_two_pow];simp [hi]
 rw [Nat.testBit_eq_decide_div_mod_eq,Nat.testBit_eq_decide_div_mod_eq,decide_eq_decide] at h
 omega
theorem pop_mod (x k:Nat):pop (x%2 ^ k) k=pop x k:=by unfold pop;rw [numL_mod]
theorem pop_zero (k:Nat):pop 0 k=0:=by
 unfold pop numL
 induction k with
 | zero=>rfl
 | succ k ih=>rw [List.range_succ,List.map_append,List.sum_append,ih];simp
theorem and_cut (a b c d:Nat) (hb:b < 256) (hd:d < 256):(a*256+b) &&& (c*256+d)=(a &&& c)*256+(b &&& d):=by
 have hbd:b &&& d < 2 ^ 8:=Nat.and_lt_two_pow b hd
 have e:∀ u v:Nat,u*256+v=2 ^ 8*u+v:=fun u v=>by omega
 rw [e a b,e c d,e _ _]
 apply Nat.eq_of_testBit_eq
 intro j
 rw [Nat.testBit_and,Nat.testBit_two_pow_mul_add a (i:=8) hb,Nat.testBit_two_pow_mul_add c (i:=8) hd,Nat.testBit_two_pow_mul_add (a &&& c) (i:=8) hbd]
 by_cases hj:j < 8
 ·simp [hj,Nat.testBit_and]
 ·simp [hj,Nat.testBit_and]
def st1 (x M:Nat):Nat:=(x / 2 &&& M)+(x &&& M)
def st2 (x M:Nat):Nat:=(x / 4 &&& M)+(x &&& M)
def st3 (x M:Nat):Nat:=(x / 16+x) &&& M
theorem st1_cut (a b M:Nat) (hb:b < 256):st1 (a*256+b) (M*256+85)=st1 a M*256+st1 b 85:=by
 have h:∀ t,t < 2→∀ b,b < 256→(t*128+b / 2) &&& 85=b / 2 &&& 85:=by decide +kernel
 unfold st1
 rw [show (a*256+b) / 2=(a / 2)*256+(a%2*128+b / 2) by omega,and_cut _ _ _ _ (by omega) (by omega),and_cut _ _ _ _ hb (by omega),h _ (by omega) _ hb]
 omega
theorem st2_cut (a b M:Nat) (hb:b < 256):st2 (a*256+b) (M*256+51)=st2 a M*256+st2 b 51:=by
 have h:∀ t,t < 4→∀ b,b < 256→(t*64+b / 4) &&& 51=b / 4 &&& 51:=by decide +kernel
 unfold st2
 rw [show (a*256+b) / 4=(a / 4)*256+(a%4*64+b / 4) by omega,and_cut _ _ _ _ (by omega) (by omega),and_cut _ _ _ _ hb (by omega),h _ (by omega) _ hb]
 omega
theorem st3_cut (a b M:Nat) (hb:b < 69) (ha:a%16 < 5):st3 (a*256+b) (M*256+15)=st3 a M*256+st3 b 15:=by
 have h:∀ t,t < 5→∀ b,b < 69→(t*16+b / 16+b) &&& 15=(b / 16+b) &&& 15:=by decide +kernel
 unfold st3
 rw [show (a*256+b) / 16+(a*256+b)=(a / 16+a)*256+(a%16*16+b / 16+b) by omega,and_cut _ _ _ _ (by omega) (by omega),h _ ha _ hb]
def nb:List Nat→Nat
 | []=>0
 | b :: l=>nb l*256+b
def repB (d:Nat):Nat→Nat
 | 0=>0
 | k+1=>repB d k*256+d
theorem st1_nb (l:List Nat) (h:∀ b∈l,b < 256):st1 (nb l) (repB 85 l.length)=nb (l.map (st1 · 85)):=by
 induction l with
 | nil=>rfl
 | cons b l ih=>simp only [nb,repB,List.length_cons,List.map_cons];rw [st1_cut _ _ _ (h b (by simp)),ih fun x hx=>h x (by simp [hx])]
theorem st2_nb (l:List Nat) (h:∀ b∈l,b < 256):st2 (nb l) (repB 51 l.length)=nb (l.map (st2 · 51)):=by
 induction l with
 | nil=>rfl
 | cons b l ih=>simp only [nb,repB,List.length_cons,List.map_cons];rw [st2_cut _ _ _ (h b (by simp)),ih fun x hx=>h x (by simp [hx])]
theorem st3_nb (l:List Nat) (h:∀ b∈l,b < 69∧b%16 < 5):st3 (nb l) (repB 15 l.length)=nb (l.map (st3 · 15)):=by
 induction l with
 | nil=>rfl
 | cons b l ih =>
   simp only [nb,repB,List.length_cons,List.map_cons]
   rw [st3_cut _ _ _ (h b (by simp)).1,ih fun x hx=>h x (by simp [hx])]
   cases l with
   | nil=>simp [nb]
   | cons c l=>have:=(h c (by simp)).2;simp only [nb];omega
theorem byte_1:∀ b,b < 256→st1 b 85 < 256:=by decide +kernel
theorem byte_2:∀ b,b < 256→st2 (st1 b 85) 51 < 69∧st2 (st1 b 85) 51%16 < 5:=by decide +kernel
theorem byte_3:∀ b,b < 256→st3 (st2 (st1 b 85) 51) 15=pop b 8:=by decide +kernel
theorem byte_4:∀ b,b < 256→pop b 8 < 9:=by decide +kernel
theorem steps_nb (l:List Nat) (h:∀ b∈l,b < 256):st3 (st2 (st1 (nb l) (repB 85 l.length)) (repB 51 l.length)) (repB 15 l.length)=nb (l.map (pop · 8)):=by
 rw [st1_nb l h]
 have h2:=st2_nb (l.map (st1 · 85)) (fun b hb=>by
  simp only [List.mem_map] at hb
  obtain ⟨a,ha,rfl⟩:=hb
  exact byte_1 a (h a ha))
 rw [List.length_map] at h2
 rw [h2]
 have h3:=st3_nb ((l.map (st1 · 85)).map (st2 · 51)) (fun b hb=>by
  simp only [List.mem_map] at hb
  obtain ⟨a,⟨c,hc,rfl⟩,rfl⟩:=hb
  exact byte_2 c (h c hc))
 rw [List.length_map,List.length_map] at h3
 rw [h3,List.map_map,List.map_map]
 congr 1
 exact List.map_congr_left fun b hb=>byte_3 b (h b hb)
def by8 (x:Nat):List Nat:=[x%256,x / 256%256,x / 65536%256,x / 16777216%256,x / 4294967296%256,x / 1099511627776%256,x / 281474976710656%256,x / 72057594037927936%256]
theorem nb_by8 (x:Nat) (h:x < 2 ^ 64):nb (by8 x)=x:=by
 simp only [by8,nb]
 omega
theorem by8_lt (x:Nat):∀ b∈by8 x,b < 256:=fun b hb=>by
 simp only [by8,List.mem_cons,List.not_mem_nil,or_false] at hb
 omega
theorem pop8 (x:Nat):pop x 8=pop (x%256) 8:=(pop_mod x 8).symm
theorem pop_by8 (x:Nat):pop x 64=pop (x%256) 8+pop (x / 256%256) 8+pop (x / 65536%256) 8+pop (x / 16777216%256) 8+pop (x / 4294967296%256) 8+pop (x / 1099511627776%256) 8+pop (x / 281474976710656%256) 8+pop (x / 72057594037927936%256) 8:=by
 rw [show (64:Nat)=8+8+8+8+8+8+8+8 by rfl]
 simp only [pop_add]
 rw [pop8 x,pop8 (x / 2 ^ 8),pop8 (x / 2 ^ (8+8)),pop8 (x / 2 ^ (8+8+8)),pop8 (x / 2 ^ (8+8+8+8)),pop8 (x / 2 ^ (8+8+8+8+8)),pop8 (x / 2 ^ (8+8+8+8+8+8)),pop8 (x / 2 ^ (8+8+8+8+8+8+8))]
theorem div1 (s0 s1 s2 s3 s4 s5 s6 s7:Nat) (h0:s0 < 256):((((((((0*256+s7)*256+s6)*256+s5)*256+s4)*256+s3)*256+s2)*256+s1)*256+s0) / 256=((((((0*256+s7)*256+s6)*256+s5)*256+s4)*256+s3)*256+s2)*256+s1:=by omega
theorem div2 (s0 s1 s2 s3 s4 s5 s6 s7:Nat) (h0:s0 < 256) (h1:s1 < 256):((((((((0*256+s7)*256+s6)*256+s5)*256+s4)*256+s3)*256+s2)*256+s1)*256+s0) / 65536=(((((0*256+s7)*256+s6)*256+s5)*256+s4)*256+s3)*256+s2:=by omega
theorem div4 (s0 s1 s2 s3 s4 s5 s6 s7:Nat) (h0:s0 < 256) (h1:s1 < 256) (h2:s2 < 256) (h3:s3 < 256):((((((((0*256+s7)*256+s6)*256+s5)*256+s4)*256+s3)*256+s2)*256+s1)*256+s0) / 4294967296=(((0*256+s7)*256+s6)*256+s5)*256+s4:=by omega
theorem fold8 (c0 c1 c2 c3 c4 c5 c6 c7:Nat) (b0:c0 < 9) (b1:c1 < 9) (b2:c2 < 9) (b3:c3 < 9) (b4:c4 < 9) (b5:c5 < 9) (b6:c6 < 9) (b7:c7 < 9) (X3 X4 X5 X6:Nat)
  (h3:X3=(((((((0*256+c7)*256+c6)*256+c5)*256+c4)*256+c3)*256+c2)*256+c1)*256+c0) (h4:X4=X3+X3 / 256) (h5:X5=X4+X4 / 65536) (h6:X6=X5+X5 / 4294967296):X6%128=c0+c1+c2+c3+c4+c5+c6+c7∧X6 < 2 ^ 61:=by
 have e4:X4=(((((((0*256+c7)*256+(c6+c7))*256+(c5+c6))*256+(c4+c5))*256+(c3+c4))*256+(c2+c3))*256+(c1+c2))*256+(c0+c1):=by
  rw [h4,h3,div1 _ _ _ _ _ _ _ _ (by omega)];omega
 clear h3 h4
 have e5:X5=(((((((0*256+c7)*256+(c6+c7))*256+(c5+c6+c7))*256+(c4+c5+c6+c7))*256+(c3+c4+c5+c6))*256+(c2+c3+c4+c5))*256+(c1+c2+c3+c4))*256+(c0+c1+c2+c3):=by
  rw [h5,e4,div2 _ _ _ _ _ _ _ _ (by omega) (by omega)];omega
 clear h5 e4
 have e6:X6=(((((((0*256+c7)*256+(c6+c7))*256+(c5+c6+c7))*256+(c4+c5+c6+c7))*256+(c3+c4+c5+c6+c7))*256+(c2+c3+c4+c5+c6+c7))*256+(c1+c2+c3+c4+c5+c6+c7))*256+(c0+c1+c2+c3+c4+c5+c6+c7):=by
  rw [h6,e5,div4 _ _ _ _ _ _ _ _ (by omega) (by omega) (by omega) (by omega)];omega
 rw [e6]
 constructor <;> omega
theorem swar (x:Nat) (h:x < 2 ^ 64):∃ X1 X2 X3 X4 X5 X6:Nat,X1=(x / 2 &&& 6148914691236517205)+(x &&& 6148914691236517205)∧X2=(X1 / 4 &&& 3689348814741910323)+(X1 &&& 3689348814741910323) ∧
  X3=(X2 / 16+X2) &&& 1085102592571150095∧X4=X3+X3 / 256∧X5=X4+X4 / 65536∧X6=X5+X5 / 4294967296∧X6%128=pop x 64∧X3≤1085102592571150095∧X6 < 2 ^ 61:=by
 have e:=steps_nb (by8 x) (by8_lt x)
 rw [nb_by8 x h] at e
 have r1:repB 85 (by8 x).length=6148914691236517205:=by simp [by8,repB]
 have r2:repB 51 (by8 x).length=3689348814741910323:=by simp [by8,repB]
 have r3:repB 15 (by8 x).length=1085102592571150095:=by simp [by8,repB]
 rw [r1,r2,r3] at e
 simp only [by8,List.map_cons,List.map_nil,nb,st1,st2,st3] at e
 have f:=fold8 _ _ _ _ _ _ _ _ (byte_4 (x%256) (by omega)) (byte_4 (x / 256%256) (by omega)) (byte_4 (x / 65536%256) (by omega)) (byte_4 (x / 16777216%256) (by omega)) (byte_4 (x / 4294967296%256) (by omega)) (byte_4 (x / 1099511627776%256) (by omega)) (byte_4 (x / 281474976710656%256) (by omega)) (byte_4 (x / 72057594037927936%256) (by omega)) _ _ _ _ e rfl rfl rfl
 exact ⟨_,_,_,_,_,_,rfl,rfl,rfl,rfl,rfl,rfl,by rw [pop_by8];exact f.1,Nat.and_le_right,f.2⟩
def cnt64 (k:Int):Nat:=if k≤0 then 0 else if 64≤k then 64 else k.toNat
theorem count_p (k:Int) (w:World) (h:-9223372036854775808≤k∧k≤9223372036854775807) :
  Calls Tryz.prog 133 #[.int .i64 k] w fun e w'=>e=.returned (.int .i64 (cnt64 k:Int))∧w=w':=by
 obtain ⟨m,hm,hm0⟩:∃ m:Int,(∀ w,(Builtin.max_ #[3,3] 3 #[.int .i64 k,.int .i64 0]).run Tryz.prog w=.ok (.int .i64 m) w)∧m=(if k≤0 then 0 else k) :=
  ⟨if k≤0 then 0 else k,fun w=>by simp [Builtin.max_,Builtin.max2];split <;> split <;> omega,rfl⟩
 have hmn:∀ w,(Builtin.min_ #[3,3] 3 #[.int .i64 m,.int .i64 64]).run Tryz.prog w=.ok (.int .i64 ((cnt64 k:Nat):Int)) w:=fun w=>by
  simp [Builtin.min_,Builtin.min2,cnt64]
  repeat' split
  all_goals (first | rfl | omega | (subst hm0;repeat' split at*<;> omega) | (simp_all;omega))
 generalize cnt64 k=c at *
 clear hm0
 go_enter Tryz.func133,Tryz.ntmps133
 go_wp2
 go_ret
 exact ⟨rfl,rfl⟩
theorem low_eq:∀ k:Nat,k < 65→(18446744073709551615:Int) / 2 ^ (64 - k)=((2 ^ k - 1:Nat):Int):=by decide +kernel
theorem low_p (k:Nat) (w:World) (h:k≤64) :
  Calls Tryz.prog 134 #[.int .i64 (k:Int)] w fun e w'=>e=.returned (.int .u64 ((2 ^ k - 1:Nat):Int))∧w=w':=by
 go_enter Tryz.func134,Tryz.ntmps134
 go_wp2
 go_ret
 exact ⟨congrArg (fun x=>Ending.returned (.int .u64 x)) (low_eq k (by omega)),rfl⟩
end Go.Proofs.YtijbdnhlpbcabaaGreatDoor
