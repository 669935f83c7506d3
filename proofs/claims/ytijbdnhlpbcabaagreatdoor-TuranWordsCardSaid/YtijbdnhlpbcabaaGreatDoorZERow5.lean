/- ends, isLoop, Loops of euler. Loops of euler. triangles: has each border three darts. Names and Loops of a nil map. The parts of a map as a row of five numbers each: mathematics. Rows of parts: five numbers each. -/
import Derived.Test.YtijbdnhlpbcabaaGreatDoorZg4
import Derived.Test.YtijbdnhlpbcabaaGreatDoorZg3
import Derived.Deep.AppendLies
open Go.RowKit
set_option linter.unusedVariables false
namespace Go.Proofs.YtijbdnhlpbcabaaGreatDoor
set_option maxRecDepth 20000
end Go.Proofs.YtijbdnhlpbcabaaGreatDoor
namespace Go.Proofs.YtijbdnhlpbcabaaGreatDoor
set_option maxRecDepth 20000
end Go.Proofs.YtijbdnhlpbcabaaGreatDoor
namespace Go.Proofs.YtijbdnhlpbcabaaGreatDoor
set_option maxRecDepth 20000
end Go.Proofs.YtijbdnhlpbcabaaGreatDoor
namespace Go.Proofs.YtijbdnhlpbcabaaGreatDoor
set_option maxRecDepth 20000
end Go.Proofs.YtijbdnhlpbcabaaGreatDoor
namespace Go.Proofs.YtijbdnhlpbcabaaGreatDoor
set_option maxRecDepth 20000
noncomputable def pq (l:List Nat) (d:Nat):Nat:=prt (part l) d
noncomputable def pN (l:List Nat):Nat:=pn (part l) l.length
open Classical in
noncomputable def rt (R:Nat→Nat→Prop) (j:Nat):Nat:=if h:∃ d,Least R d∧pn R d=j then h.choose else 0
theorem rt_of {R:Nat→Nat→Prop} {d:Nat} (h:Least R d):rt R (pn R d)=d:=by
 have he:∃ d',Least R d'∧pn R d'=pn R d:=⟨d,h,rfl⟩
 unfold rt
 rw [dif_pos he]
 obtain ⟨h1,h2⟩:=he.choose_spec
 generalize he.choose=c at *
 rcases Nat.lt_trichotomy c d with x | x | x
 ·have:=pn_lt R h1 x;omega
 ·exact x
 ·have:=pn_lt R h x;omega
noncomputable def pV (l:List Nat) (j k:Nat):Nat:=num (fun d=>pq l d=j∧Leads l d) k
noncomputable def pE (l:List Nat) (j k:Nat):Nat:=num (fun d=>pq l d=j∧d%2=0) k
noncomputable def pG (l:List Nat) (j:Nat):Int:=(2 - (pV l j l.length:Int)+(pE l j l.length:Int) - (num (fun d=>pq l d=j∧Leads (phiL l) d) l.length:Int)).tdiv 2
noncomputable def pB (l:List Nat) (j k:Nat):Nat:=num (fun d=>pq l d=j∧Leads (phiL l) d) k
theorem num_le (Q:Nat→Prop) (k:Nat):num Q k≤k:=by
 unfold num
 exact Nat.le_trans (List.length_filter_le _ _) (by simp)
theorem pV_le (l:List Nat) (j k:Nat):pV l j k≤k:=num_le _ _
theorem pE_le (l:List Nat) (j k:Nat):pE l j k≤k:=num_le _ _
theorem pB_le (l:List Nat) (j k:Nat):pB l j k≤k:=num_le _ _
theorem num_zero {Q:Nat→Prop} {k:Nat} (h:∀ d,d < k→¬ Q d):num Q k=0:=by
 unfold num
 rw [List.length_eq_zero_iff,List.filter_eq_nil_iff]
 intro d hd
 simpa using h d (by simpa using hd)
theorem num_congr {Q S:Nat→Prop} {k:Nat} (h:∀ d,d < k→(Q d↔S d)):num Q k=num S k:=by
 unfold num
 congr 1
 apply List.filter_congr
 intro d hd
 have:=h d (by simpa using hd)
 simp [this]
noncomputable def pc (l:List Nat) (kv ke kb kg i:Nat):Int :=
 if i%5=0 then (rt (part l) (i / 5):Int) else if i%5=1 then (pV l (i / 5) kv:Int) else if i%5=2 then (pE l (i / 5) ke:Int) else if i%5=3 then (pB l (i / 5) kb:Int) else
  if i / 5 < kg then pG l (i / 5) else 0
noncomputable def pRow (l:List Nat) (p kv ke kb kg:Nat):List Int:=(List.range (5*p)).map (pc l kv ke kb kg)
theorem pRow_len (l:List Nat) (p kv ke kb kg:Nat):(pRow l p kv ke kb kg).length=5*p:=by simp [pRow]
theorem map_rangeI (f:Nat→Int) (n i:Nat) (h:i < n):((List.range n).map f).getD i 0=f i:=by simp [List.getD_eq_getElem?_getD,List.getElem?_range h]
theorem pRow_get (l:List Nat) (p kv ke kb kg i:Nat) (h:i < 5*p):(pRow l p kv ke kb kg).getD i 0=pc l kv ke kb kg i:=map_rangeI _ _ _ h
theorem pc_0 (l:List Nat) (kv ke kb kg q:Nat):pc l kv ke kb kg (5*q)=rt (part l) q:=by unfold pc;rw [if_pos (by omega),show 5*q / 5=q by omega]
theorem pc_1 (l:List Nat) (kv ke kb kg q:Nat):pc l kv ke kb kg (5*q+1)=pV l q kv:=by unfold pc;rw [if_neg (by omega),if_pos (by omega),show (5*q+1) / 5=q by omega]
theorem pc_2 (l:List Nat) (kv ke kb kg q:Nat):pc l kv ke kb kg (5*q+2)=pE l q ke:=by unfold pc;rw [if_neg (by omega),if_neg (by omega),if_pos (by omega),show (5*q+2) / 5=q by omega]
theorem pc_3 (l:List Nat) (kv ke kb kg q:Nat):pc l kv ke kb kg (5*q+3)=pB l q kb:=by unfold pc;rw [if_neg (by omega),if_neg (by omega),if_neg (by omega),if_pos (by omega),show (5*q+3) / 5=q by omega]
theorem pc_4 (l:List Nat) (kv ke kb kg q:Nat):pc l kv ke kb kg (5*q+4)=if q < kg then pG l q else 0:=by unfold pc;rw [if_neg (by omega),if_neg (by omega),if_neg (by omega),if_neg (by omega),show (5*q+4) / 5=q by omega]
theorem pRow_ext {l:List Nat} {p kv ke kb kg kv' ke' kb' kg' s:Nat} {v:Int} (hs:s < 5*p) (h:∀ i,i < 5*p→pc l kv' ke' kb' kg' i=if i=s then v else pc l kv ke kb kg i) :
  (pRow l p kv ke kb kg).set s v=pRow l p kv' ke' kb' kg':=getDI_ext (by simp [pRow_len]) fun i hi=>by
 have hi:i < 5*p:=by simpa [pRow_len] using hi
 rw [getDI_set _ _ _ _ (by rw [pRow_len];exact hs),pRow_get _ _ _ _ _ _ _ hi,pRow_get _ _ _ _ _ _ _ hi,h i hi]
theorem pRow_same {l:List Nat} {p kv ke kb kg kv' ke' kb' kg':Nat} (h:∀ i,i < 5*p→pc l kv ke kb kg i=pc l kv' ke' kb' kg' i):pRow l p kv ke kb kg=pRow l p kv' ke' kb' kg' :=
 getDI_ext (by simp [pRow_len]) fun i hi=>by
  have hi:i < 5*p:=by simpa [pRow_len] using hi
  rw [pRow_get _ _ _ _ _ _ _ hi,pRow_get _ _ _ _ _ _ _ hi,h i hi]
/-! ### one step of each count -/
theorem pV_yes {l:List Nat} {k:Nat} (h:Leads l k):pV l (pq l k) (k+1)=pV l (pq l k) k+1:=(num_next _ k).1 ⟨rfl,h⟩
theorem pV_else {l:List Nat} {k j:Nat} (h:¬ Leads l k∨pq l k≠j):pV l j (k+1)=pV l j k:=(num_next _ k).2 fun ⟨a,b⟩=>h.elim (fun x=>x b) (fun x=>x a)
theorem pB_yes {l:List Nat} {k:Nat} (h:Leads (phiL l) k):pB l (pq l k) (k+1)=pB l (pq l k) k+1:=(num_next _ k).1 ⟨rfl,h⟩
theorem pB_else {l:List Nat} {k j:Nat} (h:¬ Leads (phiL l) k∨pq l k≠j):pB l j (k+1)=pB l j k:=(num_next _ k).2 fun ⟨a,b⟩=>h.elim (fun x=>x b) (fun x=>x a)
theorem pE_yes {l:List Nat} {k:Nat} (h:k%2=0):pE l (pq l k) (k+1)=pE l (pq l k) k+1:=(num_next _ k).1 ⟨rfl,h⟩
theorem pE_else {l:List Nat} {k j:Nat} (h:¬ k%2=0∨pq l k≠j):pE l j (k+1)=pE l j k:=(num_next _ k).2 fun ⟨a,b⟩=>h.elim (fun x=>x b) (fun x=>x a)
theorem row_v {l:List Nat} {p k ke kb kg:Nat} (hq:pq l k < p) (h:Leads l k):(pRow l p k ke kb kg).set (5*pq l k+1) ((pV l (pq l k) k:Int)+1)=pRow l p (k+1) ke kb kg :=
 pRow_ext (by omega) fun i hi=>by
  by_cases e:i=5*pq l k+1
  ·subst e;rw [if_pos rfl,pc_1,pV_yes h];rfl
  ·rw [if_neg e];unfold pc
   by_cases e1:i%5=1
   ·rw [pV_else (.inr (by omega))]
   ·rw [if_neg e1,if_neg e1]
theorem row_v0 {l:List Nat} {p k ke kb kg:Nat} (h:¬ Leads l k):pRow l p k ke kb kg=pRow l p (k+1) ke kb kg:=pRow_same fun i hi=>by unfold pc;rw [pV_else (.inl h)]
theorem row_b {l:List Nat} {p k kv ke kg:Nat} (hq:pq l k < p) (h:Leads (phiL l) k):(pRow l p kv ke k kg).set (5*pq l k+3) ((pB l (pq l k) k:Int)+1)=pRow l p kv ke (k+1) kg :=
 pRow_ext (by omega) fun i hi=>by
  by_cases e:i=5*pq l k+3
  ·subst e;rw [if_pos rfl,pc_3,pB_yes h];rfl
  ·rw [if_neg e];unfold pc
   by_cases e1:i%5=3
   ·rw [pB_else (.inr (by omega))]
   ·rw [if_neg e1,if_neg e1]
theorem row_b0 {l:List Nat} {p k kv ke kg:Nat} (h:¬ Leads (phiL l) k):pRow l p kv ke k kg=pRow l p kv ke (k+1) kg:=pRow_same fun i hi=>by unfold pc;rw [pB_else (.inl h)]
theorem row_e {l:List Nat} {p k kv kb kg:Nat} (hq:pq l k < p) (h:k%2=0):(pRow l p kv k kb kg).set (5*pq l k+2) ((pE l (pq l k) k:Int)+1)=pRow l p kv (k+1) kb kg :=
 pRow_ext (by omega) fun i hi=>by
  by_cases e:i=5*pq l k+2
  ·subst e;rw [if_pos rfl,pc_2,pE_yes h];rfl
  ·rw [if_neg e];unfold pc
   by_cases e1:i%5=2
   ·rw [pE_else (.inr (by omega))]
   ·rw [if_neg e1,if_neg e1]
theorem row_e0 {l:List Nat} {p k kv kb kg:Nat} (h:¬ k%2=0):pRow l p kv k kb kg=pRow l p kv (k+1) kb kg:=pRow_same fun i hi=>by unfold pc;rw [pE_else (.inl h)]
theorem row_g {l:List Nat} {p j:Nat} (hj:j < p) (kv ke kb:Nat):(pRow l p kv ke kb j).set (5*j+4) (pG l j)=pRow l p kv ke kb (j+1) :=
 pRow_ext (by omega) fun i hi=>by
  by_cases e:i=5*j+4
  ·subst e;rw [if_pos rfl,pc_4,if_pos (by omega)]
  ·rw [if_neg e];unfold pc
   by_cases e0:i%5=0
   ·rw [if_pos e0,if_pos e0]
   rw [if_neg e0,if_neg e0]
   by_cases e1:i%5=1
   ·rw [if_pos e1,if_pos e1]
   rw [if_neg e1,if_neg e1]
   by_cases e2:i%5=2
   ·rw [if_pos e2,if_pos e2]
   rw [if_neg e2,if_neg e2]
   by_cases e3:i%5=3
   ·rw [if_pos e3,if_pos e3]
   rw [if_neg e3,if_neg e3]
   by_cases c:i / 5 < j
   ·rw [if_pos c,if_pos (by omega)]
   ·rw [if_neg c,if_neg (by omega)]
theorem range_five (f:Nat→Int) (p:Nat):(List.range (5*(p+1))).map f=(List.range (5*p)).map f++[f (5*p),f (5*p+1),f (5*p+2),f (5*p+3),f (5*p+4)]:=by
 rw [show 5*(p+1)=5*p+1+1+1+1+1 by omega]
 simp [List.range_succ]
/-! ### when a new part is met -/
section
variable {l b:List Nat}
theorem sgL_it (l:List Nat) (i:Nat):∀ k,itf (sgL l) k i=it l k i
 | 0=>rfl
 | k+1=>by show sgL l (itf (sgL l) k i)=_;rw [sgL_it l i k];rfl
theorem leads_least (h:Inv l b) {d:Nat} (hd:d≤l.length):Leads l d↔Least (Orb (sgL l)) d:=by
 unfold Leads Least
 constructor
 ·intro H j hj ⟨k,e⟩
  refine H j hj ((mem_orb h (by omega)).2 ⟨k,?_⟩)
  rw [← sgL_it];exact e
 ·intro H j hj m
  obtain ⟨k,e⟩:=(mem_orb h (by omega)).1 m
  exact H j hj ⟨k,by rw [sgL_it];exact e⟩
theorem phi_fk (he:l.length%2=0) {i:Nat} (hi:i < l.length):sgL (phiL l) i=fk (sgL l) (l.length / 2) i:=by
 rw [fk_is,if_pos (by omega)]
 unfold sgL
 rw [phiL_get l i hi,mt_mateN]
theorem orb_congr {n:Nat} {f g:Nat→Nat} (hf:PF n f) (h:∀ i,i < n→f i=g i) {i:Nat} (hi:i < n):∀ k,itf f k i=itf g k i∧itf f k i < n
 | 0=>⟨rfl,hi⟩
 | k+1=>by
   obtain ⟨e,lt⟩:=orb_congr hf h hi k
   refine ⟨?_,hf.lt _ lt⟩
   show f (itf f k i)=g (itf g k i)
   rw [← e,h _ lt]
theorem leads_phi (h:Inv l b) (he:l.length%2=0) (hp:Inv (phiL l) (phiB l b)) {d:Nat} (hd:d≤l.length):Leads (phiL l) d↔Least (Orb (fk (sgL l) (l.length / 2))) d:=by
 rw [leads_least hp (by rw [phiL_len];exact hd)]
 have hpf:PF l.length (sgL (phiL l)):=by have:=sgL_pf hp;rwa [phiL_len] at this
 unfold Least
 constructor
 ·intro H j hj ⟨k,e⟩
  exact H j hj ⟨k,by rw [(orb_congr hpf (fun i hi=>phi_fk he hi) (show j < l.length by omega) k).1];exact e⟩
 ·intro H j hj ⟨k,e⟩
  exact H j hj ⟨k,by rw [← (orb_congr hpf (fun i hi=>phi_fk he hi) (show j < l.length by omega) k).1];exact e⟩
theorem new_part (h:Inv l b) (he:l.length%2=0) (hp:Inv (phiL l) (phiB l b)) {d:Nat} (hd:d < l.length) (H:Least (part l) d):Leads l d∧Leads (phiL l) d∧d%2=0:=by
 have hpf:=sgL_pf h
 have hn:l.length=2*(l.length / 2):=by omega
 refine ⟨(leads_least h (by omega)).2 fun j hj o=>H j hj (gk_mono _ (Nat.zero_le _) o),(leads_phi h he hp (by omega)).2 fun j hj o=>H j hj (fk_sub hpf hn _ (Nat.le_refl _) j d (by omega) o),?_⟩
 have hm:=gk_mt hpf hn d hd
 by_cases e:d%2=0
 ·exact e
 ·exfalso
  have:mt d=d - 1:=by unfold mt;rw [if_neg e]
  rw [this] at hm
  exact H (d - 1) (by omega) ((part_eqv h he).symm _ _ hd (by omega) hm)
theorem pq_lt (h:Inv l b) (he:l.length%2=0) {i d:Nat} (hi:i < l.length) (hd:i < d):pq l i < pn (part l) d:=by
 refine prt_lt (part_eqv h he) hi ?_
 have:=(rep_is (part_eqv h he) hi).1
 omega
theorem pq_new (h:Inv l b) (he:l.length%2=0) {d:Nat} (hd:d < l.length) (H:Least (part l) d):pq l d=pn (part l) d:=prt_least (part_eqv h he) hd H
theorem pq_old (h:Inv l b) (he:l.length%2=0) {d:Nat} (hd:d < l.length) (H:¬ Least (part l) d):pq l d < pn (part l) d:=by
 refine prt_lt (part_eqv h he) hd ?_
 have h1:=(rep_is (part_eqv h he) hd).1
 have h2:rep (part l) d≠d:=fun e=>H ((rep_least (part_eqv h he) hd).2 e)
 omega
theorem cnt_new (h:Inv l b) (he:l.length%2=0) {k:Nat} (hk:k≤l.length):pV l (pn (part l) k) k=0∧pE l (pn (part l) k) k=0∧pB l (pn (part l) k) k=0 :=
 ⟨num_zero fun d hd ⟨a,_⟩=>by have:=pq_lt h he (show d < l.length by omega) hd;omega,num_zero fun d hd ⟨a,_⟩=>by have:=pq_lt h he (show d < l.length by omega) hd;omega,num_zero fun d hd ⟨a,_⟩=>by have:=pq_lt h he (show d < l.length by omega) hd;omega⟩
theorem row_new (h:Inv l b) (he:l.length%2=0) {k:Nat} (hk:k < l.length) (H:Least (part l) k):pRow l (pn (part l) k) k k k 0++[(k:Int),0,0,0,0]=pRow l (pn (part l) (k+1)) k k k 0:=by
 rw [(pn_next (part l) k).1 H]
 unfold pRow
 rw [range_five,pc_0,pc_1,pc_2,pc_3,pc_4,rt_of H]
 obtain ⟨a,c,d⟩:=cnt_new h he (show k≤l.length by omega)
 rw [a,c,d]
 simp
/-! ### the genus -/
theorem part_cls (h:Inv l b) (he:l.length%2=0) (hp:Inv (phiL l) (phiB l b)) {d:Nat} (hd:d < l.length) :
  ∃ G:Nat,pV l (pq l d) l.length+pB l (pq l d) l.length+2*G=pE l (pq l d) l.length+2:=by
 have hpf:=sgL_pf h
 have hn:l.length=2*(l.length / 2):=by omega
 have hq:=part_eqv h he
 obtain ⟨G,hG⟩:=euler_part (P:=fun i=>i < l.length∧part l d i) (p:=d) hpf hn
  (fun i hi=>⟨fun ⟨_,r⟩=>⟨hi,hq.trans _ _ _ hd (hpf.lt i hi) hi r (hq.symm _ _ hi (hpf.lt i hi) (gk_sig hpf i _))⟩,fun ⟨_,r⟩=>⟨hpf.lt i hi,hq.trans _ _ _ hd hi (hpf.lt i hi) r (gk_sig hpf i _)⟩⟩)
  (fun e hE=>by
    have h2:part l (2*e) (2*e+1):=gk_edge hpf e _ hE
    exact ⟨fun ⟨_,r⟩=>⟨by omega,hq.trans _ _ _ hd (by omega) (by omega) r h2⟩,fun ⟨_,r⟩=>⟨by omega,hq.trans _ _ _ hd (by omega) (by omega) r (hq.symm _ _ (by omega) (by omega) h2)⟩⟩)
  hd (fun i hi=>⟨fun r=>r.2,fun r=>⟨hi,r⟩⟩)
 refine ⟨G,?_⟩
 have e1:pV l (pq l d) l.length=cls (Orb (sgL l)) (fun i=>i < l.length∧part l d i) l.length:=by
  unfold pV num cls
  congr 1
  apply List.filter_congr
  intro i hi
  have hi:i < l.length:=by simpa using hi
  have a1:pq l i=pq l d↔part l d i:=by unfold pq;rw [eq_comm,prt_iff hq hd hi]
  have a2:=leads_least h (show i≤l.length by omega)
  rw [decide_eq_decide]
  exact ⟨fun ⟨x,y⟩=>⟨⟨hi,a1.1 x⟩,a2.1 y⟩,fun ⟨⟨_,x⟩,y⟩=>⟨a1.2 x,a2.2 y⟩⟩
 have e2:pB l (pq l d) l.length=cls (Orb (fk (sgL l) (l.length / 2))) (fun i=>i < l.length∧part l d i) l.length:=by
  unfold pB num cls
  congr 1
  apply List.filter_congr
  intro i hi
  have hi:i < l.length:=by simpa using hi
  have a1:pq l i=pq l d↔part l d i:=by unfold pq;rw [eq_comm,prt_iff hq hd hi]
  have a2:=leads_phi h he hp (show i≤l.length by omega)
  rw [decide_eq_decide]
  exact ⟨fun ⟨x,y⟩=>⟨⟨hi,a1.1 x⟩,a2.1 y⟩,fun ⟨⟨_,x⟩,y⟩=>⟨a1.2 x,a2.2 y⟩⟩
 have e3:∀ k,k≤l.length / 2→pE l (pq l d) (2*k)=edg (fun i=>i < l.length∧part l d i) k:=fun k=>by
  induction k with
  | zero=>intro _;simp [pE,num,edg]
  | succ k ih =>
    intro hk
    have ih':=ih (by omega)
    have a1:pq l (2*k)=pq l d↔part l d (2*k):=by unfold pq;rw [eq_comm,prt_iff hq hd (by omega)]
    have n1:pE l (pq l d) (2*k+1+1)=pE l (pq l d) (2*k+1):=pE_else (.inl (by omega))
    rw [show 2*(k+1)=2*k+1+1 by omega,n1]
    by_cases r:part l d (2*k)
    ·rw [(edg_next _ k).1 ⟨by omega,r⟩,← ih',← a1.2 r,pE_yes (by omega)]
    ·rw [(edg_next _ k).2 (fun x=>r x.2),← ih']
     exact pE_else (.inr fun e=>r (a1.1 e))
 have e4:=e3 (l.length / 2) (Nat.le_refl _)
 rw [← hn] at e4
 rw [e1,e2,e4]
 exact hG
theorem part_has (l:List Nat):∀ k,∀ j,j < pn (part l) k→∃ d,d < k∧Least (part l) d∧pn (part l) d=j:=by
 intro k
 induction k with
 | zero=>intro j hj;have:=pn_le (part l) 0;omega
 | succ k ih =>
   intro j hj
   by_cases H:Least (part l) k
   ·rw [(pn_next (part l) k).1 H] at hj
    by_cases e:j=pn (part l) k
    ·exact ⟨k,by omega,H,e.symm⟩
    ·obtain ⟨d,a,c⟩:=ih j (by omega);exact ⟨d,by omega,c⟩
   ·rw [(pn_next (part l) k).2 H] at hj
    obtain ⟨d,a,c⟩:=ih j hj;exact ⟨d,by omega,c⟩
theorem pG_is (h:Inv l b) (he:l.length%2=0) (hp:Inv (phiL l) (phiB l b)) {j:Nat} (hj:j < pN l) :
  ∃ G:Nat,pG l j=(G:Int)∧pV l j l.length+pB l j l.length+2*G=pE l j l.length+2:=by
 obtain ⟨d,a,H,e⟩:=part_has l l.length j hj
 obtain ⟨G,hG⟩:=part_cls h he hp a
 rw [pq_new h he a H,e] at hG
 refine ⟨G,?_,hG⟩
 unfold pG
 have:num (fun d=>pq l d=j∧Leads (phiL l) d) l.length=pB l j l.length:=rfl
 rw [this,show (2 - (pV l j l.length:Int)+(pE l j l.length:Int) - (pB l j l.length:Int))=2*(G:Int) by omega,Int.mul_tdiv_cancel_left _ (by decide)]
end
end Go.Proofs.YtijbdnhlpbcabaaGreatDoor
namespace Go.Proofs.YtijbdnhlpbcabaaGreatDoor
set_option maxRecDepth 20000
theorem info_part:(Tryz.prog.info? 144).map (fun i=>(i.zero,i.size,i.bytes))=some (some (.agg #[.int .i64 0,.int .i64 0,.int .i64 0,.int .i64 0,.int .i64 0]),5,40):=by kernel_rfl
theorem info_part5:(Tryz.prog.info? 144).map (·.size)=some 5:=by kernel_rfl
section
variable {w:World} {base g n c:Nat} {e:TypeId} {y:List Int}
theorem own_set5 (h:w.ownsRow base e 5 (.slice (some ⟨g,0,none⟩) n c) n (I64 y)) (k:Nat) (v:Int) :
  (w.setCell ⟨g,k,none⟩ (.int .i64 v)).ownsRow base e 5 (.slice (some ⟨g,0,none⟩) n c) n (I64 (y.set k v)):=by
 rw [I64_set];exact (h.stored k _).1
theorem own_cell5 (h:w.ownsRow base e 5 (.slice (some ⟨g,0,none⟩) n c) n (I64 y)) (k:Nat) (hk:k < n*5) :
  w.cell? ⟨g,k,none⟩=some (.int .i64 (y.getD k 0)):=by
 have hl:y.length=n*5:=by have:=h.1;rw [I64_len] at this;omega
 rw [h.cellAt k (by omega),I64_get y k (by omega)]
end
def NewPt (w:World) (p:Nat) (z:List Int) (e:Ending) (w':World):Prop :=
 ∃ A c,e=.returned (.slice A p c)∧p≤c∧c≤maxLen∧w'.ownsRow w.heap.size 144 5 (.slice A p c) p (I64 z)∧Below w.heap.size w w'
theorem NewPt.mk {w w':World} {p:Nat} {z:List Int} {e:Ending} {v:Value} (he:e=.returned v) (h:w'.ownsRow w.heap.size 144 5 v p (I64 z)) (hb:Below w.heap.size w w'):NewPt w p z e w':=by
 obtain ⟨A,c,rfl,h1,h2⟩:=own_form h
 exact ⟨A,c,he,h1,h2,h,hb⟩
noncomputable def pcL (l:List Nat) (i:Nat):Int :=
 if i / 5 < pN l then pc l l.length l.length l.length (pN l) i else if i%5=0 then -1 else if i%5=1 then 1 else if i%5=3 then 1 else 0
noncomputable def partsC (l:List Nat) (c:Nat):List Int:=(List.range (5*c)).map (pcL l)
theorem partsC_start (l:List Nat):pRow l (pN l) l.length l.length l.length (pN l)=partsC l (pN l):=by
 unfold pRow partsC
 apply List.map_congr_left
 intro i hi
 have hi:i < 5*pN l:=by simpa using hi
 unfold pcL
 rw [if_pos (by omega)]
theorem partsC_lone (l:List Nat) (c:Nat) (h:pN l≤c):partsC l c++[-1,1,0,1,0]=partsC l (c+1):=by
 unfold partsC
 rw [range_five]
 have e:∀ f,f < 5→pcL l (5*c+f)=if f=0 then -1 else if f=1 then 1 else if f=3 then 1 else 0:=fun f hf=>by
  unfold pcL
  rw [if_neg (by omega),show (5*c+f)%5=f by omega]
 have e0:=e 0 (by omega)
 rw [Nat.add_zero] at e0
 rw [e0,e 1 (by omega),e 2 (by omega),e 3 (by omega),e 4 (by omega)]
 simp
theorem partsC_get (l:List Nat) (c j f:Nat) (hj:j < c) (hf:f < 5):(partsC l c).getD (5*j+f) 0=pcL l (5*j+f):=map_rangeI _ _ _ (by omega)
end Go.Proofs.YtijbdnhlpbcabaaGreatDoor
