/- How many vertices, faces and parts a list has, reckoned. The parts together: sums. Doubles of euler: edges between the same two vertices. Doubles, Simple, Triangulation of euler: the walks. The document's Genus; a tree's edges. -/
import Derived.Test.YtijbdnhlpbcabaaGreatDoorZEPartsW
import Derived.Test.YtijbdnhlpbcabaaGreatDoorZg14
import Derived.Maps.OwnOps
import Derived.Maps.Views
import Derived.Maps.Keyed
import Derived.WideKeyEntry
import Derived.DeepKeys4
import Derived.Deep.RegionWith
open Go.RowKit
set_option linter.unusedVariables false
namespace Go.Proofs.YtijbdnhlpbcabaaGreatDoor
set_option maxRecDepth 20000
def goB (l:List Nat) (d:Nat):Nat→Nat→Bool
 | 0,_=>true
 | f+1,x=>if x < d then false else goB l d f (l.getD x 0)
def leadB (l:List Nat) (d:Nat):Bool:=goB l d l.length d
def metB (l:List Nat):Nat:=((List.range l.length).filter (leadB l)).length
theorem goB_iff (l:List Nat) (d:Nat):∀ f x,goB l d f x=true↔∀ k,k < f→d≤itf (sgL l) k x
 | 0,x=>⟨fun _ k h=>absurd h (by omega),fun _=>rfl⟩
 | f+1,x=>by
   unfold goB
   by_cases h:x < d
   ·rw [if_pos h]
    constructor
    ·intro c;cases c
    ·intro c;have:=c 0 (by omega);have e:itf (sgL l) 0 x=x:=rfl;omega
   ·rw [if_neg h,goB_iff l d f]
    constructor
    ·intro c k hk
     cases k with
     | zero=>show d≤x;omega
     | succ k=>rw [itf_succ];exact c k (by omega)
    ·intro c k hk
     have:=c (k+1) (by omega)
     rwa [itf_succ] at this
section
variable {l b:List Nat}
theorem leadB_iff (h:Inv l b) {d:Nat} (hd:d < l.length):leadB l d=true↔Leads l d:=by
 unfold leadB
 rw [goB_iff,leads_orb h hd]
 constructor
 ·intro H x hx
  have hx':x∈way l d (per l d):=hx
  obtain ⟨j,hj,e⟩:=mem_way.1 hx'
  have hp:=per_le h hd
  have:=H j (by omega)
  rw [sgL_it,e] at this
  exact this
 ·intro H k _
  have:=H (itf (sgL l) k d) ((mem_orb h hd).2 ⟨k,by rw [sgL_it]⟩)
  exact this
theorem num_leads (h:Inv l b):num (fun d=>Leads l d) l.length=metB l:=by
 unfold num metB
 congr 1
 apply List.filter_congr
 intro d hd
 have hd:d < l.length:=by simpa using hd
 rw [Bool.eq_iff_iff,leadB_iff h hd,decide_eq_true_iff]
end
def nearB (l:List Nat) (v:List Bool):List Bool:=(List.range l.length).map fun d=>v.getD d false || v.getD (mt d) false || v.getD (l.getD d 0) false
def nearsB (l:List Nat):Nat→List Bool
 | 0=>(List.range l.length).map fun d=>d == 0
 | k+1=>nearB l (nearsB l k)
def oneB (l:List Nat) (k:Nat):Bool:=(List.range l.length).all fun d=>(nearsB l k).getD d false
theorem map_rangeB (f:Nat→Bool) (n i:Nat):((List.range n).map f).getD i false=(decide (i < n) && f i):=by
 by_cases h:i < n
 ·simp [List.getD_eq_getElem?_getD,h]
 ·have:(List.map f (List.range n))[i]?=none:=by rw [List.getElem?_eq_none_iff];simpa using h
  rw [List.getD_eq_getElem?_getD,this]
  simp [h]
section
variable {l b:List Nat}
theorem nearsB_ok (h:Inv l b) (he:l.length%2=0):∀ k d,(nearsB l k).getD d false=true→d < l.length∧part l 0 d
 | 0,d,e=>by
   unfold nearsB at e
   rw [map_rangeB] at e
   simp at e
   obtain ⟨e1,e2⟩:=e
   subst e2
   exact ⟨e1,(part_eqv h he).refl 0 e1⟩
 | k+1,d,e=>by
   have hq:=part_eqv h he
   have hpf:=sgL_pf h
   unfold nearsB nearB at e
   rw [map_rangeB] at e
   simp only [Bool.and_eq_true,Bool.or_eq_true,decide_eq_true_iff] at e
   obtain ⟨hd,e⟩:=e
   refine ⟨hd,?_⟩
   rcases e with (e | e) | e
   ·exact (nearsB_ok h he k d e).2
   ·obtain ⟨h1,h2⟩:=nearsB_ok h he k _ e
    exact hq.trans _ _ _ (by omega) h1 hd h2 (hq.symm _ _ hd h1 (gk_mt hpf (by omega) d hd))
   ·obtain ⟨h1,h2⟩:=nearsB_ok h he k _ e
    exact hq.trans _ _ _ (by omega) h1 hd h2 (hq.symm _ _ hd h1 (gk_sig hpf d _))
theorem oneB_ok (h:Inv l b) (he:l.length%2=0) {k:Nat} (e:oneB l k=true):∀ d,d < l.length→part l 0 d:=fun d hd=>by
 unfold oneB at e
 rw [List.all_eq_true] at e
 exact (nearsB_ok h he k d (e d (by simpa using hd))).2
theorem num_even (n:Nat):num (fun d=>d%2=0) (2*n)=n:=by
 induction n with
 | zero=>rfl
 | succ n ih =>
   rw [show 2*(n+1)=2*n+1+1 by omega,(num_next _ (2*n+1)).2 (by omega),(num_next _ (2*n)).1 (by omega),ih]
theorem one_part (h:Inv l b) (he:l.length%2=0) (h0:0 < l.length) (H:∀ d,d < l.length→part l 0 d) :
  pN l=1∧metB l+metB (phiL l)+2*genusN l=l.length / 2+2:=by
 have hq:=part_eqv h he
 have hp:=phi_inv h he
 have h1:pN l=1:=by
  unfold pN pn
  exact cls_one hq h0 fun i hi=>⟨fun _=>H i hi,fun _=>trivial⟩
 refine ⟨h1,?_⟩
 have hpq:∀ d,d < l.length→pq l d=0:=fun d hd=>by
  have:=pq_lt h he hd hd
  have:=pq_lt h he hd (show d < d+1 by omega)
  have:=pn_mono (part l) (show d+1≤l.length by omega)
  have:pn (part l) l.length=1:=h1
  omega
 obtain ⟨G,hG,hE⟩:=pG_is h he hp (j:=0) (by rw [h1];omega)
 have eV:pV l 0 l.length=metB l:=by
  rw [← num_leads h]
  exact num_congr fun d hd=>⟨fun x=>x.2,fun x=>⟨hpq d hd,x⟩⟩
 have eB:pB l 0 l.length=metB (phiL l):=by
  rw [← num_leads hp,phiL_len]
  exact num_congr fun d hd=>⟨fun x=>x.2,fun x=>⟨hpq d hd,x⟩⟩
 have eE:pE l 0 l.length=l.length / 2:=by
  have:pE l 0 l.length=num (fun d=>d%2=0) l.length:=num_congr fun d hd=>⟨fun x=>x.2,fun x=>⟨hpq d hd,x⟩⟩
  rw [this]
  have:=num_even (l.length / 2)
  rwa [show 2*(l.length / 2)=l.length by omega] at this
 have eg:genusN l=G:=by
  unfold genusN
  rw [h1]
  unfold genusTo pgen
  simp [h1,hG]
 rw [eV,eB,eE] at hE
 rw [eg];exact hE
end
end Go.Proofs.YtijbdnhlpbcabaaGreatDoor
namespace Go.Proofs.YtijbdnhlpbcabaaGreatDoor
set_option maxRecDepth 20000
section
variable {l b:List Nat}
end
end Go.Proofs.YtijbdnhlpbcabaaGreatDoor
namespace Go.Proofs.YtijbdnhlpbcabaaGreatDoor
set_option maxRecDepth 20000
open Go.RowKit Go.Maps
end Go.Proofs.YtijbdnhlpbcabaaGreatDoor
namespace Go.Proofs.YtijbdnhlpbcabaaGreatDoor
set_option maxRecDepth 20000
open Go.RowKit Go.Maps
/-! ### of nil -/
end Go.Proofs.YtijbdnhlpbcabaaGreatDoor
namespace Go.Proofs.YtijbdnhlpbcabaaGreatDoor
set_option maxRecDepth 20000
/-! ### edges that are neither loops nor doubles -/
section
variable {l b:List Nat}
theorem name_orb (h:Inv l b) {i j:Nat} (hi:i < l.length) (hj:j < l.length) (e:nameOf l i=nameOf l j):Orb (sgL l) i j:=by
 have hq:=(sgL_pf h).eqv
 have key:∀ x,x < l.length→Orb (sgL l) (lead l x) x:=fun x hx=>by
  obtain ⟨h1,h2,h3⟩:=lead_is h hx
  obtain ⟨t,et⟩:=(mem_orb h (by omega)).1 h3
  exact ⟨t,by rw [sgL_it];exact et⟩
 have hl:lead l i=lead l j:=by
  unfold nameOf at e
  obtain ⟨a1,a2,_⟩:=lead_is h hi
  obtain ⟨b1,b2,_⟩:=lead_is h hj
  rcases Nat.lt_trichotomy (lead l i) (lead l j) with c | c | c
  ·have:=leads_lt l _ _ a2 c;omega
  ·exact c
  ·have:=leads_lt l _ _ b2 c;omega
 have li:=(lead_is h hi).1
 have h1:=key i hi
 have h2:=key j hj
 rw [← hl] at h2
 exact hq.trans _ _ _ hi (by omega) hj (hq.symm _ _ (by omega) hi h1) h2
end
end Go.Proofs.YtijbdnhlpbcabaaGreatDoor
namespace Go.Proofs.YtijbdnhlpbcabaaGreatDoor
set_option maxRecDepth 20000
theorem num_inj {A B:Nat→Prop} {n:Nat} (f:Nat→Nat) (hf:∀ x,x < n→A x→f x < n∧B (f x)) (hi:∀ x y,x < n→y < n→A x→A y→f x=f y→x=y):num A n≤num B n:=by
 have key:∀ k,k≤n→num A k=num (fun y=>B y∧∃ x,x < k∧A x∧f x=y) n:=fun k=>by
  induction k with
  | zero =>
    intro _
    have:num (fun y=>B y∧∃ x,x < 0∧A x∧f x=y) n=0:=num_zero fun d _ ⟨_,x,hx,_⟩=>by omega
    rw [this];rfl
  | succ k ih =>
    intro hk
    have ih':=ih (by omega)
    by_cases a:A k
    ·rw [(num_next A k).1 a,ih']
     obtain ⟨h1,h2⟩:=hf k (by omega) a
     unfold num
     refine @filter_less (List.range n) (List.nodup_range) (fun y=>B y∧∃ x,x < k+1∧A x∧f x=y) (fun y=>B y∧∃ x,x < k∧A x∧f x=y) (fun _=>Classical.propDecidable _) (fun _=>Classical.propDecidable _) (f k) (by simpa using h1) ⟨h2,k,by omega,a,rfl⟩ fun i _=>?_
     constructor
     ·rintro ⟨b,x,hx,ax,e⟩
      refine ⟨⟨b,x,by omega,ax,e⟩,fun c=>?_⟩
      have:=hi x k (by omega) (by omega) ax a (by rw [e,c])
      omega
     ·rintro ⟨⟨b,x,hx,ax,e⟩,hne⟩
      refine ⟨b,x,?_,ax,e⟩
      rcases Nat.lt_or_ge x k with c | c
      ·exact c
      ·have:x=k:=by omega
       subst this
       exact absurd e.symm hne
    ·rw [(num_next A k).2 a,ih']
     exact num_congr fun y _=>⟨fun ⟨b,x,hx,ax,e⟩=>⟨b,x,by omega,ax,e⟩,fun ⟨b,x,hx,ax,e⟩=>by
      refine ⟨b,x,?_,ax,e⟩
      rcases Nat.lt_or_ge x k with c | c
      ·exact c
      ·have:x=k:=by omega
       subst this
       exact absurd ax a⟩
 rw [key n (Nat.le_refl _)]
 have:∀ k,num (fun y=>B y∧∃ x,x < n∧A x∧f x=y) k≤num B k:=fun k=>by
  induction k with
  | zero=>exact Nat.le_refl _
  | succ k ih =>
    by_cases b:B k
    ·rw [(num_next B k).1 b]
     by_cases c:B k∧∃ x,x < n∧A x∧f x=k
     ·rw [(num_next _ k).1 c];omega
     ·rw [(num_next _ k).2 c];omega
    ·rw [(num_next B k).2 b,(num_next _ k).2 fun c=>b c.1];exact ih
 exact this n
section
variable {l b:List Nat}
theorem mt_mt (x:Nat):mt (mt x)=x:=by unfold mt;split <;> split <;> omega
end
end Go.Proofs.YtijbdnhlpbcabaaGreatDoor
