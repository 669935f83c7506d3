/- How many vertices, faces and parts a list has, reckoned. The parts together: sums. Doubles of euler: edges between the same two vertices. Doubles, Simple, Triangulation of euler: the walks. The document's Genus; a tree's edges. -/
import Derived.Test.YtdinmjciippchaaGreatZEPartsW
import Derived.Test.YtdinmjciippchaaGreatZg5
import Derived.Maps.OwnOps
import Derived.Maps.Views
import Derived.Maps.Keyed
import Derived.WideKeyEntry
import Derived.DeepKeys4
import Derived.Deep.RegionWith
open Go.RowKit
set_option linter.unusedVariables false
namespace Go.Proofs.YtdinmjciippchaaGreat
set_option maxRecDepth 20000
def goB (l:List Nat) (d:Nat):Nat→Nat→Bool
 | 0,_=>true
 | f+1,x=>if x < d then false else goB l d f (l.getD x 0)
def leadB (l:List Nat) (d:Nat):Bool:=goB l d l.length d
def metB (l:List Nat):Nat:=((List.range l.length).filter (leadB l)).length
theorem goB_iff (l:List Nat) (d:Nat):∀ f x,goB l d f x=true↔∀ k,k < f→d≤itf (sgL l) k x
 | 0,x=>⟨fun _ k h=>absurd h (by omega),fun _=>rfl⟩
 | f+1,x=>by
   unfold goB
   by_cases h:x < d
   ·rw [if_pos h]
    constructor
    ·intro c;cases c
    ·intro c;have:=c 0 (by omega);have e:itf (sgL l) 0 x=x:=rfl;omega
   ·rw [if_neg h,goB_iff l d f]
    constructor
    ·intro c k hk
     cases k with
     | zero=>show d≤x;omega
     | succ k=>rw [itf_succ];exact c k (by omega)
    ·intro c k hk
     have:=c (k+1) (by omega)
     rwa [itf_succ] at this
section
variable {l b:List Nat}
theorem leadB_iff (h:Inv l b) {d:Nat} (hd:d < l.length):leadB l d=true↔Leads l d:=by
 unfold leadB
 rw [goB_iff,leads_orb h hd]
 constructor
 ·intro H x hx
  have hx':x∈way l d (per l d):=hx
  obtain ⟨j,hj,e⟩:=mem_way.1 hx'
  have hp:=per_le h hd
  have:=H j (by omega)
  rw [sgL_it,e] at this
  exact this
 ·intro H k _
  have:=H (itf (sgL l) k d) ((mem_orb h hd).2 ⟨k,by rw [sgL_it]⟩)
  exact this
theorem met_is (h:Inv l b):met l l.length=metB l:=by
 unfold met leads metB
 congr 1
 apply List.filter_congr
 intro d hd
 have hd:d < l.length:=by simpa using hd
 rw [Bool.eq_iff_iff,leadB_iff h hd,decide_eq_true_iff]
end
section
variable {l b:List Nat}
end
section
variable {l b:List Nat}
end
open Go.RowKit Go.Maps
open Go.RowKit Go.Maps
/-! ### of nil -/
/-! ### edges that are neither loops nor doubles -/
section
variable {l b:List Nat}
theorem name_orb (h:Inv l b) {i j:Nat} (hi:i < l.length) (hj:j < l.length) (e:nameOf l i=nameOf l j):Orb (sgL l) i j:=by
 have hq:=(sgL_pf h).eqv
 have key:∀ x,x < l.length→Orb (sgL l) (lead l x) x:=fun x hx=>by
  obtain ⟨h1,h2,h3⟩:=lead_is h hx
  obtain ⟨t,et⟩:=(mem_orb h (by omega)).1 h3
  exact ⟨t,by rw [sgL_it];exact et⟩
 have hl:lead l i=lead l j:=by
  unfold nameOf at e
  obtain ⟨a1,a2,_⟩:=lead_is h hi
  obtain ⟨b1,b2,_⟩:=lead_is h hj
  rcases Nat.lt_trichotomy (lead l i) (lead l j) with c | c | c
  ·have:=leads_lt l _ _ a2 c;omega
  ·exact c
  ·have:=leads_lt l _ _ b2 c;omega
 have li:=(lead_is h hi).1
 have h1:=key i hi
 have h2:=key j hj
 rw [← hl] at h2
 exact hq.trans _ _ _ hi (by omega) hj (hq.symm _ _ (by omega) hi h1) h2
end
theorem num_inj {A B:Nat→Prop} {n:Nat} (f:Nat→Nat) (hf:∀ x,x < n→A x→f x < n∧B (f x)) (hi:∀ x y,x < n→y < n→A x→A y→f x=f y→x=y):num A n≤num B n:=by
 have key:∀ k,k≤n→num A k=num (fun y=>B y∧∃ x,x < k∧A x∧f x=y) n:=fun k=>by
  induction k with
  | zero =>
    intro _
    have:num (fun y=>B y∧∃ x,x < 0∧A x∧f x=y) n=0:=num_zero fun d _ ⟨_,x,hx,_⟩=>by omega
    rw [this];rfl
  | succ k ih =>
    intro hk
    have ih':=ih (by omega)
    by_cases a:A k
    ·rw [(num_next A k).1 a,ih']
     obtain ⟨h1,h2⟩:=hf k (by omega) a
     unfold num
     refine @filter_less (List.range n) (List.nodup_range) (fun y=>B y∧∃ x,x < k+1∧A x∧f x=y) (fun y=>B y∧∃ x,x < k∧A x∧f x=y) (fun _=>Classical.propDecidable _) (fun _=>Classical.propDecidable _) (f k) (by simpa using h1) ⟨h2,k,by omega,a,rfl⟩ fun i _=>?_
     constructor
     ·rintro ⟨b,x,hx,ax,e⟩
      refine ⟨⟨b,x,by omega,ax,e⟩,fun c=>?_⟩
      have:=hi x k (by omega) (by omega) ax a (by rw [e,c])
      omega
     ·rintro ⟨⟨b,x,hx,ax,e⟩,hne⟩
      refine ⟨b,x,?_,ax,e⟩
      rcases Nat.lt_or_ge x k with c | c
      ·exact c
      ·have:x=k:=by omega
       subst this
       exact absurd e.symm hne
    ·rw [(num_next A k).2 a,ih']
     exact num_congr fun y _=>⟨fun ⟨b,x,hx,ax,e⟩=>⟨b,x,by omega,ax,e⟩,fun ⟨b,x,hx,ax,e⟩=>by
      refine ⟨b,x,?_,ax,e⟩
      rcases Nat.lt_or_ge x k with c | c
      ·exact c
      ·have:x=k:=by omega
       subst this
       exact absurd ax a⟩
 rw [key n (Nat.le_refl _)]
 have:∀ k,num (fun y=>B y∧∃ x,x < n∧A x∧f x=y) k≤num B k:=fun k=>by
  induction k with
  | zero=>exact Nat.le_refl _
  | succ k ih =>
    by_cases b:B k
    ·rw [(num_next B k).1 b]
     by_cases c:B k∧∃ x,x < n∧A x∧f x=k
     ·rw [(num_next _ k).1 c];omega
     ·rw [(num_next _ k).2 c];omega
    ·rw [(num_next B k).2 b,(num_next _ k).2 fun c=>b c.1];exact ih
 exact this n
section
variable {l b:List Nat}
theorem mt_mt (x:Nat):mt (mt x)=x:=by unfold mt;split <;> split <;> omega
end
structure Nam (n:Nat) (p q:List Nat):Prop where
 inv:Inv p q
 len:p.length=n
 ev:n%2=0
 mt:∀ d,d < n→sgL p (mt d)=mt (sgL p d)
theorem Nam.lt {n:Nat} {p q:List Nat} (h:Nam n p q) {d:Nat} (hd:d < n):sgL p d < n:=by have:=h.inv.lt d (by rw [h.len];exact hd);rw [h.len] at this;exact this
theorem Nam.lt' {n:Nat} {p q:List Nat} (h:Nam n p q) {d:Nat} (hd:d < n):sgL q d < n:=by have:=h.inv.lt' d (by rw [h.len];exact hd);rw [h.len] at this;exact this
theorem Nam.qp {n:Nat} {p q:List Nat} (h:Nam n p q) {d:Nat} (hd:d < n):sgL q (sgL p d)=d:=h.inv.lb d (by rw [h.len];exact hd)
theorem Nam.pq {n:Nat} {p q:List Nat} (h:Nam n p q) {d:Nat} (hd:d < n):sgL p (sgL q d)=d:=h.inv.bl d (by rw [h.len];exact hd)
theorem mt_in {n d:Nat} (he:n%2=0) (hd:d < n):Go.Proofs.YtdinmjciippchaaGreat.mt d < n:=mt_lt (m:=n / 2) (by omega) hd
def cjL (p q l:List Nat):List Nat:=(List.range l.length).map fun i=>sgL p (sgL l (sgL q i))
theorem cjL_len (p q l:List Nat):(cjL p q l).length=l.length:=by simp [cjL]
theorem cjL_get (p q l:List Nat) {i:Nat} (hi:i < l.length):sgL (cjL p q l) i=sgL p (sgL l (sgL q i)):=by
 show (cjL p q l).getD i 0=_
 simp [cjL,List.getD_eq_getElem?_getD,hi]
section
variable {l b p q:List Nat}
theorem cj_at (h:Nam l.length p q) {i:Nat} (hi:i < l.length):sgL (cjL p q l) (sgL p i)=sgL p (sgL l i):=by
 rw [cjL_get _ _ _ (h.lt hi),h.qp hi]
theorem cj_inv (h:Nam l.length p q) (hl:Inv l b):Inv (cjL p q l) (cjL p q b):=by
 have hbl:=hl.len
 have key:∀ {x y:List Nat},Inv x y→Nam x.length p q→∀ i,i < x.length→sgL (cjL p q y) (sgL (cjL p q x) i)=i:=fun {x y} hxy hn i hi=>by
  have hi':=hn.lt' hi
  have hx:=hxy.lt _ hi'
  have hn':Nam y.length p q:=by rw [hxy.len];exact hn
  rw [cjL_get _ _ _ hi]
  have e:sgL (cjL p q y) (sgL p (sgL x (sgL q i)))=sgL p (sgL y (sgL x (sgL q i))):=cj_at hn' (by rw [hxy.len];exact hx)
  rw [e]
  have:sgL y (sgL x (sgL q i))=sgL q i:=hxy.lb _ hi'
  rw [this,hn.pq hi]
 have hnb:Nam b.length p q:=by rw [hbl];exact h
 refine ⟨by rw [cjL_len,cjL_len,hbl],fun i hi=>?_,fun i hi=>?_,fun i hi=>?_,fun i hi=>?_⟩ <;> rw [cjL_len] at hi <;> try rw [cjL_len]
 ·have:=cjL_get p q l hi
  show sgL (cjL p q l) i < _
  rw [this];exact h.lt (hl.lt _ (h.lt' hi))
 ·have:=cjL_get p q b (by rw [hbl];exact hi)
  show sgL (cjL p q b) i < _
  rw [this]
  have h2:=hl.lt' _ (h.lt' hi)
  exact h.lt h2
 ·exact key hl h i hi
 ·exact key hl.symm hnb i (by rw [hbl];exact hi)
theorem phi_at (l:List Nat) {d:Nat} (hd:d < l.length):sgL (phiL l) d=sgL l (mt d):=by
 show (phiL l).getD d 0=_
 rw [phiL_get _ _ hd,mt_mateN];rfl
/-! ### edges between the same two -/
theorem name_iff (hl:Inv l b) {i j:Nat} (hi:i < l.length) (hj:j < l.length):nameOf l i=nameOf l j↔Orb (sgL l) i j:=by
 refine ⟨name_orb hl hi hj,fun o=>?_⟩
 obtain ⟨h1,h2,h3⟩:=lead_is hl hi
 have hlt:lead l i < l.length:=by omega
 obtain ⟨t,e⟩:=(mem_orb hl hlt).1 h3
 rw [← sgL_it] at e
 have o2:Orb (sgL l) (lead l i) j:=(sgL_pf hl).eqv.trans _ i _ hlt hi hj ⟨t,e⟩ o
 obtain ⟨t2,e2⟩:=o2
 have:=lead_eq hl hj hlt h2 ((mem_orb hl hlt).2 ⟨t2,by rw [← sgL_it];exact e2⟩)
 unfold nameOf
 rw [this]
def fE (p:List Nat) (e:Nat):Nat:=sgL p (2*e) / 2
end
end Go.Proofs.YtdinmjciippchaaGreat
