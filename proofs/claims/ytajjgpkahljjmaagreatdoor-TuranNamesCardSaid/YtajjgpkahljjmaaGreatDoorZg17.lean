/- append(s, make([]T, k)...) onto a row of one's own: with room and without. -/
import Derived.Test.YtajjgpkahljjmaaGreatDoorZg1
import Derived.Lib.AppendZerosOnto
import Derived.Test.YtajjgpkahljjmaaGreatDoorZPNames
import Derived.Test.YtajjgpkahljjmaaGreatDoorZg3
import Derived.Test.YtajjgpkahljjmaaGreatDoorZg2
import Derived.Test.YtajjgpkahljjmaaGreatDoorZENam
import Derived.Test.YtajjgpkahljjmaaGreatDoorZg15
import Derived.BigQuiet
import Derived.Test.YtajjgpkahljjmaaGreatDoorZg16
open Go.RowKit
set_option linter.unusedVariables false
namespace Go.Proofs.YtajjgpkahljjmaaGreatDoor
set_option maxRecDepth 20000
section
variable {P:Program} (w:World)
end
end Go.Proofs.YtajjgpkahljjmaaGreatDoor
namespace Go.Proofs.YtajjgpkahljjmaaGreatDoor
set_option maxRecDepth 20000
def NewRO (w:World) (l:List Nat) (root lone:Int) (e:Ending) (w':World):Prop :=
 ∃ A c,e=.returned (.agg #[.slice A l.length c,.int .i64 root,.int .i64 lone])∧l.length≤c∧c≤maxLen∧w'.ownsRow w.heap.size 3 1 (.slice A l.length c) l.length (I64 (ofN l))∧Below w.heap.size w w'
theorem box_ret {w wz:World} {g base N cS:Nat} {RT LF:Int} {A:Option Addr} {xs:List Value} (hgw:w.heap.size≤g) (hB:Below w.heap.size w wz) (hHY:Blk wz g 27 #[.slice none 0 0,.int .i64 0,.int .i64 0]) (hrd:wz.ownsRow base 3 1 (.slice A N cS) N xs) :
  Blk (((wz.setCell ⟨g,0,none⟩ (.slice A N cS)).setCell ⟨g,1,none⟩ (.int .i64 RT)).setCell ⟨g,2,none⟩ (.int .i64 LF)) g 27 #[.slice A N cS,.int .i64 RT,.int .i64 LF] ∧
  (((wz.setCell ⟨g,0,none⟩ (.slice A N cS)).setCell ⟨g,1,none⟩ (.int .i64 RT)).setCell ⟨g,2,none⟩ (.int .i64 LF)).ownsRow base 3 1 (.slice A N cS) N xs ∧
  Below w.heap.size w (((wz.setCell ⟨g,0,none⟩ (.slice A N cS)).setCell ⟨g,1,none⟩ (.int .i64 RT)).setCell ⟨g,2,none⟩ (.int .i64 LF)):=by
 have MM:Mod (fun i=>i=g) wz (((wz.setCell ⟨g,0,none⟩ (.slice A N cS)).setCell ⟨g,1,none⟩ (.int .i64 RT)).setCell ⟨g,2,none⟩ (.int .i64 LF)) :=
  Mod.setCell (p:=⟨g,2,none⟩) (Mod.setCell (p:=⟨g,1,none⟩) (Mod.setCell (p:=⟨g,0,none⟩) (Mod.refl (fun i=>i=g) wz) (fun _=>rfl) _) (fun _=>rfl) _) (fun _=>rfl) _
 refine ⟨?_,own_mod hrd MM (fun q hq c=>own_ne hrd hHY (by decide) (by rw [hq];exact congrArg some c)),hB.trans (MM.belowB hB.size fun i hi hf=>by omega)⟩
 have:=((hHY.set_ 0 (.slice A N cS)).set_ 1 (.int .i64 RT)).set_ 2 (.int .i64 LF)
 simpa using this
set_option maxRecDepth 100000
structure Nam (n:Nat) (p q:List Nat):Prop where
 inv:Inv p q
 len:p.length=n
 ev:n%2=0
 mt:∀ d,d < n→sgL p (mt d)=mt (sgL p d)
theorem Nam.lt {n:Nat} {p q:List Nat} (h:Nam n p q) {d:Nat} (hd:d < n):sgL p d < n:=by have:=h.inv.lt d (by rw [h.len];exact hd);rw [h.len] at this;exact this
theorem Nam.lt' {n:Nat} {p q:List Nat} (h:Nam n p q) {d:Nat} (hd:d < n):sgL q d < n:=by have:=h.inv.lt' d (by rw [h.len];exact hd);rw [h.len] at this;exact this
theorem Nam.qp {n:Nat} {p q:List Nat} (h:Nam n p q) {d:Nat} (hd:d < n):sgL q (sgL p d)=d:=h.inv.lb d (by rw [h.len];exact hd)
theorem Nam.pq {n:Nat} {p q:List Nat} (h:Nam n p q) {d:Nat} (hd:d < n):sgL p (sgL q d)=d:=h.inv.bl d (by rw [h.len];exact hd)
theorem mt_in {n d:Nat} (he:n%2=0) (hd:d < n):Go.Proofs.YtajjgpkahljjmaaGreatDoor.mt d < n:=mt_lt (m:=n / 2) (by omega) hd
theorem Nam.symm {n:Nat} {p q:List Nat} (h:Nam n p q):Nam n q p:=by
 refine ⟨h.inv.symm,by rw [h.inv.len,h.len],h.ev,fun d hd=>?_⟩
 have h1:=h.lt' hd
 have h2:=h.mt _ h1
 rw [h.pq hd] at h2
 have h3:=h.qp (mt_in h.ev h1)
 rw [h2] at h3
 exact h3
def cjL (p q l:List Nat):List Nat:=(List.range l.length).map fun i=>sgL p (sgL l (sgL q i))
theorem cjL_len (p q l:List Nat):(cjL p q l).length=l.length:=by simp [cjL]
theorem cjL_get (p q l:List Nat) {i:Nat} (hi:i < l.length):sgL (cjL p q l) i=sgL p (sgL l (sgL q i)):=by
 show (cjL p q l).getD i 0=_
 simp [cjL,List.getD_eq_getElem?_getD,hi]
section
variable {l b p q:List Nat}
theorem cj_at (h:Nam l.length p q) {i:Nat} (hi:i < l.length):sgL (cjL p q l) (sgL p i)=sgL p (sgL l i):=by
 rw [cjL_get _ _ _ (h.lt hi),h.qp hi]
theorem cj_inv (h:Nam l.length p q) (hl:Inv l b):Inv (cjL p q l) (cjL p q b):=by
 have hbl:=hl.len
 have key:∀ {x y:List Nat},Inv x y→Nam x.length p q→∀ i,i < x.length→sgL (cjL p q y) (sgL (cjL p q x) i)=i:=fun {x y} hxy hn i hi=>by
  have hi':=hn.lt' hi
  have hx:=hxy.lt _ hi'
  have hn':Nam y.length p q:=by rw [hxy.len];exact hn
  rw [cjL_get _ _ _ hi]
  have e:sgL (cjL p q y) (sgL p (sgL x (sgL q i)))=sgL p (sgL y (sgL x (sgL q i))):=cj_at hn' (by rw [hxy.len];exact hx)
  rw [e]
  have:sgL y (sgL x (sgL q i))=sgL q i:=hxy.lb _ hi'
  rw [this,hn.pq hi]
 have hnb:Nam b.length p q:=by rw [hbl];exact h
 refine ⟨by rw [cjL_len,cjL_len,hbl],fun i hi=>?_,fun i hi=>?_,fun i hi=>?_,fun i hi=>?_⟩ <;> rw [cjL_len] at hi <;> try rw [cjL_len]
 ·have:=cjL_get p q l hi
  show sgL (cjL p q l) i < _
  rw [this];exact h.lt (hl.lt _ (h.lt' hi))
 ·have:=cjL_get p q b (by rw [hbl];exact hi)
  show sgL (cjL p q b) i < _
  rw [this]
  have h2:=hl.lt' _ (h.lt' hi)
  exact h.lt h2
 ·exact key hl h i hi
 ·exact key hl.symm hnb i (by rw [hbl];exact hi)
theorem phi_at (l:List Nat) {d:Nat} (hd:d < l.length):sgL (phiL l) d=sgL l (mt d):=by
 show (phiL l).getD d 0=_
 rw [phiL_get _ _ hd,mt_mateN];rfl
theorem cj_back (h:Nam l.length p q) (hl:Inv l b):cjL q p (cjL p q l)=l:=by
 refine getD_ext (by rw [cjL_len,cjL_len]) fun i hi=>?_
 rw [cjL_len,cjL_len] at hi
 show sgL (cjL q p (cjL p q l)) i=sgL l i
 rw [cjL_get _ _ _ (by rw [cjL_len];exact hi),cj_at h hi]
 exact h.qp (hl.lt _ hi)
theorem cj_it (h:Nam l.length p q) (hl:Inv l b) {i:Nat} (hi:i < l.length):∀ k,itf (sgL (cjL p q l)) k (sgL p i)=sgL p (itf (sgL l) k i)
 | 0=>rfl
 | k+1=>by
   have ih:=cj_it h hl hi k
   show sgL (cjL p q l) (itf (sgL (cjL p q l)) k (sgL p i))=sgL p (sgL l (itf (sgL l) k i))
   rw [ih]
   exact cj_at h ((sgL_pf hl).itlt hi k)
theorem cj_orb (h:Nam l.length p q) (hl:Inv l b) {i j:Nat} (hi:i < l.length) (hj:j < l.length):Orb (sgL (cjL p q l)) (sgL p i) (sgL p j)↔Orb (sgL l) i j:=by
 constructor
 ·rintro ⟨k,e⟩
  rw [cj_it h hl hi] at e
  have:=congrArg (sgL q) e
  rw [h.qp ((sgL_pf hl).itlt hi k),h.qp hj] at this
  exact ⟨k,this⟩
 ·rintro ⟨k,e⟩
  exact ⟨k,by rw [cj_it h hl hi,e]⟩
theorem cj_part1 (h:Nam l.length p q) (hl:Inv l b) {i j:Nat} (hi:i < l.length) (hj:j < l.length) (r:part l i j):part (cjL p q l) (sgL p i) (sgL p j):=by
 have hc:=cj_inv h hl
 have hpf:=sgL_pf hl
 have hpc:PF l.length (sgL (cjL p q l)):=by have:=sgL_pf hc;rwa [cjL_len] at this
 have hq:=part_eqv hc (by rw [cjL_len];exact h.ev)
 rw [cjL_len] at hq
 have ev:=h.ev
 refine (part_closed (S:=fun x=>part (cjL p q l) (sgL p i) (sgL p x)) hpf (m:=l.length / 2) (by omega) (fun x hx s=>?_) (fun x hx s=>?_) i j hi hj r).1 (hq.refl _ (h.lt hi))
 ·have e:=cj_at h hx
  have s1:part (cjL p q l) (sgL p x) (sgL p (sgL l x)):=by rw [← e];unfold part;exact gk_sig hpc _ _
  exact hq.trans _ _ _ (h.lt hi) (h.lt hx) (h.lt (hpf.lt _ hx)) s s1
 ·have e:=h.mt x hx
  have s1:part (cjL p q l) (sgL p x) (sgL p (mt x)):=by rw [e];unfold part;rw [cjL_len];exact gk_mt hpc (by omega) _ (h.lt hx)
  exact hq.trans _ _ _ (h.lt hi) (h.lt hx) (h.lt (mt_in ev hx)) s s1
theorem cj_part (h:Nam l.length p q) (hl:Inv l b) {i j:Nat} (hi:i < l.length) (hj:j < l.length):part (cjL p q l) (sgL p i) (sgL p j)↔part l i j:=by
 refine ⟨fun r=>?_,cj_part1 h hl hi hj⟩
 have hc:=cj_inv h hl
 have:=cj_part1 (l:=cjL p q l) (p:=q) (q:=p) (by rw [cjL_len];exact h.symm) hc (by rw [cjL_len];exact h.lt hi) (by rw [cjL_len];exact h.lt hj) r
 rw [cj_back h hl,h.qp hi,h.qp hj] at this
 exact this
/-! ### edges between the same two -/
theorem name_iff (hl:Inv l b) {i j:Nat} (hi:i < l.length) (hj:j < l.length):nameOf l i=nameOf l j↔Orb (sgL l) i j:=by
 refine ⟨name_orb hl hi hj,fun o=>?_⟩
 obtain ⟨h1,h2,h3⟩:=lead_is hl hi
 have hlt:lead l i < l.length:=by omega
 obtain ⟨t,e⟩:=(mem_orb hl hlt).1 h3
 rw [← sgL_it] at e
 have o2:Orb (sgL l) (lead l i) j:=(sgL_pf hl).eqv.trans _ i _ hlt hi hj ⟨t,e⟩ o
 obtain ⟨t2,e2⟩:=o2
 have:=lead_eq hl hj hlt h2 ((mem_orb hl hlt).2 ⟨t2,by rw [← sgL_it];exact e2⟩)
 unfold nameOf
 rw [this]
def sameE (l:List Nat) (e f:Nat):Prop:=lowE l e=lowE l f∧highE l e=highE l f
theorem sameE.eqv (l:List Nat) (m:Nat):Eqv m (sameE l):=⟨fun _ _=>⟨rfl,rfl⟩,fun _ _ _ _ h=>⟨h.1.symm,h.2.symm⟩,fun _ _ _ _ _ _ h k=>⟨h.1.trans k.1,h.2.trans k.2⟩⟩
theorem cj_name (h:Nam l.length p q) (hl:Inv l b) {i j:Nat} (hi:i < l.length) (hj:j < l.length):nameOf (cjL p q l) (sgL p i)=nameOf (cjL p q l) (sgL p j)↔nameOf l i=nameOf l j:=by
 rw [name_iff (cj_inv h hl) (by rw [cjL_len];exact h.lt hi) (by rw [cjL_len];exact h.lt hj),cj_orb h hl hi hj,name_iff hl hi hj]
end
end Go.Proofs.YtajjgpkahljjmaaGreatDoor
namespace Go.Proofs.YtajjgpkahljjmaaGreatDoor
set_option maxRecDepth 100000
section
variable {n V:Nat} {sg sg' v:Nat→Nat} {l b:List Nat}
theorem TG.congr (h:TG n sg v V) (e:∀ i,i < n→sg' i=sg i):TG n sg' v V where
 ev:=h.ev
 pos:=h.pos
 pf:=⟨fun i hi=>by rw [e i hi];exact h.pf.lt i hi,fun i j hi hj q=>h.pf.inj i j hi hj (by rw [← e i hi,← e j hj];exact q)⟩
 lab:=h.lab
 lsg:=fun i hi=>by rw [e i hi];exact h.lsg i hi
 orb:=fun i j hi hj q=>by
  obtain ⟨k,hk⟩:=h.orb i j hi hj q
  exact ⟨k,by rw [(orb_same (S:=fun x=>x < n) (fun x hx=>e x hx) (fun x hx=>h.pf.lt x hx) hi k).1];exact hk⟩
 sur:=h.sur
 cnt:=h.cnt
 tri:=fun d hd=>by
  have m0:=mt_ltn h.ev hd
  have m1:=mt_ltn h.ev (h.pf.lt _ m0)
  have m2:=mt_ltn h.ev (h.pf.lt _ m1)
  rw [e _ m0,e _ m1,e _ m2]
  exact h.tri d hd
 noloop:=h.noloop
 simple:=h.simple
 conn:=fun S h1 h2 h0=>h.conn S (fun i hi s=>by rw [← e i hi];exact h1 i hi s) h2 h0
theorem TG.it_v (h:TG n sg v V) {i:Nat} (hi:i < n):∀ k,v (itf sg k i)=v i
 | 0=>rfl
 | k+1=>by show v (sg (itf sg k i))=_;rw [h.lsg _ (h.pf.itlt hi k),h.it_v hi k]
theorem TG.name (T:TG l.length (sgL l) v V) (h:Inv l b) {i j:Nat} (hi:i < l.length) (hj:j < l.length):nameOf l i=nameOf l j↔v i=v j:=by
 rw [name_iff h hi hj]
 constructor
 ·rintro ⟨k,hk⟩
  rw [← hk,T.it_v hi k]
 ·exact fun q=>T.orb i j hi hj q
theorem pf_inv (h:PF l.length (sgL l)):∃ b,Inv l b:=by
 apply good_inv
 intro i hi
 rw [ofN_len] at hi
 rw [ofN_get,ofN_len]
 have:=h.lt i hi
 refine ⟨by omega,by unfold sgL at this;omega,fun j hj c=>?_⟩
 rw [ofN_get] at c
 have:=h.inj j i (by omega) hi (by unfold sgL;omega)
 omega
end
end Go.Proofs.YtajjgpkahljjmaaGreatDoor
