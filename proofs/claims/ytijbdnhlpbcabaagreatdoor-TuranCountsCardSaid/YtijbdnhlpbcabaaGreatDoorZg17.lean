/- append(s, make([]T, k)...) onto a row of one's own: with room and without. -/
import Derived.Test.YtijbdnhlpbcabaaGreatDoorZg1
import Derived.Lib.AppendZerosOnto
import Derived.Test.YtijbdnhlpbcabaaGreatDoorZPNames
import Derived.Test.YtijbdnhlpbcabaaGreatDoorZg3
import Derived.Test.YtijbdnhlpbcabaaGreatDoorZg2
import Derived.Test.YtijbdnhlpbcabaaGreatDoorZg4
import Derived.Test.YtijbdnhlpbcabaaGreatDoorZg15
import Derived.BigQuiet
import Derived.Test.YtijbdnhlpbcabaaGreatDoorZg16
import Derived.Test.YtijbdnhlpbcabaaGreatDoorZg14
open Go.RowKit
set_option linter.unusedVariables false
set_option linter.unusedSimpArgs false
namespace Go.Proofs.YtijbdnhlpbcabaaGreatDoor
set_option maxRecDepth 20000
section
variable {P:Program} (w:World)
end
end Go.Proofs.YtijbdnhlpbcabaaGreatDoor
namespace Go.Proofs.YtijbdnhlpbcabaaGreatDoor
set_option maxRecDepth 20000
def NewRO (w:World) (l:List Nat) (root lone:Int) (e:Ending) (w':World):Prop :=
 ∃ A c,e=.returned (.agg #[.slice A l.length c,.int .i64 root,.int .i64 lone])∧l.length≤c∧c≤maxLen∧w'.ownsRow w.heap.size 3 1 (.slice A l.length c) l.length (I64 (ofN l))∧Below w.heap.size w w'
theorem box_ret {w wz:World} {g base N cS:Nat} {RT LF:Int} {A:Option Addr} {xs:List Value} (hgw:w.heap.size≤g) (hB:Below w.heap.size w wz) (hHY:Blk wz g 27 #[.slice none 0 0,.int .i64 0,.int .i64 0]) (hrd:wz.ownsRow base 3 1 (.slice A N cS) N xs) :
  Blk (((wz.setCell ⟨g,0,none⟩ (.slice A N cS)).setCell ⟨g,1,none⟩ (.int .i64 RT)).setCell ⟨g,2,none⟩ (.int .i64 LF)) g 27 #[.slice A N cS,.int .i64 RT,.int .i64 LF] ∧
  (((wz.setCell ⟨g,0,none⟩ (.slice A N cS)).setCell ⟨g,1,none⟩ (.int .i64 RT)).setCell ⟨g,2,none⟩ (.int .i64 LF)).ownsRow base 3 1 (.slice A N cS) N xs ∧
  Below w.heap.size w (((wz.setCell ⟨g,0,none⟩ (.slice A N cS)).setCell ⟨g,1,none⟩ (.int .i64 RT)).setCell ⟨g,2,none⟩ (.int .i64 LF)):=by
 have MM:Mod (fun i=>i=g) wz (((wz.setCell ⟨g,0,none⟩ (.slice A N cS)).setCell ⟨g,1,none⟩ (.int .i64 RT)).setCell ⟨g,2,none⟩ (.int .i64 LF)) :=
  Mod.setCell (p:=⟨g,2,none⟩) (Mod.setCell (p:=⟨g,1,none⟩) (Mod.setCell (p:=⟨g,0,none⟩) (Mod.refl (fun i=>i=g) wz) (fun _=>rfl) _) (fun _=>rfl) _) (fun _=>rfl) _
 refine ⟨?_,own_mod hrd MM (fun q hq c=>own_ne hrd hHY (by decide) (by rw [hq];exact congrArg some c)),hB.trans (MM.belowB hB.size fun i hi hf=>by omega)⟩
 have:=((hHY.set_ 0 (.slice A N cS)).set_ 1 (.int .i64 RT)).set_ 2 (.int .i64 LF)
 simpa using this
set_option maxRecDepth 100000
structure Nam (n:Nat) (p q:List Nat):Prop where
 inv:Inv p q
 len:p.length=n
 ev:n%2=0
 mt:∀ d,d < n→sgL p (mt d)=mt (sgL p d)
theorem Nam.lt {n:Nat} {p q:List Nat} (h:Nam n p q) {d:Nat} (hd:d < n):sgL p d < n:=by have:=h.inv.lt d (by rw [h.len];exact hd);rw [h.len] at this;exact this
theorem Nam.lt' {n:Nat} {p q:List Nat} (h:Nam n p q) {d:Nat} (hd:d < n):sgL q d < n:=by have:=h.inv.lt' d (by rw [h.len];exact hd);rw [h.len] at this;exact this
theorem Nam.qp {n:Nat} {p q:List Nat} (h:Nam n p q) {d:Nat} (hd:d < n):sgL q (sgL p d)=d:=h.inv.lb d (by rw [h.len];exact hd)
theorem Nam.pq {n:Nat} {p q:List Nat} (h:Nam n p q) {d:Nat} (hd:d < n):sgL p (sgL q d)=d:=h.inv.bl d (by rw [h.len];exact hd)
theorem mt_in {n d:Nat} (he:n%2=0) (hd:d < n):Go.Proofs.YtijbdnhlpbcabaaGreatDoor.mt d < n:=mt_lt (m:=n / 2) (by omega) hd
def cjL (p q l:List Nat):List Nat:=(List.range l.length).map fun i=>sgL p (sgL l (sgL q i))
theorem cjL_len (p q l:List Nat):(cjL p q l).length=l.length:=by simp [cjL]
theorem cjL_get (p q l:List Nat) {i:Nat} (hi:i < l.length):sgL (cjL p q l) i=sgL p (sgL l (sgL q i)):=by
 show (cjL p q l).getD i 0=_
 simp [cjL,List.getD_eq_getElem?_getD,hi]
section
variable {l b p q:List Nat}
theorem cj_at (h:Nam l.length p q) {i:Nat} (hi:i < l.length):sgL (cjL p q l) (sgL p i)=sgL p (sgL l i):=by
 rw [cjL_get _ _ _ (h.lt hi),h.qp hi]
theorem cj_inv (h:Nam l.length p q) (hl:Inv l b):Inv (cjL p q l) (cjL p q b):=by
 have hbl:=hl.len
 have key:∀ {x y:List Nat},Inv x y→Nam x.length p q→∀ i,i < x.length→sgL (cjL p q y) (sgL (cjL p q x) i)=i:=fun {x y} hxy hn i hi=>by
  have hi':=hn.lt' hi
  have hx:=hxy.lt _ hi'
  have hn':Nam y.length p q:=by rw [hxy.len];exact hn
  rw [cjL_get _ _ _ hi]
  have e:sgL (cjL p q y) (sgL p (sgL x (sgL q i)))=sgL p (sgL y (sgL x (sgL q i))):=cj_at hn' (by rw [hxy.len];exact hx)
  rw [e]
  have:sgL y (sgL x (sgL q i))=sgL q i:=hxy.lb _ hi'
  rw [this,hn.pq hi]
 have hnb:Nam b.length p q:=by rw [hbl];exact h
 refine ⟨by rw [cjL_len,cjL_len,hbl],fun i hi=>?_,fun i hi=>?_,fun i hi=>?_,fun i hi=>?_⟩ <;> rw [cjL_len] at hi <;> try rw [cjL_len]
 ·have:=cjL_get p q l hi
  show sgL (cjL p q l) i < _
  rw [this];exact h.lt (hl.lt _ (h.lt' hi))
 ·have:=cjL_get p q b (by rw [hbl];exact hi)
  show sgL (cjL p q b) i < _
  rw [this]
  have h2:=hl.lt' _ (h.lt' hi)
  exact h.lt h2
 ·exact key hl h i hi
 ·exact key hl.symm hnb i (by rw [hbl];exact hi)
theorem phi_at (l:List Nat) {d:Nat} (hd:d < l.length):sgL (phiL l) d=sgL l (mt d):=by
 show (phiL l).getD d 0=_
 rw [phiL_get _ _ hd,mt_mateN];rfl
/-! ### edges between the same two -/
theorem name_iff (hl:Inv l b) {i j:Nat} (hi:i < l.length) (hj:j < l.length):nameOf l i=nameOf l j↔Orb (sgL l) i j:=by
 refine ⟨name_orb hl hi hj,fun o=>?_⟩
 obtain ⟨h1,h2,h3⟩:=lead_is hl hi
 have hlt:lead l i < l.length:=by omega
 obtain ⟨t,e⟩:=(mem_orb hl hlt).1 h3
 rw [← sgL_it] at e
 have o2:Orb (sgL l) (lead l i) j:=(sgL_pf hl).eqv.trans _ i _ hlt hi hj ⟨t,e⟩ o
 obtain ⟨t2,e2⟩:=o2
 have:=lead_eq hl hj hlt h2 ((mem_orb hl hlt).2 ⟨t2,by rw [← sgL_it];exact e2⟩)
 unfold nameOf
 rw [this]
def fE (p:List Nat) (e:Nat):Nat:=sgL p (2*e) / 2
end
end Go.Proofs.YtijbdnhlpbcabaaGreatDoor
namespace Go.Proofs.YtijbdnhlpbcabaaGreatDoor
set_option maxRecDepth 100000
section
variable {n V:Nat} {sg sg' v:Nat→Nat} {l b:List Nat}
theorem pf_inv (h:PF l.length (sgL l)):∃ b,Inv l b:=by
 apply good_inv
 intro i hi
 rw [ofN_len] at hi
 rw [ofN_get,ofN_len]
 have:=h.lt i hi
 refine ⟨by omega,by unfold sgL at this;omega,fun j hj c=>?_⟩
 rw [ofN_get] at c
 have:=h.inj j i (by omega) hi (by unfold sgL;omega)
 omega
end
end Go.Proofs.YtijbdnhlpbcabaaGreatDoor
namespace Go.Proofs.YtijbdnhlpbcabaaGreatDoor
set_option maxRecDepth 20000
section
variable {ks:List Nat} {tw:Nat→Nat}
theorem matAt_uniq {i p p':Nat} (h:MateAt ks i p) (k:MateAt ks i p'):p=p':=by
 obtain ⟨h1,h2,h3⟩:=h
 obtain ⟨k1,k2,k3⟩:=k
 have:=h3.uniq (exc_Exc _) k3
 exact ah_uniq (ks.getD i 0 / 2) ks p p' h1 k1 h2 k2 (by omega)
theorem matAt_back {i p:Nat} (hi:i < ks.length) (h:MateAt ks i p):MateAt ks p i:=by
 obtain ⟨h1,h2,h3⟩:=h
 refine ⟨hi,h2.symm,?_⟩
 rw [h2]
 exact h3.back
theorem ah_ltP {s i j:Nat} (hi:i < ks.length) (hj:j < ks.length) (h:ah s ks i < ah s ks j):i < j:=by
 rcases Nat.lt_or_ge i j with c | c
 ·exact c
 ·have:=ah_mono s ks j (i - j) (by omega)
  rw [show j+(i - j)=i by omega] at this
  omega
theorem prg_of (kd:Kds ks) (y:List Int) (H:∀ i,i < ks.length→MatI ks i (y.getD i 0)):Prg ks (fun j=>(y.getD j 0).toNat)∧∀ j,j < ks.length→y.getD j 0=(((y.getD j 0).toNat:Nat):Int):=by
 have hm:∀ j,j < ks.length→MateAt ks j (y.getD j 0).toNat:=fun j hj=>by
  obtain ⟨q,e,m⟩:=H j hj
  rw [e];exact m
 refine ⟨⟨kd,fun j hj=>(hm j hj).1,fun j hj=>?_,fun j hj c=>?_,fun j hj=>(hm j hj).2.1,fun j hj=>?_⟩,fun j hj=>?_⟩
 ·exact matAt_uniq (hm _ (hm j hj).1) (matAt_back hj (hm j hj))
 ·have h3:=(hm j hj).2.2
  rw [c] at h3
  obtain ⟨q,e,p | p⟩:=h3
  ·have:=p.lt;omega
  ·have:=p.lt;omega
 ·obtain ⟨h1,h2,h3⟩:=hm j hj
  have st:=step_s (s:=ks.getD j 0 / 2) hj rfl
  have hk:ks.getD j 0%2=0∨ks.getD j 0%2=1:=by omega
  obtain ⟨q,e,p | p⟩:=h3
  ·have o:=p.opens (exc_Exc _)
   have l:=p.lt
   have:=ah_ltP hj h1 (s:=ks.getD j 0 / 2) (by omega)
   constructor
   ·exact fun _=>this
   ·intro _;rcases hk with z | z
    ·exact z
    ·rw [z] at st;exact absurd o (by rw [st];omega)
  ·have o:=p.closes (exc_Exc _)
   have l:=p.lt
   have:=ah_ltP h1 hj (s:=ks.getD j 0 / 2) (by omega)
   constructor
   ·intro z;rw [z] at st;exact absurd o (by rw [st];omega)
   ·intro c;omega
 ·obtain ⟨q,e,m⟩:=H j hj
  rw [e];rfl
def opN (ks:List Nat):Nat→Nat
 | 0=>0
 | i+1=>opN ks i+if ks.getD i 0%2=0 then 1 else 0
theorem opN_mono (ks:List Nat) (i:Nat):∀ k,opN ks i≤opN ks (i+k)
 | 0=>Nat.le_refl _
 | k+1=>by have:=opN_mono ks i k;show _≤opN ks (i+k)+_;omega
theorem opN_lt {i j:Nat} (hi:ks.getD i 0%2=0) (h:i < j):opN ks i < opN ks j:=by
 have h1:opN ks (i+1)=opN ks i+1:=by show opN ks i+_=_;rw [if_pos hi]
 have:=opN_mono ks (i+1) (j - (i+1))
 rw [show i+1+(j - (i+1))=j by omega] at this
 omega
theorem opN_num (ks:List Nat):∀ i,opN ks i=num (fun j=>ks.getD j 0%2=0) i∧opN ks i+num (fun j=>¬ ks.getD j 0%2=0) i=i
 | 0=>⟨rfl,rfl⟩
 | i+1=>by
   obtain ⟨h1,h2⟩:=opN_num ks i
   have a:=num_next (fun j=>ks.getD j 0%2=0) i
   have b:=num_next (fun j=>¬ ks.getD j 0%2=0) i
   show opN ks i+_=_∧opN ks i+_+_=_
   by_cases c:ks.getD i 0%2=0
   ·rw [if_pos c,a.1 c,b.2 (fun k=>k c)];omega
   ·rw [if_neg c,a.2 c,b.1 c];omega
theorem opN_half (P:Prg ks tw):2*opN ks ks.length=ks.length:=by
 obtain ⟨h1,h2⟩:=opN_num ks ks.length
 have oe:∀ x,x < ks.length→(ks.getD x 0%2=0↔¬ ks.getD (tw x) 0%2=0):=fun x hx=>by
  have a:=P.opn x hx
  have b:=P.opn (tw x) (P.lt x hx)
  rw [P.tt x hx] at b
  have:=P.ne x hx
  rw [a,b];omega
 have a:=num_inj (A:=fun j=>ks.getD j 0%2=0) (B:=fun j=>¬ ks.getD j 0%2=0) (n:=ks.length) tw (fun x hx q=>⟨P.lt x hx,(oe x hx).1 q⟩) (fun x y hx hy _ _ e=>by rw [← P.tt x hx,e,P.tt y hy])
 have b:=num_inj (A:=fun j=>¬ ks.getD j 0%2=0) (B:=fun j=>ks.getD j 0%2=0) (n:=ks.length) tw (fun x hx q=>⟨P.lt x hx,by
  have:=(oe (tw x) (P.lt x hx)).2;rw [P.tt x hx] at this;exact this q⟩) (fun x y hx hy _ _ e=>by rw [← P.tt x hx,e,P.tt y hy])
 omega
def nmF (ks:List Nat) (tw:Nat→Nat) (i:Nat):Nat:=if ks.getD i 0%2=0 then 2*opN ks i else 2*opN ks (tw i)+1
theorem nm_lt (P:Prg ks tw) {i:Nat} (hi:i < ks.length):nmF ks tw i < ks.length:=by
 have hh:=opN_half P
 unfold nmF
 by_cases c:ks.getD i 0%2=0
 ·rw [if_pos c]
  have:=opN_lt c hi
  omega
 ·rw [if_neg c]
  have ht:=P.lt i hi
  have b:=P.opn (tw i) ht
  rw [P.tt i hi] at b
  have a:=P.opn i hi
  have ne:=P.ne i hi
  have:=opN_lt (b.2 (by omega)) ht
  omega
theorem nm_inj (P:Prg ks tw) {i j:Nat} (hi:i < ks.length) (hj:j < ks.length) (h:nmF ks tw i=nmF ks tw j):i=j:=by
 have inj:∀ x y,ks.getD x 0%2=0→ks.getD y 0%2=0→opN ks x=opN ks y→x=y:=fun x y hx hy e=>by
  rcases Nat.lt_trichotomy x y with c | c | c
  ·have:=opN_lt hx c;omega
  ·exact c
  ·have:=opN_lt hy c;omega
 have tev:∀ x,x < ks.length→¬ ks.getD x 0%2=0→ks.getD (tw x) 0%2=0:=fun x hx q=>by
  have b:=P.opn (tw x) (P.lt x hx)
  rw [P.tt x hx] at b
  have a:=P.opn x hx
  have ne:=P.ne x hx
  exact b.2 (by omega)
 unfold nmF at h
 by_cases c:ks.getD i 0%2=0
 ·by_cases d:ks.getD j 0%2=0
  ·rw [if_pos c,if_pos d] at h;exact inj i j c d (by omega)
  ·rw [if_pos c,if_neg d] at h;omega
 ·by_cases d:ks.getD j 0%2=0
  ·rw [if_neg c,if_pos d] at h;omega
  ·rw [if_neg c,if_neg d] at h
   have:=inj _ _ (tev i hi c) (tev j hj d) (by omega)
   rw [← P.tt i hi,this,P.tt j hj]
def NmI (ks:List Nat) (tw:Nat→Nat) (y:List Int) (i:Nat):Prop:=∀ j,j < i→ks.getD j 0%2=0→y.getD j 0=((2*opN ks j:Nat):Int)∧y.getD (tw j) 0=((2*opN ks j+1:Nat):Int)
theorem nm_step (P:Prg ks tw) {y:List Int} {i:Nat} (hy:y.length=ks.length) (hi:i < ks.length) (he:ks.getD i 0%2=0) (h:NmI ks tw y i) :
  NmI ks tw ((y.set i ((2*opN ks i:Nat):Int)).set (tw i) ((2*opN ks i+1:Nat):Int)) (i+1):=fun j hj hjo=>by
 have gs:∀ (z:List Int) (a b:Nat) (v:Int),a < z.length→(z.set a v).getD b 0=if b=a then v else z.getD b 0:=fun z a b v ha=>by
  rw [List.getD_eq_getElem?_getD,List.getElem?_set]
  by_cases e:a=b
  ·subst e;simp [ha]
  ·rw [if_neg e,if_neg (Ne.symm e),← List.getD_eq_getElem?_getD]
 have ht:=P.lt i hi
 have ho:=(P.opn i hi).1 he
 rw [gs _ _ _ _ (by simp;omega),gs _ _ _ _ (by omega),gs _ _ _ _ (by simp;omega),gs _ _ _ _ (by omega)]
 by_cases e:j=i
 ·subst e
  rw [if_neg (by omega),if_pos rfl,if_pos rfl]
  exact ⟨rfl,rfl⟩
 ·have hjl:j < ks.length:=by omega
  have hjt:=(P.opn j hjl).1 hjo
  have n1:tw j≠i:=fun c=>by
   have:=(P.opn (tw j) (P.lt j hjl))
   rw [P.tt j hjl,c] at this
   have:=this.1 he
   omega
  have n2:tw j≠tw i:=fun c=>e (by rw [← P.tt j hjl,c,P.tt i hi])
  rw [if_neg (by omega),if_neg e,if_neg n2,if_neg n1]
  exact h j (by omega) hjo
theorem nm_skip {y:List Int} {i:Nat} (he:¬ ks.getD i 0%2=0) (h:NmI ks tw y i):NmI ks tw y (i+1):=fun j hj hjo=>by
 by_cases e:j=i
 ·subst e;exact absurd hjo he
 ·exact h j (by omega) hjo
def nmL (ks:List Nat) (tw:Nat→Nat):List Nat:=(List.range ks.length).map (nmF ks tw)
theorem nmL_len (ks:List Nat) (tw:Nat→Nat):(nmL ks tw).length=ks.length:=by simp [nmL]
theorem nmL_get (ks:List Nat) (tw:Nat→Nat) {i:Nat} (hi:i < ks.length):(nmL ks tw).getD i 0=nmF ks tw i:=by
 unfold nmL
 rw [List.getD_eq_getElem?_getD,List.getElem?_map,List.getElem?_range hi];rfl
theorem nm_done (P:Prg ks tw) {y:List Int} (hy:y.length=ks.length) (h:NmI ks tw y ks.length):y=ofN (nmL ks tw):=by
 apply List.ext_getElem
 ·rw [ofN_len,nmL_len,hy]
 ·intro i h1 h2
  have hi:i < ks.length:=by omega
  have e1:y[i]=y.getD i 0:=by rw [List.getD_eq_getElem?_getD,List.getElem?_eq_getElem h1];rfl
  have e2:(ofN (nmL ks tw))[i]=(((nmL ks tw).getD i 0:Nat):Int):=by rw [← ofN_get,List.getD_eq_getElem?_getD,List.getElem?_eq_getElem h2];rfl
  rw [e1,e2,nmL_get ks tw hi]
  unfold nmF
  by_cases c:ks.getD i 0%2=0
  ·rw [if_pos c];exact (h i hi c).1
  ·rw [if_neg c]
   have b:=P.opn (tw i) (P.lt i hi)
   rw [P.tt i hi] at b
   have a:=P.opn i hi
   have ne:=P.ne i hi
   have:=(h (tw i) (P.lt i hi) (b.2 (by omega))).2
   rw [P.tt i hi] at this
   exact this
end
def nxR (v:List Nat) (i:Nat):Nat:=if i+1 < v.length then v.getD (i+1) 0 else v.getD 0 0
theorem rows_uniq {os:List (List Nat)} (h:os.flatten.Nodup) {r r' i i':Nat} (hr:r < os.length) (hr':r' < os.length) (hi:i < (os.getD r []).length) (hi':i' < (os.getD r' []).length)
  (e:(os.getD r []).getD i 0=(os.getD r' []).getD i' 0):r=r'∧i=i':=by
 have g:∀ k,k < os.length→os.getD k []∈os:=fun k hk=>by rw [List.getD_eq_getElem?_getD,List.getElem?_eq_getElem hk];exact List.getElem_mem _
 have ge:∀ k (hk:k < os.length),os.getD k []=os[k]:=fun k hk=>by rw [List.getD_eq_getElem?_getD,List.getElem?_eq_getElem hk];rfl
 have gm:∀ (v:List Nat) k,k < v.length→v.getD k 0∈v:=fun v k hk=>by rw [List.getD_eq_getElem?_getD,List.getElem?_eq_getElem hk];exact List.getElem_mem _
 obtain ⟨h1,h2⟩:=List.pairwise_flatten.1 h
 rw [List.pairwise_iff_getElem] at h2
 have dis:∀ a b,a < b→(ha:a < os.length)→(hb:b < os.length)→∀ x,x∈os.getD a []→x∈os.getD b []→False:=fun a b hab ha hb x xa xb=>by
  have:=h2 a b ha hb hab
  rw [ge a ha] at xa
  rw [ge b hb] at xb
  exact this x xa x xb rfl
 have hrr:r=r':=by
  rcases Nat.lt_trichotomy r r' with c | c | c
  ·exact absurd (gm _ _ hi') fun q=>dis r r' c hr hr' _ (gm _ _ hi) (by rw [e];exact q)
  ·exact c
  ·exact absurd (gm _ _ hi) fun q=>dis r' r c hr' hr _ (gm _ _ hi') (by rw [← e];exact q)
 subst hrr
 refine ⟨rfl,?_⟩
 have hn:=h1 _ (g r hr)
 have gi:∀ (v:List Nat) k (hk:k < v.length),v.getD k 0=v[k]:=fun v k hk=>by rw [List.getD_eq_getElem?_getD,List.getElem?_eq_getElem hk];rfl
 rw [gi _ _ hi,gi _ _ hi'] at e
 exact (List.getElem_inj hn).1 e
open Classical in
noncomputable def zR (os:List (List Nat)) (d:Nat):Nat :=
 if h:∃ r i,r < os.length∧i < (os.getD r []).length∧(os.getD r []).getD i 0=d then nxR (os.getD h.choose []) h.choose_spec.choose else d
theorem zR_at {os:List (List Nat)} (h:os.flatten.Nodup) {r i:Nat} (hr:r < os.length) (hi:i < (os.getD r []).length):zR os ((os.getD r []).getD i 0)=nxR (os.getD r []) i:=by
 have hx:∃ r' i',r' < os.length∧i' < (os.getD r' []).length∧(os.getD r' []).getD i' 0=(os.getD r []).getD i 0:=⟨r,i,hr,hi,rfl⟩
 unfold zR
 rw [dif_pos hx]
 obtain ⟨q1,q2,q3⟩:=hx.choose_spec.choose_spec
 obtain ⟨e1,e2⟩:=rows_uniq h q1 hr q2 hi q3
 rw [e2,e1]
noncomputable def zL (os:List (List Nat)) (n:Nat):List Nat:=(List.range n).map (zR os)
theorem zL_len (os:List (List Nat)) (n:Nat):(zL os n).length=n:=by simp [zL]
theorem zL_get (os:List (List Nat)) {n i:Nat} (hi:i < n):(zL os n).getD i 0=zR os i:=by
 unfold zL
 rw [List.getD_eq_getElem?_getD,List.getElem?_map,List.getElem?_range hi];rfl
theorem mem_rows {os:List (List Nat)} {x:Nat} (h:x∈os.flatten):∃ r i,r < os.length∧i < (os.getD r []).length∧(os.getD r []).getD i 0=x:=by
 obtain ⟨v,hv,hx⟩:=List.mem_flatten.1 h
 obtain ⟨r,hr,e⟩:=List.getElem_of_mem hv
 obtain ⟨i,hi,e2⟩:=List.getElem_of_mem hx
 have ge:os.getD r []=v:=by rw [List.getD_eq_getElem?_getD,List.getElem?_eq_getElem hr,← e];rfl
 refine ⟨r,i,hr,by rw [ge];exact hi,?_⟩
 rw [ge,List.getD_eq_getElem?_getD,List.getElem?_eq_getElem hi,← e2];rfl
theorem rows_mem {os:List (List Nat)} {r i:Nat} (hr:r < os.length) (hi:i < (os.getD r []).length):(os.getD r []).getD i 0∈os.flatten:=by
 refine List.mem_flatten.2 ⟨os.getD r [],?_,?_⟩
 ·rw [List.getD_eq_getElem?_getD,List.getElem?_eq_getElem hr];exact List.getElem_mem _
 ·rw [List.getD_eq_getElem?_getD (l:=os.getD r []),List.getElem?_eq_getElem hi];exact List.getElem_mem _
theorem zL_inv {os:List (List Nat)} {n:Nat} (h:os.flatten.Nodup) (hm:∀ x,x∈os.flatten↔x < n):∃ b,Inv (zL os n) b:=by
 have lp:∀ r i,r < os.length→i < (os.getD r []).length→∃ j,j < (os.getD r []).length∧nxR (os.getD r []) i=(os.getD r []).getD j 0∧(j=i+1∨j=0∧i+1=(os.getD r []).length):=fun r i hr hi=>by
  unfold nxR
  by_cases c:i+1 < (os.getD r []).length
  ·rw [if_pos c];exact ⟨_,c,rfl,.inl rfl⟩
  ·rw [if_neg c];exact ⟨0,by omega,rfl,.inr ⟨rfl,by omega⟩⟩
 apply pf_inv
 rw [zL_len]
 have at_:∀ x,x < n→∃ r j,r < os.length∧j < (os.getD r []).length∧sgL (zL os n) x=(os.getD r []).getD j 0∧∃ i,i < (os.getD r []).length∧(os.getD r []).getD i 0=x∧(j=i+1∨j=0∧i+1=(os.getD r []).length):=fun x hx=>by
  obtain ⟨r,i,hr,hi,e⟩:=mem_rows ((hm x).2 hx)
  obtain ⟨j,hj,ej,hji⟩:=lp r i hr hi
  refine ⟨r,j,hr,hj,?_,i,hi,e,hji⟩
  show (zL os n).getD x 0=_
  rw [zL_get os hx,← e,zR_at h hr hi,ej]
 refine ⟨fun x hx=>?_,fun x y hx hy e=>?_⟩
 ·obtain ⟨r,j,hr,hj,e,_⟩:=at_ x hx
  rw [e];exact (hm _).1 (rows_mem hr hj)
 ·obtain ⟨r,j,hr,hj,e1,i,hi,ei,hji⟩:=at_ x hx
  obtain ⟨r',j',hr',hj',e2,i',hi',ei',hji'⟩:=at_ y hy
  rw [e1,e2] at e
  obtain ⟨q1,q2⟩:=rows_uniq h hr hr' hj hj' e
  subst q1
  have:i=i':=by omega
  subst this
  rw [← ei,← ei']
theorem flat_set (os:List (List Nat)):∀ (v x:Nat),v < os.length→(os.set v (os.getD v []++[x])).flatten.Perm (os.flatten++[x]):=by
 induction os with
 | nil=>intro v x h;simp at h
 | cons o os ih =>
   intro v x h
   cases v with
   | zero =>
     simp only [List.set_cons_zero,List.flatten_cons,List.getD_cons_zero,List.append_assoc]
     exact List.Perm.append_left o List.perm_append_comm
   | succ v =>
     simp only [List.set_cons_succ,List.flatten_cons,List.getD_cons_succ,List.append_assoc]
     exact List.Perm.append_left o (ih v x (by simpa using h))
theorem flat_snoc (os:List (List Nat)):(os++[[]]).flatten=os.flatten:=by simp
end Go.Proofs.YtijbdnhlpbcabaaGreatDoor
