/- The canonical map of a map of one part: mathematics. -/
import Derived.Test.YtijbdnhlpbcabaaGreatDoorZg21
import Derived.Test.YtijbdnhlpbcabaaGreatDoorZg18
import Derived.Test.YtijbdnhlpbcabaaGreatDoorZg15
import Derived.Test.YtijbdnhlpbcabaaGreatDoorZg17
import Derived.Test.YtijbdnhlpbcabaaGreatDoorZg6
import Derived.Test.YtijbdnhlpbcabaaGreatDoorZg5
import Derived.Test.YtijbdnhlpbcabaaGreatDoorZg12
import Derived.Deep.RegionWith
import Derived.Test.YtijbdnhlpbcabaaGreatDoorZg8
import Derived.Test.YtijbdnhlpbcabaaGreatDoorZg9
import Derived.Test.YtijbdnhlpbcabaaGreatDoorRows
import Derived.MakeChecks
import Derived.Lib.LaidTab
import Derived.Lib.LaidU8
open Go.RowKit
set_option linter.unusedVariables false
set_option linter.unusedSimpArgs false
namespace Go.Proofs.YtijbdnhlpbcabaaGreatDoor
set_option maxRecDepth 20000
section
variable {l b:List Nat}
theorem one_nm (hl:Inv l b):∀ x y,x < l.length→y < l.length→(nameOf l x=nameOf l y↔Orb (sgL l) x y):=fun x y hx hy=>name_iff hl hx hy
end
end Go.Proofs.YtijbdnhlpbcabaaGreatDoor
namespace Go.Proofs.YtijbdnhlpbcabaaGreatDoor
set_option maxRecDepth 20000
section
variable {l b:List Nat}
end
end Go.Proofs.YtijbdnhlpbcabaaGreatDoor
namespace Go.Proofs.YtijbdnhlpbcabaaGreatDoor
set_option maxRecDepth 20000
structure Wrd (ks:List Nat) (tw f:Nat→Nat) (l:List Nat):Prop where
 P:Prg ks tw
 x0:NX ks tw 0
 x1:NX ks tw 1
 n0:0 < ks.length
 lt:∀ i,i < ks.length→f i < l.length
 inj:∀ i j,i < ks.length→j < ks.length→f i=f j→i=j
 mt:∀ i,i < ks.length→Go.Proofs.YtijbdnhlpbcabaaGreatDoor.mt (f i)=f (tw i)
 sg:∀ i,i < ks.length→sgL l (f i)=f (nxS 0 ks tw i)
section
variable {ks:List Nat} {tw f:Nat→Nat} {l b:List Nat}
theorem Wrd.it (h:Wrd ks tw f l) {i:Nat} (hi:i < ks.length):∀ k,itf (nxS 0 ks tw) k i < ks.length∧itf (sgL l) k (f i)=f (itf (nxS 0 ks tw) k i)
 | 0=>⟨hi,rfl⟩
 | k+1=>by
   obtain ⟨h1,h2⟩:=h.it hi k
   exact ⟨nx_lt h.n0 _,by show sgL l _=f (nxS 0 ks tw _);rw [h2,h.sg _ h1]⟩
theorem Wrd.orb (h:Wrd ks tw f l) {i j:Nat} (hi:i < ks.length) (hj:j < ks.length):Orb (sgL l) (f i) (f j)↔ownP 0 ks tw i=ownP 0 ks tw j:=by
 rw [← own_orb h.P h.x0 h.n0 hi hj]
 constructor
 ·rintro ⟨k,e⟩
  obtain ⟨h1,h2⟩:=h.it hi k
  rw [h2] at e
  exact ⟨k,h.inj _ _ h1 hj e⟩
 ·rintro ⟨k,e⟩
  obtain ⟨h1,h2⟩:=h.it hi k
  exact ⟨k,by rw [h2,e]⟩
theorem kd2 (P:Prg ks tw) (i:Nat):ks.getD i 0 / 2=0∨ks.getD i 0 / 2=1:=by
 have:=P.kd.getD i;omega
end
end Go.Proofs.YtijbdnhlpbcabaaGreatDoor
namespace Go.Proofs.YtijbdnhlpbcabaaGreatDoor
set_option maxRecDepth 20000
def RightW (ks:List Nat) (tw:Nat→Nat):Prop:=∀ i,i < ks.length→ks.getD i 0=2→∀ o,ownP 0 ks tw (tw i)=some o→o < i
theorem half_mt {a b:Nat} (h:a / 2=b / 2):a=b∨a=mt b:=by
 unfold mt;split <;> omega
section
variable {ks:List Nat} {tw f:Nat→Nat} {l b:List Nat} {m V:Nat}
theorem k_ev (P:Prg ks tw) {j:Nat} (hj:j < ks.length):(ks.getD j 0=0↔ks.getD j 0 / 2=0∧j < tw j)∧(ks.getD j 0=1↔ks.getD j 0 / 2=0∧tw j < j)∧(ks.getD j 0=2↔ks.getD j 0 / 2=1∧j < tw j)∧(ks.getD j 0=3↔ks.getD j 0 / 2=1∧tw j < j):=by
 have a:=P.opn j hj
 have ne:=P.ne j hj
 have k2:=P.kd.getD j
 have:ks.getD j 0%2=0∨ks.getD j 0%2=1:=by omega
 rcases this with c | c
 ·have:=a.1 c
  refine ⟨⟨fun h=>?_,fun h=>?_⟩,⟨fun h=>?_,fun h=>?_⟩,⟨fun h=>?_,fun h=>?_⟩,⟨fun h=>?_,fun h=>?_⟩⟩ <;> omega
 ·have:¬ j < tw j:=fun h=>by have:=a.2 h;omega
  refine ⟨⟨fun h=>?_,fun h=>?_⟩,⟨fun h=>?_,fun h=>?_⟩,⟨fun h=>?_,fun h=>?_⟩,⟨fun h=>?_,fun h=>?_⟩⟩ <;> omega
theorem Wrd.met (h:Wrd ks tw f l) (hi:Inv l b) (he:l.length=2*m) (hV:∀ x,x < l.length→nameOf l x < V) :
  ∀ j,j≤ks.length→(∀ i,i < j→(wrun (sgL l) (nameOf l) m V (f 0) i).d=f i∧(wrun (sgL l) (nameOf l) m V (f 0) i).k (nameOf l)=ks.getD i 0) →
  ∀ i,i < ks.length→((wrun (sgL l) (nameOf l) m V (f 0) j).M.getD (nameOf l (f i)) false=true↔(ownP 0 ks tw i=none∨∃ o,ownP 0 ks tw i=some o∧o < j)):=by
 have hs:=sgL_pf hi
 have f0:=h.lt 0 h.n0
 intro j
 induction j with
 | zero =>
   intro _ _ i hi1
   show ((List.replicate V false).set (nameOf l (f 0)) true).getD (nameOf l (f i)) false=true↔_
   rw [getB_set _ _ _ _ (by rw [List.length_replicate];exact hV _ f0)]
   have o:=h.orb hi1 h.n0
   rw [← one_nm hi _ _ (h.lt i hi1) f0,ownP_zero] at o
   by_cases c:nameOf l (f i)=nameOf l (f 0)
   ·rw [if_pos c];exact ⟨fun _=>.inl (o.1 c),fun _=>rfl⟩
   ·rw [if_neg c]
    constructor
    ·intro q
     rw [List.getD_eq_getElem?_getD,List.getElem?_replicate] at q
     split at q <;> simp at q
    ·rintro (q | ⟨o',_,q⟩)
     ·exact absurd (o.2 q) c
     ·omega
 | succ j ih =>
   intro hj hw i hi1
   have hj':j < ks.length:=by omega
   have IH:=ih (by omega) (fun i hi=>hw i (by omega)) i hi1
   obtain ⟨e1,e2⟩:=hw j (by omega)
   have W:=wok hs he (one_nm hi) hV f0 j
   show (wM1 (nameOf l) (wrun (sgL l) (nameOf l) m V (f 0) j).M (wrun (sgL l) (nameOf l) m V (f 0) j).d ((wrun (sgL l) (nameOf l) m V (f 0) j).k (nameOf l))).getD (nameOf l (f i)) false=true↔_
   rw [e1,e2]
   unfold wM1
   obtain ⟨K0,_⟩:=k_ev h.P hj'
   by_cases c:ks.getD j 0=0
   ·rw [if_pos c,h.mt j hj']
    obtain ⟨s0,oj⟩:=K0.1 c
    have ht:=h.P.lt j hj'
    have oc:=ownP_close h.P h.x0 ht (by rw [h.P.sort j hj'];exact s0) (by rw [h.P.tt j hj'];exact oj)
    rw [h.P.tt j hj'] at oc
    rw [getB_set _ _ _ _ (by rw [W.ml];exact hV _ (h.lt _ ht))]
    have o:=h.orb hi1 ht
    rw [← one_nm hi _ _ (h.lt i hi1) (h.lt _ ht),oc] at o
    by_cases d:nameOf l (f i)=nameOf l (f (tw j))
    ·rw [if_pos d]
     exact ⟨fun _=>.inr ⟨j,o.1 d,by omega⟩,fun _=>rfl⟩
    ·rw [if_neg d,IH]
     constructor
     ·rintro (q | ⟨o',q,q2⟩)
      ·exact .inl q
      ·exact .inr ⟨o',q,by omega⟩
     ·rintro (q | ⟨o',q,q2⟩)
      ·exact .inl q
      ·refine .inr ⟨o',q,?_⟩
       have:o'≠j:=fun e=>d (o.2 (by rw [← e];exact q))
       omega
   ·rw [if_neg c,IH]
    constructor
    ·rintro (q | ⟨o',q,q2⟩)
     ·exact .inl q
     ·exact .inr ⟨o',q,by omega⟩
    ·rintro (q | ⟨o',q,q2⟩)
     ·exact .inl q
     ·refine .inr ⟨o',q,?_⟩
      have hm:=ownP_mem q
      have:o'≠j:=fun e=>c (K0.2 ⟨by rw [← e];exact hm.2.1,by rw [← e];exact hm.2.2.1⟩)
      omega
theorem Wrd.isR (h:Wrd ks tw f l) (hi:Inv l b) (he:l.length=2*m) (hV:∀ x,x < l.length→nameOf l x < V)
  (hw:∀ i,i < ks.length→(wrun (sgL l) (nameOf l) m V (f 0) i).d=f i∧(wrun (sgL l) (nameOf l) m V (f 0) i).k (nameOf l)=ks.getD i 0):RightW ks tw:=by
 intro i hi1 h2 o ho
 obtain ⟨e1,e2⟩:=hw i hi1
 have M:=h.met hi he hV i (by omega) (fun j hj=>hw j (by omega)) (tw i) (h.P.lt i hi1)
 rcases WS.kinds (nm:=nameOf l) (wrun (sgL l) (nameOf l) m V (f 0) i) with ⟨k,_⟩ | ⟨k,_⟩ | ⟨k,_,_,q⟩ | ⟨k,_⟩
 ·omega
 ·omega
 ·rw [e1,h.mt i hi1] at q
  rcases M.1 q with c | ⟨o',c,d⟩
  ·rw [ho] at c;cases c
  ·rw [ho] at c;cases c;exact d
 ·omega
theorem Wrd.walk (h:Wrd ks tw f l) (hi:Inv l b) (he:l.length=2*m) (hV:∀ x,x < l.length→nameOf l x < V) (hR:RightW ks tw) :
  ∀ j,j≤ks.length→(∀ i,i < j→(wrun (sgL l) (nameOf l) m V (f 0) i).d=f i∧(wrun (sgL l) (nameOf l) m V (f 0) i).k (nameOf l)=ks.getD i 0) ∧
   (wrun (sgL l) (nameOf l) m V (f 0) j).d=f (j%ks.length) ∧
   ∀ i,i < ks.length→(wrun (sgL l) (nameOf l) m V (f 0) j).K.getD (f i / 2) 0=if i < j∨tw i < j then ((2*(ks.getD i 0 / 2):Nat):Int) else -1:=by
 have hs:=sgL_pf hi
 have f0:=h.lt 0 h.n0
 intro j
 induction j with
 | zero =>
   intro _
   refine ⟨fun i hi=>by omega,by rw [Nat.zero_mod];rfl,fun i hi1=>?_⟩
   show (List.replicate m (-1:Int)).getD (f i / 2) 0=_
   have:=h.lt i hi1
   rw [if_neg (by omega),List.getD_eq_getElem?_getD,List.getElem?_replicate,if_pos (by omega)];rfl
 | succ j ih =>
   intro hj
   have hj':j < ks.length:=by omega
   obtain ⟨h1,h2,h3⟩:=ih (by omega)
   rw [Nat.mod_eq_of_lt hj'] at h2
   have ht:=h.P.lt j hj'
   have M:=h.met hi he hV j (by omega) h1 (tw j) ht
   have W:=wok hs he (one_nm hi) hV f0 j
   have K:=k_ev h.P hj'
   have hkk:=h3 j hj'
   have ne:=h.P.ne j hj'
   have kd:=kd2 h.P j
   have hk:(wrun (sgL l) (nameOf l) m V (f 0) j).k (nameOf l)=ks.getD j 0:=by
    show wKd _ _ _ _=_
    rw [h2]
    unfold wKd
    rw [h.mt j hj']
    by_cases c:tw j < j
    ·rw [if_pos (.inr c)] at hkk
     rcases kd with d | d
     ·rw [d] at hkk
      rw [if_pos (by rw [hkk];rfl)];exact (K.2.1.2 ⟨d,c⟩).symm
     ·rw [d] at hkk
      rw [if_neg (by rw [hkk];decide),if_pos (by rw [hkk];rfl)];exact (K.2.2.2.2 ⟨d,c⟩).symm
    ·rw [if_neg (by omega)] at hkk
     rw [if_neg (by rw [hkk];decide),if_neg (by rw [hkk];decide)]
     rcases kd with d | d
     ·have oc:=ownP_close h.P h.x0 ht (by rw [h.P.sort j hj'];exact d) (by rw [h.P.tt j hj'];omega)
      rw [h.P.tt j hj'] at oc
      rw [if_neg (fun q=>by
       rcases M.1 q with e | ⟨o,e,e2⟩
       ·rw [oc] at e;cases e
       ·rw [oc] at e;have:=Option.some.inj e;omega)]
      exact (K.1.2 ⟨d,by omega⟩).symm
     ·have k2:=K.2.2.1.2 ⟨d,by omega⟩
      have:(wrun (sgL l) (nameOf l) m V (f 0) j).M.getD (nameOf l (f (tw j))) false=true:=M.2 (by
       cases e:ownP 0 ks tw (tw j) with
       | none=>exact .inl rfl
       | some o=>exact .inr ⟨o,rfl,hR j hj' k2 o e⟩)
      rw [if_pos this];exact k2.symm
   refine ⟨fun i hi1=>?_,?_,fun i hi1=>?_⟩
   ·by_cases c:i=j
    ·subst c;exact ⟨h2,hk⟩
    ·exact h1 i (by omega)
   ·show wNx _ _ _=_
    unfold wNx
    rw [hk,h2]
    rcases kd with d | d
    ·rw [if_pos (by omega),h.mt j hj',h.sg _ ht]
     unfold nxS
     rw [if_pos (by rw [h.P.sort j hj'];exact d),h.P.tt j hj']
    ·rw [if_neg (by omega),h.sg _ hj']
     unfold nxS
     rw [if_neg (by omega)]
   ·show (wK1 _ _ _).getD _ _=_
    unfold wK1
    rw [hk,h2]
    have hti:=h.P.tt i hi1
    have eq:f i / 2=f j / 2→i=j∨i=tw j:=fun e=>by
     rcases half_mt e with q | q
     ·exact .inl (h.inj _ _ hi1 hj' q)
     ·rw [h.mt j hj'] at q;exact .inr (h.inj _ _ hi1 ht q)
    by_cases c:ks.getD j 0%2=0
    ·rw [if_pos c,getI_set _ _ _ _ (by rw [W.kl];have:=h.lt j hj';omega)]
     by_cases d:f i / 2=f j / 2
     ·rw [if_pos d]
      rcases eq d with e | e
      ·subst e;rw [if_pos (by omega)];congr 1;omega
      ·rw [e,h.P.tt j hj',if_pos (by omega),h.P.sort j hj'];congr 1;omega
     ·rw [if_neg d,h3 i hi1]
      have n1:i≠j:=fun e=>d (by rw [e])
      have n2:tw i≠j:=fun e=>d (by rw [← e,← h.mt i hi1,mt_half])
      by_cases q:i < j∨tw i < j
      ·rw [if_pos q,if_pos (by omega)]
      ·rw [if_neg q,if_neg (by omega)]
    ·rw [if_neg c,h3 i hi1]
     have cj:tw j < j:=by
      have:=(h.P.opn j hj').2
      omega
     by_cases q:i < j∨tw i < j
     ·rw [if_pos q,if_pos (by omega)]
     ·have n1:i≠j:=fun e=>q (.inr (by rw [e];exact cj))
      have n2:tw i≠j:=fun e=>q (.inl (by rw [← hti,e];exact cj))
      rw [if_neg q,if_neg (by omega)]
end
end Go.Proofs.YtijbdnhlpbcabaaGreatDoor
namespace Go.Proofs.YtijbdnhlpbcabaaGreatDoor
set_option maxRecDepth 20000
theorem add1_p (g:Nat) (l:List Nat) (A:Option Addr) (b:Nat) (w:World) (hv:VecAt w g (val l) l.length A) (hb:b < 2) (hn:l.length+65≤1000000) :
  Calls Tryz.prog 144 #[.pointer (some ⟨g,0,none⟩),.slice (some ⟨w.heap.size,0,none⟩) 1 1] (w.alloc (.cells #[.int .i64 (b:Int)] 3)) fun e w' =>
   e=.returned (.tuple #[])∧∃ A',VecAt w' g (val (l++[b])) (l++[b]).length A'∧Mod (foot g A) w w'∧(A'=A∨∃ b,A'=some ⟨b,0,none⟩∧w.heap.size≤b):=by
 have hvA:=VecB.below hv ((Below.refl w.heap.size w).alloc (Nat.le_refl _) (.cells #[.int .i64 (b:Int)] 3))
 have r5:=Rd.new w 3 #[.int .i64 (b:Int)] 1 (I64 [(b:Int)]) (by simp [I64]) (by simp)
 refine (add_p g l A (some ⟨w.heap.size,0,none⟩) 1 1 [(b:Int)] _ hvA (r5.up (by simp)) (fun i hi hf=>by
    obtain ⟨a,e,rfl⟩:=hi
    cases e
    exact absurd (VecB.foot_lt hv hf) (Nat.lt_irrefl _)) (by omega)).mono ?_
 rintro e w' ⟨rfl,A',h1,m,h2⟩
 have hb1:[(b:Int)].map bit1=[b]:=by
  have:=bit1_ofN (l:=[b]) (fun x hx=>by rw [List.mem_singleton.1 hx];exact hb)
  simpa [ofNB] using this
 rw [hb1] at h1
 refine ⟨rfl,A',h1,⟨m.os,m.tape,m.output,Nat.le_trans (by simp) m.size,fun k hk hn=>?_⟩,?_⟩
 ·exact (m.block k (by simp;omega) hn).trans (Below.heap_alloc _ _ _ hk)
 ·rcases h2 with rfl | ⟨b',rfl,hb'⟩
  ·exact .inl rfl
  ·exact .inr ⟨b',rfl,Nat.le_trans (by simp) hb'⟩
def VecS (w:World) (S:Nat→Prop) (g:Nat) (l:List Nat):Prop:=∃ A,VecAt w g (val l) l.length A∧∀ i,foot g A i→S i
theorem VecS.below {w w':World} {S:Nat→Prop} {g:Nat} {l:List Nat} (h:VecS w S g l) (m:Below w.heap.size w w'):VecS w' S g l:=by
 obtain ⟨A,hv,sf⟩:=h
 exact ⟨A,VecB.below hv m,sf⟩
theorem addS_p (g:Nat) (S:Nat→Prop) (l:List Nat) (b:Nat) (w:World) (hv:VecS w S g l) (hS:∀ i,w.heap.size≤i→S i) (hb:b < 2) (hn:l.length+65≤1000000) :
  Calls Tryz.prog 144 #[.pointer (some ⟨g,0,none⟩),.slice (some ⟨w.heap.size,0,none⟩) 1 1] (w.alloc (.cells #[.int .i64 (b:Int)] 3)) fun e w' =>
   e=.returned (.tuple #[])∧VecS w' S g (l++[b])∧Mod S w w':=by
 obtain ⟨A,h1,sf⟩:=hv
 refine (add1_p g l A b w h1 hb hn).mono ?_
 rintro e w' ⟨rfl,A',h2,m,ha⟩
 refine ⟨rfl,⟨A',h2,?_⟩,m.mono fun i _ hi=>sf i hi⟩
 rintro i (rfl | ⟨b',rfl,rfl⟩)
 ·exact sf _ (.inl rfl)
 ·rcases ha with e | ⟨b2,e,h⟩
  ·exact sf _ (.inr ⟨_,e.symm,rfl⟩)
  ·cases e;exact hS _ h
def vecL (Pr:Nat→Bool) (bt:Nat→Nat) (ks:List Nat):List Nat:=(ks.filter Pr).map bt
theorem vecL_snoc (Pr:Nat→Bool) (bt:Nat→Nat) (ks:List Nat) (k:Nat):vecL Pr bt (ks++[k])=if Pr k=true then vecL Pr bt ks++[bt k] else vecL Pr bt ks:=by
 unfold vecL
 rw [List.filter_append,List.map_append]
 by_cases h:Pr k=true <;> simp [h]
theorem vecL_len (Pr:Nat→Bool) (bt:Nat→Nat) (ks:List Nat):(vecL Pr bt ks).length≤ks.length:=by
 unfold vecL;rw [List.length_map];exact List.length_filter_le _ _
set_option maxHeartbeats 4000000 in
theorem vector_a (F G:Nat) (Pr:Nat→Bool) (bt:Nat→Nat) (B g:Nat) (ks:List Nat) (w:World) (h:WordAt w B g ks) (hn:ks.length≤300000) (hbt:∀ k,k < 4→bt k < 2)
  (hCF:∀ (args:Array Value) (w:World),Sem.run Tryz.prog (callFunc F args) w=.ok (.enter F args) w) (hCG:∀ (args:Array Value) (w:World),Sem.run Tryz.prog (callFunc G args) w=.ok (.enter G args) w)
  (hF:∀ (k:Nat),k < 4→∀ W,Below w.heap.size w W→Calls Tryz.prog F #[.int .i64 (k:Int)] W fun e w'=>e=.returned (.bool (Pr k))∧∃ jf,w'=W.drewN jf)
  (hG:∀ (k:Nat),k < 4→∀ W,Calls Tryz.prog G #[.int .i64 (k:Int)] W fun e w'=>e=.returned (.int .i64 ((bt k:Nat):Int))∧W=w') :
  Calls Tryz.prog 119 #[.pointer (some ⟨g,0,none⟩),.func (.func F) #[] #[],.func (.func G) #[] #[]] w fun e w'=>∃ gv A,e=.returned (.pointer (some ⟨gv,0,none⟩))∧VecAt w' gv (val (vecL Pr bt ks)) (vecL Pr bt ks).length A∧Below w.heap.size w w'∧w.heap.size≤gv:=by
 have HF:=Lib.hid hF
 have HG:=Lib.hid hG
 have HBT:=Lib.hid hbt
 have HW:=Lib.hid h
 have HK:Hid (∀ i,ks.getD i 0 < 4):=fun i=>Kds.getD h.1 i
 have BN:=Lib.hid bnew_p
 have LP:=Lib.hid (fun W (m:Below w.heap.size w W)=>mlen_p B g ks W (h.below m))
 have AP:=Lib.hid (fun i (hi:i < ks.length) W (m:Below w.heap.size w W)=>mat_p B g ks i W (h.below m) hi (by omega))
 clear h hF hG hbt
 go_enter Tryz.func119,Tryz.ntmps119
 go_wp2_with fail
 refine (BN.out _).mono ?_
 rintro e w1 ⟨rfl,hv,b1⟩
 have HV1:Hid (VecS w1 (fun i=>w.heap.size≤i) w.heap.size (vecL Pr bt (ks.take 0))):=⟨none,hv,fun i hi=>by
  rcases hi with rfl | ⟨b,h,_⟩
  ·show _≤_;omega
  ·cases h⟩
 have B1:=Lib.hid b1
 clear hv b1 BN
 go_wp2_with fail
 refine (LP.out _ B1.out).mono ?_
 rintro e w2 ⟨rfl,rfl⟩
 go_wp2_with fail
 go_loopw [13] (fun i wr=>∃ j:Nat,j≤ks.length∧i=.int .i64 (j:Int)∧Hid (VecS wr (fun i=>w.heap.size≤i) w.heap.size (vecL Pr bt (ks.take j)))∧Hid (Below w.heap.size w wr)) (fun i _=>ks.length - (intOf i).toNat)
 case atStart=>exact ⟨0,by omega,rfl,HV1,B1⟩
 case round =>
  clear HV1 B1
  obtain ⟨j,hj,rfl,HV,HB⟩:=hrel
  by_cases hlt:j < ks.length
  ·have AT:=Lib.hid (AP.out j hlt wr HB.out)
   have hk4:=HK.out j
   have NX:Hid (vecL Pr bt (ks.take (j+1))=if Pr (ks.getD j 0)=true then vecL Pr bt (ks.take j)++[bt (ks.getD j 0)] else vecL Pr bt (ks.take j)):=by
    show _=_;rw [take_snoc ks j hlt,vecL_snoc]
   have hll:(vecL Pr bt (ks.take j)).length≤300000:=by
    have:=vecL_len Pr bt (ks.take j);rw [List.length_take] at this;omega
   generalize ks.getD j 0=k at *
   go_wp2_with fail
   refine AT.out.mono ?_
   rintro e w3 ⟨rfl,jj,rfl⟩
   have HV3:=Lib.hid (HV.out.below (below_draws (Below.refl _ _) jj))
   have HB3:=Lib.hid (below_draws HB.out jj)
   generalize wr.drewN jj=w3 at *
   have CF:=Lib.hid (HF.out k hk4 w3 HB3.out)
   clear HV HB AT
   go_wp2_with fail
   refine CF.out.mono ?_
   rintro e w4 ⟨rfl,jf,rfl⟩
   replace HV3:=Lib.hid (HV3.out.below (below_draws (Below.refl _ _) jf))
   replace HB3:=Lib.hid (below_draws HB3.out jf)
   clear CF
   generalize w3.drewN jf=w3 at *
   by_cases hp:Pr k=true
   ·have CG:=Lib.hid (HG.out k hk4 w3)
    rw [if_pos hp] at NX
    have AD:=Lib.hid (addS_p w.heap.size (fun i=>w.heap.size≤i) (vecL Pr bt (ks.take j)) (bt k) w3 HV3.out (fun i hi=>Nat.le_trans HB3.out.size hi) (HBT.out k hk4) (by omega))
    rw [hp]
    generalize bt k=bb at *
    go_wp2_with fail
    refine CG.out.mono ?_
    rintro e w5 ⟨rfl,rfl⟩
    go_wp2_with fail
    refine AD.out.mono ?_
    rintro e w6 ⟨rfl,hv6,m6⟩
    have HV6:Hid (VecS w6 (fun i=>w.heap.size≤i) w.heap.size (vecL Pr bt (ks.take (j+1)))):=by rw [NX.out];exact hv6
    have HB6:Hid (Below w.heap.size w w6):=HB3.out.trans (m6.belowB HB3.out.size (fun i hi h=>by have:w.heap.size≤i:=h;omega))
    clear hv6 m6 AD HV3 HB3 CG NX
    go_wp2_with fail
    go_roundw
    case rel=>exact ⟨j+1,by omega,by go_num,HV6,HB6⟩
    case measure=>simp [intOf];omega
   ·rw [if_neg hp] at NX
    have hpf:Pr k=false:=by simpa using hp
    have HV6:Hid (VecS w3 (fun i=>w.heap.size≤i) w.heap.size (vecL Pr bt (ks.take (j+1)))):=by rw [NX.out];exact HV3.out
    rw [hpf]
    clear HV3 NX hp hpf
    go_wp2_with fail
    go_roundw
    case rel=>exact ⟨j+1,by omega,by go_num,HV6,HB3⟩
    case measure=>simp [intOf];omega
  ·obtain rfl:j=ks.length:=by omega
   rw [List.take_length] at HV
   obtain ⟨A,hv,_⟩:=HV.out
   have HVV:=Lib.hid hv
   clear hv HV
   go_wp2_with fail
   go_ret
   first | exact ⟨w.heap.size,A,rfl,HVV.out,HB.out,Nat.le_refl _⟩ | exact ⟨w.heap.size,rfl,⟨A,HVV.out⟩,HB.out,Nat.le_refl _⟩
set_option maxHeartbeats 4000000 in
theorem vector_b (F G bx:Nat) (Pr:Nat→Bool) (bt:Nat→Nat) (B g:Nat) (ks:List Nat) (w:World) (h:WordAt w B g ks) (hn:ks.length≤300000) (hbt:∀ k,k < 4→bt k < 2)
  (hCF:∀ (args:Array Value) (w:World),Sem.run Tryz.prog (callFunc F args) w=.ok (.enter F args) w) (hCG:∀ (args:Array Value) (w:World),Sem.run Tryz.prog (callFunc G args) w=.ok (.enter G args) w)
  (hF:∀ (k:Nat),k < 4→∀ W,Below w.heap.size w W→Calls Tryz.prog F #[.int .i64 (k:Int),.pointer (some ⟨bx,0,none⟩)] W fun e w'=>e=.returned (.bool (Pr k))∧∃ jf,w'=W.drewN jf)
  (hG:∀ (k:Nat),k < 4→∀ W,Calls Tryz.prog G #[.int .i64 (k:Int)] W fun e w'=>e=.returned (.int .i64 ((bt k:Nat):Int))∧W=w') :
  Calls Tryz.prog 119 #[.pointer (some ⟨g,0,none⟩),.func (.func F) #[] #[.pointer (some ⟨bx,0,none⟩)],.func (.func G) #[] #[]] w fun e w'=>∃ gv A,e=.returned (.pointer (some ⟨gv,0,none⟩))∧VecAt w' gv (val (vecL Pr bt ks)) (vecL Pr bt ks).length A∧Below w.heap.size w w'∧w.heap.size≤gv:=by
 have HF:=Lib.hid hF
 have HG:=Lib.hid hG
 have HBT:=Lib.hid hbt
 have HW:=Lib.hid h
 have HK:Hid (∀ i,ks.getD i 0 < 4):=fun i=>Kds.getD h.1 i
 have BN:=Lib.hid bnew_p
 have LP:=Lib.hid (fun W (m:Below w.heap.size w W)=>mlen_p B g ks W (h.below m))
 have AP:=Lib.hid (fun i (hi:i < ks.length) W (m:Below w.heap.size w W)=>mat_p B g ks i W (h.below m) hi (by omega))
 clear h hF hG hbt
 go_enter Tryz.func119,Tryz.ntmps119
 go_wp2_with fail
 refine (BN.out _).mono ?_
 rintro e w1 ⟨rfl,hv,b1⟩
 have HV1:Hid (VecS w1 (fun i=>w.heap.size≤i) w.heap.size (vecL Pr bt (ks.take 0))):=⟨none,hv,fun i hi=>by
  rcases hi with rfl | ⟨b,h,_⟩
  ·show _≤_;omega
  ·cases h⟩
 have B1:=Lib.hid b1
 clear hv b1 BN
 go_wp2_with fail
 refine (LP.out _ B1.out).mono ?_
 rintro e w2 ⟨rfl,rfl⟩
 go_wp2_with fail
 go_loopw [13] (fun i wr=>∃ j:Nat,j≤ks.length∧i=.int .i64 (j:Int)∧Hid (VecS wr (fun i=>w.heap.size≤i) w.heap.size (vecL Pr bt (ks.take j)))∧Hid (Below w.heap.size w wr)) (fun i _=>ks.length - (intOf i).toNat)
 case atStart=>exact ⟨0,by omega,rfl,HV1,B1⟩
 case round =>
  clear HV1 B1
  obtain ⟨j,hj,rfl,HV,HB⟩:=hrel
  by_cases hlt:j < ks.length
  ·have AT:=Lib.hid (AP.out j hlt wr HB.out)
   have hk4:=HK.out j
   have NX:Hid (vecL Pr bt (ks.take (j+1))=if Pr (ks.getD j 0)=true then vecL Pr bt (ks.take j)++[bt (ks.getD j 0)] else vecL Pr bt (ks.take j)):=by
    show _=_;rw [take_snoc ks j hlt,vecL_snoc]
   have hll:(vecL Pr bt (ks.take j)).length≤300000:=by
    have:=vecL_len Pr bt (ks.take j);rw [List.length_take] at this;omega
   generalize ks.getD j 0=k at *
   go_wp2_with fail
   refine AT.out.mono ?_
   rintro e w3 ⟨rfl,jj,rfl⟩
   have HV3:=Lib.hid (HV.out.below (below_draws (Below.refl _ _) jj))
   have HB3:=Lib.hid (below_draws HB.out jj)
   generalize wr.drewN jj=w3 at *
   have CF:=Lib.hid (HF.out k hk4 w3 HB3.out)
   clear HV HB AT
   go_wp2_with fail
   refine CF.out.mono ?_
   rintro e w4 ⟨rfl,jf,rfl⟩
   replace HV3:=Lib.hid (HV3.out.below (below_draws (Below.refl _ _) jf))
   replace HB3:=Lib.hid (below_draws HB3.out jf)
   clear CF
   generalize w3.drewN jf=w3 at *
   by_cases hp:Pr k=true
   ·have CG:=Lib.hid (HG.out k hk4 w3)
    rw [if_pos hp] at NX
    have AD:=Lib.hid (addS_p w.heap.size (fun i=>w.heap.size≤i) (vecL Pr bt (ks.take j)) (bt k) w3 HV3.out (fun i hi=>Nat.le_trans HB3.out.size hi) (HBT.out k hk4) (by omega))
    rw [hp]
    generalize bt k=bb at *
    go_wp2_with fail
    refine CG.out.mono ?_
    rintro e w5 ⟨rfl,rfl⟩
    go_wp2_with fail
    refine AD.out.mono ?_
    rintro e w6 ⟨rfl,hv6,m6⟩
    have HV6:Hid (VecS w6 (fun i=>w.heap.size≤i) w.heap.size (vecL Pr bt (ks.take (j+1)))):=by rw [NX.out];exact hv6
    have HB6:Hid (Below w.heap.size w w6):=HB3.out.trans (m6.belowB HB3.out.size (fun i hi h=>by have:w.heap.size≤i:=h;omega))
    clear hv6 m6 AD HV3 HB3 CG NX
    go_wp2_with fail
    go_roundw
    case rel=>exact ⟨j+1,by omega,by go_num,HV6,HB6⟩
    case measure=>simp [intOf];omega
   ·rw [if_neg hp] at NX
    have hpf:Pr k=false:=by simpa using hp
    have HV6:Hid (VecS w3 (fun i=>w.heap.size≤i) w.heap.size (vecL Pr bt (ks.take (j+1)))):=by rw [NX.out];exact HV3.out
    rw [hpf]
    clear HV3 NX hp hpf
    go_wp2_with fail
    go_roundw
    case rel=>exact ⟨j+1,by omega,by go_num,HV6,HB3⟩
    case measure=>simp [intOf];omega
  ·obtain rfl:j=ks.length:=by omega
   rw [List.take_length] at HV
   obtain ⟨A,hv,_⟩:=HV.out
   have HVV:=Lib.hid hv
   clear hv HV
   go_wp2_with fail
   go_ret
   first | exact ⟨w.heap.size,A,rfl,HVV.out,HB.out,Nat.le_refl _⟩ | exact ⟨w.heap.size,rfl,⟨A,HVV.out⟩,HB.out,Nat.le_refl _⟩
structure MTabs (w:World):Prop where
 tab:Tab w
 nul:Nul w
 lt:2 < w.heap.size
theorem mtabs_of {W : World} (h : laidMetH Tryz.prog [("math/bits.deBruijn64tab", Rows.laid_math_bits_deBruijn64tab), ("parquetry/paren.nothing", Rows.laid_parquetry_paren_nothing)] W) : MTabs W := by
 rw [MakeChecks.laidMetH_plain _ _ _ (by kernel_rfl)] at h
 have hN:Nul W:=by
  obtain ⟨g,t,cs,fuel,p,hg,ht,hvar,hd⟩:=Lib.laidMet.reads h (List.mem_cons_of_mem _ (List.mem_cons_self ..))
  have e:(Rows.laid_parquetry_paren_nothing:DataW Unit)=.agg (([0,2147483647]:List Int).map fun z=>.lit (.int .i32 z)):=by kernel_rfl
  rw [e] at hd
  obtain rfl : g = 1 := Option.some.inj (hg.symm.trans (show Tryz.prog.globalNamed "parquetry/paren.nothing" = some 1 by kernel_rfl))
  obtain rfl:t=227:=Option.some.inj (ht.symm.trans (show (Tryz.prog.globals[1]?).map (·.type)=some 227 by kernel_rfl))
  have hc:=Lib.ints_of_struct (k:=.i32) Tryz.underlying227 (fun i f hf=>by
   rcases i with _ | _ | i
   ·simp at hf;subst hf;exact ⟨Tryz.underlying21,rfl,by kernel_rfl⟩
   ·simp at hf;subst hf;exact ⟨Tryz.underlying21,rfl,by kernel_rfl⟩
   ·simp at hf) (by kernel_rfl) hd
  have h0 := World.var?_cell (show Tryz.prog.globalNamed "parquetry/paren.nothing" = some 1 by kernel_rfl) hvar 0
  have h1 := World.var?_cell (show Tryz.prog.globalNamed "parquetry/paren.nothing" = some 1 by kernel_rfl) hvar 1
  have hc':cs=#[.int .i32 0,.int .i32 2147483647]:=by
   apply Array.toList_inj.1
   rw [hc]
   rfl
  subst hc'
  exact ⟨h0,h1⟩
 have hT:Tab W:=by
  have e:(Rows.laid_math_bits_deBruijn64tab:DataW Unit)=Lib.tabData .u8 (Lib.deBruijn64tab.map fun (x:Nat)=>(x:Int)):=by kernel_rfl
  rw [e] at h
  have hT:=Lib.tabIs_of_head (g:=2) (by kernel_rfl) (by kernel_rfl) Tryz.underlying236 Tryz.underlying5 (by kernel_rfl) (by kernel_rfl) h
  refine ⟨fun j hj=>?_⟩
  have:=hT.cell (g:=2) (by kernel_rfl) j (by simpa using hj)
  rw [this]
  simp [List.getD_eq_getElem?_getD,hj]
 exact ⟨hT,hN,World.block_lt_of_cell? _ _ (hT.at_ 0 (by decide))⟩
end Go.Proofs.YtijbdnhlpbcabaaGreatDoor
