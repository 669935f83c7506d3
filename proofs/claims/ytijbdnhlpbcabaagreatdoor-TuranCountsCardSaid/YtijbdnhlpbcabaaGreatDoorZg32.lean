/- The parts of a map, side by side: memory and mathematics. -/
import Derived.Test.YtijbdnhlpbcabaaGreatDoorZg31
import Derived.Test.YtijbdnhlpbcabaaGreatDoorZEPartsW
import Derived.Test.YtijbdnhlpbcabaaGreatDoorZg23
import Derived.Deep.CutRange
import Derived.Test.YtijbdnhlpbcabaaGreatDoorZg2
import Derived.Deep.DeepCutAuto
import Derived.Deep.RegionHeld3
import Derived.Test.YtijbdnhlpbcabaaGreatDoorZg19
import Derived.Test.YtijbdnhlpbcabaaGreatDoorZg20
open Go.RowKit
set_option linter.unusedVariables false
set_option linter.unusedSimpArgs false
namespace Go.Proofs.YtijbdnhlpbcabaaGreatDoor
set_option maxRecDepth 100000
abbrev PEl:=Nat × Value × List Nat
abbrev pE0:PEl:=(0,Value.bool false,[])
def pcs:List PEl→List Value
 | []=>[]
 | p :: ps=>.int .i64 (p.1:Int) :: p.2.1 :: pcs ps
theorem pcs_app:∀ ps qs:List PEl,pcs (ps++qs)=pcs ps++pcs qs
 | [],qs=>rfl
 | p :: ps,qs=>by simp only [pcs,List.cons_append,pcs_app ps qs]
theorem pcs_get:∀ (ps:List PEl) (j:Nat),j < ps.length→(pcs ps)[j*2]?=some (.int .i64 ((ps.getD j pE0).1:Int))∧(pcs ps)[j*2+1]?=some (ps.getD j pE0).2.1
 | [],j,h=>absurd h (by simp)
 | p :: ps,0,h=>⟨rfl,rfl⟩
 | p :: ps,j+1,h=>by
   have:=pcs_get ps j (by simpa using h)
   rw [show (j+1)*2=j*2+1+1 by omega]
   simpa [pcs] using this
theorem pcs_set:∀ (ps:List PEl) (j:Nat) (v:Value) (D:List Nat),j < ps.length→(pcs ps).set (j*2+1) v=pcs (ps.set j ((ps.getD j pE0).1,v,D))
 | [],j,_,_,h=>absurd h (by simp)
 | p :: ps,0,v,D,h=>rfl
 | p :: ps,j+1,v,D,h=>by
   have:=pcs_set ps j v D (by simpa using h)
   rw [show (j+1)*2+1=j*2+1+1+1 by omega]
   simpa [pcs] using this
theorem pcs_take:∀ (ps:List PEl) (i:Nat),(pcs ps).take (2*i)=pcs (ps.take i)
 | [],i=>by simp [pcs]
 | p :: ps,0=>rfl
 | p :: ps,i+1=>by
   rw [show 2*(i+1)=2*i+1+1 by omega]
   simp only [pcs,List.take_succ_cons,pcs_take ps i]
theorem pcs_drop:∀ (ps:List PEl) (i:Nat),(pcs ps).drop (2*i)=pcs (ps.drop i)
 | [],i=>by simp [pcs]
 | p :: ps,0=>rfl
 | p :: ps,i+1=>by
   rw [show 2*(i+1)=2*i+1+1 by omega]
   simp only [pcs,List.drop_succ_cons,pcs_drop ps i]
theorem own_own_neP {w:World} {b b':Nat} {e e':TypeId} {s s' n n':Nat} {v v':Value} {xs xs':List Value} (h:w.ownsRow b e s v n xs) (h':w.ownsRow b' e' s' v' n' xs') (hne:e≠e') {q:Nat} (hq:v.ownBlock=some q) (hq':v'.ownBlock=some q):False:=by
 rcases h.2 with ⟨rfl,_⟩ | ⟨g,c,cur,rfl,_,hg,_⟩
 ·simp [Value.ownBlock] at hq
 ·rcases h'.2 with ⟨rfl,_⟩ | ⟨g',c',cur',rfl,_,hg',_⟩
  ·simp [Value.ownBlock] at hq'
  ·simp [Value.ownBlock] at hq hq'
   subst hq;subst hq'
   rw [hg] at hg'
   simp at hg'
   exact hne hg'.2
structure PRow (w:World) (base:Nat) (A:Option Addr) (c:Nat) (ps:List PEl):Prop where
 own:w.ownsRow base 177 2 (.slice A ps.length c) ps.length (pcs ps)
 inn:∀ j,j < ps.length→(∃ A' c',(ps.getD j pE0).2.1=.slice A' (ps.getD j pE0).2.2.length c')∧w.ownsRow base 3 1 (ps.getD j pE0).2.1 (ps.getD j pE0).2.2.length (I64 (ofN (ps.getD j pE0).2.2))
 dj:∀ i j,i < ps.length→j < ps.length→i≠j→∀ k,(ps.getD i pE0).2.1.ownBlock=some k→(ps.getD j pE0).2.1.ownBlock≠some k
section
variable {w w':World} {base c:Nat} {A:Option Addr} {ps:List PEl}
theorem PRow.below (h:PRow w base A c ps) (m:Below w.heap.size w w'):PRow w' base A c ps :=
 ⟨own_below h.own m,fun j hj=>⟨(h.inn j hj).1,own_below (h.inn j hj).2 m⟩,h.dj⟩
theorem PRow.one (h:PRow w base A c ps):∀ v∈pcs ps,v.oneCell'=true:=by
 have:∀ qs:List PEl,(∀ j,j < qs.length→∃ A' c',(qs.getD j pE0).2.1=.slice A' (qs.getD j pE0).2.2.length c')→∀ v∈pcs qs,v.oneCell'=true:=by
  intro qs
  induction qs with
  | nil=>intro _ v hv;simp [pcs] at hv
  | cons q qs ih =>
    intro hq v hv
    simp only [pcs,List.mem_cons] at hv
    rcases hv with rfl | rfl | hv
    ·rfl
    ·obtain ⟨A',c',e⟩:=hq 0 (by simp)
     have e':q.2.1=.slice A' q.2.2.length c':=e
     rw [e'];rfl
    ·exact ih (fun j hj=>by have:=hq (j+1) (by simpa using hj);simpa using this) v hv
 exact this ps fun j hj=>(h.inn j hj).1
theorem PRow.snoc (h:PRow w base A c ps) {d:Nat} {A':Option Addr} {c':Nat} {w1:World} (hb:Below w.heap.size w w1) (ho:w'.ownsRow base 177 2 (.slice A' (ps.length+1) c') (ps.length+1) (pcs ps++[.int .i64 (d:Int),.slice none 0 0])) (hg:w1.grownBy w' (Value.slice A ps.length c).ownBlock) :
  PRow w' base A' c' (ps++[(d,.slice none 0 0,[])]):=by
 have MG:=Mod.ofGrown hg
 have hl:(ps++[((d,.slice none 0 0,[]):PEl)]).length=ps.length+1:=by simp
 have gl:∀ j,j < ps.length→(ps++[((d,.slice none 0 0,[]):PEl)]).getD j pE0=ps.getD j pE0:=fun j hj=>by rw [List.getD_eq_getElem?_getD,List.getElem?_append_left hj,← List.getD_eq_getElem?_getD]
 have gr:(ps++[((d,.slice none 0 0,[]):PEl)]).getD ps.length pE0=(d,.slice none 0 0,[]):=by simp [List.getD_eq_getElem?_getD]
 refine ⟨by rw [hl,pcs_app];exact ho,fun j hj=>?_,fun i j hi hj hij k hk=>?_⟩
 ·rw [hl] at hj
  by_cases e:j < ps.length
  ·rw [gl j e]
   exact ⟨(h.inn j e).1,own_mod (own_below (h.inn j e).2 hb) MG fun k hk q=>own_own_neP (own_below (h.inn j e).2 hb) (own_below h.own hb) (by decide) hk q.symm⟩
  ·obtain rfl:j=ps.length:=by omega
   rw [gr]
   exact ⟨⟨none,0,rfl⟩,World.ownsRow_nil _ _ _ _⟩
 ·rw [hl] at hi hj
  by_cases e1:i < ps.length
  ·rw [gl i e1] at hk
   by_cases e2:j < ps.length
   ·rw [gl j e2];exact h.dj i j e1 e2 hij k hk
   ·obtain rfl:j=ps.length:=by omega
    rw [gr];simp [Value.ownBlock]
  ·obtain rfl:i=ps.length:=by omega
   rw [gr] at hk
   simp [Value.ownBlock] at hk
theorem PRow.grow {g:Nat} (h:PRow w base (some ⟨g,0,none⟩) c ps) (hbase:base≤w.heap.size) {j d:Nat} (hj:j < ps.length) (hn:(ps.getD j pE0).2.2.length≤1000000) :
  ∃ A1 cj A2 c2 w2,(ps.getD j pE0).2.1=.slice A1 (ps.getD j pE0).2.2.length cj∧(Builtin.append_ #[25,25] 25 #[.slice A1 (ps.getD j pE0).2.2.length cj,.slice (some ⟨w.heap.size,0,none⟩) 1 1]).run Tryz.prog (w.alloc (.cells #[.int .i64 (d:Int)] 3))=.ok (.slice A2 ((ps.getD j pE0).2.2.length+1) c2) w2 ∧
   w2.cell? ⟨g,j*2+1,none⟩=some (.slice A1 (ps.getD j pE0).2.2.length cj)∧w2.frozen? ⟨g,j*2+1,none⟩=false ∧
   PRow (w2.setCell ⟨g,j*2+1,none⟩ (.slice A2 ((ps.getD j pE0).2.2.length+1) c2)) base (some ⟨g,0,none⟩) c (ps.set j ((ps.getD j pE0).1,.slice A2 ((ps.getD j pE0).2.2.length+1) c2,(ps.getD j pE0).2.2++[d])) ∧
   Below base w (w2.setCell ⟨g,j*2+1,none⟩ (.slice A2 ((ps.getD j pE0).2.2.length+1) c2))∧Mod (fun q=>q=g∨some q=(ps.getD j pE0).2.1.ownBlock) w (w2.setCell ⟨g,j*2+1,none⟩ (.slice A2 ((ps.getD j pE0).2.2.length+1) c2)) ∧
   (∀ q,(Value.slice A2 ((ps.getD j pE0).2.2.length+1) c2).ownBlock=some q→(ps.getD j pE0).2.1.ownBlock=some q∨w.heap.size≤q):=by
 obtain ⟨i0,hi0,hz0,hz1,hz2⟩:=info_parts info_int
 obtain ⟨⟨A1,cj,e1⟩,oj⟩:=h.inn j hj
 have hal:Below w.heap.size w (w.alloc (.cells #[.int .i64 (d:Int)] 3)):=(Below.refl _ _).alloc (Nat.le_refl _) _
 have h1:=h.below hal
 have oj1:=own_below oj hal
 rw [e1] at oj1
 have rd:=Rd.new w 3 #[.int .i64 (d:Int)] 1 [.int .i64 (d:Int)] rfl rfl
 obtain ⟨v',w2,hrun,hnew,hgr,hob⟩:=run_append_rd (P:=Tryz.prog) (w.alloc (.cells #[.int .i64 (d:Int)] 3)) base 25 25 3 i0 (.int .i64 0) 8 Tryz.underlying25 hi0 hz0 hz1 hz2 rfl _ _ _ oj1 (w.heap.size+1) (some ⟨w.heap.size,0,none⟩) 1 1 _ rd (by simp [Value.oneCell']) (by simp only [maxLen];omega) (by omega) (by simp;omega)
 obtain ⟨A2,c2,rfl,_,_⟩:=own_form hnew
 have MG:=Mod.ofGrown hgr
 have ow1:=h1.own
 have ow2:=own_mod ow1 MG fun k hk q=>own_own_neP oj1 ow1 (by decide) q.symm hk
 have hgw:=(own_block h.own)
 have hcell:=ow2.cellAt (j*2+1) (by omega)
 rw [(pcs_get ps j hj).2,e1] at hcell
 have hfz:=ow2.frozenAt (j*2+1)
 have MX:Mod (fun k=>k=g) w2 (w2.setCell ⟨g,j*2+1,none⟩ (.slice A2 ((ps.getD j pE0).2.2.length+1) c2)):=Mod.setCell (p:=⟨g,j*2+1,none⟩) (Mod.refl (fun k=>k=g) w2) (fun _=>rfl) _
 have new:∀ k,(Value.slice A2 ((ps.getD j pE0).2.2.length+1) c2).ownBlock=some k→(ps.getD j pE0).2.1.ownBlock=some k∨w.heap.size≤k:=fun k hk=>by
  rcases hob with q | q
  ·exact .inl (by rw [e1,← q];exact hk)
  ·rw [hk] at q
   have:=Option.some.inj q
   exact .inr (by simp at this;omega)
 have gs:∀ i,(ps.set j ((ps.getD j pE0).1,.slice A2 ((ps.getD j pE0).2.2.length+1) c2,(ps.getD j pE0).2.2++[d])).getD i pE0=if i=j then ((ps.getD j pE0).1,.slice A2 ((ps.getD j pE0).2.2.length+1) c2,(ps.getD j pE0).2.2++[d]) else ps.getD i pE0:=fun i=>getD_setR _ _ _ _ _ hj
 have ilt:∀ i,i < ps.length→∀ k,(ps.getD i pE0).2.1.ownBlock=some k→k < w.heap.size:=fun i hi k hk=>((h.inn i hi).2.lt k hk).2
 refine ⟨A1,cj,A2,c2,w2,e1,hrun,hcell,hfz,⟨?_,fun i hi=>?_,fun i k hi hk hik q hq=>?_⟩,?_⟩
 ·rw [List.length_set]
  have:=(ow2.stored (j*2+1) (.slice A2 ((ps.getD j pE0).2.2.length+1) c2)).1
  rw [pcs_set ps j _ ((ps.getD j pE0).2.2++[d]) hj] at this
  exact this
 ·rw [List.length_set] at hi
  rw [gs]
  by_cases e:i=j
  ·rw [if_pos e]
   refine ⟨⟨A2,c2,by simp⟩,?_⟩
   have hl:((ps.getD j pE0).2.2++[d]).length=(ps.getD j pE0).2.2.length+1:=by simp
   show World.ownsRow _ _ _ _ _ _ _
   rw [hl,ofN_snocR]
   exact own_mod hnew MX fun k hk q=>own_own_neP hnew ow2 (by decide) hk (by rw [q];simp [Value.ownBlock])
  ·rw [if_neg e]
   have oi:=(h1.inn i hi).2
   have oi2:=own_mod oi MG fun k hk q=>h.dj i j hi hj e k hk (by rw [e1];exact q.symm)
   exact ⟨(h.inn i hi).1,own_mod oi2 MX fun k hk q=>own_own_neP oi2 ow2 (by decide) hk (by rw [q];simp [Value.ownBlock])⟩
 ·rw [List.length_set] at hi hk
  rw [gs] at hq ⊢
  by_cases e1':i=j
  ·rw [if_pos e1'] at hq
   rw [if_neg (fun c=>hik (e1'.trans c.symm))]
   rcases new q hq with n1 | n1
   ·exact h.dj j k hj hk (fun c=>hik (e1'.trans c)) q n1
   ·intro c;have:=ilt k hk q c;omega
  ·rw [if_neg e1'] at hq
   by_cases e2':k=j
   ·rw [if_pos e2']
    intro c
    rcases new q c with n1 | n1
    ·exact h.dj i j hi hj e1' q hq n1
    ·have:=ilt i hi q hq;omega
   ·rw [if_neg e2'];exact h.dj i k hi hk hik q hq
 ·refine ⟨?_,Mod.setCell (p:=⟨g,j*2+1,none⟩) ((Mod.none_ hal (fun q=>q=g∨some q=(ps.getD j pE0).2.1.ownBlock)).trans MG fun q _ hq=>.inr (by rw [e1];exact hq)) (fun _=>.inl rfl) _,new⟩
  have b1:Below base w (w.alloc (.cells #[.int .i64 (d:Int)] 3)):=(Below.refl _ _).alloc hbase _
  exact (b1.trans (Below.appended oj1 hgr (by simp;omega))).setCell (p:=⟨g,j*2+1,none⟩) hgw.1 _
end
end Go.Proofs.YtijbdnhlpbcabaaGreatDoor
namespace Go.Proofs.YtijbdnhlpbcabaaGreatDoor
set_option maxRecDepth 100000
open Classical in
noncomputable def LL (l:List Nat) (k:Nat):List Nat:=(List.range k).filter fun d=>decide (Least (part l) d)
open Classical in
noncomputable def DJ (l:List Nat) (j k:Nat):List Nat:=(List.range k).filter fun d=>decide (pq l d=j)
theorem LL_next (l:List Nat) (k:Nat):(Least (part l) k→LL l (k+1)=LL l k++[k])∧(¬ Least (part l) k→LL l (k+1)=LL l k):=by
 unfold LL
 rw [List.range_succ,List.filter_append]
 exact ⟨fun h=>by simp [h],fun h=>by simp [h]⟩
theorem DJ_next (l:List Nat) (j k:Nat):(pq l k=j→DJ l j (k+1)=DJ l j k++[k])∧(pq l k≠j→DJ l j (k+1)=DJ l j k):=by
 unfold DJ
 rw [List.range_succ,List.filter_append]
 exact ⟨fun h=>by simp [h],fun h=>by simp [h]⟩
theorem LL_len (l:List Nat):∀ k,(LL l k).length=pn (part l) k
 | 0=>by simp [LL,pn,cls]
 | k+1=>by
   have ih:=LL_len l k
   by_cases c:Least (part l) k
   ·rw [(LL_next l k).1 c,(pn_next (part l) k).1 c,List.length_append,ih];rfl
   ·rw [(LL_next l k).2 c,(pn_next (part l) k).2 c,ih]
theorem LL_get (l:List Nat):∀ k j,j < (LL l k).length→(LL l k).getD j 0 < k∧Least (part l) ((LL l k).getD j 0)∧pn (part l) ((LL l k).getD j 0)=j
 | 0,j,h=>by simp [LL] at h
 | k+1,j,h=>by
   by_cases c:Least (part l) k
   ·rw [(LL_next l k).1 c] at h ⊢
    rw [getD_snocC]
    rw [List.length_append] at h
    have e1:[k].length=1:=rfl
    by_cases e:j=(LL l k).length
    ·rw [if_pos e]
     exact ⟨by omega,c,by rw [e,LL_len]⟩
    ·rw [if_neg e]
     have:=LL_get l k j (by omega)
     exact ⟨by omega,this.2⟩
   ·rw [(LL_next l k).2 c] at h ⊢
    have:=LL_get l k j h
    exact ⟨by omega,this.2⟩
open Classical in
theorem LL_starts {l b:List Nat} (hi:Inv l b) (he:l.length%2=0) {r:Nat} (hr:r < l.length) {m:Nat} (hm:m=rep (part l) r):∀ k,k≤l.length →
  (k≤m→((List.range k).filter fun d=>decide (Least (part l) d∧¬ part l r d))=LL l k)∧(m < k→∃ T,LL l k=LL l m++m :: T∧((List.range k).filter fun d=>decide (Least (part l) d∧¬ part l r d))=LL l m++T):=by
 have eq:=part_eqv hi he
 have rp:=rep_is eq hr
 rw [← hm] at rp
 have hmr:part l r m:=eq.symm m r (by omega) hr rp.2.1
 have key:∀ x,x < l.length→Least (part l) x→part l r x→x=m:=fun x hx h1 h2=>by
  rw [hm];exact (rep_of eq hx hr (eq.symm r x hr hx h2) h1).symm
 intro k
 induction k with
 | zero=>exact fun _=>⟨fun _=>by simp [LL],fun h=>by omega⟩
 | succ k ih =>
   intro hk
   obtain ⟨i1,i2⟩:=ih (by omega)
   rw [List.range_succ,List.filter_append]
   constructor
   ·intro hkm
    rw [i1 (by omega)]
    by_cases c:Least (part l) k
    ·rw [(LL_next l k).1 c]
     have:¬ part l r k:=fun q=>by have:=key k (by omega) c q;omega
     simp [c,this]
    ·rw [(LL_next l k).2 c];simp [c]
   ·intro hmk
    by_cases e:k=m
    ·subst e
     refine ⟨[],by rw [(LL_next l k).1 rp.2.2],?_⟩
     rw [i1 (Nat.le_refl _)]
     simp [hmr]
    ·obtain ⟨T,h1,h2⟩:=i2 (by omega)
     by_cases c:Least (part l) k
     ·have:¬ part l r k:=fun q=>e (key k (by omega) c q)
      refine ⟨T++[k],by rw [(LL_next l k).1 c,h1];simp,?_⟩
      rw [h2];simp [c,this]
     ·refine ⟨T,by rw [(LL_next l k).2 c,h1],?_⟩
      rw [h2];simp [c]
structure PK (l:List Nat) (k:Nat) (ps:List PEl):Prop where
 fst:ps.map (fun p=>p.1)=LL l k
 dar:∀ j,j < ps.length→(ps.getD j pE0).2.2=DJ l j k
section
variable {l b:List Nat} {k:Nat} {ps:List PEl}
theorem PK.len (h:PK l k ps):ps.length=pn (part l) k:=by rw [← LL_len,← h.fst,List.length_map]
theorem PK.is_ (hi:Inv l b) (he:l.length%2=0) (h:PK l k ps) (hk:k < l.length):(Least (part l) k→pq l k=ps.length)∧(¬ Least (part l) k→pq l k < ps.length):=by
 have eq:=part_eqv hi he
 refine ⟨fun c=>?_,fun c=>?_⟩
 ·rw [h.len];exact prt_least eq hk c
 ·rw [h.len]
  have r:=rep_is eq hk
  have:rep (part l) k≠k:=fun q=>c ((rep_least eq hk).2 q)
  exact prt_lt eq hk (by omega)
theorem PK.new (hi:Inv l b) (he:l.length%2=0) (h:PK l k ps) (hk:k < l.length) (c:Least (part l) k):∀ j,j < (ps++[((k,.slice none 0 0,[]):PEl)]).length→((ps++[((k,.slice none 0 0,[]):PEl)]).getD j pE0).2.2=DJ l j k:=by
 intro j hj
 rw [List.length_append] at hj
 have e1:[((k,.slice none 0 0,[]):PEl)].length=1:=rfl
 by_cases e:j < ps.length
 ·rw [List.getD_eq_getElem?_getD,List.getElem?_append_left e,← List.getD_eq_getElem?_getD];exact h.dar j e
 ·obtain rfl:j=ps.length:=by omega
  have:DJ l ps.length k=[]:=by
   unfold DJ
   rw [List.filter_eq_nil_iff]
   intro d hd
   rw [List.mem_range] at hd
   have eq:=part_eqv hi he
   have:prt (part l) d < pn (part l) k:=prt_lt eq (by omega) (by have:=(rep_is eq (show d < l.length by omega)).1;omega)
   rw [← h.len] at this
   unfold pq
   simp;omega
  rw [this];simp [List.getD_eq_getElem?_getD]
theorem PK.put {fs:List Nat} (hf:ps.map (fun p=>p.1)=fs) (hd:∀ j,j < ps.length→(ps.getD j pE0).2.2=DJ l j k) (hL:fs=LL l (k+1)) {j:Nat} (hj:pq l k=j) (hjl:j < ps.length) (v:Value):PK l (k+1) (ps.set j ((ps.getD j pE0).1,v,(ps.getD j pE0).2.2++[k])):=by
 have gs:∀ i,(ps.set j ((ps.getD j pE0).1,v,(ps.getD j pE0).2.2++[k])).getD i pE0=if i=j then ((ps.getD j pE0).1,v,(ps.getD j pE0).2.2++[k]) else ps.getD i pE0:=fun i=>getD_setR _ _ _ _ _ hjl
 refine ⟨?_,fun i hi=>?_⟩
 ·rw [← hL,← hf]
  apply List.ext_getElem (by simp)
  intro i h1 h2
  simp only [List.length_map,List.length_set] at h1 h2
  rw [List.getElem_map,List.getElem_map,List.getElem_set]
  split
  ·rename_i e;subst e
   rw [List.getD_eq_getElem?_getD,List.getElem?_eq_getElem hjl];rfl
  ·rfl
 ·rw [List.length_set] at hi
  rw [gs]
  by_cases e:i=j
  ·rw [if_pos e,e,(DJ_next l j k).1 hj,← hd j hjl]
  ·rw [if_neg e,(DJ_next l i k).2 (by rw [hj];exact fun c=>e c.symm)]
   exact hd i hi
end
def PartsPost (w:World) (l:List Nat) (r:Nat) (e:Ending) (w':World):Prop :=
 ∃ A c ps,e=.returned (.slice A ps.length c)∧w'.ownsRow w.heap.size 177 2 (.slice A ps.length c) ps.length (pcs ps)∧(∀ p∈ps,∃ A' c',p.2.1=.slice A' p.2.2.length c'∧w'.ownsRow w.heap.size 3 1 (.slice A' p.2.2.length c') p.2.2.length (I64 (ofN p.2.2))) ∧
  ps.map (fun p=>p.1)=starts l r∧(∀ p∈ps,p.2.2=Go.Proofs.YtijbdnhlpbcabaaGreatDoor.own l p.1)∧Below w.heap.size w w'
theorem PK.done {l b:List Nat} (hi:Inv l b) (he:l.length%2=0) {r:Nat} (hr:r < l.length) {ps:List PEl} (h:PK l l.length ps) {j:Nat} (hj:j=pq l r) (v:Value) :
  j < ps.length∧((r,v,(ps.getD j pE0).2.2) :: (ps.take j++ps.drop (j+1))).map (fun p=>p.1)=starts l r∧∀ p∈((r,v,(ps.getD j pE0).2.2) :: (ps.take j++ps.drop (j+1)):List PEl),p.2.2=Go.Proofs.YtijbdnhlpbcabaaGreatDoor.own l p.1:=by
 have eq:=part_eqv hi he
 have rp:=rep_is eq hr
 have hjl:j < ps.length:=by
  rw [hj,h.len];exact prt_lt eq hr (by omega)
 have own_is:∀ s,s < l.length→DJ l (pq l s) l.length=Go.Proofs.YtijbdnhlpbcabaaGreatDoor.own l s:=fun s hs=>by
  unfold DJ Go.Proofs.YtijbdnhlpbcabaaGreatDoor.own
  apply List.filter_congr
  intro d hd
  rw [List.mem_range] at hd
  have:pq l d=pq l s↔part l s d:=by
   unfold pq
   rw [prt_iff eq hd hs]
   exact ⟨eq.symm d s hd hs,eq.symm s d hs hd⟩
  simp only [decide_eq_decide]
  exact this
 have tail:∀ i,i < ps.length→(ps.getD i pE0).2.2=Go.Proofs.YtijbdnhlpbcabaaGreatDoor.own l (ps.getD i pE0).1:=fun i hi'=>by
  rw [h.dar i hi']
  have hl:i < (LL l l.length).length:=by rw [← h.fst,List.length_map];exact hi'
  obtain ⟨g1,g2,g3⟩:=LL_get l l.length i hl
  have ef:(LL l l.length).getD i 0=(ps.getD i pE0).1:=by
   rw [← h.fst,List.getD_eq_getElem?_getD,List.getElem?_map,List.getD_eq_getElem?_getD,List.getElem?_eq_getElem hi'];rfl
  rw [ef] at g1 g2 g3
  rw [← own_is _ g1]
  congr 1
  exact (prt_least eq g1 g2).trans g3 |>.symm
 refine ⟨hjl,?_,fun p hp=>?_⟩
 ·have hjm:j=(LL l (rep (part l) r)).length:=by rw [LL_len,hj];rfl
  obtain ⟨T,h1,h2⟩:=(LL_starts hi he hr rfl l.length (Nat.le_refl _)).2 (by omega)
  simp only [List.map_cons,List.map_append,List.map_take,List.map_drop]
  rw [h.fst,h1,hjm,List.take_left' rfl]
  have e2:(LL l (rep (part l) r)++rep (part l) r :: T).drop ((LL l (rep (part l) r)).length+1)=T:=by
   rw [← List.drop_drop,List.drop_left' rfl];rfl
  rw [e2]
  unfold starts
  rw [h2]
 ·rcases List.mem_cons.1 hp with rfl | hp
  ·show (ps.getD j pE0).2.2=_
   rw [h.dar j hjl,hj];exact own_is r hr
  ·have:p∈ps:=by
    rcases List.mem_append.1 hp with q | q
    ·exact List.mem_of_mem_take q
    ·exact List.mem_of_mem_drop q
   obtain ⟨i,hi',rfl⟩:=List.getElem_of_mem this
   have:=tail i hi'
   rwa [List.getD_eq_getElem?_getD,List.getElem?_eq_getElem hi'] at this
end Go.Proofs.YtijbdnhlpbcabaaGreatDoor
namespace Go.Proofs.YtijbdnhlpbcabaaGreatDoor
set_option maxRecDepth 20000
theorem pf_invC {l:List Nat} (h:PF l.length (sgL l)):∃ b,Inv l b:=by
 apply good_inv
 intro i hi
 rw [ofN_len] at hi
 rw [ofN_get,ofN_len]
 have:=h.lt i hi
 refine ⟨by omega,by unfold sgL at this;omega,fun j hj c=>?_⟩
 rw [ofN_get] at c
 have:=h.inj j i (by omega) hi (by unfold sgL;omega)
 omega
def alN (l D pl:List Nat):List Nat:=D.map fun d=>sgL pl (sgL l d)
section
variable {l b D pl:List Nat} {r:Nat}
theorem alN_len:(alN l D pl).length=D.length:=by simp [alN]
theorem alN_get {i:Nat} (hi:i < D.length):sgL (alN l D pl) i=sgL pl (sgL l (sgL D i)):=by
 have e:sgL D i=D[i]:=by unfold sgL;rw [List.getD_eq_getElem?_getD,List.getElem?_eq_getElem hi];rfl
 rw [e]
 show (alN l D pl).getD i 0=_
 unfold alN
 rw [List.getD_eq_getElem?_getD,List.getElem?_map,List.getElem?_eq_getElem hi]
 rfl
theorem sgL_mem {i:Nat} (hi:i < D.length):sgL D i∈D:=by
 unfold sgL
 rw [List.getD_eq_getElem?_getD,List.getElem?_eq_getElem hi]
 exact List.getElem_mem hi
theorem mem_sgL {d:Nat} (h:d∈D):∃ i,i < D.length∧sgL D i=d:=by
 obtain ⟨i,hi,e⟩:=List.getElem_of_mem h
 exact ⟨i,hi,by unfold sgL;rw [List.getD_eq_getElem?_getD,List.getElem?_eq_getElem hi];exact e⟩
theorem own_sig (hl:Inv l b) (he:l.length%2=0) (hr:r < l.length) {d:Nat} (hd:d∈own l r):sgL l d∈own l r:=by
 rw [own_mem] at hd ⊢
 exact ⟨hl.lt _ hd.1,(part_eqv hl he).trans _ _ _ hr hd.1 (hl.lt _ hd.1) hd.2 (gk_sig (sgL_pf hl) _ _)⟩
theorem own_self (hl:Inv l b) (he:l.length%2=0) (hr:r < l.length):r∈own l r:=by
 rw [own_mem]
 exact ⟨hr,(part_eqv hl he).refl _ hr⟩
theorem al_walk (hl:Inv l b) (he:l.length%2=0) (hr:r < l.length) (hD:D=own l r) (hp:∀ i,i < D.length→sgL pl (sgL D i)=i) :
  (alN l D pl).length%2=0∧(∃ B,Inv (alN l D pl) B)∧sgL pl r < D.length∧sgL D (sgL pl r)=r∧(wlk (alN l D pl) (sgL pl r)).map (sgL D)=wlk l r∧(∀ j∈wlk (alN l D pl) (sgL pl r),j < D.length):=by
 have st:∀ i,i < D.length→∃ j,j < D.length∧sgL D j=sgL l (sgL D i):=fun i hi=>by
  refine mem_sgL ?_
  rw [hD]
  exact own_sig hl he hr (by rw [← hD];exact sgL_mem hi)
 have sg:∀ i,i < D.length→sgL (alN l D pl) i < D.length∧sgL D (sgL (alN l D pl) i)=sgL l (sgL D i):=fun i hi=>by
  obtain ⟨j,hj,e⟩:=st i hi
  rw [alN_get hi,← e,hp j hj]
  exact ⟨hj,rfl⟩
 have L:Lies l (alN l D pl) (sgL D):=by
  have:=own_lies (A:=alN l D pl) hl he hr (by rw [alN_len,hD]) (fun i hi=>by
   rw [alN_len] at hi
   rw [← hD];exact (sg i hi).2)
  rw [← hD] at this
  exact this
 obtain ⟨k,hk,e⟩:=mem_sgL (show r∈D by rw [hD];exact own_self hl he hr)
 have hkr:sgL pl r=k:=by rw [← e,hp k hk]
 obtain ⟨B,hB⟩:=pf_invC (l:=alN l D pl) (lies_pf L hl fun i hi=>by rw [alN_len] at hi ⊢;exact (sg i hi).1)
 have ev:=L.inc.ev
 have hk':k < (alN l D pl).length:=by rw [alN_len];exact hk
 rw [hkr]
 refine ⟨by omega,⟨B,hB⟩,hk,e,?_,fun j hj=>?_⟩
 ·have:=L.walk hB hl he hk'
  rwa [e] at this
 ·have:=wlk_lt hB (by omega) hk' j hj
  rwa [alN_len] at this
end
end Go.Proofs.YtijbdnhlpbcabaaGreatDoor
namespace Go.Proofs.YtijbdnhlpbcabaaGreatDoor
set_option maxRecDepth 100000
theorem own_someS {w:World} {base:Nat} {e:TypeId} {size:Nat} {A:Option Addr} {n m c:Nat} {xs:List Value} (h:w.ownsRow base e size (.slice A m c) n xs) (hn:0 < n):∃ g,A=some ⟨g,0,none⟩∧base≤g∧g < w.heap.size:=by
 rcases h.2 with ⟨_,h0⟩ | ⟨g,cap,cur,hv,hb,hg,_⟩
 ·omega
 ·simp only [Value.slice.injEq] at hv
  exact ⟨g,hv.1,hb,(Array.getElem?_eq_some_iff.1 hg).1⟩
set_option maxHeartbeats 8000000 in
theorem cparts_p (g:Nat) (l b:List Nat) (r:Nat) (lone:Int) (w:World) (h:MapAt w g l b (r:Int) lone) (hi:Inv l b) (hr:r < l.length) :
  Calls Tryz.prog 130 #[.pointer (some ⟨g,0,none⟩)] w (PartsPost w l r):=by
 have EN:=Lib.hid (enames_p g l b (r:Int) lone w h)
 have HM:Hid (∀ w',Below w.heap.size w w'→MapAt w' g l b (r:Int) lone):=fun w' m=>h.below m
 have hle:=h.2.1
 have HI:=Lib.hid hi
 have HEV:Hid (l.length%2=0):=h.1.1
 obtain ⟨i0,hi0,hz0,hz1,hz2⟩:=info_parts info_cpart
 obtain ⟨n,hn⟩:∃ n,n=l.length:=⟨_,rfl⟩
 have hel:(ofN (enames l)).length=n:=by rw [ofN_len,enames_len,hn]
 rw [← hn] at hle hr
 have HN:=Lib.hid hn
 clear h hi hn
 go_enter Tryz.func130,Tryz.ntmps130
 go_wp2_with fail
 refine EN.out.mono ?_
 rintro e w1 ⟨A1,c1,rfl,_,_,o1,b1⟩
 rw [hel] at o1 ⊢
 have B1:=Lib.hid b1
 have O1:=Lib.hid o1
 have PR0:Hid (PRow w1 w.heap.size none 0 []):=⟨World.ownsRow_nil _ _ _ _,fun j hj=>absurd hj (by simp),fun i j hi=>absurd hi (by simp)⟩
 have PK0:Hid (PK l 0 []):=⟨by simp [LL],fun j hj=>absurd hj (by simp)⟩
 clear EN hel b1 o1
 go_wp2_with fail
 go_loopw [3,13] (fun v x wr=>∃ (k:Nat) (A:Option Addr) (c:Nat) (ps:List PEl),k≤n∧ps.length≤k∧v=.slice A ps.length c∧x=.int .i64 (k:Int)∧Hid (PK l k ps)∧Hid (PRow wr w.heap.size A c ps)∧Hid (wr.ownsRow w.heap.size 3 1 (.slice A1 n c1) n (I64 (ofN (enames l)))) ∧
  Hid (∀ j,j < ps.length→∀ q,(Value.slice A1 n c1).ownBlock=some q→(ps.getD j pE0).2.1.ownBlock≠some q)∧Hid (Below w.heap.size w wr)) (fun _ x _=>n - (intOf x).toNat)
 case atStart=>exact ⟨0,none,0,[],Nat.zero_le _,by simp,rfl,rfl,PK0,PR0,O1,fun j hj=>absurd hj (by simp),B1⟩
 case round =>
  clear PK0 PR0 O1 B1
  obtain ⟨k,A,c,ps,hk,hpl,rfl,rfl,PKk,PR,ON,SEP,BB⟩:=hrel
  by_cases hlt:k < n
  ·have hdk:decide (k < n)=true:=decide_eq_true hlt
   obtain ⟨gN,rfl,_⟩:=own_some ON.out (by omega)
   have cN:=own_cellI ON.out k hlt
   rw [ofN_get,enames_get l (by rw [← HN.out];exact hlt)] at cN
   obtain ⟨q,hq⟩:∃ q,q=pq l k:=⟨_,rfl⟩
   rw [← hq] at cN
   have HQ:=Lib.hid hq
   have IS:=Lib.hid (PKk.out.is_ HI.out (by have:=HEV.out;exact this) (show k < l.length by rw [← HN.out];exact hlt))
   obtain ⟨K,hK⟩:∃ K,K=ps.length:=⟨_,rfl⟩
   rw [← hK] at hpl ⊢
   have HK:=Lib.hid hK
   clear hq hK
   have FIN:Hid (∀ (ps':List PEl) (c':Nat) (g':Nat) (W:World),ps'.map (fun p=>p.1)=LL l (k+1)→(∀ j,j < ps'.length→(ps'.getD j pE0).2.2=DJ l j k)→q < ps'.length→PRow W w.heap.size (some ⟨g',0,none⟩) c' ps'→W.ownsRow w.heap.size 3 1 (.slice (some ⟨gN,0,none⟩) n c1) n (I64 (ofN (enames l)))→(∀ j,j < ps'.length→∀ x,(Value.slice (some ⟨gN,0,none⟩) n c1).ownBlock=some x→(ps'.getD j pE0).2.1.ownBlock≠some x)→Below w.heap.size w W →
     ∃ (nd:Nat) (A5:Option Addr) (cj:Nat) (A6:Option Addr) (c6:Nat) (W2 W3:World),nd≤131072∧W.cell? ⟨g',q*2+1,none⟩=some (.slice A5 nd cj)∧(Builtin.append_ #[25,25] 25 #[.slice A5 nd cj,.slice (some ⟨W.heap.size,0,none⟩) 1 1]).run Tryz.prog (W.alloc (.cells #[.int .i64 (k:Int)] 3))=.ok (.slice A6 (nd+1) c6) W2∧W2.cell? ⟨g',q*2+1,none⟩=some (.slice A5 nd cj)∧W2.frozen? ⟨g',q*2+1,none⟩=false∧W3=W2.setCell ⟨g',q*2+1,none⟩ (.slice A6 (nd+1) c6) ∧
      ∃ ps2:List PEl,ps2.length=ps'.length∧PK l (k+1) ps2∧PRow W3 w.heap.size (some ⟨g',0,none⟩) c' ps2∧W3.ownsRow w.heap.size 3 1 (.slice (some ⟨gN,0,none⟩) n c1) n (I64 (ofN (enames l)))∧(∀ j,j < ps2.length→∀ x,(Value.slice (some ⟨gN,0,none⟩) n c1).ownBlock=some x→(ps2.getD j pE0).2.1.ownBlock≠some x)∧Below w.heap.size w W3):=fun ps' c' g' W hf hd hq PR' ON' SEP' B'=>by
    have dl:(ps'.getD q pE0).2.2.length≤131072:=by
     rw [hd q hq];unfold DJ
     have:=List.length_filter_le (fun d=>decide (pq l d=q)) (List.range k)
     rw [List.length_range] at this;omega
    obtain ⟨A5,cj,A6,c6,W2,e5,hrun,hcell,hfz,PR6,B6,M6,N6⟩:=PR'.grow B'.size (j:=q) (d:=k) hq (by omega)
    have c0:=PR'.own.cellAt (q*2+1) (by omega)
    rw [(pcs_get ps' q hq).2,e5] at c0
    refine ⟨_,A5,cj,A6,c6,W2,_,dl,c0,hrun,hcell,hfz,rfl,_,by rw [List.length_set],PK.put hf hd rfl HQ.out.symm hq _,PR6,own_mod ON' M6 fun x hx e=>?_,fun j hj x hx=>?_,B'.trans B6⟩
    ·rcases e with e | e
     ·exact own_own_neP ON' PR'.own (by decide) hx (by rw [e];simp [Value.ownBlock])
     ·exact SEP' q hq x hx e.symm
    ·rw [List.length_set] at hj
     rw [getD_setR _ _ _ _ _ hq]
     by_cases e:j=q
     ·rw [if_pos e]
      intro c
      rcases N6 x c with n1 | n1
      ·exact SEP' q hq x hx n1
      ·have:=(ON'.lt x hx).2;omega
     ·rw [if_neg e];exact SEP' j hj x hx
   by_cases hls:Least (part l) k
   ·have hqK:q=K:=by rw [HQ.out,HK.out];exact IS.out.1 hls
    subst hqK
    have hal:Below wr.heap.size wr (wr.alloc (.cells #[.int .i64 (k:Int),.slice none 0 0] 177)):=(Below.refl _ _).alloc (Nat.le_refl _) _
    have o2:=own_below PR.out.own hal
    rw [← HK.out] at o2
    have nw:∀ j u,[Value.int .i64 (k:Int),.slice none 0 0][j]?=some u→(wr.alloc (.cells #[.int .i64 (k:Int),.slice none 0 0] 177)).cell? ((⟨wr.heap.size,0,none⟩:Addr).add j)=some u:=fun j u hu=>by
     rw [Addr.add_lit,Nat.zero_add,(Blk.new wr 177 #[.int .i64 (k:Int),.slice none 0 0]).cell]
     simpa using hu
    obtain ⟨v',w2,hrun,hnew,hgr,_,hob⟩:=run_append_own_at (P:=Tryz.prog) (wr.alloc (.cells #[.int .i64 (k:Int),.slice none 0 0] 177)) w.heap.size 174 174 177 i0 (.agg #[.int .i64 0,.slice none 0 0]) 2 32 Tryz.underlying174 hi0 hz0 hz1 hz2 rfl (by omega) _ q _ o2 ⟨wr.heap.size,0,none⟩ 1 1 [.int .i64 (k:Int),.slice none 0 0] rfl nw (by intro u hu;simp at hu;rcases hu with rfl | rfl <;> rfl) (by simp only [maxLen];omega) (by omega) (by have:=BB.out.size;simp;omega)
    obtain ⟨A2,c2,rfl,_,_⟩:=own_form hnew
    obtain ⟨g2,rfl,_⟩:=own_someS hnew (by omega)
    have MG:=Mod.ofGrown hgr
    have PR2:PRow w2 w.heap.size (some ⟨g2,0,none⟩) c2 (ps++[((k,.slice none 0 0,[]):PEl)]):=PR.out.snoc hal (by rw [← HK.out];exact hnew) (by rw [← HK.out];exact hgr)
    have ON2:=own_mod (own_below ON.out hal) MG fun x hx e=>own_own_neP (own_below ON.out hal) o2 (by decide) hx e.symm
    have BB2:=(BB.out.trans (hal.mono BB.out.size)).trans (MG.belowB (by have:=BB.out.size;simp;omega) fun i hi e=>by have:=(o2.lt i e.symm).1;omega)
    have hl9:(ps++[((k,.slice none 0 0,[]):PEl)]).length=q+1:=by rw [List.length_append,← HK.out];rfl
    have SEP2:∀ j,j < (ps++[((k,.slice none 0 0,[]):PEl)]).length→∀ x,(Value.slice (some ⟨gN,0,none⟩) n c1).ownBlock=some x→((ps++[((k,.slice none 0 0,[]):PEl)]).getD j pE0).2.1.ownBlock≠some x:=fun j hj x hx=>by
     by_cases e:j < ps.length
     ·rw [List.getD_eq_getElem?_getD,List.getElem?_append_left e,← List.getD_eq_getElem?_getD];exact SEP.out j e x hx
     ·rw [hl9] at hj
      obtain rfl:j=ps.length:=by have:=HK.out;omega
      simp [List.getD_eq_getElem?_getD,Value.ownBlock]
    obtain ⟨nd,A5,cj,A6,c6,W2,W3,hnd,c0,hrun2,hc2,hf2,hW3,ps2,l2,pk2,pr2,on2,sep2,bb2⟩:=FIN.out (ps++[((k,.slice none 0 0,[]):PEl)]) c2 g2 w2 (by rw [List.map_append,PKk.out.fst,(LL_next l k).1 hls];rfl) (PKk.out.new HI.out HEV.out (by rw [← HN.out];exact hlt) hls) (by rw [hl9];omega) PR2 ON2 SEP2 BB2
    have PK9:=Lib.hid pk2
    have PR9:=Lib.hid pr2
    have ON9:=Lib.hid on2
    have SEP9:=Lib.hid sep2
    have BB9:=Lib.hid bb2
    have HL9:Hid (ps2.length=q+1):=by show _=_;rw [l2,hl9]
    have hqi:(q:Int) < (q:Int)+1:=by omega
    have hnk:n≤131072:=hle
    clear PR2 ON2 BB2 SEP2 hl9 pk2 pr2 on2 sep2 bb2 l2 FIN PKk PR ON SEP BB MG hnew hgr hob nw hal o2 hls IS
    go_upto_region 8 with (first
     | (at_builtin;go_must (refine wpList_append_runR rfl _ _ _ rfl _ _ _ _ rfl rfl hrun ?_)))
    go_wp2_with (first
     | (at_builtin;go_must (refine wpList_append_runR rfl _ _ _ rfl _ _ _ _ rfl rfl hrun2 ?_)))
    go_roundw
    case rel=>exact ⟨k+1,some ⟨g2,0,none⟩,c2,ps2,by omega,by rw [HL9.out];omega,by rw [HL9.out],by go_num,PK9,by rw [← hW3];exact PR9,by rw [← hW3];exact ON9,SEP9,by rw [← hW3];exact BB9⟩
    case measure=>simp [intOf];omega
   ·have hqK:q < K:=by rw [HQ.out,HK.out];exact IS.out.2 hls
    have dq:((q:Int) == (K:Int))=false:=by rw [beq_eq_false_iff_ne];omega
    obtain ⟨g2,rfl,_⟩:=own_someS PR.out.own (by rw [← HK.out];omega)
    obtain ⟨nd,A5,cj,A6,c6,W2,W3,hnd,c0,hrun2,hc2,hf2,hW3,ps2,l2,pk2,pr2,on2,sep2,bb2⟩:=FIN.out ps c g2 wr (by rw [PKk.out.fst,(LL_next l k).2 hls]) PKk.out.dar (by rw [← HK.out];exact hqK) PR.out ON.out SEP.out BB.out
    have PK9:=Lib.hid pk2
    have PR9:=Lib.hid pr2
    have ON9:=Lib.hid on2
    have SEP9:=Lib.hid sep2
    have BB9:=Lib.hid bb2
    have HL9:Hid (ps2.length=K):=by show _=_;rw [l2,HK.out]
    have hqi:(q:Int) < (K:Int):=by omega
    clear pk2 pr2 on2 sep2 bb2 l2 FIN PKk PR ON SEP BB hls IS
    go_wp2_with (first
     | (at_builtin;go_must (refine wpList_append_runR rfl _ _ _ rfl _ _ _ _ rfl rfl hrun2 ?_)))
    go_roundw
    case rel=>exact ⟨k+1,some ⟨g2,0,none⟩,c,ps2,by omega,by rw [HL9.out];omega,by rw [HL9.out],by go_num,PK9,by rw [← hW3];exact PR9,by rw [← hW3];exact ON9,SEP9,by rw [← hW3];exact BB9⟩
    case measure=>simp [intOf];omega
  ·obtain rfl:n=k:=by omega
   have hdk:decide (n < n)=false:=by simp
   have PKn:PK l l.length ps:=by have:=PKk.out;rw [HN.out] at this;exact this
   obtain ⟨q,hq⟩:∃ q,q=pq l r:=⟨_,rfl⟩
   have PD:=Lib.hid (fun v=>PKn.done HI.out HEV.out (r:=r) (by rw [← HN.out];exact hr) hq v)
   have hqL:q < ps.length:=(PD.out (.bool false)).1
   obtain ⟨K,hK⟩:∃ K,ps.length=K+1:=⟨ps.length - 1,by omega⟩
   obtain ⟨gA,rfl,hgA,hgA2⟩:=own_someS PR.out.own (by omega)
   obtain ⟨gN,rfl,_⟩:=own_some ON.out (by omega)
   have cN:=own_cellI ON.out r hr
   rw [ofN_get,enames_get l (by rw [← HN.out];exact hr),← hq] at cN
   have cF:=PR.out.own.cellAt (q*2) (by omega)
   have cV:=PR.out.own.cellAt (q*2+1) (by omega)
   rw [(pcs_get ps q hqL).1] at cF
   rw [(pcs_get ps q hqL).2] at cV
   obtain ⟨⟨Av,cv,ev⟩,_⟩:=PR.out.inn q hqL
   obtain ⟨f,hf⟩:∃ f,f=(ps.getD q pE0).1:=⟨_,rfl⟩
   obtain ⟨nd,hnd⟩:∃ nd,nd=(ps.getD q pE0).2.2.length:=⟨_,rfl⟩
   rw [← hnd] at ev
   rw [← hf] at cF
   rw [ev] at cV
   have HVV:=Lib.hid ev
   have HND:=Lib.hid hnd
   have HNE:Hid (∀ j,j < ps.length→(ps.getD j pE0).2.1.ownBlock≠some gA):=fun j hj c=>own_own_neP (PR.out.inn j hj).2 PR.out.own (by decide) c (by simp [Value.ownBlock])
   have INN:Hid (∀ W,Below wr.heap.size wr W→∀ j,j < ps.length→W.ownsRow w.heap.size 3 1 (ps.getD j pE0).2.1 (ps.getD j pE0).2.2.length (I64 (ofN (ps.getD j pE0).2.2))):=fun W m j hj=>own_below (PR.out.inn j hj).2 m
   have FORM:Hid (∀ j,j < ps.length→∃ A' c',(ps.getD j pE0).2.1=.slice A' (ps.getD j pE0).2.2.length c'):=fun j hj=>(PR.out.inn j hj).1
   have OUT:Hid (∀ W,Below wr.heap.size wr W→W.ownsRow w.heap.size 177 2 (.slice (some ⟨gA,0,none⟩) (K+1) c) (K+1) (pcs ps)):=fun W m=>by
    have:=own_below PR.out.own m
    rwa [hK] at this
   have ONE:=Lib.hid PR.out.one
   have RT:Hid (∀ W,Below wr.heap.size wr W→Calls Tryz.prog 33 #[.pointer (some ⟨g,0,none⟩)] W fun e w'=>e=.returned (.int .i64 (r:Int))∧W=w'):=fun W m=>root_p g l b (r:Int) lone W (HM.out W (BB.out.trans (m.mono BB.out.size)))
   have hqn:q≤131072:=by omega
   have wq:IntKind.i64.wrap ((q:Int)+1)=(q:Int)+1:=by simp [IntKind.wrap,IntKind.signed,IntKind.bits];omega
   have hKn:K≤131072:=by omega
   have DEL:Hid (∀ W,Below wr.heap.size wr W→Calls Tryz.prog 154 #[.slice (some ⟨gA,0,none⟩) (K+1) c,.int .i64 (q:Int),.int .i64 ((q:Int)+1)] W (DelPost W w.heap.size gA K c (pcs (ps.take q++ps.drop (q+1))))):=fun W m=>by
    have:=cdelete_p W w.heap.size gA K c q (pcs ps) (OUT.out W m) (by omega) ONE.out (by omega)
    rw [pcs_take,show 2*q+2=2*(q+1) by omega,pcs_drop,← pcs_app] at this
    have e:(((q+1:Nat):Int))=(q:Int)+1:=by omega
    rwa [e] at this
   have ONE2:Hid (∀ x∈pcs (ps.take q++ps.drop (q+1)),x.oneCell'=true):=fun x hx=>by
    rw [pcs_app] at hx
    rcases List.mem_append.1 hx with h1 | h1
    ·rw [← pcs_take] at h1;exact ONE.out x (List.mem_of_mem_take h1)
    ·rw [← pcs_drop] at h1;exact ONE.out x (List.mem_of_mem_drop h1)
   have INS:Hid (∀ (W:World) (vb:Nat),W.ownsRow w.heap.size 177 2 (.slice (some ⟨gA,0,none⟩) K c) K (pcs (ps.take q++ps.drop (q+1)))→Blk W vb 177 #[.int .i64 (r:Int),.slice Av nd cv]→vb≠gA→Calls Tryz.prog 153 #[.slice (some ⟨gA,0,none⟩) K c,.int .i64 0,.slice (some ⟨vb,0,none⟩) 1 1] W (DelPost W w.heap.size gA (K+1) c (pcs ((r,.slice Av nd cv,(ps.getD q pE0).2.2) :: (ps.take q++ps.drop (q+1)))))):=fun W vb ho hb hne =>
    cinsert_p W w.heap.size gA K c vb _ _ _ ho (by have:=PR.out.own;rw [hK] at this;obtain ⟨_,_,_,h3,_⟩:=own_open this;exact h3) ONE2.out (by omega) hb rfl rfl hne
   have HK:=Lib.hid hK
   have HQL:=Lib.hid hqL
   have BW:Hid (Below w.heap.size w wr):=BB.out
   have hri:(r:Int) < (n:Int):=by omega
   have hqi:(q:Int) < (K:Int)+1:=by omega
   have hk0:((K:Int)+1 == 0)=false:=by rw [beq_eq_false_iff_ne];omega
   have Z0:=Below.refl wr.heap.size wr
   have hgX:gA < wr.heap.size:=hgA2
   rw [hK]
   clear PKk PKn PR ON SEP BB hf ev hnd hq hK hpl hk hlt hle HEV HI HN HM
   go_wp2_with fail
   refine (RT.out _ Z0).mono ?_
   rintro e w' ⟨rfl,rfl⟩
   have Z1:Hid (Below wr.heap.size wr (wr.alloc (.cells #[.int .i64 (f:Int),.slice Av nd cv] 177))):=Z0.alloc Z0.size _
   have bx1:=Blk.new wr 177 #[.int .i64 (f:Int),.slice Av nd cv]
   have x0:=bx1.cell 0
   have fx0:=bx1.frozen 0
   simp at x0
   go_wp2_with fail
   refine (RT.out _ Z1.out).mono ?_
   rintro e w' ⟨rfl,rfl⟩
   clear bx1 x0 fx0 Z1
   go_wp2_with fail
   have Z5:Hid (Below wr.heap.size wr (wr.alloc (.cells #[.int .i64 (r:Int),.slice Av nd cv] 177))):=Z0.alloc Z0.size _
   have bx5:Hid (Blk (wr.alloc (.cells #[.int .i64 (r:Int),.slice Av nd cv] 177)) wr.heap.size 177 #[.int .i64 (r:Int),.slice Av nd cv]):=Blk.new wr 177 #[.int .i64 (r:Int),.slice Av nd cv]
   have HGX:Hid (wr.heap.size≠gA):=by show _≠_;omega
   have WR0:=Lib.hid Z0
   have HW0:Hid (w.heap.size≤gA):=hgA
   clear Z0 cF cV cN hgA hgA2 RT
   generalize (wr.alloc (.cells #[.int .i64 (r:Int),.slice Av nd cv] 177))=w5 at *
   have hA:Below wr.heap.size wr w5.drew:=Z5.out.drew
   have hB:Below wr.heap.size wr (w5.alloc (.cells #[.int .i64 (r:Int),.slice Av nd cv] 177)).drew:=(Z5.out.alloc Z5.out.size _).drew
   have z0:=bx5.out.cell 0
   have z1:=bx5.out.cell 1
   simp at z0 z1
   have HSZ:Hid (gA < w5.heap.size):=by have:=Z5.out.size;show _ < _;omega
   go_region_with (first
    | (go_at_call 154;(with_reducible refine (DEL.out _ hA).mono ?_);rintro en w8 ⟨rfl,d8,m8⟩;
       have xb:Blk w8 wr.heap.size 177 #[.int .i64 (r:Int),.slice Av nd cv]:=(bx5.out.drewN 1).mod m8 HGX.out;
       have y0:=xb.cell 0;have y1:=xb.cell 1;simp at y0 y1;
       have al:Below w8.heap.size w8 (w8.alloc (.cells #[.int .i64 (r:Int),.slice Av nd cv] 177)):=(Below.refl _ _).alloc (Nat.le_refl _) _;
       have hs8:=m8.size;
       have INSA:=Lib.hid (INS.out (w8.alloc (.cells #[.int .i64 (r:Int),.slice Av nd cv] 177)) w8.heap.size (own_below d8 al) (Blk.new w8 177 #[.int .i64 (r:Int),.slice Av nd cv]) (by have:=HSZ.out;have e:w5.drew.heap.size=w5.heap.size:=rfl;omega));
       have MM8:=Lib.hid (((Mod.none_ hA (fun k=>k=gA)).trans m8 fun _ _ q=>q).trans (Mod.none_ al (fun k=>k=gA)) fun _ _ q=>q);
       clear xb al d8 m8 hs8)
    | (go_at_call 154;(with_reducible refine (DEL.out _ hB).mono ?_);rintro en w8 ⟨rfl,d8,m8⟩;
       have INSA:=Lib.hid (INS.out w8 w5.heap.size d8 (((Blk.new w5 177 #[.int .i64 (r:Int),.slice Av nd cv]).drewN 1).mod m8 (by have:=HSZ.out;omega)) (by have:=HSZ.out;omega));
       have MM8:=Lib.hid ((Mod.none_ hB (fun k=>k=gA)).trans m8 fun _ _ q=>q);
       clear d8 m8)
    | (go_at_call 153;(with_reducible refine INSA.out.mono ?_);rintro en w9 ⟨rfl,d9,m9⟩;have D9:=Lib.hid d9;have M9:=Lib.hid (MM8.out.trans m9 fun _ _ q=>q);clear d9 m9))
   all_goals (
    go_wp2_with fail
    go_ret
    have hl2:((r,.slice Av nd cv,(ps.getD q pE0).2.2) :: (ps.take q++ps.drop (q+1)):List PEl).length=K+1:=by simp [HK.out];have:=HQL.out;have:=HK.out;omega
    refine ⟨some ⟨gA,0,none⟩,c,((r,.slice Av nd cv,(ps.getD q pE0).2.2) :: (ps.take q++ps.drop (q+1))),by rw [hl2];first | rfl | simp,by rw [hl2];exact D9.out,fun p hp=>?_,(PD.out (.slice Av nd cv)).2.1,(PD.out (.slice Av nd cv)).2.2,BW.out.trans (M9.out.belowB BW.out.size fun i hi e=>by have:=HW0.out;omega)⟩
    have rdj:∀ j,j < ps.length→∃ A' c',(ps.getD j pE0).2.1=.slice A' (ps.getD j pE0).2.2.length c'∧w9.ownsRow w.heap.size 3 1 (.slice A' (ps.getD j pE0).2.2.length c') (ps.getD j pE0).2.2.length (I64 (ofN (ps.getD j pE0).2.2)):=fun j hj=>by
     obtain ⟨A',c',e⟩:=FORM.out j hj
     have:=own_mod (INN.out wr WR0.out j hj) M9.out fun k hk e=>HNE.out j hj (by rw [hk,e])
     rw [e] at this
     exact ⟨A',c',e,this⟩
    rcases List.mem_cons.1 hp with rfl | hp
    ·obtain ⟨A',c',e,rd⟩:=rdj q HQL.out
     rw [HVV.out] at e
     simp only [Value.slice.injEq] at e
     refine ⟨Av,cv,by rw [HND.out],?_⟩
     rw [e.1,HND.out,e.2.2];exact rd
    ·have hpm:p∈ps:=by
      rcases List.mem_append.1 hp with h1 | h1
      ·exact List.mem_of_mem_take h1
      ·exact List.mem_of_mem_drop h1
     obtain ⟨j,hj,rfl⟩:=List.getElem_of_mem hpm
     have:=rdj j hj
     rwa [List.getD_eq_getElem?_getD,List.getElem?_eq_getElem hj] at this)
set_option maxRecDepth 20000
theorem wst_mono (sg nm:Nat→Nat) (m V r:Nat) (i:Nat):∀ N k,k≤N→i < 2*k→(wst sg nm m V r N).getD i 0=(wst sg nm m V r k).getD i 0
 | 0,k,h,hi=>by omega
 | N+1,k,h,hi=>by
   rcases Nat.lt_or_ge N k with c | c
   ·rw [show k=N+1 by omega]
   ·rw [← wst_mono sg nm m V r i N k c hi]
    have:=wst_len sg nm m V r N
    rw [show wst sg nm m V r (N+1)=wst sg nm m V r N++[((wrun sg nm m V r N).d:Int),(((wrun sg nm m V r N).k nm:Nat):Int)] from rfl]
    rw [List.getD_eq_getElem?_getD,List.getElem?_append_left (by omega),← List.getD_eq_getElem?_getD]
theorem wst_d (sg nm:Nat→Nat) (m V r:Nat) {N k:Nat} (h:k < N):(wst sg nm m V r N).getD (2*k) 0=((wrun sg nm m V r k).d:Int):=by
 rw [wst_mono sg nm m V r _ N (k+1) (by omega) (by omega)]
 have:=wst_len sg nm m V r k
 unfold wst
 rw [List.getD_eq_getElem?_getD,List.getElem?_append_right (by omega),this,Nat.sub_self];rfl
end Go.Proofs.YtijbdnhlpbcabaaGreatDoor
