/- The document's own answers on permutations. The document's own answers on permutations, more: how many orbits; the least of a list; a permutation by swaps. -/
import Derived.Test.YtijbdnhlpbcabaaGreatDoorZPNames
import Derived.Test.YtijbdnhlpbcabaaGreatDoorZPMake
import Derived.Laws.BitsAllLaws
open Go.RowKit
set_option linter.unusedVariables false
namespace Go.Proofs.YtijbdnhlpbcabaaGreatDoor
set_option maxRecDepth 20000
end Go.Proofs.YtijbdnhlpbcabaaGreatDoor
namespace Go.Proofs.YtijbdnhlpbcabaaGreatDoor
set_option maxRecDepth 20000
theorem good_inv {l:List Nat} (h:Good (ofN l)):∃ b,Inv l b:=by
 have hs:∀ v,∃ i,v < l.length→i < l.length∧l.getD i 0=v:=fun v=>by
  by_cases hv:v < l.length
  ·obtain ⟨i,h1,h2⟩:=h.surj v (by rw [ofN_len];exact hv)
   rw [ofN_len] at h1
   rw [ofN_get] at h2
   exact ⟨i,fun _=>⟨h1,by omega⟩⟩
  ·exact ⟨0,fun h'=>absurd h' hv⟩
 let f:Nat→Nat:=fun v=>Classical.choose (hs v)
 have hf:∀ v,v < l.length→f v < l.length∧l.getD (f v) 0=v:=fun v hv=>Classical.choose_spec (hs v) hv
 have hlt:∀ i,i < l.length→l.getD i 0 < l.length:=fun i hi=>by
  have:=(h i (by rw [ofN_len];exact hi)).2.1
  rw [ofN_get,ofN_len] at this
  omega
 have hg:∀ v,v < l.length→((List.range l.length).map f).getD v 0=f v:=fun v hv=>by simp [List.getD_eq_getElem?_getD,hv]
 refine ⟨(List.range l.length).map f,by simp,hlt,fun i hi=>?_,fun i hi=>?_,fun i hi=>?_⟩
 ·rw [hg i hi];exact (hf i hi).1
 ·rw [hg _ (hlt i hi)]
  have:=hf _ (hlt i hi)
  exact h.inj _ _ (by rw [ofN_len];exact this.1) (by rw [ofN_len];exact hi) (by rw [ofN_get,ofN_get,this.2])
 ·rw [hg i hi];exact (hf i hi).2
end Go.Proofs.YtijbdnhlpbcabaaGreatDoor
namespace Go.Proofs.YtijbdnhlpbcabaaGreatDoor
set_option maxRecDepth 20000
noncomputable def cntN (l:List Nat) (k j:Nat):Nat:=((List.range k).filter fun i=>decide (nameOf l i=j)).length
theorem cntN_next (l:List Nat) (k j:Nat):cntN l (k+1) j=cntN l k j+(if nameOf l k=j then 1 else 0):=by
 unfold cntN
 rw [List.range_succ,List.filter_append,List.length_append]
 by_cases h:nameOf l k=j <;> simp [h]
theorem cntN_le (l:List Nat) (k j:Nat):cntN l k j≤k:=by
 unfold cntN
 exact Nat.le_trans (List.length_filter_le _ _) (by simp)
noncomputable def sizesTo (l:List Nat) (m k:Nat):List Nat:=(List.range m).map (cntN l k)
theorem sizesTo_len (l:List Nat) (m k:Nat):(sizesTo l m k).length=m:=by simp [sizesTo]
theorem sizesTo_get (l:List Nat) (m k j:Nat) (h:j < m):(sizesTo l m k).getD j 0=cntN l k j:=by simp [sizesTo,List.getD_eq_getElem?_getD,h]
noncomputable def met (l:List Nat) (k:Nat):Nat:=(leads l k).length
theorem met_zero (l:List Nat):met l 0=0:=by simp [met,leads]
theorem met_lead (l:List Nat) (k:Nat) (h:Leads l k):met l (k+1)=met l k+1:=by unfold met;rw [leads_next,if_pos h];simp
theorem met_not (l:List Nat) (k:Nat) (h:¬ Leads l k):met l (k+1)=met l k:=by unfold met;rw [leads_next,if_neg h];simp
theorem met_le (l:List Nat) (k:Nat):met l k≤k:=by
 unfold met leads
 exact Nat.le_trans (List.length_filter_le _ _) (by simp)
theorem name_met {l b:List Nat} (h:Inv l b) {i k:Nat} (hi:i < l.length) (hik:i < k):nameOf l i < met l k:=by
 have:=lead_is h hi
 exact leads_lt l _ _ this.2.1 (by omega)
theorem name_lead {l b:List Nat} (h:Inv l b) {k:Nat} (hk:k < l.length) (hl:Leads l k):nameOf l k=met l k:=by
 unfold nameOf met
 rw [(leads_iff h hk).1 hl]
theorem name_not {l b:List Nat} (h:Inv l b) {k:Nat} (hk:k < l.length) (hl:¬ Leads l k):nameOf l k < met l k:=by
 have h1:=lead_is h hk
 have h2:lead l k≠k:=fun e=>hl ((leads_iff h hk).2 e)
 exact leads_lt l _ _ h1.2.1 (by omega)
theorem cntN_new {l b:List Nat} (h:Inv l b) {k:Nat} (hk:k≤l.length):cntN l k (met l k)=0:=by
 unfold cntN
 rw [List.length_eq_zero_iff,List.filter_eq_nil_iff]
 intro i hi
 rw [List.mem_range] at hi
 have:=name_met h (show i < l.length by omega) hi
 simp;omega
theorem sizes_new {l b:List Nat} (h:Inv l b) {k:Nat} (hk:k≤l.length):sizesTo l (met l k) k++[0]=sizesTo l (met l k+1) k:=by
 unfold sizesTo
 rw [List.range_succ,List.map_append,List.map_singleton,cntN_new h hk]
theorem sizes_set (l:List Nat) (m k p:Nat) (hp:p < m) (hn:nameOf l k=p):(sizesTo l m k).set p (cntN l k p+1)=sizesTo l m (k+1):=by
 apply List.ext_getElem (by simp [sizesTo])
 intro i h1 h2
 rw [List.getElem_set]
 simp only [sizesTo,List.getElem_map,List.getElem_range]
 rw [cntN_next,hn]
 by_cases e:p=i
 ·rw [if_pos e,if_pos e,e]
 ·rw [if_neg e,if_neg e];rfl
noncomputable def sizes (l:List Nat):List Nat:=sizesTo l (met l l.length) l.length
theorem sizes_len (l:List Nat):(sizes l).length=(orbits l).length:=by simp [sizes,sizesTo,met,orbits]
end Go.Proofs.YtijbdnhlpbcabaaGreatDoor
namespace Go.Proofs.YtijbdnhlpbcabaaGreatDoor
set_option maxRecDepth 20000
def inLo (lo:Nat) (A:Option Addr):Prop:=∀ a:Addr,A=some a→lo≤a.block
theorem inLo.le {lo lo':Nat} {A:Option Addr} (h:inLo lo A) (k:lo'≤lo):inLo lo' A:=fun a e=>Nat.le_trans k (h a e)
theorem own_inLo {w:World} {base:Nat} {e:TypeId} {A:Option Addr} {m n c:Nat} {xs:List Value} (h:w.ownsRow base e 1 (.slice A m c) n xs):inLo base A:=fun a ha=>by
 subst ha
 exact (h.lt a.block rfl).1
def NamesAt (lo:Nat) (w:World) (p:Nat) (l b:List Nat) (v:Value):Prop :=
 PermAt w p l b∧∃ A c S d,inLo lo A∧inLo lo S∧v=.agg #[.pointer (some ⟨p,0,none⟩),.slice A l.length c,.slice S (sizes l).length d]∧Rd w w.heap.size A l.length (I64 (ofN (names l)))∧Rd w w.heap.size S (sizes l).length (I64 (ofN (sizes l)))
theorem ofN_set (X:List Nat) (p q:Nat):(ofN X).set p ((q:Int)+1)=ofN (X.set p (q+1)):=by simp [ofN,List.map_set]
set_option maxHeartbeats 4000000 in
theorem named_p (g:Nat) (l b:List Nat) (w:World) (h:PermAt w g l b) :
  Calls Tryz.prog 53 #[.pointer (some ⟨g,0,none⟩)] w fun e w'=>∃ v,e=.returned v∧NamesAt w.heap.size w' g l b v∧Below w.heap.size w w':=by
 have hinv:=h.1
 have hl:=h.2.1
 obtain ⟨i0,hi0,hz0,hz1,hz2⟩:=info_parts info_int
 have NM:Hid (∀ w',Below w.heap.size w w'→Calls Tryz.prog 86 #[.pointer (some ⟨g,0,none⟩)] w' (NewI64 w' (ofN (names l)))):=fun w' hb=>names_p g l b w' (h.below hb)
 have HP:=Lib.hid h
 have HI:=Lib.hid hinv
 clear h hinv
 go_enter Tryz.func53,Tryz.ntmps53
 go_wp2_with fail
 refine (NM.out _ ?_).mono ?_
 ·exact (Below.refl _ _).alloc (Nat.le_refl _) _
 rintro e w2 ⟨A,c,rfl,hc,hm,hown,hb2⟩
 rw [ofN_len,names_len] at hown hc ⊢
 go_wp2_with fail
 have hs2:w.heap.size < w2.heap.size:=by have:=hb2.size;simp at this;omega
 have HA:=Lib.hid (Rd.ofOwn hown)
 have HLA:=Lib.hid ((own_inLo hown).le (show w.heap.size≤_ by simp))
 have HNA:Hid (0 < l.length→∃ q,A=some ⟨q,0,none⟩∧w.heap.size < q):=fun h0=>by
  obtain ⟨q,e,h1,_⟩:=own_some hown h0
  refine ⟨q,e,?_⟩
  simp at h1;omega
 have hBR:Blk w2 w.heap.size 78 #[.pointer none,.slice none 0 0,.slice none 0 0]:=(hb2.block w.heap.size (by simp)).trans (Blk.new w _ _)
 have HBR:=Lib.hid hBR
 have B2:Hid (Below w.heap.size w w2):=((Below.refl _ _).alloc (Nat.le_refl _) _).trans (hb2.mono (by simp))
 have hBN:=Blk.new w2 78 #[.pointer (some ⟨g,0,none⟩),.slice A l.length c,.slice none 0 0]
 have HBN:=Lib.hid hBN
 have hinfo:(Tryz.prog.info? 78).map (·.size)=some 3:=by kernel_rfl
 have HINF:=Lib.hid hinfo
 have hcl:l.length≤c:=hc
 clear hown hb2 hBR hBN NM hinfo hm
 go_loopw [13] (fun i wr=>∃ (k m d:Nat) (S:Option Addr),k≤l.length∧i=.int .i64 (k:Int)∧Hid (m=met l k)∧m≤k∧Hid (Blk wr w2.heap.size 78 #[.pointer (some ⟨g,0,none⟩),.slice A l.length c,.slice S m d]) ∧
  Hid (wr.ownsRow w2.heap.size 3 1 (.slice S m d) m (I64 (ofN (sizesTo l m k))))∧m≤d∧Hid (Below w2.heap.size w2 wr)) (fun i _=>l.length - (intOf i).toNat)
 case atStart=>exact ⟨0,0,0,none,by omega,rfl,(met_zero l).symm,by omega,HBN.out,World.ownsRow_nil _ _ _ _,by omega,(Below.refl _ _).alloc (Nat.le_refl _) _⟩
 case round =>
  clear HBN
  obtain ⟨k,m,d,S,hk,rfl,hmet,hmk,hbn,hos,hmd,hbl⟩:=hrel
  by_cases hlt:k < l.length
  ·have hr:=HA.out.below hbl.out
   obtain ⟨b',o,rfl,_,k1⟩:=hr.i64 (by omega)
   have t1:=k1 k hlt
   rw [ofN_get,names_get _ _ hlt] at t1
   have n1:=hbn.out.cell 1
   have n2:wr.cell? ⟨w2.heap.size,2,none⟩=some (.slice S m d):=hbn.out.cell 2
   have f2:=hbn.out.frozen 2
   have hnl:=hbn.out.lt
   clear hr k1 n1
   by_cases hld:Leads l k
   ·have hy:nameOf l k=m:=by rw [name_lead HI.out hlt hld,hmet.out]
    rw [hy] at t1
    have hown3':=hos.out.alloc (.cells #[.int .i64 0] 3)
    have r3:=Rd.new wr 3 #[.int .i64 0] 1 (I64 [0]) (by simp [I64]) (by simp)
    have t2:m+1≤maxLen:=by simp only [maxLen];omega
    have t3:(m+1)*8≤140737488355328:=by omega
    have t4:w2.heap.size≤(wr.alloc (.cells #[.int .i64 0] 3)).heap.size:=by simp;omega
    have WY:Hid (I64 (ofN (sizesTo l m k))++I64 [0]=I64 (ofN (sizesTo l (m+1) k))):=by
     show _=_
     have:=sizes_new HI.out (Nat.le_of_lt hlt)
     rw [← hmet.out] at this
     rw [← this,ofN_append,I64_append];rfl
    have hne:=own_ne hown3' (hbn.out.alloc _) (by decide)
    have HNE:=Lib.hid hne
    have HY:=Lib.hid hy
    have HBNA:=Lib.hid (hbn.out.alloc (.cells #[.int .i64 0] 3))
    have HBLA:Hid (Below w2.heap.size w2 (wr.alloc (.cells #[.int .i64 0] 3))):=hbl.out.alloc (Nat.le_of_lt hnl) _
    clear hy hne
    go_wp2_with (first
     | (at_builtin;go_must (refine wpList_append_rd _ rfl _ _ 25 rfl w2.heap.size 3 i0 (.int .i64 0) 8 Tryz.underlying25 hi0 hz0 hz1 hz2 rfl (.slice S m d) m (I64 (ofN (sizesTo l m k))) rfl hown3' (wr.heap.size+1) (some ⟨wr.heap.size,0,none⟩) 1 1 (I64 [0]) rfl r3 (I64_one _) t2 t3 t4 ?_)))
    intro A6 c6 w6 hc6 hm6 hown6 hg6 _
    rw [WY.out] at hown6
    obtain ⟨b6,rfl,hb61,hb62⟩:=own_some hown6 (by omega)
    have hbn6:=HBNA.out.mod (Mod.ofGrown hg6) (fun e=>HNE.out e.symm)
    have e2:w6.cell? ⟨w2.heap.size,2,none⟩=some (.slice S m d):=hbn6.cell 2
    have g2:=hbn6.frozen 2
    have hb6n:b6≠w2.heap.size:=fun e=>own_ne hown6 hbn6 (by decide) (by rw [e];rfl)
    have u1:=own_cellI hown6 m (by omega)
    rw [ofN_get,sizesTo_get _ _ _ _ (by omega)] at u1
    have fu:=hown6.frozenAt m
    have hcn:=cntN_le l k m
    have hbl6:Below w2.heap.size w2 w6:=HBLA.out.trans (Below.appended hown3' hg6 t4)
    have hset:=own_setI hown6 m ((cntN l k m:Nat)+1:Int)
    have HSET:=Lib.hid hset
    have HOWN6:=Lib.hid hown6
    have HBN6:=Lib.hid hbn6
    have HBL6:=Lib.hid hbl6
    have hcn9:cntN l k m≤1000000:=by omega
    clear hown6 hbn6 hbl6 hset hown3' r3 hg6 hcn
    generalize hcg:cntN l k m=q at *
    have HCG:=Lib.hid hcg
    clear hcg
    go_wp2_with fail
    have LAST:Hid (((w6.setCell ⟨w2.heap.size,2,none⟩ (.slice (some ⟨b6,0,none⟩) (m+1) c6)).setCell ⟨b6,m,none⟩ (.int .i64 ((q:Int)+1))).ownsRow w2.heap.size 3 1 (.slice (some ⟨b6,0,none⟩) (m+1) c6) (m+1) (I64 (ofN (sizesTo l (m+1) (k+1))))):=by
     have h1:=own_mod HOWN6.out (Mod.setCell (p:=⟨w2.heap.size,2,none⟩) (Mod.refl (fun i=>i=w2.heap.size) w6) (fun _=>rfl) (.slice (some ⟨b6,0,none⟩) (m+1) c6)) (fun r hr hx=>by
      simp [Value.ownBlock] at hr;omega)
     have h2:=own_setI h1 m ((q:Int)+1)
     rw [ofN_set] at h2
     have h3:=sizes_set l (m+1) k m (by omega) HY.out
     rw [HCG.out] at h3
     rwa [h3] at h2
    have LBN:Hid (Blk ((w6.setCell ⟨w2.heap.size,2,none⟩ (.slice (some ⟨b6,0,none⟩) (m+1) c6)).setCell ⟨b6,m,none⟩ (.int .i64 ((q:Int)+1))) w2.heap.size 78 #[.pointer (some ⟨g,0,none⟩),.slice (some ⟨b',o,none⟩) l.length c,.slice (some ⟨b6,0,none⟩) (m+1) c6]):=by
     have h1:=HBN6.out.set_ 2 (.slice (some ⟨b6,0,none⟩) (m+1) c6)
     have h2:=h1.mod (Mod.setCell (p:=⟨b6,m,none⟩) (Mod.refl (fun i=>i=b6) _) (fun _=>rfl) (.int .i64 ((q:Int)+1))) (fun e=>hb6n e.symm)
     show Blk _ _ _ _
     simpa using h2
    have MET:Hid (m+1=met l (k+1)):=by show _=_;rw [met_lead l k hld,hmet.out]
    go_roundw
    case rel=>exact ⟨k+1,m+1,c6,_,by omega,by go_num,MET.out,by omega,LBN.out,LAST.out,hc6,(HBL6.out.setCell (Nat.le_refl _) _).setCell hb61 _⟩
    case measure=>simp [intOf];omega
   ·have hy:=name_not HI.out hlt hld
    rw [← hmet.out] at hy
    obtain ⟨y,hyy⟩:∃ y,y=nameOf l k:=⟨_,rfl⟩
    rw [← hyy] at t1 hy
    have HY:=Lib.hid hyy
    obtain ⟨b6,rfl,hb61,hb62⟩:=own_some hos.out (by omega)
    have hb6n:b6≠w2.heap.size:=fun e=>own_ne hos.out hbn.out (by decide) (by rw [e];rfl)
    have u1:=own_cellI hos.out y hy
    rw [ofN_get,sizesTo_get _ _ _ _ hy] at u1
    have fu:=hos.out.frozenAt y
    have hcn:=cntN_le l k y
    have hcn9:cntN l k y≤1000000:=by omega
    have hyI:((y:Int) == (m:Int))=false:=by rw [beq_eq_false_iff_ne];omega
    clear hyy hcn
    generalize hcg:cntN l k y=q at *
    have HCG:=Lib.hid hcg
    clear hcg
    go_wp2_with fail
    have LAST:Hid ((wr.setCell ⟨b6,y,none⟩ (.int .i64 ((q:Int)+1))).ownsRow w2.heap.size 3 1 (.slice (some ⟨b6,0,none⟩) m d) m (I64 (ofN (sizesTo l m (k+1))))):=by
     have h2:=own_setI hos.out y ((q:Int)+1)
     rw [ofN_set] at h2
     have h3:=sizes_set l m k y hy HY.out.symm
     rw [HCG.out] at h3
     rwa [h3] at h2
    have LBN:=Lib.hid (hbn.out.mod (Mod.setCell (p:=⟨b6,y,none⟩) (Mod.refl (fun i=>i=b6) _) (fun _=>rfl) (.int .i64 ((q:Int)+1))) (fun e=>hb6n e.symm))
    have MET:Hid (m=met l (k+1)):=by show _=_;rw [met_not l k hld,hmet.out]
    go_roundw
    case rel=>exact ⟨k+1,m,d,_,by omega,by go_num,MET.out,by omega,LBN.out,LAST.out,hmd,hbl.out.setCell hb61 _⟩
    case measure=>simp [intOf];omega
  ·obtain rfl:k=l.length:=by omega
   have hbR:Blk wr w.heap.size 78 #[.pointer none,.slice none 0 0,.slice none 0 0]:=(hbl.out.block w.heap.size hs2).trans HBR.out
   have n0:=hbn.out.cell 0
   have n1:=hbn.out.cell 1
   have n2:=hbn.out.cell 2
   have r0:=hbR.cell 0
   have r1:=hbR.cell 1
   have r2:=hbR.cell 2
   have f0:=hbR.frozen 0
   have f1:=hbR.frozen 1
   have f2:=hbR.frozen 2
   simp at n0 n1 n2 r0 r1 r2
   go_wp2_with fail
   have MM:Mod (fun i=>i=w.heap.size) wr (((wr.setCell ⟨w.heap.size,0,none⟩ (.pointer (some ⟨g,0,none⟩))).setCell ⟨w.heap.size,1,none⟩ (.slice A l.length c)).setCell ⟨w.heap.size,2,none⟩ (.slice S m d)) :=
    Mod.setCell (p:=⟨w.heap.size,2,none⟩) (Mod.setCell (p:=⟨w.heap.size,1,none⟩) (Mod.setCell (p:=⟨w.heap.size,0,none⟩) (Mod.refl (fun i=>i=w.heap.size) wr) (fun _=>rfl) _) (fun _=>rfl) _) (fun _=>rfl) _
   have hblk:Blk (((wr.setCell ⟨w.heap.size,0,none⟩ (.pointer (some ⟨g,0,none⟩))).setCell ⟨w.heap.size,1,none⟩ (.slice A l.length c)).setCell ⟨w.heap.size,2,none⟩ (.slice S m d)) w.heap.size 78 #[.pointer (some ⟨g,0,none⟩),.slice A l.length c,.slice S m d]:=by
    have:=((hbR.set_ 0 (.pointer (some ⟨g,0,none⟩))).set_ 1 (.slice A l.length c)).set_ 2 (.slice S m d)
    simpa using this
   have hsz:m=(sizes l).length:=by rw [hmet.out];exact (sizesTo_len _ _ _).symm
   have hsl:sizesTo l m l.length=sizes l:=by rw [hmet.out];rfl
   have hB:Below w.heap.size w wr:=B2.out.trans (hbl.out.mono (Nat.le_of_lt hs2))
   have hB2:=hB.trans (MM.belowB hB.size fun i hi hf=>by omega)
   have hA1:Rd wr wr.heap.size A l.length (I64 (ofN (names l))):=(HA.out.below hbl.out).up hbl.out.size
   have hA2:=hA1.mod MM (Nat.le_refl _) (fun h0 k hk hf=>by
    obtain ⟨q,e,hq⟩:=HNA.out h0
    obtain ⟨a,e2,rfl⟩:=hk
    rw [e] at e2
    cases e2
    simp at hf;omega)
   have hS2:=own_mod hos.out MM (fun q hq hf=>by have:=(hos.out.lt q hq).1;omega)
   rw [hsl] at hS2
   have hS3:=(Rd.ofOwn hS2)
   refine bodyPost_ret (results_cell_row rfl _ _ w.heap.size 78 _ (0,0) _ rfl hblk Tryz.underlying78 rfl HINF.out) rfl ?_
   refine ⟨_,rfl,⟨HP.out.below hB2,A,c,S,d,HLA.out,(own_inLo hos.out).le (Nat.le_of_lt hs2),?_,hA2.up MM.size,?_⟩,hB2⟩
   ·rw [← hsz]
   ·rw [← hsz];exact hS3
end Go.Proofs.YtijbdnhlpbcabaaGreatDoor
namespace Go.Proofs.YtijbdnhlpbcabaaGreatDoor
set_option maxRecDepth 20000
def mateN (d:Nat):Nat:=d ^^^ 1
theorem mateN_eq (d:Nat):mateN d=if d%2=0 then d+1 else d - 1:=by
 unfold mateN
 have h1:(d ^^^ 1) / 2=d / 2:=by rw [Nat.xor_div_two];simp
 have h2:(d ^^^ 1)%2=(d%2+1)%2:=by
  have h:=@Nat.xor_mod_two_eq_one d 1
  by_cases hd:d%2=1
  ·have:¬ (d ^^^ 1)%2=1:=fun e=>(h.1 e) (by simp [hd])
   omega
  ·have:(d ^^^ 1)%2=1:=h.2 (by simp [hd])
   omega
 split <;> omega
def mateL (n:Nat):List Nat:=(List.range n).map mateN
theorem mateL_len (n:Nat):(mateL n).length=n:=by simp [mateL]
theorem mateL_get (n i:Nat) (h:i < n):(mateL n).getD i 0=mateN i:=by simp [mateL,List.getD_eq_getElem?_getD,h]
theorem mateN_lt {n i:Nat} (he:n%2=0) (h:i < n):mateN i < n:=by rw [mateN_eq];split <;> omega
theorem mateN_twice (i:Nat):mateN (mateN i)=i:=by
 rw [mateN_eq (mateN i),mateN_eq i]
 split <;> split <;> omega
theorem mateL_inv {n:Nat} (he:n%2=0):Inv (mateL n) (mateL n):=by
 refine ⟨rfl,fun i hi=>?_,fun i hi=>?_,fun i hi=>?_,fun i hi=>?_⟩ <;> rw [mateL_len] at*<;> rw [mateL_get n i hi]
 ·exact mateN_lt he hi
 ·exact mateN_lt he hi
 ·rw [mateL_get n _ (mateN_lt he hi),mateN_twice]
 ·rw [mateL_get n _ (mateN_lt he hi),mateN_twice]
theorem xor_one_i64 (d:Nat) (h:d < 9223372036854775808):bits .xor .i64 (d:Int) 1=((mateN d:Nat):Int):=by
 have hx:d ^^^ 1 < 2 ^ 63:=Nat.xor_lt_two_pow (by omega) (by decide)
 show IntKind.i64.wrap ((BitVec.ofInt 64 (d:Int) ^^^ BitVec.ofInt 64 ((1:Nat):Int)).toNat:Int)=_
 rw [BitVec.toNat_xor,ofInt_u64 d (by omega),ofInt_u64 1 (by decide),IntKind.wrap_i64]
 unfold mateN
 omega
theorem mate_p (d:Nat) (w:World) (hd:d≤1000000) :
  Calls Tryz.prog 85 #[.int .i64 (d:Int)] w fun e w'=>e=.returned (.int .i64 ((mateN d:Nat):Int))∧w=w':=by
 have hx:=xor_one_i64 d (by omega)
 generalize mateN d=x at *
 go_enter Tryz.func85,Tryz.ntmps85
 go_wp2
 go_ret
 exact ⟨rfl,rfl⟩
def MatesPost (w:World) (n:Nat) (e:Ending) (w':World):Prop:=∃ p,e=.returned (.pointer (some ⟨p,0,none⟩))∧PermAt w' p (mateL n) (mateL n)∧Below w.heap.size w w'
set_option maxHeartbeats 2000000 in
theorem mates_p (n:Nat) (w:World) (hn:n≤1000000) (he:n%2=0) :
  Calls Tryz.prog 52 #[.int .i64 (n:Int)] w (MatesPost w n):=by
 obtain ⟨i0,hi0,hz0,hz1,hz2⟩:=info_parts info_int
 have hmk:=run_make_one (P:=Tryz.prog) 25 3 i0 (.int .i64 0) 8 Tryz.underlying25 hi0 hz0 hz1 hz2 rfl .i64 .i64 n (by omega) (by omega)
 have hown:=own_made w 3 n (.int .i64 0) (by simp only [maxLen];omega)
 have hown2:(w.alloc (.cells (Array.replicate n (.int .i64 0)) 3)).ownsRow w.heap.size 3 1 (.slice (some ⟨w.heap.size,0,none⟩) n n) n (I64 (List.replicate n 0)):=by
  rw [I64_replicate];simpa using hown
 have HOWN:=Lib.hid hown2
 clear hown2
 have HE:=Lib.hid he
 clear hown he
 go_enter Tryz.func52,Tryz.ntmps52
 go_wp2_with fail
 go_loopw [11] (fun i wr=>∃ (k:Nat) (y:List Int),k≤n∧i=.int .i64 (k:Int)∧Hid (∀ j,j < k→y.getD j 0=((mateN j:Nat):Int))∧Hid (wr.ownsRow w.heap.size 3 1 (.slice (some ⟨w.heap.size,0,none⟩) n n) n (I64 y))∧Below w.heap.size w wr) (fun i _=>n - (intOf i).toNat)
 case atStart=>exact ⟨0,_,by omega,rfl,fun j hj=>absurd hj (by omega),HOWN.out,(Below.refl _ _).alloc (Nat.le_refl _) _⟩
 case round =>
  obtain ⟨k,y,hk,rfl,hy,how,hbl⟩:=hrel
  by_cases hlt:k < n
  ·have MT:=Lib.hid (mate_p k wr (by omega))
   have t1:=own_cellI how.out k hlt
   have f1:=how.out.frozenAt k
   have OS:=Lib.hid (own_setI how.out k ((mateN k:Nat):Int))
   have HY:Hid (∀ j,j < k+1→(y.set k ((mateN k:Nat):Int)).getD j 0=((mateN j:Nat):Int)):=fun j hj=>by
    rw [getDI_set _ _ _ _ (by rw [own_lenI how.out];exact hlt)]
    split
    ·rename_i e;rw [e]
    ·exact hy.out j (by omega)
   generalize y.set k ((mateN k:Nat):Int)=y2 at *
   generalize mateN k=mk at *
   generalize y.getD k 0=yk at *
   go_wp2_with fail
   refine MT.out.mono ?_
   rintro e w2 ⟨rfl,rfl⟩
   go_wp2_with fail
   go_roundw
   case rel=>exact ⟨k+1,y2,by omega,by go_num,HY.out,OS.out,hbl.setCell (Nat.le_refl _) _⟩
   case measure=>simp [intOf];omega
  ·obtain rfl:k=n:=by omega
   have hyl:=own_lenI how.out
   have hyy:y=ofN (mateL k):=getDI_ext (by rw [hyl,ofN_len,mateL_len]) fun j hj=>by
    rw [hyl] at hj
    rw [hy.out j hj,ofN_get,mateL_get k j hj]
   rw [hyy] at how
   have OF:=Lib.hid (of_p (some ⟨w.heap.size,0,none⟩) k k _ (ofN (mateL k)) wr (Rd.ofOwn how.out) hn)
   have HI:=Lib.hid (mateL_inv HE.out)
   clear hyy hyl hy how
   go_wp2_with fail
   refine OF.out.mono ?_
   rintro e w3 ⟨hc,hb3⟩
   rcases hc with ⟨g,l',b',hl',rfl,hp,_⟩ | ⟨hng,_⟩
   ·have hlm:=ofN_inj hl'
    subst hlm
    have hbb:=hp.1.unique HI.out
    rw [hbb] at hp
    have HP:=Lib.hid hp
    have HB3:=Lib.hid hb3
    clear hp hb3 hbb hl' OF
    go_wp2_with fail
    go_ret
    exact ⟨g,rfl,HP.out,hbl.trans (HB3.out.mono hbl.size)⟩
   ·exact absurd HI.out.good hng
end Go.Proofs.YtijbdnhlpbcabaaGreatDoor
namespace Go.Proofs.YtijbdnhlpbcabaaGreatDoor
set_option maxRecDepth 20000
def RootOk (root:Int) (n:Nat):Prop:=(n=0∧root=-1)∨(0 < n∧0≤root∧root < (n:Int))
instance (root:Int) (n:Nat):Decidable (RootOk root n):=by unfold RootOk;exact inferInstance
theorem isRoot_p (root:Int) (n:Nat) (w:World) (hn:n≤1000000) :
  Calls Tryz.prog 50 #[.int .i64 root,.int .i64 (n:Int)] w fun e w'=>e=.returned (.bool (decide (RootOk root n)))∧w=w':=by
 rcases Nat.eq_zero_or_pos n with h0 | h0
 ·subst h0
  have hd:decide (RootOk root 0)=(root == -1):=by
   rw [Bool.eq_iff_iff,decide_eq_true_iff,beq_iff_eq]
   unfold RootOk
   constructor
   ·rintro (⟨_,h⟩ | ⟨h,_⟩)
    ·exact h
    ·omega
   ·intro h;exact .inl ⟨rfl,h⟩
  rw [hd]
  clear hd
  go_enter Tryz.func50,Tryz.ntmps50
  go_wp2
  go_ret
  exact ⟨rfl,rfl⟩
 ·have hne:((n:Int) == 0)=false:=by rw [beq_eq_false_iff_ne];omega
  by_cases h1:0≤root
  ·have hd:decide (RootOk root n)=decide (root < (n:Int)):=by
    rw [decide_eq_decide]
    unfold RootOk
    constructor
    ·rintro (⟨h,_⟩ | ⟨_,_,h⟩)
     ·omega
     ·exact h
    ·intro h;exact .inr ⟨h0,h1,h⟩
   rw [hd]
   clear hd
   go_enter Tryz.func50,Tryz.ntmps50
   go_wp2
   go_ret
   exact ⟨rfl,rfl⟩
  ·have hd:decide (RootOk root n)=false:=by
    rw [decide_eq_false_iff_not]
    unfold RootOk
    rintro (⟨h,_⟩ | ⟨_,h,_⟩) <;> omega
   rw [hd]
   clear hd
   go_enter Tryz.func50,Tryz.ntmps50
   go_wp2
   go_ret
   exact ⟨rfl,rfl⟩
def phiL (l:List Nat):List Nat:=comp (mateL l.length) l
def phiB (l b:List Nat):List Nat:=comp b (mateL l.length)
theorem phi_inv {l b:List Nat} (h:Inv l b) (he:l.length%2=0):Inv (phiL l) (phiB l b):=comp_inv (mateL_inv he) h (mateL_len _)
theorem phiL_len (l:List Nat):(phiL l).length=l.length:=by unfold phiL;rw [comp_len,mateL_len]
def MapAt (w:World) (g:Nat) (l b:List Nat) (root lone:Int):Prop :=
 (l.length%2=0∧0≤lone∧lone≤65536)∧l.length≤131072∧∃ p A c S d q A' c' S' d',Blk w g 81 #[.pointer (some ⟨p,0,none⟩),.slice A l.length c,.slice S (sizes l).length d,.pointer (some ⟨q,0,none⟩),.slice A' l.length c',.slice S' (sizes (phiL l)).length d',.int .i64 root,.int .i64 lone] ∧
   PermAt w p l b∧PermAt w q (phiL l) (phiB l b)∧Rd w w.heap.size A l.length (I64 (ofN (names l)))∧Rd w w.heap.size S (sizes l).length (I64 (ofN (sizes l))) ∧
   Rd w w.heap.size A' l.length (I64 (ofN (names (phiL l))))∧Rd w w.heap.size S' (sizes (phiL l)).length (I64 (ofN (sizes (phiL l))))
theorem MapAt.below {w w':World} {g:Nat} {l b:List Nat} {root lone:Int} (h:MapAt w g l b root lone) (m:Below w.heap.size w w'):MapAt w' g l b root lone:=by
 obtain ⟨h1,h2,p,A,c,S,d,q,A',c',S',d',hb,hp,hq,r1,r2,r3,r4⟩:=h
 exact ⟨h1,h2,p,A,c,S,d,q,A',c',S',d',hb.below m,hp.below m,hq.below m,r1.more m,r2.more m,r3.more m,r4.more m⟩
def MapLo (lo:Nat) (w:World) (g:Nat):Prop :=
 ∃ p A n c S k d q A' n' c' S' k' d' rt ln,Blk w g 81 #[.pointer (some ⟨p,0,none⟩),.slice A n c,.slice S k d,.pointer (some ⟨q,0,none⟩),.slice A' n' c',.slice S' k' d',rt,ln] ∧
  lo≤g∧PermLo lo w p∧PermLo lo w q∧inLo lo A∧inLo lo S∧inLo lo A'∧inLo lo S'
theorem PermLo.below {lo:Nat} {w w':World} {g:Nat} (h:PermLo lo w g) (m:Below w.heap.size w w'):PermLo lo w' g:=by
 obtain ⟨A,n,c,A',n',c',hb,h1,h2,h3⟩:=h
 exact ⟨A,n,c,A',n',c',hb.below m,h1,h2,h3⟩
theorem PermLo.le {lo lo':Nat} {w:World} {g:Nat} (h:PermLo lo w g) (k:lo'≤lo):PermLo lo' w g:=by
 obtain ⟨A,n,c,A',n',c',hb,h1,h2,h3⟩:=h
 exact ⟨A,n,c,A',n',c',hb,Nat.le_trans k h1,fun a e=>Nat.le_trans k (h2 a e),fun a e=>Nat.le_trans k (h3 a e)⟩
def NewMap (w:World) (l b:List Nat) (root lone:Int) (e:Ending) (w':World):Prop :=
 ∃ g,e=.returned (.tuple #[.pointer (some ⟨g,0,none⟩),.int .i64 0])∧MapAt w' g l b root lone∧Below w.heap.size w w'∧MapLo w.heap.size w' g
set_option maxHeartbeats 4000000 in
theorem new_ok (A:Option Addr) (n c:Nat) (l b:List Nat) (root lone:Int) (w:World) (h:Rd w w.heap.size A n (I64 (ofN l))) (hinv:Inv l b) (he:n%2=0) (hn:n≤131072) (hr:RootOk root n) (hl0:0≤lone) (hl1:lone≤65536) :
  Calls Tryz.prog 12 #[.slice A n c,.int .i64 root,.int .i64 lone] w (NewMap w l b root lone):=by
 have hl:l.length=n:=by rw [← ofN_len,← I64_len,h.len]
 have OF:=Lib.hid (of_p A n c _ (ofN l) w h (by omega))
 have HI:=Lib.hid hinv
 have HL:=Lib.hid hl
 have HE:=Lib.hid he
 have IR:Hid (∀ w',Calls Tryz.prog 50 #[.int .i64 root,.int .i64 (n:Int)] w' fun e w''=>e=.returned (.bool true)∧w'=w''):=fun w'=>by
  have:=isRoot_p root n w' (by omega)
  rwa [decide_eq_true hr] at this
 have he2:(n:Int)%2=0:=by omega
 have hlo:¬ lone < 0:=by omega
 have hn2:¬ (65536:Int) < (n:Int) / 2:=by omega
 have hl2:¬ (65536:Int) < lone:=by omega
 have HLO:Hid (0≤lone∧lone≤65536):=⟨hl0,hl1⟩
 clear h hinv hl he hr hl0 hl1
 go_enter Tryz.func12,Tryz.ntmps12
 go_wp2_with fail
 refine OF.out.mono ?_
 rintro e w1 ⟨hc,b1⟩
 rcases hc with ⟨gp,l',b',hl',rfl,hp,hplo⟩ | ⟨hng,_⟩
 ·have hlm:=ofN_inj hl'
  subst hlm
  have hbb:=hp.1.unique HI.out
  rw [hbb] at hp
  have HP1:=Lib.hid hp
  have B1:=Lib.hid b1
  have PLO:=Lib.hid hplo
  clear hp b1 hbb hl' OF hplo
  go_wp2_with fail
  refine (IR.out _).mono ?_
  rintro e w2 ⟨rfl,rfl⟩
  have MT:=Lib.hid (mates_p n w1 (by omega) HE.out)
  go_wp2_with fail
  refine MT.out.mono ?_
  rintro e w2 ⟨gm,rfl,hp2,b2⟩
  have PLO2:=Lib.hid (PLO.out.below b2)
  have TH:=Lib.hid (then_lo gm gp _ _ _ _ w2 hp2 (HP1.out.below b2) (by rw [mateL_len,HL.out]))
  have HP2:=HP1.out.below b2
  have B2:Hid (Below w.heap.size w w2):=B1.out.trans (b2.mono B1.out.size)
  have HPP:=Lib.hid HP2
  clear hp2 b2 HP1 HP2 MT B1 PLO
  go_wp2_with fail
  refine TH.out.mono ?_
  rintro e w3 ⟨gq,rfl,hq3,hqlo,b3⟩
  have PLO3:=Lib.hid (PLO2.out.below b3)
  have QLO3:=Lib.hid (hqlo.le B2.out.size)
  clear hqlo PLO2
  have hq3':PermAt w3 gq (phiL l) (phiB l b):=by unfold phiL phiB;rw [HL.out];exact hq3
  have HQ3:=Lib.hid hq3'
  have HP3:=Lib.hid (HPP.out.below b3)
  have B3:Hid (Below w.heap.size w w3):=B2.out.trans (b3.mono B2.out.size)
  clear hq3 hq3' b3 TH HPP B2
  have ND1:=Lib.hid (named_p gp l b w3 HP3.out)
  go_wp2_with fail
  refine ND1.out.mono ?_
  rintro e w4 ⟨v1,rfl,hv1,b4⟩
  have ND2:=Lib.hid (named_p gq _ _ w4 (HQ3.out.below b4))
  have B4:Hid (Below w.heap.size w w4):=B3.out.trans (b4.mono B3.out.size)
  have HV1:=Lib.hid hv1
  have PLO4:=Lib.hid (PLO3.out.below b4)
  have QLO4:=Lib.hid (QLO3.out.below b4)
  have hs3:=B3.out.size
  have hs4:=B4.out.size
  clear hv1 b4 ND1 B3 HP3 HQ3 PLO3 QLO3
  go_wp2_with fail
  refine ND2.out.mono ?_
  rintro e w5 ⟨v2,rfl,hv2,b5⟩
  obtain ⟨hpp,A1,c1,S1,d1,i1,i2,rfl,r1,r2⟩:=HV1.out
  obtain ⟨hpq,A2,c2,S2,d2,i3,i4,rfl,r3,r4⟩:=hv2
  have I1:=Lib.hid (i1.le hs3)
  have I2:=Lib.hid (i2.le hs3)
  have I3:=Lib.hid (i3.le hs4)
  have I4:=Lib.hid (i4.le hs4)
  have PLO5:=Lib.hid (PLO4.out.below b5)
  have QLO5:=Lib.hid (QLO4.out.below b5)
  clear i1 i2 i3 i4 PLO4 QLO4
  have hpp5:=hpp.below b5
  have r15:=r1.more b5
  have r25:=r2.more b5
  have B5:Hid (Below w.heap.size w w5):=B4.out.trans (b5.mono B4.out.size)
  have H1:=Lib.hid hpp5
  have H2:=Lib.hid hpq
  have R1:=Lib.hid r15
  have R2:=Lib.hid r25
  have R3:=Lib.hid r3
  have R4:=Lib.hid r4
  clear hpp r1 r2 r3 r4 b5 HV1 ND2 hpp5 hpq r15 r25 B4
  go_wp2_with fail
  go_ret2
  rw [phiL_len] at R3
  have hb:=(Below.refl w5.heap.size w5).alloc (Nat.le_refl _) (.cells #[.pointer (some ⟨gp,0,none⟩),.slice A1 l.length c1,.slice S1 (sizes l).length d1,.pointer (some ⟨gq,0,none⟩),.slice A2 (phiL l).length c2,.slice S2 (sizes (phiL l)).length d2,.int .i64 root,.int .i64 lone] 81)
  refine ⟨w5.heap.size,rfl,⟨⟨by rw [HL.out];exact HE.out,HLO.out.1,HLO.out.2⟩,by rw [HL.out];exact hn,gp,A1,c1,S1,d1,gq,A2,c2,S2,d2,?_,H1.out.below hb,H2.out.below hb,R1.out.more hb,R2.out.more hb,R3.out.more hb,R4.out.more hb⟩,B5.out.trans (hb.mono B5.out.size),⟨gp,A1,_,c1,S1,_,d1,gq,A2,_,c2,S2,_,d2,_,_,Blk.new w5 _ _,B5.out.size,PLO5.out.below hb,QLO5.out.below hb,I1.out,I2.out,I3.out,I4.out⟩⟩
  have:=Blk.new w5 81 #[.pointer (some ⟨gp,0,none⟩),.slice A1 l.length c1,.slice S1 (sizes l).length d1,.pointer (some ⟨gq,0,none⟩),.slice A2 (phiL l).length c2,.slice S2 (sizes (phiL l)).length d2,.int .i64 root,.int .i64 lone]
  rw [phiL_len] at this
  rw [phiL_len]
  exact this
 ·exact absurd HI.out.good hng
end Go.Proofs.YtijbdnhlpbcabaaGreatDoor
namespace Go.Proofs.YtijbdnhlpbcabaaGreatDoor
set_option maxRecDepth 20000
theorem fld0 (a b c:Value) (W:World):(Instr.field 78 (.agg #[a,b,c]) 0).run Tryz.prog W=.ok a W:=by
 simp [Instr.field,run_underlying Tryz.underlying78,run_underlying Tryz.underlying41,asAgg,Go.part,isAgg]
theorem fld2 (a b c:Value) (W:World):(Instr.field 78 (.agg #[a,b,c]) 2).run Tryz.prog W=.ok c W:=by
 simp [Instr.field,run_underlying Tryz.underlying78,run_underlying Tryz.underlying25,asAgg,Go.part,isAgg]
end Go.Proofs.YtijbdnhlpbcabaaGreatDoor
