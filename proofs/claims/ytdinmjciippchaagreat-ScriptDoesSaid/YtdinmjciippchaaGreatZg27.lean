/- The walk of a part by the places of its darts: mathematics. -/
import Derived.Test.YtdinmjciippchaaGreatZg25
import Derived.Test.YtdinmjciippchaaGreatZg26
import Derived.Test.YtdinmjciippchaaGreatZg2
import Derived.Deep.DeepCutAuto
import Derived.Deep.RegionHeld3
import Derived.Test.YtdinmjciippchaaGreatZg9
import Derived.Test.YtdinmjciippchaaGreatZg5
import Derived.Deep.RegionWith
open Go.RowKit
set_option linter.unusedVariables false
set_option linter.unusedSimpArgs false
namespace Go.Proofs.YtdinmjciippchaaGreat
set_option maxRecDepth 20000
theorem pf_invC {l:List Nat} (h:PF l.length (sgL l)):∃ b,Inv l b:=by
 apply good_inv
 intro i hi
 rw [ofN_len] at hi
 rw [ofN_get,ofN_len]
 have:=h.lt i hi
 refine ⟨by omega,by unfold sgL at this;omega,fun j hj c=>?_⟩
 rw [ofN_get] at c
 have:=h.inj j i (by omega) hi (by unfold sgL;omega)
 omega
def alN (l D pl:List Nat):List Nat:=D.map fun d=>sgL pl (sgL l d)
section
variable {l b D pl:List Nat} {r:Nat}
theorem alN_len:(alN l D pl).length=D.length:=by simp [alN]
theorem alN_get {i:Nat} (hi:i < D.length):sgL (alN l D pl) i=sgL pl (sgL l (sgL D i)):=by
 have e:sgL D i=D[i]:=by unfold sgL;rw [List.getD_eq_getElem?_getD,List.getElem?_eq_getElem hi];rfl
 rw [e]
 show (alN l D pl).getD i 0=_
 unfold alN
 rw [List.getD_eq_getElem?_getD,List.getElem?_map,List.getElem?_eq_getElem hi]
 rfl
theorem sgL_mem {i:Nat} (hi:i < D.length):sgL D i∈D:=by
 unfold sgL
 rw [List.getD_eq_getElem?_getD,List.getElem?_eq_getElem hi]
 exact List.getElem_mem hi
theorem mem_sgL {d:Nat} (h:d∈D):∃ i,i < D.length∧sgL D i=d:=by
 obtain ⟨i,hi,e⟩:=List.getElem_of_mem h
 exact ⟨i,hi,by unfold sgL;rw [List.getD_eq_getElem?_getD,List.getElem?_eq_getElem hi];exact e⟩
theorem own_sig (hl:Inv l b) (he:l.length%2=0) (hr:r < l.length) {d:Nat} (hd:d∈own l r):sgL l d∈own l r:=by
 rw [own_mem] at hd ⊢
 exact ⟨hl.lt _ hd.1,(part_eqv hl he).trans _ _ _ hr hd.1 (hl.lt _ hd.1) hd.2 (gk_sig (sgL_pf hl) _ _)⟩
theorem own_self (hl:Inv l b) (he:l.length%2=0) (hr:r < l.length):r∈own l r:=by
 rw [own_mem]
 exact ⟨hr,(part_eqv hl he).refl _ hr⟩
theorem al_walk (hl:Inv l b) (he:l.length%2=0) (hr:r < l.length) (hD:D=own l r) (hp:∀ i,i < D.length→sgL pl (sgL D i)=i) :
  (alN l D pl).length%2=0∧(∃ B,Inv (alN l D pl) B)∧sgL pl r < D.length∧sgL D (sgL pl r)=r∧(wlk (alN l D pl) (sgL pl r)).map (sgL D)=wlk l r∧(∀ j∈wlk (alN l D pl) (sgL pl r),j < D.length):=by
 have st:∀ i,i < D.length→∃ j,j < D.length∧sgL D j=sgL l (sgL D i):=fun i hi=>by
  refine mem_sgL ?_
  rw [hD]
  exact own_sig hl he hr (by rw [← hD];exact sgL_mem hi)
 have sg:∀ i,i < D.length→sgL (alN l D pl) i < D.length∧sgL D (sgL (alN l D pl) i)=sgL l (sgL D i):=fun i hi=>by
  obtain ⟨j,hj,e⟩:=st i hi
  rw [alN_get hi,← e,hp j hj]
  exact ⟨hj,rfl⟩
 have L:Lies l (alN l D pl) (sgL D):=by
  have:=own_lies (A:=alN l D pl) hl he hr (by rw [alN_len,hD]) (fun i hi=>by
   rw [alN_len] at hi
   rw [← hD];exact (sg i hi).2)
  rw [← hD] at this
  exact this
 obtain ⟨k,hk,e⟩:=mem_sgL (show r∈D by rw [hD];exact own_self hl he hr)
 have hkr:sgL pl r=k:=by rw [← e,hp k hk]
 obtain ⟨B,hB⟩:=pf_invC (l:=alN l D pl) (lies_pf L hl fun i hi=>by rw [alN_len] at hi ⊢;exact (sg i hi).1)
 have ev:=L.inc.ev
 have hk':k < (alN l D pl).length:=by rw [alN_len];exact hk
 rw [hkr]
 refine ⟨by omega,⟨B,hB⟩,hk,e,?_,fun j hj=>?_⟩
 ·have:=L.walk hB hl he hk'
  rwa [e] at this
 ·have:=wlk_lt hB (by omega) hk' j hj
  rwa [alN_len] at this
end
set_option maxRecDepth 100000
theorem own_someS {w:World} {base:Nat} {e:TypeId} {size:Nat} {A:Option Addr} {n m c:Nat} {xs:List Value} (h:w.ownsRow base e size (.slice A m c) n xs) (hn:0 < n):∃ g,A=some ⟨g,0,none⟩∧base≤g∧g < w.heap.size:=by
 rcases h.2 with ⟨_,h0⟩ | ⟨g,cap,cur,hv,hb,hg,_⟩
 ·omega
 ·simp only [Value.slice.injEq] at hv
  exact ⟨g,hv.1,hb,(Array.getElem?_eq_some_iff.1 hg).1⟩
set_option maxHeartbeats 8000000 in
theorem cparts_p (g:Nat) (l b:List Nat) (r:Nat) (lone:Int) (w:World) (h:MapAt w g l b (r:Int) lone) (hi:Inv l b) (hr:r < l.length) :
  Calls Tryz.prog 119 #[.pointer (some ⟨g,0,none⟩)] w (PartsPost w l r):=by
 have EN:=Lib.hid (enames_p g l b (r:Int) lone w h)
 have HM:Hid (∀ w',Below w.heap.size w w'→MapAt w' g l b (r:Int) lone):=fun w' m=>h.below m
 have hle:=h.2.1
 have HI:=Lib.hid hi
 have HEV:Hid (l.length%2=0):=h.1.1
 obtain ⟨i0,hi0,hz0,hz1,hz2⟩:=info_parts info_cpart
 obtain ⟨n,hn⟩:∃ n,n=l.length:=⟨_,rfl⟩
 have hel:(ofN (enames l)).length=n:=by rw [ofN_len,enames_len,hn]
 rw [← hn] at hle hr
 have HN:=Lib.hid hn
 clear h hi hn
 go_enter Tryz.func119,Tryz.ntmps119
 go_wp2_with fail
 refine EN.out.mono ?_
 rintro e w1 ⟨A1,c1,rfl,_,_,o1,b1⟩
 rw [hel] at o1 ⊢
 have B1:=Lib.hid b1
 have O1:=Lib.hid o1
 have PR0:Hid (PRow w1 w.heap.size none 0 []):=⟨World.ownsRow_nil _ _ _ _,fun j hj=>absurd hj (by simp),fun i j hi=>absurd hi (by simp)⟩
 have PK0:Hid (PK l 0 []):=⟨by simp [LL],fun j hj=>absurd hj (by simp)⟩
 clear EN hel b1 o1
 go_wp2_with fail
 go_loopw [3,13] (fun v x wr=>∃ (k:Nat) (A:Option Addr) (c:Nat) (ps:List PEl),k≤n∧ps.length≤k∧v=.slice A ps.length c∧x=.int .i64 (k:Int)∧Hid (PK l k ps)∧Hid (PRow wr w.heap.size A c ps)∧Hid (wr.ownsRow w.heap.size 3 1 (.slice A1 n c1) n (I64 (ofN (enames l)))) ∧
  Hid (∀ j,j < ps.length→∀ q,(Value.slice A1 n c1).ownBlock=some q→(ps.getD j pE0).2.1.ownBlock≠some q)∧Hid (Below w.heap.size w wr)) (fun _ x _=>n - (intOf x).toNat)
 case atStart=>exact ⟨0,none,0,[],Nat.zero_le _,by simp,rfl,rfl,PK0,PR0,O1,fun j hj=>absurd hj (by simp),B1⟩
 case round =>
  clear PK0 PR0 O1 B1
  obtain ⟨k,A,c,ps,hk,hpl,rfl,rfl,PKk,PR,ON,SEP,BB⟩:=hrel
  by_cases hlt:k < n
  ·have hdk:decide (k < n)=true:=decide_eq_true hlt
   obtain ⟨gN,rfl,_⟩:=own_some ON.out (by omega)
   have cN:=own_cellI ON.out k hlt
   rw [ofN_get,enames_get l (by rw [← HN.out];exact hlt)] at cN
   obtain ⟨q,hq⟩:∃ q,q=pq l k:=⟨_,rfl⟩
   rw [← hq] at cN
   have HQ:=Lib.hid hq
   have IS:=Lib.hid (PKk.out.is_ HI.out (by have:=HEV.out;exact this) (show k < l.length by rw [← HN.out];exact hlt))
   obtain ⟨K,hK⟩:∃ K,K=ps.length:=⟨_,rfl⟩
   rw [← hK] at hpl ⊢
   have HK:=Lib.hid hK
   clear hq hK
   have FIN:Hid (∀ (ps':List PEl) (c':Nat) (g':Nat) (W:World),ps'.map (fun p=>p.1)=LL l (k+1)→(∀ j,j < ps'.length→(ps'.getD j pE0).2.2=DJ l j k)→q < ps'.length→PRow W w.heap.size (some ⟨g',0,none⟩) c' ps'→W.ownsRow w.heap.size 3 1 (.slice (some ⟨gN,0,none⟩) n c1) n (I64 (ofN (enames l)))→(∀ j,j < ps'.length→∀ x,(Value.slice (some ⟨gN,0,none⟩) n c1).ownBlock=some x→(ps'.getD j pE0).2.1.ownBlock≠some x)→Below w.heap.size w W →
     ∃ (nd:Nat) (A5:Option Addr) (cj:Nat) (A6:Option Addr) (c6:Nat) (W2 W3:World),nd≤131072∧W.cell? ⟨g',q*2+1,none⟩=some (.slice A5 nd cj)∧(Builtin.append_ #[26,26] 26 #[.slice A5 nd cj,.slice (some ⟨W.heap.size,0,none⟩) 1 1]).run Tryz.prog (W.alloc (.cells #[.int .i64 (k:Int)] 3))=.ok (.slice A6 (nd+1) c6) W2∧W2.cell? ⟨g',q*2+1,none⟩=some (.slice A5 nd cj)∧W2.frozen? ⟨g',q*2+1,none⟩=false∧W3=W2.setCell ⟨g',q*2+1,none⟩ (.slice A6 (nd+1) c6) ∧
      ∃ ps2:List PEl,ps2.length=ps'.length∧PK l (k+1) ps2∧PRow W3 w.heap.size (some ⟨g',0,none⟩) c' ps2∧W3.ownsRow w.heap.size 3 1 (.slice (some ⟨gN,0,none⟩) n c1) n (I64 (ofN (enames l)))∧(∀ j,j < ps2.length→∀ x,(Value.slice (some ⟨gN,0,none⟩) n c1).ownBlock=some x→(ps2.getD j pE0).2.1.ownBlock≠some x)∧Below w.heap.size w W3):=fun ps' c' g' W hf hd hq PR' ON' SEP' B'=>by
    have dl:(ps'.getD q pE0).2.2.length≤131072:=by
     rw [hd q hq];unfold DJ
     have:=List.length_filter_le (fun d=>decide (pq l d=q)) (List.range k)
     rw [List.length_range] at this;omega
    obtain ⟨A5,cj,A6,c6,W2,e5,hrun,hcell,hfz,PR6,B6,M6,N6⟩:=PR'.grow B'.size (j:=q) (d:=k) hq (by omega)
    have c0:=PR'.own.cellAt (q*2+1) (by omega)
    rw [(pcs_get ps' q hq).2,e5] at c0
    refine ⟨_,A5,cj,A6,c6,W2,_,dl,c0,hrun,hcell,hfz,rfl,_,by rw [List.length_set],PK.put hf hd rfl HQ.out.symm hq _,PR6,own_mod ON' M6 fun x hx e=>?_,fun j hj x hx=>?_,B'.trans B6⟩
    ·rcases e with e | e
     ·exact own_own_neP ON' PR'.own (by decide) hx (by rw [e];simp [Value.ownBlock])
     ·exact SEP' q hq x hx e.symm
    ·rw [List.length_set] at hj
     rw [getD_setR _ _ _ _ _ hq]
     by_cases e:j=q
     ·rw [if_pos e]
      intro c
      rcases N6 x c with n1 | n1
      ·exact SEP' q hq x hx n1
      ·have:=(ON'.lt x hx).2;omega
     ·rw [if_neg e];exact SEP' j hj x hx
   by_cases hls:Least (part l) k
   ·have hqK:q=K:=by rw [HQ.out,HK.out];exact IS.out.1 hls
    subst hqK
    have hal:Below wr.heap.size wr (wr.alloc (.cells #[.int .i64 (k:Int),.slice none 0 0] 122)):=(Below.refl _ _).alloc (Nat.le_refl _) _
    have o2:=own_below PR.out.own hal
    rw [← HK.out] at o2
    have nw:∀ j u,[Value.int .i64 (k:Int),.slice none 0 0][j]?=some u→(wr.alloc (.cells #[.int .i64 (k:Int),.slice none 0 0] 122)).cell? ((⟨wr.heap.size,0,none⟩:Addr).add j)=some u:=fun j u hu=>by
     rw [Addr.add_lit,Nat.zero_add,(Blk.new wr 122 #[.int .i64 (k:Int),.slice none 0 0]).cell]
     simpa using hu
    obtain ⟨v',w2,hrun,hnew,hgr,_,hob⟩:=run_append_own_at (P:=Tryz.prog) (wr.alloc (.cells #[.int .i64 (k:Int),.slice none 0 0] 122)) w.heap.size 119 119 122 i0 (.agg #[.int .i64 0,.slice none 0 0]) 2 32 Tryz.underlying119 hi0 hz0 hz1 hz2 rfl (by omega) _ q _ o2 ⟨wr.heap.size,0,none⟩ 1 1 [.int .i64 (k:Int),.slice none 0 0] rfl nw (by intro u hu;simp at hu;rcases hu with rfl | rfl <;> rfl) (by simp only [maxLen];omega) (by omega) (by have:=BB.out.size;simp;omega)
    obtain ⟨A2,c2,rfl,_,_⟩:=own_form hnew
    obtain ⟨g2,rfl,_⟩:=own_someS hnew (by omega)
    have MG:=Mod.ofGrown hgr
    have PR2:PRow w2 w.heap.size (some ⟨g2,0,none⟩) c2 (ps++[((k,.slice none 0 0,[]):PEl)]):=PR.out.snoc hal (by rw [← HK.out];exact hnew) (by rw [← HK.out];exact hgr)
    have ON2:=own_mod (own_below ON.out hal) MG fun x hx e=>own_own_neP (own_below ON.out hal) o2 (by decide) hx e.symm
    have BB2:=(BB.out.trans (hal.mono BB.out.size)).trans (MG.belowB (by have:=BB.out.size;simp;omega) fun i hi e=>by have:=(o2.lt i e.symm).1;omega)
    have hl9:(ps++[((k,.slice none 0 0,[]):PEl)]).length=q+1:=by rw [List.length_append,← HK.out];rfl
    have SEP2:∀ j,j < (ps++[((k,.slice none 0 0,[]):PEl)]).length→∀ x,(Value.slice (some ⟨gN,0,none⟩) n c1).ownBlock=some x→((ps++[((k,.slice none 0 0,[]):PEl)]).getD j pE0).2.1.ownBlock≠some x:=fun j hj x hx=>by
     by_cases e:j < ps.length
     ·rw [List.getD_eq_getElem?_getD,List.getElem?_append_left e,← List.getD_eq_getElem?_getD];exact SEP.out j e x hx
     ·rw [hl9] at hj
      obtain rfl:j=ps.length:=by have:=HK.out;omega
      simp [List.getD_eq_getElem?_getD,Value.ownBlock]
    obtain ⟨nd,A5,cj,A6,c6,W2,W3,hnd,c0,hrun2,hc2,hf2,hW3,ps2,l2,pk2,pr2,on2,sep2,bb2⟩:=FIN.out (ps++[((k,.slice none 0 0,[]):PEl)]) c2 g2 w2 (by rw [List.map_append,PKk.out.fst,(LL_next l k).1 hls];rfl) (PKk.out.new HI.out HEV.out (by rw [← HN.out];exact hlt) hls) (by rw [hl9];omega) PR2 ON2 SEP2 BB2
    have PK9:=Lib.hid pk2
    have PR9:=Lib.hid pr2
    have ON9:=Lib.hid on2
    have SEP9:=Lib.hid sep2
    have BB9:=Lib.hid bb2
    have HL9:Hid (ps2.length=q+1):=by show _=_;rw [l2,hl9]
    have hqi:(q:Int) < (q:Int)+1:=by omega
    have hnk:n≤131072:=hle
    clear PR2 ON2 BB2 SEP2 hl9 pk2 pr2 on2 sep2 bb2 l2 FIN PKk PR ON SEP BB MG hnew hgr hob nw hal o2 hls IS
    go_upto_region 8 with (first
     | (at_builtin;go_must (refine wpList_append_runR rfl _ _ _ rfl _ _ _ _ rfl rfl hrun ?_)))
    go_wp2_with (first
     | (at_builtin;go_must (refine wpList_append_runR rfl _ _ _ rfl _ _ _ _ rfl rfl hrun2 ?_)))
    go_roundw
    case rel=>exact ⟨k+1,some ⟨g2,0,none⟩,c2,ps2,by omega,by rw [HL9.out];omega,by rw [HL9.out],by go_num,PK9,by rw [← hW3];exact PR9,by rw [← hW3];exact ON9,SEP9,by rw [← hW3];exact BB9⟩
    case measure=>simp [intOf];omega
   ·have hqK:q < K:=by rw [HQ.out,HK.out];exact IS.out.2 hls
    have dq:((q:Int) == (K:Int))=false:=by rw [beq_eq_false_iff_ne];omega
    obtain ⟨g2,rfl,_⟩:=own_someS PR.out.own (by rw [← HK.out];omega)
    obtain ⟨nd,A5,cj,A6,c6,W2,W3,hnd,c0,hrun2,hc2,hf2,hW3,ps2,l2,pk2,pr2,on2,sep2,bb2⟩:=FIN.out ps c g2 wr (by rw [PKk.out.fst,(LL_next l k).2 hls]) PKk.out.dar (by rw [← HK.out];exact hqK) PR.out ON.out SEP.out BB.out
    have PK9:=Lib.hid pk2
    have PR9:=Lib.hid pr2
    have ON9:=Lib.hid on2
    have SEP9:=Lib.hid sep2
    have BB9:=Lib.hid bb2
    have HL9:Hid (ps2.length=K):=by show _=_;rw [l2,HK.out]
    have hqi:(q:Int) < (K:Int):=by omega
    clear pk2 pr2 on2 sep2 bb2 l2 FIN PKk PR ON SEP BB hls IS
    go_wp2_with (first
     | (at_builtin;go_must (refine wpList_append_runR rfl _ _ _ rfl _ _ _ _ rfl rfl hrun2 ?_)))
    go_roundw
    case rel=>exact ⟨k+1,some ⟨g2,0,none⟩,c,ps2,by omega,by rw [HL9.out];omega,by rw [HL9.out],by go_num,PK9,by rw [← hW3];exact PR9,by rw [← hW3];exact ON9,SEP9,by rw [← hW3];exact BB9⟩
    case measure=>simp [intOf];omega
  ·obtain rfl:n=k:=by omega
   have hdk:decide (n < n)=false:=by simp
   have PKn:PK l l.length ps:=by have:=PKk.out;rw [HN.out] at this;exact this
   obtain ⟨q,hq⟩:∃ q,q=pq l r:=⟨_,rfl⟩
   have PD:=Lib.hid (fun v=>PKn.done HI.out HEV.out (r:=r) (by rw [← HN.out];exact hr) hq v)
   have hqL:q < ps.length:=(PD.out (.bool false)).1
   obtain ⟨K,hK⟩:∃ K,ps.length=K+1:=⟨ps.length - 1,by omega⟩
   obtain ⟨gA,rfl,hgA,hgA2⟩:=own_someS PR.out.own (by omega)
   obtain ⟨gN,rfl,_⟩:=own_some ON.out (by omega)
   have cN:=own_cellI ON.out r hr
   rw [ofN_get,enames_get l (by rw [← HN.out];exact hr),← hq] at cN
   have cF:=PR.out.own.cellAt (q*2) (by omega)
   have cV:=PR.out.own.cellAt (q*2+1) (by omega)
   rw [(pcs_get ps q hqL).1] at cF
   rw [(pcs_get ps q hqL).2] at cV
   obtain ⟨⟨Av,cv,ev⟩,_⟩:=PR.out.inn q hqL
   obtain ⟨f,hf⟩:∃ f,f=(ps.getD q pE0).1:=⟨_,rfl⟩
   obtain ⟨nd,hnd⟩:∃ nd,nd=(ps.getD q pE0).2.2.length:=⟨_,rfl⟩
   rw [← hnd] at ev
   rw [← hf] at cF
   rw [ev] at cV
   have HVV:=Lib.hid ev
   have HND:=Lib.hid hnd
   have HNE:Hid (∀ j,j < ps.length→(ps.getD j pE0).2.1.ownBlock≠some gA):=fun j hj c=>own_own_neP (PR.out.inn j hj).2 PR.out.own (by decide) c (by simp [Value.ownBlock])
   have INN:Hid (∀ W,Below wr.heap.size wr W→∀ j,j < ps.length→W.ownsRow w.heap.size 3 1 (ps.getD j pE0).2.1 (ps.getD j pE0).2.2.length (I64 (ofN (ps.getD j pE0).2.2))):=fun W m j hj=>own_below (PR.out.inn j hj).2 m
   have FORM:Hid (∀ j,j < ps.length→∃ A' c',(ps.getD j pE0).2.1=.slice A' (ps.getD j pE0).2.2.length c'):=fun j hj=>(PR.out.inn j hj).1
   have OUT:Hid (∀ W,Below wr.heap.size wr W→W.ownsRow w.heap.size 122 2 (.slice (some ⟨gA,0,none⟩) (K+1) c) (K+1) (pcs ps)):=fun W m=>by
    have:=own_below PR.out.own m
    rwa [hK] at this
   have ONE:=Lib.hid PR.out.one
   have RT:Hid (∀ W,Below wr.heap.size wr W→Calls Tryz.prog 12 #[.pointer (some ⟨g,0,none⟩)] W fun e w'=>e=.returned (.int .i64 (r:Int))∧W=w'):=fun W m=>root_p g l b (r:Int) lone W (HM.out W (BB.out.trans (m.mono BB.out.size)))
   have hqn:q≤131072:=by omega
   have wq:IntKind.i64.wrap ((q:Int)+1)=(q:Int)+1:=by simp [IntKind.wrap,IntKind.signed,IntKind.bits];omega
   have hKn:K≤131072:=by omega
   have DEL:Hid (∀ W,Below wr.heap.size wr W→Calls Tryz.prog 125 #[.slice (some ⟨gA,0,none⟩) (K+1) c,.int .i64 (q:Int),.int .i64 ((q:Int)+1)] W (DelPost W w.heap.size gA K c (pcs (ps.take q++ps.drop (q+1))))):=fun W m=>by
    have:=cdelete_p W w.heap.size gA K c q (pcs ps) (OUT.out W m) (by omega) ONE.out (by omega)
    rw [pcs_take,show 2*q+2=2*(q+1) by omega,pcs_drop,← pcs_app] at this
    have e:(((q+1:Nat):Int))=(q:Int)+1:=by omega
    rwa [e] at this
   have ONE2:Hid (∀ x∈pcs (ps.take q++ps.drop (q+1)),x.oneCell'=true):=fun x hx=>by
    rw [pcs_app] at hx
    rcases List.mem_append.1 hx with h1 | h1
    ·rw [← pcs_take] at h1;exact ONE.out x (List.mem_of_mem_take h1)
    ·rw [← pcs_drop] at h1;exact ONE.out x (List.mem_of_mem_drop h1)
   have INS:Hid (∀ (W:World) (vb:Nat),W.ownsRow w.heap.size 122 2 (.slice (some ⟨gA,0,none⟩) K c) K (pcs (ps.take q++ps.drop (q+1)))→Blk W vb 122 #[.int .i64 (r:Int),.slice Av nd cv]→vb≠gA→Calls Tryz.prog 124 #[.slice (some ⟨gA,0,none⟩) K c,.int .i64 0,.slice (some ⟨vb,0,none⟩) 1 1] W (DelPost W w.heap.size gA (K+1) c (pcs ((r,.slice Av nd cv,(ps.getD q pE0).2.2) :: (ps.take q++ps.drop (q+1)))))):=fun W vb ho hb hne =>
    cinsert_p W w.heap.size gA K c vb _ _ _ ho (by have:=PR.out.own;rw [hK] at this;obtain ⟨_,_,_,h3,_⟩:=own_open this;exact h3) ONE2.out (by omega) hb rfl rfl hne
   have HK:=Lib.hid hK
   have HQL:=Lib.hid hqL
   have BW:Hid (Below w.heap.size w wr):=BB.out
   have hri:(r:Int) < (n:Int):=by omega
   have hqi:(q:Int) < (K:Int)+1:=by omega
   have hk0:((K:Int)+1 == 0)=false:=by rw [beq_eq_false_iff_ne];omega
   have Z0:=Below.refl wr.heap.size wr
   have hgX:gA < wr.heap.size:=hgA2
   rw [hK]
   clear PKk PKn PR ON SEP BB hf ev hnd hq hK hpl hk hlt hle HEV HI HN HM
   go_wp2_with fail
   refine (RT.out _ Z0).mono ?_
   rintro e w' ⟨rfl,rfl⟩
   have Z1:Hid (Below wr.heap.size wr (wr.alloc (.cells #[.int .i64 (f:Int),.slice Av nd cv] 122))):=Z0.alloc Z0.size _
   have bx1:=Blk.new wr 122 #[.int .i64 (f:Int),.slice Av nd cv]
   have x0:=bx1.cell 0
   have fx0:=bx1.frozen 0
   simp at x0
   go_wp2_with fail
   refine (RT.out _ Z1.out).mono ?_
   rintro e w' ⟨rfl,rfl⟩
   clear bx1 x0 fx0 Z1
   go_wp2_with fail
   have Z5:Hid (Below wr.heap.size wr (wr.alloc (.cells #[.int .i64 (r:Int),.slice Av nd cv] 122))):=Z0.alloc Z0.size _
   have bx5:Hid (Blk (wr.alloc (.cells #[.int .i64 (r:Int),.slice Av nd cv] 122)) wr.heap.size 122 #[.int .i64 (r:Int),.slice Av nd cv]):=Blk.new wr 122 #[.int .i64 (r:Int),.slice Av nd cv]
   have HGX:Hid (wr.heap.size≠gA):=by show _≠_;omega
   have WR0:=Lib.hid Z0
   have HW0:Hid (w.heap.size≤gA):=hgA
   clear Z0 cF cV cN hgA hgA2 RT
   generalize (wr.alloc (.cells #[.int .i64 (r:Int),.slice Av nd cv] 122))=w5 at *
   have hA:Below wr.heap.size wr w5.drew:=Z5.out.drew
   have hB:Below wr.heap.size wr (w5.alloc (.cells #[.int .i64 (r:Int),.slice Av nd cv] 122)).drew:=(Z5.out.alloc Z5.out.size _).drew
   have z0:=bx5.out.cell 0
   have z1:=bx5.out.cell 1
   simp at z0 z1
   have HSZ:Hid (gA < w5.heap.size):=by have:=Z5.out.size;show _ < _;omega
   go_region_with (first
    | (go_at_call 125;(with_reducible refine (DEL.out _ hA).mono ?_);rintro en w8 ⟨rfl,d8,m8⟩;
       have xb:Blk w8 wr.heap.size 122 #[.int .i64 (r:Int),.slice Av nd cv]:=(bx5.out.drewN 1).mod m8 HGX.out;
       have y0:=xb.cell 0;have y1:=xb.cell 1;simp at y0 y1;
       have al:Below w8.heap.size w8 (w8.alloc (.cells #[.int .i64 (r:Int),.slice Av nd cv] 122)):=(Below.refl _ _).alloc (Nat.le_refl _) _;
       have hs8:=m8.size;
       have INSA:=Lib.hid (INS.out (w8.alloc (.cells #[.int .i64 (r:Int),.slice Av nd cv] 122)) w8.heap.size (own_below d8 al) (Blk.new w8 122 #[.int .i64 (r:Int),.slice Av nd cv]) (by have:=HSZ.out;have e:w5.drew.heap.size=w5.heap.size:=rfl;omega));
       have MM8:=Lib.hid (((Mod.none_ hA (fun k=>k=gA)).trans m8 fun _ _ q=>q).trans (Mod.none_ al (fun k=>k=gA)) fun _ _ q=>q);
       clear xb al d8 m8 hs8)
    | (go_at_call 125;(with_reducible refine (DEL.out _ hB).mono ?_);rintro en w8 ⟨rfl,d8,m8⟩;
       have INSA:=Lib.hid (INS.out w8 w5.heap.size d8 (((Blk.new w5 122 #[.int .i64 (r:Int),.slice Av nd cv]).drewN 1).mod m8 (by have:=HSZ.out;omega)) (by have:=HSZ.out;omega));
       have MM8:=Lib.hid ((Mod.none_ hB (fun k=>k=gA)).trans m8 fun _ _ q=>q);
       clear d8 m8)
    | (go_at_call 124;(with_reducible refine INSA.out.mono ?_);rintro en w9 ⟨rfl,d9,m9⟩;have D9:=Lib.hid d9;have M9:=Lib.hid (MM8.out.trans m9 fun _ _ q=>q);clear d9 m9))
   all_goals (
    go_wp2_with fail
    go_ret
    have hl2:((r,.slice Av nd cv,(ps.getD q pE0).2.2) :: (ps.take q++ps.drop (q+1)):List PEl).length=K+1:=by simp [HK.out];have:=HQL.out;have:=HK.out;omega
    refine ⟨some ⟨gA,0,none⟩,c,((r,.slice Av nd cv,(ps.getD q pE0).2.2) :: (ps.take q++ps.drop (q+1))),by rw [hl2];first | rfl | simp,by rw [hl2];exact D9.out,fun p hp=>?_,(PD.out (.slice Av nd cv)).2.1,(PD.out (.slice Av nd cv)).2.2,BW.out.trans (M9.out.belowB BW.out.size fun i hi e=>by have:=HW0.out;omega)⟩
    have rdj:∀ j,j < ps.length→∃ A' c',(ps.getD j pE0).2.1=.slice A' (ps.getD j pE0).2.2.length c'∧w9.ownsRow w.heap.size 3 1 (.slice A' (ps.getD j pE0).2.2.length c') (ps.getD j pE0).2.2.length (I64 (ofN (ps.getD j pE0).2.2)):=fun j hj=>by
     obtain ⟨A',c',e⟩:=FORM.out j hj
     have:=own_mod (INN.out wr WR0.out j hj) M9.out fun k hk e=>HNE.out j hj (by rw [hk,e])
     rw [e] at this
     exact ⟨A',c',e,this⟩
    rcases List.mem_cons.1 hp with rfl | hp
    ·obtain ⟨A',c',e,rd⟩:=rdj q HQL.out
     rw [HVV.out] at e
     simp only [Value.slice.injEq] at e
     refine ⟨Av,cv,by rw [HND.out],?_⟩
     rw [e.1,HND.out,e.2.2];exact rd
    ·have hpm:p∈ps:=by
      rcases List.mem_append.1 hp with h1 | h1
      ·exact List.mem_of_mem_take h1
      ·exact List.mem_of_mem_drop h1
     obtain ⟨j,hj,rfl⟩:=List.getElem_of_mem hpm
     have:=rdj j hj
     rwa [List.getD_eq_getElem?_getD,List.getElem?_eq_getElem hj] at this)
theorem info_walker:(Tryz.prog.info? 141).map (·.size)=some 3:=by kernel_rfl
structure WMem (B gk ck gm cm m V:Nat) (K:List Int) (M:List Bool) (W:World):Prop where
 ok:W.ownsRow B 3 1 (.slice (some ⟨gk,0,none⟩) m ck) m (I64 K)
 om:W.ownsRow B 4 1 (.slice (some ⟨gm,0,none⟩) V cm) V (Bl M)
theorem WMem.below {B gk ck gm cm m V:Nat} {K:List Int} {M:List Bool} {W W':World} (h:WMem B gk ck gm cm m V K M W) (z:Below W.heap.size W W'):WMem B gk ck gm cm m V K M W':=⟨own_below h.ok z,own_below h.om z⟩
theorem WMem.ne {B gk ck gm cm m V:Nat} {K:List Int} {M:List Bool} {W:World} (h:WMem B gk ck gm cm m V K M W):gk≠gm:=fun e=>by
 subst e
 exact own_own_ne h.ok h.om (by decide) gk rfl rfl
theorem WMem.setK {B gk ck gm cm m V:Nat} {K:List Int} {M:List Bool} {W:World} (h:WMem B gk ck gm cm m V K M W) (i:Nat) (v:Int):WMem B gk ck gm cm m V (K.set i v) M (W.setCell ⟨gk,i,none⟩ (.int .i64 v)) :=
 ⟨own_setI h.ok i v,own_mod h.om (Mod.setCell (p:=⟨gk,i,none⟩) (Mod.refl (fun x=>x=gk) W) (fun _=>rfl) (.int .i64 v)) (fun x hx e=>by
  have:=h.ne
  simp [Value.ownBlock] at hx
  omega)⟩
theorem WMem.setM {B gk ck gm cm m V:Nat} {K:List Int} {M:List Bool} {W:World} (h:WMem B gk ck gm cm m V K M W) (i:Nat) (v:Bool):WMem B gk ck gm cm m V K (M.set i v) (W.setCell ⟨gm,i,none⟩ (.bool v)) :=
 ⟨own_mod h.ok (Mod.setCell (p:=⟨gm,i,none⟩) (Mod.refl (fun x=>x=gm) W) (fun _=>rfl) (.bool v)) (fun x hx e=>by
  have:=h.ne
  simp [Value.ownBlock] at hx
  omega),own_setB h.om i v⟩
abbrev wval (g gk ck gm cm m V:Nat):Value:=.agg #[.pointer (some ⟨g,0,none⟩),.slice (some ⟨gk,0,none⟩) m ck,.slice (some ⟨gm,0,none⟩) V cm]
set_option maxHeartbeats 4000000 in
theorem wnext_p (B g:Nat) (l b:List Nat) (root lone:Int) (w:World) (gk ck gm cm m V d k:Nat) (W:World) (HM:Hid (∀ W',Below B w W'→MapAt W' g l b root lone)) (hbe:Below B w W) (hB:B≤w.heap.size) (hd:d < l.length) (hk:k < 4) :
  Calls Tryz.prog 132 #[wval g gk ck gm cm m V,.agg #[.int .i64 (d:Int),.int .i64 (k:Int)]] W fun e w'=>e=.returned (.int .i64 ((wNx (sgL l) d k:Nat):Int))∧Below W.heap.size W w':=by
 have hev:l.length%2=0:=(HM.out _ hbe).1.1
 obtain ⟨md,hmd⟩:∃ md,md=mt d:=⟨_,rfl⟩
 have hml:md < l.length:=by rw [hmd];exact mt_lt (m:=l.length / 2) (by omega) hd
 obtain ⟨S,hS⟩:∃ S,S=wNx (sgL l) d k:=⟨_,rfl⟩
 rw [← hS]
 have hS1:k < 2→S=sgL l md:=fun h=>by rw [hS,hmd];unfold wNx;rw [if_pos h]
 have hS2:¬ k < 2→S=sgL l d:=fun h=>by rw [hS];unfold wNx;rw [if_neg h]
 obtain ⟨q,hq⟩:∃ q:Int,q=(k:Int):=⟨_,rfl⟩
 rw [← hq]
 have hq4:q=0∨q=1∨q=2∨q=3:=by omega
 have low:(q=0∨q=1)→S=sgL l md:=fun h=>hS1 (by omega)
 have high:(q=2∨q=3)→S=sgL l d:=fun h=>hS2 (by omega)
 have HLO:=Lib.hid low
 have HHI:=Lib.hid high
 have HQ4:=Lib.hid hq4
 clear low high hS1 hS2 hS hk hq4 hq
 have Z0:=Below.refl W.heap.size W
 have Z1:=Z0.alloc (Nat.le_refl _) (.cells #[.pointer (some ⟨g,0,none⟩),.slice (some ⟨gk,0,none⟩) m ck,.slice (some ⟨gm,0,none⟩) V cm] 141)
 have Z2:=Lib.hid (Z1.alloc Z1.size (.cells #[.int .i64 (d:Int),.int .i64 q] 136))
 have hbs:B≤W.heap.size:=Nat.le_trans hB hbe.size
 have MP:Hid (∀ W',Below W.heap.size W W'→Calls Tryz.prog 80 #[.pointer (some ⟨g,0,none⟩),.int .i64 (d:Int)] W' fun e w'=>e=.returned (.int .i64 (md:Int))∧Below W'.heap.size W' w'):=fun W' z=>by
  have:=mate_in g l b root lone d W' (HM.out _ (hbe.trans (z.mono hbs))) hd
  rw [mt_mateN] at this
  rw [hmd]
  exact this
 have SP:Hid (∀ x,x < l.length→∀ W',Below W.heap.size W W'→Calls Tryz.prog 96 #[.pointer (some ⟨g,0,none⟩),.int .i64 (x:Int)] W' fun e w'=>e=.returned (.int .i64 ((sgL l x:Nat):Int))∧Below W'.heap.size W' w'):=fun x hx W' z=>sigma_in g l b root lone x W' (HM.out _ (hbe.trans (z.mono hbs))) hx
 have BW:=Lib.hid ((Blk.new W 141 #[.pointer (some ⟨g,0,none⟩),.slice (some ⟨gk,0,none⟩) m ck,.slice (some ⟨gm,0,none⟩) V cm]).alloc (.cells #[.int .i64 (d:Int),.int .i64 q] 136))
 have BS:=Blk.new (W.alloc (.cells #[.pointer (some ⟨g,0,none⟩),.slice (some ⟨gk,0,none⟩) m ck,.slice (some ⟨gm,0,none⟩) V cm] 141)) 136 #[.int .i64 (d:Int),.int .i64 q]
 rw [show (W.alloc (.cells #[.pointer (some ⟨g,0,none⟩),.slice (some ⟨gk,0,none⟩) m ck,.slice (some ⟨gm,0,none⟩) V cm] 141)).heap.size=W.heap.size+1 by simp] at BS
 have HBS:=Lib.hid BS
 clear BS Z0 Z1 HM hbe
 go_enter Tryz.func132,Tryz.ntmps132
 go_upto_region 1 with fail
 generalize (W.alloc (.cells #[.pointer (some ⟨g,0,none⟩),.slice (some ⟨gk,0,none⟩) m ck,.slice (some ⟨gm,0,none⟩) V cm] 141)).alloc (.cells #[.int .i64 (d:Int),.int .i64 q] 136)=w2 at *
 have b0:=BW.out.cell 0
 have s0:=HBS.out.cell 0
 have s1:=HBS.out.cell 1
 simp at b0 s0 s1
 have SK:Hid (∀ W',Below w2.heap.size w2 W'→Below W.heap.size W W'∧W'.cell? ⟨W.heap.size,0,none⟩=some (.pointer (some ⟨g,0,none⟩))∧W'.cell? ⟨W.heap.size+1,0,none⟩=some (.int .i64 (d:Int))):=fun W' z =>
  ⟨Z2.out.trans (z.mono Z2.out.size),by have:=(BW.out.below z).cell 0;simpa using this,by have:=(HBS.out.below z).cell 0;simpa using this⟩
 have MP2:Hid (∀ W',Below w2.heap.size w2 W'→Calls Tryz.prog 80 #[.pointer (some ⟨g,0,none⟩),.int .i64 (d:Int)] W' fun e w'=>e=.returned (.int .i64 (md:Int))∧Below w2.heap.size w2 w'):=fun W' z =>
  (MP.out W' (SK.out W' z).1).mono fun e w' ⟨h1,h2⟩=>⟨h1,z.trans (h2.mono z.size)⟩
 have SP2:Hid (∀ x,x < l.length→∀ W',Below w2.heap.size w2 W'→Calls Tryz.prog 96 #[.pointer (some ⟨g,0,none⟩),.int .i64 (x:Int)] W' fun e w'=>e=.returned (.int .i64 ((sgL l x:Nat):Int))∧Below w2.heap.size w2 w'):=fun x hx W' z =>
  (SP.out x hx W' (SK.out W' z).1).mono fun e w' ⟨h1,h2⟩=>⟨h1,z.trans (h2.mono z.size)⟩
 clear hmd
 have hq4:=HQ4.out
 clear HQ4
 rcases hq4 with rfl | rfl | rfl | rfl
 ·have hSS:=HLO.out (by omega)
  have SMD:=Lib.hid (SP2.out md hml)
  rw [← hSS] at SMD
  clear hSS HLO HHI hml
  go_wp2_with fail
  have hba0:=Below.refl w2.heap.size w2
  have hba1:=hba0.drew
  obtain ⟨_,x0,x1⟩:=SK.out _ hba0
  obtain ⟨_,xx0,xx1⟩:=SK.out _ hba1
  go_region_held3 (fun W'=>Below w2.heap.size w2 W'∧W'.cell? ⟨W.heap.size,0,none⟩=some (.pointer (some ⟨g,0,none⟩))∧W'.cell? ⟨W.heap.size+1,0,none⟩=some (.int .i64 (d:Int)))
   (exact ⟨by assumption,(SK.out _ (by assumption)).2⟩)
   (first
   | (go_at_call 80;(with_reducible refine (MP2.out _ (by assumption)).mono ?_);rintro e wa ⟨rfl,hba⟩)
   | (go_at_call 96;(with_reducible refine (SMD.out _ (by assumption)).mono ?_);rintro e wa ⟨rfl,hba⟩))
  all_goals (
   go_wp2_with fail
   go_ret
   exact ⟨rfl,(SK.out _ (by assumption)).1⟩)
 ·have hSS:=HLO.out (by omega)
  have SMD:=Lib.hid (SP2.out md hml)
  rw [← hSS] at SMD
  clear hSS HLO HHI hml
  go_wp2_with fail
  have hba0:=Below.refl w2.heap.size w2
  have hba1:=hba0.drew
  obtain ⟨_,x0,x1⟩:=SK.out _ hba0
  obtain ⟨_,xx0,xx1⟩:=SK.out _ hba1
  go_region_held3 (fun W'=>Below w2.heap.size w2 W'∧W'.cell? ⟨W.heap.size,0,none⟩=some (.pointer (some ⟨g,0,none⟩))∧W'.cell? ⟨W.heap.size+1,0,none⟩=some (.int .i64 (d:Int)))
   (exact ⟨by assumption,(SK.out _ (by assumption)).2⟩)
   (first
   | (go_at_call 80;(with_reducible refine (MP2.out _ (by assumption)).mono ?_);rintro e wa ⟨rfl,hba⟩)
   | (go_at_call 96;(with_reducible refine (SMD.out _ (by assumption)).mono ?_);rintro e wa ⟨rfl,hba⟩))
  all_goals (
   go_wp2_with fail
   go_ret
   exact ⟨rfl,(SK.out _ (by assumption)).1⟩)
 ·have hSS:=HHI.out (by omega)
  have SMD:=Lib.hid (SP2.out d hd)
  rw [← hSS] at SMD
  clear hSS HLO HHI hml
  have hba0:=Below.refl w2.heap.size w2
  go_wp2_with fail
  refine (SMD.out _ hba0).mono ?_
  rintro e wa ⟨rfl,hba⟩
  go_wp2_with fail
  go_ret
  exact ⟨rfl,(SK.out _ (by assumption)).1⟩
 ·have hSS:=HHI.out (by omega)
  have SMD:=Lib.hid (SP2.out d hd)
  rw [← hSS] at SMD
  clear hSS HLO HHI hml
  have hba0:=Below.refl w2.heap.size w2
  go_wp2_with fail
  refine (SMD.out _ hba0).mono ?_
  rintro e wa ⟨rfl,hba⟩
  go_wp2_with fail
  go_ret
  exact ⟨rfl,(SK.out _ (by assumption)).1⟩
set_option maxHeartbeats 8000000 in
theorem wlook_p (B g:Nat) (l b:List Nat) (root lone:Int) (w:World) (gk ck gm cm m V d:Nat) (K:List Int) (M:List Bool) (W:World) (HM:Hid (∀ W',Below B w W'→MapAt W' g l b root lone)) (hbe:Below B w W) (hB:B≤w.heap.size)
  (hd:d < l.length) (hm:m=l.length / 2) (hV:∀ x,x < l.length→nameOf l x < V) (H:WMem B gk ck gm cm m V K M W) :
  Calls Tryz.prog 131 #[wval g gk ck gm cm m V,.int .i64 (d:Int)] W fun e w'=>e=.returned (.int .i64 ((wKd (nameOf l) K M d:Nat):Int))∧WMem B gk ck gm cm m V (wK1 K d (wKd (nameOf l) K M d)) (wM1 (nameOf l) M d (wKd (nameOf l) K M d)) w'∧Mod (fun i=>i=gk∨i=gm) W w':=by
 have hev:l.length%2=0:=(HM.out _ hbe).1.1
 have hle:=(HM.out _ hbe).2.1
 obtain ⟨md,hmd⟩:∃ md,md=mt d:=⟨_,rfl⟩
 have hml:md < l.length:=by rw [hmd];exact mt_lt (m:=l.length / 2) (by omega) hd
 obtain ⟨v,hv⟩:∃ v,v=nameOf l md:=⟨_,rfl⟩
 have hvV:v < V:=by rw [hv];exact hV _ hml
 obtain ⟨ed,hed⟩:∃ ed,ed=d / 2:=⟨_,rfl⟩
 have hem:ed < m:=by omega
 have e1:(d:Int) / 2=(ed:Int):=by omega
 have e2:(d:Int).tdiv 2=(ed:Int):=by rw [Int.tdiv_eq_ediv_of_nonneg (by omega)];exact e1
 have hwe:IntKind.i64.wrap (ed:Int)=(ed:Int):=by simp [IntKind.wrap,IntKind.signed,IntKind.bits];omega
 obtain ⟨kv,hkv⟩:∃ kv,kv=K.getD ed 0:=⟨_,rfl⟩
 obtain ⟨mv,hmv⟩:∃ mv,mv=M.getD v false:=⟨_,rfl⟩
 have hKD:wKd (nameOf l) K M d=if kv=0 then 1 else if kv=2 then 3 else if mv=true then 2 else 0:=by unfold wKd;rw [← hed,← hkv,← hmd,← hv,← hmv]
 obtain ⟨kd,hkd⟩:∃ kd,kd=wKd (nameOf l) K M d:=⟨_,rfl⟩
 rw [← hkd] at hKD ⊢
 have HK1:Hid (wK1 K d kd=if kd%2=0 then K.set ed kd else K):=by show _=_;unfold wK1;rw [hed]
 have HM1:Hid (wM1 (nameOf l) M d kd=if kd=0 then M.set v true else M):=by show _=_;unfold wM1;rw [hv,hmd]
 have hbs:B≤W.heap.size:=Nat.le_trans hB hbe.size
 have hgm:=own_block H.om
 have hgk:=own_block H.ok
 have hne:=H.ne
 have hck:=own_cellI H.ok ed hem
 have hfk:=H.ok.frozenAt ed
 have hcm:=own_cellB H.om v hvV
 have hfm:=H.om.frozenAt v
 rw [← hkv] at hck
 rw [← hmv] at hcm
 have Z1:=Lib.hid ((Below.refl W.heap.size W).alloc (Nat.le_refl _) (.cells #[.pointer (some ⟨g,0,none⟩),.slice (some ⟨gk,0,none⟩) m ck,.slice (some ⟨gm,0,none⟩) V cm] 141))
 have BW:=Lib.hid (Blk.new W 141 #[.pointer (some ⟨g,0,none⟩),.slice (some ⟨gk,0,none⟩) m ck,.slice (some ⟨gm,0,none⟩) V cm])
 have MP:Hid (∀ W',Below W.heap.size W W'→Calls Tryz.prog 80 #[.pointer (some ⟨g,0,none⟩),.int .i64 (d:Int)] W' fun e w'=>e=.returned (.int .i64 (md:Int))∧Below W'.heap.size W' w'):=fun W' z=>by
  have:=mate_in g l b root lone d W' (HM.out _ (hbe.trans (z.mono hbs))) hd
  rw [mt_mateN] at this
  rw [hmd]
  exact this
 have VP:Hid (∀ W',Below W.heap.size W W'→Calls Tryz.prog 109 #[.pointer (some ⟨g,0,none⟩),.int .i64 (md:Int)] W' fun e w'=>e=.returned (.int .i64 (v:Int))∧Below W'.heap.size W' w'):=fun W' z=>by
  rw [hv];exact vertex_in g l b root lone md W' (HM.out _ (hbe.trans (z.mono hbs))) hml
 have HH:=Lib.hid H
 have HKD:=Lib.hid hKD
 have HBE:=Lib.hid hbe
 have HC:=Lib.hid (And.intro hck (And.intro hfk (And.intro hcm hfm)))
 clear H hkv hmv hkd hKD hbe hv hmd hed HM hV hev hm hck hfk hcm hfm
 generalize wK1 K d kd=K' at *
 generalize wM1 (nameOf l) M d kd=M' at *
 go_enter Tryz.func131,Tryz.ntmps131
 go_upto_region 1 with fail
 have hws:(W.alloc (.cells #[.pointer (some ⟨g,0,none⟩),.slice (some ⟨gk,0,none⟩) m ck,.slice (some ⟨gm,0,none⟩) V cm] 141)).heap.size=W.heap.size+1:=by simp
 generalize W.alloc (.cells #[.pointer (some ⟨g,0,none⟩),.slice (some ⟨gk,0,none⟩) m ck,.slice (some ⟨gm,0,none⟩) V cm] 141)=w2 at *
 have SK:Hid (∀ W',Below w2.heap.size w2 W'→Below W.heap.size W W'∧W'.cell? ⟨W.heap.size,0,none⟩=some (.pointer (some ⟨g,0,none⟩))):=fun W' z =>
  ⟨Z1.out.trans (z.mono Z1.out.size),by have:=(BW.out.below z).cell 0;simpa using this⟩
 have MP2:Hid (∀ W',Below w2.heap.size w2 W'→Calls Tryz.prog 80 #[.pointer (some ⟨g,0,none⟩),.int .i64 (d:Int)] W' fun e w'=>e=.returned (.int .i64 (md:Int))∧Below w2.heap.size w2 w'):=fun W' z =>
  (MP.out W' (SK.out W' z).1).mono fun e w' ⟨h1,h2⟩=>⟨h1,z.trans (h2.mono z.size)⟩
 have VP2:Hid (∀ W',Below w2.heap.size w2 W'→Calls Tryz.prog 109 #[.pointer (some ⟨g,0,none⟩),.int .i64 (md:Int)] W' fun e w'=>e=.returned (.int .i64 (v:Int))∧Below w2.heap.size w2 w'):=fun W' z =>
  (VP.out W' (SK.out W' z).1).mono fun e w' ⟨h1,h2⟩=>⟨h1,z.trans (h2.mono z.size)⟩
 clear MP VP
 go_cut [5,6] (fun s5 s6 wx=>s5=.int .i64 (ed:Int)∧s6=.int .i64 (v:Int)∧Below w2.heap.size w2 wx)
 case first =>
  have hba0:=Below.refl w2.heap.size w2
  have hba1:=hba0.drew
  have x0:=(SK.out _ hba0).2
  have xx0:=(SK.out _ hba1).2
  go_region_held3 (fun W'=>Below w2.heap.size w2 W'∧W'.cell? ⟨W.heap.size,0,none⟩=some (.pointer (some ⟨g,0,none⟩)))
   (exact ⟨by assumption,(SK.out _ (by assumption)).2⟩)
   (first
   | (go_at_call 80;(with_reducible refine (MP2.out _ (by assumption)).mono ?_);rintro e wa ⟨rfl,hba⟩)
   | (go_at_call 109;(with_reducible refine (VP2.out _ (by assumption)).mono ?_);rintro e wa ⟨rfl,hba⟩))
  all_goals (go_wp2_with fail;go_meet;exact ⟨rfl,rfl,by assumption⟩)
 case rest =>
  obtain ⟨rfl,rfl,z5⟩:=hcut
  obtain ⟨wd,rfl⟩:∃ wd,wd=wc:=⟨_,rfl⟩
  have z6:=(SK.out _ z5).1
  have HD:=Lib.hid (HH.out.below z6)
  have BX:=Lib.hid (BW.out.below z5)
  have bx1:wd.cell? ⟨W.heap.size,1,none⟩=some (.slice (some ⟨gk,0,none⟩) m ck):=by have:=BX.out.cell 1;simpa using this
  have bx2:wd.cell? ⟨W.heap.size,2,none⟩=some (.slice (some ⟨gm,0,none⟩) V cm):=by have:=BX.out.cell 2;simpa using this
  have hck:wd.cell? ⟨gk,ed,none⟩=some (.int .i64 kv):=(z6.cell (p:=⟨gk,ed,none⟩) hgk.2).trans HC.out.1
  have hcm:wd.cell? ⟨gm,v,none⟩=some (.bool mv):=(z6.cell (p:=⟨gm,v,none⟩) hgm.2).trans HC.out.2.2.1
  have hfk:=HD.out.ok.frozenAt ed
  have hfm:=HD.out.om.frozenAt v
  have n1:gk≠W.heap.size:=by omega
  have n2:gm≠W.heap.size:=by omega
  have n3:W.heap.size≠gk:=by omega
  have n4:W.heap.size≠gm:=by omega
  have n5:gm≠gk:=fun e=>hne e.symm
  have MM:Hid (Mod (fun i=>i=gk∨i=gm) W wd):=Mod.none_ z6 _
  clear SK MP2 VP2 HC BW z5 HH Z1
  by_cases k0:kv=0
  ·have hk:kd=1:=by rw [HKD.out,if_pos k0]
   have hK:=HK1.out
   have hM:=HM1.out
   rw [hk,if_neg (by omega)] at hK hM
   subst hk k0 hK hM
   clear HKD HK1 HM1
   go_wp2_with fail
   go_ret
   exact ⟨rfl,HD.out,MM.out⟩
  ·by_cases k2:kv=2
   ·have hk:kd=3:=by rw [HKD.out,if_neg k0,if_pos k2]
    have hK:=HK1.out
    have hM:=HM1.out
    rw [hk,if_neg (by omega)] at hK hM
    subst hk k2 hK hM
    clear HKD HK1 HM1
    go_wp2_with fail
    go_ret
    exact ⟨rfl,HD.out,MM.out⟩
   ·have c0:(kv == 0)=false:=by rw [beq_eq_false_iff_ne];exact k0
    have c2:(kv == 2)=false:=by rw [beq_eq_false_iff_ne];exact k2
    have HD2:=Lib.hid (HD.out.setK ed 2)
    have MM2:Hid (Mod (fun i=>i=gk∨i=gm) W (wd.setCell ⟨gk,ed,none⟩ (.int .i64 2))):=MM.out.setCell (fun _=>.inl rfl) _
    by_cases q:mv=true
    ·have hk:kd=2:=by rw [HKD.out,if_neg k0,if_neg k2,if_pos q]
     have hK:=HK1.out
     have hM:=HM1.out
     rw [hk] at hK hM
     rw [if_pos (by omega)] at hK
     rw [if_neg (by omega)] at hM
     subst hk q hK hM
     clear HKD HK1 HM1
     go_wp2_with fail
     go_ret
     exact ⟨rfl,HD2.out,MM2.out⟩
    ·have hk:kd=0:=by rw [HKD.out,if_neg k0,if_neg k2,if_neg q]
     have q':mv=false:=by simpa using q
     have hK:=HK1.out
     have hM:=HM1.out
     rw [hk] at hK hM
     rw [if_pos (by omega)] at hK
     rw [if_pos rfl] at hM
     have HD3:=Lib.hid ((HD2.out.setK ed 0).setM v true)
     rw [List.set_set] at HD3
     have MM3:Hid (Mod (fun i=>i=gk∨i=gm) W (((wd.setCell ⟨gk,ed,none⟩ (.int .i64 2)).setCell ⟨gk,ed,none⟩ (.int .i64 0)).setCell ⟨gm,v,none⟩ (.bool true))):=(MM2.out.setCell (fun _=>.inl rfl) _).setCell (fun _=>.inr rfl) _
     subst hk q' hK hM
     clear HKD HK1 HM1
     go_wp2_with fail
     go_ret
     exact ⟨rfl,HD3.out,MM3.out⟩
def FromPost (w:World) (g m V r:Nat) (nm:Nat→Nat) (e:Ending) (w':World):Prop :=
 ∃ gk ck gm cm,e=.returned (wval g gk ck gm cm m V)∧WMem w.heap.size gk ck gm cm m V (List.replicate m (-1)) ((List.replicate V false).set (nm r) true) w'∧Below w.heap.size w w'
set_option maxHeartbeats 8000000 in
theorem wfrom_p (g:Nat) (l b:List Nat) (root lone:Int) (r m V:Nat) (w:World) (h:MapAt w g l b root lone) (hr:r < l.length) (hm:m=l.length / 2) (hV:(V:Int)=((sizes l).length:Int)+lone) (hvV:nameOf l r < V) :
  Calls Tryz.prog 130 #[.pointer (some ⟨g,0,none⟩),.int .i64 (r:Int)] w (FromPost w g m V r (nameOf l)):=by
 have hle:=h.2.1
 have hlo:=h.1.2.2
 have hsl:=sizes_le l
 have hm1:m≤131072:=by omega
 have hV1:V≤262144:=by omega
 obtain ⟨j0,ji0,jz0,jz1,jz2⟩:=info_parts info_bool
 have hmk:=run_make_one (P:=Tryz.prog) 111 4 j0 (.bool false) 1 Tryz.underlying111 ji0 jz0 jz1 jz2 rfl .i64 .i64 V (by omega) (by omega)
 have EP:Hid (∀ W,Below w.heap.size w W→Calls Tryz.prog 15 #[.pointer (some ⟨g,0,none⟩)] W fun e w'=>e=.returned (.int .i64 (m:Int))∧Below W.heap.size W w'):=fun W z=>by rw [hm];exact edges_p g l b root lone W (h.below z)
 have VS:Hid (∀ W,Below w.heap.size w W→Calls Tryz.prog 16 #[.pointer (some ⟨g,0,none⟩)] W fun e w'=>e=.returned (.int .i64 (V:Int))∧Below W.heap.size W w'):=fun W z=>by rw [hV];exact vertices_p g l b root lone W (h.below z)
 obtain ⟨v,hv⟩:∃ v,v=nameOf l r:=⟨_,rfl⟩
 have VP:Hid (∀ W,Below w.heap.size w W→Calls Tryz.prog 109 #[.pointer (some ⟨g,0,none⟩),.int .i64 (r:Int)] W fun e w'=>e=.returned (.int .i64 (v:Int))∧Below W.heap.size W w'):=fun W z=>by rw [hv];exact vertex_in g l b root lone r W (h.below z) hr
 have HV:=Lib.hid hv
 rw [← hv] at hvV
 have HINF:=Lib.hid info_walker
 have hvI:(v:Int) < (V:Int):=by omega
 have hvI0:(0:Int)≤(v:Int):=by omega
 have R1:=Rd.new (w.alloc (.cells #[.pointer none,.slice none 0 0,.slice none 0 0] 141)) 3 #[.int .i64 (-1)] 1 (I64 [-1]) (by simp [I64]) (by simp)
 have hs1:(w.alloc (.cells #[.pointer none,.slice none 0 0,.slice none 0 0] 141)).heap.size=w.heap.size+1:=by simp
 rw [hs1] at R1
 have HR1:=Lib.hid R1
 have BR:=Lib.hid ((Blk.new w 141 #[.pointer none,.slice none 0 0,.slice none 0 0]).alloc (.cells #[.int .i64 (-1)] 3))
 have Z0:=(Below.refl w.heap.size w).alloc (Nat.le_refl _) (.cells #[.pointer none,.slice none 0 0,.slice none 0 0] 141)
 have Z1:=Lib.hid (Z0.alloc Z0.size (.cells #[.int .i64 (-1)] 3))
 have hs2:((w.alloc (.cells #[.pointer none,.slice none 0 0,.slice none 0 0] 141)).alloc (.cells #[.int .i64 (-1)] 3)).heap.size=w.heap.size+2:=by simp
 have HS2:=Lib.hid hs2
 clear h hm hV hv Z0 R1 hs1 hs2 hle hlo hsl
 go_enter Tryz.func130,Tryz.ntmps130
 go_wp2_with fail
 generalize (w.alloc (.cells #[.pointer none,.slice none 0 0,.slice none 0 0] 141)).alloc (.cells #[.int .i64 (-1)] 3)=w2 at *
 refine (EP.out _ Z1.out).mono ?_
 rintro e w3 ⟨rfl,z⟩
 have Z3:=Lib.hid (Z1.out.trans (z.mono Z1.out.size))
 have hz:=z.size
 have RP:=Lib.hid (repeat_p (w.heap.size+1) m 1 (-1) (w.heap.size+2) w3 hm1 (HR1.out.below (z.mono (by rw [HS2.out];omega))) (by rw [← HS2.out];exact hz))
 have BR3:=Lib.hid (BR.out.below z)
 have hz3:w.heap.size+2≤w3.heap.size:=by rw [← HS2.out];exact hz
 clear z hz EP HR1 BR Z1
 go_wp2_with fail
 refine RP.out.mono ?_
 rintro e w4 ⟨rfl,hown,z⟩
 have HO4:=Lib.hid (hown.base_le' (show w.heap.size≤w3.heap.size by omega))
 have Z4:=Lib.hid (Z3.out.trans (z.mono Z3.out.size))
 have BR4:=Lib.hid (BR3.out.below z)
 have hz4:=z.size
 generalize w3.heap.size=gk at *
 have hgk4:=(own_block HO4.out).2
 clear z hown RP BR3 Z3
 go_wp2_with fail
 refine (VS.out _ Z4.out).mono ?_
 rintro e w5 ⟨rfl,z⟩
 have HO5:=Lib.hid (own_below HO4.out z)
 have Z5:=Lib.hid (Z4.out.trans (z.mono Z4.out.size))
 have BR5:=Lib.hid (BR4.out.below z)
 have hz5:=z.size
 have hm5:=own_made w5 4 V (.bool false) (by simp only [maxLen];omega)
 rw [List.toArray_replicate,show List.replicate V (Value.bool false)=Bl (List.replicate V false) by simp [Bl]] at hm5
 have HM5:=Lib.hid (hm5.base_le' (show w.heap.size≤w5.heap.size by omega))
 clear z HO4 Z4 BR4 VS hm5
 go_wp2_with fail
 have hs6:(w5.alloc (.cells (Array.replicate V (.bool false)) 4)).heap.size=w5.heap.size+1:=by simp
 have BX:=Blk.new (w5.alloc (.cells (Array.replicate V (.bool false)) 4)) 141 #[.pointer (some ⟨g,0,none⟩),.slice (some ⟨gk,0,none⟩) m m,.slice (some ⟨w5.heap.size,0,none⟩) V V]
 rw [hs6] at BX
 have ZA:=(Below.refl w5.heap.size w5).alloc (Nat.le_refl _) (.cells (Array.replicate V (.bool false)) 4)
 have ZB:=ZA.alloc ZA.size (.cells #[.pointer (some ⟨g,0,none⟩),.slice (some ⟨gk,0,none⟩) m m,.slice (some ⟨w5.heap.size,0,none⟩) V V] 141)
 have HO6:=Lib.hid (own_below HO5.out ZB)
 have HM6:=Lib.hid (HM5.out.alloc (.cells #[.pointer (some ⟨g,0,none⟩),.slice (some ⟨gk,0,none⟩) m m,.slice (some ⟨w5.heap.size,0,none⟩) V V] 141))
 have Z6:=Lib.hid (Z5.out.trans (ZB.mono Z5.out.size))
 have BR6:=Lib.hid (BR5.out.below ZB)
 have HBX:=Lib.hid BX
 have hg6:w5.heap.size < ((w5.alloc (.cells (Array.replicate V (.bool false)) 4)).alloc (.cells #[.pointer (some ⟨g,0,none⟩),.slice (some ⟨gk,0,none⟩) m m,.slice (some ⟨w5.heap.size,0,none⟩) V V] 141)).heap.size:=by simp;omega
 generalize (w5.alloc (.cells (Array.replicate V (.bool false)) 4)).alloc (.cells #[.pointer (some ⟨g,0,none⟩),.slice (some ⟨gk,0,none⟩) m m,.slice (some ⟨w5.heap.size,0,none⟩) V V] 141)=w6 at *
 clear hs6 BX ZA ZB HO5 HM5 Z5 BR5
 have hg5:w.heap.size+2≤w5.heap.size:=by omega
 generalize w5.heap.size=gm at *
 have SK:Hid (∀ W',Below w6.heap.size w6 W'→Below w.heap.size w W'∧W'.cell? ⟨gm+1,2,none⟩=some (.slice (some ⟨gm,0,none⟩) V V)):=fun W' z =>
  ⟨Z6.out.trans (z.mono Z6.out.size),by have:=(HBX.out.below z).cell 2;simpa using this⟩
 have VP2:Hid (∀ W',Below w6.heap.size w6 W'→Calls Tryz.prog 109 #[.pointer (some ⟨g,0,none⟩),.int .i64 (r:Int)] W' fun e w'=>e=.returned (.int .i64 (v:Int))∧Below w6.heap.size w6 w'):=fun W' z =>
  (VP.out W' (SK.out W' z).1).mono fun e w' ⟨h1,h2⟩=>⟨h1,z.trans (h2.mono z.size)⟩
 go_cut [] (fun wx=>∃ wy,Below w6.heap.size w6 wy∧wx=wy.setCell ⟨gm,v,none⟩ (.bool true))
 case first =>
  have hba0:=Below.refl w6.heap.size w6
  have hba1:=hba0.drew
  have x0:=(SK.out _ hba0).2
  have x1:=(SK.out _ hba1).2
  have FZ:Hid (∀ W',Below w6.heap.size w6 W'→W'.frozen? ⟨gm,v,none⟩=false∧∃ q,W'.cell? ⟨gm,v,none⟩=some (.bool q)):=fun W' z=>⟨(own_below HM6.out z).frozenAt v,_,own_cellB (own_below HM6.out z) v hvV⟩
  obtain ⟨f0,q0,c0⟩:=FZ.out _ hba0
  obtain ⟨f1,q1,c1⟩:=FZ.out _ hba1
  go_region_with ((go_at_call 109;(with_reducible refine (VP2.out _ (by assumption)).mono ?_);rintro e wa ⟨rfl,hba⟩;have xa:=(SK.out _ hba).2;obtain ⟨fa,qa,ca⟩:=FZ.out _ hba))
  all_goals (go_wp2_with fail;go_meet;exact ⟨_,by assumption,rfl⟩)
 case rest =>
  obtain ⟨wy,hby,rfl⟩:=hcut
  have hzy:=(SK.out _ hby).1
  have MS:Mod (fun i=>i=gm) wy (wy.setCell ⟨gm,v,none⟩ (.bool true)):=Mod.setCell (p:=⟨gm,v,none⟩) (Mod.refl (fun i=>i=gm) wy) (fun _=>rfl) _
  have B1:=Lib.hid ((HBX.out.below hby).mod MS (by omega))
  have B2:=Lib.hid ((BR6.out.below hby).mod MS (by omega))
  have OK:=Lib.hid (own_mod (own_below HO6.out hby) MS (fun k hk e=>by replace e:k=_:=e;simp [Value.ownBlock] at hk;omega))
  have OM:=Lib.hid (own_setB (own_below HM6.out hby) v true)
  have ZZ:Hid (Below w.heap.size w (wy.setCell ⟨gm,v,none⟩ (.bool true))):=hzy.setCell (by show w.heap.size≤gm;omega) _
  have HGK:Hid (gk < w6.heap.size∧w.heap.size+2≤gm):=⟨by have:=own_block HO6.out;omega,hg5⟩
  generalize wy.setCell ⟨gm,v,none⟩ (.bool true)=wz at *
  clear MS hby hzy SK VP2 HBX HM6 HO6 BR6 Z6 VP
  have c0:=B1.out.cell 0
  have c1:=B1.out.cell 1
  have c2:=B1.out.cell 2
  have r0:=B2.out.cell 0
  have r1:=B2.out.cell 1
  have r2:=B2.out.cell 2
  have f0:=B2.out.frozen 0
  have f1:=B2.out.frozen 1
  have f2:=B2.out.frozen 2
  simp at c0 c1 c2 r0 r1 r2
  go_wp2_with fail
  have MM:Mod (fun i=>i=w.heap.size) wz (((wz.setCell ⟨w.heap.size,0,none⟩ (.pointer (some ⟨g,0,none⟩))).setCell ⟨w.heap.size,1,none⟩ (.slice (some ⟨gk,0,none⟩) m m)).setCell ⟨w.heap.size,2,none⟩ (.slice (some ⟨gm,0,none⟩) V V)) :=
   Mod.setCell (p:=⟨w.heap.size,2,none⟩) (Mod.setCell (p:=⟨w.heap.size,1,none⟩) (Mod.setCell (p:=⟨w.heap.size,0,none⟩) (Mod.refl (fun i=>i=w.heap.size) wz) (fun _=>rfl) _) (fun _=>rfl) _) (fun _=>rfl) _
  have hblk:Blk (((wz.setCell ⟨w.heap.size,0,none⟩ (.pointer (some ⟨g,0,none⟩))).setCell ⟨w.heap.size,1,none⟩ (.slice (some ⟨gk,0,none⟩) m m)).setCell ⟨w.heap.size,2,none⟩ (.slice (some ⟨gm,0,none⟩) V V)) w.heap.size 141 #[.pointer (some ⟨g,0,none⟩),.slice (some ⟨gk,0,none⟩) m m,.slice (some ⟨gm,0,none⟩) V V]:=by
   have:=((B2.out.set_ 0 (.pointer (some ⟨g,0,none⟩))).set_ 1 (.slice (some ⟨gk,0,none⟩) m m)).set_ 2 (.slice (some ⟨gm,0,none⟩) V V)
   simpa using this
  refine bodyPost_ret (results_cell_row rfl _ _ w.heap.size 141 _ (0,0) _ rfl hblk Tryz.underlying141 rfl HINF.out) rfl ?_
  refine ⟨gk,m,gm,V,rfl,⟨own_mod OK.out MM (fun k hk e=>by replace e:k=_:=e;simp [Value.ownBlock] at hk;omega),?_⟩,((ZZ.out.setCell (Nat.le_refl _) _).setCell (Nat.le_refl _) _).setCell (Nat.le_refl _) _⟩
  have:=own_mod OM.out MM (fun k hk e=>by replace e:k=_:=e;simp [Value.ownBlock] at hk;omega)
  rw [← HV.out];exact this
end Go.Proofs.YtdinmjciippchaaGreat
