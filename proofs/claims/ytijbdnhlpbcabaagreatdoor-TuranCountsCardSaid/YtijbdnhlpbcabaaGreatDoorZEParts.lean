/- euler.Parts. -/
import Derived.Test.YtijbdnhlpbcabaaGreatDoorZg14
open Go.RowKit
set_option linter.unusedVariables false
namespace Go.Proofs.YtijbdnhlpbcabaaGreatDoor
set_option maxRecDepth 20000
theorem map_rangeN (f:Nat→Nat) (n i:Nat) (h:i < n):((List.range n).map f).getD i 0=f i:=by simp [List.getD_eq_getElem?_getD,List.getElem?_range h]
section
variable {l:List Nat} {W:World} {base g3 p c k q:Nat}
theorem step_v {ke kb kg nv:Nat} {e:TypeId} (hq:q=pq l k) (hp:q < p) (hl:Leads l k) (hn:nv=pV l q k) (h:W.ownsRow base e 5 (.slice (some ⟨g3,0,none⟩) p c) p (I64 (pRow l p k ke kb kg))) :
  W.cell? ⟨g3,q*5+1,none⟩=some (.int .i64 (nv:Int))∧(W.setCell ⟨g3,q*5+1,none⟩ (.int .i64 ((nv:Int)+1))).ownsRow base e 5 (.slice (some ⟨g3,0,none⟩) p c) p (I64 (pRow l p (k+1) ke kb kg)):=by
 subst hq hn
 rw [Nat.mul_comm _ 5]
 refine ⟨?_,?_⟩
 ·rw [own_cell5 h _ (by omega),pRow_get _ _ _ _ _ _ _ (by omega),pc_1]
 ·rw [← row_v hp hl];exact own_set5 h _ _
theorem step_b {kv ke kg nv:Nat} {e:TypeId} (hq:q=pq l k) (hp:q < p) (hl:Leads (phiL l) k) (hn:nv=pB l q k) (h:W.ownsRow base e 5 (.slice (some ⟨g3,0,none⟩) p c) p (I64 (pRow l p kv ke k kg))) :
  W.cell? ⟨g3,q*5+3,none⟩=some (.int .i64 (nv:Int))∧(W.setCell ⟨g3,q*5+3,none⟩ (.int .i64 ((nv:Int)+1))).ownsRow base e 5 (.slice (some ⟨g3,0,none⟩) p c) p (I64 (pRow l p kv ke (k+1) kg)):=by
 subst hq hn
 rw [Nat.mul_comm _ 5]
 refine ⟨?_,?_⟩
 ·rw [own_cell5 h _ (by omega),pRow_get _ _ _ _ _ _ _ (by omega),pc_3]
 ·rw [← row_b hp hl];exact own_set5 h _ _
theorem step_e {kv kb kg nv:Nat} {e:TypeId} (hq:q=pq l k) (hp:q < p) (hl:k%2=0) (hn:nv=pE l q k) (h:W.ownsRow base e 5 (.slice (some ⟨g3,0,none⟩) p c) p (I64 (pRow l p kv k kb kg))) :
  W.cell? ⟨g3,q*5+2,none⟩=some (.int .i64 (nv:Int))∧(W.setCell ⟨g3,q*5+2,none⟩ (.int .i64 ((nv:Int)+1))).ownsRow base e 5 (.slice (some ⟨g3,0,none⟩) p c) p (I64 (pRow l p kv (k+1) kb kg)):=by
 subst hq hn
 rw [Nat.mul_comm _ 5]
 refine ⟨?_,?_⟩
 ·rw [own_cell5 h _ (by omega),pRow_get _ _ _ _ _ _ _ (by omega),pc_2]
 ·rw [← row_e hp hl];exact own_set5 h _ _
theorem own_some5 {e:TypeId} {A:Option Addr} {n m:Nat} {xs:List Value} (h:W.ownsRow base e 5 (.slice A m c) n xs) (hn:0 < n):∃ g,A=some ⟨g,0,none⟩∧base≤g∧g < W.heap.size:=by
 rcases h.2 with ⟨h1,rfl⟩ | ⟨g,cap,cur,h1,hb,hg,_⟩
 ·omega
 ·simp only [Value.slice.injEq] at h1
  exact ⟨g,h1.1,hb,(Array.getElem?_eq_some_iff.1 hg).1⟩
end
set_option maxHeartbeats 8000000 in
theorem parts_p (g:Nat) (l b:List Nat) (root:Int) (lone:Nat) (w:World) (h:MapAt w g l b root lone) :
  Calls Tryz.prog 78 #[.pointer (some ⟨g,0,none⟩)] w (NewPt w (pN l+lone) (partsC l (pN l+lone))):=by
 have hle:=h.2.1
 have hln:lone≤65536:=by have:=h.1.2.2;omega
 have hev:=h.1.1
 have hinv:Inv l b∧Inv (phiL l) (phiB l b):=by obtain ⟨_,_,p,A,c,S,d,q,A',c',S',d',hb,hp,hq,_⟩:=h;exact ⟨hp.1,hq.1⟩
 have HEV:=Lib.hid hev
 have HI:=Lib.hid hinv
 have EN:=Lib.hid (enames_p g l b root lone w h)
 have HM:Hid (∀ w',Below w.heap.size w w'→MapAt w' g l b root lone):=fun w' m=>h.below m
 obtain ⟨i0,hi0,hz0,hz1,hz2⟩:=info_parts info_part
 have HINF:=Lib.hid info_part5
 clear h hev hinv
 go_enter Tryz.func78,Tryz.ntmps78
 go_wp2_with fail
 refine EN.out.mono ?_
 rintro e w1 ⟨An,cn,rfl,hcn,hmn,hownn,hb1⟩
 rw [ofN_len,enames_len] at hownn hcn ⊢
 have HON:=Lib.hid hownn
 have HB1:=Lib.hid hb1
 have HNS:Hid (0 < l.length→∃ gn,An=some ⟨gn,0,none⟩∧gn < w1.heap.size):=fun h0=>by
  obtain ⟨q,e,h1,h2⟩:=own_some hownn h0
  exact ⟨q,e,h2⟩
 have hs1:=hb1.size
 clear hownn hb1 EN
 go_wp2_with fail
 go_loopw [3,4,5,14] (fun s3 s4 s5 i wr=>∃ (k p c3:Nat) (A3:Option Addr) (mv mf:Nat),k≤l.length∧p≤k∧s3=.slice A3 p c3∧s4=.int .i64 (mv:Int)∧s5=.int .i64 (mf:Int)∧i=.int .i64 (k:Int)∧Hid (mv=met l k)∧Hid (mf=met (phiL l) k)∧Hid (p=pn (part l) k) ∧
  Hid (wr.ownsRow w1.heap.size 144 5 (.slice A3 p c3) p (I64 (pRow l p k k k 0)))∧Hid (Below w1.heap.size w1 wr)) (fun _ _ _ i _=>l.length - (intOf i).toNat)
 case atStart =>
  refine ⟨0,0,0,none,0,0,by omega,by omega,rfl,rfl,rfl,rfl,(met_zero l).symm,(met_zero _).symm,?_,World.ownsRow_nil _ _ _ _,Below.refl _ _⟩
  have:=pn_le (part l) 0
  show _=_;omega
 case round =>
  obtain ⟨k,p,c3,A3,mv,mf,hk,hpk,rfl,rfl,rfl,rfl,HMV,HMF,HP,HO,HB⟩:=hrel
  by_cases hlt:k < l.length
  ·obtain ⟨gn,rfl,hgn⟩:=HNS.out (by omega)
   have hcn1:=(HB.out.cell (p:=⟨gn,k,none⟩) hgn).trans (own_cellI HON.out k hlt)
   rw [ofN_get,show (enames l).getD k 0=pq l k by unfold enames prts;rw [map_rangeN _ _ _ hlt];rfl] at hcn1
   have MX0:Hid (∀ W,Below w.heap.size w W→Calls Tryz.prog 87 #[.pointer (some ⟨g,0,none⟩),.int .i64 (k:Int)] W fun e w''=>e=.returned (.int .i64 ((mateN k:Nat):Int))∧Below W.heap.size W w''):=fun W m=>mate_in g l b root lone k W (HM.out W m) hlt
   obtain ⟨xv,hxv⟩:∃ xv,xv=nameOf l k:=⟨_,rfl⟩
   obtain ⟨xf,hxf⟩:∃ xf,xf=nameOf (phiL l) k:=⟨_,rfl⟩
   obtain ⟨mk,hmk⟩:∃ mk,mk=mateN k:=⟨_,rfl⟩
   obtain ⟨nv,hnv⟩:∃ nv,nv=pV l (pq l k) k:=⟨_,rfl⟩
   obtain ⟨nf,hnf⟩:∃ nf,nf=pB l (pq l k) k:=⟨_,rfl⟩
   obtain ⟨ne,hne⟩:∃ ne,ne=pE l (pq l k) k:=⟨_,rfl⟩
   obtain ⟨p1,hp1⟩:∃ p1,p1=pn (part l) (k+1):=⟨_,rfl⟩
   have hnvl:nv≤131072:=by have:=pV_le l (pq l k) k;omega
   have hnfl:nf≤131072:=by have:=pB_le l (pq l k) k;omega
   have hnel:ne≤131072:=by have:=pE_le l (pq l k) k;omega
   have hmvl:mv≤131072:=by have:=met_le l k;have:=HMV.out;omega
   have hmfl:mf≤131072:=by have:=met_le (phiL l) k;have:=HMF.out;omega
   have hp1l:p1≤k+1:=by have:=pn_le (part l) (k+1);omega
   have HXV:=Lib.hid hxv
   have HXF:=Lib.hid hxf
   have HMK:=Lib.hid hmk
   have HNV0:=Lib.hid hnv
   have HNF0:=Lib.hid hnf
   have HNE0:=Lib.hid hne
   have HP1:=Lib.hid hp1
   have MX:Hid (∀ W,Below w.heap.size w W→Calls Tryz.prog 87 #[.pointer (some ⟨g,0,none⟩),.int .i64 (k:Int)] W fun e w''=>e=.returned (.int .i64 (mk:Int))∧Below W.heap.size W w''):=by rw [hmk];exact MX0
   clear hxv hxf hmk hnv hnf hne hp1 MX0
   by_cases H:Least (part l) k
   · -- a new part
     have hq:=pq_new HI.out.1 HEV.out hlt H
     rw [← HP.out] at hq
     rw [hq] at hcn1
     obtain ⟨hv,hf,he⟩:=new_part HI.out.1 HEV.out HI.out.2 hlt H
     have hown3:=HO.out.alloc (.cells #[.int .i64 (k:Int),.int .i64 0,.int .i64 0,.int .i64 0,.int .i64 0] 144)
     have hnw:=World.news_of_block (heap_alloc_new wr (.cells #[.int .i64 (k:Int),.int .i64 0,.int .i64 0,.int .i64 0,.int .i64 0] 144))
     have h1s:∀ u∈([.int .i64 (k:Int),.int .i64 0,.int .i64 0,.int .i64 0,.int .i64 0]:List Value),u.oneCell'=true:=by simp [Value.oneCell']
     have t1:p+1≤maxLen:=by simp only [maxLen];omega
     have t2:(p+1)*40≤140737488355328:=by omega
     have hsw:=HB.out.size
     have t3:w1.heap.size≤(wr.alloc (.cells #[.int .i64 (k:Int),.int .i64 0,.int .i64 0,.int .i64 0,.int .i64 0] 144)).heap.size:=by simp;omega
     have BLA:=Lib.hid (HB.out.alloc hsw (.cells #[.int .i64 (k:Int),.int .i64 0,.int .i64 0,.int .i64 0,.int .i64 0] 144))
     have RN:=Lib.hid (row_new HI.out.1 HEV.out hlt H)
     rw [← HP.out,← HP1.out] at RN
     have HP1e:Hid (p1=p+1):=by show _=_;rw [HP1.out,(pn_next _ _).1 H,HP.out]
     have HQ:Hid (p=pq l k):=hq.symm
     clear hq H
     go_wp2_with (first
      | (at_builtin;go_must (refine wpList_append_lies _ rfl _ _ 111 rfl w1.heap.size 144 i0 (.agg #[.int .i64 0,.int .i64 0,.int .i64 0,.int .i64 0,.int .i64 0]) 5 40 Tryz.underlying111 hi0 hz0 hz1 hz2 rfl (by decide) (.slice A3 p c3) p _ rfl hown3 ⟨wr.heap.size,0,none⟩ 1 1 [.int .i64 (k:Int),.int .i64 0,.int .i64 0,.int .i64 0,.int .i64 0] rfl rfl hnw h1s (by decide) t1 t2 t3 _ rfl ?_)))
     intro g3 c6 w6 hown6 hg6 _ hg3'
     have hO6:w6.ownsRow w1.heap.size 144 5 (.slice (some ⟨g3,0,none⟩) p1 c6) p1 (I64 (pRow l p1 k k k 0)):=by
      have e:I64 (pRow l p k k k 0)++[.int .i64 (k:Int),.int .i64 0,.int .i64 0,.int .i64 0,.int .i64 0]=I64 (pRow l p1 k k k 0):=by rw [← RN.out,I64_append];rfl
      rw [e,← HP1e.out] at hown6
      exact hown6
     have HO0:=Lib.hid hO6
     have hg3:w1.heap.size≤g3:=(own_block hO6).1
     have BL0:=Lib.hid (BLA.out.trans ((Mod.ofGrown hg6).belowB t3 (fun i hi e=>by have:=(hown3.lt i e.symm).1;omega)))
     have hp1e:=HP1e.out
     rw [← hp1e]
     clear hown6 hg6 hO6 hown3 hnw h1s t1 t2 t3 BLA RN HP1e hg3' hsw hcn1
     obtain ⟨q,hq⟩:∃ q,q=p:=⟨_,rfl⟩
     have hqp:q < p1:=by omega
     rw [← hq] at HQ
     have HNV:Hid (nv=pV l q k):=by show _=_;rw [HQ.out,HNV0.out]
     have HNF:Hid (nf=pB l q k):=by show _=_;rw [HQ.out,HNF0.out]
     have HNE:Hid (ne=pE l q k):=by show _=_;rw [HQ.out,HNE0.out]
     rw [← hq]
     clear HNV0 HNF0 HNE0 HO HB hp1e hq
     have VX:Hid (∀ W,Below w.heap.size w W→Calls Tryz.prog 46 #[.pointer (some ⟨g,0,none⟩),.int .i64 (k:Int)] W fun e w''=>e=.returned (.int .i64 (mv:Int))∧Below W.heap.size W w''):=fun W m=>by rw [HMV.out,← name_lead HI.out.1 hlt hv];exact vertex_in g l b root lone k W (HM.out W m) hlt
     have SV:Hid (∀ W:World,W.ownsRow w1.heap.size 144 5 (.slice (some ⟨g3,0,none⟩) p1 c6) p1 (I64 (pRow l p1 k k k 0))→W.cell? ⟨g3,q*5+1,none⟩=some (.int .i64 (nv:Int))∧(W.setCell ⟨g3,q*5+1,none⟩ (.int .i64 ((nv:Int)+1))).ownsRow w1.heap.size 144 5 (.slice (some ⟨g3,0,none⟩) p1 c6) p1 (I64 (pRow l p1 (k+1) k k 0))):=fun W H=>step_v HQ.out hqp hv HNV.out H
     have MV:Hid (met l (k+1)=mv+1):=by show _=_;rw [met_lead l k hv,HMV.out]
     have FX:Hid (∀ W,Below w.heap.size w W→Calls Tryz.prog 114 #[.pointer (some ⟨g,0,none⟩),.int .i64 (k:Int)] W fun e w''=>e=.returned (.int .i64 (mf:Int))∧Below W.heap.size W w''):=fun W m=>by rw [HMF.out,← name_lead HI.out.2 (by rw [phiL_len];exact hlt) hf];exact face_in g l b root lone k W (HM.out W m) hlt
     have SF:Hid (∀ W:World,W.ownsRow w1.heap.size 144 5 (.slice (some ⟨g3,0,none⟩) p1 c6) p1 (I64 (pRow l p1 (k+1) k k 0))→W.cell? ⟨g3,q*5+3,none⟩=some (.int .i64 (nf:Int))∧(W.setCell ⟨g3,q*5+3,none⟩ (.int .i64 ((nf:Int)+1))).ownsRow w1.heap.size 144 5 (.slice (some ⟨g3,0,none⟩) p1 c6) p1 (I64 (pRow l p1 (k+1) k (k+1) 0))):=fun W H=>step_b HQ.out hqp hf HNF.out H
     have MF:Hid (met (phiL l) (k+1)=mf+1):=by show _=_;rw [met_lead _ k hf,HMF.out]
     have SE:Hid (∀ W:World,W.ownsRow w1.heap.size 144 5 (.slice (some ⟨g3,0,none⟩) p1 c6) p1 (I64 (pRow l p1 (k+1) k (k+1) 0))→W.cell? ⟨g3,q*5+2,none⟩=some (.int .i64 (ne:Int))∧(W.setCell ⟨g3,q*5+2,none⟩ (.int .i64 ((ne:Int)+1))).ownsRow w1.heap.size 144 5 (.slice (some ⟨g3,0,none⟩) p1 c6) p1 (I64 (pRow l p1 (k+1) (k+1) (k+1) 0))):=fun W H=>step_e HQ.out hqp he HNE.out H
     have lmt:decide (k < mk)=true:=by rw [decide_eq_true_iff];rw [mateN_eq] at HMK;have:=HMK.out;rw [if_pos he] at this;omega
     clear HMV HXV HMF HXF HMK hv hf he HQ HNV HNF HNE
     go_wp2_with (first
      | (go_at_call 87;refine (MX.out _ (HB1.out.trans (BL2.out.mono hs1))).mono ?_;rintro e wm ⟨rfl,hbm⟩;have O3:=own_below HO2.out hbm;have B3:=BL2.out.trans (hbm.mono BL2.out.size);obtain ⟨ce,o4⟩:=SE.out _ O3;have fe:=O3.frozenAt (q*5+2);have HO3:=Lib.hid o4;have BL3:=Lib.hid (B3.setCell (p:=⟨g3,q*5+2,none⟩) hg3 (.int .i64 ((ne:Int)+1)));clear O3 B3 hbm o4)
      | (go_at_call 114;refine (FX.out _ (HB1.out.trans (BL1.out.mono hs1))).mono ?_;rintro e wf ⟨rfl,hbf⟩;have O2:=own_below HO1.out hbf;have B2:=BL1.out.trans (hbf.mono BL1.out.size);obtain ⟨cf,o3⟩:=SF.out _ O2;have ff:=O2.frozenAt (q*5+3);have HO2:=Lib.hid o3;have BL2:=Lib.hid (B2.setCell (p:=⟨g3,q*5+3,none⟩) hg3 (.int .i64 ((nf:Int)+1)));clear O2 B2 hbf o3)
      | (go_at_call 46;refine (VX.out _ (HB1.out.trans (BL0.out.mono hs1))).mono ?_;rintro e wv ⟨rfl,hbv⟩;have O1:=own_below HO0.out hbv;have B1:=BL0.out.trans (hbv.mono BL0.out.size);obtain ⟨cv,o2⟩:=SV.out _ O1;have fv:=O1.frozenAt (q*5+1);have HO1:=Lib.hid o2;have BL1:=Lib.hid (B1.setCell (p:=⟨g3,q*5+1,none⟩) hg3 (.int .i64 ((nv:Int)+1)));clear O1 B1 hbv o2))
     go_roundw
     case rel =>
      exact ⟨k+1,p1,c6,some ⟨g3,0,none⟩,mv+1,mf+1,by omega,by omega,rfl,by go_num,by go_num,by go_num,MV.out.symm,MF.out.symm,HP1.out,HO3.out,BL3.out⟩
     case measure=>simp [intOf];omega
   · -- an old one
     have hqp0:=pq_old HI.out.1 HEV.out hlt H
     rw [← HP.out] at hqp0
     obtain ⟨q,hq⟩:∃ q,q=pq l k:=⟨_,rfl⟩
     rw [← hq] at hcn1 hqp0
     have HQ:=Lib.hid hq
     have HPE:Hid (p1=p):=by show _=_;rw [HP1.out,(pn_next _ _).2 H,HP.out]
     have hp1p:=HPE.out
     have hqp:q < p1:=by omega
     obtain ⟨g3,rfl,hg3,hg3'⟩:=own_some5 HO.out (show 0 < p by omega)
     have hsw:=HB.out.size
     have HNV:Hid (nv=pV l q k):=by show _=_;rw [HQ.out,HNV0.out]
     have HNF:Hid (nf=pB l q k):=by show _=_;rw [HQ.out,HNF0.out]
     have HNE:Hid (ne=pE l q k):=by show _=_;rw [HQ.out,HNE0.out]
     have nqp:((q:Int) == (p1:Int))=false:=by rw [beq_eq_false_iff_ne];omega
     have dqp:decide (q < p1)=true:=by rw [decide_eq_true_iff];exact hqp
     clear hq H HNV0 HNF0 HNE0 HPE
     obtain rfl:=hp1p
     have HO0:=HO
     have BL0:=HB
     by_cases hv:Leads l k
     ·by_cases hf:Leads (phiL l) k
      ·by_cases he:k%2=0
       ·have VX:Hid (∀ W,Below w.heap.size w W→Calls Tryz.prog 46 #[.pointer (some ⟨g,0,none⟩),.int .i64 (k:Int)] W fun e w''=>e=.returned (.int .i64 (mv:Int))∧Below W.heap.size W w''):=fun W m=>by rw [HMV.out,← name_lead HI.out.1 hlt hv];exact vertex_in g l b root lone k W (HM.out W m) hlt
        have SV:Hid (∀ W:World,W.ownsRow w1.heap.size 144 5 (.slice (some ⟨g3,0,none⟩) p1 c3) p1 (I64 (pRow l p1 k k k 0))→W.cell? ⟨g3,q*5+1,none⟩=some (.int .i64 (nv:Int))∧(W.setCell ⟨g3,q*5+1,none⟩ (.int .i64 ((nv:Int)+1))).ownsRow w1.heap.size 144 5 (.slice (some ⟨g3,0,none⟩) p1 c3) p1 (I64 (pRow l p1 (k+1) k k 0))):=fun W H=>step_v HQ.out hqp hv HNV.out H
        have MV:Hid (met l (k+1)=mv+1):=by show _=_;rw [met_lead l k hv,HMV.out]
        have FX:Hid (∀ W,Below w.heap.size w W→Calls Tryz.prog 114 #[.pointer (some ⟨g,0,none⟩),.int .i64 (k:Int)] W fun e w''=>e=.returned (.int .i64 (mf:Int))∧Below W.heap.size W w''):=fun W m=>by rw [HMF.out,← name_lead HI.out.2 (by rw [phiL_len];exact hlt) hf];exact face_in g l b root lone k W (HM.out W m) hlt
        have SF:Hid (∀ W:World,W.ownsRow w1.heap.size 144 5 (.slice (some ⟨g3,0,none⟩) p1 c3) p1 (I64 (pRow l p1 (k+1) k k 0))→W.cell? ⟨g3,q*5+3,none⟩=some (.int .i64 (nf:Int))∧(W.setCell ⟨g3,q*5+3,none⟩ (.int .i64 ((nf:Int)+1))).ownsRow w1.heap.size 144 5 (.slice (some ⟨g3,0,none⟩) p1 c3) p1 (I64 (pRow l p1 (k+1) k (k+1) 0))):=fun W H=>step_b HQ.out hqp hf HNF.out H
        have MF:Hid (met (phiL l) (k+1)=mf+1):=by show _=_;rw [met_lead _ k hf,HMF.out]
        have SE:Hid (∀ W:World,W.ownsRow w1.heap.size 144 5 (.slice (some ⟨g3,0,none⟩) p1 c3) p1 (I64 (pRow l p1 (k+1) k (k+1) 0))→W.cell? ⟨g3,q*5+2,none⟩=some (.int .i64 (ne:Int))∧(W.setCell ⟨g3,q*5+2,none⟩ (.int .i64 ((ne:Int)+1))).ownsRow w1.heap.size 144 5 (.slice (some ⟨g3,0,none⟩) p1 c3) p1 (I64 (pRow l p1 (k+1) (k+1) (k+1) 0))):=fun W H=>step_e HQ.out hqp he HNE.out H
        have lmt:decide (k < mk)=true:=by rw [decide_eq_true_iff];rw [mateN_eq] at HMK;have:=HMK.out;rw [if_pos he] at this;omega
        clear HMV HXV HMF HXF HMK hv hf he HQ HNV HNF HNE
        go_wp2_with (first
         | (go_at_call 87;refine (MX.out _ (HB1.out.trans (BL2.out.mono hs1))).mono ?_;rintro e wm ⟨rfl,hbm⟩;have O3:=own_below HO2.out hbm;have B3:=BL2.out.trans (hbm.mono BL2.out.size);obtain ⟨ce,o4⟩:=SE.out _ O3;have fe:=O3.frozenAt (q*5+2);have HO3:=Lib.hid o4;have BL3:=Lib.hid (B3.setCell (p:=⟨g3,q*5+2,none⟩) hg3 (.int .i64 ((ne:Int)+1)));clear O3 B3 hbm o4)
         | (go_at_call 114;refine (FX.out _ (HB1.out.trans (BL1.out.mono hs1))).mono ?_;rintro e wf ⟨rfl,hbf⟩;have O2:=own_below HO1.out hbf;have B2:=BL1.out.trans (hbf.mono BL1.out.size);obtain ⟨cf,o3⟩:=SF.out _ O2;have ff:=O2.frozenAt (q*5+3);have HO2:=Lib.hid o3;have BL2:=Lib.hid (B2.setCell (p:=⟨g3,q*5+3,none⟩) hg3 (.int .i64 ((nf:Int)+1)));clear O2 B2 hbf o3)
         | (go_at_call 46;refine (VX.out _ (HB1.out.trans (BL0.out.mono hs1))).mono ?_;rintro e wv ⟨rfl,hbv⟩;have O1:=own_below HO0.out hbv;have B1:=BL0.out.trans (hbv.mono BL0.out.size);obtain ⟨cv,o2⟩:=SV.out _ O1;have fv:=O1.frozenAt (q*5+1);have HO1:=Lib.hid o2;have BL1:=Lib.hid (B1.setCell (p:=⟨g3,q*5+1,none⟩) hg3 (.int .i64 ((nv:Int)+1)));clear O1 B1 hbv o2))
        go_roundw
        case rel =>
         exact ⟨k+1,p1,c3,some ⟨g3,0,none⟩,mv+1,mf+1,by omega,by omega,rfl,by go_num,by go_num,by go_num,MV.out.symm,MF.out.symm,HP1.out,HO3.out,BL3.out⟩
        case measure=>simp [intOf];omega
       ·have VX:Hid (∀ W,Below w.heap.size w W→Calls Tryz.prog 46 #[.pointer (some ⟨g,0,none⟩),.int .i64 (k:Int)] W fun e w''=>e=.returned (.int .i64 (mv:Int))∧Below W.heap.size W w''):=fun W m=>by rw [HMV.out,← name_lead HI.out.1 hlt hv];exact vertex_in g l b root lone k W (HM.out W m) hlt
        have SV:Hid (∀ W:World,W.ownsRow w1.heap.size 144 5 (.slice (some ⟨g3,0,none⟩) p1 c3) p1 (I64 (pRow l p1 k k k 0))→W.cell? ⟨g3,q*5+1,none⟩=some (.int .i64 (nv:Int))∧(W.setCell ⟨g3,q*5+1,none⟩ (.int .i64 ((nv:Int)+1))).ownsRow w1.heap.size 144 5 (.slice (some ⟨g3,0,none⟩) p1 c3) p1 (I64 (pRow l p1 (k+1) k k 0))):=fun W H=>step_v HQ.out hqp hv HNV.out H
        have MV:Hid (met l (k+1)=mv+1):=by show _=_;rw [met_lead l k hv,HMV.out]
        have FX:Hid (∀ W,Below w.heap.size w W→Calls Tryz.prog 114 #[.pointer (some ⟨g,0,none⟩),.int .i64 (k:Int)] W fun e w''=>e=.returned (.int .i64 (mf:Int))∧Below W.heap.size W w''):=fun W m=>by rw [HMF.out,← name_lead HI.out.2 (by rw [phiL_len];exact hlt) hf];exact face_in g l b root lone k W (HM.out W m) hlt
        have SF:Hid (∀ W:World,W.ownsRow w1.heap.size 144 5 (.slice (some ⟨g3,0,none⟩) p1 c3) p1 (I64 (pRow l p1 (k+1) k k 0))→W.cell? ⟨g3,q*5+3,none⟩=some (.int .i64 (nf:Int))∧(W.setCell ⟨g3,q*5+3,none⟩ (.int .i64 ((nf:Int)+1))).ownsRow w1.heap.size 144 5 (.slice (some ⟨g3,0,none⟩) p1 c3) p1 (I64 (pRow l p1 (k+1) k (k+1) 0))):=fun W H=>step_b HQ.out hqp hf HNF.out H
        have MF:Hid (met (phiL l) (k+1)=mf+1):=by show _=_;rw [met_lead _ k hf,HMF.out]
        have SE:Hid (∀ W:World,W.ownsRow w1.heap.size 144 5 (.slice (some ⟨g3,0,none⟩) p1 c3) p1 (I64 (pRow l p1 (k+1) k (k+1) 0))→W.ownsRow w1.heap.size 144 5 (.slice (some ⟨g3,0,none⟩) p1 c3) p1 (I64 (pRow l p1 (k+1) (k+1) (k+1) 0))):=fun W H=>by rw [← row_e0 he];exact H
        have lmt:decide (k < mk)=false:=by rw [decide_eq_false_iff_not];rw [mateN_eq] at HMK;have:=HMK.out;rw [if_neg he] at this;omega
        clear HMV HXV HMF HXF HMK hv hf he HQ HNV HNF HNE
        go_wp2_with (first
         | (go_at_call 87;refine (MX.out _ (HB1.out.trans (BL2.out.mono hs1))).mono ?_;rintro e wm ⟨rfl,hbm⟩;have O3:=own_below HO2.out hbm;have B3:=BL2.out.trans (hbm.mono BL2.out.size);have HO3:=Lib.hid (SE.out _ O3);have BL3:=Lib.hid B3;clear O3 B3 hbm)
         | (go_at_call 114;refine (FX.out _ (HB1.out.trans (BL1.out.mono hs1))).mono ?_;rintro e wf ⟨rfl,hbf⟩;have O2:=own_below HO1.out hbf;have B2:=BL1.out.trans (hbf.mono BL1.out.size);obtain ⟨cf,o3⟩:=SF.out _ O2;have ff:=O2.frozenAt (q*5+3);have HO2:=Lib.hid o3;have BL2:=Lib.hid (B2.setCell (p:=⟨g3,q*5+3,none⟩) hg3 (.int .i64 ((nf:Int)+1)));clear O2 B2 hbf o3)
         | (go_at_call 46;refine (VX.out _ (HB1.out.trans (BL0.out.mono hs1))).mono ?_;rintro e wv ⟨rfl,hbv⟩;have O1:=own_below HO0.out hbv;have B1:=BL0.out.trans (hbv.mono BL0.out.size);obtain ⟨cv,o2⟩:=SV.out _ O1;have fv:=O1.frozenAt (q*5+1);have HO1:=Lib.hid o2;have BL1:=Lib.hid (B1.setCell (p:=⟨g3,q*5+1,none⟩) hg3 (.int .i64 ((nv:Int)+1)));clear O1 B1 hbv o2))
        go_roundw
        case rel =>
         exact ⟨k+1,p1,c3,some ⟨g3,0,none⟩,mv+1,mf+1,by omega,by omega,rfl,by go_num,by go_num,by go_num,MV.out.symm,MF.out.symm,HP1.out,HO3.out,BL3.out⟩
        case measure=>simp [intOf];omega
      ·by_cases he:k%2=0
       ·have VX:Hid (∀ W,Below w.heap.size w W→Calls Tryz.prog 46 #[.pointer (some ⟨g,0,none⟩),.int .i64 (k:Int)] W fun e w''=>e=.returned (.int .i64 (mv:Int))∧Below W.heap.size W w''):=fun W m=>by rw [HMV.out,← name_lead HI.out.1 hlt hv];exact vertex_in g l b root lone k W (HM.out W m) hlt
        have SV:Hid (∀ W:World,W.ownsRow w1.heap.size 144 5 (.slice (some ⟨g3,0,none⟩) p1 c3) p1 (I64 (pRow l p1 k k k 0))→W.cell? ⟨g3,q*5+1,none⟩=some (.int .i64 (nv:Int))∧(W.setCell ⟨g3,q*5+1,none⟩ (.int .i64 ((nv:Int)+1))).ownsRow w1.heap.size 144 5 (.slice (some ⟨g3,0,none⟩) p1 c3) p1 (I64 (pRow l p1 (k+1) k k 0))):=fun W H=>step_v HQ.out hqp hv HNV.out H
        have MV:Hid (met l (k+1)=mv+1):=by show _=_;rw [met_lead l k hv,HMV.out]
        have FX:Hid (∀ W,Below w.heap.size w W→Calls Tryz.prog 114 #[.pointer (some ⟨g,0,none⟩),.int .i64 (k:Int)] W fun e w''=>e=.returned (.int .i64 (xf:Int))∧Below W.heap.size W w''):=fun W m=>by rw [HXF.out];exact face_in g l b root lone k W (HM.out W m) hlt
        have SF:Hid (∀ W:World,W.ownsRow w1.heap.size 144 5 (.slice (some ⟨g3,0,none⟩) p1 c3) p1 (I64 (pRow l p1 (k+1) k k 0))→W.ownsRow w1.heap.size 144 5 (.slice (some ⟨g3,0,none⟩) p1 c3) p1 (I64 (pRow l p1 (k+1) k (k+1) 0))):=fun W H=>by rw [← row_b0 hf];exact H
        have nxf:((xf:Int) == (mf:Int))=false:=by have:=name_not HI.out.2 (by rw [phiL_len];exact hlt) hf;rw [← HXF.out,← HMF.out] at this;rw [beq_eq_false_iff_ne];omega
        have MF:Hid (met (phiL l) (k+1)=mf):=by show _=_;rw [met_not _ k hf,HMF.out]
        have SE:Hid (∀ W:World,W.ownsRow w1.heap.size 144 5 (.slice (some ⟨g3,0,none⟩) p1 c3) p1 (I64 (pRow l p1 (k+1) k (k+1) 0))→W.cell? ⟨g3,q*5+2,none⟩=some (.int .i64 (ne:Int))∧(W.setCell ⟨g3,q*5+2,none⟩ (.int .i64 ((ne:Int)+1))).ownsRow w1.heap.size 144 5 (.slice (some ⟨g3,0,none⟩) p1 c3) p1 (I64 (pRow l p1 (k+1) (k+1) (k+1) 0))):=fun W H=>step_e HQ.out hqp he HNE.out H
        have lmt:decide (k < mk)=true:=by rw [decide_eq_true_iff];rw [mateN_eq] at HMK;have:=HMK.out;rw [if_pos he] at this;omega
        clear HMV HXV HMF HXF HMK hv hf he HQ HNV HNF HNE
        go_wp2_with (first
         | (go_at_call 87;refine (MX.out _ (HB1.out.trans (BL2.out.mono hs1))).mono ?_;rintro e wm ⟨rfl,hbm⟩;have O3:=own_below HO2.out hbm;have B3:=BL2.out.trans (hbm.mono BL2.out.size);obtain ⟨ce,o4⟩:=SE.out _ O3;have fe:=O3.frozenAt (q*5+2);have HO3:=Lib.hid o4;have BL3:=Lib.hid (B3.setCell (p:=⟨g3,q*5+2,none⟩) hg3 (.int .i64 ((ne:Int)+1)));clear O3 B3 hbm o4)
         | (go_at_call 114;refine (FX.out _ (HB1.out.trans (BL1.out.mono hs1))).mono ?_;rintro e wf ⟨rfl,hbf⟩;have O2:=own_below HO1.out hbf;have B2:=BL1.out.trans (hbf.mono BL1.out.size);have HO2:=Lib.hid (SF.out _ O2);have BL2:=Lib.hid B2;clear O2 B2 hbf)
         | (go_at_call 46;refine (VX.out _ (HB1.out.trans (BL0.out.mono hs1))).mono ?_;rintro e wv ⟨rfl,hbv⟩;have O1:=own_below HO0.out hbv;have B1:=BL0.out.trans (hbv.mono BL0.out.size);obtain ⟨cv,o2⟩:=SV.out _ O1;have fv:=O1.frozenAt (q*5+1);have HO1:=Lib.hid o2;have BL1:=Lib.hid (B1.setCell (p:=⟨g3,q*5+1,none⟩) hg3 (.int .i64 ((nv:Int)+1)));clear O1 B1 hbv o2))
        go_roundw
        case rel =>
         exact ⟨k+1,p1,c3,some ⟨g3,0,none⟩,mv+1,mf,by omega,by omega,rfl,by go_num,rfl,by go_num,MV.out.symm,MF.out.symm,HP1.out,HO3.out,BL3.out⟩
        case measure=>simp [intOf];omega
       ·have VX:Hid (∀ W,Below w.heap.size w W→Calls Tryz.prog 46 #[.pointer (some ⟨g,0,none⟩),.int .i64 (k:Int)] W fun e w''=>e=.returned (.int .i64 (mv:Int))∧Below W.heap.size W w''):=fun W m=>by rw [HMV.out,← name_lead HI.out.1 hlt hv];exact vertex_in g l b root lone k W (HM.out W m) hlt
        have SV:Hid (∀ W:World,W.ownsRow w1.heap.size 144 5 (.slice (some ⟨g3,0,none⟩) p1 c3) p1 (I64 (pRow l p1 k k k 0))→W.cell? ⟨g3,q*5+1,none⟩=some (.int .i64 (nv:Int))∧(W.setCell ⟨g3,q*5+1,none⟩ (.int .i64 ((nv:Int)+1))).ownsRow w1.heap.size 144 5 (.slice (some ⟨g3,0,none⟩) p1 c3) p1 (I64 (pRow l p1 (k+1) k k 0))):=fun W H=>step_v HQ.out hqp hv HNV.out H
        have MV:Hid (met l (k+1)=mv+1):=by show _=_;rw [met_lead l k hv,HMV.out]
        have FX:Hid (∀ W,Below w.heap.size w W→Calls Tryz.prog 114 #[.pointer (some ⟨g,0,none⟩),.int .i64 (k:Int)] W fun e w''=>e=.returned (.int .i64 (xf:Int))∧Below W.heap.size W w''):=fun W m=>by rw [HXF.out];exact face_in g l b root lone k W (HM.out W m) hlt
        have SF:Hid (∀ W:World,W.ownsRow w1.heap.size 144 5 (.slice (some ⟨g3,0,none⟩) p1 c3) p1 (I64 (pRow l p1 (k+1) k k 0))→W.ownsRow w1.heap.size 144 5 (.slice (some ⟨g3,0,none⟩) p1 c3) p1 (I64 (pRow l p1 (k+1) k (k+1) 0))):=fun W H=>by rw [← row_b0 hf];exact H
        have nxf:((xf:Int) == (mf:Int))=false:=by have:=name_not HI.out.2 (by rw [phiL_len];exact hlt) hf;rw [← HXF.out,← HMF.out] at this;rw [beq_eq_false_iff_ne];omega
        have MF:Hid (met (phiL l) (k+1)=mf):=by show _=_;rw [met_not _ k hf,HMF.out]
        have SE:Hid (∀ W:World,W.ownsRow w1.heap.size 144 5 (.slice (some ⟨g3,0,none⟩) p1 c3) p1 (I64 (pRow l p1 (k+1) k (k+1) 0))→W.ownsRow w1.heap.size 144 5 (.slice (some ⟨g3,0,none⟩) p1 c3) p1 (I64 (pRow l p1 (k+1) (k+1) (k+1) 0))):=fun W H=>by rw [← row_e0 he];exact H
        have lmt:decide (k < mk)=false:=by rw [decide_eq_false_iff_not];rw [mateN_eq] at HMK;have:=HMK.out;rw [if_neg he] at this;omega
        clear HMV HXV HMF HXF HMK hv hf he HQ HNV HNF HNE
        go_wp2_with (first
         | (go_at_call 87;refine (MX.out _ (HB1.out.trans (BL2.out.mono hs1))).mono ?_;rintro e wm ⟨rfl,hbm⟩;have O3:=own_below HO2.out hbm;have B3:=BL2.out.trans (hbm.mono BL2.out.size);have HO3:=Lib.hid (SE.out _ O3);have BL3:=Lib.hid B3;clear O3 B3 hbm)
         | (go_at_call 114;refine (FX.out _ (HB1.out.trans (BL1.out.mono hs1))).mono ?_;rintro e wf ⟨rfl,hbf⟩;have O2:=own_below HO1.out hbf;have B2:=BL1.out.trans (hbf.mono BL1.out.size);have HO2:=Lib.hid (SF.out _ O2);have BL2:=Lib.hid B2;clear O2 B2 hbf)
         | (go_at_call 46;refine (VX.out _ (HB1.out.trans (BL0.out.mono hs1))).mono ?_;rintro e wv ⟨rfl,hbv⟩;have O1:=own_below HO0.out hbv;have B1:=BL0.out.trans (hbv.mono BL0.out.size);obtain ⟨cv,o2⟩:=SV.out _ O1;have fv:=O1.frozenAt (q*5+1);have HO1:=Lib.hid o2;have BL1:=Lib.hid (B1.setCell (p:=⟨g3,q*5+1,none⟩) hg3 (.int .i64 ((nv:Int)+1)));clear O1 B1 hbv o2))
        go_roundw
        case rel =>
         exact ⟨k+1,p1,c3,some ⟨g3,0,none⟩,mv+1,mf,by omega,by omega,rfl,by go_num,rfl,by go_num,MV.out.symm,MF.out.symm,HP1.out,HO3.out,BL3.out⟩
        case measure=>simp [intOf];omega
     ·by_cases hf:Leads (phiL l) k
      ·by_cases he:k%2=0
       ·have VX:Hid (∀ W,Below w.heap.size w W→Calls Tryz.prog 46 #[.pointer (some ⟨g,0,none⟩),.int .i64 (k:Int)] W fun e w''=>e=.returned (.int .i64 (xv:Int))∧Below W.heap.size W w''):=fun W m=>by rw [HXV.out];exact vertex_in g l b root lone k W (HM.out W m) hlt
        have SV:Hid (∀ W:World,W.ownsRow w1.heap.size 144 5 (.slice (some ⟨g3,0,none⟩) p1 c3) p1 (I64 (pRow l p1 k k k 0))→W.ownsRow w1.heap.size 144 5 (.slice (some ⟨g3,0,none⟩) p1 c3) p1 (I64 (pRow l p1 (k+1) k k 0))):=fun W H=>by rw [← row_v0 hv];exact H
        have nxv:((xv:Int) == (mv:Int))=false:=by have:=name_not HI.out.1 hlt hv;rw [← HXV.out,← HMV.out] at this;rw [beq_eq_false_iff_ne];omega
        have MV:Hid (met l (k+1)=mv):=by show _=_;rw [met_not l k hv,HMV.out]
        have FX:Hid (∀ W,Below w.heap.size w W→Calls Tryz.prog 114 #[.pointer (some ⟨g,0,none⟩),.int .i64 (k:Int)] W fun e w''=>e=.returned (.int .i64 (mf:Int))∧Below W.heap.size W w''):=fun W m=>by rw [HMF.out,← name_lead HI.out.2 (by rw [phiL_len];exact hlt) hf];exact face_in g l b root lone k W (HM.out W m) hlt
        have SF:Hid (∀ W:World,W.ownsRow w1.heap.size 144 5 (.slice (some ⟨g3,0,none⟩) p1 c3) p1 (I64 (pRow l p1 (k+1) k k 0))→W.cell? ⟨g3,q*5+3,none⟩=some (.int .i64 (nf:Int))∧(W.setCell ⟨g3,q*5+3,none⟩ (.int .i64 ((nf:Int)+1))).ownsRow w1.heap.size 144 5 (.slice (some ⟨g3,0,none⟩) p1 c3) p1 (I64 (pRow l p1 (k+1) k (k+1) 0))):=fun W H=>step_b HQ.out hqp hf HNF.out H
        have MF:Hid (met (phiL l) (k+1)=mf+1):=by show _=_;rw [met_lead _ k hf,HMF.out]
        have SE:Hid (∀ W:World,W.ownsRow w1.heap.size 144 5 (.slice (some ⟨g3,0,none⟩) p1 c3) p1 (I64 (pRow l p1 (k+1) k (k+1) 0))→W.cell? ⟨g3,q*5+2,none⟩=some (.int .i64 (ne:Int))∧(W.setCell ⟨g3,q*5+2,none⟩ (.int .i64 ((ne:Int)+1))).ownsRow w1.heap.size 144 5 (.slice (some ⟨g3,0,none⟩) p1 c3) p1 (I64 (pRow l p1 (k+1) (k+1) (k+1) 0))):=fun W H=>step_e HQ.out hqp he HNE.out H
        have lmt:decide (k < mk)=true:=by rw [decide_eq_true_iff];rw [mateN_eq] at HMK;have:=HMK.out;rw [if_pos he] at this;omega
        clear HMV HXV HMF HXF HMK hv hf he HQ HNV HNF HNE
        go_wp2_with (first
         | (go_at_call 87;refine (MX.out _ (HB1.out.trans (BL2.out.mono hs1))).mono ?_;rintro e wm ⟨rfl,hbm⟩;have O3:=own_below HO2.out hbm;have B3:=BL2.out.trans (hbm.mono BL2.out.size);obtain ⟨ce,o4⟩:=SE.out _ O3;have fe:=O3.frozenAt (q*5+2);have HO3:=Lib.hid o4;have BL3:=Lib.hid (B3.setCell (p:=⟨g3,q*5+2,none⟩) hg3 (.int .i64 ((ne:Int)+1)));clear O3 B3 hbm o4)
         | (go_at_call 114;refine (FX.out _ (HB1.out.trans (BL1.out.mono hs1))).mono ?_;rintro e wf ⟨rfl,hbf⟩;have O2:=own_below HO1.out hbf;have B2:=BL1.out.trans (hbf.mono BL1.out.size);obtain ⟨cf,o3⟩:=SF.out _ O2;have ff:=O2.frozenAt (q*5+3);have HO2:=Lib.hid o3;have BL2:=Lib.hid (B2.setCell (p:=⟨g3,q*5+3,none⟩) hg3 (.int .i64 ((nf:Int)+1)));clear O2 B2 hbf o3)
         | (go_at_call 46;refine (VX.out _ (HB1.out.trans (BL0.out.mono hs1))).mono ?_;rintro e wv ⟨rfl,hbv⟩;have O1:=own_below HO0.out hbv;have B1:=BL0.out.trans (hbv.mono BL0.out.size);have HO1:=Lib.hid (SV.out _ O1);have BL1:=Lib.hid B1;clear O1 B1 hbv))
        go_roundw
        case rel =>
         exact ⟨k+1,p1,c3,some ⟨g3,0,none⟩,mv,mf+1,by omega,by omega,rfl,rfl,by go_num,by go_num,MV.out.symm,MF.out.symm,HP1.out,HO3.out,BL3.out⟩
        case measure=>simp [intOf];omega
       ·have VX:Hid (∀ W,Below w.heap.size w W→Calls Tryz.prog 46 #[.pointer (some ⟨g,0,none⟩),.int .i64 (k:Int)] W fun e w''=>e=.returned (.int .i64 (xv:Int))∧Below W.heap.size W w''):=fun W m=>by rw [HXV.out];exact vertex_in g l b root lone k W (HM.out W m) hlt
        have SV:Hid (∀ W:World,W.ownsRow w1.heap.size 144 5 (.slice (some ⟨g3,0,none⟩) p1 c3) p1 (I64 (pRow l p1 k k k 0))→W.ownsRow w1.heap.size 144 5 (.slice (some ⟨g3,0,none⟩) p1 c3) p1 (I64 (pRow l p1 (k+1) k k 0))):=fun W H=>by rw [← row_v0 hv];exact H
        have nxv:((xv:Int) == (mv:Int))=false:=by have:=name_not HI.out.1 hlt hv;rw [← HXV.out,← HMV.out] at this;rw [beq_eq_false_iff_ne];omega
        have MV:Hid (met l (k+1)=mv):=by show _=_;rw [met_not l k hv,HMV.out]
        have FX:Hid (∀ W,Below w.heap.size w W→Calls Tryz.prog 114 #[.pointer (some ⟨g,0,none⟩),.int .i64 (k:Int)] W fun e w''=>e=.returned (.int .i64 (mf:Int))∧Below W.heap.size W w''):=fun W m=>by rw [HMF.out,← name_lead HI.out.2 (by rw [phiL_len];exact hlt) hf];exact face_in g l b root lone k W (HM.out W m) hlt
        have SF:Hid (∀ W:World,W.ownsRow w1.heap.size 144 5 (.slice (some ⟨g3,0,none⟩) p1 c3) p1 (I64 (pRow l p1 (k+1) k k 0))→W.cell? ⟨g3,q*5+3,none⟩=some (.int .i64 (nf:Int))∧(W.setCell ⟨g3,q*5+3,none⟩ (.int .i64 ((nf:Int)+1))).ownsRow w1.heap.size 144 5 (.slice (some ⟨g3,0,none⟩) p1 c3) p1 (I64 (pRow l p1 (k+1) k (k+1) 0))):=fun W H=>step_b HQ.out hqp hf HNF.out H
        have MF:Hid (met (phiL l) (k+1)=mf+1):=by show _=_;rw [met_lead _ k hf,HMF.out]
        have SE:Hid (∀ W:World,W.ownsRow w1.heap.size 144 5 (.slice (some ⟨g3,0,none⟩) p1 c3) p1 (I64 (pRow l p1 (k+1) k (k+1) 0))→W.ownsRow w1.heap.size 144 5 (.slice (some ⟨g3,0,none⟩) p1 c3) p1 (I64 (pRow l p1 (k+1) (k+1) (k+1) 0))):=fun W H=>by rw [← row_e0 he];exact H
        have lmt:decide (k < mk)=false:=by rw [decide_eq_false_iff_not];rw [mateN_eq] at HMK;have:=HMK.out;rw [if_neg he] at this;omega
        clear HMV HXV HMF HXF HMK hv hf he HQ HNV HNF HNE
        go_wp2_with (first
         | (go_at_call 87;refine (MX.out _ (HB1.out.trans (BL2.out.mono hs1))).mono ?_;rintro e wm ⟨rfl,hbm⟩;have O3:=own_below HO2.out hbm;have B3:=BL2.out.trans (hbm.mono BL2.out.size);have HO3:=Lib.hid (SE.out _ O3);have BL3:=Lib.hid B3;clear O3 B3 hbm)
         | (go_at_call 114;refine (FX.out _ (HB1.out.trans (BL1.out.mono hs1))).mono ?_;rintro e wf ⟨rfl,hbf⟩;have O2:=own_below HO1.out hbf;have B2:=BL1.out.trans (hbf.mono BL1.out.size);obtain ⟨cf,o3⟩:=SF.out _ O2;have ff:=O2.frozenAt (q*5+3);have HO2:=Lib.hid o3;have BL2:=Lib.hid (B2.setCell (p:=⟨g3,q*5+3,none⟩) hg3 (.int .i64 ((nf:Int)+1)));clear O2 B2 hbf o3)
         | (go_at_call 46;refine (VX.out _ (HB1.out.trans (BL0.out.mono hs1))).mono ?_;rintro e wv ⟨rfl,hbv⟩;have O1:=own_below HO0.out hbv;have B1:=BL0.out.trans (hbv.mono BL0.out.size);have HO1:=Lib.hid (SV.out _ O1);have BL1:=Lib.hid B1;clear O1 B1 hbv))
        go_roundw
        case rel =>
         exact ⟨k+1,p1,c3,some ⟨g3,0,none⟩,mv,mf+1,by omega,by omega,rfl,rfl,by go_num,by go_num,MV.out.symm,MF.out.symm,HP1.out,HO3.out,BL3.out⟩
        case measure=>simp [intOf];omega
      ·by_cases he:k%2=0
       ·have VX:Hid (∀ W,Below w.heap.size w W→Calls Tryz.prog 46 #[.pointer (some ⟨g,0,none⟩),.int .i64 (k:Int)] W fun e w''=>e=.returned (.int .i64 (xv:Int))∧Below W.heap.size W w''):=fun W m=>by rw [HXV.out];exact vertex_in g l b root lone k W (HM.out W m) hlt
        have SV:Hid (∀ W:World,W.ownsRow w1.heap.size 144 5 (.slice (some ⟨g3,0,none⟩) p1 c3) p1 (I64 (pRow l p1 k k k 0))→W.ownsRow w1.heap.size 144 5 (.slice (some ⟨g3,0,none⟩) p1 c3) p1 (I64 (pRow l p1 (k+1) k k 0))):=fun W H=>by rw [← row_v0 hv];exact H
        have nxv:((xv:Int) == (mv:Int))=false:=by have:=name_not HI.out.1 hlt hv;rw [← HXV.out,← HMV.out] at this;rw [beq_eq_false_iff_ne];omega
        have MV:Hid (met l (k+1)=mv):=by show _=_;rw [met_not l k hv,HMV.out]
        have FX:Hid (∀ W,Below w.heap.size w W→Calls Tryz.prog 114 #[.pointer (some ⟨g,0,none⟩),.int .i64 (k:Int)] W fun e w''=>e=.returned (.int .i64 (xf:Int))∧Below W.heap.size W w''):=fun W m=>by rw [HXF.out];exact face_in g l b root lone k W (HM.out W m) hlt
        have SF:Hid (∀ W:World,W.ownsRow w1.heap.size 144 5 (.slice (some ⟨g3,0,none⟩) p1 c3) p1 (I64 (pRow l p1 (k+1) k k 0))→W.ownsRow w1.heap.size 144 5 (.slice (some ⟨g3,0,none⟩) p1 c3) p1 (I64 (pRow l p1 (k+1) k (k+1) 0))):=fun W H=>by rw [← row_b0 hf];exact H
        have nxf:((xf:Int) == (mf:Int))=false:=by have:=name_not HI.out.2 (by rw [phiL_len];exact hlt) hf;rw [← HXF.out,← HMF.out] at this;rw [beq_eq_false_iff_ne];omega
        have MF:Hid (met (phiL l) (k+1)=mf):=by show _=_;rw [met_not _ k hf,HMF.out]
        have SE:Hid (∀ W:World,W.ownsRow w1.heap.size 144 5 (.slice (some ⟨g3,0,none⟩) p1 c3) p1 (I64 (pRow l p1 (k+1) k (k+1) 0))→W.cell? ⟨g3,q*5+2,none⟩=some (.int .i64 (ne:Int))∧(W.setCell ⟨g3,q*5+2,none⟩ (.int .i64 ((ne:Int)+1))).ownsRow w1.heap.size 144 5 (.slice (some ⟨g3,0,none⟩) p1 c3) p1 (I64 (pRow l p1 (k+1) (k+1) (k+1) 0))):=fun W H=>step_e HQ.out hqp he HNE.out H
        have lmt:decide (k < mk)=true:=by rw [decide_eq_true_iff];rw [mateN_eq] at HMK;have:=HMK.out;rw [if_pos he] at this;omega
        clear HMV HXV HMF HXF HMK hv hf he HQ HNV HNF HNE
        go_wp2_with (first
         | (go_at_call 87;refine (MX.out _ (HB1.out.trans (BL2.out.mono hs1))).mono ?_;rintro e wm ⟨rfl,hbm⟩;have O3:=own_below HO2.out hbm;have B3:=BL2.out.trans (hbm.mono BL2.out.size);obtain ⟨ce,o4⟩:=SE.out _ O3;have fe:=O3.frozenAt (q*5+2);have HO3:=Lib.hid o4;have BL3:=Lib.hid (B3.setCell (p:=⟨g3,q*5+2,none⟩) hg3 (.int .i64 ((ne:Int)+1)));clear O3 B3 hbm o4)
         | (go_at_call 114;refine (FX.out _ (HB1.out.trans (BL1.out.mono hs1))).mono ?_;rintro e wf ⟨rfl,hbf⟩;have O2:=own_below HO1.out hbf;have B2:=BL1.out.trans (hbf.mono BL1.out.size);have HO2:=Lib.hid (SF.out _ O2);have BL2:=Lib.hid B2;clear O2 B2 hbf)
         | (go_at_call 46;refine (VX.out _ (HB1.out.trans (BL0.out.mono hs1))).mono ?_;rintro e wv ⟨rfl,hbv⟩;have O1:=own_below HO0.out hbv;have B1:=BL0.out.trans (hbv.mono BL0.out.size);have HO1:=Lib.hid (SV.out _ O1);have BL1:=Lib.hid B1;clear O1 B1 hbv))
        go_roundw
        case rel =>
         exact ⟨k+1,p1,c3,some ⟨g3,0,none⟩,mv,mf,by omega,by omega,rfl,rfl,rfl,by go_num,MV.out.symm,MF.out.symm,HP1.out,HO3.out,BL3.out⟩
        case measure=>simp [intOf];omega
       ·have VX:Hid (∀ W,Below w.heap.size w W→Calls Tryz.prog 46 #[.pointer (some ⟨g,0,none⟩),.int .i64 (k:Int)] W fun e w''=>e=.returned (.int .i64 (xv:Int))∧Below W.heap.size W w''):=fun W m=>by rw [HXV.out];exact vertex_in g l b root lone k W (HM.out W m) hlt
        have SV:Hid (∀ W:World,W.ownsRow w1.heap.size 144 5 (.slice (some ⟨g3,0,none⟩) p1 c3) p1 (I64 (pRow l p1 k k k 0))→W.ownsRow w1.heap.size 144 5 (.slice (some ⟨g3,0,none⟩) p1 c3) p1 (I64 (pRow l p1 (k+1) k k 0))):=fun W H=>by rw [← row_v0 hv];exact H
        have nxv:((xv:Int) == (mv:Int))=false:=by have:=name_not HI.out.1 hlt hv;rw [← HXV.out,← HMV.out] at this;rw [beq_eq_false_iff_ne];omega
        have MV:Hid (met l (k+1)=mv):=by show _=_;rw [met_not l k hv,HMV.out]
        have FX:Hid (∀ W,Below w.heap.size w W→Calls Tryz.prog 114 #[.pointer (some ⟨g,0,none⟩),.int .i64 (k:Int)] W fun e w''=>e=.returned (.int .i64 (xf:Int))∧Below W.heap.size W w''):=fun W m=>by rw [HXF.out];exact face_in g l b root lone k W (HM.out W m) hlt
        have SF:Hid (∀ W:World,W.ownsRow w1.heap.size 144 5 (.slice (some ⟨g3,0,none⟩) p1 c3) p1 (I64 (pRow l p1 (k+1) k k 0))→W.ownsRow w1.heap.size 144 5 (.slice (some ⟨g3,0,none⟩) p1 c3) p1 (I64 (pRow l p1 (k+1) k (k+1) 0))):=fun W H=>by rw [← row_b0 hf];exact H
        have nxf:((xf:Int) == (mf:Int))=false:=by have:=name_not HI.out.2 (by rw [phiL_len];exact hlt) hf;rw [← HXF.out,← HMF.out] at this;rw [beq_eq_false_iff_ne];omega
        have MF:Hid (met (phiL l) (k+1)=mf):=by show _=_;rw [met_not _ k hf,HMF.out]
        have SE:Hid (∀ W:World,W.ownsRow w1.heap.size 144 5 (.slice (some ⟨g3,0,none⟩) p1 c3) p1 (I64 (pRow l p1 (k+1) k (k+1) 0))→W.ownsRow w1.heap.size 144 5 (.slice (some ⟨g3,0,none⟩) p1 c3) p1 (I64 (pRow l p1 (k+1) (k+1) (k+1) 0))):=fun W H=>by rw [← row_e0 he];exact H
        have lmt:decide (k < mk)=false:=by rw [decide_eq_false_iff_not];rw [mateN_eq] at HMK;have:=HMK.out;rw [if_neg he] at this;omega
        clear HMV HXV HMF HXF HMK hv hf he HQ HNV HNF HNE
        go_wp2_with (first
         | (go_at_call 87;refine (MX.out _ (HB1.out.trans (BL2.out.mono hs1))).mono ?_;rintro e wm ⟨rfl,hbm⟩;have O3:=own_below HO2.out hbm;have B3:=BL2.out.trans (hbm.mono BL2.out.size);have HO3:=Lib.hid (SE.out _ O3);have BL3:=Lib.hid B3;clear O3 B3 hbm)
         | (go_at_call 114;refine (FX.out _ (HB1.out.trans (BL1.out.mono hs1))).mono ?_;rintro e wf ⟨rfl,hbf⟩;have O2:=own_below HO1.out hbf;have B2:=BL1.out.trans (hbf.mono BL1.out.size);have HO2:=Lib.hid (SF.out _ O2);have BL2:=Lib.hid B2;clear O2 B2 hbf)
         | (go_at_call 46;refine (VX.out _ (HB1.out.trans (BL0.out.mono hs1))).mono ?_;rintro e wv ⟨rfl,hbv⟩;have O1:=own_below HO0.out hbv;have B1:=BL0.out.trans (hbv.mono BL0.out.size);have HO1:=Lib.hid (SV.out _ O1);have BL1:=Lib.hid B1;clear O1 B1 hbv))
        go_roundw
        case rel =>
         exact ⟨k+1,p1,c3,some ⟨g3,0,none⟩,mv,mf,by omega,by omega,rfl,rfl,rfl,by go_num,MV.out.symm,MF.out.symm,HP1.out,HO3.out,BL3.out⟩
        case measure=>simp [intOf];omega
  ·obtain rfl:k=l.length:=by omega
   have HPE:Hid (p=pN l):=HP.out
   have hpl:p≤131072:=by omega
   clear HMV HMF HP hk hlt
   have HB1b:Hid (Below w.heap.size w wr):=HB1.out.trans (HB.out.mono hs1)
   go_wp2_with fail
   go_loopw [74] (fun i wr=>∃ (j:Nat),j≤p∧i=.int .i64 (j:Int)∧Hid (wr.ownsRow w1.heap.size 144 5 (.slice A3 p c3) p (I64 (pRow l p l.length l.length l.length j)))∧Hid (Below w1.heap.size w1 wr)) (fun i _=>p - (intOf i).toNat)
   case atStart=>exact ⟨0,by omega,rfl,HO,HB⟩
   case round =>
    clear HO HB HB1b
    obtain ⟨j,hj,rfl,HO,HB⟩:=hrel
    by_cases hjp:j < p
    ·obtain ⟨g3,rfl,hg3,hg3'⟩:=own_some5 HO.out (show 0 < p by omega)
     obtain ⟨G,hG,hE⟩:=pG_is HI.out.1 HEV.out HI.out.2 (show j < pN l by have:=HPE.out;omega)
     have cl:∀ f,f < 5→wr.cell? ⟨g3,j*5+f,none⟩=some (.int .i64 (pc l l.length l.length l.length j (5*j+f))):=fun f hf=>by
      rw [own_cell5 HO.out _ (by omega),pRow_get _ _ _ _ _ _ _ (by omega),Nat.mul_comm j 5]
     have c0:=cl 0 (by omega)
     have c1:=cl 1 (by omega)
     have c2:=cl 2 (by omega)
     have c3':=cl 3 (by omega)
     have c4:=cl 4 (by omega)
     rw [Nat.add_zero,Nat.add_zero,pc_0] at c0
     rw [pc_1] at c1
     rw [pc_2] at c2
     rw [pc_3] at c3'
     rw [pc_4,if_neg (by omega)] at c4
     have f4:=HO.out.frozenAt (j*5+4)
     have hV:=pV_le l j l.length
     have hEE:=pE_le l j l.length
     have hBB:=pB_le l j l.length
     have HSE:Hid (∀ W:World,W.ownsRow w1.heap.size 144 5 (.slice (some ⟨g3,0,none⟩) p c3) p (I64 (pRow l p l.length l.length l.length j))→(W.setCell ⟨g3,j*5+4,none⟩ (.int .i64 (G:Int))).ownsRow w1.heap.size 144 5 (.slice (some ⟨g3,0,none⟩) p c3) p (I64 (pRow l p l.length l.length l.length (j+1)))):=fun W H=>by
      rw [← row_g hjp,hG,Nat.mul_comm j 5];exact own_set5 H _ _
     obtain ⟨V,hVe⟩:∃ V,V=pV l j l.length:=⟨_,rfl⟩
     obtain ⟨E,hEe⟩:∃ E,E=pE l j l.length:=⟨_,rfl⟩
     obtain ⟨B,hBe⟩:∃ B,B=pB l j l.length:=⟨_,rfl⟩
     obtain ⟨R,hRe⟩:∃ R,R=rt (part l) j:=⟨_,rfl⟩
     rw [← hVe] at hE hV c1
     rw [← hEe] at hE hEE c2
     rw [← hBe] at hE hBB c3'
     rw [← hRe] at c0
     have hsum:2 - (V:Int)+(E:Int) - (B:Int)=2*(G:Int):=by omega
     have hGl:G≤131072:=by omega
     have hdj:decide (j < p)=true:=by rw [decide_eq_true_iff];exact hjp
     have hsw:=HB.out.size
     clear cl hG hVe hEe hBe hRe hE
     go_wp2_with fail
     go_roundw
     case rel =>
      refine ⟨j+1,by omega,by go_num,(HSE.out _ HO.out).alloc _,(HB.out.setCell (p:=⟨g3,j*5+4,none⟩) hg3 _).alloc (by simp [World.setCell];omega) _⟩
     case measure=>simp [intOf];omega
    ·obtain rfl:j=p:=by omega
     have HOF:Hid (wr.ownsRow w1.heap.size 144 5 (.slice A3 j c3) j (I64 (partsC l j))):=by
      have:=HO.out
      rw [HPE.out] at this ⊢
      rw [partsC_start] at this
      exact this
     have LN:=Lib.hid (lone_p g l b root lone wr (HM.out _ (HB1.out.trans (HB.out.mono hs1))))
     clear HO hjp hj
     go_wp2_with (go_at_call 34;refine LN.out.mono ?_;rintro e w2 ⟨rfl,rfl⟩)
     go_loopw [3,96] (fun s3 i wr=>∃ (k c3:Nat) (A3:Option Addr),k≤lone∧s3=.slice A3 (j+k) c3∧i=.int .i64 (k:Int)∧Hid (wr.ownsRow w1.heap.size 144 5 (.slice A3 (j+k) c3) (j+k) (I64 (partsC l (j+k))))∧Hid (Below w1.heap.size w1 wr)) (fun _ i _=>lone - (intOf i).toNat)
     case atStart=>exact ⟨0,c3,A3,by omega,rfl,rfl,HOF,HB⟩
     case round =>
      clear HOF HB LN
      obtain ⟨k,c3,A3,hk,rfl,rfl,HO,HB⟩:=hrel
      by_cases hkl:k < lone
      ·have hown3:=HO.out.alloc (.cells #[.int .i64 (-1),.int .i64 1,.int .i64 0,.int .i64 1,.int .i64 0] 144)
       have hnw:=World.news_of_block (heap_alloc_new wr (.cells #[.int .i64 (-1),.int .i64 1,.int .i64 0,.int .i64 1,.int .i64 0] 144))
       have h1s:∀ u∈([.int .i64 (-1),.int .i64 1,.int .i64 0,.int .i64 1,.int .i64 0]:List Value),u.oneCell'=true:=by simp [Value.oneCell']
       have t1:j+k+1≤maxLen:=by simp only [maxLen];omega
       have t2:(j+k+1)*40≤140737488355328:=by omega
       have hsw:=HB.out.size
       have t3:w1.heap.size≤(wr.alloc (.cells #[.int .i64 (-1),.int .i64 1,.int .i64 0,.int .i64 1,.int .i64 0] 144)).heap.size:=by simp;omega
       have BLA:=Lib.hid (HB.out.alloc hsw (.cells #[.int .i64 (-1),.int .i64 1,.int .i64 0,.int .i64 1,.int .i64 0] 144))
       have RN:Hid (I64 (partsC l (j+k))++[.int .i64 (-1),.int .i64 1,.int .i64 0,.int .i64 1,.int .i64 0]=I64 (partsC l (j+k+1))):=by
        show _=_
        rw [← partsC_lone l (j+k) (by have:=HPE.out;omega),I64_append];rfl
       have hdk:decide (k < lone)=true:=by rw [decide_eq_true_iff];exact hkl
       go_wp2_with (first
        | (at_builtin;go_must (refine wpList_append_lies _ rfl _ _ 111 rfl w1.heap.size 144 i0 (.agg #[.int .i64 0,.int .i64 0,.int .i64 0,.int .i64 0,.int .i64 0]) 5 40 Tryz.underlying111 hi0 hz0 hz1 hz2 rfl (by decide) (.slice A3 (j+k) c3) (j+k) _ rfl hown3 ⟨wr.heap.size,0,none⟩ 1 1 [.int .i64 (-1),.int .i64 1,.int .i64 0,.int .i64 1,.int .i64 0] rfl rfl hnw h1s (by decide) t1 t2 t3 _ rfl ?_)))
       intro g6 c6 w6 hown6 hg6 _ hg6'
       rw [RN.out] at hown6
       have HO6:=Lib.hid hown6
       have BL6:=Lib.hid (BLA.out.trans ((Mod.ofGrown hg6).belowB t3 (fun i hi e=>by have:=(hown3.lt i e.symm).1;omega)))
       clear hown6 hg6 hown3 hnw h1s t1 t2 t3 BLA RN hg6'
       go_wp2_with fail
       go_roundw
       case rel=>exact ⟨k+1,c6,_,by omega,by rw [Nat.add_assoc],by go_num,by rw [← Nat.add_assoc];exact HO6,BL6⟩
       case measure=>simp [intOf];omega
      ·obtain rfl:k=lone:=by omega
       go_wp2_with fail
       go_ret
       have ho:=HO.out.base_le' hs1
       rw [HPE.out] at ho ⊢
       exact .mk rfl ho (HB1.out.trans (HB.out.mono hs1))
end Go.Proofs.YtijbdnhlpbcabaaGreatDoor
