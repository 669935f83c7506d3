/- Genus, Planar, Connected of a map. made: a map of numbers, and the document's (layer 8). The document's names of parts, while they sink. The document's Names of parts. The document's count of orbits in a part. The document's Parts. The document's Parts: the walk. -/
import Derived.Test.YtajjgpkahljjmaaGreatDoorZEParts
import Derived.Test.YtajjgpkahljjmaaGreatDoorZg3
open Go.RowKit
set_option linter.unusedVariables false
namespace Go.Proofs.YtajjgpkahljjmaaGreatDoor
set_option maxRecDepth 20000
noncomputable def pgen (l:List Nat) (j:Nat):Nat:=if j < pN l then (pG l j).toNat else 0
noncomputable def genusTo (l:List Nat) (k:Nat):Nat:=((List.range k).map (pgen l)).sum
noncomputable def genusN (l:List Nat):Nat:=genusTo l (pN l)
theorem genusTo_next (l:List Nat) (k:Nat):genusTo l (k+1)=genusTo l k+pgen l k:=by
 unfold genusTo;rw [List.range_succ,List.map_append,List.sum_append];simp
theorem genusTo_lone (l:List Nat):∀ c,genusTo l (pN l+c)=genusN l
 | 0=>rfl
 | c+1=>by
   rw [← Nat.add_assoc,genusTo_next,genusTo_lone l c]
   unfold pgen;rw [if_neg (by omega)];rfl
theorem pN_le (l:List Nat):pN l≤l.length:=pn_le _ _
section
variable {l b:List Nat}
theorem pgen_is (h:Inv l b) (he:l.length%2=0) (hp:Inv (phiL l) (phiB l b)) (j:Nat):pcL l (5*j+4)=(pgen l j:Int)∧pgen l j≤l.length:=by
 unfold pcL pgen
 rw [show (5*j+4) / 5=j by omega]
 by_cases hj:j < pN l
 ·rw [if_pos hj,if_pos hj,pc_4,if_pos hj]
  obtain ⟨G,hG,hE⟩:=pG_is h he hp hj
  have:=pE_le l j l.length
  have:=pN_le l
  rw [hG]
  exact ⟨by omega,by omega⟩
 ·rw [if_neg hj,if_neg hj,if_neg (by omega),if_neg (by omega),if_neg (by omega)]
  exact ⟨rfl,by omega⟩
theorem genusTo_le (h:Inv l b) (he:l.length%2=0) (hp:Inv (phiL l) (phiB l b)):∀ k,genusTo l k≤k*l.length
 | 0=>by simp [genusTo]
 | k+1=>by
   rw [genusTo_next,Nat.add_mul,Nat.one_mul]
   have:=genusTo_le h he hp k
   have:=(pgen_is h he hp k).2
   omega
end
set_option maxHeartbeats 4000000 in
theorem genus_p (g:Nat) (l b:List Nat) (root:Int) (lone:Nat) (w:World) (h:MapAt w g l b root lone) :
  Calls Tryz.prog 77 #[.pointer (some ⟨g,0,none⟩)] w fun e w'=>e=.returned (.int .i64 (genusN l:Int))∧Below w.heap.size w w':=by
 have hle:=h.2.1
 have hln:lone≤65536:=by have:=h.1.2.2;omega
 have hev:=h.1.1
 have hinv:Inv l b∧Inv (phiL l) (phiB l b):=by obtain ⟨_,_,p,A,c,S,d,q,A',c',S',d',hb,hp,hq,_⟩:=h;exact ⟨hp.1,hq.1⟩
 have HG:=Lib.hid (fun j=>pgen_is hinv.1 hev hinv.2 j)
 have HGT:=Lib.hid (fun k=>genusTo_le hinv.1 hev hinv.2 k)
 have PT:=Lib.hid (parts_p g l b root lone w h)
 have HINF:=Lib.hid info_part5
 have hpn:=pN_le l
 have HEND:=Lib.hid (genusTo_lone l lone)
 have HN0:Hid (genusTo l 0=0):=rfl
 generalize hc:pN l+lone=c at *
 have hcl:c≤200000:=by omega
 have HGTc:Hid (∀ k,k≤c→genusTo l k≤30000000000):=fun k hk=>by
  have h1:=HGT.out k
  have h2:k*l.length≤200000*131072:=Nat.mul_le_mul (by omega) hle
  omega
 clear h hev hinv hc hpn HGT
 go_enter Tryz.func77,Tryz.ntmps77
 go_wp2_with fail
 refine PT.out.mono ?_
 rintro e w1 ⟨A,c3,rfl,hc3,hm3,hown,hb1⟩
 have HO:=Lib.hid hown
 have HB1:=Lib.hid hb1
 have hs1:=hb1.size
 clear hown hb1 PT
 go_wp2_with fail
 go_loopw [3,9] (fun s3 i wr=>∃ (k:Nat),k≤c∧s3=.int .i64 (genusTo l k:Int)∧i=.int .i64 (k:Int)∧Hid (Below w1.heap.size w1 wr)) (fun _ i _=>c - (intOf i).toNat)
 case atStart=>exact ⟨0,by omega,by rw [HN0.out];rfl,rfl,Below.refl _ _⟩
 case round =>
  obtain ⟨k,hk,rfl,rfl,HB⟩:=hrel
  by_cases hkc:k < c
  ·obtain ⟨g3,rfl,hg3,hg3'⟩:=own_some5 HO.out (show 0 < c by omega)
   have hO:=own_below HO.out HB.out
   have cl:∀ f,f < 5→wr.cell? ⟨g3,k*5+f,none⟩=some (.int .i64 (pcL l (5*k+f))):=fun f hf=>by
    rw [own_cell5 hO _ (by omega),Nat.mul_comm k 5,partsC_get _ _ _ _ hkc hf]
   have c0:=cl 0 (by omega)
   have c1:=cl 1 (by omega)
   have c2:=cl 2 (by omega)
   have c3':=cl 3 (by omega)
   have c4:=cl 4 (by omega)
   rw [(HG.out k).1] at c4
   rw [Nat.add_zero,Nat.add_zero] at c0
   have hpl:=(HG.out k).2
   have hgt:=HGTc.out k (by omega)
   have HNX:=Lib.hid (genusTo_next l k)
   have hdk:decide (k < c)=true:=by rw [decide_eq_true_iff];exact hkc
   have hsw:=HB.out.size
   generalize pcL l (5*k)=v0 at c0
   generalize pcL l (5*k+1)=v1 at c1
   generalize pcL l (5*k+2)=v2 at c2
   generalize pcL l (5*k+3)=v3 at c3'
   generalize pgen l k=v4 at *
   generalize hgk:genusTo l k=G at *
   clear cl hO hgk
   go_wp2_with fail
   go_roundw
   case rel=>exact ⟨k+1,by omega,by rw [HNX.out];go_num,by go_num,HB.out.alloc hsw _⟩
   case measure=>simp [intOf];omega
  ·obtain rfl:k=c:=by omega
   have HE:Hid (genusTo l k=genusN l):=HEND.out
   go_wp2_with fail
   go_ret
   exact ⟨by rw [HE.out];rfl,HB1.out.trans (HB.out.mono hs1)⟩
theorem connected_p (g:Nat) (l b:List Nat) (root:Int) (lone:Nat) (w:World) (h:MapAt w g l b root lone) :
  Calls Tryz.prog 36 #[.pointer (some ⟨g,0,none⟩)] w fun e w'=>e=.returned (.bool (decide (pN l+lone=1)))∧Below w.heap.size w w':=by
 have PT:=Lib.hid (parts_p g l b root lone w h)
 generalize pN l+lone=c at *
 have hcc:((c:Int) == 1)=decide (c=1):=by
  by_cases e:c=1
  ·subst e;rfl
  ·rw [decide_eq_false e,beq_eq_false_iff_ne];omega
 have HCC:=Lib.hid hcc
 clear h hcc
 go_enter Tryz.func36,Tryz.ntmps36
 go_wp2_with fail
 refine PT.out.mono ?_
 rintro e w1 ⟨A,c3,rfl,hc3,hm3,hown,hb1⟩
 have hb:=hb1
 clear hown PT
 go_wp2_with fail
 go_ret
 exact ⟨by rw [HCC.out];rfl,hb⟩
theorem planar_p (g:Nat) (l b:List Nat) (root:Int) (lone:Nat) (w:World) (h:MapAt w g l b root lone) :
  Calls Tryz.prog 35 #[.pointer (some ⟨g,0,none⟩)] w fun e w'=>e=.returned (.bool (decide (genusN l=0)))∧Below w.heap.size w w':=by
 have GN:=Lib.hid (genus_p g l b root lone w h)
 generalize genusN l=c at *
 have hcc:((c:Int) == 0)=decide (c=0):=by
  by_cases e:c=0
  ·subst e;rfl
  ·rw [decide_eq_false e,beq_eq_false_iff_ne];omega
 have HCC:=Lib.hid hcc
 clear h hcc
 go_enter Tryz.func35,Tryz.ntmps35
 go_wp2_with fail
 refine GN.out.mono ?_
 rintro e w1 ⟨rfl,hb1⟩
 go_wp2_with fail
 go_ret
 exact ⟨by rw [HCC.out];rfl,hb1⟩
end Go.Proofs.YtajjgpkahljjmaaGreatDoor
namespace Go.Proofs.YtajjgpkahljjmaaGreatDoor
set_option maxRecDepth 20000
end Go.Proofs.YtajjgpkahljjmaaGreatDoor
namespace Go.Proofs.YtajjgpkahljjmaaGreatDoor
set_option maxRecDepth 20000
structure NmOk (l N:List Nat):Prop where
 len:N.length=l.length
 le:∀ d,d < l.length→N.getD d 0≤d
 inp:∀ d,d < l.length→part l d (N.getD d 0)
def Shut (l N:List Nat) (d:Nat):Prop:=N.getD (l.getD d 0) 0=N.getD d 0∧N.getD (mateN d) 0=N.getD d 0
theorem getDN_set (y:List Nat) (k j v:Nat) (hk:k < y.length):(y.set k v).getD j 0=if j=k then v else y.getD j 0:=by
 rw [List.getD_eq_getElem?_getD,List.getD_eq_getElem?_getD,List.getElem?_set]
 by_cases h:k=j
 ·subst h;simp [hk]
 ·simp [h,Ne.symm h]
theorem sum_set:∀ (N:List Nat) (i v:Nat),i < N.length→(N.set i v).sum+N.getD i 0=N.sum+v
 | [],i,v,h=>by simp at h
 | a :: r,0,v,h=>by simp;omega
 | a :: r,i+1,v,h=>by
   have:=sum_set r i v (by simpa using h)
   simp at this ⊢
   omega
section
variable {l b N:List Nat}
theorem NmOk.start (h:Inv l b) (he:l.length%2=0):NmOk l (List.range l.length):=by
 have e:∀ d,d < l.length→(List.range l.length).getD d 0=d:=fun d hd=>by simp [List.getD_eq_getElem?_getD,List.getElem?_range hd]
 exact ⟨by simp,fun d hd=>by rw [e d hd];exact Nat.le_refl _,fun d hd=>by rw [e d hd];exact (part_eqv h he).refl d hd⟩
theorem NmOk.put (h:Inv l b) (he:l.length%2=0) (H:NmOk l N) {d x:Nat} (hd:d < l.length) (hx:x < l.length) (r:part l d x) (lt:N.getD x 0 < N.getD d 0) :
  NmOk l (N.set d (N.getD x 0))∧(N.set d (N.getD x 0)).sum < N.sum:=by
 have hq:=part_eqv h he
 have hl:=H.len
 refine ⟨⟨by simp [hl],fun y hy=>?_,fun y hy=>?_⟩,?_⟩
 ·rw [getDN_set _ _ _ _ (by omega)]
  by_cases e:y=d
  ·subst e;rw [if_pos rfl];have:=H.le y hy;omega
  ·rw [if_neg e];exact H.le y hy
 ·rw [getDN_set _ _ _ _ (by omega)]
  by_cases e:y=d
  ·subst e;rw [if_pos rfl]
   have h1:=H.le x hx
   exact hq.trans _ _ _ hd hx (by omega) r (H.inp x hx)
  ·rw [if_neg e];exact H.inp y hy
 ·have:=sum_set N d (N.getD x 0) (by omega)
  omega
theorem NmOk.done (h:Inv l b) (he:l.length%2=0) (H:NmOk l N) (hs:∀ d,d < l.length→Shut l N d) {d:Nat} (hd:d < l.length):N.getD d 0=rep (part l) d:=by
 have hpf:=sgL_pf h
 have hn:l.length=2*(l.length / 2):=by omega
 have hq:=part_eqv h he
 obtain ⟨h1,h2,h3⟩:=rep_is hq hd
 have hp:rep (part l) d < l.length:=by omega
 have key:=part_closed (S:=fun i=>N.getD i 0=N.getD (rep (part l) d) 0) hpf hn
  (fun i hi s=>by have:=(hs i hi).1;show N.getD (sgL l i) 0=_;unfold sgL;rw [this];exact s)
  (fun i hi s=>by have:=(hs i hi).2;rw [mt_mateN] at this;show N.getD (mt i) 0=_;rw [this];exact s) _ d hp hd h2
 rw [key.1 rfl]
 have a:=H.le _ hp
 have c:=H.inp _ hp
 by_cases e:N.getD (rep (part l) d) 0=rep (part l) d
 ·exact e
 ·exact absurd (hq.symm _ _ hp (by omega) c) (h3 _ (by omega))
end
def msum (wr:World) (gn n:Nat):Nat:=((rowOf wr gn n).map Int.toNat).sum
def bOf:Value→Nat
 | .bool true=>1
 | _=>0
theorem toNat_ofN (N:List Nat):(ofN N).map Int.toNat=N:=by
 unfold ofN
 rw [List.map_map]
 conv=>rhs;rw [← List.map_id N]
 apply List.map_congr_left
 intro x _
 simp
theorem msum_is {wr:World} {B gn n c:Nat} {N:List Nat} (h:wr.ownsRow B 3 1 (.slice (some ⟨gn,0,none⟩) n c) n (I64 (ofN N))):msum wr gn n=N.sum:=by
 unfold msum
 rw [rowOf_is h,toNat_ofN]
theorem ofN_setN (N:List Nat) (i v:Nat):(ofN N).set i (v:Int)=ofN (N.set i v):=by simp [ofN,List.map_set]
theorem own_setN {w:World} {base:Nat} {g n c:Nat} {y:List Nat} (h:w.ownsRow base 3 1 (.slice (some ⟨g,0,none⟩) n c) n (I64 (ofN y))) (k v:Nat) :
  (w.setCell ⟨g,k,none⟩ (.int .i64 (v:Int))).ownsRow base 3 1 (.slice (some ⟨g,0,none⟩) n c) n (I64 (ofN (y.set k v))):=by
 rw [← ofN_setN];exact own_setI h k _
theorem ofN_of {y:List Int} {N:List Nat} (hl:y.length=N.length) (h:∀ i,i < N.length→y.getD i 0=(N.getD i 0:Nat)):y=ofN N :=
 getDI_ext (by rw [hl,ofN_len]) fun i hi=>by rw [h i (by omega),ofN_get]
end Go.Proofs.YtajjgpkahljjmaaGreatDoor
namespace Go.Proofs.YtajjgpkahljjmaaGreatDoor
set_option maxRecDepth 20000
set_option maxHeartbeats 8000000 in
theorem renames_p (A:Option Addr) (c:Nat) (l b:List Nat) (root lone:Int) (w:World) (h:Rd w w.heap.size A l.length (I64 (ofN l))) (hinv:Inv l b) (he:l.length%2=0) (hn:l.length≤100000) :
  Calls Tryz.prog 91 #[.agg #[.slice A l.length c,.int .i64 root,.int .i64 lone]] w (NewI64 w (ofN (enames l))):=by
 obtain ⟨i0,hi0,hz0,hz1,hz2⟩:=info_parts info_int
 have hmk:=run_make_one (P:=Tryz.prog) 25 3 i0 (.int .i64 0) 8 Tryz.underlying25 hi0 hz0 hz1 hz2 rfl .i64 .i64 l.length (by omega) (by omega)
 have hb0:=(Below.refl w.heap.size w).alloc (Nat.le_refl _) (.cells #[.slice A l.length c,.int .i64 root,.int .i64 lone] 27)
 have H:=Lib.hid (h.below hb0)
 have HBX:=Lib.hid (Blk.new w 27 #[.slice A l.length c,.int .i64 root,.int .i64 lone])
 have HB0:=Lib.hid hb0
 have HE:=Lib.hid he
 have HI:=Lib.hid hinv
 have hx0:=HBX.out.cell 0
 simp at hx0
 have hw1s:(w.alloc (.cells #[.slice A l.length c,.int .i64 root,.int .i64 lone] 27)).heap.size=w.heap.size+1:=by simp
 have hown:=own_made (w.alloc (.cells #[.slice A l.length c,.int .i64 root,.int .i64 lone] 27)) 3 l.length (.int .i64 0) (by simp only [maxLen];omega)
 rw [← I64_replicate,hw1s] at hown
 have HOW:=Lib.hid hown
 clear h he hinv hb0 hown hw1s
 go_enter Tryz.func91,Tryz.ntmps91
 go_wp2_with fail
 generalize hw1:w.alloc (.cells #[.slice A l.length c,.int .i64 root,.int .i64 lone] 27)=w1 at *
 have hs1:w1.heap.size=w.heap.size+1:=by rw [← hw1];simp
 have HMK:=Lib.hid hmk
 clear hw1 hx0 hmk
 go_loopw [19] (fun i wr=>∃ (k:Nat) (y:List Int),k≤l.length∧i=.int .i64 (k:Int)∧Hid (∀ j,j < k→y.getD j 0=(j:Int))∧Hid (wr.ownsRow (w.heap.size+1) 3 1 (.slice (some ⟨w.heap.size+1,0,none⟩) l.length l.length) l.length (I64 y))∧Hid (Below (w.heap.size+1) w1 wr)) (fun i _=>l.length - (intOf i).toNat)
 case atStart=>exact ⟨0,List.replicate l.length 0,by omega,rfl,fun j h=>absurd h (by omega),Lib.hid (by simpa [I64] using HOW.out),(Below.refl _ _).alloc (by omega) _⟩
 case round =>
  obtain ⟨k,y,hk,rfl,HY,HO,HB⟩:=hrel
  by_cases hlt:k < l.length
  ·have hc:=own_cellI HO.out k hlt
   have hf:=HO.out.frozenAt k
   have hyl:=own_lenI HO.out
   have HY1:Hid (∀ j,j < k+1→(y.set k (k:Int)).getD j 0=(j:Int)):=fun j hj=>by
    rw [getDI_set _ _ _ _ (by omega)]
    by_cases e:j=k
    ·rw [if_pos e,e]
    ·rw [if_neg e];exact HY.out j (by omega)
   have HO1:=Lib.hid (own_setI HO.out k (k:Int))
   have HB1:=Lib.hid (HB.out.setCell (p:=⟨w.heap.size+1,k,none⟩) (Nat.le_refl _) (.int .i64 (k:Int)))
   generalize y.getD k 0=yk at hc
   clear hyl
   go_wp2_with fail
   go_roundw
   case rel=>exact ⟨k+1,y.set k (k:Int),by omega,by go_num,HY1.out,HO1.out,HB1.out⟩
   case measure=>simp [intOf];omega
  ·obtain rfl:k=l.length:=by omega
   have HO0:Hid (wr.ownsRow (w.heap.size+1) 3 1 (.slice (some ⟨w.heap.size+1,0,none⟩) l.length l.length) l.length (I64 (ofN (List.range l.length)))):=by
    rw [← ofN_of (y:=y) (by rw [own_lenI HO.out];simp) fun i hi=>by
     have hi:i < l.length:=by simpa using hi
     rw [HY.out i hi];simp [List.getD_eq_getElem?_getD,List.getElem?_range hi]]
    exact HO.out
   have HS0:=Lib.hid (NmOk.start HI.out HE.out)
   clear HO HY hlt hk HOW
   generalize List.range l.length=N0 at *
   go_wp2_with fail
   go_loopw [5] (fun s5 wr=>∃ (c:Bool) (N:List Nat),s5=.bool c∧Hid (NmOk l N)∧Hid (c=false→∀ d,d < l.length→Shut l N d)∧Hid (wr.ownsRow (w.heap.size+1) 3 1 (.slice (some ⟨w.heap.size+1,0,none⟩) l.length l.length) l.length (I64 (ofN N)))∧Hid (Below (w.heap.size+1) w1 wr)) (fun s5 wr=>msum wr (w.heap.size+1) l.length+bOf s5)
   case atStart=>exact ⟨true,N0,rfl,HS0,fun h=>(by cases h),HO0,HB⟩
   case round =>
    clear HS0 HO0 HB
    obtain ⟨ch,N,rfl,HN,HC,HO,HB⟩:=hrel
    have HMS:=Lib.hid (msum_is HO.out)
    cases ch with
    | true =>
      clear HC
      go_wp2_with fail
      go_loopw [5,30] (fun s5 i wr=>∃ (c:Bool) (k:Nat) (M:List Nat),s5=.bool c∧k≤l.length∧i=.int .i64 (k:Int)∧Hid (NmOk l M)∧Hid (M.sum≤N.sum)∧Hid (c=true→M.sum < N.sum)∧Hid (c=false→M=N∧∀ d,d < k→Shut l N d)∧Hid (wr.ownsRow (w.heap.size+1) 3 1 (.slice (some ⟨w.heap.size+1,0,none⟩) l.length l.length) l.length (I64 (ofN M)))∧Hid (Below (w.heap.size+1) w1 wr)) (fun _ i _=>l.length - (intOf i).toNat)
      case atStart=>exact ⟨false,0,N,rfl,by omega,rfl,HN,Nat.le_refl _,fun h=>(by cases h),fun _=>⟨rfl,fun d h=>absurd h (by omega)⟩,HO,HB⟩
      case round =>
       clear HO HB
       obtain ⟨ch,k,M,rfl,hk,rfl,HM,HM1,HM2,HM3,HO,HB⟩:=hrel
       by_cases hlt:k < l.length
       ·have hsw:=HB.out.size
        have hx0:wr.cell? ⟨w.heap.size,0,none⟩=some (.slice A l.length c):=Blk.cell ((HB.out.block w.heap.size (by omega)).trans HBX.out) 0
        have hr:=H.out.below (HB.out.mono (by omega))
        obtain ⟨b',o,rfl,hb'l,k1⟩:=hr.i64 (by omega)
        have t1:=k1 k hlt
        rw [ofN_get] at t1
        have MT:=Lib.hid (fun w'=>rmate_p k w' (by omega))
        have hml:=mateN_lt HE.out hlt
        have hll:=HI.out.lt k hlt
        have HSG:Hid (part l k (l.getD k 0)):=gk_sig (sgL_pf HI.out) k _
        have HMG:Hid (part l k (mateN k)):=by show part _ _ _;rw [mt_mateN];exact gk_mt (sgL_pf HI.out) (by have:=HE.out;omega) k hlt
        have HSH:Hid (∀ M:List Nat,Shut l M k↔(M.getD (l.getD k 0) 0=M.getD k 0∧M.getD (mateN k) 0=M.getD k 0)):=fun M=>Iff.rfl
        have hbw2:b' < wr.heap.size:=by omega
        clear hr k1
        generalize mateN k=mk at *
        generalize l.getD k 0=sk at *
        go_wp2_with fail
        go_region_with ((go_at_call 95;refine (MT.out _).mono ?_;rintro e w' ⟨rfl,rfl⟩))
        all_goals (
         have HOv:=Lib.hid ((HO.out.alloc (.cells #[.int .i64 (sk:Int),.int .i64 (mk:Int)] 3)).drew)
         have HBv:=Lib.hid ((HB.out.alloc (show w.heap.size+1≤wr.heap.size by omega) (.cells #[.int .i64 (sk:Int),.int .i64 (mk:Int)] 3)).drew)
         have HXv:=Lib.hid (Blk.drewN (Blk.new wr 3 #[.int .i64 (sk:Int),.int .i64 (mk:Int)]) 1)
         have hgx:w.heap.size+1 < wr.heap.size:=by have:=(own_block HO.out).2;omega
         obtain ⟨gx,hgxe⟩:∃ gx,gx=wr.heap.size:=⟨_,rfl⟩
         go_wp2_with fail
         have HXw:Hid (Blk (wr.alloc (.cells #[.int .i64 (sk:Int),.int .i64 (mk:Int)] 3)).drew wr.heap.size 3 #[.int .i64 (sk:Int),.int .i64 (mk:Int)]):=HXv.out
         generalize (wr.alloc (.cells #[.int .i64 (sk:Int),.int .i64 (mk:Int)] 3)).drew=v at *
         rw [← hgxe] at hgx HXw
         simp only [← hgxe]
         clear hgxe hsw hx0 t1 hbw2 HXv HO HB
         go_simp
         go_loopw [5,42] (fun s5 i wr=>∃ (ch:Bool) (j:Nat) (M:List Nat),s5=.bool ch∧j≤2∧i=.int .i64 (j:Int)∧Hid (NmOk l M)∧Hid (M.sum≤N.sum)∧Hid (ch=true→M.sum < N.sum)∧Hid (ch=false→M=N∧(∀ d,d < k→Shut l N d)∧(1≤j→N.getD sk 0=N.getD k 0)∧(2≤j→N.getD mk 0=N.getD k 0)) ∧
          Hid (wr.ownsRow (w.heap.size+1) 3 1 (.slice (some ⟨w.heap.size+1,0,none⟩) l.length l.length) l.length (I64 (ofN M)))∧Hid (Blk wr gx 3 #[.int .i64 (sk:Int),.int .i64 (mk:Int)])∧Hid (Below (w.heap.size+1) w1 wr)) (fun _ i _=>2 - (intOf i).toNat)
         case atStart=>exact ⟨ch,0,M,rfl,by omega,rfl,HM,HM1,HM2,fun h=>⟨(HM3.out h).1,(HM3.out h).2,fun h=>absurd h (by omega),fun h=>absurd h (by omega)⟩,HOv,HXw,HBv⟩
         case round =>
          clear HM HM1 HM2 HM3 HOv HXw HBv
          obtain ⟨ch,j,M,rfl,hj,rfl,HM,HM1,HM2,HM3,HO,HX,HB⟩:=hrel
          by_cases hj2:j < 2
          ·have hex:∃ x:Nat,wr.cell? ⟨gx,j,none⟩=some (.int .i64 (x:Int))∧x < l.length∧part l k x∧(j=0→x=sk)∧(j=1→x=mk):=by
            obtain rfl | rfl:j=0∨j=1:=by omega
            ·exact ⟨sk,HX.out.cell 0,hll,HSG.out,fun _=>rfl,fun h=>absurd h (by omega)⟩
            ·exact ⟨mk,HX.out.cell 1,hml,HMG.out,fun h=>absurd h (by omega),fun _=>rfl⟩
           obtain ⟨x,hcx0,hxl,hpx,hx0,hx1⟩:=hex
           have HPX:=Lib.hid hpx
           have HX0:=Lib.hid hx0
           have HX1:=Lib.hid hx1
           have ck:=own_cellI HO.out k hlt
           have cx:=own_cellI HO.out x hxl
           rw [ofN_get] at ck cx
           have fk:=HO.out.frozenAt k
           have fx:=HO.out.frozenAt x
           clear hpx hx0 hx1
           by_cases h1:M.getD x 0 < M.getD k 0
           ·obtain ⟨P1,P2⟩:=HM.out.put HI.out HE.out hlt hxl HPX.out h1
            have HP1:=Lib.hid P1
            have HP2:=Lib.hid P2
            have hne:x≠k:=fun e=>by rw [e] at h1;exact absurd h1 (Nat.lt_irrefl _)
            have hne':k≠x:=fun e=>hne e.symm
            obtain ⟨a,ha⟩:∃ a,a=M.getD k 0:=⟨_,rfl⟩
            obtain ⟨e,hee⟩:∃ e,e=M.getD x 0:=⟨_,rfl⟩
            rw [← ha] at ck h1
            rw [← hee] at cx h1 HP1 HP2
            have d1:decide (e < a)=true:=by rw [decide_eq_true_iff];exact h1
            have HA:=Lib.hid ha
            have HEE:=Lib.hid hee
            clear ha hee P1 P2
            go_wp2_with fail
            go_quiet (fail)
            have HOq:Hid ((wr.drewN nq).ownsRow (w.heap.size+1) 3 1 (.slice (some ⟨w.heap.size+1,0,none⟩) l.length l.length) l.length (I64 (ofN M))):=own_below HO.out (below_draws (Below.refl _ _) nq)
            have HXq:Hid (Blk (wr.drewN nq) gx 3 #[.int .i64 (sk:Int),.int .i64 (mk:Int)]):=HX.out.drewN nq
            have HBq:Hid (Below (w.heap.size+1) w1 (wr.drewN nq)):=below_draws HB.out nq
            clear ck cx fk fx hcx0 HO HX HB
            generalize wr.drewN nq=wx at *
            have ck:=own_cellI HOq.out k hlt
            have cx:=own_cellI HOq.out x hxl
            rw [ofN_get] at ck cx
            have fk:=HOq.out.frozenAt k
            have fx:=HOq.out.frozenAt x
            rw [← HA.out] at ck
            rw [← HEE.out] at cx
            have HO1:=Lib.hid (own_setN HOq.out k e)
            have HX2:=Lib.hid (HXq.out.mod (Mod.setCell (p:=⟨w.heap.size+1,k,none⟩) (Mod.refl (fun i=>i=w.heap.size+1) wx) (fun _=>rfl) (.int .i64 (e:Int))) (by omega))
            have HB1:=Lib.hid (HBq.out.setCell (p:=⟨w.heap.size+1,k,none⟩) (Nat.le_refl _) (.int .i64 (e:Int)))
            go_wp2_with fail
            go_quiet (fail)
            go_wp2_with fail
            go_roundw
            case rel=>exact ⟨true,j+1,M.set k e,rfl,by omega,by go_num,HP1.out,Nat.le_of_lt (Nat.lt_of_lt_of_le HP2.out HM1.out),fun _=>Nat.lt_of_lt_of_le HP2.out HM1.out,fun h=>(by cases h),own_below HO1.out (below_draws (Below.refl _ _) _),HX2.out.drewN _,below_draws HB1.out _⟩
            case measure=>simp [intOf];omega
           ·by_cases h2:M.getD k 0 < M.getD x 0
            ·obtain ⟨P1,P2⟩:=HM.out.put HI.out HE.out hxl hlt ((part_eqv HI.out HE.out).symm _ _ hlt hxl HPX.out) h2
             have HP1:=Lib.hid P1
             have HP2:=Lib.hid P2
             have hne:x≠k:=fun e=>by rw [e] at h2;exact absurd h2 (Nat.lt_irrefl _)
             have hne':k≠x:=fun e=>hne e.symm
             obtain ⟨a,ha⟩:∃ a,a=M.getD k 0:=⟨_,rfl⟩
             obtain ⟨e,hee⟩:∃ e,e=M.getD x 0:=⟨_,rfl⟩
             rw [← ha] at ck h1 h2 HP1 HP2
             rw [← hee] at cx h1 h2
             have d1:decide (e < a)=false:=by rw [decide_eq_false_iff_not];exact h1
             have d2:decide (a < e)=true:=by rw [decide_eq_true_iff];exact h2
             have HA:=Lib.hid ha
             have HEE:=Lib.hid hee
             clear ha hee P1 P2
             go_wp2_with fail
             go_quiet (fail)
             have HOq:Hid ((wr.drewN nq).ownsRow (w.heap.size+1) 3 1 (.slice (some ⟨w.heap.size+1,0,none⟩) l.length l.length) l.length (I64 (ofN M))):=own_below HO.out (below_draws (Below.refl _ _) nq)
             have HXq:Hid (Blk (wr.drewN nq) gx 3 #[.int .i64 (sk:Int),.int .i64 (mk:Int)]):=HX.out.drewN nq
             have HBq:Hid (Below (w.heap.size+1) w1 (wr.drewN nq)):=below_draws HB.out nq
             clear ck cx fk fx hcx0 HO HX HB
             generalize wr.drewN nq=wx at *
             have ck:=own_cellI HOq.out k hlt
             have cx:=own_cellI HOq.out x hxl
             rw [ofN_get] at ck cx
             have fk:=HOq.out.frozenAt k
             have fx:=HOq.out.frozenAt x
             rw [← HA.out] at ck
             rw [← HEE.out] at cx
             go_wp2_with fail
             go_quiet (fail)
             have HOr:Hid ((wx.drewN nq).ownsRow (w.heap.size+1) 3 1 (.slice (some ⟨w.heap.size+1,0,none⟩) l.length l.length) l.length (I64 (ofN M))):=own_below HOq.out (below_draws (Below.refl _ _) nq)
             have HXr:Hid (Blk (wx.drewN nq) gx 3 #[.int .i64 (sk:Int),.int .i64 (mk:Int)]):=HXq.out.drewN nq
             have HBr:Hid (Below (w.heap.size+1) w1 (wx.drewN nq)):=below_draws HBq.out nq
             clear ck cx fk fx HOq HXq HBq
             generalize wx.drewN nq=wy at *
             have ck:=own_cellI HOr.out k hlt
             have cx:=own_cellI HOr.out x hxl
             rw [ofN_get] at ck cx
             have fk:=HOr.out.frozenAt k
             have fx:=HOr.out.frozenAt x
             rw [← HA.out] at ck
             rw [← HEE.out] at cx
             have HO1:=Lib.hid (own_setN HOr.out x a)
             have HX2:=Lib.hid (HXr.out.mod (Mod.setCell (p:=⟨w.heap.size+1,x,none⟩) (Mod.refl (fun i=>i=w.heap.size+1) wy) (fun _=>rfl) (.int .i64 (a:Int))) (by omega))
             have HB1:=Lib.hid (HBr.out.setCell (p:=⟨w.heap.size+1,x,none⟩) (Nat.le_refl _) (.int .i64 (a:Int)))
             go_wp2_with fail
             go_roundw
             case rel=>exact ⟨true,j+1,M.set x a,rfl,by omega,by go_num,HP1.out,Nat.le_of_lt (Nat.lt_of_lt_of_le HP2.out HM1.out),fun _=>Nat.lt_of_lt_of_le HP2.out HM1.out,fun h=>(by cases h),HO1.out,HX2.out,HB1.out⟩
             case measure=>simp [intOf];omega
            ·have heq:M.getD x 0=M.getD k 0:=by omega
             have HEQ:=Lib.hid heq
             have HM3':Hid (ch=false→M=N∧(∀ d,d < k→Shut l N d)∧(1≤j+1→N.getD sk 0=N.getD k 0)∧(2≤j+1→N.getD mk 0=N.getD k 0)):=fun hc=>by
              obtain ⟨q1,q2,q3,q4⟩:=HM3.out hc
              refine ⟨q1,q2,fun _=>?_,fun hh=>?_⟩
              ·by_cases e0:j=0
               ·rw [← HX0.out e0,← q1];exact HEQ.out
               ·exact q3 (by omega)
              ·rw [← HX1.out (by omega),← q1];exact HEQ.out
             rw [heq] at cx
             obtain ⟨a,ha⟩:∃ a,a=M.getD k 0:=⟨_,rfl⟩
             rw [← ha] at ck cx
             have HA:=Lib.hid ha
             clear ha h1 h2 heq
             go_wp2_with fail
             go_quiet (fail)
             have HOq:Hid ((wr.drewN nq).ownsRow (w.heap.size+1) 3 1 (.slice (some ⟨w.heap.size+1,0,none⟩) l.length l.length) l.length (I64 (ofN M))):=own_below HO.out (below_draws (Below.refl _ _) nq)
             have HXq:Hid (Blk (wr.drewN nq) gx 3 #[.int .i64 (sk:Int),.int .i64 (mk:Int)]):=HX.out.drewN nq
             have HBq:Hid (Below (w.heap.size+1) w1 (wr.drewN nq)):=below_draws HB.out nq
             clear ck cx fk fx hcx0 HO HX HB
             generalize wr.drewN nq=wx at *
             have ck:=own_cellI HOq.out k hlt
             have cx:=own_cellI HOq.out x hxl
             rw [ofN_get] at ck cx
             have fk:=HOq.out.frozenAt k
             have fx:=HOq.out.frozenAt x
             rw [HEQ.out] at cx
             rw [← HA.out] at ck cx
             go_wp2_with fail
             go_quiet (fail)
             go_wp2_with fail
             go_roundw
             case rel=>exact ⟨ch,j+1,M,rfl,by omega,by go_num,HM.out,HM1.out,HM2.out,HM3'.out,own_below HOq.out (below_draws (Below.refl _ _) _),HXq.out.drewN _,below_draws HBq.out _⟩
             case measure=>simp [intOf];omega
          ·obtain rfl:j=2:=by omega
           have HM4:Hid (ch=false→M=N∧∀ d,d < k+1→Shut l N d):=fun hc=>by
            obtain ⟨q1,q2,q3,q4⟩:=HM3.out hc
            refine ⟨q1,fun d hd=>?_⟩
            by_cases e:d=k
            ·subst e;exact (HSH.out N).2 ⟨q3 (by omega),q4 (by omega)⟩
            ·exact q2 d (by omega)
           clear hj hj2
           go_wp2_with fail
           go_roundw
           case rel=>exact ⟨ch,k+1,M,rfl,by omega,by go_num,HM.out,HM1.out,HM2.out,HM4.out,HO.out,HB.out⟩
           case measure=>simp [intOf];omega)
       ·obtain rfl:k=l.length:=by omega
        have HM4:Hid (ch=false→∀ d,d < l.length→Shut l M d):=fun hc=>by
         obtain ⟨q1,q2⟩:=HM3.out hc
         rw [q1];exact q2
        have HMS2:=Lib.hid (msum_is HO.out)
        clear hk hlt
        go_wp2_with fail
        go_roundw
        case rel=>exact ⟨ch,M,rfl,HM.out,HM4.out,HO.out,HB.out⟩
        case measure =>
         rw [HMS.out,HMS2.out]
         cases ch with
         | true=>have:=HM2.out rfl;simp [bOf];omega
         | false=>have:=HM1.out;simp [bOf];omega
    | false =>
      have HREP:Hid (∀ d,d < l.length→N.getD d 0=rep (part l) d):=fun d hd=>HN.out.done HI.out HE.out (HC.out rfl) hd
      have HNO:Hid (∀ d,d < l.length→rep (part l) d≤d∧rep (part l) (rep (part l) d)=rep (part l) d):=fun d hd=>by
       obtain ⟨h1,h2,h3⟩:=rep_is (part_eqv HI.out HE.out) hd
       exact ⟨h1,(rep_least (part_eqv HI.out HE.out) (by omega)).1 h3⟩
      have hmk2:=HMK.out
      have hown:=own_made wr 3 l.length (.int .i64 0) (by simp only [maxLen];omega)
      have HOU:Hid ((wr.alloc (.cells (List.replicate l.length (.int .i64 0)).toArray 3)).ownsRow (w.heap.size+1) 3 1 (.slice (some ⟨wr.heap.size,0,none⟩) l.length l.length) l.length (I64 (List.replicate l.length 0))):=by
       rw [I64_replicate];exact hown.base_le' (by have:=HB.out.size;omega)
      have HBA:=Lib.hid (HB.out.alloc (show w.heap.size+1≤wr.heap.size by have:=HB.out.size;omega) (.cells (List.replicate l.length (.int .i64 0)).toArray 3))
      have HON:=Lib.hid (HO.out.alloc (.cells (List.replicate l.length (.int .i64 0)).toArray 3))
      have hgo:w.heap.size+1 < wr.heap.size:=by have:=(own_block HO.out).2;omega
      clear hown HC HMS HN HO HB
      go_wp2_with fail
      generalize hgx:wr.heap.size=gx at *
      clear hgx hmk2
      go_loopw [10,85] (fun s10 i wr=>∃ (k p:Nat) (y:List Int),k≤l.length∧p≤k∧s10=.int .i64 (p:Int)∧i=.int .i64 (k:Int)∧Hid (p=pn (part l) k)∧Hid (∀ x,x < k→y.getD x 0=(prt (part l) x:Nat)) ∧
       Hid (wr.ownsRow (w.heap.size+1) 3 1 (.slice (some ⟨gx,0,none⟩) l.length l.length) l.length (I64 y))∧Hid (wr.ownsRow (w.heap.size+1) 3 1 (.slice (some ⟨w.heap.size+1,0,none⟩) l.length l.length) l.length (I64 (ofN N)))∧Hid (Below (w.heap.size+1) w1 wr)) (fun _ i _=>l.length - (intOf i).toNat)
      case atStart =>
       refine ⟨0,0,List.replicate l.length 0,by omega,by omega,rfl,rfl,?_,fun x h=>absurd h (by omega),Lib.hid (by simpa [I64] using HOU.out),Lib.hid (by simpa using HON.out),Lib.hid (by simpa using HBA.out)⟩
       have:=pn_le (part l) 0
       show _=_;omega
      case round =>
       clear HOU HON HBA
       obtain ⟨k,p,y,hk,hpk,rfl,rfl,HP,HY,HO,HON,HB⟩:=hrel
       by_cases hlt:k < l.length
       ·have ck:=own_cellI HON.out k hlt
        rw [ofN_get,HREP.out k hlt] at ck
        have co:=own_cellI HO.out k hlt
        have fo:=HO.out.frozenAt k
        have hyl:=own_lenI HO.out
        have HYL:=Lib.hid hyl
        obtain ⟨hr1,hr2⟩:=HNO.out k hlt
        have HQ:=Lib.hid (part_eqv HI.out HE.out)
        have HMD:Hid (∀ u:Value,Mod (fun i=>i=gx) wr (wr.setCell ⟨gx,k,none⟩ u)):=fun u=>Mod.setCell (p:=⟨gx,k,none⟩) (Mod.refl (fun i=>i=gx) wr) (fun _=>rfl) _
        have HN1:Hid (∀ v:Int,(wr.setCell ⟨gx,k,none⟩ (.int .i64 v)).ownsRow (w.heap.size+1) 3 1 (.slice (some ⟨w.heap.size+1,0,none⟩) l.length l.length) l.length (I64 (ofN N))):=fun v=>own_mod HON.out (HMD.out _) (fun i hi e=>by simp [Value.ownBlock] at hi;omega)
        have HO1:Hid (∀ v:Int,(wr.setCell ⟨gx,k,none⟩ (.int .i64 v)).ownsRow (w.heap.size+1) 3 1 (.slice (some ⟨gx,0,none⟩) l.length l.length) l.length (I64 (y.set k v))):=fun v=>own_setI HO.out k v
        have HB1:Hid (∀ v:Int,Below (w.heap.size+1) w1 (wr.setCell ⟨gx,k,none⟩ (.int .i64 v))):=fun v=>HB.out.setCell (p:=⟨gx,k,none⟩) (Nat.le_of_lt hgo) _
        have HY1:Hid (∀ x,x < k+1→(y.set k ((prt (part l) k:Nat):Int)).getD x 0=(prt (part l) x:Nat)):=fun x hx=>by
         rw [getDI_set _ _ _ _ (by rw [HYL.out];exact hlt)]
         by_cases e:x=k
         ·rw [if_pos e,e]
         ·rw [if_neg e];exact HY.out x (by omega)
        clear hyl
        by_cases hL:rep (part l) k=k
        ·have hle2:=(rep_least HQ.out hlt).2 hL
         have e1:prt (part l) k=p:=by rw [prt_least HQ.out hlt hle2,HP.out]
         have HPN:Hid (p+1=pn (part l) (k+1)):=by show _=_;rw [(pn_next _ _).1 hle2,HP.out]
         rw [e1] at HY1
         rw [hL] at ck
         have hkg:((w.heap.size+1:Nat))≠gx:=by omega
         clear hle2 e1 hL hr1 hr2
         go_wp2_with fail
         go_roundw
         case rel=>exact ⟨k+1,p+1,y.set k (p:Int),by omega,by omega,by go_num,by go_num,HPN.out,HY1.out,HO1.out _,HN1.out _,HB1.out _⟩
         case measure=>simp [intOf];omega
        ·have hlr:rep (part l) k < k:=by omega
         have HPN:Hid (p=pn (part l) (k+1)):=by show _=_;rw [(pn_next _ _).2 (fun h=>hL ((rep_least HQ.out hlt).1 h)),HP.out]
         have cr:=own_cellI HO.out (rep (part l) k) (by omega)
         rw [HY.out _ hlr,show prt (part l) (rep (part l) k)=prt (part l) k by unfold prt;rw [hr2]] at cr
         obtain ⟨v,hv⟩:∃ v,v=prt (part l) k:=⟨_,rfl⟩
         rw [← hv] at cr HY1
         obtain ⟨r,hrr⟩:∃ r,r=rep (part l) k:=⟨_,rfl⟩
         rw [← hrr] at cr ck hlr
         have hb:((r:Int) == (k:Int))=false:=by rw [beq_eq_false_iff_ne];omega
         have hrl:r < l.length:=by omega
         clear hv hrr hL hr1 hr2
         go_wp2_with fail
         go_roundw
         case rel=>exact ⟨k+1,p,y.set k (v:Int),by omega,by omega,rfl,by go_num,HPN.out,HY1.out,HO1.out _,HN1.out _,HB1.out _⟩
         case measure=>simp [intOf];omega
       ·obtain rfl:k=l.length:=by omega
        have HYE:Hid (y=ofN (enames l)):=ofN_of (by rw [own_lenI HO.out,enames_len]) fun i hi=>by
         rw [enames_len] at hi
         rw [HY.out i hi]
         unfold enames prts
         rw [map_rangeN _ _ _ hi]
        go_wp2_with fail
        go_ret
        have ho:=HO.out.base_le' (show w.heap.size≤w.heap.size+1 by omega)
        rw [HYE.out] at ho
        refine .mk rfl ?_ (HB0.out.trans (HB.out.mono (by omega)))
        rw [ofN_len,enames_len];exact ho
end Go.Proofs.YtajjgpkahljjmaaGreatDoor
namespace Go.Proofs.YtajjgpkahljjmaaGreatDoor
set_option maxRecDepth 20000
theorem leads_orb {l b:List Nat} (h:Inv l b) {k:Nat} (hk:k < l.length):Leads l k↔∀ x,x∈orb l k→k≤x:=by
 rw [leads_least h (Nat.le_of_lt hk)]
 have hq:=(sgL_pf h).eqv
 constructor
 ·intro H x hx
  have hxl:=orb_lt h hk hx
  obtain ⟨t,e⟩:=(mem_orb h hk).1 hx
  rcases Nat.lt_or_ge x k with c | c
  ·exact absurd (hq.symm _ _ hk hxl ⟨t,by rw [sgL_it];exact e⟩) (H x c)
  ·exact c
 ·intro H j hj o
  obtain ⟨t,e⟩:=hq.symm _ _ (by omega) hk o
  have:=H j ((mem_orb h hk).2 ⟨t,by rw [← sgL_it];exact e⟩)
  omega
theorem getD_orb_mem {L:List Nat} {i:Nat} (h:i < L.length):L.getD i 0∈L:=by
 rw [List.getD_eq_getElem?_getD,List.getElem?_eq_getElem h];exact List.getElem_mem h
theorem mem_getD {L:List Nat} {x:Nat} (h:x∈L):∃ i,i < L.length∧L.getD i 0=x:=by
 obtain ⟨i,hi,e⟩:=List.mem_iff_getElem.1 h
 exact ⟨i,hi,by rw [List.getD_eq_getElem?_getD,List.getElem?_eq_getElem hi];exact e⟩
set_option maxHeartbeats 4000000 in
theorem rof_p (A A2:Option Addr) (c c2 B B2:Nat) (l b N:List Nat) (part:Nat) (w:World) (h1:Rd w B A l.length (I64 (ofN l))) (h2:Rd w B2 A2 l.length (I64 (ofN N))) (hinv:Inv l b) (hN:N.length=l.length) (hl:l.length≤1000000) :
  Calls Tryz.prog 93 #[.slice A l.length c,.slice A2 l.length c2,.int .i64 (part:Int)] w fun e w'=>e=.returned (.int .i64 (num (fun d=>N.getD d 0=part∧Leads l d) l.length:Int))∧Below w.heap.size w w':=by
 have H1:=Lib.hid h1.lt
 have H2:=Lib.hid h2.lt
 have HI:=Lib.hid hinv
 have H0:Hid (0=num (fun d=>N.getD d 0=part∧Leads l d) 0):=rfl
 clear h1 h2 hinv hN
 go_enter Tryz.func93,Tryz.ntmps93
 go_wp2_with fail
 go_loopw [7,14] (fun s7 i wr=>∃ (k p:Nat),k≤l.length∧p≤k∧s7=.int .i64 (p:Int)∧i=.int .i64 (k:Int)∧Hid (p=num (fun d=>N.getD d 0=part∧Leads l d) k)∧Hid (Below w.heap.size w wr)) (fun _ i _=>l.length - (intOf i).toNat)
 case atStart=>exact ⟨0,0,by omega,by omega,rfl,rfl,H0.out,Below.refl _ _⟩
 case round =>
  obtain ⟨k,p,hk,hpk,rfl,rfl,HP,HB⟩:=hrel
  by_cases hlt:k < l.length
  ·have hrd:=H1.out.below HB.out
   have OB:=Lib.hid (rorbit_p A c _ l b k wr hrd HI.out hl hlt)
   have hr2:=H2.out.below HB.out
   have HLO:=Lib.hid (leads_orb HI.out hlt)
   have HLT:Hid (∀ x,x∈orb l k→x < l.length):=fun x hx=>orb_lt HI.out hlt hx
   have HPL:(orb l k).length≤l.length:=by unfold orb;rw [way_len];exact per_le HI.out hlt
   have hdk:decide (k < l.length)=true:=by rw [decide_eq_true_iff];exact hlt
   have HR2:=Lib.hid hr2
   have hsr:=HB.out.size
   clear hrd hr2
   go_wp2_with fail
   refine OB.out.mono ?_
   rintro e w3 ⟨A3,k3,rfl,hk3,hm3,hown3,hb3⟩
   rw [ofN_len] at hown3 hk3 ⊢
   have HO3:=Lib.hid hown3
   have HB3:=Lib.hid (HB.out.trans (hb3.mono hsr))
   have HR3:=Lib.hid (HR2.out.below (hb3.mono hsr))
   clear hown3 hb3 OB
   obtain ⟨P,hP⟩:∃ P,P=(orb l k).length:=⟨_,rfl⟩
   rw [← hP] at HO3 hk3 HPL ⊢
   have HPE:=Lib.hid hP
   clear hP
   go_wp2_with fail
   go_loopw [9,21] (fun s9 i wx=>wx=w3∧∃ (j:Nat) (t:Bool),j≤P∧s9=.bool t∧i=.int .i64 (j:Int)∧Hid (t=true↔∀ q,q < j→k≤(orb l k).getD q 0)) (fun _ i _=>P - (intOf i).toNat)
   case atStart=>exact ⟨rfl,0,true,by omega,rfl,rfl,⟨fun _ q h=>absurd h (by omega),fun _=>rfl⟩⟩
   case round =>
    obtain ⟨rfl,j,t,hj,rfl,rfl,HT⟩:=hrel
    by_cases hjP:j < P
    ·obtain ⟨g3,rfl,hg3,hg3'⟩:=own_some HO3.out (by omega)
     have cx:=own_cellI HO3.out j hjP
     rw [ofN_get] at cx
     have HX:Hid (∀ t':Bool,(t'=true↔t=true∧k≤(orb l k).getD j 0)→(t'=true↔∀ q,q < j+1→k≤(orb l k).getD q 0)):=fun t' ht=>by
      rw [ht,HT.out]
      constructor
      ·rintro ⟨a,c⟩ q hq
       by_cases e:q=j
       ·rw [e];exact c
       ·exact a q (by omega)
      ·intro a
       exact ⟨fun q hq=>a q (by omega),a j (by omega)⟩
     obtain ⟨x,hx⟩:∃ x,x=(orb l k).getD j 0:=⟨_,rfl⟩
     rw [← hx] at cx HX
     have hdj:decide (j < P)=true:=by rw [decide_eq_true_iff];exact hjP
     clear hx
     cases t with
     | false =>
       have HX2:=Lib.hid (HX.out false ⟨fun h=>(by cases h),fun h=>(by cases h.1)⟩)
       go_wp2_with fail
       go_roundw
       case rel=>exact ⟨trivial,j+1,false,by omega,rfl,by go_num,HX2.out⟩
       case measure=>simp [intOf];omega
     | true =>
       have HX2:=Lib.hid (HX.out (decide (k≤x)) ⟨fun h=>⟨rfl,of_decide_eq_true h⟩,fun h=>decide_eq_true h.2⟩)
       go_wp2_with fail
       go_roundw
       case rel=>exact ⟨trivial,j+1,decide (k≤x),by omega,rfl,by go_num,HX2.out⟩
       case measure=>simp [intOf];omega
    ·obtain rfl:j=P:=by omega
     have HTL:Hid (t=true↔Leads l k):=by
      show _↔_
      rw [HT.out,HLO.out]
      constructor
      ·intro a x hx
       obtain ⟨i,hi,e⟩:=mem_getD hx
       rw [← e];exact a i (by rw [HPE.out];exact hi)
      ·intro a q hq
       exact a _ (getD_orb_mem (by rw [← HPE.out];exact hq))
     obtain ⟨b',o,rfl,hb'l,k1⟩:=HR3.out.i64 (by omega)
     have t1:=k1 k hlt
     rw [ofN_get] at t1
     have NX:=Lib.hid (num_next (fun d=>N.getD d 0=part∧Leads l d) k)
     have hdj:decide (j < j)=false:=by simp
     obtain ⟨v,hv⟩:∃ v,v=N.getD k 0:=⟨_,rfl⟩
     rw [← hv] at t1
     have HV:=Lib.hid hv
     clear k1 hj hjP hv
     cases t with
     | false =>
       have NX2:=Lib.hid (NX.out.2 (fun h=>by have:=HTL.out.2 h.2;cases this))
       go_wp2_with fail
       go_roundw
       case rel=>exact ⟨k+1,p,by omega,by omega,rfl,by go_num,by show _=_;rw [NX2.out,HP.out],HB3.out⟩
       case measure=>simp [intOf];omega
     | true =>
       by_cases hvp:v=part
       ·have NX2:=Lib.hid (NX.out.1 ⟨by rw [← HV.out];exact hvp,HTL.out.1 rfl⟩)
        have hb:((v:Int) == (part:Int))=true:=by rw [beq_iff_eq];omega
        clear hvp
        go_wp2_with fail
        go_roundw
        case rel=>exact ⟨k+1,p+1,by omega,by omega,by go_num,by go_num,by show _=_;rw [NX2.out,HP.out],HB3.out⟩
        case measure=>simp [intOf];omega
       ·have NX2:=Lib.hid (NX.out.2 (fun h=>hvp (by rw [HV.out];exact h.1)))
        have hb:((v:Int) == (part:Int))=false:=by rw [beq_eq_false_iff_ne];omega
        clear hvp
        go_wp2_with fail
        go_roundw
        case rel=>exact ⟨k+1,p,by omega,by omega,rfl,by go_num,by show _=_;rw [NX2.out,HP.out],HB3.out⟩
        case measure=>simp [intOf];omega
  ·obtain rfl:k=l.length:=by omega
   go_wp2_with fail
   go_ret
   exact ⟨by rw [← HP.out];rfl,HB.out⟩
end Go.Proofs.YtajjgpkahljjmaaGreatDoor
namespace Go.Proofs.YtajjgpkahljjmaaGreatDoor
set_option maxRecDepth 20000
theorem info_qart:(Tryz.prog.info? 128).map (fun i=>(i.zero,i.size,i.bytes))=some (some (.agg #[.int .i64 0,.int .i64 0,.int .i64 0,.int .i64 0,.int .i64 0]),5,40):=by kernel_rfl
theorem info_qart5:(Tryz.prog.info? 128).map (·.size)=some 5:=by kernel_rfl
def NewQt (w:World) (p:Nat) (z:List Int) (e:Ending) (w':World):Prop :=
 ∃ A c,e=.returned (.slice A p c)∧p≤c∧c≤maxLen∧w'.ownsRow w.heap.size 128 5 (.slice A p c) p (I64 z)∧Below w.heap.size w w'
theorem NewQt.mk {w w':World} {p:Nat} {z:List Int} {e:Ending} {v:Value} (he:e=.returned v) (h:w'.ownsRow w.heap.size 128 5 v p (I64 z)) (hb:Below w.heap.size w w'):NewQt w p z e w':=by
 obtain ⟨A,c,rfl,h1,h2⟩:=own_form h
 exact ⟨A,c,he,h1,h2,h,hb⟩
section
variable {l b:List Nat}
theorem pq_mate (h:Inv l b) (he:l.length%2=0) {e:Nat} (hE:2*e+1 < l.length):pq l (2*e+1)=pq l (2*e):=by
 have hpf:=sgL_pf h
 unfold pq
 rw [prt_iff (part_eqv h he) hE (by omega)]
 exact (part_eqv h he).symm _ _ (by omega) hE (gk_edge hpf e _ (by omega))
theorem num_two (h:Inv l b) (he:l.length%2=0) (j:Nat):num (fun d=>pq l d=j) l.length=2*pE l j l.length:=by
 have key:∀ k,k≤l.length / 2→num (fun d=>pq l d=j) (2*k)=2*pE l j (2*k):=fun k=>by
  induction k with
  | zero=>intro _;simp [num,pE]
  | succ k ih =>
    intro hk
    have ih':=ih (by omega)
    have hm:=pq_mate h he (show 2*k+1 < l.length by omega)
    rw [show 2*(k+1)=2*k+1+1 by omega]
    have n1:pE l j (2*k+1+1)=pE l j (2*k+1):=pE_else (.inl (by omega))
    rw [n1]
    by_cases e:pq l (2*k)=j
    ·have a1:=(num_next (fun d=>pq l d=j) (2*k)).1 e
     have a2:=(num_next (fun d=>pq l d=j) (2*k+1)).1 (by rw [hm];exact e)
     have a3:=pE_yes (l:=l) (k:=2*k) (by omega)
     rw [e] at a3
     omega
    ·have a1:=(num_next (fun d=>pq l d=j) (2*k)).2 e
     have a2:=(num_next (fun d=>pq l d=j) (2*k+1)).2 (by rw [hm];exact e)
     have a3:pE l j (2*k+1)=pE l j (2*k):=pE_else (.inr e)
     omega
 have:=key (l.length / 2) (Nat.le_refl _)
 rwa [show 2*(l.length / 2)=l.length by omega] at this
theorem enames_get (l:List Nat) {d:Nat} (hd:d < l.length):(enames l).getD d 0=pq l d:=by unfold enames prts;rw [map_rangeN _ _ _ hd];rfl
theorem num_enames (l:List Nat) (S:Nat→Prop) (j:Nat):num (fun d=>(enames l).getD d 0=j∧S d) l.length=num (fun d=>pq l d=j∧S d) l.length :=
 num_congr fun d hd=>by rw [enames_get l hd]
theorem partsC_new (h:Inv l b) (he:l.length%2=0) (hp:Inv (phiL l) (phiB l b)) {k p G:Nat} (hk:k < l.length) (H:Least (part l) k) (hp1:p=pn (part l) k) (hG:pG l p=(G:Int)) :
  partsC l p++[(k:Int),(pV l p l.length:Int),(pE l p l.length:Int),(pB l p l.length:Int),(G:Int)]=partsC l (p+1):=by
 have hlt:p < pN l:=by rw [hp1];exact pn_lt _ H hk
 unfold partsC
 rw [range_five]
 have e:∀ f,f < 5→pcL l (5*p+f)=pc l l.length l.length l.length (pN l) (5*p+f):=fun f hf=>by unfold pcL;rw [if_pos (by omega)]
 have e0:=e 0 (by omega)
 rw [Nat.add_zero] at e0
 rw [e0,e 1 (by omega),e 2 (by omega),e 3 (by omega),e 4 (by omega),pc_0,pc_1,pc_2,pc_3,pc_4,if_pos hlt,hG,hp1,rt_of H]
end
end Go.Proofs.YtajjgpkahljjmaaGreatDoor
namespace Go.Proofs.YtajjgpkahljjmaaGreatDoor
set_option maxRecDepth 20000
set_option maxHeartbeats 8000000 in
theorem reparts_p (A:Option Addr) (c:Nat) (l b:List Nat) (root:Int) (lone:Nat) (w:World) (h:Rd w w.heap.size A l.length (I64 (ofN l))) (hinv:Inv l b) (he:l.length%2=0) (hn:l.length≤100000) (hln:lone≤65536) :
  Calls Tryz.prog 57 #[.agg #[.slice A l.length c,.int .i64 root,.int .i64 (lone:Int)]] w (NewQt w (pN l+lone) (partsC l (pN l+lone))):=by
 obtain ⟨i0,hi0,hz0,hz1,hz2⟩:=info_parts info_qart
 have HINF:=Lib.hid info_qart5
 have hp:=phi_inv hinv he
 have hpl:=phiL_len l
 have hb0:=(Below.refl w.heap.size w).alloc (Nat.le_refl _) (.cells #[.slice A l.length c,.int .i64 root,.int .i64 (lone:Int)] 27)
 have hs0:(w.alloc (.cells #[.slice A l.length c,.int .i64 root,.int .i64 (lone:Int)] 27)).heap.size=w.heap.size+1:=by simp
 have h1:=(h.below hb0).lt
 have RN:=Lib.hid (renames_p A c l b root lone _ h1 hinv he hn)
 have HBX:=Lib.hid (Blk.new w 27 #[.slice A l.length c,.int .i64 root,.int .i64 (lone:Int)])
 have H:=Lib.hid h1
 have HE:=Lib.hid he
 have HI:=Lib.hid hinv
 have HP:=Lib.hid hp
 have HPL:=Lib.hid hpl
 have HB0:=Lib.hid hb0
 have x0:=HBX.out.cell 0
 have x1:=HBX.out.cell 1
 have x2:=HBX.out.cell 2
 simp at x0 x1 x2
 clear h hinv he hp hpl hb0 h1
 go_enter Tryz.func57,Tryz.ntmps57
 go_wp2_with fail
 refine RN.out.mono ?_
 generalize hw1:w.alloc (.cells #[.slice A l.length c,.int .i64 root,.int .i64 (lone:Int)] 27)=w1 at *
 rintro e w2 ⟨An,cn,rfl,hcn,hmn,hownn,hb2⟩
 rw [ofN_len,enames_len] at hownn hcn ⊢
 have hs2:=hb2.size
 have HX2:=Lib.hid (HBX.out.below hb2)
 have H2:=Lib.hid (H.out.below hb2)
 have HN2:=Lib.hid (Rd.ofOwn hownn)
 have HB2:=Lib.hid (HB0.out.trans (hb2.mono (by omega)))
 have y0:=HX2.out.cell 0
 have y1:=HX2.out.cell 1
 have y2:=HX2.out.cell 2
 simp at y0 y1 y2
 have PH:=Lib.hid (rphi_p A c l root lone w2 H2.out.lt HE.out hn)
 have hcnn:l.length≤cn:=hcn
 clear hw1 x0 x1 x2 hownn hb2 RN HBX H HB0 hcn hmn
 go_wp2_with fail
 refine PH.out.mono ?_
 rintro e w3 ⟨Ap,cp,rfl,hcp,hmp,hownp,hb3⟩
 rw [ofN_len,HPL.out] at hownp hcp ⊢
 have hs3:=hb3.size
 have HX3:=Lib.hid (HX2.out.below hb3)
 have H3:=Lib.hid ((H2.out.below (hb3.mono (by omega))).lt)
 have HN3:=Lib.hid ((HN2.out.below hb3).lt)
 have HP3:=Lib.hid (Rd.ofOwn hownp)
 have HB3:=Lib.hid (HB2.out.trans (hb3.mono (by omega)))
 clear y0 y1 y2 hownp hb3 PH HX2 H2 HN2 HB2 hmp hs2 hs0
 go_wp2_with fail
 go_loopw [3,18] (fun s3 i wr=>∃ (k p c3:Nat) (A3:Option Addr),k≤l.length∧p≤k∧s3=.slice A3 p c3∧i=.int .i64 (k:Int)∧Hid (p=pn (part l) k) ∧
  Hid (wr.ownsRow w3.heap.size 128 5 (.slice A3 p c3) p (I64 (partsC l p)))∧Hid (Below w3.heap.size w3 wr)) (fun _ i _=>l.length - (intOf i).toNat)
 case atStart =>
  refine ⟨0,0,0,none,by omega,by omega,rfl,rfl,?_,World.ownsRow_nil _ _ _ _,Below.refl _ _⟩
  have:=pn_le (part l) 0
  show _=_;omega
 case round =>
  obtain ⟨k,p,c3,A3,hk,hpk,rfl,rfl,HPN,HO,HB⟩:=hrel
  have hsr:=HB.out.size
  have HXr:=Lib.hid (HX3.out.below HB.out)
  by_cases hlt:k < l.length
  ·have hrn:=HN3.out.below HB.out
   obtain ⟨gn,on,rfl,hgn,kn⟩:=hrn.i64 (by omega)
   have cn1:=kn k hlt
   rw [ofN_get,enames_get l hlt] at cn1
   have hdk:decide (k < l.length)=true:=by rw [decide_eq_true_iff];exact hlt
   by_cases HL:Least (part l) k
   ·have hq:=pq_new HI.out HE.out hlt HL
    rw [← HPN.out] at hq
    rw [hq] at cn1
    obtain ⟨G,hG,hE⟩:=pG_is HI.out HE.out HP.out (j:=p) (by rw [HPN.out];exact pn_lt _ HL hlt)
    have HPC:=Lib.hid (partsC_new HI.out HE.out HP.out hlt HL HPN.out hG)
    have HP1:Hid (p+1=pn (part l) (k+1)):=by show _=_;rw [(pn_next _ _).1 HL,HPN.out]
    have HN2:=Lib.hid (num_two HI.out HE.out p)
    have hVl:=pV_le l p l.length
    have hEl:=pE_le l p l.length
    have hBl:=pB_le l p l.length
    have OV:Hid (∀ W,Below wr.heap.size wr W→Calls Tryz.prog 93 #[.slice A l.length c,.slice (some ⟨gn,on,none⟩) l.length cn,.int .i64 (p:Int)] W fun e w'=>e=.returned (.int .i64 (pV l p l.length:Int))∧Below W.heap.size W w'):=fun W m=>by
     have:=rof_p A (some ⟨gn,on,none⟩) c cn _ _ l b (enames l) p W ((H3.out.below HB.out).below (m.mono hsr)) ((HN3.out.below HB.out).below (m.mono hsr)) HI.out (enames_len l) (by omega)
     rw [num_enames] at this
     exact this
    have OB:Hid (∀ W,Below wr.heap.size wr W→Calls Tryz.prog 93 #[.slice Ap l.length cp,.slice (some ⟨gn,on,none⟩) l.length cn,.int .i64 (p:Int)] W fun e w'=>e=.returned (.int .i64 (pB l p l.length:Int))∧Below W.heap.size W w'):=fun W m=>by
     have:=rof_p Ap (some ⟨gn,on,none⟩) cp cn w3.heap.size w3.heap.size (phiL l) (phiB l b) (enames l) p W (by rw [HPL.out];exact (HP3.out.below HB.out).below (m.mono hsr)) (by rw [HPL.out];exact (HN3.out.below HB.out).below (m.mono hsr)) HP.out (by rw [HPL.out];exact enames_len l) (by rw [HPL.out];omega)
     rw [HPL.out,num_enames] at this
     exact this
    have z0:=HXr.out.cell 0
    simp at z0
    obtain ⟨V,hVe⟩:∃ V,V=pV l p l.length:=⟨_,rfl⟩
    obtain ⟨E,hEe⟩:∃ E,E=pE l p l.length:=⟨_,rfl⟩
    obtain ⟨B,hBe⟩:∃ B,B=pB l p l.length:=⟨_,rfl⟩
    rw [← hVe] at OV hE hVl HPC
    rw [← hEe] at hE hEl HPC HN2
    rw [← hBe] at OB hE hBl HPC
    have hsum:2 - (V:Int)+(E:Int) - (B:Int)=2*(G:Int):=by omega
    have hGl:G≤131072:=by omega
    clear hq HL hG hVe hEe hBe hE kn hrn
    go_wp2_with fail
    refine (OV.out _ (Below.refl _ _)).mono ?_
    rintro e w5 ⟨rfl,hb5⟩
    have HB5:=Lib.hid hb5
    clear hb5
    go_wp2_with fail
    refine (OB.out _ HB5.out).mono ?_
    rintro e w6 ⟨rfl,hb6⟩
    have HB6:=Lib.hid (HB5.out.trans (hb6.mono HB5.out.size))
    have HBb:=Lib.hid (HB.out.trans (HB6.out.mono hsr))
    have hs6:=HB6.out.size
    have HO6:=Lib.hid ((own_below HO.out HB6.out).alloc (.cells #[.int .i64 (k:Int),.int .i64 (V:Int),.int .i64 0,.int .i64 (B:Int),.int .i64 0] 128))
    have HBv:=Lib.hid (HBb.out.alloc (show w3.heap.size≤w6.heap.size by omega) (.cells #[.int .i64 (k:Int),.int .i64 (V:Int),.int .i64 0,.int .i64 (B:Int),.int .i64 0] 128))
    have HXv:=Lib.hid (Blk.new w6 128 #[.int .i64 (k:Int),.int .i64 (V:Int),.int .i64 0,.int .i64 (B:Int),.int .i64 0])
    have hvs:(w6.alloc (.cells #[.int .i64 (k:Int),.int .i64 (V:Int),.int .i64 0,.int .i64 (B:Int),.int .i64 0] 128)).heap.size=w6.heap.size+1:=by simp
    have HNv:=Lib.hid (HN3.out.below HBv.out)
    have HON:Hid (∀ i,(Value.slice A3 p c3).ownBlock=some i→i≠w6.heap.size):=fun i hi e=>by have:=((own_below HO.out HB6.out).lt i hi).2;omega
    clear hb6 HB5 HB6 HBb OV OB HO HB HXr z0 cn1
    go_wp2_with fail
    generalize w6.alloc (.cells #[.int .i64 (k:Int),.int .i64 (V:Int),.int .i64 0,.int .i64 (B:Int),.int .i64 0] 128)=v at *
    generalize hgb:w6.heap.size=gb at *
    clear hgb
    have hm0:Hid (num (fun d=>pq l d=p) 0=0):=rfl
    go_loopw [40] (fun i wr=>∃ (j m:Nat),j≤l.length∧m≤j∧i=.int .i64 (j:Int)∧Hid (m=num (fun d=>pq l d=p) j)∧Hid (Blk wr gb 128 #[.int .i64 (k:Int),.int .i64 (V:Int),.int .i64 (m:Int),.int .i64 (B:Int),.int .i64 0])∧Hid (Mod (fun i=>i=gb) v wr)) (fun i _=>l.length - (intOf i).toNat)
    case atStart=>exact ⟨0,0,by omega,by omega,rfl,rfl,HXv,Mod.refl _ _⟩
    case round =>
     clear HXv
     obtain ⟨j,m,hj,hmj,rfl,HM,HX,HMD⟩:=hrel
     have cb2:wr.cell? ⟨gb,2,none⟩=some (.int .i64 (m:Int)):=HX.out.cell 2
     have fb2:=HX.out.frozen 2
     by_cases hjl:j < l.length
     ·have hrn:=(HNv.out.mod HMD.out (show w3.heap.size≤v.heap.size by omega) (fun h0 i hi e=>by
       obtain ⟨a,ha,hb⟩:=hi
       cases ha
       simp at hb;omega))
      obtain ⟨gn',on',he',hgn',kn⟩:=hrn.i64 (by omega)
      cases he'
      have cn1:=kn j hjl
      rw [ofN_get,enames_get l hjl] at cn1
      have NX:=Lib.hid (num_next (fun d=>pq l d=p) j)
      have HX1:Hid (∀ u:Int,Blk (wr.setCell ⟨gb,2,none⟩ (.int .i64 u)) gb 128 #[.int .i64 (k:Int),.int .i64 (V:Int),.int .i64 u,.int .i64 (B:Int),.int .i64 0]):=fun u=>by
       have:=HX.out.set_ 2 (.int .i64 u)
       simpa using this
      have HM1:Hid (∀ u:Int,Mod (fun i=>i=gb) v (wr.setCell ⟨gb,2,none⟩ (.int .i64 u))):=fun u=>HMD.out.setCell (p:=⟨gb,2,none⟩) (fun _=>rfl) _
      have hdj:decide (j < l.length)=true:=by rw [decide_eq_true_iff];exact hjl
      obtain ⟨q,hq⟩:∃ q,q=pq l j:=⟨_,rfl⟩
      rw [← hq] at cn1
      have HQ:=Lib.hid hq
      clear hq kn hrn
      by_cases hqp:q=p
      ·have NX2:=Lib.hid (NX.out.1 (by rw [← HQ.out];exact hqp))
       have hb:((q:Int) == (p:Int))=true:=by rw [beq_iff_eq];omega
       clear hqp
       go_wp2_with fail
       go_roundw
       case rel=>exact ⟨j+1,m+1,by omega,by omega,by go_num,by show _=_;rw [NX2.out,HM.out],HX1.out _,HM1.out _⟩
       case measure=>simp [intOf];omega
      ·have NX2:=Lib.hid (NX.out.2 (by rw [← HQ.out];exact hqp))
       have hb:((q:Int) == (p:Int))=false:=by rw [beq_eq_false_iff_ne];omega
       clear hqp
       go_wp2_with fail
       go_roundw
       case rel=>exact ⟨j+1,m,by omega,by omega,by go_num,by show _=_;rw [NX2.out,HM.out],HX.out,HMD.out⟩
       case measure=>simp [intOf];omega
     ·obtain rfl:j=l.length:=by omega
      have hm2:(m:Int) / 2=(E:Int):=by have:=HM.out;have:=HN2.out;omega
      have cb0:wr.cell? ⟨gb,0,none⟩=some (.int .i64 (k:Int)):=HX.out.cell 0
      have cb1:wr.cell? ⟨gb,1,none⟩=some (.int .i64 (V:Int)):=HX.out.cell 1
      have cb3:wr.cell? ⟨gb,3,none⟩=some (.int .i64 (B:Int)):=HX.out.cell 3
      have cb4:wr.cell? ⟨gb,4,none⟩=some (.int .i64 0):=HX.out.cell 4
      have fb4:=HX.out.frozen 4
      obtain ⟨wz,hwz⟩:∃ wz,wz=(wr.setCell ⟨gb,2,none⟩ (.int .i64 (E:Int))).setCell ⟨gb,4,none⟩ (.int .i64 (G:Int)):=⟨_,rfl⟩
      have HMz:Hid (Mod (fun i=>i=gb) v wz):=by rw [hwz];exact (HMD.out.setCell (p:=⟨gb,2,none⟩) (fun _=>rfl) _).setCell (p:=⟨gb,4,none⟩) (fun _=>rfl) _
      have HOz:Hid (wz.ownsRow w3.heap.size 128 5 (.slice A3 p c3) p (I64 (partsC l p))):=own_mod HO6.out HMz.out (fun i hi e=>HON.out i hi e)
      have HBz:Hid (Below w3.heap.size w3 wz):=HBv.out.trans (HMz.out.belowB (by omega) (fun i hi e=>by omega))
      have hown3:=HOz.out.alloc (.cells #[.int .i64 (k:Int),.int .i64 (V:Int),.int .i64 (E:Int),.int .i64 (B:Int),.int .i64 (G:Int)] 128)
      have hnw:=World.news_of_block (heap_alloc_new wz (.cells #[.int .i64 (k:Int),.int .i64 (V:Int),.int .i64 (E:Int),.int .i64 (B:Int),.int .i64 (G:Int)] 128))
      have h1s:∀ u∈([.int .i64 (k:Int),.int .i64 (V:Int),.int .i64 (E:Int),.int .i64 (B:Int),.int .i64 (G:Int)]:List Value),u.oneCell'=true:=by simp [Value.oneCell']
      have t1:p+1≤maxLen:=by simp only [maxLen];omega
      have t2:(p+1)*40≤140737488355328:=by omega
      have hsz:=HBz.out.size
      have t3:w3.heap.size≤(wz.alloc (.cells #[.int .i64 (k:Int),.int .i64 (V:Int),.int .i64 (E:Int),.int .i64 (B:Int),.int .i64 (G:Int)] 128)).heap.size:=by simp;omega
      have BLA:=Lib.hid (HBz.out.alloc hsz (.cells #[.int .i64 (k:Int),.int .i64 (V:Int),.int .i64 (E:Int),.int .i64 (B:Int),.int .i64 (G:Int)] 128))
      have RN:Hid (I64 (partsC l p)++[.int .i64 (k:Int),.int .i64 (V:Int),.int .i64 (E:Int),.int .i64 (B:Int),.int .i64 (G:Int)]=I64 (partsC l (p+1))):=by
       show _=_
       rw [← HPC.out,I64_append];rfl
      have hwzs:wz.heap.size=wr.heap.size:=by rw [hwz];simp [World.setCell]
      rw [hwzs] at hnw
      clear hwzs
      rw [hwz] at hown3 hnw t3 BLA
      clear hwz hsz hj hjl HX HMD HMz HOz HBz
      go_wp2_with (first
       | (at_builtin;go_must (refine wpList_append_lies _ rfl _ _ 87 rfl w3.heap.size 128 i0 (.agg #[.int .i64 0,.int .i64 0,.int .i64 0,.int .i64 0,.int .i64 0]) 5 40 Tryz.underlying87 hi0 hz0 hz1 hz2 rfl (by decide) (.slice A3 p c3) p _ rfl hown3 ⟨wr.heap.size,0,none⟩ 1 1 [.int .i64 (k:Int),.int .i64 (V:Int),.int .i64 (E:Int),.int .i64 (B:Int),.int .i64 (G:Int)] rfl rfl hnw h1s (by decide) t1 t2 t3 _ rfl ?_)))
      intro g6 c6 w7 hown6 hg6 _ hg6'
      rw [RN.out] at hown6
      have HO6':=Lib.hid hown6
      have BL6:=Lib.hid (BLA.out.trans ((Mod.ofGrown hg6).belowB t3 (fun i hi e=>by have:=(hown3.lt i e.symm).1;omega)))
      clear hown6 hg6 hown3 hnw h1s t1 t2 t3 BLA RN hg6'
      go_wp2_with fail
      go_roundw
      case rel=>exact ⟨k+1,p+1,c6,_,by omega,by omega,rfl,by go_num,HP1.out,HO6'.out,BL6.out⟩
      case measure=>simp [intOf];omega
   ·have hq:=pq_old HI.out HE.out hlt HL
    rw [← HPN.out] at hq
    have HP1:Hid (p=pn (part l) (k+1)):=by show _=_;rw [(pn_next _ _).2 HL,HPN.out]
    obtain ⟨q,hqe⟩:∃ q,q=pq l k:=⟨_,rfl⟩
    rw [← hqe] at cn1 hq
    have hb:((q:Int) != (p:Int))=true:=by rw [bne_iff_ne];omega
    clear hqe HL kn hrn
    go_wp2_with fail
    go_roundw
    case rel=>exact ⟨k+1,p,c3,A3,by omega,by omega,rfl,by go_num,HP1.out,HO.out,HB.out⟩
    case measure=>simp [intOf];omega
  ·obtain rfl:k=l.length:=by omega
   have HPE:Hid (p=pN l):=HPN.out
   have z2:=HXr.out.cell 2
   simp at z2
   have hpl:p≤131072:=by omega
   clear HPN hk hlt
   go_wp2_with fail
   go_loopw [3,11] (fun s3 i wr=>∃ (k c3:Nat) (A3:Option Addr),k≤lone∧s3=.slice A3 (p+k) c3∧i=.int .i64 (k:Int)∧Hid (wr.ownsRow w3.heap.size 128 5 (.slice A3 (p+k) c3) (p+k) (I64 (partsC l (p+k))))∧Hid (Below w3.heap.size w3 wr)) (fun _ i _=>lone - (intOf i).toNat)
   case atStart=>exact ⟨0,c3,A3,by omega,rfl,rfl,HO,HB⟩
   case round =>
    clear HO HB z2 HXr hsr
    obtain ⟨k,c3,A3,hk,rfl,rfl,HO,HB⟩:=hrel
    have z2:=(HX3.out.below HB.out).cell 2
    simp at z2
    by_cases hkl:k < lone
    ·have hown3:=HO.out.alloc (.cells #[.int .i64 (-1),.int .i64 1,.int .i64 0,.int .i64 1,.int .i64 0] 128)
     have hnw:=World.news_of_block (heap_alloc_new wr (.cells #[.int .i64 (-1),.int .i64 1,.int .i64 0,.int .i64 1,.int .i64 0] 128))
     have h1s:∀ u∈([.int .i64 (-1),.int .i64 1,.int .i64 0,.int .i64 1,.int .i64 0]:List Value),u.oneCell'=true:=by simp [Value.oneCell']
     have t1:p+k+1≤maxLen:=by simp only [maxLen];omega
     have t2:(p+k+1)*40≤140737488355328:=by omega
     have hsw:=HB.out.size
     have t3:w3.heap.size≤(wr.alloc (.cells #[.int .i64 (-1),.int .i64 1,.int .i64 0,.int .i64 1,.int .i64 0] 128)).heap.size:=by simp;omega
     have BLA:=Lib.hid (HB.out.alloc hsw (.cells #[.int .i64 (-1),.int .i64 1,.int .i64 0,.int .i64 1,.int .i64 0] 128))
     have RN:Hid (I64 (partsC l (p+k))++[.int .i64 (-1),.int .i64 1,.int .i64 0,.int .i64 1,.int .i64 0]=I64 (partsC l (p+k+1))):=by
      show _=_
      rw [← partsC_lone l (p+k) (by have:=HPE.out;omega),I64_append];rfl
     have hdk:decide (k < lone)=true:=by rw [decide_eq_true_iff];exact hkl
     go_wp2_with (first
      | (at_builtin;go_must (refine wpList_append_lies _ rfl _ _ 87 rfl w3.heap.size 128 i0 (.agg #[.int .i64 0,.int .i64 0,.int .i64 0,.int .i64 0,.int .i64 0]) 5 40 Tryz.underlying87 hi0 hz0 hz1 hz2 rfl (by decide) (.slice A3 (p+k) c3) (p+k) _ rfl hown3 ⟨wr.heap.size,0,none⟩ 1 1 [.int .i64 (-1),.int .i64 1,.int .i64 0,.int .i64 1,.int .i64 0] rfl rfl hnw h1s (by decide) t1 t2 t3 _ rfl ?_)))
     intro g6 c6 w6 hown6 hg6 _ hg6'
     rw [RN.out] at hown6
     have HO6:=Lib.hid hown6
     have BL6:=Lib.hid (BLA.out.trans ((Mod.ofGrown hg6).belowB t3 (fun i hi e=>by have:=(hown3.lt i e.symm).1;omega)))
     clear hown6 hg6 hown3 hnw h1s t1 t2 t3 BLA RN hg6'
     go_wp2_with fail
     go_roundw
     case rel=>exact ⟨k+1,c6,_,by omega,by rw [Nat.add_assoc],by go_num,by rw [← Nat.add_assoc];exact HO6,BL6⟩
     case measure=>simp [intOf];omega
    ·obtain rfl:k=lone:=by omega
     go_wp2_with fail
     go_ret
     have ho:=HO.out.base_le' (show w.heap.size≤w3.heap.size from HB3.out.size)
     rw [HPE.out] at ho ⊢
     exact .mk rfl ho (HB3.out.trans (HB.out.mono HB3.out.size))
end Go.Proofs.YtajjgpkahljjmaaGreatDoor
