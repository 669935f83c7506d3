/- canon's walk of a part. -/
import Derived.Test.YtijbdnhlpbcabaaGreatDoorZg32
import Derived.Test.YtijbdnhlpbcabaaGreatDoorZg24
import Derived.Test.YtijbdnhlpbcabaaGreatDoorZg27
open Go.RowKit
set_option linter.unusedVariables false
set_option linter.unusedSimpArgs false
namespace Go.Proofs.YtijbdnhlpbcabaaGreatDoor
set_option maxRecDepth 100000
def WalkedPost (w:World) (D L:List Nat) (e:Ending) (w':World):Prop :=
 ∃ z:List Nat,NewI64 w (ofN z) e w'∧z.map (sgL D)=L∧∀ j∈z,j < D.length
set_option maxHeartbeats 8000000 in
theorem cwalked_p (g:Nat) (l b:List Nat) (root lone:Int) (r:Nat) (D pl:List Nat) (A AP:Option Addr) (m c n cP:Nat) (w:World) (h:MapAt w g l b root lone) (hi:Inv l b) (hr:r < l.length) (hD:D=own l r) (hm:m=D.length)
  (hRD:Rd w w.heap.size A m (I64 (ofN D))) (hn:n=l.length) (hRP:Rd w w.heap.size AP n (I64 (ofN pl))) (hp:∀ i,i < D.length→sgL pl (sgL D i)=i) :
  Calls Tryz.prog 131 #[.agg #[.int .i64 (r:Int),.slice A m c],.pointer (some ⟨g,0,none⟩),.slice AP n cP] w (WalkedPost w D (wlk l r)):=by
 have hle:=h.2.1
 have hev:=h.1.1
 obtain ⟨e1,⟨B,hB⟩,e2,e3,e4,e5⟩:=al_walk hi hev hr hD hp
 have hAl:=alN_len (l:=l) (D:=D) (pl:=pl)
 rw [← hm] at e2 hAl
 obtain ⟨A',hA'⟩:∃ A',A'=alN l D pl:=⟨_,rfl⟩
 obtain ⟨j,hj⟩:∃ j,j=sgL pl r:=⟨_,rfl⟩
 rw [← hA'] at e1 hB e4 e5 hAl
 rw [← hj] at e2 e3 e4 e5
 have hml:m≤l.length:=by
  rw [hm,hD];unfold own
  exact Nat.le_trans (List.length_filter_le _ _) (by simp)
 have hDl:Hid (∀ k,k < m→sgL D k < n):=fun k hk=>by
  have:=sgL_mem (D:=D) (show k < D.length by omega)
  rw [hD,own_mem] at this
  rw [hn];rw [← hD] at this;exact this.1
 have HSG:Hid (∀ k,k < m→sgL l (sgL D k) < n∧sgL A' k=sgL pl (sgL l (sgL D k))):=fun k hk=>by
  refine ⟨by rw [hn];exact hi.lt _ (by have:=hDl.out k hk;omega),?_⟩
  rw [hA',alN_get (by omega)]
 obtain ⟨gD,oD,rfl,hgD,cD⟩:=hRD.i64 (by omega)
 obtain ⟨gP,oP,rfl,hgP,cP'⟩:=hRP.i64 (by omega)
 have CD:Hid (∀ W,Below w.heap.size w W→∀ k,k < m→W.cell? ⟨gD,oD+k,none⟩=some (.int .i64 ((sgL D k:Nat):Int))):=fun W z k hk=>by
  have:=(z.cell (p:=⟨gD,oD+k,none⟩) hgD).trans (cD k hk)
  rwa [ofN_get] at this
 have CP:Hid (∀ W,Below w.heap.size w W→∀ k,k < n→W.cell? ⟨gP,oP+k,none⟩=some (.int .i64 ((sgL pl k:Nat):Int))):=fun W z k hk=>by
  have:=(z.cell (p:=⟨gP,oP+k,none⟩) hgP).trans (cP' k hk)
  rwa [ofN_get] at this
 have SG:Hid (∀ (W:World),Below w.heap.size w W→∀ d:Nat,d < n→Calls Tryz.prog 104 #[.pointer (some ⟨g,0,none⟩),.int .i64 (d:Int)] W fun e w'=>e=.returned (.int .i64 ((sgL l d:Nat):Int))∧Below W.heap.size W w'):=fun W z d hd=>sigma_in g l b root lone d W (h.below z) (by rw [← hn];exact hd)
 have hrn:r < n:=by omega
 have hmn:m≤131072:=by omega
 have NW:Hid (∀ (W:World) (a:Nat),Rd W W.heap.size (some ⟨a,0,none⟩) m (I64 (ofN A'))→Calls Tryz.prog 12 #[.slice (some ⟨a,0,none⟩) m m,.int .i64 (j:Int),.int .i64 0] W (NewMap W A' B (j:Int) 0)):=fun W a z=>new_ok _ m m A' B _ 0 W z hB (by rw [← hAl];exact e1) hmn (.inr ⟨by omega,by omega,by omega⟩) (by omega) (by omega)
 obtain ⟨N,hN⟩:∃ N,N=wN (sgL A') (nameOf A') (A'.length / 2) (orbits A').length j:=⟨_,rfl⟩
 have hN1:=(wN_is (sgL_pf hB) (show A'.length=2*(A'.length / 2) by omega) (one_nm hB) (fun x hx=>name_lt hB hx) (show j < A'.length by omega))
 rw [← hN] at hN1
 have hNm:N≤131072:=by have:=hN1.2.1;omega
 have hN0:0 < N:=hN1.1
 obtain ⟨ws,hws⟩:∃ ws:Nat→Nat,ws=fun i=>(wrun (sgL A') (nameOf A') (A'.length / 2) (orbits A').length j i).d:=⟨_,rfl⟩
 obtain ⟨WS,hWS⟩:∃ WS:List Int,WS=wst (sgL A') (nameOf A') (A'.length / 2) (orbits A').length j N:=⟨_,rfl⟩
 have HW0:Hid (∀ k,k < N→WS.getD (2*k) 0=((ws k:Nat):Int)):=fun k hk=>by rw [hWS,hws];exact wst_d _ _ _ _ _ hk
 have HWK:Hid ((List.range N).map ws=wlk A' j):=by show _=_;rw [hN,hws];rfl
 have OFP:Hid (∀ (W:World) (g2:Nat),MapAt W g2 A' B (j:Int) 0→Calls Tryz.prog 55 #[.pointer (some ⟨g2,0,none⟩),.int .i64 (j:Int)] W (WalkPost W N WS)):=fun W g2 z=>by
  rw [hN,hWS,hN]
  exact walkOf_p g2 A' B (j:Int) 0 j (A'.length / 2) (orbits A').length W z hB (by omega) rfl (by rw [sizes_len];omega)
 have RT:Hid (∀ (W:World) (g2:Nat),MapAt W g2 A' B (j:Int) 0→Calls Tryz.prog 33 #[.pointer (some ⟨g2,0,none⟩)] W fun e w'=>e=.returned (.int .i64 (j:Int))∧W=w'):=fun W g2 z=>root_p g2 A' B (j:Int) 0 W z
 have FIN:Hid ((wlk A' j).map (sgL D)=wlk l r∧∀ i∈wlk A' j,i < D.length):=⟨e4,e5⟩
 have HAL:Hid (A'.length=m):=hAl
 have HJ:Hid (sgL pl r=j):=hj.symm
 obtain ⟨i0,hi0,hz0,hz1,hz2⟩:=info_parts info_int
 have hmk:=run_make_one (P:=Tryz.prog) 25 3 i0 (.int .i64 0) 8 Tryz.underlying25 hi0 hz0 hz1 hz2 rfl .i64 .i64 m (by omega) (by omega)
 have hmk2:=run_make_one (P:=Tryz.prog) 25 3 i0 (.int .i64 0) 8 Tryz.underlying25 hi0 hz0 hz1 hz2 rfl .i64 .i64 N (by omega) (by omega)
 have HMK2:=Lib.hid hmk2
 have hm0:0 < m:=by omega
 have hnn:n≤131072:=by omega
 have bx:Hid (Blk (w.alloc (.cells #[.int .i64 (r:Int),.slice (some ⟨gD,oD,none⟩) m c] 177)) w.heap.size 177 #[.int .i64 (r:Int),.slice (some ⟨gD,oD,none⟩) m c]):=Blk.new w 177 #[.int .i64 (r:Int),.slice (some ⟨gD,oD,none⟩) m c]
 have Z1:Hid (Below w.heap.size w (w.alloc (.cells #[.int .i64 (r:Int),.slice (some ⟨gD,oD,none⟩) m c] 177))):=(Below.refl _ _).alloc (Nat.le_refl _) _
 have hs1:(w.alloc (.cells #[.int .i64 (r:Int),.slice (some ⟨gD,oD,none⟩) m c] 177)).heap.size=w.heap.size+1:=by simp
 have x1:=bx.out.cell 1
 simp at x1
 clear h hi hr hD hRD hRP hp hn hm hml hle hev e1 e2 e3 e4 e5 hB hA' hj hAl cD cP' hgD hgP hN hN1 hws hWS hmk2
 go_enter Tryz.func131,Tryz.ntmps131
 have om:((w.alloc (.cells #[.int .i64 (r:Int),.slice (some ⟨gD,oD,none⟩) m c] 177)).alloc (.cells (List.replicate m (Value.int .i64 0)).toArray 3)).ownsRow w.heap.size 3 1 (.slice (some ⟨w.heap.size+1,0,none⟩) m m) m (I64 (ofN (List.replicate m 0))):=by
  have:=own_made (w.alloc (.cells #[.int .i64 (r:Int),.slice (some ⟨gD,oD,none⟩) m c] 177)) 3 m (.int .i64 0) (by simp only [maxLen];omega)
  have e:I64 (ofN (List.replicate m 0))=List.replicate m (.int .i64 0):=by simp [I64,ofN]
  rw [e]
  rw [hs1] at this
  exact this.base_le' (by omega)
 have OM:=Lib.hid om
 have al2:Below (w.alloc (.cells #[.int .i64 (r:Int),.slice (some ⟨gD,oD,none⟩) m c] 177)).heap.size (w.alloc (.cells #[.int .i64 (r:Int),.slice (some ⟨gD,oD,none⟩) m c] 177)) ((w.alloc (.cells #[.int .i64 (r:Int),.slice (some ⟨gD,oD,none⟩) m c] 177)).alloc (.cells (List.replicate m (Value.int .i64 0)).toArray 3)):=(Below.refl _ _).alloc (Nat.le_refl _) _
 have BX2:=Lib.hid (bx.out.below al2)
 have Z2:=Lib.hid (Z1.out.trans (al2.mono (by rw [hs1];omega)))
 have x12:=BX2.out.cell 1
 simp at x12
 clear om al2 bx Z1
 go_wp2_with fail
 go_loopw [24] (fun x wr=>∃ (k:Nat) (y:List Nat),k≤m∧x=.int .i64 (k:Int)∧Hid (y.length=m∧∀ i,i < k→sgL y i=sgL A' i)∧Hid (wr.ownsRow w.heap.size 3 1 (.slice (some ⟨w.heap.size+1,0,none⟩) m m) m (I64 (ofN y)))∧Hid (Blk wr w.heap.size 177 #[.int .i64 (r:Int),.slice (some ⟨gD,oD,none⟩) m c])∧Hid (Below w.heap.size w wr)) (fun x _=>m - (intOf x).toNat)
 case atStart=>exact ⟨0,List.replicate m 0,Nat.zero_le _,rfl,⟨by simp,fun i hi=>absurd hi (by omega)⟩,OM,BX2,Z2⟩
 case round =>
  clear OM BX2 Z2 x12 x1 hs1 hmk
  obtain ⟨k,y,hk,rfl,HY,O1,BX,ZZ⟩:=hrel
  by_cases hlt:k < m
  ·have hdk:decide (k < m)=true:=decide_eq_true hlt
   have c0:=CD.out wr ZZ.out k hlt
   obtain ⟨s1,s2⟩:=HSG.out k hlt
   have hdn:=hDl.out k hlt
   have SG1:=Lib.hid (SG.out wr ZZ.out (sgL D k) hdn)
   obtain ⟨d,hd⟩:∃ d,d=sgL D k:=⟨_,rfl⟩
   rw [← hd] at c0 s1 s2 hdn SG1
   obtain ⟨s,hs⟩:∃ s,s=sgL l d:=⟨_,rfl⟩
   rw [← hs] at s1 s2 SG1
   have S2:=Lib.hid s2
   have hki:(k:Int) < (m:Int):=by omega
   have hsi:(s:Int) < (n:Int):=by omega
   clear hd hs s2
   go_wp2_with fail
   refine SG1.out.mono ?_
   rintro e w4 ⟨rfl,b4⟩
   have O2:=Lib.hid (own_below O1.out b4)
   have fo:=O2.out.frozenAt k
   obtain ⟨q0,co⟩:∃ q0,w4.cell? ⟨w.heap.size+1,k,none⟩=some (.int .i64 q0):=⟨_,own_cellI O2.out k hlt⟩
   have E2:=Lib.hid (ZZ.out.trans (b4.mono ZZ.out.size))
   have cs:=CP.out w4 E2.out s s1
   have BX3:=Lib.hid (BX.out.below b4)
   clear b4 O1 SG1 ZZ BX
   go_wp2_with fail
   go_roundw
   case rel =>
    refine ⟨k+1,y.set k (sgL pl s),by omega,by go_num,⟨by rw [List.length_set];exact HY.out.1,fun i hi=>?_⟩,?_,?_,?_⟩
    ·show (y.set k (sgL pl s)).getD i 0=_
     rw [getDN_set _ _ _ _ (by rw [HY.out.1];exact hlt)]
     by_cases e:i=k
     ·rw [if_pos e,e,S2.out]
     ·rw [if_neg e];exact HY.out.2 i (by omega)
    ·have:=own_setI O2.out k ((sgL pl s:Nat):Int)
     rw [ofN_setN] at this
     exact this
    ·exact BX3.out.mod (Mod.setCell (p:=⟨w.heap.size+1,k,none⟩) (Mod.refl (fun i=>i=w.heap.size+1) _) (fun _=>rfl) _) (by omega)
    ·exact E2.out.setCell (p:=⟨w.heap.size+1,k,none⟩) (by simp) _
   case measure=>simp [intOf];omega
  ·obtain rfl:m=k:=by omega
   have hdk:decide (m < m)=false:=by simp
   have hyA:y=A':=getDN_extC (by rw [HY.out.1,HAL.out]) fun i hi=>HY.out.2 i (by rw [HY.out.1] at hi;exact hi)
   rw [hyA] at O1
   have NW1:=Lib.hid (NW.out wr (w.heap.size+1) (Rd.ofOwn O1.out))
   have x0:=BX.out.cell 0
   simp at x0
   have cr:=CP.out wr ZZ.out r hrn
   rw [HJ.out] at cr
   have hri:(r:Int) < (n:Int):=by omega
   clear hyA HY O1 BX
   go_wp2_with fail
   refine NW1.out.mono ?_
   rintro e w5 ⟨g2,rfl,m5,b5,_⟩
   have RT1:=Lib.hid (RT.out w5 g2 m5)
   have OF1:=Lib.hid (OFP.out w5 g2 m5)
   have Z5:=Lib.hid (ZZ.out.trans (b5.mono ZZ.out.size))
   clear m5 b5 NW1 ZZ x0 cr
   go_wp2_with fail
   refine RT1.out.mono ?_
   rintro e w' ⟨rfl,rfl⟩
   go_wp2_with fail
   refine OF1.out.mono ?_
   rintro e w6 ⟨A6,c6,rfl,o6,b6⟩
   have Z6:=Lib.hid (Z5.out.trans (b6.mono Z5.out.size))
   obtain ⟨g6,rfl,_,hg6⟩:=own_someS o6 hN0
   have hWl:WS.length=N*2:=by have:=o6.1;rw [I64_len] at this;exact this
   have C6:Hid (∀ W,Below w6.heap.size w6 W→∀ k,k < N→W.cell? ⟨g6,k*2,none⟩=some (.int .i64 ((ws k:Nat):Int))∧W.cell? ⟨g6,k*2+1,none⟩=some (.int .i64 (WS.getD (k*2+1) 0))):=fun W z k hk=>by
    have a:=(z.cell (p:=⟨g6,k*2,none⟩) hg6).trans (o6.cellAt (k*2) (by omega))
    have a2:=(z.cell (p:=⟨g6,k*2+1,none⟩) hg6).trans (o6.cellAt (k*2+1) (by omega))
    rw [I64_get _ _ (by omega)] at a a2
    rw [show k*2=2*k by omega,HW0.out k hk,show 2*k=k*2 by omega] at a
    exact ⟨a,a2⟩
   have ON0:Hid ((w6.alloc (.cells (List.replicate N (Value.int .i64 0)).toArray 3)).ownsRow w6.heap.size 3 1 (.slice (some ⟨w6.heap.size,0,none⟩) N N) N (I64 (ofN (List.replicate N 0)))):=by
    have:=own_made w6 3 N (.int .i64 0) (by simp only [maxLen];omega)
    have e:I64 (ofN (List.replicate N 0))=List.replicate N (.int .i64 0):=by simp [I64,ofN]
    rw [e];exact this
   have ZN0:=Lib.hid ((Below.refl w6.heap.size w6).alloc (Nat.le_refl _) (.cells (List.replicate N (Value.int .i64 0)).toArray 3))
   have hmk2:=HMK2.out
   clear o6 b6 OF1 RT1 Z5 hWl hg6
   go_wp2_with fail
   clear hmk2
   go_loopw [61] (fun x wr=>∃ (i:Nat) (z:List Nat),i≤N∧x=.int .i64 (i:Int)∧Hid (z.length=N∧∀ q,q < i→sgL z q=ws q)∧Hid (wr.ownsRow w6.heap.size 3 1 (.slice (some ⟨w6.heap.size,0,none⟩) N N) N (I64 (ofN z)))∧Hid (Below w6.heap.size w6 wr)) (fun x _=>N - (intOf x).toNat)
   case atStart=>exact ⟨0,List.replicate N 0,Nat.zero_le _,rfl,⟨by simp,fun i hi=>absurd hi (by omega)⟩,ON0,ZN0⟩
   case round =>
    clear ON0 ZN0
    obtain ⟨i,z,hik,rfl,HZ,ON,ZN⟩:=hrel
    by_cases hlti:i < N
    ·have hdi:decide (i < N)=true:=decide_eq_true hlti
     obtain ⟨y0,y1⟩:=C6.out wr ZN.out i hlti
     obtain ⟨d,hd⟩:∃ d,d=ws i:=⟨_,rfl⟩
     obtain ⟨t,ht⟩:∃ t,t=WS.getD (i*2+1) 0:=⟨_,rfl⟩
     rw [← hd] at y0
     rw [← ht] at y1
     have HDI:=Lib.hid hd
     clear hd ht
     have al:Below wr.heap.size wr (wr.alloc (.cells #[.int .i64 (d:Int),.int .i64 t] 123)):=(Below.refl _ _).alloc (Nat.le_refl _) _
     have ON2:=Lib.hid (own_below ON.out al)
     have ZN2:=Lib.hid (ZN.out.trans (al.mono ZN.out.size))
     have fo:=ON2.out.frozenAt i
     obtain ⟨q0,co⟩:∃ q0,(wr.alloc (.cells #[.int .i64 (d:Int),.int .i64 t] 123)).cell? ⟨w6.heap.size,i,none⟩=some (.int .i64 q0):=⟨_,own_cellI ON2.out i hlti⟩
     have hii:(i:Int) < (N:Int):=by omega
     clear al ON ZN
     go_wp2_with fail
     go_roundw
     case rel =>
      refine ⟨i+1,z.set i d,by omega,by go_num,⟨by rw [List.length_set];exact HZ.out.1,fun q hq=>?_⟩,?_,?_⟩
      ·show (z.set i d).getD q 0=_
       rw [getDN_set _ _ _ _ (by rw [HZ.out.1];exact hlti)]
       by_cases e:q=i
       ·rw [if_pos e,e,HDI.out]
       ·rw [if_neg e];exact HZ.out.2 q (by omega)
      ·have:=own_setI ON2.out i (d:Int)
       rw [ofN_setN] at this
       exact this
      ·exact ZN2.out.setCell (p:=⟨w6.heap.size,i,none⟩) (Nat.le_refl _) _
     case measure=>simp [intOf];omega
    ·obtain rfl:N=i:=by omega
     have hdi:decide (N < N)=false:=by simp
     go_wp2_with fail
     go_ret
     have hz:z=wlk A' j:=by
      rw [← HWK.out]
      refine getDN_extC (by simp [HZ.out.1]) fun q hq=>?_
      rw [HZ.out.1] at hq
      rw [map_rangeN _ _ _ hq]
      exact HZ.out.2 q hq
     refine ⟨wlk A' j,NewI64.mk rfl ?_ (Z6.out.trans (ZN.out.mono Z6.out.size)),FIN.out.1,FIN.out.2⟩
     have:=ON.out.base_le' Z6.out.size
     rw [← hz,ofN_len,HZ.out.1]
     exact this
theorem take_flat (f:Nat→List Nat) (S:List Nat) {i:Nat} (h:i < S.length):(S.take (i+1)).flatMap f=(S.take i).flatMap f++f (S.getD i 0):=by
 rw [List.take_add_one,List.flatMap_append,List.getElem?_eq_getElem h]
 simp [List.getD_eq_getElem?_getD,List.getElem?_eq_getElem h]
theorem take_mapS (f:Nat→Nat) (z:List Nat) {j:Nat} (h:j < z.length):(z.take (j+1)).map f=(z.take j).map f++[f (z.getD j 0)]:=by
 rw [List.take_add_one,List.map_append,List.getElem?_eq_getElem h]
 simp [List.getD_eq_getElem?_getD,List.getElem?_eq_getElem h]
theorem wlk_len {l b:List Nat} (hl:Inv l b) (he:l.length%2=0) {r:Nat} (hr:r < l.length):(wlk l r).length≤l.length:=by
 have:=(wN_is (sgL_pf hl) (show l.length=2*(l.length / 2) by omega) (one_nm hl) (fun x hx=>name_lt hl hx) hr).2.1
 unfold wlk
 rw [List.length_map,List.length_range];exact this
set_option maxHeartbeats 8000000 in
theorem clooked_p (g:Nat) (l b:List Nat) (r:Nat) (lone:Int) (w:World) (h:MapAt w g l b (r:Int) lone) (hi:Inv l b) (hr:r < l.length) :
  Calls Tryz.prog 102 #[.pointer (some ⟨g,0,none⟩)] w (NewI64 w (ofN ((starts l r).flatMap (wlk l)))):=by
 have hle:=h.2.1
 have HEV:Hid (l.length%2=0):=h.1.1
 have DP:=Lib.hid (darts_p g l b _ _ w h)
 have HM:Hid (∀ W,Below w.heap.size w W→MapAt W g l b (r:Int) lone):=fun W m=>h.below m
 have PP:Hid (∀ W,Below w.heap.size w W→Calls Tryz.prog 130 #[.pointer (some ⟨g,0,none⟩)] W (PartsPost W l r)):=fun W m=>cparts_p g l b r lone W (h.below m) hi hr
 have WK:Hid (∀ (W:World) (f:Nat) (D pl:List Nat) (A AP:Option Addr) (m c cP:Nat),Below w.heap.size w W→f < l.length→D=own l f→m=D.length→Rd W W.heap.size A m (I64 (ofN D))→Rd W W.heap.size AP l.length (I64 (ofN pl))→(∀ i,i < D.length→sgL pl (sgL D i)=i) →
   Calls Tryz.prog 131 #[.agg #[.int .i64 (f:Int),.slice A m c],.pointer (some ⟨g,0,none⟩),.slice AP l.length cP] W (WalkedPost W D (wlk l f))):=fun W f D pl A AP m c cP z h1 h2 h3 h4 h5 h6 =>
  cwalked_p g l b (r:Int) lone f D pl A AP m c l.length cP W (h.below z) hi h1 h2 h3 h4 rfl h5 h6
 have HI:=Lib.hid hi
 obtain ⟨i0,hi0,hz0,hz1,hz2⟩:=info_parts info_int
 obtain ⟨n,hn⟩:∃ n,n=l.length:=⟨_,rfl⟩
 have hmk:=run_make_one (P:=Tryz.prog) 25 3 i0 (.int .i64 0) 8 Tryz.underlying25 hi0 hz0 hz1 hz2 rfl .i64 .i64 n (by omega) (by omega)
 have HSL:Hid (∀ s∈starts l r,s < n):=by show ∀ s∈_,_;rw [hn];exact starts_lt hr
 have HKL:Hid ((starts l r).length≤n+1):=by
  show _≤_
  unfold starts
  rw [List.length_cons,hn]
  have:=Nat.le_trans (List.length_filter_le (fun d=>@decide (Least (part l) d∧¬ part l r d) (Classical.propDecidable _)) (List.range l.length)) (Nat.le_of_eq List.length_range)
  exact Nat.succ_le_succ (Nat.le_trans (List.length_filter_le _ _) (Nat.le_of_eq List.length_range))
 have HWL:Hid (∀ s,s < n→(wlk l s).length≤n):=fun s hs=>by rw [hn];exact wlk_len hi HEV.out (by omega)
 have HOW:Hid (∀ f,f < n→(∀ i j,i < (own l f).length→j < (own l f).length→sgL (own l f) i=sgL (own l f) j→i=j)∧(∀ i,i < (own l f).length→sgL (own l f) i < n)∧0 < (own l f).length∧(own l f).length≤n):=fun f hf=>by
  have q:=own_inc hi HEV.out (show f < l.length by omega)
  refine ⟨fun i j a c e=>q.inj i j a c e,fun i a=>by rw [hn];exact q.lt i a,?_,?_⟩
  ·have:=own_self hi HEV.out (show f < l.length by omega)
   exact List.length_pos_of_mem this
  ·rw [hn];unfold own;exact Nat.le_trans (List.length_filter_le _ _) (by simp)
 rw [← hn] at hle hr DP WK
 have HN:=Lib.hid hn
 clear h hi hn
 go_enter Tryz.func102,Tryz.ntmps102
 go_wp2_with fail
 refine DP.out.mono ?_
 rintro e w1 ⟨rfl,b1⟩
 obtain ⟨wp,hwp⟩:∃ wp,wp=w1.alloc (.cells (List.replicate n (Value.int .i64 0)).toArray 3):=⟨_,rfl⟩
 obtain ⟨gP,hgP⟩:∃ gP,gP=w1.heap.size:=⟨_,rfl⟩
 have hszp:wp.heap.size=gP+1:=by rw [hwp,hgP];simp
 have hgw:w.heap.size≤gP:=by rw [hgP];exact b1.size
 have ZP:Hid (Below w.heap.size w wp):=by rw [hwp];exact b1.alloc b1.size _
 have OP:Hid (wp.ownsRow w.heap.size 3 1 (.slice (some ⟨gP,0,none⟩) n n) n (I64 (ofN (List.replicate n 0)))):=by
  have:=own_made w1 3 n (.int .i64 0) (by simp only [maxLen];omega)
  have e:I64 (ofN (List.replicate n 0))=List.replicate n (.int .i64 0):=by simp [I64,ofN]
  rw [e,hwp,hgP]
  exact this.base_le' b1.size
 have PP1:=Lib.hid (PP.out wp ZP.out)
 go_wp2_with fail
 have ea:(List.replicate n (Value.int .i64 0)).toArray=Array.replicate n (Value.int .i64 0):=by simp
 rw [ea] at hwp
 rw [← hwp,← hgP]
 clear hmk ea hwp hgP DP b1
 refine PP1.out.mono ?_
 rintro e w2 ⟨AA,cA,ps,rfl,oA,hin,hst,how,b2⟩
 obtain ⟨K,hK⟩:∃ K,K=ps.length:=⟨_,rfl⟩
 rw [← hK] at oA ⊢
 have hKS:K=(starts l r).length:=by rw [← hst,List.length_map,hK]
 have hKn:K≤n+1:=by rw [hKS];exact HKL.out
 have hK0:0 < K:=by rw [hKS];unfold starts;simp
 obtain ⟨gA,rfl,hgA,hgA2⟩:=own_someS oA hK0
 have hfs:∀ i,i < K→(ps.getD i pE0).1=(starts l r).getD i 0:=fun i hi'=>by
  rw [← hst,List.getD_eq_getElem?_getD,List.getD_eq_getElem?_getD,List.getElem?_map,List.getElem?_eq_getElem (by omega)];rfl
 have PC:Hid (∀ i,i < K→∃ f gD m c',f=(starts l r).getD i 0∧f < n∧m=(own l f).length∧w2.cell? ⟨gA,i*2,none⟩=some (.int .i64 (f:Int))∧w2.cell? ⟨gA,i*2+1,none⟩=some (.slice (some ⟨gD,0,none⟩) m c')∧w2.ownsRow (gP+1) 3 1 (.slice (some ⟨gD,0,none⟩) m c') m (I64 (ofN (own l f)))):=fun i hi'=>by
  have hm':ps.getD i pE0∈ps:=by rw [List.getD_eq_getElem?_getD,List.getElem?_eq_getElem (by omega)];exact List.getElem_mem _
  have hfn:(ps.getD i pE0).1 < n:=HSL.out _ (by rw [← hst];exact List.mem_map.2 ⟨_,hm',rfl⟩)
  obtain ⟨A',c',e1,o1⟩:=hin _ hm'
  have ho:=how _ hm'
  rw [ho] at e1 o1
  obtain ⟨gD,rfl,_⟩:=own_some o1 (HOW.out _ hfn).2.2.1
  have c0:=oA.cellAt (i*2) (by omega)
  have c1:=oA.cellAt (i*2+1) (by omega)
  rw [(pcs_get ps i (by omega)).1] at c0
  rw [(pcs_get ps i (by omega)).2,e1] at c1
  exact ⟨_,gD,_,c',hfs i hi',hfn,rfl,c0,c1,by rw [← hszp];exact o1⟩
 have Z2:=Lib.hid (ZP.out.trans (b2.mono ZP.out.size))
 have O2:=Lib.hid (own_below OP.out b2)
 have hgP2:gP < w2.heap.size:=by have:=b2.size;omega
 have HGA:Hid (gA < w2.heap.size∧gA≠gP):=by show _∧_;constructor <;> omega
 have HKS:=Lib.hid hKS
 clear oA hin hst how b2 hK hKS hfs PP1 PP ZP OP hgA hgA2 hszp
 go_wp2_with fail
 go_loopw [3,17] (fun v x wr=>∃ (i:Nat) (A:Option Addr) (c:Nat) (Q pl:List Nat),i≤K∧v=.slice A Q.length c∧x=.int .i64 (i:Int)∧Hid (Q=((starts l r).take i).flatMap (wlk l)∧Q.length≤i*131072∧pl.length=n)∧Hid (wr.ownsRow w.heap.size 3 1 (.slice (some ⟨gP,0,none⟩) n n) n (I64 (ofN pl))) ∧
  Hid (wr.ownsRow w2.heap.size 3 1 (.slice A Q.length c) Q.length (I64 (ofN Q)))∧Hid (Below w.heap.size w wr)∧Hid (Mod (fun k=>k=gP) w2 wr)) (fun _ x _=>K - (intOf x).toNat)
 case atStart=>exact ⟨0,none,0,[],List.replicate n 0,Nat.zero_le _,rfl,rfl,⟨by simp,by simp,by simp⟩,O2,World.ownsRow_nil _ _ _ _,Z2,Mod.refl _ _⟩
 case round =>
  clear O2 Z2
  obtain ⟨i,A,c,Q,pl,hiK,rfl,rfl,HQ,OPl,OQ,ZZ,MM⟩:=hrel
  obtain ⟨q,hq⟩:∃ q,q=Q.length:=⟨_,rfl⟩
  rw [← hq] at OQ ⊢
  have HQL:=Lib.hid hq
  clear hq
  by_cases hlt:i < K
  ·have hdk:decide (i < K)=true:=decide_eq_true hlt
   obtain ⟨f,gD,m,c',hf,hfn,hm,y0,y1,oD⟩:=PC.out i hlt
   obtain ⟨hinj,hdl,hm0,hmn⟩:=HOW.out f hfn
   obtain ⟨D,hD⟩:∃ D,D=own l f:=⟨_,rfl⟩
   rw [← hD] at hm oD hinj hdl hm0 hmn
   rw [← hm] at hinj hdl hm0 hmn
   have hgD:=oD.lt gD rfl
   have x0:wr.cell? ⟨gA,i*2,none⟩=some (.int .i64 (f:Int)):=(MM.out.cell HGA.out.1 HGA.out.2 _).trans y0
   have x1:wr.cell? ⟨gA,i*2+1,none⟩=some (.slice (some ⟨gD,0,none⟩) m c'):=(MM.out.cell HGA.out.1 HGA.out.2 _).trans y1
   have al:Below wr.heap.size wr (wr.alloc (.cells #[.int .i64 (f:Int),.slice (some ⟨gD,0,none⟩) m c'] 177)):=(Below.refl _ _).alloc (Nat.le_refl _) _
   have hsa:(wr.alloc (.cells #[.int .i64 (f:Int),.slice (some ⟨gD,0,none⟩) m c'] 177)).heap.size=wr.heap.size+1:=by simp
   have BX0:Hid (Blk (wr.alloc (.cells #[.int .i64 (f:Int),.slice (some ⟨gD,0,none⟩) m c'] 177)) wr.heap.size 177 #[.int .i64 (f:Int),.slice (some ⟨gD,0,none⟩) m c']):=Blk.new _ _ _
   have OD0:Hid ((wr.alloc (.cells #[.int .i64 (f:Int),.slice (some ⟨gD,0,none⟩) m c'] 177)).ownsRow (gP+1) 3 1 (.slice (some ⟨gD,0,none⟩) m c') m (I64 (ofN D))):=own_below (own_mod oD MM.out fun k hk e=>by have:=(oD.lt k hk).1;omega) al
   have OP0:=Lib.hid (own_below OPl.out al)
   have OQ0:=Lib.hid (own_below OQ.out al)
   have HQB:Hid (∀ k,(Value.slice A q c).ownBlock=some k→w2.heap.size≤k∧k < wr.heap.size):=fun k hk=>OQ.out.lt k hk
   have Z0:=Lib.hid (ZZ.out.trans (al.mono ZZ.out.size))
   have M0:=Lib.hid (MM.out.trans (Mod.none_ al (fun k=>k=gP)) fun _ _ q=>q)
   have hgr:gP < wr.heap.size:=Nat.lt_of_lt_of_le hgP2 MM.out.size
   have hw2r:=MM.out.size
   have HF:=Lib.hid hf
   have HD:=Lib.hid hD
   have HMD:Hid (m=D.length):=hm
   have HINJ:=Lib.hid hinj
   have HDL:=Lib.hid hdl
   have HL0:Hid (pl.length=n):=HQ.out.2.2
   have b0:=BX0.out.cell 0
   have b1:=BX0.out.cell 1
   simp at b0 b1
   clear y0 y1 oD hf hm hD hinj hdl al OPl OQ ZZ MM
   go_wp2_with fail
   clear b0 b1 x0 x1
   generalize hwa:wr.alloc (.cells #[.int .i64 (f:Int),.slice (some ⟨gD,0,none⟩) m c'] 177)=wa at *
   obtain ⟨gB,hgB⟩:∃ gB,gB=wr.heap.size:=⟨_,rfl⟩
   rw [← hgB] at BX0 hgr hw2r hsa HQB ⊢
   clear hwa hgB
   go_loopw [24] (fun x wr=>∃ (j:Nat) (pl:List Nat),j≤m∧x=.int .i64 (j:Int)∧Hid (pl.length=n∧∀ q,q < j→sgL pl (sgL D q)=q)∧Hid (wr.ownsRow w.heap.size 3 1 (.slice (some ⟨gP,0,none⟩) n n) n (I64 (ofN pl)))∧Hid (Mod (fun k=>k=gP) wa wr)∧Hid (Below w.heap.size w wr)) (fun x _=>m - (intOf x).toNat)
   case atStart=>exact ⟨0,pl,Nat.zero_le _,rfl,⟨HL0.out,fun q hq=>absurd hq (by omega)⟩,OP0,Mod.refl _ _,Z0⟩
   case round =>
    clear OP0 Z0
    obtain ⟨j,pl1,hj,rfl,HP,OP1,M1,Z1⟩:=hrel
    have OD1:Hid (wr.ownsRow (gP+1) 3 1 (.slice (some ⟨gD,0,none⟩) m c') m (I64 (ofN D))):=own_mod OD0.out M1.out fun k hk e=>by have:=(OD0.out.lt k hk).1;omega
    by_cases hlj:j < m
    ·have hdj:decide (j < m)=true:=decide_eq_true hlj
     have cd:=own_cellI OD1.out j hlj
     rw [ofN_get] at cd
     have hdn:=HDL.out j hlj
     obtain ⟨d,hd⟩:∃ d,d=sgL D j:=⟨_,rfl⟩
     rw [show D.getD j 0=d from hd.symm] at cd
     rw [← hd] at hdn
     have HDD:=Lib.hid hd
     have fo:=OP1.out.frozenAt d
     obtain ⟨q0,co⟩:∃ q0,wr.cell? ⟨gP,d,none⟩=some (.int .i64 q0):=⟨_,own_cellI OP1.out d hdn⟩
     have hdi:(d:Int) < (n:Int):=by omega
     have hji:(j:Int) < (m:Int):=by omega
     clear hd
     go_wp2_with fail
     go_roundw
     case rel =>
      refine ⟨j+1,pl1.set d j,by omega,by go_num,⟨by rw [List.length_set];exact HP.out.1,fun q hq=>?_⟩,?_,?_,?_⟩
      ·show (pl1.set d j).getD (sgL D q) 0=q
       rw [getDN_set _ _ _ _ (by rw [HP.out.1];exact hdn)]
       by_cases e:q=j
       ·rw [if_pos (by rw [e];exact HDD.out.symm),e]
       ·rw [if_neg (fun c=>e (HINJ.out q j (by omega) hlj (by rw [c];exact HDD.out)))]
        exact HP.out.2 q (by omega)
      ·have:=own_setI OP1.out d (j:Int)
       rw [ofN_setN] at this
       exact this
      ·exact Mod.setCell (p:=⟨gP,d,none⟩) M1.out (fun _=>rfl) _
      ·exact Z1.out.setCell (p:=⟨gP,d,none⟩) hgw _
     case measure=>simp [intOf];omega
    ·obtain rfl:m=j:=by omega
     have hdj:decide (m < m)=false:=by simp
     have BX1:=Lib.hid (BX0.out.mod M1.out (by omega))
     have OQ1:=Lib.hid (own_mod OQ0.out M1.out fun k hk e=>by have:=(OQ0.out.lt k hk).1;omega)
     have M2:=Lib.hid (M0.out.trans M1.out fun _ _ q=>q)
     have WK1:=Lib.hid (WK.out wr f D pl1 (some ⟨gD,0,none⟩) (some ⟨gP,0,none⟩) m c' n Z1.out hfn HD.out HMD.out (Rd.ofOwn OD1.out) (Rd.ofOwn OP1.out) (fun q hq=>HP.out.2 q (by rw [HMD.out];exact hq)))
     have b0:=BX1.out.cell 0
     have b1:=BX1.out.cell 1
     simp at b0 b1
     have hBl:=BX1.out.lt
     clear M0 M1 OQ0 OD0 BX0
     go_wp2_with fail
     refine WK1.out.mono ?_
     rintro e w5 ⟨z,⟨A5,c5,rfl,_,_,o5,b5⟩,hz,hzl⟩
     rw [ofN_len] at o5 ⊢
     obtain ⟨N,hN⟩:∃ N,N=z.length:=⟨_,rfl⟩
     rw [← hN] at o5 ⊢
     have hNn:N≤n:=by
      have:=HWL.out f hfn
      rw [← hz,List.length_map] at this;omega
     have HZ:=Lib.hid hz
     have HZL:=Lib.hid hzl
     have HNZ:=Lib.hid hN
     have BX5:=Lib.hid (BX1.out.below b5)
     have OQ5:=Lib.hid (own_below OQ1.out b5)
     have OP5:=Lib.hid (own_below OP1.out b5)
     have OD5:=Lib.hid (own_below OD1.out b5)
     have O5:=Lib.hid o5
     have Z5:=Lib.hid (Z1.out.trans (b5.mono Z1.out.size))
     have M5:=Lib.hid (M2.out.trans (Mod.none_ b5 (fun k=>k=gP)) fun _ _ q=>q)
     have hB5:=BX5.out.lt
     have hPL:=HP.out.1
     obtain ⟨s1,hs1⟩:∃ s,s=wr.heap.size:=⟨_,rfl⟩
     rw [← hs1] at O5 hBl
     have HPL:Hid (pl1.length=n):=hPL
     have HQ1:=Lib.hid HQ.out.1
     have HQ8:Hid (q≤i*131072):=by have:=HQ.out.2.1;rw [← HQL.out] at this;exact this
     have F0:Hid (∀ k,some k=(Value.slice A q c).ownBlock→w2.heap.size≤k∧k < gB):=fun k hk=>HQB.out k hk.symm
     clear hz hzl hN b5 o5 BX1 OQ1 OP1 OD1 Z1 M2 hs1 hPL HP HQ HQB b0 b1 HL0 WK1
     go_wp2_with fail
     go_loopw [3,39] (fun v x wr=>∃ (j:Nat) (A3:Option Addr) (c3:Nat) (Q3:List Nat),j≤N∧v=.slice A3 Q3.length c3∧x=.int .i64 (j:Int)∧Hid (Q3=Q++(z.take j).map (sgL D))∧Hid (wr.ownsRow w2.heap.size 3 1 (.slice A3 Q3.length c3) Q3.length (I64 (ofN Q3)))∧Hid (∀ k,(Value.slice A3 Q3.length c3).ownBlock=some k→some k=(Value.slice A q c).ownBlock∨w5.heap.size≤k)∧Hid (Mod (fun k=>some k=(Value.slice A q c).ownBlock∨w5.heap.size≤k) w5 wr)) (fun _ x _=>N - (intOf x).toNat)
     case atStart=>exact ⟨0,A,c,Q,Nat.zero_le _,by rw [HQL.out],rfl,by show _=_;simp,by rw [← HQL.out];exact OQ5,by show ∀ k,_;rw [← HQL.out];exact fun k hk=>.inl hk.symm,Mod.refl _ _⟩
     case round =>
      clear OQ5
      obtain ⟨j,A3,c3,Q3,hj,rfl,rfl,HQ3,OQ3,HF3,M3⟩:=hrel
      obtain ⟨q3,hq3⟩:∃ q,q=Q3.length:=⟨_,rfl⟩
      rw [← hq3] at OQ3 HF3 ⊢
      have HQ3L:=Lib.hid hq3
      clear hq3
      by_cases hlj:j < N
      ·have hdj:decide (j < N)=true:=decide_eq_true hlj
       obtain ⟨gZ,rfl,hgZ,hgZ2⟩:=own_some O5.out (by omega)
       have nZ:¬ (some gZ=(Value.slice A q c).ownBlock∨w5.heap.size≤gZ):=fun o=>by
        rcases o with o | o
        ·have:=(F0.out _ o).2;omega
        ·omega
       have nB:¬ (some gB=(Value.slice A q c).ownBlock∨w5.heap.size≤gB):=fun o=>by
        rcases o with o | o
        ·have:=(F0.out _ o).2;omega
        ·omega
       have nD:¬ (some gD=(Value.slice A q c).ownBlock∨w5.heap.size≤gD):=fun o=>by
        rcases o with o | o
        ·have:=(F0.out _ o).1;have:=hgD.2;omega
        ·have:=(OD5.out.lt gD rfl).2;omega
       have cz:wr.cell? ⟨gZ,j,none⟩=some (.int .i64 ((ofN z).getD j 0)):=(M3.out.cell hgZ2 nZ j).trans (own_cellI O5.out j hlj)
       rw [ofN_get] at cz
       obtain ⟨y,hy⟩:∃ y,y=z.getD j 0:=⟨_,rfl⟩
       rw [← hy] at cz
       have hym:y < m:=by
        rw [HMD.out,hy]
        have hjz:j < z.length:=by rw [← HNZ.out];exact hlj
        exact HZL.out _ (by rw [List.getD_eq_getElem?_getD,List.getElem?_eq_getElem hjz];exact List.getElem_mem _)
       have b1:=(BX5.out.mod M3.out nB).cell 1
       simp at b1
       have cy:wr.cell? ⟨gD,y,none⟩=some (.int .i64 ((ofN D).getD y 0)):=(M3.out.cell (OD5.out.lt gD rfl).2 nD y).trans (own_cellI OD5.out y hym)
       rw [ofN_get] at cy
       obtain ⟨x,hx⟩:∃ x,x=D.getD y 0:=⟨_,rfl⟩
       rw [← hx] at cy
       have al:Below wr.heap.size wr (wr.alloc (.cells #[.int .i64 (x:Int)] 3)):=(Below.refl _ _).alloc (Nat.le_refl _) _
       have OQ4:=own_below OQ3.out al
       have rd:=Rd.new wr 3 #[.int .i64 (x:Int)] 1 [.int .i64 (x:Int)] rfl rfl
       have hq3b:q3≤131074*131072:=by
        rw [HQ3L.out,HQ3.out,List.length_append,List.length_map,List.length_take,← HQL.out]
        have:=HQ8.out
        omega
       have hw5r:=M3.out.size
       obtain ⟨v',w6,hrun,hnew,hgr',hob⟩:=run_append_rd (P:=Tryz.prog) (wr.alloc (.cells #[.int .i64 (x:Int)] 3)) w2.heap.size 25 25 3 i0 (.int .i64 0) 8 Tryz.underlying25 hi0 hz0 hz1 hz2 rfl _ q3 _ OQ4 (wr.heap.size+1) (some ⟨wr.heap.size,0,none⟩) 1 1 _ rd (by simp [Value.oneCell']) (by simp only [maxLen];omega) (by omega) (by simp;have:=M5.out.size;omega)
       obtain ⟨A6,c6,rfl,_,_⟩:=own_form hnew
       have M6:Hid (Mod (fun k=>some k=(Value.slice A q c).ownBlock∨w5.heap.size≤k) w5 w6):=(M3.out.trans (Mod.none_ al (fun _=>False)) fun _ _ q=>q.elim).trans (Mod.ofGrown hgr') fun k _ hk=>HF3.out k hk.symm
       have OQ6:Hid (w6.ownsRow w2.heap.size 3 1 (.slice A6 (q3+1) c6) (q3+1) (I64 (ofN (Q3++[x])))):=by
        show World.ownsRow _ _ _ _ _ _ _
        rw [ofN_snocR];exact hnew
       have HF6:Hid (∀ k,(Value.slice A6 (q3+1) c6).ownBlock=some k→some k=(Value.slice A q c).ownBlock∨w5.heap.size≤k):=fun k hk=>by
        rcases hob with o | o
        ·rw [hk] at o;exact HF3.out k o.symm
        ·rw [hk] at o
         have:=Option.some.inj o
         simp at this
         right;omega
       have HL1:Hid ((Q3++[x]).length=q3+1):=by show _=_;rw [List.length_append,← HQ3L.out];rfl
       have HQ6:Hid (Q3++[x]=Q++(z.take (j+1)).map (sgL D)):=by
        show _=_
        rw [take_mapS _ _ (by rw [← HNZ.out];exact hlj),← List.append_assoc,← HQ3.out,hx,hy]
        rfl
       have hyi:(y:Int) < (m:Int):=by omega
       have hji:(j:Int) < (N:Int):=by omega
       clear hy hx al OQ4 rd hq3b hnew hgr' hob nZ nB nD OQ3 HF3 M3
       go_wp2_with (first
        | (at_builtin;go_must (refine wpList_append_runR rfl _ _ _ rfl _ _ _ _ rfl rfl hrun ?_)))
       go_roundw
       case rel=>exact ⟨j+1,A6,c6,Q3++[x],by omega,by rw [HL1.out],by go_num,HQ6,by rw [HL1.out];exact OQ6,by rw [HL1.out];exact HF6,M6⟩
       case measure=>simp [intOf];omega
      ·obtain rfl:N=j:=by omega
       have hdj:decide (N < N)=false:=by simp
       have HQ9:Hid (Q3=((starts l r).take (i+1)).flatMap (wlk l)):=by
        show _=_
        rw [take_flat _ _ (by rw [← HKS.out];exact hlt),← HF.out,← HZ.out,← HQ1.out,HQ3.out]
        rw [HNZ.out,List.take_length]
       have HQ9L:Hid (Q3.length≤(i+1)*131072):=by
        show _≤_
        rw [HQ3.out,List.length_append,List.length_map,List.length_take,← HQL.out]
        have:=HQ8.out
        omega
       have nP:¬ (some gP=(Value.slice A q c).ownBlock∨w5.heap.size≤gP):=fun o=>by
        rcases o with o | o
        ·have:=(F0.out _ o).1;omega
        ·omega
       have OP9:=Lib.hid (own_mod OP5.out M3.out fun k hk e=>by
        have:gP=k:=by simpa [Value.ownBlock] using hk
        rw [← this] at e;exact nP e)
       have hw25:=M5.out.size
       have hw5w:=Z5.out.size
       have Z9:=Lib.hid (Z5.out.trans (M3.out.belowB hw5w fun k hk o=>by
        rcases o with o | o
        ·have:=(F0.out _ o).1;omega
        ·omega))
       have M9:=Lib.hid (M5.out.trans M3.out fun k hk o=>by
        rcases o with o | o
        ·have:=(F0.out _ o).1;omega
        ·omega)
       clear nP OP5 M3 M5 Z5 HQ3 BX5 OD5 O5
       go_wp2_with fail
       go_roundw
       case rel=>exact ⟨i+1,A3,c3,Q3,pl1,by omega,by rw [HQ3L.out],by go_num,⟨HQ9.out,HQ9L.out,HPL.out⟩,OP9,by rw [← HQ3L.out];exact OQ3,Z9,M9⟩
       case measure=>simp [intOf];omega
  ·obtain rfl:i=K:=by omega
   have hdk:decide (i < i)=false:=by simp
   have HQF:Hid (Q=(starts l r).flatMap (wlk l)):=by
    have:=HQ.out.1
    rw [HKS.out,List.take_length] at this
    exact this
   go_wp2_with fail
   go_ret
   refine NewI64.mk rfl ?_ ZZ.out
   have:=OQ.out.base_le' (show w.heap.size≤w2.heap.size by omega)
   rw [← HQF.out,ofN_len,← HQL.out]
   exact this
theorem flat_le (f:Nat→List Nat) (c:Nat):∀ S:List Nat,(∀ s∈S,(f s).length≤c)→(S.flatMap f).length≤S.length*c
 | [],_=>by simp
 | s :: S,h=>by
   have h1:=flat_le f c S fun x hx=>h x (by simp [hx])
   have h2:=h s (by simp)
   rw [List.flatMap_cons,List.length_append,List.length_cons,Nat.add_mul,Nat.one_mul]
   omega
theorem looks_len {l b:List Nat} (hl:Inv l b) (he:l.length%2=0) (hle:l.length≤131072) {r:Nat} (hr:r < l.length):((starts l r).flatMap (wlk l)).length≤131073*131072:=by
 have h1:=flat_le (wlk l) 131072 (starts l r) fun s hs=>Nat.le_trans (wlk_len hl he (starts_lt hr s hs)) hle
 have h2:(starts l r).length≤131073:=by
  unfold starts
  rw [List.length_cons]
  exact Nat.succ_le_succ (Nat.le_trans (Nat.le_trans (List.length_filter_le _ _) (Nat.le_of_eq List.length_range)) hle)
 exact Nat.le_trans h1 (Nat.mul_le_mul_right _ h2)
theorem take_getD (L:List Nat) {k:Nat} (h:k < L.length):L.take (k+1)=L.take k++[L.getD k 0]:=by
 rw [List.take_add_one,List.getElem?_eq_getElem h]
 simp [List.getD_eq_getElem?_getD,List.getElem?_eq_getElem h]
set_option maxHeartbeats 8000000 in
theorem cnames_p (g:Nat) (l b:List Nat) (r:Nat) (lone:Int) (P Qc:List Nat) (w:World) (h:MapAt w g l b (r:Int) lone) (hi:Inv l b) (hr:r < l.length) (hC:CanA l r P Qc) :
  Calls Tryz.prog 63 #[.pointer (some ⟨g,0,none⟩)] w (NewI64 w (ofN P)):=by
 have hle:=h.2.1
 have hev:=h.1.1
 obtain ⟨n,hn⟩:∃ n,n=l.length:=⟨_,rfl⟩
 obtain ⟨L,hL⟩:∃ L,L=(starts l r).flatMap (wlk l):=⟨_,rfl⟩
 obtain ⟨m,hm⟩:∃ m,m=L.length:=⟨_,rfl⟩
 have hm8:m≤131073*131072:=by rw [hm,hL];exact looks_len hi hev hle hr
 have HLT:Hid (∀ k,k < m→L.getD k 0 < n):=fun k hk=>by
  rw [hn]
  refine looks_lt hi hev hr _ ?_
  rw [← hL,List.getD_eq_getElem?_getD,List.getElem?_eq_getElem (by omega)]
  exact List.getElem_mem _
 have HP:Hid ((lookL n L).1=ofN P):=by show _=_;rw [hn,hL];exact hC.is
 have DP:Hid (∀ W,Below w.heap.size w W→Calls Tryz.prog 40 #[.pointer (some ⟨g,0,none⟩)] W fun e w'=>e=.returned (.int .i64 (n:Int))∧Below W.heap.size W w'):=fun W z=>by rw [hn];exact darts_p g l b _ _ W (h.below z)
 have LP:Hid (∀ W,Below w.heap.size w W→Calls Tryz.prog 102 #[.pointer (some ⟨g,0,none⟩)] W (NewI64 W (ofN L))):=fun W z=>by rw [hL];exact clooked_p g l b r lone W (h.below z) hi hr
 have MT:Hid (∀ (W:World),Below w.heap.size w W→∀ d:Nat,d < n→Calls Tryz.prog 87 #[.pointer (some ⟨g,0,none⟩),.int .i64 (d:Int)] W fun e w'=>e=.returned (.int .i64 ((mt d:Nat):Int))∧Below W.heap.size W w'):=fun W z d hd=>by
  have:=mate_in g l b _ _ d W (h.below z) (by rw [← hn];exact hd)
  rwa [mt_mateN] at this
 have REP:Hid (∀ (W:World) (a:Nat),Rd W (a+1) (some ⟨a,0,none⟩) 1 (I64 [-1])→a+1≤W.heap.size→Calls Tryz.prog 101 #[.slice (some ⟨a,0,none⟩) 1 1,.int .i64 (n:Int)] W fun e w'=>e=.returned (.slice (some ⟨W.heap.size,0,none⟩) n n)∧w'.ownsRow W.heap.size 3 1 (.slice (some ⟨W.heap.size,0,none⟩) n n) n (I64 (List.replicate n (-1)))∧Below W.heap.size W w'):=fun W a hr' ha=>repeat_p a n 1 (-1) (a+1) W (by omega) hr' ha
 have HEV:Hid (n%2=0):=by show _=_;rw [hn];exact hev
 have hn8:n≤131072:=by omega
 have HM:Hid (L.length=m):=hm.symm
 have ZA:Hid (Below w.heap.size w (w.alloc (.cells #[.int .i64 (-1)] 3))):=(Below.refl _ _).alloc (Nat.le_refl _) _
 have DA:=Lib.hid (DP.out _ ZA.out)
 clear h hi hr hC hle hev hn hL hm
 go_enter Tryz.func63,Tryz.ntmps63
 go_wp2_with fail
 refine DA.out.mono ?_
 rintro e w1 ⟨rfl,z⟩
 have Z1:=Lib.hid (ZA.out.trans (z.mono ZA.out.size))
 have rd:Rd w1 (w.heap.size+1) (some ⟨w.heap.size,0,none⟩) 1 (I64 [-1]):=(Rd.new w 3 #[.int .i64 (-1)] 1 (I64 [-1]) rfl rfl).below (by simpa using z)
 have RE:=Lib.hid (REP.out w1 w.heap.size rd (by have:=z.size;simpa using this))
 clear z rd ZA DA
 go_wp2_with fail
 refine RE.out.mono ?_
 rintro e w2 ⟨rfl,o2,z⟩
 have Z2:=Lib.hid (Z1.out.trans (z.mono Z1.out.size))
 have O2:=Lib.hid (o2.base_le' Z1.out.size)
 obtain ⟨gN,hgN⟩:∃ gN,gN=w1.heap.size:=⟨_,rfl⟩
 have hgw:w.heap.size≤gN:=by rw [hgN];exact Z1.out.size
 rw [← hgN] at O2 ⊢
 have LQ:=Lib.hid (LP.out w2 Z2.out)
 clear z o2 RE hgN Z1
 go_wp2_with fail
 refine LQ.out.mono ?_
 rintro e w3 ⟨A3,c3,rfl,_,_,o3,z⟩
 rw [ofN_len,HM.out] at o3 ⊢
 have O3:=Lib.hid o3
 have Z3:=Lib.hid (Z2.out.trans (z.mono Z2.out.size))
 have ON:=Lib.hid (own_below O2.out z)
 have hg2:gN < w2.heap.size:=(own_block O2.out).2
 clear z o3 O2 Z2 LQ
 go_wp2_with fail
 go_loopw [4,14] (fun v x wr=>∃ (k nx:Nat) (y:List Int),k≤m∧v=.int .i64 (nx:Int)∧x=.int .i64 (k:Int)∧Hid (lookL n (L.take k)=(y,nx))∧Hid (nx≤2*k)∧Hid (wr.ownsRow w.heap.size 3 1 (.slice (some ⟨gN,0,none⟩) n n) n (I64 y))∧Hid (Mod (fun k=>k=gN) w3 wr)∧Hid (Below w.heap.size w wr)) (fun _ x _=>m - (intOf x).toNat)
 case atStart=>exact ⟨0,0,List.replicate n (-1),Nat.zero_le _,rfl,rfl,rfl,Nat.zero_le _,ON,Mod.refl _ _,Z3⟩
 case round =>
  clear ON Z3
  obtain ⟨k,nx,y,hk,rfl,rfl,HY,HX,O4,M4,Z4⟩:=hrel
  by_cases hlt:k < m
  ·have hdk:decide (k < m)=true:=decide_eq_true hlt
   obtain ⟨gL,rfl,hgL,hgL2⟩:=own_some O3.out (by omega)
   have cl:wr.cell? ⟨gL,k,none⟩=some (.int .i64 ((ofN L).getD k 0)):=(M4.out.cell hgL2 (by omega) k).trans (own_cellI O3.out k hlt)
   rw [ofN_get] at cl
   have hdn:=HLT.out k hlt
   obtain ⟨d,hd⟩:∃ d,d=L.getD k 0:=⟨_,rfl⟩
   rw [← hd] at cl hdn
   have cy:=own_cellI O4.out d hdn
   have hnx:=HX.out
   have STEP:Hid (lookL n (L.take (k+1))=lookS (y,nx) d):=by
    show _=_
    rw [take_getD L (by rw [HM.out];exact hlt),lookL_snoc,HY.out,hd]
   obtain ⟨v,hv⟩:∃ v,v=y.getD d 0:=⟨_,rfl⟩
   rw [← hv] at cy
   have hdi:(d:Int) < (n:Int):=by omega
   have hki:(k:Int) < (m:Int):=by omega
   clear hd
   by_cases hv1:v=-1
   ·subst hv1
    have HS:Hid (lookL n (L.take (k+1))=(((y.set d (nx:Int)).set (mt d) ((nx+1:Nat):Int)),nx+2)):=by
     show _=_
     rw [STEP.out];unfold lookS;rw [if_pos hv.symm]
    have hmn:=mt_in HEV.out hdn
    have hmd:=cmt_ne d
    obtain ⟨d',hd'⟩:∃ d',d'=mt d:=⟨_,rfl⟩
    have MT1:=Lib.hid (MT.out wr Z4.out d hdn)
    rw [← hd'] at HS hmn hmd MT1
    clear hv hd' STEP
    have hyl:=own_lenI O4.out
    have e1:((nx+1:Nat):Int)=(nx:Int)+1:=by omega
    rw [e1] at HS
    clear e1
    go_wp2_with fail
    refine MT1.out.mono ?_
    rintro e w4 ⟨rfl,b4⟩
    have O5:=own_below O4.out b4
    have M5:=M4.out.trans (Mod.none_ b4 (fun k=>k=gN)) fun _ _ q=>q
    have Z5:=Z4.out.trans (b4.mono Z4.out.size)
    have fo1:=O5.frozenAt d
    obtain ⟨q1,co1⟩:∃ q1,w4.cell? ⟨gN,d,none⟩=some (.int .i64 q1):=⟨_,own_cellI O5 d hdn⟩
    have O6:=own_setI O5 d (nx:Int)
    have fo2:=O6.frozenAt d'
    obtain ⟨q2,co2⟩:∃ q2,(w4.setCell ⟨gN,d,none⟩ (.int .i64 (nx:Int))).cell? ⟨gN,d',none⟩=some (.int .i64 q2):=⟨_,own_cellI O6 d' hmn⟩
    have O7:=Lib.hid (own_setI O6 d' ((nx:Int)+1))
    have M7:=Lib.hid (Mod.setCell (p:=⟨gN,d',none⟩) (Mod.setCell (p:=⟨gN,d,none⟩) M5 (fun _=>rfl) (.int .i64 (nx:Int))) (fun _=>rfl) (.int .i64 ((nx:Int)+1)))
    have Z7:=Lib.hid ((Z5.setCell (p:=⟨gN,d,none⟩) hgw (.int .i64 (nx:Int))).setCell (p:=⟨gN,d',none⟩) hgw (.int .i64 ((nx:Int)+1)))
    have hd'i:(d':Int) < (n:Int):=by omega
    clear b4 O5 O6 M5 Z5 O4 M4 Z4 MT1 hyl
    go_wp2_with fail
    go_roundw
    case rel=>exact ⟨k+1,nx+2,_,by omega,by go_num,by go_num,HS,by show _≤_;omega,O7,M7,Z7⟩
    case measure=>simp [intOf];omega
   ·have HS:Hid (lookL n (L.take (k+1))=(y,nx)):=by
     show _=_
     rw [STEP.out];unfold lookS;rw [if_neg fun c=>hv1 (hv.trans c)]
    have dv:(v == -1)=false:=by rw [beq_eq_false_iff_ne];exact hv1
    clear hv STEP
    go_wp2_with fail
    go_roundw
    case rel=>exact ⟨k+1,nx,y,by omega,rfl,by go_num,HS,by show _≤_;omega,O4,M4,Z4⟩
    case measure=>simp [intOf];omega
  ·obtain rfl:k=m:=by omega
   have hdk:decide (k < k)=false:=by simp
   have HYP:Hid (y=ofN P):=by
    have:=HY.out
    rw [← HM.out,List.take_length] at this
    show _=_
    rw [← HP.out,this]
   go_wp2_with fail
   go_ret
   have hyl:=own_lenI O4.out
   refine NewI64.mk rfl ?_ Z4.out
   rw [← HYP.out,hyl]
   exact O4.out
theorem ofN_injC {a b:List Nat} (h:ofN a=ofN b):a=b:=(List.map_inj_right (fun x y h=>Int.ofNat.inj h)).1 h
theorem reRoot_nat (P:List Nat) (r:Nat):reRoot P (r:Int)=((sgL P r:Nat):Int):=by
 unfold reRoot
 rw [if_neg (by omega)];rfl
def CanonPost (w:World) (l b P Q:List Nat) (r:Nat) (lone:Int) (e:Ending) (w':World):Prop :=
 ∃ g' gp,e=.returned (.tuple #[.pointer (some ⟨g',0,none⟩),.pointer (some ⟨gp,0,none⟩),.int .i64 0])∧MapAt w' g' (cjL P Q l) (cjL P Q b) ((sgL P r:Nat):Int) lone∧PermAt w' gp P Q∧Below w.heap.size w w'
set_option maxHeartbeats 8000000 in
theorem canon_p (g:Nat) (l b:List Nat) (r:Nat) (lone:Int) (P Q:List Nat) (w:World) (h:MapAt w g l b (r:Int) lone) (hi:Inv l b) (hr:r < l.length) (hC:CanA l r P Q) :
  Calls Tryz.prog 17 #[.pointer (some ⟨g,0,none⟩)] w (CanonPost w l b P Q r lone):=by
 have hle:=h.2.1
 have hpl:=hC.nam.len
 have NP:=Lib.hid (cnames_p g l b r lone P Q w h hi hr hC)
 have RP:Hid (∀ (W:World) (gp:Nat),Below w.heap.size w W→PermAt W gp P Q→Calls Tryz.prog 64 #[.pointer (some ⟨g,0,none⟩),.pointer (some ⟨gp,0,none⟩)] W fun e w'=>∃ g',e=.returned (.tuple #[.pointer (some ⟨g',0,none⟩),.int .i64 0])∧MapAt w' g' (cjL P Q l) (cjL P Q b) ((sgL P r:Nat):Int) lone∧Below W.heap.size W w'):=fun W gp z k=>by
  refine (relabel_p g gp l b P Q (r:Int) lone W (h.below z) k hpl hi hC.nam.inv (.inr ⟨by omega,by omega,by omega⟩)).mono ?_
  rintro e w' (⟨_,⟨g',h1,h2⟩,h3⟩ | ⟨h1,_⟩)
  ·rw [reRoot_nat] at h2
   exact ⟨g',h1,h2,h3⟩
  ·exact absurd hC.nam h1
 have OP:Hid (∀ (W:World) (A:Option Addr) (c:Nat),Rd W W.heap.size A P.length (I64 (ofN P))→Calls Tryz.prog 49 #[.slice A P.length c] W fun e w'=>∃ gp,e=.returned (.tuple #[.pointer (some ⟨gp,0,none⟩),.int .i64 0])∧PermAt w' gp P Q∧Below W.heap.size W w'):=fun W A c z=>by
  refine (of_p A P.length c _ (ofN P) W z (by omega)).mono ?_
  rintro e w' ⟨⟨gp,l',b',h1,h2,h3,_⟩ | ⟨h1,_⟩,h4⟩
  ·have e1:=ofN_injC h1
   subst e1
   have e2:=Inv.unique h3.1 hC.nam.inv
   subst e2
   exact ⟨gp,h2,h3,h4⟩
  ·exact absurd hC.nam.inv.good h1
 clear h hi hr hC hle hpl
 go_enter Tryz.func17,Tryz.ntmps17
 go_wp2_with fail
 refine NP.out.mono ?_
 rintro e w1 ⟨A,c,rfl,_,_,o1,b1⟩
 rw [ofN_len] at o1 ⊢
 have OP1:=Lib.hid (OP.out w1 A c (Rd.ofOwn o1))
 have B1:=Lib.hid b1
 clear o1 b1 NP OP
 go_wp2_with fail
 refine OP1.out.mono ?_
 rintro e w2 ⟨gp,rfl,k2,b2⟩
 have B2:=Lib.hid (B1.out.trans (b2.mono B1.out.size))
 have RP2:=Lib.hid (RP.out w2 gp B2.out k2)
 have K2:=Lib.hid k2
 clear b2 k2 B1 OP1 RP
 go_wp2_with fail
 refine RP2.out.mono ?_
 rintro e w3 ⟨g',rfl,m3,b3⟩
 have M3:=Lib.hid m3
 have K3:=Lib.hid (K2.out.below b3)
 have B3:=Lib.hid (B2.out.trans (b3.mono B2.out.size))
 clear m3 b3 K2 B2 RP2
 go_wp2_with fail
 go_ret3
 exact ⟨g',gp,rfl,M3.out,K3.out,B3.out⟩
theorem cparts_e (g:Nat) (l b:List Nat) (root lone:Int) (w:World) (h:MapAt w g l b root lone) (h0:l.length=0) :
  Calls Tryz.prog 130 #[.pointer (some ⟨g,0,none⟩)] w fun e w'=>e=.returned (.slice none 0 0)∧Below w.heap.size w w':=by
 have EN:=Lib.hid (enames_p g l b root lone w h)
 have hel:(ofN (enames l)).length=0:=by rw [ofN_len,enames_len,h0]
 clear h
 go_enter Tryz.func130,Tryz.ntmps130
 go_wp2_with fail
 refine EN.out.mono ?_
 rintro e w1 ⟨A1,c1,rfl,_,_,o1,b1⟩
 rw [hel] at o1 ⊢
 have B1:=Lib.hid b1
 clear EN hel b1 o1
 go_wp2_with fail
 go_loopw [3,13] (fun v x wr=>v=.slice none 0 0∧x=.int .i64 0∧Hid (Below w.heap.size w wr)) (fun _ _ _=>0)
 case atStart=>exact ⟨rfl,rfl,B1⟩
 case round =>
  clear B1
  obtain ⟨rfl,rfl,BB⟩:=hrel
  go_wp2_with fail
  go_ret
  exact ⟨rfl,BB.out⟩
theorem clooked_e (g:Nat) (l b:List Nat) (root lone:Int) (w:World) (h:MapAt w g l b root lone) (h0:l.length=0) :
  Calls Tryz.prog 102 #[.pointer (some ⟨g,0,none⟩)] w fun e w'=>e=.returned (.slice none 0 0)∧Below w.heap.size w w':=by
 have DP:=Lib.hid (darts_p g l b _ _ w h)
 have PP:Hid (∀ W,Below w.heap.size w W→Calls Tryz.prog 130 #[.pointer (some ⟨g,0,none⟩)] W fun e w'=>e=.returned (.slice none 0 0)∧Below W.heap.size W w'):=fun W m=>cparts_e g l b root lone W (h.below m) h0
 obtain ⟨i0,hi0,hz0,hz1,hz2⟩:=info_parts info_int
 have hmk:=run_make_one (P:=Tryz.prog) 25 3 i0 (.int .i64 0) 8 Tryz.underlying25 hi0 hz0 hz1 hz2 rfl .i64 .i64 0 (by omega) (by omega)
 have hmk0:∀ W,Sem.run Tryz.prog (Instr.makeSlice 25 (.int .i64 0) (.int .i64 0)) W=Result.ok (Value.slice (some ⟨W.heap.size,0,none⟩) 0 0) (W.alloc (.cells #[] 3)):=hmk
 clear hmk
 rw [h0] at DP
 clear h h0
 go_enter Tryz.func102,Tryz.ntmps102
 go_wp2_with fail
 refine DP.out.mono ?_
 rintro e w1 ⟨rfl,b1⟩
 have ZP:Hid (Below w.heap.size w (w1.alloc (.cells #[] 3))):=b1.alloc b1.size _
 have PP1:=Lib.hid (PP.out _ ZP.out)
 clear b1
 go_wp2_with fail
 refine PP1.out.mono ?_
 rintro e w2 ⟨rfl,b2⟩
 have Z2:=Lib.hid (ZP.out.trans (b2.mono ZP.out.size))
 clear b2 ZP PP1 hmk0
 go_wp2_with fail
 go_loopw [3,17] (fun v x wr=>v=.slice none 0 0∧x=.int .i64 0∧Hid (Below w.heap.size w wr)) (fun _ _ _=>0)
 case atStart=>exact ⟨rfl,rfl,Z2⟩
 case round =>
  clear Z2
  obtain ⟨rfl,rfl,BB⟩:=hrel
  go_wp2_with fail
  go_ret
  exact ⟨rfl,BB.out⟩
theorem cnames_e (g:Nat) (l b:List Nat) (root lone:Int) (w:World) (h:MapAt w g l b root lone) (h0:l.length=0) :
  Calls Tryz.prog 63 #[.pointer (some ⟨g,0,none⟩)] w (NewI64 w (ofN [])):=by
 have DP:Hid (∀ W,Below w.heap.size w W→Calls Tryz.prog 40 #[.pointer (some ⟨g,0,none⟩)] W fun e w'=>e=.returned (.int .i64 0)∧Below W.heap.size W w'):=fun W z=>by
  have:=darts_p g l b _ _ W (h.below z)
  rw [h0] at this;exact this
 have LP:Hid (∀ W,Below w.heap.size w W→Calls Tryz.prog 102 #[.pointer (some ⟨g,0,none⟩)] W fun e w'=>e=.returned (.slice none 0 0)∧Below W.heap.size W w'):=fun W z=>clooked_e g l b root lone W (h.below z) h0
 have REP:Hid (∀ (W:World) (a:Nat),Rd W (a+1) (some ⟨a,0,none⟩) 1 (I64 [-1])→a+1≤W.heap.size→Calls Tryz.prog 101 #[.slice (some ⟨a,0,none⟩) 1 1,.int .i64 0] W fun e w'=>e=.returned (.slice (some ⟨W.heap.size,0,none⟩) 0 0)∧w'.ownsRow W.heap.size 3 1 (.slice (some ⟨W.heap.size,0,none⟩) 0 0) 0 (I64 (List.replicate 0 (-1)))∧Below W.heap.size W w'):=fun W a hr' ha=>repeat_p a 0 1 (-1) (a+1) W (by omega) hr' ha
 have ZA:Hid (Below w.heap.size w (w.alloc (.cells #[.int .i64 (-1)] 3))):=(Below.refl _ _).alloc (Nat.le_refl _) _
 have DA:=Lib.hid (DP.out _ ZA.out)
 clear h h0
 go_enter Tryz.func63,Tryz.ntmps63
 go_wp2_with fail
 refine DA.out.mono ?_
 rintro e w1 ⟨rfl,z⟩
 have Z1:=Lib.hid (ZA.out.trans (z.mono ZA.out.size))
 have rd:Rd w1 (w.heap.size+1) (some ⟨w.heap.size,0,none⟩) 1 (I64 [-1]):=(Rd.new w 3 #[.int .i64 (-1)] 1 (I64 [-1]) rfl rfl).below (by simpa using z)
 have RE:=Lib.hid (REP.out w1 w.heap.size rd (by have:=z.size;simpa using this))
 clear z rd ZA DA
 go_wp2_with fail
 refine RE.out.mono ?_
 rintro e w2 ⟨rfl,o2,z⟩
 have Z2:=Lib.hid (Z1.out.trans (z.mono Z1.out.size))
 have O2:=Lib.hid (o2.base_le' Z1.out.size)
 obtain ⟨gN,hgN⟩:∃ gN,gN=w1.heap.size:=⟨_,rfl⟩
 rw [← hgN] at O2 ⊢
 have LQ:=Lib.hid (LP.out w2 Z2.out)
 clear z o2 RE hgN Z1
 go_wp2_with fail
 refine LQ.out.mono ?_
 rintro e w3 ⟨rfl,z⟩
 have Z3:=Lib.hid (Z2.out.trans (z.mono Z2.out.size))
 have ON:=Lib.hid (own_below O2.out z)
 clear z O2 Z2 LQ
 go_wp2_with fail
 go_loopw [4,14] (fun v x wr=>v=.int .i64 0∧x=.int .i64 0∧Hid (wr.ownsRow w.heap.size 3 1 (.slice (some ⟨gN,0,none⟩) 0 0) 0 (I64 (List.replicate 0 (-1))))∧Hid (Below w.heap.size w wr)) (fun _ _ _=>0)
 case atStart=>exact ⟨rfl,rfl,ON,Z3⟩
 case round =>
  clear ON Z3
  obtain ⟨rfl,rfl,O4,Z4⟩:=hrel
  go_wp2_with fail
  go_ret
  exact NewI64.mk rfl O4.out Z4.out
set_option maxHeartbeats 8000000 in
theorem canon_e (g:Nat) (l b:List Nat) (lone:Int) (w:World) (h:MapAt w g l b (-1) lone) (hi:Inv l b) (h0:l.length=0) :
  Calls Tryz.prog 17 #[.pointer (some ⟨g,0,none⟩)] w fun e w'=>∃ g' gp,e=.returned (.tuple #[.pointer (some ⟨g',0,none⟩),.pointer (some ⟨gp,0,none⟩),.int .i64 0])∧MapAt w' g' [] [] (-1) lone∧PermAt w' gp [] []∧Below w.heap.size w w':=by
 have hl:l=[]:=List.eq_nil_of_length_eq_zero h0
 subst hl
 have hb:b=[]:=List.eq_nil_of_length_eq_zero hi.len
 subst hb
 have NI:Inv [] []:=⟨rfl,fun i h=>absurd h (by simp),fun i h=>absurd h (by simp),fun i h=>absurd h (by simp),fun i h=>absurd h (by simp)⟩
 have hN:Nam 0 [] []:=⟨NI,rfl,rfl,fun d hd=>absurd hd (by omega)⟩
 have NP:=Lib.hid (cnames_e g [] [] _ lone w h h0)
 have RP:Hid (∀ (W:World) (gp:Nat),Below w.heap.size w W→PermAt W gp [] []→Calls Tryz.prog 64 #[.pointer (some ⟨g,0,none⟩),.pointer (some ⟨gp,0,none⟩)] W fun e w'=>∃ g',e=.returned (.tuple #[.pointer (some ⟨g',0,none⟩),.int .i64 0])∧MapAt w' g' [] [] (-1) lone∧Below W.heap.size W w'):=fun W gp z k=>by
  refine (relabel_p g gp [] [] [] [] (-1) lone W (h.below z) k rfl NI NI (.inl ⟨rfl,rfl⟩)).mono ?_
  rintro e w' (⟨_,⟨g',h1,h2⟩,h3⟩ | ⟨h1,_⟩)
  ·exact ⟨g',h1,h2,h3⟩
  ·exact absurd hN h1
 have OP:Hid (∀ (W:World) (A:Option Addr) (c:Nat),Rd W W.heap.size A 0 (I64 (ofN []))→Calls Tryz.prog 49 #[.slice A 0 c] W fun e w'=>∃ gp,e=.returned (.tuple #[.pointer (some ⟨gp,0,none⟩),.int .i64 0])∧PermAt w' gp [] []∧Below W.heap.size W w'):=fun W A c z=>by
  refine (of_p A 0 c _ (ofN []) W z (by omega)).mono ?_
  rintro e w' ⟨⟨gp,l',b',h1,h2,h3,_⟩ | ⟨h1,_⟩,h4⟩
  ·have e1:=ofN_injC h1
   subst e1
   have e2:=Inv.unique h3.1 NI
   subst e2
   exact ⟨gp,h2,h3,h4⟩
  ·exact absurd NI.good h1
 clear h hi h0 NI hN
 go_enter Tryz.func17,Tryz.ntmps17
 go_wp2_with fail
 refine NP.out.mono ?_
 rintro e w1 ⟨A,c,rfl,_,_,o1,b1⟩
 rw [show (ofN []).length=0 from rfl] at o1 ⊢
 have OP1:=Lib.hid (OP.out w1 A c (Rd.ofOwn o1))
 have B1:=Lib.hid b1
 clear o1 b1 NP OP
 go_wp2_with fail
 refine OP1.out.mono ?_
 rintro e w2 ⟨gp,rfl,k2,b2⟩
 have B2:=Lib.hid (B1.out.trans (b2.mono B1.out.size))
 have RP2:=Lib.hid (RP.out w2 gp B2.out k2)
 have K2:=Lib.hid k2
 clear b2 k2 B1 OP1 RP
 go_wp2_with fail
 refine RP2.out.mono ?_
 rintro e w3 ⟨g',rfl,m3,b3⟩
 have M3:=Lib.hid m3
 have K3:=Lib.hid (K2.out.below b3)
 have B3:=Lib.hid (B2.out.trans (b3.mono B2.out.size))
 clear m3 b3 K2 B2 RP2
 go_wp2_with fail
 go_ret3
 exact ⟨g',gp,rfl,M3.out,K3.out,B3.out⟩
end Go.Proofs.YtijbdnhlpbcabaaGreatDoor
