/- A map turned another way: the map seen from its faces, and the mirror. The document's examples of layer 10, and what nil answers. -/
import Derived.Test.YtdinmjciippchaaGreatZg3
import Derived.Test.YtdinmjciippchaaGreatZg1
import Derived.Test.YtdinmjciippchaaGreatZg2
import Derived.Deep.RegionHeld3
import Derived.Deep.RegionWith
import Derived.Test.YtdinmjciippchaaGreatZPNames
open Go.RowKit
set_option linter.unusedVariables false
namespace Go.Proofs.YtdinmjciippchaaGreat
set_option maxRecDepth 20000
theorem getDN_setU (y:List Nat) (k j v:Nat) (hk:k < y.length):(y.set k v).getD j 0=if j=k then v else y.getD j 0:=by
 rw [List.getD_eq_getElem?_getD,List.getD_eq_getElem?_getD,List.getElem?_set]
 by_cases h:k=j
 ·subst h;simp [hk]
 ·simp [h,Ne.symm h]
theorem own_setNU {w:World} {base:Nat} {g n c:Nat} {y:List Nat} (h:w.ownsRow base 3 1 (.slice (some ⟨g,0,none⟩) n c) n (I64 (ofN y))) (k v:Nat) :
  (w.setCell ⟨g,k,none⟩ (.int .i64 (v:Int))).ownsRow base 3 1 (.slice (some ⟨g,0,none⟩) n c) n (I64 (ofN (y.set k v))):=by
 rw [show ofN (y.set k v)=(ofN y).set k (v:Int) by simp [ofN,List.map_set]];exact own_setI h k _
set_option maxHeartbeats 4000000 in
theorem dual_t (g:Nat) (l b z zb:List Nat) (root lone:Int) (w:World) (h:MapAt w g l b root lone) (hz:Inv z zb) (hzl:z.length=l.length) (hr:RootOk root l.length)
  (hf:∀ k,k < l.length→∀ W,Below w.heap.size w W→Calls Tryz.prog 90 #[.pointer (some ⟨g,0,none⟩),.int .i64 (k:Int)] W fun e w'=>e=.returned (.int .i64 ((z.getD k 0:Nat):Int))∧Below W.heap.size W w') :
  Calls Tryz.prog 89 #[.pointer (some ⟨g,0,none⟩),.func (.func 90) #[.pointer (some ⟨g,0,none⟩)] #[]] w fun e w'=>∃ g',e=.returned (.pointer (some ⟨g',0,none⟩))∧MapAt w' g' z zb root lone∧Below w.heap.size w w':=by
 have DP:=Lib.hid (darts_p g l b root lone w h)
 have HM:=Lib.hid h
 have HF:=Lib.hid hf
 have HZ:=Lib.hid hz
 have HZL:=Lib.hid hzl
 have HRT:=Lib.hid hr
 have HEV:Hid (l.length%2=0):=h.1.1
 have HLN:=Lib.hid h.1.2
 have hle:=h.2.1
 obtain ⟨i0,hi0,hz0,hz1,hz2⟩:=info_parts info_int
 have hmk:=run_make_one (P:=Tryz.prog) 26 3 i0 (.int .i64 0) 8 Tryz.underlying26 hi0 hz0 hz1 hz2 rfl .i64 .i64 l.length (by omega) (by omega)
 clear h hf hz hzl hr
 go_enter Tryz.func89,Tryz.ntmps89
 go_wp2_with fail
 refine DP.out.mono ?_
 rintro e w1 ⟨rfl,b1⟩
 have B1:=Lib.hid b1
 have OA:=Lib.hid (own_made w1 3 l.length (.int .i64 0) (by simp only [maxLen];omega))
 have BA:=Lib.hid ((Below.refl w1.heap.size w1).alloc (Nat.le_refl _) (.cells (List.replicate l.length (.int .i64 0)).toArray 3))
 clear b1 DP
 go_wp2_with fail
 clear hmk
 go_loopw [16] (fun i wr=>∃ (k:Nat) (y:List Nat),k≤l.length∧i=.int .i64 (k:Int)∧Hid (∀ j,j < k→y.getD j 0=z.getD j 0)∧Hid (wr.ownsRow w1.heap.size 3 1 (.slice (some ⟨w1.heap.size,0,none⟩) l.length l.length) l.length (I64 (ofN y)))∧Hid (Below w1.heap.size w1 wr)) (fun i _=>l.length - (intOf i).toNat)
 case atStart=>exact ⟨0,List.replicate l.length 0,by omega,rfl,fun j hj=>absurd hj (by omega),Lib.hid (by simpa [I64,ofN] using OA.out),Lib.hid (by simpa using BA.out)⟩
 case round =>
  clear OA BA
  obtain ⟨k,y,hk,rfl,HY,HO,HB⟩:=hrel
  by_cases hlt:k < l.length
  ·have hdk:decide (k < l.length)=true:=by rw [decide_eq_true_iff];exact hlt
   have HW:=Lib.hid (B1.out.trans (HB.out.mono B1.out.size))
   have CF:Hid (∀ W,Below wr.heap.size wr W→Calls Tryz.prog 90 #[.pointer (some ⟨g,0,none⟩),.int .i64 (k:Int)] W fun e w'=>e=.returned (.int .i64 ((z.getD k 0:Nat):Int))∧Below W.heap.size W w'):=fun W m=>HF.out k hlt W (HW.out.trans (m.mono HW.out.size))
   have hyl:y.length=l.length:=by have:=own_lenI HO.out;rwa [ofN_len] at this
   have HY1:Hid (∀ j,j < k+1→(y.set k (z.getD k 0)).getD j 0=z.getD j 0):=fun j hj=>by
    rw [getDN_setU _ _ _ _ (by omega)]
    by_cases e:j=k
    ·rw [if_pos e,e]
    ·rw [if_neg e];exact HY.out j (by omega)
   have Z0:=Below.refl wr.heap.size wr
   generalize z.getD k 0=v at *
   clear hyl
   go_wp2_with fail
   refine (CF.out _ Z0).mono ?_
   rintro e w2 ⟨rfl,b2⟩
   have HO2:=Lib.hid (own_below HO.out b2)
   have HB2:=Lib.hid (HB.out.trans (b2.mono HB.out.size))
   have co:=own_cellI HO2.out k hlt
   have fo:=HO2.out.frozenAt k
   generalize (ofN y).getD k 0=u1 at co
   clear b2
   go_wp2_with fail
   have HO3:=Lib.hid (own_setNU HO2.out k v)
   have HB3:=Lib.hid (HB2.out.setCell (p:=⟨w1.heap.size,k,none⟩) (Nat.le_refl _) (.int .i64 (v:Int)))
   go_roundw
   case rel=>exact ⟨k+1,y.set k v,by omega,by go_num,HY1.out,HO3.out,HB3.out⟩
   case measure=>simp [intOf];omega
  ·obtain rfl:k=l.length:=by omega
   have hdk:decide (l.length < l.length)=false:=by simp
   have hyl:y.length=l.length:=by have:=own_lenI HO.out;rwa [ofN_len] at this
   have hye:y=z:=List.ext_getElem (by rw [hyl,HZL.out]) fun i h1 h2=>by
    have:=HY.out i (by omega)
    simpa [List.getD_eq_getElem?_getD,List.getElem?_eq_getElem h1,List.getElem?_eq_getElem h2] using this
   subst hye
   have HR:=Lib.hid (Rd.ofOwn HO.out)
   have BR:=Lib.hid (B1.out.trans (HB.out.mono B1.out.size))
   have HMR:=Lib.hid (HM.out.below BR.out)
   have RP:Hid (∀ W,Below wr.heap.size wr W→Calls Tryz.prog 12 #[.pointer (some ⟨g,0,none⟩)] W fun e w'=>e=.returned (.int .i64 root)∧W=w'):=fun W m=>root_p g l b root lone W (HMR.out.below m)
   have LP:Hid (∀ W,Below wr.heap.size wr W→Calls Tryz.prog 13 #[.pointer (some ⟨g,0,none⟩)] W fun e w'=>e=.returned (.int .i64 lone)∧W=w'):=fun W m=>lone_p g l b root lone W (HMR.out.below m)
   have NP:Hid (∀ W,Below wr.heap.size wr W→Calls Tryz.prog 7 #[.slice (some ⟨w1.heap.size,0,none⟩) l.length l.length,.int .i64 root,.int .i64 lone] W (NewMap W y zb root lone)):=fun W m=>new_ok _ l.length l.length y zb root lone W (HR.out.more m) HZ.out HEV.out hle HRT.out HLN.out.1 HLN.out.2
   have Z0:=Below.refl wr.heap.size wr
   clear hyl HY HO HB HF HMR HM hlt hk
   go_wp2_with fail
   refine (RP.out _ Z0).mono ?_
   rintro e w' ⟨rfl,rfl⟩
   go_wp2_with fail
   refine (LP.out _ Z0).mono ?_
   rintro e w' ⟨rfl,rfl⟩
   go_wp2_with fail
   refine (NP.out _ Z0).mono ?_
   rintro e w3 ⟨g3,rfl,hm3,b3,_⟩
   have HM3:=Lib.hid hm3
   have B3:=Lib.hid (BR.out.trans (b3.mono BR.out.size))
   clear hm3 b3
   go_wp2_with fail
   go_ret
   exact ⟨g3,rfl,HM3.out,B3.out⟩
set_option maxHeartbeats 4000000 in
theorem mirror_t (g:Nat) (l b z zb:List Nat) (root lone:Int) (w:World) (h:MapAt w g l b root lone) (hz:Inv z zb) (hzl:z.length=l.length) (hr:RootOk root l.length)
  (hf:∀ k,k < l.length→∀ W,Below w.heap.size w W→Calls Tryz.prog 84 #[.pointer (some ⟨g,0,none⟩),.int .i64 (k:Int)] W fun e w'=>e=.returned (.int .i64 ((z.getD k 0:Nat):Int))∧Below W.heap.size W w') :
  Calls Tryz.prog 89 #[.pointer (some ⟨g,0,none⟩),.func (.func 84) #[.pointer (some ⟨g,0,none⟩)] #[]] w fun e w'=>∃ g',e=.returned (.pointer (some ⟨g',0,none⟩))∧MapAt w' g' z zb root lone∧Below w.heap.size w w':=by
 have DP:=Lib.hid (darts_p g l b root lone w h)
 have HM:=Lib.hid h
 have HF:=Lib.hid hf
 have HZ:=Lib.hid hz
 have HZL:=Lib.hid hzl
 have HRT:=Lib.hid hr
 have HEV:Hid (l.length%2=0):=h.1.1
 have HLN:=Lib.hid h.1.2
 have hle:=h.2.1
 obtain ⟨i0,hi0,hz0,hz1,hz2⟩:=info_parts info_int
 have hmk:=run_make_one (P:=Tryz.prog) 26 3 i0 (.int .i64 0) 8 Tryz.underlying26 hi0 hz0 hz1 hz2 rfl .i64 .i64 l.length (by omega) (by omega)
 clear h hf hz hzl hr
 go_enter Tryz.func89,Tryz.ntmps89
 go_wp2_with fail
 refine DP.out.mono ?_
 rintro e w1 ⟨rfl,b1⟩
 have B1:=Lib.hid b1
 have OA:=Lib.hid (own_made w1 3 l.length (.int .i64 0) (by simp only [maxLen];omega))
 have BA:=Lib.hid ((Below.refl w1.heap.size w1).alloc (Nat.le_refl _) (.cells (List.replicate l.length (.int .i64 0)).toArray 3))
 clear b1 DP
 go_wp2_with fail
 clear hmk
 go_loopw [16] (fun i wr=>∃ (k:Nat) (y:List Nat),k≤l.length∧i=.int .i64 (k:Int)∧Hid (∀ j,j < k→y.getD j 0=z.getD j 0)∧Hid (wr.ownsRow w1.heap.size 3 1 (.slice (some ⟨w1.heap.size,0,none⟩) l.length l.length) l.length (I64 (ofN y)))∧Hid (Below w1.heap.size w1 wr)) (fun i _=>l.length - (intOf i).toNat)
 case atStart=>exact ⟨0,List.replicate l.length 0,by omega,rfl,fun j hj=>absurd hj (by omega),Lib.hid (by simpa [I64,ofN] using OA.out),Lib.hid (by simpa using BA.out)⟩
 case round =>
  clear OA BA
  obtain ⟨k,y,hk,rfl,HY,HO,HB⟩:=hrel
  by_cases hlt:k < l.length
  ·have hdk:decide (k < l.length)=true:=by rw [decide_eq_true_iff];exact hlt
   have HW:=Lib.hid (B1.out.trans (HB.out.mono B1.out.size))
   have CF:Hid (∀ W,Below wr.heap.size wr W→Calls Tryz.prog 84 #[.pointer (some ⟨g,0,none⟩),.int .i64 (k:Int)] W fun e w'=>e=.returned (.int .i64 ((z.getD k 0:Nat):Int))∧Below W.heap.size W w'):=fun W m=>HF.out k hlt W (HW.out.trans (m.mono HW.out.size))
   have hyl:y.length=l.length:=by have:=own_lenI HO.out;rwa [ofN_len] at this
   have HY1:Hid (∀ j,j < k+1→(y.set k (z.getD k 0)).getD j 0=z.getD j 0):=fun j hj=>by
    rw [getDN_setU _ _ _ _ (by omega)]
    by_cases e:j=k
    ·rw [if_pos e,e]
    ·rw [if_neg e];exact HY.out j (by omega)
   have Z0:=Below.refl wr.heap.size wr
   generalize z.getD k 0=v at *
   clear hyl
   go_wp2_with fail
   refine (CF.out _ Z0).mono ?_
   rintro e w2 ⟨rfl,b2⟩
   have HO2:=Lib.hid (own_below HO.out b2)
   have HB2:=Lib.hid (HB.out.trans (b2.mono HB.out.size))
   have co:=own_cellI HO2.out k hlt
   have fo:=HO2.out.frozenAt k
   generalize (ofN y).getD k 0=u1 at co
   clear b2
   go_wp2_with fail
   have HO3:=Lib.hid (own_setNU HO2.out k v)
   have HB3:=Lib.hid (HB2.out.setCell (p:=⟨w1.heap.size,k,none⟩) (Nat.le_refl _) (.int .i64 (v:Int)))
   go_roundw
   case rel=>exact ⟨k+1,y.set k v,by omega,by go_num,HY1.out,HO3.out,HB3.out⟩
   case measure=>simp [intOf];omega
  ·obtain rfl:k=l.length:=by omega
   have hdk:decide (l.length < l.length)=false:=by simp
   have hyl:y.length=l.length:=by have:=own_lenI HO.out;rwa [ofN_len] at this
   have hye:y=z:=List.ext_getElem (by rw [hyl,HZL.out]) fun i h1 h2=>by
    have:=HY.out i (by omega)
    simpa [List.getD_eq_getElem?_getD,List.getElem?_eq_getElem h1,List.getElem?_eq_getElem h2] using this
   subst hye
   have HR:=Lib.hid (Rd.ofOwn HO.out)
   have BR:=Lib.hid (B1.out.trans (HB.out.mono B1.out.size))
   have HMR:=Lib.hid (HM.out.below BR.out)
   have RP:Hid (∀ W,Below wr.heap.size wr W→Calls Tryz.prog 12 #[.pointer (some ⟨g,0,none⟩)] W fun e w'=>e=.returned (.int .i64 root)∧W=w'):=fun W m=>root_p g l b root lone W (HMR.out.below m)
   have LP:Hid (∀ W,Below wr.heap.size wr W→Calls Tryz.prog 13 #[.pointer (some ⟨g,0,none⟩)] W fun e w'=>e=.returned (.int .i64 lone)∧W=w'):=fun W m=>lone_p g l b root lone W (HMR.out.below m)
   have NP:Hid (∀ W,Below wr.heap.size wr W→Calls Tryz.prog 7 #[.slice (some ⟨w1.heap.size,0,none⟩) l.length l.length,.int .i64 root,.int .i64 lone] W (NewMap W y zb root lone)):=fun W m=>new_ok _ l.length l.length y zb root lone W (HR.out.more m) HZ.out HEV.out hle HRT.out HLN.out.1 HLN.out.2
   have Z0:=Below.refl wr.heap.size wr
   clear hyl HY HO HB HF HMR HM hlt hk
   go_wp2_with fail
   refine (RP.out _ Z0).mono ?_
   rintro e w' ⟨rfl,rfl⟩
   go_wp2_with fail
   refine (LP.out _ Z0).mono ?_
   rintro e w' ⟨rfl,rfl⟩
   go_wp2_with fail
   refine (NP.out _ Z0).mono ?_
   rintro e w3 ⟨g3,rfl,hm3,b3,_⟩
   have HM3:=Lib.hid hm3
   have B3:=Lib.hid (BR.out.trans (b3.mono BR.out.size))
   clear hm3 b3
   go_wp2_with fail
   go_ret
   exact ⟨g3,rfl,HM3.out,B3.out⟩
set_option maxHeartbeats 2000000 in
theorem dual_p (g:Nat) (l b:List Nat) (root lone:Int) (w:World) (h:MapAt w g l b root lone) (hi:Inv l b) (hr:RootOk root l.length) :
  Calls Tryz.prog 54 #[.pointer (some ⟨g,0,none⟩)] w fun e w'=>∃ g',e=.returned (.pointer (some ⟨g',0,none⟩))∧MapAt w' g' (phiL l) (phiB l b) root lone∧Below w.heap.size w w':=by
 have T:=Lib.hid (dual_t g l b (phiL l) (phiB l b) root lone w h (phi_inv hi h.1.1) (phiL_len l) hr fun k hk W m=>phi_in g l b root lone k W (h.below m) hk)
 have hmf:∀ (fn:Fn) (first cap:Array Value) (w:World),(Instr.makeFunc fn first cap).run Tryz.prog w=.ok (.func fn first cap) w:=fun _ _ _ _=>rfl
 clear h
 go_enter Tryz.func54,Tryz.ntmps54
 go_wp2_with fail
 refine T.out.mono ?_
 rintro e w1 ⟨g',rfl,hm,hb⟩
 have HM:=Lib.hid hm
 clear hm
 go_wp2_with fail
 go_ret
 exact ⟨g',rfl,HM.out,hb⟩
set_option maxHeartbeats 2000000 in
theorem mirror_p (g:Nat) (l b:List Nat) (root lone:Int) (w:World) (h:MapAt w g l b root lone) (hi:Inv l b) (hr:RootOk root l.length) :
  Calls Tryz.prog 55 #[.pointer (some ⟨g,0,none⟩)] w fun e w'=>∃ g',e=.returned (.pointer (some ⟨g',0,none⟩))∧MapAt w' g' b l root lone∧Below w.heap.size w w':=by
 have T:=Lib.hid (mirror_t g l b b l root lone w h hi.symm hi.len hr fun k hk W m=>mback_in g l b root lone k W (h.below m) hk)
 have hmf:∀ (fn:Fn) (first cap:Array Value) (w:World),(Instr.makeFunc fn first cap).run Tryz.prog w=.ok (.func fn first cap) w:=fun _ _ _ _=>rfl
 clear h
 go_enter Tryz.func55,Tryz.ntmps55
 go_wp2_with fail
 refine T.out.mono ?_
 rintro e w1 ⟨g',rfl,hm,hb⟩
 have HM:=Lib.hid hm
 clear hm
 go_wp2_with fail
 go_ret
 exact ⟨g',rfl,HM.out,hb⟩
theorem ready_in (g:Nat) (l b:List Nat) (root lone:Int) (i:Nat) (w:World) (h:MapAt w g l b root lone) (hi:i < l.length / 2) :
  Calls Tryz.prog 93 #[.pointer (some ⟨g,0,none⟩),.int .i64 (i:Int)] w fun e w'=>e=.returned (.int .i64 0)∧Below w.heap.size w w':=by
 have EP:=Lib.hid (edges_p g l b root lone w h)
 generalize l.length / 2=m at *
 have h1:decide (m≤i)=false:=by rw [decide_eq_false_iff_not];omega
 have h2:decide ((m:Int)≤(i:Int))=false:=by rw [decide_eq_false_iff_not];omega
 have h3:¬ (m:Int)≤(i:Int):=by omega
 have h4:¬ (i:Int) < 0:=by omega
 clear h
 go_enter Tryz.func93,Tryz.ntmps93
 go_wp2_with fail
 refine EP.out.mono ?_
 rintro e w1 ⟨rfl,b1⟩
 go_wp2_with fail
 go_ret
 exact ⟨rfl,b1⟩

set_option maxRecDepth 100000
def NewRO (w:World) (l:List Nat) (root lone:Int) (e:Ending) (w':World):Prop :=
 ∃ A c,e=.returned (.agg #[.slice A l.length c,.int .i64 root,.int .i64 lone])∧l.length≤c∧c≤maxLen∧w'.ownsRow w.heap.size 3 1 (.slice A l.length c) l.length (I64 (ofN l))∧Below w.heap.size w w'
theorem box_ret {w wz:World} {g base N cS:Nat} {RT LF:Int} {A:Option Addr} {xs:List Value} (hgw:w.heap.size≤g) (hB:Below w.heap.size w wz) (hHY:Blk wz g 28 #[.slice none 0 0,.int .i64 0,.int .i64 0]) (hrd:wz.ownsRow base 3 1 (.slice A N cS) N xs) :
  Blk (((wz.setCell ⟨g,0,none⟩ (.slice A N cS)).setCell ⟨g,1,none⟩ (.int .i64 RT)).setCell ⟨g,2,none⟩ (.int .i64 LF)) g 28 #[.slice A N cS,.int .i64 RT,.int .i64 LF] ∧
  (((wz.setCell ⟨g,0,none⟩ (.slice A N cS)).setCell ⟨g,1,none⟩ (.int .i64 RT)).setCell ⟨g,2,none⟩ (.int .i64 LF)).ownsRow base 3 1 (.slice A N cS) N xs ∧
  Below w.heap.size w (((wz.setCell ⟨g,0,none⟩ (.slice A N cS)).setCell ⟨g,1,none⟩ (.int .i64 RT)).setCell ⟨g,2,none⟩ (.int .i64 LF)):=by
 have MM:Mod (fun i=>i=g) wz (((wz.setCell ⟨g,0,none⟩ (.slice A N cS)).setCell ⟨g,1,none⟩ (.int .i64 RT)).setCell ⟨g,2,none⟩ (.int .i64 LF)) :=
  Mod.setCell (p:=⟨g,2,none⟩) (Mod.setCell (p:=⟨g,1,none⟩) (Mod.setCell (p:=⟨g,0,none⟩) (Mod.refl (fun i=>i=g) wz) (fun _=>rfl) _) (fun _=>rfl) _) (fun _=>rfl) _
 refine ⟨?_,own_mod hrd MM (fun q hq c=>own_ne hrd hHY (by decide) (by rw [hq];exact congrArg some c)),hB.trans (MM.belowB hB.size fun i hi hf=>by omega)⟩
 have:=((hHY.set_ 0 (.slice A N cS)).set_ 1 (.int .i64 RT)).set_ 2 (.int .i64 LF)
 simpa using this
set_option maxHeartbeats 4000000 in
theorem rdualO_p (A:Option Addr) (c:Nat) (l b:List Nat) (root lone:Int) (w:World) (h:Rd w w.heap.size A l.length (I64 (ofN l))) (hi:Inv l b) (he:l.length%2=0) (hn:l.length≤100000) :
  Calls Tryz.prog 27 #[.agg #[.slice A l.length c,.int .i64 root,.int .i64 lone]] w (NewRO w (phiL l) root lone):=by
 have hb0:=((Below.refl w.heap.size w).alloc (Nat.le_refl _) (.cells #[.slice A l.length c,.int .i64 root,.int .i64 lone] 28)).alloc (by simp) (.cells #[.slice none 0 0,.int .i64 0,.int .i64 0] 28)
 have HX:=Lib.hid ((Blk.new w 28 #[.slice A l.length c,.int .i64 root,.int .i64 lone]).alloc (.cells #[.slice none 0 0,.int .i64 0,.int .i64 0] 28))
 have hy:=(Blk.new (w.alloc (.cells #[.slice A l.length c,.int .i64 root,.int .i64 lone] 28)) 28 #[.slice none 0 0,.int .i64 0,.int .i64 0])
 rw [show (w.alloc (.cells #[.slice A l.length c,.int .i64 root,.int .i64 lone] 28)).heap.size=w.heap.size+1 by simp] at hy
 have HY:=Lib.hid hy
 have HR:=Lib.hid (h.more hb0)
 have HB0:=Lib.hid hb0
 have HINF:=Lib.hid info_rmap
 have HE:=Lib.hid he
 have HI:=Lib.hid hi
 have HLL:Hid ((ofN (phiL l)).length=l.length):=by show _=_;rw [ofN_len];exact phiL_len l
 have HLN:Hid ((phiL l).length=l.length):=by show _=_;exact phiL_len l
 clear h hb0 he hi hy
 go_enter Tryz.func27,Tryz.ntmps27
 go_wp2_with fail
 generalize hw3:(w.alloc (.cells #[.slice A l.length c,.int .i64 root,.int .i64 lone] 28)).alloc (.cells #[.slice none 0 0,.int .i64 0,.int .i64 0] 28)=w3 at *
 have hX3:w.heap.size+1 < w3.heap.size:=by rw [← hw3];simp
 have x0:w3.cell? ⟨w.heap.size,0,none⟩=some (.slice A l.length c):=HX.out.cell 0
 have x1:w3.cell? ⟨w.heap.size,1,none⟩=some (.int .i64 root):=HX.out.cell 1
 have x2:w3.cell? ⟨w.heap.size,2,none⟩=some (.int .i64 lone):=HX.out.cell 2
 have SK:Hid (∀ W,Below w3.heap.size w3 W→W.cell? ⟨w.heap.size,0,none⟩=some (.slice A l.length c)∧W.cell? ⟨w.heap.size,1,none⟩=some (.int .i64 root)∧W.cell? ⟨w.heap.size,2,none⟩=some (.int .i64 lone)):=fun W m=>⟨(m.cell (p:=⟨w.heap.size,0,none⟩) (show w.heap.size < w3.heap.size by omega)).trans x0,(m.cell (p:=⟨w.heap.size,1,none⟩) (show w.heap.size < w3.heap.size by omega)).trans x1,(m.cell (p:=⟨w.heap.size,2,none⟩) (show w.heap.size < w3.heap.size by omega)).trans x2⟩
 clear hw3
 have PH:Hid (∀ W,Below w3.heap.size w3 W→Calls Tryz.prog 60 #[.agg #[.slice A l.length c,.int .i64 root,.int .i64 lone]] W (NewI64 W (ofN (phiL l)))):=fun W m=>rphi_p A c l root lone W (HR.out.more m) HE.out hn
 have Z0:=(Below.refl w3.heap.size w3).drew
 clear HX
 go_region_with (first
  | (go_at_call 60;refine (PH.out _ Z0).mono ?_;rintro e w9 ⟨A9,c9,rfl,hc9,hm9,hown9,hb9⟩;rw [HLL.out] at hown9 hc9 ⊢;have Z9:=Lib.hid (Z0.trans (hb9.mono Z0.size));obtain ⟨y0,y1,y2⟩:=SK.out _ Z9.out;have HY9:=Lib.hid (HY.out.below Z9.out);have r0:=HY9.out.cell 0;have r1:=HY9.out.cell 1;have r2:=HY9.out.cell 2;have f0:=HY9.out.frozen 0;have f1:=HY9.out.frozen 1;have f2:=HY9.out.frozen 2;simp at r0 r1 r2;have HO9:=Lib.hid hown9;have HC9:=Lib.hid (And.intro hc9 hm9);clear hown9 hb9 hc9 hm9))
 all_goals (
  go_wp2_with fail
  have hs9:=Z9.out.size
  have MM:Mod (fun i=>i=w.heap.size+1) w9 (((w9.setCell ⟨w.heap.size+1,0,none⟩ (.slice A9 l.length c9)).setCell ⟨w.heap.size+1,1,none⟩ (.int .i64 root)).setCell ⟨w.heap.size+1,2,none⟩ (.int .i64 lone)) :=
   Mod.setCell (p:=⟨w.heap.size+1,2,none⟩) (Mod.setCell (p:=⟨w.heap.size+1,1,none⟩) (Mod.setCell (p:=⟨w.heap.size+1,0,none⟩) (Mod.refl (fun i=>i=w.heap.size+1) w9) (fun _=>rfl) _) (fun _=>rfl) _) (fun _=>rfl) _
  have hblk:Blk (((w9.setCell ⟨w.heap.size+1,0,none⟩ (.slice A9 l.length c9)).setCell ⟨w.heap.size+1,1,none⟩ (.int .i64 root)).setCell ⟨w.heap.size+1,2,none⟩ (.int .i64 lone)) (w.heap.size+1) 28 #[.slice A9 l.length c9,.int .i64 root,.int .i64 lone]:=by
   have:=((HY9.out.set_ 0 (.slice A9 l.length c9)).set_ 1 (.int .i64 root)).set_ 2 (.int .i64 lone)
   simpa using this
  refine bodyPost_ret (results_cell_row rfl _ _ (w.heap.size+1) 28 _ (0,0) _ rfl hblk Tryz.underlying28 rfl HINF.out) rfl ?_
  have BB:=HB0.out.trans (Z9.out.mono HB0.out.size)
  have BX:=BB.trans (MM.belowB (Nat.le_trans HB0.out.size hs9) fun i hi hf=>by omega)
  refine ⟨A9,c9,by rw [HLN.out],by rw [HLN.out];exact HC9.out.1,HC9.out.2,?_,BX⟩
  rw [HLN.out]
  exact (own_mod HO9.out MM (fun i hi hf=>by
   have h1:=(HO9.out.lt i hi).1
   have h2:=Z0.size
   simp at hf h1 h2
   omega)).base_le' (by have h2:=Z0.size;simp at h2 ⊢;omega))
set_option maxHeartbeats 4000000 in
theorem rmirrorO_p (A:Option Addr) (c:Nat) (l b:List Nat) (root lone:Int) (w:World) (h:Rd w w.heap.size A l.length (I64 (ofN l))) (hi:Inv l b) (he:l.length%2=0) (hn:l.length≤100000) :
  Calls Tryz.prog 28 #[.agg #[.slice A l.length c,.int .i64 root,.int .i64 lone]] w (NewRO w (b) root lone):=by
 have hb0:=((Below.refl w.heap.size w).alloc (Nat.le_refl _) (.cells #[.slice A l.length c,.int .i64 root,.int .i64 lone] 28)).alloc (by simp) (.cells #[.slice none 0 0,.int .i64 0,.int .i64 0] 28)
 have HX:=Lib.hid ((Blk.new w 28 #[.slice A l.length c,.int .i64 root,.int .i64 lone]).alloc (.cells #[.slice none 0 0,.int .i64 0,.int .i64 0] 28))
 have hy:=(Blk.new (w.alloc (.cells #[.slice A l.length c,.int .i64 root,.int .i64 lone] 28)) 28 #[.slice none 0 0,.int .i64 0,.int .i64 0])
 rw [show (w.alloc (.cells #[.slice A l.length c,.int .i64 root,.int .i64 lone] 28)).heap.size=w.heap.size+1 by simp] at hy
 have HY:=Lib.hid hy
 have HR:=Lib.hid (h.more hb0)
 have HB0:=Lib.hid hb0
 have HINF:=Lib.hid info_rmap
 have HE:=Lib.hid he
 have HI:=Lib.hid hi
 have HLL:Hid ((ofN (b)).length=l.length):=by show _=_;rw [ofN_len];exact HI.out.len
 have HLN:Hid ((b).length=l.length):=by show _=_;exact HI.out.len
 clear h hb0 he hi hy
 go_enter Tryz.func28,Tryz.ntmps28
 go_wp2_with fail
 generalize hw3:(w.alloc (.cells #[.slice A l.length c,.int .i64 root,.int .i64 lone] 28)).alloc (.cells #[.slice none 0 0,.int .i64 0,.int .i64 0] 28)=w3 at *
 have hX3:w.heap.size+1 < w3.heap.size:=by rw [← hw3];simp
 have x0:w3.cell? ⟨w.heap.size,0,none⟩=some (.slice A l.length c):=HX.out.cell 0
 have x1:w3.cell? ⟨w.heap.size,1,none⟩=some (.int .i64 root):=HX.out.cell 1
 have x2:w3.cell? ⟨w.heap.size,2,none⟩=some (.int .i64 lone):=HX.out.cell 2
 have SK:Hid (∀ W,Below w3.heap.size w3 W→W.cell? ⟨w.heap.size,0,none⟩=some (.slice A l.length c)∧W.cell? ⟨w.heap.size,1,none⟩=some (.int .i64 root)∧W.cell? ⟨w.heap.size,2,none⟩=some (.int .i64 lone)):=fun W m=>⟨(m.cell (p:=⟨w.heap.size,0,none⟩) (show w.heap.size < w3.heap.size by omega)).trans x0,(m.cell (p:=⟨w.heap.size,1,none⟩) (show w.heap.size < w3.heap.size by omega)).trans x1,(m.cell (p:=⟨w.heap.size,2,none⟩) (show w.heap.size < w3.heap.size by omega)).trans x2⟩
 clear hw3
 have PH:Hid (∀ W,Below w3.heap.size w3 W→Calls Tryz.prog 61 #[.slice A l.length c] W (NewI64 W (ofN (b)))):=fun W m=>rinverse_p A c _ l b W (HR.out.more m) HI.out (by omega)
 have Z0:=(Below.refl w3.heap.size w3).drew
 clear HX
 go_region_with (first
  | (go_at_call 61;refine (PH.out _ Z0).mono ?_;rintro e w9 ⟨A9,c9,rfl,hc9,hm9,hown9,hb9⟩;rw [HLL.out] at hown9 hc9 ⊢;have Z9:=Lib.hid (Z0.trans (hb9.mono Z0.size));obtain ⟨y0,y1,y2⟩:=SK.out _ Z9.out;have HY9:=Lib.hid (HY.out.below Z9.out);have r0:=HY9.out.cell 0;have r1:=HY9.out.cell 1;have r2:=HY9.out.cell 2;have f0:=HY9.out.frozen 0;have f1:=HY9.out.frozen 1;have f2:=HY9.out.frozen 2;simp at r0 r1 r2;have HO9:=Lib.hid hown9;have HC9:=Lib.hid (And.intro hc9 hm9);clear hown9 hb9 hc9 hm9))
 all_goals (
  go_wp2_with fail
  have hs9:=Z9.out.size
  have MM:Mod (fun i=>i=w.heap.size+1) w9 (((w9.setCell ⟨w.heap.size+1,0,none⟩ (.slice A9 l.length c9)).setCell ⟨w.heap.size+1,1,none⟩ (.int .i64 root)).setCell ⟨w.heap.size+1,2,none⟩ (.int .i64 lone)) :=
   Mod.setCell (p:=⟨w.heap.size+1,2,none⟩) (Mod.setCell (p:=⟨w.heap.size+1,1,none⟩) (Mod.setCell (p:=⟨w.heap.size+1,0,none⟩) (Mod.refl (fun i=>i=w.heap.size+1) w9) (fun _=>rfl) _) (fun _=>rfl) _) (fun _=>rfl) _
  have hblk:Blk (((w9.setCell ⟨w.heap.size+1,0,none⟩ (.slice A9 l.length c9)).setCell ⟨w.heap.size+1,1,none⟩ (.int .i64 root)).setCell ⟨w.heap.size+1,2,none⟩ (.int .i64 lone)) (w.heap.size+1) 28 #[.slice A9 l.length c9,.int .i64 root,.int .i64 lone]:=by
   have:=((HY9.out.set_ 0 (.slice A9 l.length c9)).set_ 1 (.int .i64 root)).set_ 2 (.int .i64 lone)
   simpa using this
  refine bodyPost_ret (results_cell_row rfl _ _ (w.heap.size+1) 28 _ (0,0) _ rfl hblk Tryz.underlying28 rfl HINF.out) rfl ?_
  have BB:=HB0.out.trans (Z9.out.mono HB0.out.size)
  have BX:=BB.trans (MM.belowB (Nat.le_trans HB0.out.size hs9) fun i hi hf=>by omega)
  refine ⟨A9,c9,by rw [HLN.out],by rw [HLN.out];exact HC9.out.1,HC9.out.2,?_,BX⟩
  rw [HLN.out]
  exact (own_mod HO9.out MM (fun i hi hf=>by
   have h1:=(HO9.out.lt i hi).1
   have h2:=Z0.size
   simp at hf h1 h2
   omega)).base_le' (by have h2:=Z0.size;simp at h2 ⊢;omega))
end Go.Proofs.YtdinmjciippchaaGreat
