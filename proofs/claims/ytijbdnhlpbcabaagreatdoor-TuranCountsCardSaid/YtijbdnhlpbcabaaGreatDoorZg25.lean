/- The turner's turns. -/
import Derived.Test.YtijbdnhlpbcabaaGreatDoorZg24
import Derived.Test.YtijbdnhlpbcabaaGreatDoorZg1
import Derived.Test.YtijbdnhlpbcabaaGreatDoorZPNames
import Derived.Deep.CutRange
import Derived.Deep.RegionWith
import Derived.Deep.RegionHeld3
import Derived.Test.YtijbdnhlpbcabaaGreatDoorZEPartsW
import Derived.Test.YtijbdnhlpbcabaaGreatDoorZg3
import Derived.Test.YtijbdnhlpbcabaaGreatDoorZg22
import Derived.Test.YtijbdnhlpbcabaaGreatDoorZg23
import Derived.Test.YtijbdnhlpbcabaaGreatDoorZg19
import Derived.Test.YtijbdnhlpbcabaaGreatDoorZg20
import Derived.Test.YtijbdnhlpbcabaaGreatDoorZg5
import Derived.Test.YtijbdnhlpbcabaaGreatDoorZg12
import Derived.Test.YtijbdnhlpbcabaaGreatDoorZg10
import Derived.Test.YtijbdnhlpbcabaaGreatDoorZg13
import Derived.Test.YtijbdnhlpbcabaaGreatDoorZg8
import Derived.BigQuiet
import Derived.Test.YtijbdnhlpbcabaaGreatDoorZg14
import Derived.Test.YtijbdnhlpbcabaaGreatDoorZg2
open Go.RowKit
set_option linter.unusedVariables false
set_option linter.unusedSimpArgs false
namespace Go.Proofs.YtijbdnhlpbcabaaGreatDoor
set_option maxRecDepth 100000
section
variable {l b:List Nat} {r:Nat} {ds:List Nat} {ts:List (List Nat)} {told told':List Nat} {T like i:Nat} {Q:List Nat}
end
end Go.Proofs.YtijbdnhlpbcabaaGreatDoor
namespace Go.Proofs.YtijbdnhlpbcabaaGreatDoor
set_option maxRecDepth 100000
set_option maxRecDepth 20000
section
variable {l b:List Nat}
theorem orb_sizes (l:List Nat):(orbits l).length=(sizes l).length:=by
 unfold sizes orbits
 rw [sizesTo_len]
 simp [met]
theorem enc_wrd (h:Inv l b) (he:l.length%2=0) {V:Nat} (hV:∀ x,x < l.length→nameOf l x < V) {r:Nat} (hr:r < l.length)
  (x0:NX (wkn (sgL l) (nameOf l) (l.length / 2) V r (wN (sgL l) (nameOf l) (l.length / 2) V r)) (wtw l V r) 0)
  (x1:NX (wkn (sgL l) (nameOf l) (l.length / 2) V r (wN (sgL l) (nameOf l) (l.length / 2) V r)) (wtw l V r) 1) :
  Wrd (wkn (sgL l) (nameOf l) (l.length / 2) V r (wN (sgL l) (nameOf l) (l.length / 2) V r)) (wtw l V r) (fun j=>(wrun (sgL l) (nameOf l) (l.length / 2) V r j).d) l:=by
 have C:=wcyc h he hV hr
 have P:=wprg h he hV hr
 obtain ⟨N,hN⟩:∃ N,N=wN (sgL l) (nameOf l) (l.length / 2) V r:=⟨_,rfl⟩
 have KN:=wkind_N h he hV hr
 rw [← hN] at C P KN x0 x1 ⊢
 have kl:(wkn (sgL l) (nameOf l) (l.length / 2) V r N).length=N:=wkn_length _ _ _ _ _ _
 have kg:=wkn_get (sgL l) (nameOf l) (l.length / 2) V r N
 refine ⟨P,x0,x1,by rw [kl];exact C.pos,fun i hi=>C.lt i (by rw [← kl];exact hi),fun i j hi hj e=>C.inj i j (by rw [← kl];exact hi) (by rw [← kl];exact hj) e,fun i hi=>(C.tw_ i (by rw [← kl];exact hi)).symm,fun i hi=>?_⟩
 rw [kl] at hi
 have step:∀ j,j < N→sgL l (if (wkn (sgL l) (nameOf l) (l.length / 2) V r N).getD j 0 / 2=0 then mt (wrun (sgL l) (nameOf l) (l.length / 2) V r j).d else (wrun (sgL l) (nameOf l) (l.length / 2) V r j).d)=(wrun (sgL l) (nameOf l) (l.length / 2) V r ((j+1)%N)).d:=fun j hj=>by
  have e:fK (sgL l) (wK l V r) (wrun (sgL l) (nameOf l) (l.length / 2) V r j).d=(wrun (sgL l) (nameOf l) (l.length / 2) V r ((j+1)%N)).d:=by
   by_cases c:j+1=N
   ·rw [c,Nat.mod_self]
    have:=C.wrap
    rwa [show N - 1=j by omega] at this
   ·rw [Nat.mod_eq_of_lt (by omega)]
    exact C.next j (by omega)
  rw [← e]
  unfold fK
  rw [KN j hj,kg j hj]
  by_cases c:(wrun (sgL l) (nameOf l) (l.length / 2) V r j).k (nameOf l) < 2
  ·rw [if_pos (by omega),if_pos (by rw [if_pos c])]
  ·rw [if_neg (by omega),if_neg (by rw [if_neg c];decide)]
 show sgL l (wrun (sgL l) (nameOf l) (l.length / 2) V r i).d=(wrun (sgL l) (nameOf l) (l.length / 2) V r (nxS 0 _ _ i)).d
 unfold nxS
 rw [kl]
 by_cases c:(wkn (sgL l) (nameOf l) (l.length / 2) V r N).getD i 0 / 2=0
 ·rw [if_pos c]
  have:=step (wtw l V r i) (C.tlt i hi)
  rw [P.sort i (by rw [kl];exact hi),if_pos c,C.tw_ i hi,mt_mt'] at this
  exact this
 ·rw [if_neg c]
  have:=step i hi
  rw [if_neg c] at this
  exact this
theorem one_pq (h:Inv l b) (he:l.length%2=0) (h1:pN l=1) {x:Nat} (hx:x < l.length):pq l x=0:=by
 have:=pq_lt h he hx hx
 have:=pq_lt h he hx (d:=l.length) hx
 unfold pN at h1
 omega
theorem one_all (h:Inv l b) (he:l.length%2=0) (h1:pN l=1) {r x:Nat} (hr:r < l.length) (hx:x < l.length):part l r x :=
 (pq_part h he hr hx).1 (by rw [one_pq h he h1 hx,one_pq h he h1 hr])
theorem enc_all (h:Inv l b) (he:l.length%2=0) {V:Nat} (hV:∀ x,x < l.length→nameOf l x < V) {r:Nat} (hr:r < l.length) (h1:pN l=1) (hg:genusN l=0) :
  wN (sgL l) (nameOf l) (l.length / 2) V r=l.length ∧
  Wrd (wkn (sgL l) (nameOf l) (l.length / 2) V r l.length) (wtw l V r) (fun j=>(wrun (sgL l) (nameOf l) (l.length / 2) V r j).d) l ∧
  RightW (wkn (sgL l) (nameOf l) (l.length / 2) V r l.length) (wtw l V r) ∧
  ∀ d,d < l.length→∃ i,i < l.length∧(wrun (sgL l) (nameOf l) (l.length / 2) V r i).d=d:=by
 obtain ⟨c1,_⟩:=walk_counts h he hV hr
 have hpE:pE l (pq l r) l.length=l.length / 2:=by
  obtain ⟨m,hm⟩:∃ m,m=l.length / 2:=⟨_,rfl⟩
  have h2:l.length=2*m:=by omega
  unfold pE
  rw [h2,num_evens (fun d=>pq l d=pq l r) m]
  rw [num_congr (S:=fun _=>True) fun e he'=>⟨fun _=>trivial,fun _=>by rw [one_pq h he h1 (by omega),one_pq h he h1 hr]⟩,cnum_all]
  omega
 have hN:wN (sgL l) (nameOf l) (l.length / 2) V r=l.length:=by rw [c1,hpE];omega
 obtain ⟨G,hG1,hG2⟩:=pG_is h he (phi_inv h he) (j:=pq l r) (by rw [one_pq h he h1 hr];omega)
 have hG:G=0:=by
  unfold genusN genusTo at hg
  rw [h1] at hg
  simp [pgen,h1] at hg
  rw [one_pq h he h1 hr] at hG1
  omega
 obtain ⟨p0,p1⟩:=wplane h he (phi_inv h he) hV hr hG2
 have W:=enc_wrd h he hV hr p0 (p1.2 hG)
 rw [hN] at W
 have kl:(wkn (sgL l) (nameOf l) (l.length / 2) V r l.length).length=l.length:=wkn_length _ _ _ _ _ _
 refine ⟨hN,W,?_,fun d hd=>?_⟩
 ·exact W.isR h (m:=l.length / 2) (by omega) hV fun i hi=>⟨rfl,(wkn_get _ _ _ _ _ _ i (by rw [← kl];exact hi)).symm⟩
 ·obtain ⟨j,hj,e⟩:=(wpart (sgL_pf h) (show l.length=2*(l.length / 2) by omega) (nm_ok h) hV hr hd).1 (one_all h he h1 hr hd)
  exact ⟨j,by rw [← hN];exact hj,e⟩
end
end Go.Proofs.YtijbdnhlpbcabaaGreatDoor
namespace Go.Proofs.YtijbdnhlpbcabaaGreatDoor
set_option maxRecDepth 20000
def ErrM (l:List Nat) (lone:Nat) (E:Int):Prop:=(pN l+lone≠1∧E=8)∨(pN l+lone=1∧genusN l≠0∧E=7)∨(pN l+lone=1∧genusN l=0∧E=0)
theorem tfit_p (g:Nat) (l b:List Nat) (root:Int) (lone:Nat) (E:Int) (w:World) (h:MapAt w g l b root lone) (hE:ErrM l lone E) :
  Calls Tryz.prog 54 #[.pointer (some ⟨g,0,none⟩)] w fun e w'=>e=.returned (.int .i64 E)∧Below w.heap.size w w':=by
 have CN:=Lib.hid (connected_p g l b root lone w h)
 have PL:Hid (∀ W,Below w.heap.size w W→Calls Tryz.prog 35 #[.pointer (some ⟨g,0,none⟩)] W fun e w'=>e=.returned (.bool (decide (genusN l=0)))∧Below W.heap.size W w'):=fun W z=>planar_p g l b root lone W (h.below z)
 obtain ⟨c,hc⟩:∃ c,c=pN l+lone:=⟨_,rfl⟩
 obtain ⟨G,hG⟩:∃ G,G=genusN l:=⟨_,rfl⟩
 unfold ErrM at hE
 rw [← hc,← hG] at hE
 rw [← hc] at CN
 rw [← hG] at PL
 clear h hc hG
 go_enter Tryz.func54,Tryz.ntmps54
 go_wp2_with fail
 refine CN.out.mono ?_
 rintro e w1 ⟨rfl,b1⟩
 by_cases h1:c=1
 ·have d1:decide (c=1)=true:=decide_eq_true h1
  have PL1:=Lib.hid (PL.out w1 b1)
  have B1:=Lib.hid b1
  clear b1 PL CN
  go_wp2_with fail
  refine PL1.out.mono ?_
  rintro e w2 ⟨rfl,b2⟩
  have B2:=Lib.hid (B1.out.trans (b2.mono B1.out.size))
  clear b2
  by_cases h2:G=0
  ·have d2:decide (G=0)=true:=decide_eq_true h2
   obtain rfl:E=0:=by omega
   clear hE h1 h2
   go_wp2_with fail
   go_ret
   exact ⟨rfl,B2.out⟩
  ·have d2:decide (G=0)=false:=decide_eq_false h2
   obtain rfl:E=7:=by omega
   clear hE h1
   go_wp2_with fail
   go_ret
   exact ⟨rfl,B2.out⟩
 ·have d1:decide (c=1)=false:=decide_eq_false h1
  have B1:=Lib.hid b1
  obtain rfl:E=8:=by omega
  clear b1 PL CN hE
  go_wp2_with fail
  go_ret
  exact ⟨rfl,B1.out⟩
noncomputable def wordL (l:List Nat) (root:Int):List Nat:=wkn (sgL l) (nameOf l) (l.length / 2) (sizes l).length root.toNat l.length
theorem wordL_len (l:List Nat) (root:Int):(wordL l root).length=l.length:=wkn_length _ _ _ _ _ _
def EnPost (w:World) (l:List Nat) (root:Int) (E:Int) (e:Ending) (w':World):Prop :=
 (E≠0∧e=.returned (.tuple #[.pointer none,.int .i64 E])∧Below w.heap.size w w') ∨
 (E=0∧∃ g,e=.returned (.tuple #[.pointer (some ⟨g,0,none⟩),.int .i64 0])∧WordAt w' w.heap.size g (wordL l root)∧Below w.heap.size w w')
set_option maxHeartbeats 4000000 in
theorem tenc_p (g:Nat) (l b:List Nat) (root:Int) (lone:Nat) (E:Int) (w:World) (h:MapAt w g l b root lone) (hi:Inv l b) (hr:RootOk root l.length) (hE:ErrM l lone E) :
  Calls Tryz.prog 13 #[.pointer (some ⟨g,0,none⟩)] w (EnPost w l root E):=by
 have F:=Lib.hid (tfit_p g l b root lone E w h hE)
 have RT:Hid (∀ W,Below w.heap.size w W→Calls Tryz.prog 33 #[.pointer (some ⟨g,0,none⟩)] W fun e w'=>e=.returned (.int .i64 root)∧W=w'):=fun W z=>root_p g l b root lone W (h.below z)
 by_cases h0:E=0
 ·have hc:pN l+lone=1∧genusN l=0:=by unfold ErrM at hE;omega
  have WK:Hid (∀ W,Below w.heap.size w W→Calls Tryz.prog 55 #[.pointer (some ⟨g,0,none⟩),.int .i64 root] W fun e w'=>∃ (A:Option Addr) (c:Nat) (L:List Int) (E':Int),e=.returned (.tuple #[.slice A l.length c,.int .i64 E'])∧Hid (RdS w' w'.heap.size A l.length L∧kindsN L l.length=wordL l root)∧Below W.heap.size W w'):=fun W z=>by
   rcases hr with ⟨r0,r1⟩ | ⟨r0,r1,r2⟩
   ·have hl:l=[]:=List.eq_nil_of_length_eq_zero r0
    refine (walkOf_out g l b root lone root W (h.below z) (.inl (by omega))).mono ?_
    rintro e w' ⟨rfl,bb⟩
    refine ⟨none,0,[],5,by rw [r0],⟨by rw [r0];exact RdS.nil _ _ _,?_⟩,bb⟩
    unfold wordL
    rw [hl];rfl
   ·obtain ⟨r,rfl⟩:=Int.eq_ofNat_of_zero_le r1
    have he:=h.1.1
    have hrl:r < l.length:=by omega
    have p1:pN l=1:=by have:=pq_lt hi he hrl hrl;have:=pq_lt hi he (d:=l.length) hrl hrl;unfold pN at *;omega
    have l0:lone=0:=by omega
    have hV:=nm_ltW hi (V:=(sizes l).length) (Nat.le_refl _)
    obtain ⟨hN,_⟩:=enc_all hi he hV hrl p1 hc.2
    refine (walkOf_p g l b (r:Int) lone r (l.length / 2) (sizes l).length W (h.below z) hi hrl rfl (by rw [l0];simp)).mono ?_
    rintro e w' ⟨A,c,rfl,ho,bb⟩
    rw [hN] at ho ⊢
    exact ⟨A,c,_,0,rfl,⟨RdS.own ho,kindsN_wkn _ _ _ _ _ _ _ (Nat.le_refl _)⟩,bb⟩
  have hn:l.length≤131072:=h.2.1
  obtain ⟨n,hnl⟩:∃ n,n=l.length:=⟨_,rfl⟩
  obtain ⟨ks,hks⟩:∃ ks,ks=wordL l root:=⟨_,rfl⟩
  rw [← hnl,← hks] at WK
  rw [← hnl] at hn
  have HK:Hid (ks=wordL l root):=hks
  subst h0
  clear h hi hr hE hc hnl hks
  go_enter Tryz.func13,Tryz.ntmps13
  go_wp2_with fail
  refine F.out.mono ?_
  rintro e w1 ⟨rfl,b1⟩
  have RT1:=Lib.hid (RT.out w1 b1)
  have WK1:=Lib.hid (WK.out w1 b1)
  have B1:=Lib.hid b1
  clear b1 RT WK F
  go_wp2_with fail
  refine RT1.out.mono ?_
  rintro e w2 ⟨rfl,rfl⟩
  go_wp2_with fail
  refine WK1.out.mono ?_
  rintro e w2 ⟨A,c,L,E',rfl,HL,b2⟩
  have WW:=Lib.hid (wword_p A n c _ L w2 HL.out.1 (Nat.le_refl _) (by omega))
  have B2:=Lib.hid (B1.out.trans (b2.mono B1.out.size))
  clear b2 WK1 RT1
  go_wp2_with fail
  refine WW.out.mono ?_
  rintro e w3 ⟨g3,rfl,hw,b3⟩
  have HW3:=Lib.hid hw
  have B3:=Lib.hid (B2.out.trans (b3.mono B2.out.size))
  clear hw b3 WW
  go_wp2_with fail
  go_ret2
  refine .inr ⟨rfl,g3,rfl,?_,B3.out⟩
  rw [← HK.out,← HL.out.2]
  exact HW3.out.base B2.out.size
 ·clear h hi hr hE RT
  have e1:(E == 0)=false:=by simp;exact h0
  go_enter Tryz.func13,Tryz.ntmps13
  go_wp2_with fail
  refine F.out.mono ?_
  rintro e w1 ⟨rfl,b1⟩
  have B1:=Lib.hid b1
  clear b1 F
  go_wp2_with fail
  go_ret2
  exact .inl ⟨h0,rfl,B1.out⟩


section
variable {w0 w:World} {m gx p0 g0 p1 g1 q:Nat} {ks:List Nat}
theorem Mx.lts (h:Mx w0 w m gx p0 g0 p1 g1 ks q) (i:Nat) (hi:MxS gx p0 g0 p1 g1 i):i < w.heap.size:=by
 obtain ⟨d,k,_,hx⟩:=h.ix
 obtain ⟨d0,ha⟩:=h.pa
 obtain ⟨d1,hb⟩:=h.pb
 obtain ⟨cx,bx⟩:=hx.blk_
 obtain ⟨ca,ba⟩:=ha.blk_
 obtain ⟨cb',bb⟩:=hb.blk_
 obtain ⟨cga,bga⟩:=ha.gblk
 obtain ⟨cgb,bgb⟩:=hb.gblk
 rcases hi with rfl | rfl | rfl | rfl | rfl
 ·exact bx.lt
 ·exact ba.lt
 ·exact bga.lt
 ·exact bb.lt
 ·exact bgb.lt
end
end Go.Proofs.YtijbdnhlpbcabaaGreatDoor
namespace Go.Proofs.YtijbdnhlpbcabaaGreatDoor
section
variable {w0 w w':World} {m gx p0 g0 p1 g1 q:Nat} {ks:List Nat}
theorem Mx.off (h:Mx w0 w m gx p0 g0 p1 g1 ks q) {gn:Nat} {T:TypeId} {cs:Array Value} (ht:T≠171∧T≠192∧T≠137∧T≠139∧T≠157∧T≠227) (md:Mod (fun i=>i=gn) w w') (hb:Blk w gn T cs) (hlo:w0.heap.size≤gn):Mx w0 w' m gx p0 g0 p1 g1 ks q:=by
 obtain ⟨t1,t2,t3,t4,t5,t6⟩:=ht
 obtain ⟨d,k,hk,hx⟩:=h.ix
 obtain ⟨d0,ha⟩:=h.pa
 obtain ⟨d1,hbb⟩:=h.pb
 obtain ⟨cx,bx⟩:=hx.blk_
 obtain ⟨ca,ba⟩:=ha.blk_
 obtain ⟨cb',bb⟩:=hbb.blk_
 obtain ⟨cga,bga⟩:=ha.gblk
 obtain ⟨cgb,bgb⟩:=hbb.gblk
 refine ⟨h.blk.mod md fun e=>?_,⟨d,k,hk,hx.apart md fun i hi=>?_⟩,⟨d0,ha.apart md fun i hi=>?_⟩,⟨d1,hbb.apart md fun i hi=>?_⟩,h.ne,h.lo,h.kd,h.b0,h.b1,h.bel.trans (md.belowB h.bel.size fun i hi e=>by omega),h.nul,h.tab⟩
 ·exact t3 (blk_ty (e ▸ hb) h.blk)
 ·subst hi
  exact ⟨fun e=>t1 (blk_ty (e ▸ hb) bx),_,_,hb,t4,t5⟩
 ·subst hi
  exact ⟨fun e=>t1 (blk_ty (e ▸ hb) bga),fun e=>t2 (blk_ty (e ▸ hb) ba),_,_,hb,t4,t5,t6⟩
 ·subst hi
  exact ⟨fun e=>t1 (blk_ty (e ▸ hb) bgb),fun e=>t2 (blk_ty (e ▸ hb) bb),_,_,hb,t4,t5,t6⟩
end
end Go.Proofs.YtijbdnhlpbcabaaGreatDoor
namespace Go.Proofs.YtijbdnhlpbcabaaGreatDoor
set_option maxRecDepth 20000
theorem tmate_p (d:Nat) (w:World) (hd:d < 1000000):Calls Tryz.prog 100 #[.int .i64 (d:Int)] w fun e w'=>e=.returned (.int .i64 ((mt d:Nat):Int))∧w=w':=by
 have hx:=xor_one_i64 d (by omega)
 rw [mt_mateN] at hx
 go_enter Tryz.func100,Tryz.ntmps100
 go_wp2_with fail
 go_ret
 exact ⟨rfl,rfl⟩
section
variable {w0 w:World} {m gx p0 g0 p1 g1 q:Nat} {ks:List Nat} {tw:Nat→Nat}
theorem tpair_p (W:Wd ks tw) (h:Mx w0 w m gx p0 g0 p1 g1 ks q) (i:Nat) (hi:i < ks.length) (hq:q≤800000) :
  Calls Tryz.prog 112 #[.agg #[.pointer (some ⟨m,0,none⟩)],.int .i64 (i:Int)] w (MxP w0 w m gx p0 g0 p1 g1 ks (q+6) (.returned (.int .i64 ((tw i:Nat):Int)))):=by
 have hal:=(Below.refl w.heap.size w).alloc (Nat.le_refl _) (.cells #[.pointer (some ⟨m,0,none⟩)] 94)
 have MT:=Lib.hid (mateI_p (h.below hal) i hi hq)
 have x0:=(Blk.new w 94 #[.pointer (some ⟨m,0,none⟩)]).cell 0
 have MA:=Lib.hid ((Mod.refl (MxS gx p0 g0 p1 g1) w).alloc (.cells #[.pointer (some ⟨m,0,none⟩)] 94))
 simp at x0
 have HW:=Lib.hid (fun p (hp:MateAt ks i p)=>W.mate hi hp)
 clear h hal W
 go_enter Tryz.func112,Tryz.ntmps112
 go_wp2_with fail
 refine MT.out.mono ?_
 rintro e w2 ⟨p,hp,rfl,h2,m2⟩
 obtain rfl:=HW.out p hp
 go_wp2_with fail
 go_ret
 exact ⟨by go_num,h2,MA.out.trans m2 fun _ _ q=>q⟩
theorem tback_p (W:Wd ks tw) (h:Mx w0 w m gx p0 g0 p1 g1 ks q) (i:Nat) (hi:i < ks.length) (hq:q≤600000) (r:Int) (hr:r=ownI (ownP 0 ks tw (tw i))) :
  Calls Tryz.prog 98 #[.agg #[.pointer (some ⟨m,0,none⟩)],.int .i64 (i:Int)] w (MxP w0 w m gx p0 g0 p1 g1 ks (q+13) (.returned (.bool (decide (r < (i:Int)))))):=by
 have hal:=(Below.refl w.heap.size w).alloc (Nat.le_refl _) (.cells #[.pointer (some ⟨m,0,none⟩)] 94)
 have hB:=Blk.new w 94 #[.pointer (some ⟨m,0,none⟩)]
 obtain ⟨w1,hw1⟩:∃ w1,w1=w.alloc (.cells #[.pointer (some ⟨m,0,none⟩)] 94):=⟨_,rfl⟩
 rw [← hw1] at hal hB
 have h1:=h.below hal
 have PR:Hid (Calls Tryz.prog 112 #[.agg #[.pointer (some ⟨m,0,none⟩)],.int .i64 (i:Int)] w1.drew (MxP w0 w1.drew m gx p0 g0 p1 g1 ks (q+6) (.returned (.int .i64 ((tw i:Nat):Int))))) :=
  tpair_p W (h1.below (Below.refl _ _).drew) i hi (by omega)
 have x0:w1.drew.cell? ⟨w.heap.size,0,none⟩=some (.pointer (some ⟨m,0,none⟩)):=by have:=hB.cell 0;simpa using this
 have MA:Hid (Mod (MxS gx p0 g0 p1 g1) w w1.drew):=by
  rw [hw1];exact ((Mod.refl (MxS gx p0 g0 p1 g1) w).alloc _).drew
 have hns:Hid (¬ MxS gx p0 g0 p1 g1 w.heap.size∧w.heap.size < w1.drew.heap.size):=⟨fun s=>by have:=h.lts _ s;omega,hB.lt⟩
 obtain ⟨t,ht⟩:∃ t,t=tw i:=⟨_,rfl⟩
 have htl:t < ks.length:=by rw [ht];exact W.P.lt i hi
 have HO:Hid (∀ s:Int,OwnAt ks t s→s=r):=fun s hs=>by rw [hr,← ht];exact W.own htl hs
 have HT:=Lib.hid (And.intro htl hq)
 rw [← ht] at PR
 clear h h1 hal hB W hr ht htl
 go_enter Tryz.func98,Tryz.ntmps98
 go_upto_region 1 with fail
 rw [← hw1]
 clear hw1
 go_region_with (first
  | (go_at_call 112;(with_reducible refine PR.out.mono ?_);rintro e wa ⟨rfl,ha,ma⟩;have y0:wa.cell? ⟨w.heap.size,0,none⟩=some (.pointer (some ⟨m,0,none⟩)):=(ma.cell hns.out.2 hns.out.1 0).trans x0;have HA:=Lib.hid ha;have MB:=Lib.hid (MA.out.trans ma fun _ _ q=>q);have OW:=Lib.hid (ownerI_p ha t HT.out.1 (by have:=HT.out.2;omega));clear ha ma)
  | (go_at_call 128;(with_reducible refine OW.out.mono ?_);rintro e wb ⟨s,hs,rfl,hb,mb⟩;obtain rfl:=HO.out s hs;have HBB:=Lib.hid hb;have MC:=Lib.hid (MB.out.trans mb fun _ _ q=>q);clear hs hb mb))
 all_goals (
  go_wp2_with fail
  go_ret
  exact ⟨by first | rfl | simp,HBB.out,MC.out⟩)
end
end Go.Proofs.YtijbdnhlpbcabaaGreatDoor
