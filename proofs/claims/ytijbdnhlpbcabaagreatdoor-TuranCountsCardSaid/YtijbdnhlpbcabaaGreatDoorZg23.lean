/- Index: the index of a word. -/
import Derived.Test.YtijbdnhlpbcabaaGreatDoorZg13
import Derived.Test.YtijbdnhlpbcabaaGreatDoorZg22
import Derived.BigRegion
import Derived.BigQuiet
import Derived.Test.YtijbdnhlpbcabaaGreatDoorZg12
import Derived.Lib.Bytealg
import Derived.Lib.Strings
import Derived.OwnWalk
import Derived.Test.YtijbdnhlpbcabaaGreatDoorZg14
import Derived.Test.YtijbdnhlpbcabaaGreatDoorZg21
open Go.RowKit
set_option linter.unusedVariables false
set_option linter.unusedSimpArgs false
namespace Go.Proofs.YtijbdnhlpbcabaaGreatDoor
set_option maxRecDepth 20000
theorem MTabs.below {w w':World} (h:MTabs w) (m:Below w.heap.size w w'):MTabs w':=⟨h.tab.below h.lt m,h.nul.bel m,Nat.lt_of_lt_of_le h.lt m.size⟩
theorem shapeOf_p (k:Nat) (w:World) (hk:k < 4):Calls Tryz.prog 120 #[.int .i64 (k:Int)] w fun e w'=>e=.returned (.int .i64 ((k / 2:Nat):Int))∧w=w':=by
 have h1:(k:Int).tdiv 2=((k / 2:Nat):Int):=by rw [Int.tdiv_eq_ediv_of_nonneg (by omega)];omega
 have h2:IntKind.i64.wrap ((k / 2:Nat):Int)=((k / 2:Nat):Int):=by simp [IntKind.wrap,IntKind.signed,IntKind.bits];omega
 generalize k / 2=y at *
 go_enter Tryz.func120,Tryz.ntmps120
 go_wp2_with fail
 go_ret
 exact ⟨by first | rfl | (show _=_;simp [h1,h2]),rfl⟩
theorem opening_p (k:Nat) (w:World) (hk:k < 4):Calls Tryz.prog 123 #[.int .i64 (k:Int)] w fun e w'=>e=.returned (.int .i64 ((1 - k%2:Nat):Int))∧w=w':=by
 have h1:(k:Int).tmod 2=((k%2:Nat):Int):=by rw [Int.tmod_eq_emod_of_nonneg (by omega)];omega
 obtain ⟨y,hy⟩:∃ y,y=k%2:=⟨_,rfl⟩
 have h2:(1:Int) - (y:Int)=((1 - y:Nat):Int):=by omega
 have h3:IntKind.i64.wrap ((1:Int) - (y:Int))=((1 - y:Nat):Int):=by rw [h2];simp [IntKind.wrap,IntKind.signed,IntKind.bits];omega
 rw [← hy] at h1 ⊢
 generalize 1 - y=z at *
 clear hy
 go_enter Tryz.func123,Tryz.ntmps123
 go_wp2_with fail
 go_ret
 exact ⟨by first | rfl | (show _=_;simp [h2,h3]),rfl⟩
theorem ownF_p (k s bx:Nat) (w:World) (hk:k < 4) (hc:w.cell? ⟨bx,0,none⟩=some (.int .i64 (s:Int))) :
  Calls Tryz.prog 121 #[.int .i64 (k:Int),.pointer (some ⟨bx,0,none⟩)] w fun e w'=>e=.returned (.bool (decide (k / 2=s)))∧∃ j,w'=w.drewN j:=by
 have SP:=Lib.hid (fun W=>shapeOf_p k W hk)
 have hd:decide (((k / 2:Nat):Int)=(s:Int))=decide (k / 2=s):=by rw [decide_eq_decide];omega
 have hd2:((((k / 2:Nat):Int)) == (s:Int))=decide (k / 2=s):=by rw [← hd];rfl
 generalize decide (k / 2=s)=bb at *
 generalize k / 2=y at *
 go_enter Tryz.func121,Tryz.ntmps121
 go_wp2_with fail
 go_quiet ((go_at_call 120;exact Calls.quiet_of_same ((SP.out _).mono fun e w' ⟨he,hw⟩=>⟨he,hw.symm⟩)))
 go_wp2_with fail
 go_ret
 exact ⟨by first | rfl | (show _=_;simp [hd]),_,rfl⟩
def VecPost (w:World) (l:List Nat) (e:Ending) (w':World):Prop:=∃ gv A,e=.returned (.pointer (some ⟨gv,0,none⟩))∧VecAt w' gv (val l) l.length A∧Below w.heap.size w w'∧w.heap.size≤gv
theorem vecL_shp {ks:List Nat} (h:Kds ks):vecL (fun k=>decide (Kd (k:Int))) (· / 2) ks=shp ks:=by
 unfold vecL shp
 rw [List.filter_eq_self.2 fun k hk=>by rw [decide_eq_true_iff];have:=h k hk;exact ⟨by omega,by omega⟩]
structure Tells (w:World) (pv:Option Addr) (ks:List Nat):Prop where
 v0:∀ W,Below w.heap.size w W→Calls Tryz.prog 119 #[.pointer pv,.func (.func 83) #[] #[],.func (.func 120) #[] #[]] W (VecPost W (shp ks))
 v1:∀ s bx W,s < 2→Below w.heap.size w W→W.cell? ⟨bx,0,none⟩=some (.int .i64 ((s:Nat):Int))→Calls Tryz.prog 119 #[.pointer pv,.func (.func 121) #[] #[.pointer (some ⟨bx,0,none⟩)],.func (.func 123) #[] #[]] W (VecPost W (ownL s ks))
theorem tells_word (B g:Nat) (ks:List Nat) (w:World) (h:WordAt w B g ks) (hn:ks.length≤300000):Tells w (some ⟨g,0,none⟩) ks:=by
 refine ⟨fun W m=>?_,fun s bx W hs m hc=>?_⟩
 ·have h1:=vector_a 83 120 (fun k=>decide (Kd (k:Int))) (· / 2) B g ks W (h.below m) hn (fun k hk=>by omega) (fun _ _=>rfl) (fun _ _=>rfl)
   (fun k hk W2 _=>(isKind_p (k:Int) W2).mono fun e w' ⟨he,hw⟩=>⟨he,0,hw.symm⟩) (fun k hk W2=>shapeOf_p k W2 hk)
  rw [vecL_shp h.1] at h1
  exact h1
 ·exact vector_b 121 123 bx (fun k=>decide (k / 2=s)) (fun k=>1 - k%2) B g ks W (h.below m) hn (fun k hk=>by omega) (fun _ _=>rfl) (fun _ _=>rfl)
   (fun k hk W2 m2=>ownF_p k s bx W2 hk ((m2.cell (p:=⟨bx,0,none⟩) (World.block_lt_of_cell? _ _ hc)).trans hc)) (fun k hk W2=>opening_p k W2 hk)
def IxS (w wr:World) (m gx:Nat) (ks:List Nat) (v1 v2:Value):Prop :=
 Blk wr m 137 #[.pointer (some ⟨gx,0,none⟩),v1,v2]∧IdxAt wr gx (val (shp ks)) ks.length false 0∧Below w.heap.size w wr∧w.heap.size≤gx∧w.heap.size≤m
theorem IxS.below {w wr w':World} {m gx:Nat} {ks:List Nat} {v1 v2:Value} (h:IxS w wr m gx ks v1 v2) (b:Below wr.heap.size wr w'):IxS w w' m gx ks v1 v2 :=
 ⟨h.1.below b,h.2.1.below b,h.2.2.1.trans (b.mono h.2.2.1.size),h.2.2.2⟩
def PS (w wr:World) (p g s:Nat) (ks:List Nat):Prop:=PAt wr p g (val (ownL s ks)) (ownL s ks).length false 0∧Bal (exc (val (ownL s ks))) (ownL s ks).length∧w.heap.size≤g
theorem PS.below {w wr w':World} {p g s:Nat} {ks:List Nat} (h:PS w wr p g s ks) (b:Below wr.heap.size wr w'):PS w w' p g s ks:=⟨h.1.below b,h.2⟩
theorem IxS.ne {w wr:World} {m gx:Nat} {ks:List Nat} {v1 v2:Value} (h:IxS w wr m gx ks v1 v2):m≠gx:=fun e=>by
 obtain ⟨cx,bx⟩:=h.2.1.blk_
 exact absurd (blk_ty (e ▸ h.1) bx) (by decide)
theorem IxS.put (k:Nat) (u:Value) (n:Nat) {w wr:World} {m gx:Nat} {ks:List Nat} {v1 v2:Value} (h:IxS w wr m gx ks v1 v2) :
  Blk ((wr.drewN n).setCell ⟨m,k,none⟩ u) m 137 (#[.pointer (some ⟨gx,0,none⟩),v1,v2].setIfInBounds k u)∧IdxAt ((wr.drewN n).setCell ⟨m,k,none⟩ u) gx (val (shp ks)) ks.length false 0∧Below w.heap.size w ((wr.drewN n).setCell ⟨m,k,none⟩ u)∧w.heap.size≤gx∧w.heap.size≤m :=
 ⟨(h.1.drewN n).set_ k u,h.2.1.apart (Mod.setCell (p:=⟨m,k,none⟩) ((Mod.refl (fun i=>i=m) wr).drewN n) (fun _=>rfl) u) (fun i hi=>by
    subst hi;exact ⟨h.ne,_,_,h.1,by decide,by decide⟩),(below_draws h.2.2.1 n).setCell (p:=⟨m,k,none⟩) h.2.2.2.2 u,h.2.2.2⟩
theorem IxS.put1 {w wr:World} {m gx:Nat} {ks:List Nat} {v1 v2:Value} (h:IxS w wr m gx ks v1 v2) (u:Value) (n:Nat):IxS w ((wr.drewN n).setCell ⟨m,1,none⟩ u) m gx ks u v2:=h.put 1 u n
theorem IxS.put2 {w wr:World} {m gx:Nat} {ks:List Nat} {v1 v2:Value} (h:IxS w wr m gx ks v1 v2) (u:Value) (n:Nat):IxS w ((wr.drewN n).setCell ⟨m,2,none⟩ u) m gx ks v1 u:=h.put 2 u n
theorem PS.put {w wr:World} {m p g s:Nat} {ks:List Nat} {cs:Array Value} (h:PS w wr p g s ks) (hm:Blk wr m 137 cs) (k:Nat) (u:Value) (n:Nat):PS w ((wr.drewN n).setCell ⟨m,k,none⟩ u) p g s ks:=by
 obtain ⟨ca,ba⟩:=h.1.blk_
 obtain ⟨cga,bga⟩:=h.1.gblk
 refine ⟨h.1.apart (Mod.setCell (p:=⟨m,k,none⟩) ((Mod.refl (fun i=>i=m) wr).drewN n) (fun _=>rfl) u) (fun i hi=>?_),h.2⟩
 subst hi
 exact ⟨fun e=>absurd (blk_ty (e ▸ hm) bga) (by decide),fun e=>absurd (blk_ty (e ▸ hm) ba) (by decide),_,_,hm,by decide,by decide,by decide⟩
def IxL (w wr:World) (m gx:Nat) (ks:List Nat) (i:Value):Prop :=
 (i=.int .i64 0∧Hid (IxS w wr m gx ks (.pointer none) (.pointer none))) ∨
 (i=.int .i64 1∧∃ p0 g0,Hid (IxS w wr m gx ks (.pointer (some ⟨p0,0,none⟩)) (.pointer none))∧Hid (PS w wr p0 g0 0 ks)∧Hid (m < g0)) ∨
 (i=.int .i64 2∧∃ p0 g0 p1 g1,Hid (IxS w wr m gx ks (.pointer (some ⟨p0,0,none⟩)) (.pointer (some ⟨p1,0,none⟩)))∧Hid (PS w wr p0 g0 0 ks)∧Hid (PS w wr p1 g1 1 ks)∧Hid (m < g0∧p0 < g1))
def IxPost (w:World) (ks:List Nat) (e:Ending) (w':World):Prop :=
 (∃ m gx p0 g0 p1 g1,e=.returned (.tuple #[.pointer (some ⟨m,0,none⟩),.int .i64 0])∧Mx w w' m gx p0 g0 p1 g1 ks 0) ∨
   (¬ (Bal (exc (val (ownL 0 ks))) (ownL 0 ks).length∧Bal (exc (val (ownL 1 ks))) (ownL 1 ks).length)∧e=.returned (.tuple #[.pointer none,.int .i64 9])∧Below w.heap.size w w')
set_option maxHeartbeats 4000000 in
theorem index_p (pv:Option Addr) (ks:List Nat) (w:World) (hk:Kds ks) (hT:MTabs w) (hV:Tells w pv ks) :
  Calls Tryz.prog 96 #[.pointer pv] w (IxPost w ks):=by
 have HK:=Lib.hid hk
 have HT:=Lib.hid hT
 have HV:=Lib.hid hV
 have hmf:∀ (fn:Fn) (first cap:Array Value) (w:World),(Instr.makeFunc fn first cap).run Tryz.prog w=.ok (.func fn first cap) w:=fun _ _ _ _=>rfl
 have V0:=Lib.hid (hV.v0 w (Below.refl _ _))
 clear hk hT hV
 go_enter Tryz.func96,Tryz.ntmps96
 go_wp2_with fail
 refine V0.out.mono ?_
 rintro e w1 ⟨gv,A,rfl,hv,b1,_⟩
 have XN:=Lib.hid (xnew_p gv _ _ _ A w1 hv)
 have B1:=Lib.hid b1
 clear hv b1 V0
 go_wp2_with fail
 refine XN.out.mono ?_
 rintro e w2 ⟨gx,rfl,hx,hg,b2⟩
 rw [shp_len] at hx
 have B2:=Lib.hid (B1.out.trans (b2.mono B1.out.size))
 have h12:w.heap.size≤w1.heap.size:=B1.out.size
 have h22:w1.heap.size≤w2.heap.size:=b2.size
 have IX:Hid (IxS w (w2.alloc (.cells #[.pointer (some ⟨gx,0,none⟩),.pointer none,.pointer none] 137)) w2.heap.size gx ks (.pointer none) (.pointer none)) :=
  ⟨Blk.new w2 _ _,hx.below ((Below.refl _ _).alloc (Nat.le_refl _) _),B2.out.alloc B2.out.size _,by omega,by omega⟩
 have hgl:gx < w2.heap.size:=hx.lt
 clear hx b2 XN B1
 obtain ⟨m,hmm⟩:∃ m,m=w2.heap.size:=⟨_,rfl⟩
 have hs3:(w2.alloc (.cells #[.pointer (some ⟨gx,0,none⟩),.pointer none,.pointer none] 137)).heap.size=m+1:=by rw [hmm];simp
 rw [← hmm] at IX hgl
 have HS3:=Lib.hid hs3
 have HGL:=Lib.hid hgl
 have HMM:=Lib.hid hmm
 clear hs3 hgl B2 h12 h22
 go_wp2_with fail
 rw [← hmm]
 clear hmm
 generalize w2.alloc (.cells #[.pointer (some ⟨gx,0,none⟩),.pointer none,.pointer none] 137)=w3 at *
 go_loopw [14] (fun i wr=>IxL w wr m gx ks i) (fun i _=>2 - (intOf i).toNat)
 case atStart=>exact .inl ⟨rfl,IX⟩
 case round =>
  clear IX
  obtain ⟨rfl,IX⟩ | ⟨rfl,p0,g0,IX,P0,HO⟩ | ⟨rfl,p0,g0,p1,g1,IX,P0,P1,HO⟩:=hrel
  ·have bk:=Blk.new wr 3 #[.int .i64 0]
   have b0:=(Below.refl wr.heap.size wr).alloc (Nat.le_refl _) (.cells #[.int .i64 0] 3)
   have hsz:(wr.alloc (.cells #[.int .i64 0] 3)).heap.size=wr.heap.size+1:=by simp
   have V1:=Lib.hid (HV.out.v1 0 wr.heap.size (wr.alloc (.cells #[.int .i64 0] 3)) (by decide) (IX.out.2.2.1.trans (b0.mono IX.out.2.2.1.size)) (bk.cell 0))
   have HBK:=Lib.hid bk
   have HB0:=Lib.hid b0
   have HSZ:=Lib.hid hsz
   clear bk b0 hsz
   go_wp2_with fail
   refine V1.out.mono ?_
   rintro e w4 ⟨gv,A,rfl,hv,b4,_⟩
   have PN:=Lib.hid (pnew_p gv _ _ _ A w4 hv)
   have B4:=Lib.hid (HB0.out.trans (b4.mono HB0.out.size))
   have BK4:=Lib.hid (HBK.out.below b4)
   clear hv b4 V1 HBK HB0
   go_wp2_with fail
   refine PN.out.mono ?_
   rintro e w5 (⟨hb,p,g,rfl,hp,hg,b5⟩ | ⟨hnb,rfl,b5⟩)
   ·have BB:=Lib.hid hb
    have B5:=Lib.hid (B4.out.trans (b5.mono B4.out.size))
    have k1:w5.cell? ⟨wr.heap.size,0,none⟩=some (.int .i64 0):=(BK4.out.below b5).cell 0
    have I5:=Lib.hid (IX.out.below B5.out)
    have c1:w5.cell? ⟨m,1,none⟩=some (.pointer none):=I5.out.1.cell 1
    have f1:w5.frozen? ⟨m,1,none⟩=false:=I5.out.1.frozen 1
    have hgm:m < g:=by have h1:=IX.out.1.lt;have h2:=B4.out.size;omega
    have P5:Hid (PS w w5 p g 0 ks):=⟨hp,BB.out,by have h1:=IX.out.2.2.1.size;have h2:=B4.out.size;omega⟩
    have HG:=Lib.hid hgm
    have IN:=Lib.hid (fun n=>I5.out.put1 (.pointer (some ⟨p,0,none⟩)) n)
    have PX:=Lib.hid (fun n=>P5.out.put I5.out.1 1 (.pointer (some ⟨p,0,none⟩)) n)
    clear hb hp hg b5 hgm PN B4 BK4 IX B5 I5 P5
    go_wp2_with fail
    go_region
    all_goals (
     go_wp2_with fail
     go_roundw
     case rel=>exact .inr (.inl ⟨by go_num,p,g,IN.out _,PX.out _,HG⟩)
     case measure=>simp [intOf])
   ·have HNB:=Lib.hid hnb
    have B5:Hid (Below w.heap.size w w5):=IX.out.2.2.1.trans ((B4.out.trans (b5.mono B4.out.size)).mono IX.out.2.2.1.size)
    clear hnb b5 PN B4 BK4 IX
    go_wp2_with fail
    go_ret2
    exact .inr ⟨fun h=>HNB.out h.1,rfl,B5.out⟩
  ·have bk:=Blk.new wr 3 #[.int .i64 1]
   have b0:=(Below.refl wr.heap.size wr).alloc (Nat.le_refl _) (.cells #[.int .i64 1] 3)
   have hsz:(wr.alloc (.cells #[.int .i64 1] 3)).heap.size=wr.heap.size+1:=by simp
   have V1:=Lib.hid (HV.out.v1 1 wr.heap.size (wr.alloc (.cells #[.int .i64 1] 3)) (by decide) (IX.out.2.2.1.trans (b0.mono IX.out.2.2.1.size)) (bk.cell 0))
   have HBK:=Lib.hid bk
   have HB0:=Lib.hid b0
   have HSZ:=Lib.hid hsz
   clear bk b0 hsz
   go_wp2_with fail
   refine V1.out.mono ?_
   rintro e w4 ⟨gv,A,rfl,hv,b4,_⟩
   have PN:=Lib.hid (pnew_p gv _ _ _ A w4 hv)
   have B4:=Lib.hid (HB0.out.trans (b4.mono HB0.out.size))
   have BK4:=Lib.hid (HBK.out.below b4)
   clear hv b4 V1 HBK HB0
   go_wp2_with fail
   refine PN.out.mono ?_
   rintro e w5 (⟨hb,p,g,rfl,hp,hg,b5⟩ | ⟨hnb,rfl,b5⟩)
   ·have BB:=Lib.hid hb
    have B5:=Lib.hid (B4.out.trans (b5.mono B4.out.size))
    have k1:w5.cell? ⟨wr.heap.size,0,none⟩=some (.int .i64 1):=(BK4.out.below b5).cell 0
    have I5:=Lib.hid (IX.out.below B5.out)
    have c1:w5.cell? ⟨m,2,none⟩=some (.pointer none):=I5.out.1.cell 2
    have f1:w5.frozen? ⟨m,2,none⟩=false:=I5.out.1.frozen 2
    have hgm:m < g0∧p0 < g:=⟨HO.out,by have h1:=P0.out.1.lt;have h2:=B4.out.size;omega⟩
    have P5:Hid (PS w w5 p g 1 ks):=⟨hp,BB.out,by have h1:=IX.out.2.2.1.size;have h2:=B4.out.size;omega⟩
    have HG:=Lib.hid hgm
    have IN:=Lib.hid (fun n=>I5.out.put2 (.pointer (some ⟨p,0,none⟩)) n)
    have PX:=Lib.hid (fun n=>P5.out.put I5.out.1 2 (.pointer (some ⟨p,0,none⟩)) n)
    have PY:=Lib.hid (fun n=>(P0.out.below B5.out).put I5.out.1 2 (.pointer (some ⟨p,0,none⟩)) n)
    clear hb hp hg b5 hgm PN B4 BK4 IX B5 I5 P5 P0 HO
    go_wp2_with fail
    go_region
    all_goals (
     go_wp2_with fail
     go_roundw
     case rel=>exact .inr (.inr ⟨by go_num,p0,g0,p,g,IN.out _,PY.out _,PX.out _,HG⟩)
     case measure=>simp [intOf])
   ·have HNB:=Lib.hid hnb
    have B5:Hid (Below w.heap.size w w5):=IX.out.2.2.1.trans ((B4.out.trans (b5.mono B4.out.size)).mono IX.out.2.2.1.size)
    clear hnb b5 PN B4 BK4 IX P0 HO
    go_wp2_with fail
    go_ret2
    exact .inr ⟨fun h=>HNB.out h.2,rfl,B5.out⟩
  ·have MX:Hid (Mx w wr m gx p0 g0 p1 g1 ks 0):=by
    have h:=IX.out
    have a:=P0.out.1.1
    have b:=P1.out.1.1
    have o:=HO.out
    have g:=HGL.out
    exact ⟨h.1,⟨false,0,Nat.le_refl _,h.2.1⟩,⟨false,P0.out.1⟩,⟨false,P1.out.1⟩,⟨by omega,by omega,by omega,by omega⟩,⟨h.2.2.2.2,h.2.2.2.1,P0.out.2.2,P1.out.2.2⟩,HK.out,P0.out.2.1,P1.out.2.1,h.2.2.1,HT.out.nul,HT.out.tab,HT.out.lt⟩
   clear IX P0 P1 HO
   go_wp2_with fail
   go_ret2
   exact .inl ⟨m,gx,p0,g0,p1,g1,rfl,MX.out⟩
def kb (c:Nat):Int:=if c=40 then 0 else if c=41 then 1 else if c=91 then 2 else if c=93 then 3 else -1
theorem kb_index:∀ c:Nat,c < 256→Lib.indexByte [40,41,91,93] ((c:Int).toNat.toUInt8)=kb c:=by
 have h:∀ c:Fin 256,Lib.indexByte [40,41,91,93] (((c.val:Nat):Int).toNat.toUInt8)=kb c.val:=by decide +kernel
 exact fun c hc=>h ⟨c,hc⟩
theorem kb_kd (c:Nat):Kd (kb c)↔0≤kb c:=by
 unfold Kd kb
 split
 ·simp
 split
 ·simp
 split
 ·simp
 split <;> simp
set_option maxHeartbeats 1000000 in
theorem sIdx1_p (c:Nat) (w:World) (hc:c < 256):Calls Tryz.prog 115 #[.string { data:=#[40,41,91,93] },.int .u8 (c:Int)] w fun e w'=>e=.returned (.int .i64 (kb c))∧w=w':=by
 have HK:=Lib.hid (kb_index c hc)
 go_enter Tryz.func115,Tryz.ntmps115
 go_wp2
 rw [run_callFunc_extern Tryz.func138 (by kernel_rfl) (by kernel_rfl) (by kernel_rfl) (e:=Extern.BytealgIndexByte.indexByte) (by kernel_rfl),Lib.run_indexByteString]
 simp only [Result.andThen]
 rw [Oper.upon_value]
 go_wp2
 go_ret
 exact ⟨by rw [← HK.out];rfl,rfl⟩
theorem sIdx_p (c:Nat) (w:World) (hc:c < 256):Calls Tryz.prog 82 #[.string { data:=#[40,41,91,93] },.int .u8 (c:Int)] w fun e w'=>e=.returned (.int .i64 (kb c))∧w=w':=by
 have SI:=Lib.hid (fun W=>sIdx1_p c W hc)
 go_enter Tryz.func82,Tryz.ntmps82
 go_wp2_with fail
 refine (SI.out _).mono ?_
 rintro e w' ⟨rfl,rfl⟩
 go_wp2_with fail
 go_ret
 exact ⟨rfl,rfl⟩
def bytesS (s:ByteArray):List Nat:=s.data.toList.map UInt8.toNat
theorem bytesS_len (s:ByteArray):(bytesS s).length=s.size:=by
 unfold bytesS
 rw [List.length_map];rfl
theorem bytesS_lt (s:ByteArray) (i:Nat):(bytesS s).getD i 0 < 256:=by
 by_cases hi:i < s.size
 ·have:i < s.data.size:=hi
  simp only [bytesS,List.getD_eq_getElem?_getD,List.getElem?_map]
  rw [Array.getElem?_toList,Array.getElem?_eq_getElem this]
  exact UInt8.toNat_lt _
 ·rw [List.getD_eq_getElem?_getD,List.getElem?_eq_none (by rw [bytesS_len];omega)];decide
theorem bytesS_index (s:ByteArray) (i:Nat) (hi:i < s.size) (W:World):(Instr.index 9 (.string s) (.int .i64 (i:Int))).run Tryz.prog W=.ok (.int .u8 (((bytesS s).getD i 0:Nat):Int)) W:=by
 rw [run_index_string W 9 s .i64 (i:Int) (by kernel_rfl),dif_pos ⟨by omega,by omega⟩]
 have:i < s.data.size:=hi
 simp only [bytesS,List.getD_eq_getElem?_getD,List.getElem?_map]
 rw [Array.getElem?_toList,Array.getElem?_eq_getElem this]
 rfl
def kbs (l:List Nat):List Nat:=l.map fun c=>(kb c).toNat
def ParsePost (w:World) (l:List Nat) (e:Ending) (w':World):Prop :=
 (∃ i,i < l.length∧kb (l.getD i 0)=-1∧(∀ j,j < i→0≤kb (l.getD j 0))∧e=.returned (.tuple #[.pointer none,.int .i64 (i:Int),.int .i64 13])∧Below w.heap.size w w') ∨
   (∃ g,(∀ j,j < l.length→0≤kb (l.getD j 0))∧e=.returned (.tuple #[.pointer (some ⟨g,0,none⟩),.int .i64 (l.length:Int),.int .i64 0])∧WordAt w' w.heap.size g (kbs l)∧Below w.heap.size w w')
theorem kb_no (c:Nat) (h:¬ 0≤kb c):kb c=-1:=by
 unfold kb at h ⊢
 split at h
 ·simp at h
 split at h
 ·simp at h
 split at h
 ·simp at h
 split at h
 ·simp at h
 rw [if_neg ‹_›,if_neg ‹_›,if_neg ‹_›,if_neg ‹_›]
set_option maxHeartbeats 4000000 in
theorem parse_p (s:ByteArray) (w:World) (hn:s.size≤400000):Calls Tryz.prog 47 #[.string s] w (ParsePost w (bytesS s)):=by
 have MN:=Lib.hid (mnew_p w)
 have SX:=Lib.hid (fun i (hi:i < s.size) W=>bytesS_index s i hi W)
 have LT:=Lib.hid (bytesS_lt s)
 have SI:=Lib.hid sIdx_p
 have IK:=Lib.hid isKind_p
 have PP:=Lib.hid mput_p
 obtain ⟨l,hl⟩:∃ l,l=bytesS s:=⟨_,rfl⟩
 have hsz:s.size=l.length:=by rw [hl,bytesS_len]
 rw [← hl] at SX LT ⊢
 obtain ⟨n,hnn⟩:∃ n,n=s.size:=⟨_,rfl⟩
 have HNL:Hid (n=l.length):=hnn.trans hsz
 have hns:(s.size:Int)=(n:Int):=by rw [hnn]
 have hn2:n≤400000:=by omega
 rw [← hnn] at SX
 have hln:l.length=n:=by rw [← hsz,hnn]
 clear hl hsz hnn hn
 unfold ParsePost
 rw [hln]
 clear hln
 go_enter Tryz.func47,Tryz.ntmps47
 go_wp2_with fail
 refine MN.out.mono ?_
 rintro e w1 ⟨g,rfl,hw1,b1⟩
 have W1:Hid (WordAt w1 w.heap.size g (kbs (l.take 0))):=hw1
 have B1:=Lib.hid b1
 clear hw1 b1 MN
 go_wp2_with fail
 go_loopw [11] (fun i wr=>∃ j:Nat,j≤n∧i=.int .i64 (j:Int)∧Hid (WordAt wr w.heap.size g (kbs (l.take j)))∧Hid (Below w.heap.size w wr)∧Hid (∀ t,t < j→0≤kb (l.getD t 0))) (fun i _=>n - (intOf i).toNat)
 case atStart=>exact ⟨0,by omega,rfl,W1,B1,fun t ht=>by omega⟩
 case round =>
  clear W1 B1
  obtain ⟨j,hj,rfl,HW,HB,HA⟩:=hrel
  by_cases hlt:j < n
  ·have sx:=SX.out j hlt
   have lt:=LT.out j
   have NX:Hid (kbs (l.take (j+1))=kbs (l.take j)++[(kb (l.getD j 0)).toNat]):=by
    show _=_
    have hlj:j < l.length:=by rw [← HNL.out];exact hlt
    unfold kbs
    rw [← List.take_append_getElem hlj,List.map_append,List.getD_eq_getElem?_getD,List.getElem?_eq_getElem hlj];rfl
   obtain ⟨c,hc⟩:∃ c,c=l.getD j 0:=⟨_,rfl⟩
   rw [← hc] at sx lt NX
   have HC:=Lib.hid hc
   have S1:=Lib.hid (fun W=>SI.out c W lt)
   have K1:=Lib.hid (fun W=>IK.out (kb c) W)
   clear hc lt
   by_cases hk:0≤kb c
   ·obtain ⟨k,hkk⟩:∃ k:Nat,kb c=(k:Int):=⟨(kb c).toNat,by omega⟩
    have hkd:=(kb_kd c).2 hk
    have hk4:k < 4:=by have:=hkd.2;omega
    rw [decide_eq_true hkd] at K1
    have HA2:Hid (∀ t,t < j+1→0≤kb (l.getD t 0)):=fun t ht=>by
     by_cases e:t=j
     ·rw [e,← HC.out];exact hk
     ·exact HA.out t (by omega)
    rw [hkk] at S1 K1 NX
    rw [Int.toNat_natCast] at NX
    have hll:(kbs (l.take j)).length≤400000:=by simp [kbs];omega
    have P1:=Lib.hid (PP.out w.heap.size g (kbs (l.take j)) k wr HW.out hk4 hll)
    clear hk hkk hkd hll HA HW
    go_wp2_with fail
    refine (S1.out _).mono ?_
    rintro e w2 ⟨rfl,rfl⟩
    go_wp2_with fail
    refine (K1.out _).mono ?_
    rintro e w2 ⟨rfl,rfl⟩
    go_wp2_with fail
    refine P1.out.mono ?_
    rintro e w2 ⟨rfl,hw2,b2⟩
    have HW2:Hid (WordAt w2 w.heap.size g (kbs (l.take (j+1)))):=by rw [NX.out];exact hw2
    have HB2:=Lib.hid (HB.out.trans b2)
    clear hw2 b2 P1 HB NX S1 K1
    go_wp2_with fail
    go_roundw
    case rel=>exact ⟨j+1,by omega,by go_num,HW2,HB2,HA2⟩
    case measure=>simp [intOf];omega
   ·have hkd:¬ Kd (kb c):=fun h=>hk ((kb_kd c).1 h)
    rw [decide_eq_false hkd] at K1
    have HN:Hid (kb (l.getD j 0)=-1):=by rw [← HC.out];exact kb_no c hk
    clear hk hkd
    generalize kb c=z at *
    go_wp2_with fail
    refine (S1.out _).mono ?_
    rintro e w2 ⟨rfl,rfl⟩
    go_wp2_with fail
    refine (K1.out _).mono ?_
    rintro e w2 ⟨rfl,rfl⟩
    go_wp2_with fail
    go_ret3
    exact .inl ⟨j,hlt,HN.out,HA.out,rfl,HB.out⟩
  ·obtain rfl:j=n:=by omega
   have HWE:Hid (WordAt wr w.heap.size g (kbs l)):=by
    have:=HW.out
    rw [List.take_of_length_le (by rw [← HNL.out];exact Nat.le_refl _)] at this
    exact this
   clear HW
   go_wp2_with fail
   go_ret3
   exact .inr ⟨g,HA.out,rfl,HWE.out,HB.out⟩
theorem toN_of (ks:List Nat):toN (ofNB ks)=ks:=by
 unfold toN ofNB
 rw [List.map_map]
 conv=>rhs;rw [← List.map_id ks]
 exact List.map_congr_left fun x _=>by simp
theorem kd_of {ks:List Nat} (h:Kds ks):∀ x∈ofNB ks,Kd x:=fun x hx=>by
 obtain ⟨k,hk,rfl⟩:=List.mem_map.1 hx
 have:=h k hk
 exact ⟨by omega,by omega⟩
theorem OwnZ.uniq {ks:List Nat} {i:Nat} {y z:Int} (h:OwnZ ks i y) (k:OwnZ ks i z):y=z:=by
 unfold OwnZ at h k
 split at h
 ·rw [if_pos ‹_›] at k
  exact h.uniq (exc_Exc _) k
 rw [if_neg ‹_›] at k
 split at h
 ·rw [if_pos ‹_›] at k;omega
 rw [if_neg ‹_›] at k
 split at h
 ·rw [if_pos ‹_›] at k;omega
 ·rw [if_neg ‹_›] at k
  exact h.uniq (exc_Exc _) k
theorem OwnAt.uniq {ks:List Nat} {i:Nat} {r r':Int} (h:OwnAt ks i r) (k:OwnAt ks i r'):r=r':=by
 obtain ⟨z,hz,hr⟩:=h
 obtain ⟨z',hz',hr'⟩:=k
 have e:=hz.uniq hz'
 subst e
 rcases hr with ⟨a,b⟩ | ⟨p,a,b,c,d⟩
 ·rcases hr' with ⟨a',b'⟩ | ⟨p',a',b',c',d'⟩
  ·omega
  ·omega
 ·rcases hr' with ⟨a',b'⟩ | ⟨p',a',b',c',d'⟩
  ·omega
  ·have:=ah_uniq 0 ks p p' b b' c c' (by omega)
   omega
theorem bal_wd {ks:List Nat} (kd:Kds ks) (h0:Bal (exc (val (ownL 0 ks))) (ownL 0 ks).length) (h1:Bal (exc (val (ownL 1 ks))) (ownL 1 ks).length):∃ tw,Wd ks tw:=by
 have key:∀ i,∃ v:Nat,i < ks.length→MateAt ks i v:=fun i=>by
  by_cases hi:i < ks.length
  ·have k4:=kd.getD i
   obtain ⟨s,hs⟩:∃ s,s=ks.getD i 0 / 2:=⟨_,rfl⟩
   have hB:Bal (exc (val (ownL s ks))) (ownL s ks).length:=by
    have:s=0∨s=1:=by omega
    rcases this with e | e <;> rw [e] <;> assumption
   have hE:=exc_Exc (val (ownL s ks))
   have hy:=ah_lt s ks i hi hs.symm
   have hm:∃ x,MateOK (exc (val (ownL s ks))) (ah s ks i) x:=by
    rcases hE.step (ah s ks i) with o | c
    ·obtain ⟨j,hj⟩:=fwd_ex hB hy (m:=exc (val (ownL s ks)) (ah s ks i)) (hB.1 _ (by omega))
     exact ⟨_,_,rfl,.inl (hj.pair hE o)⟩
    ·obtain ⟨j,hj⟩:=bwd_ex hE (a:=ah s ks i+1) (by omega) (m:=exc (val (ownL s ks)) (ah s ks i+1)) (hB.1 _ (by omega))
     exact ⟨_,_,rfl,.inr (hj.pair hE c)⟩
   obtain ⟨x,hx⟩:=hm
   obtain ⟨z,_,_,p,_,hp⟩:=matI_of hi hs.symm hB hx
   exact ⟨p,fun _=>hp⟩
  ·exact ⟨0,fun h=>absurd h hi⟩
 obtain ⟨tw,htw⟩:=Classical.axiomOfChoice key
 obtain ⟨y,hy⟩:∃ y:List Int,y=(List.range ks.length).map fun i=>((tw i:Nat):Int):=⟨_,rfl⟩
 have yg:∀ i,i < ks.length→y.getD i 0=((tw i:Nat):Int):=fun i hi=>by
  rw [hy,List.getD_eq_getElem?_getD,List.getElem?_map,List.getElem?_range hi];rfl
 obtain ⟨P,_⟩:=prg_of kd y fun i hi=>⟨tw i,yg i hi,htw i hi⟩
 refine ⟨_,Wd.of P fun i hi=>?_⟩
 show MateAt ks i (y.getD i 0).toNat
 rw [yg i hi]
 exact htw i hi
def ownI:Option Nat→Int
 | none=>-1
 | some o=>(o:Int)
section
variable {ks:List Nat} {tw:Nat→Nat}
theorem Wd.bal (h:Wd ks tw) (s:Nat):Bal (exc (val (ownL s ks))) (ownL s ks).length:=prg_bal h.P
theorem Wd.ostk (h:Wd ks tw) {i:Nat} (hi:i≤ks.length):OStk ks i (UU ks tw 0 i) :=
 ⟨stk_UU h.P h.x0 i hi,fun p hp=>⟨(UU_mem hp).1,(UU_mem hp).2.1⟩⟩
theorem top_own (S:List Nat):topP S=ownI S.getLast?:=by
 unfold topP
 rw [List.getLast?_eq_getElem?]
 by_cases c:S.length=0
 ·rw [if_pos c,List.getElem?_eq_none (by omega)];rfl
 ·rw [if_neg c,List.getD_eq_getElem?_getD,List.getElem?_eq_getElem (by omega)];rfl
theorem Wd.own (h:Wd ks tw) {i:Nat} (hi:i < ks.length) {r:Int} (hr:OwnAt ks i r):r=ownI (ownP 0 ks tw i):=by
 have:=(h.ostk (Nat.le_of_lt hi)).own h.P.kd (h.bal 0) hi
 rw [hr.uniq this,top_own];rfl
theorem Wd.mate (h:Wd ks tw) {i p:Nat} (hi:i < ks.length) (hp:MateAt ks i p):p=tw i:=matAt_uniq hp (h.at_ i hi)
def BackW (ks:List Nat) (tw:Nat→Nat) (i:Nat):Prop:=ks.getD i 0=2→ownI (ownP 0 ks tw (tw i)) < (i:Int)
instance (ks:List Nat) (tw:Nat→Nat) (i:Nat):Decidable (BackW ks tw i):=by unfold BackW;exact inferInstance
theorem right_back:RightW ks tw↔∀ i,i < ks.length→BackW ks tw i:=by
 unfold RightW BackW
 constructor
 ·intro h i hi hk
  cases e:ownP 0 ks tw (tw i) with
  | none=>show (-1:Int) < _;omega
  | some o=>have:=h i hi hk o e;show (o:Int) < _;omega
 ·intro h i hi hk o e
  have:=h i hi hk
  rw [e] at this
  have:(o:Int) < (i:Int):=this
  omega
theorem RightW.uniq {tw':Nat→Nat} (h:Wd ks tw) (h':Wd ks tw') (r:RightW ks tw):RightW ks tw':=by
 rw [right_back] at r ⊢
 intro i hi hk
 have e:=h.uniq h' hi
 have ht:=h.P.lt i hi
 have o:=(h.ostk (Nat.le_of_lt ht)).own h.P.kd (h.bal 0) ht
 rw [top_own] at o
 have o':=h'.own ht o
 have:=r i hi hk
 rw [← e,← o']
 exact this
end
end Go.Proofs.YtijbdnhlpbcabaaGreatDoor
namespace Go.Proofs.YtijbdnhlpbcabaaGreatDoor
set_option maxRecDepth 20000
theorem sorted_eq:∀ a b:List Nat,a.Pairwise (· < ·)→b.Pairwise (· < ·)→(∀ x,x∈a↔x∈b)→a=b
 | [],[],_,_,_=>rfl
 | [],y :: b,_,_,h=>absurd ((h y).2 (List.mem_cons_self ..)) (by simp)
 | x :: a,[],_,_,h=>absurd ((h x).1 (List.mem_cons_self ..)) (by simp)
 | x :: a,y :: b,ha,hb,h=>by
   rw [List.pairwise_cons] at ha hb
   have hxy:x=y:=by
    rcases List.mem_cons.1 ((h x).1 (List.mem_cons_self ..)) with c | c
    ·exact c
    ·rcases List.mem_cons.1 ((h y).2 (List.mem_cons_self ..)) with k | k
     ·exact k.symm
     ·have:=ha.1 y k
      have:=hb.1 x c
      omega
   subst hxy
   rw [sorted_eq a b ha.2 hb.2 fun z=>⟨fun hz=>?_,fun hz=>?_⟩]
   ·rcases List.mem_cons.1 ((h z).1 (List.mem_cons_of_mem _ hz)) with c | c
    ·have:=ha.1 z hz;omega
    ·exact c
   ·rcases List.mem_cons.1 ((h z).2 (List.mem_cons_of_mem _ hz)) with c | c
    ·have:=hb.1 z hz;omega
    ·exact c
open Classical in
noncomputable def starts (l:List Nat) (r:Nat):List Nat:=r :: (List.range l.length).filter fun d=>decide (Least (part l) d∧¬ part l r d)
section
variable {l b:List Nat}
theorem starts_mem {r d:Nat}:d∈starts l r↔d=r∨(d < l.length∧Least (part l) d∧¬ part l r d):=by
 simp [starts]
theorem starts_lt {r:Nat} (hr:r < l.length):∀ s∈starts l r,s < l.length:=fun s hs=>by
 rcases starts_mem.1 hs with c | c
 ·rw [c];exact hr
 ·exact c.1
theorem starts_all (hl:Inv l b) (he:l.length%2=0) {r:Nat} (hr:r < l.length) {d:Nat} (hd:d < l.length):∃ s∈starts l r,part l s d:=by
 have hq:=part_eqv hl he
 by_cases c:part l r d
 ·exact ⟨r,starts_mem.2 (.inl rfl),c⟩
 ·obtain ⟨N,hN,hp,hle⟩:=least_k (p:=fun k=>part l k d) d (hq.refl d hd)
  have hNl:N < l.length:=by omega
  exact ⟨N,starts_mem.2 (.inr ⟨hNl,fun j hj hpj=>hle j hj (hq.trans _ _ _ (by omega) hNl hd hpj hp),fun hrN=>c (hq.trans _ _ _ hr hNl hd hrN hp)⟩),hp⟩
structure CanA (l:List Nat) (r:Nat) (P Q:List Nat):Prop where
 nam:Nam l.length P Q
 is:(lookL l.length ((starts l r).flatMap (wlk l))).1=ofN P
theorem looks_lt (hl:Inv l b) (he:l.length%2=0) {r:Nat} (hr:r < l.length):∀ d∈(starts l r).flatMap (wlk l),d < l.length:=fun d hd=>by
 obtain ⟨s,hs,hd'⟩:=List.mem_flatMap.1 hd
 exact wlk_lt hl he (starts_lt hr s hs) d hd'
theorem canA_is (hl:Inv l b) (he:l.length%2=0) {r:Nat} (hr:r < l.length):∃ P Q,CanA l r P Q:=by
 obtain ⟨P,Q,e,h⟩:=look_all he _ (looks_lt hl he hr) fun d hd=>by
  obtain ⟨s,hs,hp⟩:=starts_all hl he hr hd
  exact .inl (List.mem_flatMap.2 ⟨s,hs,(wlk_part hl he (starts_lt hr s hs) hd).2 hp⟩)
 exact ⟨P,Q,h,e⟩
theorem CanA.one {r:Nat} {P Q:List Nat} (h:CanA l r P Q) (hl:Inv l b) (hr:r < l.length) (hp:∀ j,j < l.length→part l r j):CanN l r P Q:=by
 refine ⟨h.nam,?_⟩
 have e:Go.Proofs.YtijbdnhlpbcabaaGreatDoor.starts l r=[r]:=by
  show r :: List.filter _ _=[r]
  rw [List.filter_eq_nil_iff.2 fun d hd=>?_]
  simp only [decide_eq_true_eq]
  exact fun k=>k.2 (hp d (List.mem_range.1 hd))
 have k:=h.is
 rw [e,List.flatMap_cons,List.flatMap_nil,List.append_nil] at k
 exact k
end
end Go.Proofs.YtijbdnhlpbcabaaGreatDoor
namespace Go.Proofs.YtijbdnhlpbcabaaGreatDoor
set_option maxRecDepth 20000
section
variable {l b l':List Nat} {f:Nat→Nat}
end
end Go.Proofs.YtijbdnhlpbcabaaGreatDoor
namespace Go.Proofs.YtijbdnhlpbcabaaGreatDoor
set_option maxRecDepth 20000
section
variable {n:Nat} {D P O F Z C:List Nat} {X:Nat→Prop}
theorem getD_snocC (L:List Nat) (x i:Nat):(L++[x]).getD i 0=if i=L.length then x else L.getD i 0:=by
 by_cases h:i < L.length
 ·rw [if_neg (by omega),List.getD_eq_getElem?_getD,List.getElem?_append_left h,List.getD_eq_getElem?_getD]
 ·by_cases h2:i=L.length
  ·subst h2;simp
  ·rw [if_neg h2,List.getD_eq_getElem?_getD,List.getD_eq_getElem?_getD,List.getElem?_eq_none (by simp;omega),List.getElem?_eq_none (by omega)]
end
end Go.Proofs.YtijbdnhlpbcabaaGreatDoor
