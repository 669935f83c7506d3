/- A letter put behind a word of which there is an index. -/
import Derived.Test.YtajjgpkahljjmaaGreatDoorZg12
import Derived.Test.YtajjgpkahljjmaaGreatDoorZg13
import Derived.Test.YtajjgpkahljjmaaGreatDoorZg3
import Derived.Test.YtajjgpkahljjmaaGreatDoorZg19
import Derived.Test.YtajjgpkahljjmaaGreatDoorZg17
import Derived.Test.YtajjgpkahljjmaaGreatDoorZg2
import Derived.LaidMore
import Derived.RowKit
import Derived.Laws.ResultCell
import Derived.Deep.RegionHeld3
import Derived.Deep.RegionWith
import Derived.Test.YtajjgpkahljjmaaGreatDoorZg27
import Derived.Test.YtajjgpkahljjmaaGreatDoorZg15
import Derived.Test.YtajjgpkahljjmaaGreatDoorZEPartsW
open Go.RowKit
set_option linter.unusedVariables false
set_option linter.unusedSimpArgs false
namespace Go.Proofs.YtajjgpkahljjmaaGreatDoor
set_option maxRecDepth 20000
theorem WordAt.under {w w':World} {B g M:Nat} {ks:List Nat} (h:WordAt w B g ks) (b:Below w.heap.size w w'):WordS w' B g ks (fun i=>w.heap.size≤i∧i < M):=by
 obtain ⟨h1,h2,gv,A,h3,h4,h5⟩:=h
 refine ⟨h1,h2,gv,A,h3,h4.below b,h5.below b,fun i hi hs=>?_⟩
 have:=h5.foot_lt hi
 omega
section
variable {w0 w w' wL:World} {m gx p0 g0 p1 g1 q:Nat} {ks:List Nat}
theorem Mx.rebase (h:Mx w0 w m gx p0 g0 p1 g1 ks q) (md:Mod (fun i=>i < w0.heap.size) w w') (hle:wL.heap.size≤w0.heap.size) (b:Below wL.heap.size wL w') (hN:Nul wL) (hT:Tab wL∧2 < wL.heap.size):Mx wL w' m gx p0 g0 p1 g1 ks q:=by
 obtain ⟨d,k,hk,hx⟩:=h.ix
 obtain ⟨d0,ha⟩:=h.pa
 obtain ⟨d1,hb⟩:=h.pb
 have lo:=h.lo
 exact ⟨h.blk.mod md (by omega),⟨d,k,hk,hx.mod md fun i hi=>by omega⟩,⟨d0,ha.mod md fun i hi=>by omega⟩,⟨d1,hb.mod md fun i hi=>by omega⟩,h.ne,⟨by omega,by omega,by omega,by omega⟩,h.kd,h.b0,h.b1,b,hN,hT⟩
end
end Go.Proofs.YtajjgpkahljjmaaGreatDoor
namespace Go.Proofs.YtajjgpkahljjmaaGreatDoor
set_option maxRecDepth 20000
end Go.Proofs.YtajjgpkahljjmaaGreatDoor
namespace Go.Proofs.YtajjgpkahljjmaaGreatDoor
set_option maxRecDepth 20000
set_option maxRecDepth 100000
def Flip (P L:List Nat) (k:Nat):Prop:=L.length=2*k∧∀ e,e < k→(L.getD (2*e) 0=2*P.getD e 0∧L.getD (2*e+1) 0=2*P.getD e 0+1)∨(L.getD (2*e) 0=2*P.getD e 0+1∧L.getD (2*e+1) 0=2*P.getD e 0)
theorem getD_app_lt (L X:List Nat) {i:Nat} (hi:i < L.length):(L++X).getD i 0=L.getD i 0:=by
 simp [List.getD_eq_getElem?_getD,List.getElem?_append_left hi]
theorem getD_app_0 (L:List Nat) (a b:Nat):(L++[a,b]).getD L.length 0=a:=by
 simp [List.getD_eq_getElem?_getD]
theorem getD_app_1 (L:List Nat) (a b:Nat):(L++[a,b]).getD (L.length+1) 0=b:=by
 simp [List.getD_eq_getElem?_getD]
theorem Flip.next {P L:List Nat} {k a b:Nat} (h:Flip P L k) (c:(a=2*P.getD k 0∧b=2*P.getD k 0+1)∨(a=2*P.getD k 0+1∧b=2*P.getD k 0)):Flip P (L++[a,b]) (k+1):=by
 refine ⟨by rw [List.length_append,h.1];simp;omega,fun e he=>?_⟩
 by_cases q:e=k
 ·subst q
  have h1:=getD_app_0 L a b
  have h2:=getD_app_1 L a b
  rw [h.1] at h1 h2
  rw [h1,h2];exact c
 ·have h1:=h.1
  rw [getD_app_lt _ _ (by omega),getD_app_lt _ _ (by omega)]
  exact h.2 e (by omega)
theorem Flip.at_ {P L:List Nat} {k i:Nat} (h:Flip P L k) (hi:i < 2*k):∃ r,r < 2∧L.getD i 0=2*P.getD (i / 2) 0+r∧L.getD (mt i) 0=2*P.getD (i / 2) 0+(1 - r):=by
 have hc:=h.2 (i / 2) (by omega)
 unfold mt
 by_cases e:i%2=0
 ·rw [if_pos e]
  have e1:2*(i / 2)=i:=by omega
  rw [e1] at hc
  rcases hc with ⟨c1,c2⟩ | ⟨c1,c2⟩
  ·exact ⟨0,by omega,by omega,by omega⟩
  ·exact ⟨1,by omega,by omega,by omega⟩
 ·rw [if_neg e]
  have e1:2*(i / 2)=i - 1:=by omega
  have e2:i - 1+1=i:=by omega
  rw [e1,e2] at hc
  rcases hc with ⟨c1,c2⟩ | ⟨c1,c2⟩
  ·exact ⟨1,by omega,by omega,by omega⟩
  ·exact ⟨0,by omega,by omega,by omega⟩
theorem Flip.good {P PB L:List Nat} {k:Nat} (h:Flip P L k) (hP:Inv P PB) (hk:P.length=k):Good (ofN L):=by
 intro i hi
 rw [ofN_len,h.1] at hi
 rw [ofN_len,h.1,ofN_get]
 obtain ⟨r,hr,e1,e2⟩:=h.at_ hi
 have hl:=hP.lt (i / 2) (by omega)
 refine ⟨by omega,by omega,fun j hj c=>?_⟩
 rw [ofN_get] at c
 obtain ⟨s,hs,f1,f2⟩:=h.at_ (i:=j) (by omega)
 have hq:P.getD (j / 2) 0=P.getD (i / 2) 0:=by omega
 have hd:=hP.inj (j / 2) (i / 2) (by omega) (by omega) hq
 have hm:mt i=j:=by unfold mt;split <;> omega
 rw [hm] at e2
 omega
theorem Flip.nam {P L q:List Nat} {k n:Nat} (h:Flip P L k) (hi:Inv L q) (hn:n=2*k):Nam n L q:=by
 refine ⟨hi,by rw [h.1,hn],by omega,fun d hd=>?_⟩
 obtain ⟨r,hr,e1,e2⟩:=h.at_ (i:=d) (by omega)
 show L.getD (mt d) 0=mt (L.getD d 0)
 rw [e1,e2]
 unfold mt
 split <;> omega
open Go Go.RowKit
section
variable {H:Type} {enc:TypeId × Value→H} {P:Program} {w:World} {base:Nat} {sp:Nat→Bool} {held:Bool}
end
end Go.Proofs.YtajjgpkahljjmaaGreatDoor
namespace Go.Proofs.YtajjgpkahljjmaaGreatDoor
set_option maxRecDepth 20000
theorem results_cell_tmp_row {P:Program} {fn:Func} {p u:Tmp} {ty:TypeId} (h:fn.results=#[.cell p ty,.tmp u]) (tmps:Array Value) (w:World) (g:Nat) (t:TypeId) (cs:Array Value) (fr:Nat × Nat) (d:TypeDesc)
  (hp:tmps.getD p undef=.pointer (some ⟨g,0,none⟩)) (hg:w.heap[g]?=some (.cells cs t fr))
  (hu:P.underlying ty=some d) (hd:(match d with | .struct _ | .array _ _=>true | _=>false)=true) (hi:(P.info? ty).map (·.size)=some cs.size) :
  (results fn tmps).run P w=.ok (.tuple #[.agg cs,tmps.getD u undef]) w:=by
 rw [results_cell_tmp h,hp]
 simp [asAddr,run_loadVar_row w g t ty cs fr d hg hu hd hi,Result.andThen]
theorem info_tright:(Tryz.prog.info? 94).map (·.size)=some 1:=by kernel_rfl
theorem tells_belowT {w w1:World} {pv:Option Addr} {ks:List Nat} (h:Tells w pv ks) (b:Below w.heap.size w w1):Tells w1 pv ks :=
 ⟨fun W m=>h.1 W (b.trans (m.mono b.size)),fun s bx W a m c=>h.2 s bx W a (b.trans (m.mono b.size)) c⟩
def CkPost (w:World) (ks:List Nat) (e:Ending) (w':World):Prop :=
 (∃ tw m gx p0 g0 p1 g1,Wd ks tw∧RightW ks tw∧e=.returned (.tuple #[.agg #[.pointer (some ⟨m,0,none⟩)],.int .i64 0])∧Mx w w' m gx p0 g0 p1 g1 ks (14*ks.length)) ∨
 (¬ (Bal (exc (val (ownL 0 ks))) (ownL 0 ks).length∧Bal (exc (val (ownL 1 ks))) (ownL 1 ks).length)∧e=.returned (.tuple #[.agg #[.pointer none],.int .i64 9])∧Below w.heap.size w w') ∨
 (∃ tw,Wd ks tw∧¬ RightW ks tw∧e=.returned (.tuple #[.agg #[.pointer none],.int .i64 10])∧Below w.heap.size w w')
set_option maxHeartbeats 8000000 in
theorem checked_p (pv:Option Addr) (ks:List Nat) (w:World) (hk:Kds ks) (hT:MTabs w) (hV:Tells w pv ks) (n:Nat) (hnk:ks.length=n) (hn:n≤20000) :
  Calls Tryz.prog 60 #[.pointer pv] w (CkPost w ks):=by
 have hal:=(Below.refl w.heap.size w).alloc (Nat.le_refl _) (.cells #[.pointer none] 94)
 have hB:=Blk.new w 94 #[.pointer none]
 obtain ⟨w1,hw1⟩:∃ w1,w1=w.alloc (.cells #[.pointer none] 94):=⟨_,rfl⟩
 rw [← hw1] at hal hB
 have IX:=Lib.hid (index_p pv ks w1 hk (hT.below hal) (tells_belowT hV hal))
 have HB:=Lib.hid hB
 have HAL:=Lib.hid hal
 have HT:=Lib.hid hT
 have HK:=Lib.hid hk
 have HNK:=Lib.hid hnk
 have HINF:=Lib.hid info_tright
 clear hal hB hT hV hk hnk
 go_enter Tryz.func60,Tryz.ntmps60
 go_upto_region 1 with fail
 rw [← hw1]
 clear hw1
 go_wp2_with fail
 refine IX.out.mono ?_
 rintro e w2 (⟨m,gx,p0,g0,p1,g1,rfl,hx⟩ | ⟨hno,rfl,b2⟩)
 ·have HX:=Lib.hid hx
  have hgb:=hx.bel
  have HB2:Hid (Blk w2 w.heap.size 94 #[.pointer none]):=HB.out.below hgb
  have hlt:=HB.out.lt
  have hal2:=(Below.refl w2.heap.size w2).alloc (Nat.le_refl _) (.cells #[.pointer (some ⟨m,0,none⟩)] 94)
  have hB6:=Blk.new w2 94 #[.pointer (some ⟨m,0,none⟩)]
  obtain ⟨w3,hw3⟩:∃ w3,w3=w2.alloc (.cells #[.pointer (some ⟨m,0,none⟩)] 94):=⟨_,rfl⟩
  rw [← hw3] at hal2 hB6
  have h3:=hx.below hal2
  obtain ⟨tw,hwd⟩:=bal_wd h3.kd h3.b0 h3.b1
  have LN:=ilen_p h3
  rw [HNK.out] at LN
  have HLN:=Lib.hid LN
  have H3:=Lib.hid h3
  have HWD:=Lib.hid hwd
  have HB3:=Lib.hid (HB2.out.below hal2)
  have HB6:=Lib.hid hB6
  have HLO:Hid (w.heap.size < w1.heap.size∧w1.heap.size≤w2.heap.size∧(∀ s,MxS gx p0 g0 p1 g1 s→w1.heap.size≤s)∧∀ s,MxS gx p0 g0 p1 g1 s→s < w2.heap.size):=⟨hlt,hgb.size,fun s hs=>hx.ge s hs,fun s hs=>hx.lts s hs⟩
  have z0:w3.cell? ⟨w2.heap.size,0,none⟩=some (.pointer (some ⟨m,0,none⟩)):=by have:=hB6.cell 0;simpa using this
  clear hx hgb hal2 hB6 h3 hwd LN hlt HB2 IX
  go_upto_region 5 with fail
  rw [← hw3]
  clear hw3
  go_wp2_with fail
  refine HLN.out.mono ?_
  rintro e wa ⟨rfl,rfl⟩
  clear HLN z0
  go_wp2_with fail
  go_loopw [7,22] (fun i7 idx wr=>∃ (i:Nat),i≤n∧idx=.int .i64 (i:Int)∧Hid (Mx w1 wr m gx p0 g0 p1 g1 ks (14*i))∧Hid (∀ j,j < i→BackW ks tw j)∧Hid (Blk wr w.heap.size 94 #[.pointer none])∧Hid (Blk wr w2.heap.size 94 #[.pointer (some ⟨m,0,none⟩)])) (fun _ i _=>n - (intOf i).toNat)
  case atStart=>exact ⟨0,by omega,rfl,H3.out,fun j hj=>absurd hj (by omega),HB3.out,HB6.out⟩
  case round =>
   clear H3 HB3 HB6
   obtain ⟨i,hi,rfl,HX,HBK,HC,HS⟩:=hrel
   by_cases hlt:i < n
   ·have hdk:decide (i < n)=true:=decide_eq_true hlt
    have hlti:(i:Int) < (n:Int):=by omega
    have hik:i < ks.length:=by rw [HNK.out];exact hlt
    have s0:wr.cell? ⟨w2.heap.size,0,none⟩=some (.pointer (some ⟨m,0,none⟩)):=by have:=HS.out.cell 0;simpa using this
    have AT:=iat_p HX.out i hik (by omega)
    obtain ⟨kk,hkk⟩:∃ kk,kk=ks.getD i 0:=⟨_,rfl⟩
    rw [← hkk] at AT
    have HAT:=Lib.hid AT
    have wi:IntKind.i64.wrap ((i:Int)+1)=(i:Int)+1:=by simp [IntKind.wrap,IntKind.signed,IntKind.bits];omega
    have HNS:Hid (¬ MxS gx p0 g0 p1 g1 w.heap.size∧¬ MxS gx p0 g0 p1 g1 w2.heap.size):=⟨fun c=>by have:=HLO.out.2.2.1 _ c;have:=HLO.out.1;omega,fun c=>by have:=HLO.out.2.2.2 _ c;omega⟩
    have HKK:=Lib.hid hkk
    clear AT hkk
    go_wp2_with fail
    refine HAT.out.mono ?_
    rintro e wa ⟨rfl,ha,ma⟩
    have CA:=Lib.hid (HC.out.mod ma HNS.out.1)
    have SA:=Lib.hid (HS.out.mod ma HNS.out.2)
    clear HAT s0
    by_cases k2:kk=2
    ·have s0:wa.cell? ⟨w2.heap.size,0,none⟩=some (.pointer (some ⟨m,0,none⟩)):=by have:=SA.out.cell 0;simpa using this
     have LB:=tback_p HWD.out ha i hik (by omega) _ rfl
     obtain ⟨r,hr⟩:∃ r,r=ownI (ownP 0 ks tw (tw i)):=⟨_,rfl⟩
     rw [← hr] at LB
     obtain ⟨B,hB⟩:∃ B,B=decide (r < (i:Int)):=⟨_,rfl⟩
     rw [← hB] at LB
     have HLB:=Lib.hid LB
     have HRB:=Lib.hid (And.intro hr hB)
     subst k2
     clear ha ma LB hr hB HX HC HS
     go_wp2_with fail
     refine HLB.out.mono ?_
     rintro e wb ⟨rfl,hb,mb⟩
     have CB:=Lib.hid (CA.out.mod mb HNS.out.1)
     have SB:=Lib.hid (SA.out.mod mb HNS.out.2)
     obtain ⟨hr,hB⟩:=HRB.out
     cases B with
     | true =>
       have hrl:r < (i:Int):=of_decide_eq_true hB.symm
       have HBK1:Hid (∀ j,j < i+1→BackW ks tw j):=fun j hj=>by
        by_cases e:j=i
        ·subst e;intro _;rw [← hr];exact hrl
        ·exact HBK.out j (by omega)
       have HX1:=Lib.hid (hb.le (q':=14*(i+1)) (by omega))
       clear hr hB hrl hb mb s0 hik
       go_wp2_with fail
       go_roundw
       case rel=>exact ⟨i+1,by omega,by go_num,HX1,HBK1,CB,SB⟩
       case measure=>simp [intOf];omega
     | false =>
       have hrl:¬ r < (i:Int):=of_decide_eq_false hB.symm
       have HNR:Hid (¬ RightW ks tw):=fun c=>by
        have:=right_back.1 c i hik (HKK.out.symm)
        rw [← hr] at this
        exact hrl this
       have c0:wb.cell? ⟨w.heap.size,0,none⟩=some (.pointer none):=by have:=CB.out.cell 0;simpa using this
       have f0:=CB.out.frozen 0
       have BL:=Lib.hid (HAL.out.trans (hb.bel.mono HAL.out.size))
       clear hr hB hrl hb mb s0 hik
       go_wp2_with fail
       refine bodyPost_ret (results_cell_tmp_row rfl _ _ w.heap.size 94 _ (0,0) _ rfl (CB.out.set_ 0 (.pointer none)) Tryz.underlying94 rfl HINF.out) rfl ?_
       exact .inr (.inr ⟨tw,HWD.out,HNR.out,rfl,BL.out.setCell (p:=⟨w.heap.size,0,none⟩) (Nat.le_refl _) _⟩)
    ·have k2I:¬ (kk:Int)=2:=by omega
     have k2b:((kk:Int) == 2)=false:=by simp;omega
     have k2d:decide (kk=2)=false:=decide_eq_false k2
     have HBK1:Hid (∀ j,j < i+1→BackW ks tw j):=fun j hj=>by
      by_cases e:j=i
      ·subst e;intro c;exact absurd (HKK.out.trans c) k2
      ·exact HBK.out j (by omega)
     have HX1:=Lib.hid (ha.le (q':=14*(i+1)) (by omega))
     clear ha ma HX HC HS hik
     go_wp2_with fail
     go_roundw
     case rel=>exact ⟨i+1,by omega,by go_num,HX1,HBK1,CA,SA⟩
     case measure=>simp [intOf];omega
   ·obtain rfl:i=n:=by omega
    have hdk:decide (i < i)=false:=by simp
    have HR:Hid (RightW ks tw):=by
     show RightW ks tw
     rw [right_back,HNK.out];exact HBK.out
    have s0:wr.cell? ⟨w2.heap.size,0,none⟩=some (.pointer (some ⟨m,0,none⟩)):=by have:=HS.out.cell 0;simpa using this
    have c0:wr.cell? ⟨w.heap.size,0,none⟩=some (.pointer none):=by have:=HC.out.cell 0;simpa using this
    have f0:=HC.out.frozen 0
    clear HBK
    go_wp2_with fail
    refine bodyPost_ret (results_cell_tmp_row rfl _ _ w.heap.size 94 _ (0,0) _ rfl (HC.out.set_ 0 (.pointer (some ⟨m,0,none⟩))) Tryz.underlying94 rfl HINF.out) rfl ?_
    have MS:=Mod.setCell (p:=⟨w.heap.size,0,none⟩) (Mod.refl (fun k=>k=w.heap.size) wr) (fun _=>rfl) (.pointer (some ⟨m,0,none⟩))
    have hbel:=HX.out.bel
    have B0:=HAL.out.trans (hbel.mono HAL.out.size)
    refine .inl ⟨tw,m,gx,p0,g0,p1,g1,HWD.out,HR.out,rfl,?_⟩
    have hn':=HNK.out
    rw [hn']
    exact HX.out.rebase (MS.mono fun k _ e=>by rw [e];exact HLO.out.1) (by have:=HLO.out.1;omega) (B0.setCell (p:=⟨w.heap.size,0,none⟩) (Nat.le_refl _) _) HT.out.nul ⟨HT.out.tab,HT.out.lt⟩
 ·have HB2:=Lib.hid (HB.out.below (b2.mono (Nat.le_refl _)))
  have Z:=Lib.hid (HAL.out.trans (b2.mono HAL.out.size))
  have HNO:=Lib.hid hno
  have c0:w2.cell? ⟨w.heap.size,0,none⟩=some (.pointer none):=by have:=HB2.out.cell 0;simpa using this
  have f0:=HB2.out.frozen 0
  clear hno b2
  go_wp2_with fail
  refine bodyPost_ret (results_cell_tmp_row rfl _ _ w.heap.size 94 _ (0,0) _ rfl (HB2.out.set_ 0 (.pointer none)) Tryz.underlying94 rfl HINF.out) rfl ?_
  exact .inr (.inl ⟨HNO.out,rfl,Z.out.setCell (p:=⟨w.heap.size,0,none⟩) (Nat.le_refl _) _⟩)
def BalW (ks:List Nat):Prop:=Bal (exc (val (ownL 0 ks))) (ownL 0 ks).length∧Bal (exc (val (ownL 1 ks))) (ownL 1 ks).length
def ErrW (ks:List Nat) (E:Int):Prop:=(E=0∧∃ tw,Wd ks tw∧RightW ks tw)∨(E=9∧¬ BalW ks)∨(E=10∧∃ tw,Wd ks tw∧¬ RightW ks tw)
def NmPost (w:World) (ks:List Nat) (n:Nat) (e:Ending) (w':World):Prop :=
 (∃ tw A c,Wd ks tw∧RightW ks tw∧e=.returned (.tuple #[.slice A n c,.int .i64 0])∧n≤c∧c≤maxLen∧w'.ownsRow w.heap.size 3 1 (.slice A n c) n (I64 (ofN (nmL ks tw)))∧Below w.heap.size w w') ∨
 (∃ E,E≠0∧ErrW ks E∧e=.returned (.tuple #[.slice none 0 0,.int .i64 E])∧Below w.heap.size w w')
theorem tcheck_p (pv:Option Addr) (ks:List Nat) (w:World) (hk:Kds ks) (hT:MTabs w) (hV:Tells w pv ks) (n:Nat) (hnk:ks.length=n) (hn:n≤20000) :
  Calls Tryz.prog 28 #[.pointer pv] w fun e w'=>∃ E,ErrW ks E∧e=.returned (.int .i64 E)∧Below w.heap.size w w':=by
 have CK:=Lib.hid (checked_p pv ks w hk hT hV n hnk hn)
 clear hk hT hV hnk
 go_enter Tryz.func28,Tryz.ntmps28
 go_wp2_with fail
 refine CK.out.mono ?_
 rintro e w2 (⟨tw,m,gx,p0,g0,p1,g1,hW,hR,rfl,hx⟩ | ⟨hno,rfl,b2⟩ | ⟨tw,hW,hR,rfl,b2⟩)
 ·have HE:Hid (ErrW ks 0):=.inl ⟨rfl,tw,hW,hR⟩
  have B2:=Lib.hid hx.bel
  clear hW hR hx
  go_wp2_with fail
  go_ret
  exact ⟨0,HE.out,rfl,B2.out.alloc B2.out.size _⟩
 ·have HE:Hid (ErrW ks 9):=.inr (.inl ⟨rfl,hno⟩)
  have B2:=Lib.hid b2
  clear hno b2
  go_wp2_with fail
  go_ret
  exact ⟨9,HE.out,rfl,B2.out.alloc B2.out.size _⟩
 ·have HE:Hid (ErrW ks 10):=.inr (.inr ⟨rfl,tw,hW,hR⟩)
  have B2:=Lib.hid b2
  clear hW hR b2
  go_wp2_with fail
  go_ret
  exact ⟨10,HE.out,rfl,B2.out.alloc B2.out.size _⟩
theorem tnamesP_p (pv:Option Addr) (ks:List Nat) (w:World) (hk:Kds ks) (hT:MTabs w) (hV:Tells w pv ks) (n:Nat) (hnk:ks.length=n) (hn:n≤14000) :
  Calls Tryz.prog 29 #[.pointer pv] w (NmPost w ks n):=by
 have CK:=Lib.hid (checked_p pv ks w hk hT hV n hnk (by omega))
 have HNK:=Lib.hid hnk
 clear hk hT hV hnk
 go_enter Tryz.func29,Tryz.ntmps29
 go_wp2_with fail
 refine CK.out.mono ?_
 rintro e w2 (⟨tw,m,gx,p0,g0,p1,g1,hW,hR,rfl,hx⟩ | ⟨hno,rfl,b2⟩ | ⟨tw,hW,hR,rfl,b2⟩)
 ·have HW:=Lib.hid hW
  have HR:=Lib.hid hR
  have B2:=Lib.hid hx.bel
  have hal:=(Below.refl w2.heap.size w2).alloc (Nat.le_refl _) (.cells #[.pointer (some ⟨m,0,none⟩)] 94)
  have hB:=Blk.new w2 94 #[.pointer (some ⟨m,0,none⟩)]
  obtain ⟨w3,hw3⟩:∃ w3,w3=w2.alloc (.cells #[.pointer (some ⟨m,0,none⟩)] 94):=⟨_,rfl⟩
  rw [← hw3] at hal hB
  have h3:=hx.below hal
  have NM:=Lib.hid (tnames_p HW.out h3 n HNK.out (by omega) (by have:=HNK.out;omega))
  have x0:w3.cell? ⟨w2.heap.size,0,none⟩=some (.pointer (some ⟨m,0,none⟩)):=by have:=hB.cell 0;simpa using this
  have B3:=Lib.hid h3.bel
  have HS:Hid (w.heap.size≤w3.heap.size):=B3.out.size
  clear hW hR hx hal hB h3 CK
  go_upto_region 2 with fail
  rw [← hw3]
  clear hw3
  go_wp2_with fail
  refine NM.out.mono ?_
  rintro e w4 ⟨A,c,rfl,hc,hm,ho,hx4,_⟩
  have HO:=Lib.hid (And.intro hc (And.intro hm ho))
  have B4:=Lib.hid hx4.bel
  clear hc hm ho hx4
  go_wp2_with fail
  go_ret2
  exact .inl ⟨tw,A,c,HW.out,HR.out,rfl,HO.out.1,HO.out.2.1,HO.out.2.2.base_le' HS.out,B4.out⟩
 ·have HE:Hid (ErrW ks 9):=.inr (.inl ⟨rfl,hno⟩)
  have B2:=Lib.hid b2
  clear hno b2
  go_wp2_with fail
  go_ret2
  exact .inr ⟨9,by decide,HE.out,rfl,B2.out.alloc B2.out.size _⟩
 ·have HE:Hid (ErrW ks 10):=.inr (.inr ⟨rfl,tw,hW,hR⟩)
  have B2:=Lib.hid b2
  clear hW hR b2
  go_wp2_with fail
  go_ret2
  exact .inr ⟨10,by decide,HE.out,rfl,B2.out.alloc B2.out.size _⟩
end Go.Proofs.YtajjgpkahljjmaaGreatDoor
