/- Names made of edges' names and flips: mathematics. -/
import Derived.Test.YtijbdnhlpbcabaaGreatDoorZg17
import Derived.Test.YtijbdnhlpbcabaaGreatDoorZg2
import Derived.Test.YtijbdnhlpbcabaaGreatDoorZg27
import Derived.LaidMore
import Derived.RowKit
import Derived.Test.YtijbdnhlpbcabaaGreatDoorZg3
import Derived.Laws.ResultCell
import Derived.Deep.RegionHeld3
import Derived.Deep.RegionWith
import Derived.Test.YtijbdnhlpbcabaaGreatDoorZg15
import Derived.Test.YtijbdnhlpbcabaaGreatDoorZEPartsW
import Derived.Test.YtijbdnhlpbcabaaGreatDoorZg25
import Derived.Test.YtijbdnhlpbcabaaGreatDoorZg23
import Derived.Test.YtijbdnhlpbcabaaGreatDoorZg24
import Derived.Test.YtijbdnhlpbcabaaGreatDoorZPNames
open Go.RowKit
set_option linter.unusedVariables false
set_option linter.unusedSimpArgs false
namespace Go.Proofs.YtijbdnhlpbcabaaGreatDoor
set_option maxRecDepth 20000
open Go Go.RowKit
def IsFlags (w:World) (a:Option Addr) (len cap:Nat):Prop :=
 (a=none∧len=0∧cap=0)∨∃ x,a=some x∧len≤cap∧cap≤maxLen∧∀ i,i < len→∃ v:Bool,w.cell? (x.add i)=some (.bool v)
section
variable {H:Type} {enc:TypeId × Value→H} {P:Program} {w:World} {base:Nat} {sp:Nat→Bool} {held:Bool}
end
end Go.Proofs.YtijbdnhlpbcabaaGreatDoor
namespace Go.Proofs.YtijbdnhlpbcabaaGreatDoor
set_option maxRecDepth 20000
set_option maxRecDepth 100000
theorem results_cell_tmp_row {P:Program} {fn:Func} {p u:Tmp} {ty:TypeId} (h:fn.results=#[.cell p ty,.tmp u]) (tmps:Array Value) (w:World) (g:Nat) (t:TypeId) (cs:Array Value) (fr:Nat × Nat) (d:TypeDesc)
  (hp:tmps.getD p undef=.pointer (some ⟨g,0,none⟩)) (hg:w.heap[g]?=some (.cells cs t fr))
  (hu:P.underlying ty=some d) (hd:(match d with | .struct _ | .array _ _=>true | _=>false)=true) (hi:(P.info? ty).map (·.size)=some cs.size) :
  (results fn tmps).run P w=.ok (.tuple #[.agg cs,tmps.getD u undef]) w:=by
 rw [results_cell_tmp h,hp]
 simp [asAddr,run_loadVar_row w g t ty cs fr d hg hu hd hi,Result.andThen]
theorem info_tright:(Tryz.prog.info? 94).map (·.size)=some 1:=by kernel_rfl
theorem tells_belowT {w w1:World} {pv:Option Addr} {ks:List Nat} (h:Tells w pv ks) (b:Below w.heap.size w w1):Tells w1 pv ks :=
 ⟨fun W m=>h.1 W (b.trans (m.mono b.size)),fun s bx W a m c=>h.2 s bx W a (b.trans (m.mono b.size)) c⟩
def CkPost (w:World) (ks:List Nat) (e:Ending) (w':World):Prop :=
 (∃ tw m gx p0 g0 p1 g1,Wd ks tw∧RightW ks tw∧e=.returned (.tuple #[.agg #[.pointer (some ⟨m,0,none⟩)],.int .i64 0])∧Mx w w' m gx p0 g0 p1 g1 ks (14*ks.length)) ∨
 (¬ (Bal (exc (val (ownL 0 ks))) (ownL 0 ks).length∧Bal (exc (val (ownL 1 ks))) (ownL 1 ks).length)∧e=.returned (.tuple #[.agg #[.pointer none],.int .i64 9])∧Below w.heap.size w w') ∨
 (∃ tw,Wd ks tw∧¬ RightW ks tw∧e=.returned (.tuple #[.agg #[.pointer none],.int .i64 10])∧Below w.heap.size w w')
set_option maxHeartbeats 8000000 in
theorem checked_p (pv:Option Addr) (ks:List Nat) (w:World) (hk:Kds ks) (hT:MTabs w) (hV:Tells w pv ks) (n:Nat) (hnk:ks.length=n) (hn:n≤20000) :
  Calls Tryz.prog 60 #[.pointer pv] w (CkPost w ks):=by
 have hal:=(Below.refl w.heap.size w).alloc (Nat.le_refl _) (.cells #[.pointer none] 94)
 have hB:=Blk.new w 94 #[.pointer none]
 obtain ⟨w1,hw1⟩:∃ w1,w1=w.alloc (.cells #[.pointer none] 94):=⟨_,rfl⟩
 rw [← hw1] at hal hB
 have IX:=Lib.hid (index_p pv ks w1 hk (hT.below hal) (tells_belowT hV hal))
 have HB:=Lib.hid hB
 have HAL:=Lib.hid hal
 have HT:=Lib.hid hT
 have HK:=Lib.hid hk
 have HNK:=Lib.hid hnk
 have HINF:=Lib.hid info_tright
 clear hal hB hT hV hk hnk
 go_enter Tryz.func60,Tryz.ntmps60
 go_upto_region 1 with fail
 rw [← hw1]
 clear hw1
 go_wp2_with fail
 refine IX.out.mono ?_
 rintro e w2 (⟨m,gx,p0,g0,p1,g1,rfl,hx⟩ | ⟨hno,rfl,b2⟩)
 ·have HX:=Lib.hid hx
  have hgb:=hx.bel
  have HB2:Hid (Blk w2 w.heap.size 94 #[.pointer none]):=HB.out.below hgb
  have hlt:=HB.out.lt
  have hal2:=(Below.refl w2.heap.size w2).alloc (Nat.le_refl _) (.cells #[.pointer (some ⟨m,0,none⟩)] 94)
  have hB6:=Blk.new w2 94 #[.pointer (some ⟨m,0,none⟩)]
  obtain ⟨w3,hw3⟩:∃ w3,w3=w2.alloc (.cells #[.pointer (some ⟨m,0,none⟩)] 94):=⟨_,rfl⟩
  rw [← hw3] at hal2 hB6
  have h3:=hx.below hal2
  obtain ⟨tw,hwd⟩:=bal_wd h3.kd h3.b0 h3.b1
  have LN:=ilen_p h3
  rw [HNK.out] at LN
  have HLN:=Lib.hid LN
  have H3:=Lib.hid h3
  have HWD:=Lib.hid hwd
  have HB3:=Lib.hid (HB2.out.below hal2)
  have HB6:=Lib.hid hB6
  have HLO:Hid (w.heap.size < w1.heap.size∧w1.heap.size≤w2.heap.size∧(∀ s,MxS gx p0 g0 p1 g1 s→w1.heap.size≤s)∧∀ s,MxS gx p0 g0 p1 g1 s→s < w2.heap.size):=⟨hlt,hgb.size,fun s hs=>hx.ge s hs,fun s hs=>hx.lts s hs⟩
  have z0:w3.cell? ⟨w2.heap.size,0,none⟩=some (.pointer (some ⟨m,0,none⟩)):=by have:=hB6.cell 0;simpa using this
  clear hx hgb hal2 hB6 h3 hwd LN hlt HB2 IX
  go_upto_region 5 with fail
  rw [← hw3]
  clear hw3
  go_wp2_with fail
  refine HLN.out.mono ?_
  rintro e wa ⟨rfl,rfl⟩
  clear HLN z0
  go_wp2_with fail
  go_loopw [7,22] (fun i7 idx wr=>∃ (i:Nat),i≤n∧idx=.int .i64 (i:Int)∧Hid (Mx w1 wr m gx p0 g0 p1 g1 ks (14*i))∧Hid (∀ j,j < i→BackW ks tw j)∧Hid (Blk wr w.heap.size 94 #[.pointer none])∧Hid (Blk wr w2.heap.size 94 #[.pointer (some ⟨m,0,none⟩)])) (fun _ i _=>n - (intOf i).toNat)
  case atStart=>exact ⟨0,by omega,rfl,H3.out,fun j hj=>absurd hj (by omega),HB3.out,HB6.out⟩
  case round =>
   clear H3 HB3 HB6
   obtain ⟨i,hi,rfl,HX,HBK,HC,HS⟩:=hrel
   by_cases hlt:i < n
   ·have hdk:decide (i < n)=true:=decide_eq_true hlt
    have hlti:(i:Int) < (n:Int):=by omega
    have hik:i < ks.length:=by rw [HNK.out];exact hlt
    have s0:wr.cell? ⟨w2.heap.size,0,none⟩=some (.pointer (some ⟨m,0,none⟩)):=by have:=HS.out.cell 0;simpa using this
    have AT:=iat_p HX.out i hik (by omega)
    obtain ⟨kk,hkk⟩:∃ kk,kk=ks.getD i 0:=⟨_,rfl⟩
    rw [← hkk] at AT
    have HAT:=Lib.hid AT
    have wi:IntKind.i64.wrap ((i:Int)+1)=(i:Int)+1:=by simp [IntKind.wrap,IntKind.signed,IntKind.bits];omega
    have HNS:Hid (¬ MxS gx p0 g0 p1 g1 w.heap.size∧¬ MxS gx p0 g0 p1 g1 w2.heap.size):=⟨fun c=>by have:=HLO.out.2.2.1 _ c;have:=HLO.out.1;omega,fun c=>by have:=HLO.out.2.2.2 _ c;omega⟩
    have HKK:=Lib.hid hkk
    clear AT hkk
    go_wp2_with fail
    refine HAT.out.mono ?_
    rintro e wa ⟨rfl,ha,ma⟩
    have CA:=Lib.hid (HC.out.mod ma HNS.out.1)
    have SA:=Lib.hid (HS.out.mod ma HNS.out.2)
    clear HAT s0
    by_cases k2:kk=2
    ·have s0:wa.cell? ⟨w2.heap.size,0,none⟩=some (.pointer (some ⟨m,0,none⟩)):=by have:=SA.out.cell 0;simpa using this
     have LB:=tback_p HWD.out ha i hik (by omega) _ rfl
     obtain ⟨r,hr⟩:∃ r,r=ownI (ownP 0 ks tw (tw i)):=⟨_,rfl⟩
     rw [← hr] at LB
     obtain ⟨B,hB⟩:∃ B,B=decide (r < (i:Int)):=⟨_,rfl⟩
     rw [← hB] at LB
     have HLB:=Lib.hid LB
     have HRB:=Lib.hid (And.intro hr hB)
     subst k2
     clear ha ma LB hr hB HX HC HS
     go_wp2_with fail
     refine HLB.out.mono ?_
     rintro e wb ⟨rfl,hb,mb⟩
     have CB:=Lib.hid (CA.out.mod mb HNS.out.1)
     have SB:=Lib.hid (SA.out.mod mb HNS.out.2)
     obtain ⟨hr,hB⟩:=HRB.out
     cases B with
     | true =>
       have hrl:r < (i:Int):=of_decide_eq_true hB.symm
       have HBK1:Hid (∀ j,j < i+1→BackW ks tw j):=fun j hj=>by
        by_cases e:j=i
        ·subst e;intro _;rw [← hr];exact hrl
        ·exact HBK.out j (by omega)
       have HX1:=Lib.hid (hb.le (q':=14*(i+1)) (by omega))
       clear hr hB hrl hb mb s0 hik
       go_wp2_with fail
       go_roundw
       case rel=>exact ⟨i+1,by omega,by go_num,HX1,HBK1,CB,SB⟩
       case measure=>simp [intOf];omega
     | false =>
       have hrl:¬ r < (i:Int):=of_decide_eq_false hB.symm
       have HNR:Hid (¬ RightW ks tw):=fun c=>by
        have:=right_back.1 c i hik (HKK.out.symm)
        rw [← hr] at this
        exact hrl this
       have c0:wb.cell? ⟨w.heap.size,0,none⟩=some (.pointer none):=by have:=CB.out.cell 0;simpa using this
       have f0:=CB.out.frozen 0
       have BL:=Lib.hid (HAL.out.trans (hb.bel.mono HAL.out.size))
       clear hr hB hrl hb mb s0 hik
       go_wp2_with fail
       refine bodyPost_ret (results_cell_tmp_row rfl _ _ w.heap.size 94 _ (0,0) _ rfl (CB.out.set_ 0 (.pointer none)) Tryz.underlying94 rfl HINF.out) rfl ?_
       exact .inr (.inr ⟨tw,HWD.out,HNR.out,rfl,BL.out.setCell (p:=⟨w.heap.size,0,none⟩) (Nat.le_refl _) _⟩)
    ·have k2I:¬ (kk:Int)=2:=by omega
     have k2b:((kk:Int) == 2)=false:=by simp;omega
     have k2d:decide (kk=2)=false:=decide_eq_false k2
     have HBK1:Hid (∀ j,j < i+1→BackW ks tw j):=fun j hj=>by
      by_cases e:j=i
      ·subst e;intro c;exact absurd (HKK.out.trans c) k2
      ·exact HBK.out j (by omega)
     have HX1:=Lib.hid (ha.le (q':=14*(i+1)) (by omega))
     clear ha ma HX HC HS hik
     go_wp2_with fail
     go_roundw
     case rel=>exact ⟨i+1,by omega,by go_num,HX1,HBK1,CA,SA⟩
     case measure=>simp [intOf];omega
   ·obtain rfl:i=n:=by omega
    have hdk:decide (i < i)=false:=by simp
    have HR:Hid (RightW ks tw):=by
     show RightW ks tw
     rw [right_back,HNK.out];exact HBK.out
    have s0:wr.cell? ⟨w2.heap.size,0,none⟩=some (.pointer (some ⟨m,0,none⟩)):=by have:=HS.out.cell 0;simpa using this
    have c0:wr.cell? ⟨w.heap.size,0,none⟩=some (.pointer none):=by have:=HC.out.cell 0;simpa using this
    have f0:=HC.out.frozen 0
    clear HBK
    go_wp2_with fail
    refine bodyPost_ret (results_cell_tmp_row rfl _ _ w.heap.size 94 _ (0,0) _ rfl (HC.out.set_ 0 (.pointer (some ⟨m,0,none⟩))) Tryz.underlying94 rfl HINF.out) rfl ?_
    have MS:=Mod.setCell (p:=⟨w.heap.size,0,none⟩) (Mod.refl (fun k=>k=w.heap.size) wr) (fun _=>rfl) (.pointer (some ⟨m,0,none⟩))
    have hbel:=HX.out.bel
    have B0:=HAL.out.trans (hbel.mono HAL.out.size)
    refine .inl ⟨tw,m,gx,p0,g0,p1,g1,HWD.out,HR.out,rfl,?_⟩
    have hn':=HNK.out
    rw [hn']
    exact HX.out.rebase (MS.mono fun k _ e=>by rw [e];exact HLO.out.1) (by have:=HLO.out.1;omega) (B0.setCell (p:=⟨w.heap.size,0,none⟩) (Nat.le_refl _) _) HT.out.nul ⟨HT.out.tab,HT.out.lt⟩
 ·have HB2:=Lib.hid (HB.out.below (b2.mono (Nat.le_refl _)))
  have Z:=Lib.hid (HAL.out.trans (b2.mono HAL.out.size))
  have HNO:=Lib.hid hno
  have c0:w2.cell? ⟨w.heap.size,0,none⟩=some (.pointer none):=by have:=HB2.out.cell 0;simpa using this
  have f0:=HB2.out.frozen 0
  clear hno b2
  go_wp2_with fail
  refine bodyPost_ret (results_cell_tmp_row rfl _ _ w.heap.size 94 _ (0,0) _ rfl (HB2.out.set_ 0 (.pointer none)) Tryz.underlying94 rfl HINF.out) rfl ?_
  exact .inr (.inl ⟨HNO.out,rfl,Z.out.setCell (p:=⟨w.heap.size,0,none⟩) (Nat.le_refl _) _⟩)
theorem MapLo.lowerT {lo lo':Nat} {w:World} {g:Nat} (h:MapLo lo w g) (k:lo'≤lo):MapLo lo' w g:=by
 obtain ⟨p,A,n,c,S,k',d,q,A',n',c',S',k2,d',rt,ln,hb,h0,hp,hq,i1,i2,i3,i4⟩:=h
 exact ⟨p,A,n,c,S,k',d,q,A',n',c',S',k2,d',rt,ln,hb,Nat.le_trans k h0,hp.le k,hq.le k,fun a e=>Nat.le_trans k (i1 a e),fun a e=>Nat.le_trans k (i2 a e),fun a e=>Nat.le_trans k (i3 a e),fun a e=>Nat.le_trans k (i4 a e)⟩
def BalW (ks:List Nat):Prop:=Bal (exc (val (ownL 0 ks))) (ownL 0 ks).length∧Bal (exc (val (ownL 1 ks))) (ownL 1 ks).length
def ErrW (ks:List Nat) (E:Int):Prop:=(E=0∧∃ tw,Wd ks tw∧RightW ks tw)∨(E=9∧¬ BalW ks)∨(E=10∧∃ tw,Wd ks tw∧¬ RightW ks tw)
def rootW (n:Nat):Int:=if n=0 then -1 else 0
def loneW (n:Nat):Int:=if n=0 then 1 else 0
def DcPost (w:World) (ks:List Nat) (e:Ending) (w':World):Prop :=
 (∃ tw l b,Wd ks tw∧RightW ks tw∧TurnW ks tw l∧Inv l b∧NewMap w l b (rootW ks.length) (loneW ks.length) e w') ∨
 (∃ E,E≠0∧ErrW ks E∧e=.returned (.tuple #[.pointer none,.int .i64 E])∧Below w.heap.size w w')
def NmPost (w:World) (ks:List Nat) (n:Nat) (e:Ending) (w':World):Prop :=
 (∃ tw A c,Wd ks tw∧RightW ks tw∧e=.returned (.tuple #[.slice A n c,.int .i64 0])∧n≤c∧c≤maxLen∧w'.ownsRow w.heap.size 3 1 (.slice A n c) n (I64 (ofN (nmL ks tw)))∧Below w.heap.size w w') ∨
 (∃ E,E≠0∧ErrW ks E∧e=.returned (.tuple #[.slice none 0 0,.int .i64 E])∧Below w.heap.size w w')
theorem tcheck_p (pv:Option Addr) (ks:List Nat) (w:World) (hk:Kds ks) (hT:MTabs w) (hV:Tells w pv ks) (n:Nat) (hnk:ks.length=n) (hn:n≤20000) :
  Calls Tryz.prog 28 #[.pointer pv] w fun e w'=>∃ E,ErrW ks E∧e=.returned (.int .i64 E)∧Below w.heap.size w w':=by
 have CK:=Lib.hid (checked_p pv ks w hk hT hV n hnk hn)
 clear hk hT hV hnk
 go_enter Tryz.func28,Tryz.ntmps28
 go_wp2_with fail
 refine CK.out.mono ?_
 rintro e w2 (⟨tw,m,gx,p0,g0,p1,g1,hW,hR,rfl,hx⟩ | ⟨hno,rfl,b2⟩ | ⟨tw,hW,hR,rfl,b2⟩)
 ·have HE:Hid (ErrW ks 0):=.inl ⟨rfl,tw,hW,hR⟩
  have B2:=Lib.hid hx.bel
  clear hW hR hx
  go_wp2_with fail
  go_ret
  exact ⟨0,HE.out,rfl,B2.out.alloc B2.out.size _⟩
 ·have HE:Hid (ErrW ks 9):=.inr (.inl ⟨rfl,hno⟩)
  have B2:=Lib.hid b2
  clear hno b2
  go_wp2_with fail
  go_ret
  exact ⟨9,HE.out,rfl,B2.out.alloc B2.out.size _⟩
 ·have HE:Hid (ErrW ks 10):=.inr (.inr ⟨rfl,tw,hW,hR⟩)
  have B2:=Lib.hid b2
  clear hW hR b2
  go_wp2_with fail
  go_ret
  exact ⟨10,HE.out,rfl,B2.out.alloc B2.out.size _⟩
theorem tnamesP_p (pv:Option Addr) (ks:List Nat) (w:World) (hk:Kds ks) (hT:MTabs w) (hV:Tells w pv ks) (n:Nat) (hnk:ks.length=n) (hn:n≤14000) :
  Calls Tryz.prog 29 #[.pointer pv] w (NmPost w ks n):=by
 have CK:=Lib.hid (checked_p pv ks w hk hT hV n hnk (by omega))
 have HNK:=Lib.hid hnk
 clear hk hT hV hnk
 go_enter Tryz.func29,Tryz.ntmps29
 go_wp2_with fail
 refine CK.out.mono ?_
 rintro e w2 (⟨tw,m,gx,p0,g0,p1,g1,hW,hR,rfl,hx⟩ | ⟨hno,rfl,b2⟩ | ⟨tw,hW,hR,rfl,b2⟩)
 ·have HW:=Lib.hid hW
  have HR:=Lib.hid hR
  have B2:=Lib.hid hx.bel
  have hal:=(Below.refl w2.heap.size w2).alloc (Nat.le_refl _) (.cells #[.pointer (some ⟨m,0,none⟩)] 94)
  have hB:=Blk.new w2 94 #[.pointer (some ⟨m,0,none⟩)]
  obtain ⟨w3,hw3⟩:∃ w3,w3=w2.alloc (.cells #[.pointer (some ⟨m,0,none⟩)] 94):=⟨_,rfl⟩
  rw [← hw3] at hal hB
  have h3:=hx.below hal
  have NM:=Lib.hid (tnames_p HW.out h3 n HNK.out (by omega) (by have:=HNK.out;omega))
  have x0:w3.cell? ⟨w2.heap.size,0,none⟩=some (.pointer (some ⟨m,0,none⟩)):=by have:=hB.cell 0;simpa using this
  have B3:=Lib.hid h3.bel
  have HS:Hid (w.heap.size≤w3.heap.size):=B3.out.size
  clear hW hR hx hal hB h3 CK
  go_upto_region 2 with fail
  rw [← hw3]
  clear hw3
  go_wp2_with fail
  refine NM.out.mono ?_
  rintro e w4 ⟨A,c,rfl,hc,hm,ho,hx4,_⟩
  have HO:=Lib.hid (And.intro hc (And.intro hm ho))
  have B4:=Lib.hid hx4.bel
  clear hc hm ho hx4
  go_wp2_with fail
  go_ret2
  exact .inl ⟨tw,A,c,HW.out,HR.out,rfl,HO.out.1,HO.out.2.1,HO.out.2.2.base_le' HS.out,B4.out⟩
 ·have HE:Hid (ErrW ks 9):=.inr (.inl ⟨rfl,hno⟩)
  have B2:=Lib.hid b2
  clear hno b2
  go_wp2_with fail
  go_ret2
  exact .inr ⟨9,by decide,HE.out,rfl,B2.out.alloc B2.out.size _⟩
 ·have HE:Hid (ErrW ks 10):=.inr (.inr ⟨rfl,tw,hW,hR⟩)
  have B2:=Lib.hid b2
  clear hW hR b2
  go_wp2_with fail
  go_ret2
  exact .inr ⟨10,by decide,HE.out,rfl,B2.out.alloc B2.out.size _⟩
set_option maxHeartbeats 4000000 in
theorem tdecode_p (pv:Option Addr) (ks:List Nat) (w:World) (hk:Kds ks) (hT:MTabs w) (hV:Tells w pv ks) (n:Nat) (hnk:ks.length=n) (hn:n≤14000) :
  Calls Tryz.prog 16 #[.pointer pv] w (DcPost w ks):=by
 have CK:=Lib.hid (checked_p pv ks w hk hT hV n hnk (by omega))
 have HNK:=Lib.hid hnk
 clear hk hT hV hnk
 go_enter Tryz.func16,Tryz.ntmps16
 go_wp2_with fail
 refine CK.out.mono ?_
 rintro e w2 (⟨tw,m,gx,p0,g0,p1,g1,hW,hR,rfl,hx⟩ | ⟨hno,rfl,b2⟩ | ⟨tw,hW,hR,rfl,b2⟩)
 ·have HW:=Lib.hid hW
  have HR:=Lib.hid hR
  have B2:=Lib.hid hx.bel
  have hal:=(Below.refl w2.heap.size w2).alloc (Nat.le_refl _) (.cells #[.pointer (some ⟨m,0,none⟩)] 94)
  have hB:=Blk.new w2 94 #[.pointer (some ⟨m,0,none⟩)]
  obtain ⟨w3,hw3⟩:∃ w3,w3=w2.alloc (.cells #[.pointer (some ⟨m,0,none⟩)] 94):=⟨_,rfl⟩
  rw [← hw3] at hal hB
  have h3:=hx.below hal
  have LN:=ilen_p h3
  rw [HNK.out] at LN
  have HLN:=Lib.hid LN
  have x0:w3.cell? ⟨w2.heap.size,0,none⟩=some (.pointer (some ⟨m,0,none⟩)):=by have:=hB.cell 0;simpa using this
  have B3:=Lib.hid h3.bel
  have HS:Hid (w.heap.size≤w3.heap.size):=B3.out.size
  have H3:=Lib.hid h3
  clear hW hR hx hal hB h3 CK LN
  go_upto_region 2 with fail
  rw [← hw3]
  clear hw3
  go_wp2_with fail
  refine HLN.out.mono ?_
  rintro e wa ⟨rfl,rfl⟩
  clear HLN
  by_cases h0:n=0
  ·subst h0
   have hk0:ks=[]:=List.eq_nil_of_length_eq_zero HNK.out
   have NW:=Lib.hid (new_ok none 0 0 [] [] (-1) 1 w3 (Rd.nil _ _ _) ⟨rfl,fun _ h=>absurd h (by simp),fun _ h=>absurd h (by simp),fun _ h=>absurd h (by simp),fun _ h=>absurd h (by simp)⟩ rfl (by omega) (.inl ⟨rfl,rfl⟩) (by omega) (by omega))
   clear H3 x0
   go_wp2_with fail
   refine NW.out.mono ?_
   rintro e w4 ⟨g,rfl,hm,b4,lo4⟩
   have HM:=Lib.hid hm
   have B4:=Lib.hid (B3.out.trans (b4.mono HS.out))
   have L4:=Lib.hid (MapLo.lowerT (lo':=w.heap.size) lo4 HS.out)
   clear hm b4 lo4 NW
   go_wp2_with fail
   go_ret2
   refine .inl ⟨tw,[],[],HW.out,HR.out,⟨by rw [hk0],fun i hi=>by rw [hk0] at hi;exact absurd hi (by simp)⟩,⟨rfl,fun _ h=>absurd h (by simp),fun _ h=>absurd h (by simp),fun _ h=>absurd h (by simp),fun _ h=>absurd h (by simp)⟩,?_⟩
   rw [hk0]
   exact ⟨g,rfl,HM.out,B4.out,L4.out⟩
  ·have h0I:¬ (n:Int)=0:=by omega
   have h0b:((n:Int) == 0)=false:=by simp;omega
   have h0d:decide (n=0)=false:=decide_eq_false h0
   have TN:=Lib.hid (tturns_p HW.out H3.out n HNK.out (by omega) (by have:=HNK.out;omega))
   clear H3
   go_wp2_with fail
   refine TN.out.mono ?_
   rintro e w4 ⟨l,A,c,ht,rfl,hc,hm,ho,hx4,_⟩
   obtain ⟨b,hb⟩:=ht.inv HW.out
   have hll:l.length=n:=by rw [ht.1,HNK.out]
   have hev:n%2=0:=by have:=opN_half HW.out.P;have:=HNK.out;omega
   have hrd:Rd w4 w4.heap.size A n (I64 (ofN l)):=Rd.ofOwn ho
   have NW:=Lib.hid (new_ok A n c l b 0 0 w4 hrd hb hev (by omega) (.inr ⟨by omega,by omega,by omega⟩) (by omega) (by omega))
   have HT:=Lib.hid (And.intro ht hb)
   have B4:=Lib.hid hx4.bel
   clear ht hc hm ho hx4 hb hll hrd hev x0 TN
   go_wp2_with fail
   refine NW.out.mono ?_
   rintro e w5 ⟨g,rfl,hm,b5,lo5⟩
   have HM:=Lib.hid hm
   have B5:=Lib.hid (B4.out.trans (b5.mono B4.out.size))
   have L5:=Lib.hid (MapLo.lowerT (lo':=w.heap.size) lo5 B4.out.size)
   clear hm b5 lo5 NW
   go_wp2_with fail
   go_ret2
   refine .inl ⟨tw,l,b,HW.out,HR.out,HT.out.1,HT.out.2,?_⟩
   unfold rootW loneW
   rw [HNK.out,if_neg h0,if_neg h0]
   exact ⟨g,rfl,HM.out,B5.out,L5.out⟩
 ·have HE:Hid (ErrW ks 9):=.inr (.inl ⟨rfl,hno⟩)
  have B2:=Lib.hid b2
  clear hno b2
  go_wp2_with fail
  go_ret2
  exact .inr ⟨9,by decide,HE.out,rfl,B2.out.alloc B2.out.size _⟩
 ·have HE:Hid (ErrW ks 10):=.inr (.inr ⟨rfl,tw,hW,hR⟩)
  have B2:=Lib.hid b2
  clear hW hR b2
  go_wp2_with fail
  go_ret2
  exact .inr ⟨10,by decide,HE.out,rfl,B2.out.alloc B2.out.size _⟩

theorem Wrd.word {ks:List Nat} {tw f:Nat→Nat} {l b:List Nat} {m V:Nat} (h:Wrd ks tw f l) (hi:Inv l b) (he:l.length=2*m) (hV:∀ x,x < l.length→nameOf l x < V) (hl:l.length=ks.length) (hR:RightW ks tw) :
  wkn (sgL l) (nameOf l) m V (f 0) l.length=ks:=by
 have W:=(h.walk hi he hV hR ks.length (Nat.le_refl _)).1
 apply List.ext_getElem
 ·rw [wkn_length,hl]
 ·intro i h1 h2
  have g:∀ (v:List Nat) k (hk:k < v.length),v[k]=v.getD k 0:=fun v k hk=>by rw [List.getD_eq_getElem?_getD,List.getElem?_eq_getElem hk];rfl
  rw [g _ _ h1,g _ _ h2,wkn_get _ _ _ _ _ _ i (by rw [hl];exact h2)]
  exact (W i h2).2
def triL:List Nat:=[5,2,1,4,3,0]
theorem triL_inv:Inv triL [5,2,1,4,3,0]:=⟨rfl,by decide,by decide,by decide,by decide⟩
def triK:List Nat:=[0,0,2,1,1,3]
def triT (j:Nat):Nat:=[4,3,5,1,0,2].getD j 0
def triF (j:Nat):Nat:=[0,2,4,3,1,5].getD j 0
theorem nx_dec {ks:List Nat} {tw:Nat→Nat} {s:Nat} (h:∀ i,i < ks.length→∀ k,k < ks.length→¬ (i < k∧k < tw i∧tw i < tw k∧ks.getD i 0 / 2=s∧ks.getD k 0 / 2=s)):NX ks tw s :=
 fun i k a b c hi hk p q=>h i hi k hk ⟨a,b,c,p,q⟩
def crK:List Nat:=[2,0,3,1]
theorem triK_kd:Kds triK:=(by decide:∀ k∈triK,k < 4)
theorem crK_kd:Kds crK:=(by decide:∀ k∈crK,k < 4)
theorem tri_inj:∀ i,i < triK.length→∀ j,j < triK.length→triF i=triF j→i=j:=by decide
theorem tri_wrd:Wrd triK triT triF triL :=
 ⟨⟨triK_kd,by decide,by decide,by decide,by decide,by decide⟩,nx_dec (by decide),nx_dec (by decide),by decide,by decide,fun i j hi hj=>tri_inj i hi j hj,by decide,by decide⟩
theorem tri_right:RightW triK triT:=by
 rw [right_back];decide
theorem tri_err:ErrM triL 0 0:=by
 obtain ⟨h1,h2⟩:=one_part triL_inv (by decide) (by decide) (oneB_ok triL_inv (by decide) (k:=6) (by decide))
 refine .inr (.inr ⟨by omega,?_,rfl⟩)
 have e1:metB triL=3:=by decide
 have e2:metB (phiL triL)=2:=by decide
 have e3:triL.length / 2=3:=rfl
 omega
theorem tri_word:wordL triL 0=[0,0,2,1,1,3]:=by
 have:=tri_wrd.word triL_inv (m:=3) rfl (nm_ltW triL_inv (V:=(sizes triL).length) (Nat.le_refl _)) rfl tri_right
 exact this
def crT (j:Nat):Nat:=[2,3,0,1].getD j 0
theorem cr_wd:Wd crK crT:=Wd.nx ⟨crK_kd,by decide,by decide,by decide,by decide,by decide⟩ (nx_dec (by decide)) (nx_dec (by decide))
theorem cr_not:¬ RightW crK crT:=by
 rw [right_back];decide
theorem cr_err {E:Int} (h:ErrW crK E):E=10:=by
 rcases h with ⟨_,tw,hw,hr⟩ | ⟨_,hb⟩ | ⟨h,_⟩
 ·exact absurd (hr.uniq hw cr_wd) cr_not
 ·exact absurd ⟨cr_wd.bal 0,cr_wd.bal 1⟩ hb
 ·exact h
theorem parse_exT (w:World):Calls Tryz.prog 47 #[.string { data:=#[91,40,93,41] }] w fun e w'=>∃ g,e=.returned (.tuple #[.pointer (some ⟨g,0,none⟩),.int .i64 4,.int .i64 0])∧WordAt w' w.heap.size g crK∧Below w.heap.size w w':=by
 refine (parse_p { data:=#[91,40,93,41] } w (by decide)).mono ?_
 have e1:bytesS { data:=#[91,40,93,41] }=[91,40,93,41]:=rfl
 rw [e1]
 rintro e w' (⟨i,hi,hk,_⟩ | ⟨g,_,he,hw,hb⟩)
 ·exfalso
  have:∀ i:Fin 4,¬ kb ([91,40,93,41].getD i.val 0)=-1:=by decide
  exact this ⟨i,hi⟩ hk
 ·exact ⟨g,he,hw,hb⟩
set_option maxHeartbeats 8000000 in
theorem tawake_p (w:World) (hT:MTabs w):Calls Tryz.prog 9 #[] w fun e w'=>e=.returned (.bool true)∧Below w.heap.size w w':=by
 have hal:=(Below.refl w.heap.size w).alloc (Nat.le_refl _) (.cells #[.int .i64 5,.int .i64 2,.int .i64 1,.int .i64 4,.int .i64 3,.int .i64 0] 3)
 have hR:=Rd.new w 3 #[.int .i64 5,.int .i64 2,.int .i64 1,.int .i64 4,.int .i64 3,.int .i64 0] 6 (I64 (ofN triL)) rfl rfl
 obtain ⟨w1,hw1⟩:∃ w1,w1=w.alloc (.cells #[.int .i64 5,.int .i64 2,.int .i64 1,.int .i64 4,.int .i64 3,.int .i64 0] 3):=⟨_,rfl⟩
 have hs1:w1.heap.size=w.heap.size+1:=by rw [hw1];simp
 rw [← hw1] at hal hR
 rw [← hs1] at hR
 have NW:=Lib.hid (new_ok (some ⟨w.heap.size,0,none⟩) 6 6 triL _ 0 0 w1 hR triL_inv rfl (by omega) (.inr ⟨by omega,by omega,by omega⟩) (by omega) (by omega))
 have B1:=Lib.hid hal
 have HT:=Lib.hid hT
 clear hT hal hR hs1
 go_enter Tryz.func9,Tryz.ntmps9
 go_wp2_with fail
 rw [← hw1]
 clear hw1
 refine NW.out.mono ?_
 rintro e w2 ⟨g,rfl,hm,b2,_⟩
 have EN:=Lib.hid (tenc_p g triL _ 0 0 0 w2 hm triL_inv (.inr ⟨by decide,by omega,by decide⟩) tri_err)
 have B2:=Lib.hid (B1.out.trans (b2.mono B1.out.size))
 clear b2 hm NW
 go_wp2_with fail
 refine EN.out.mono ?_
 rintro e w3 (⟨h,_⟩ | ⟨_,gw,rfl,hw,b3⟩)
 ·exact absurd rfl h
 rw [tri_word] at hw
 have B3:=Lib.hid (B2.out.trans (b3.mono B2.out.size))
 have PE:=Lib.hid (parse_exT w3)
 have HW:=Lib.hid hw
 clear b3 hw EN
 go_wp2_with fail
 refine PE.out.mono ?_
 rintro e w4 ⟨gu,rfl,hu,b4⟩
 have TX:=Lib.hid (mtext_p _ gw _ w4 (HW.out.below b4) (by decide))
 have B4:=Lib.hid (B3.out.trans (b4.mono B3.out.size))
 have hT4:=HT.out.below B4.out
 have CK:Hid (∀ W,Below w4.heap.size w4 W→Calls Tryz.prog 28 #[.pointer (some ⟨gu,0,none⟩)] W fun e w'=>e=.returned (.int .i64 10)∧Below W.heap.size W w'):=fun W z =>
  (tcheck_p (some ⟨gu,0,none⟩) crK W crK_kd (hT4.below z) (tells_belowT (tells_word _ gu crK w4 hu (by decide)) z) 4 rfl (by omega)).mono fun e w' ⟨E,h1,h2,h3⟩=>⟨by rw [h2,cr_err h1],h3⟩
 obtain ⟨T,hTt⟩:∃ T,T=textM [0,0,2,1,1,3]:=⟨_,rfl⟩
 rw [← hTt] at TX
 have hTv:T={ data:=#[40,40,91,41,41,93] }:=by rw [hTt];rfl
 subst hTv
 clear b4 hu hT4 PE hTt
 go_wp2_with fail
 refine TX.out.mono ?_
 rintro e w5 ⟨rfl,b5⟩
 have CK5:=Lib.hid (CK.out w5 b5)
 have B5:=Lib.hid (B4.out.trans (b5.mono B4.out.size))
 clear b5 CK TX
 go_wp2_with fail
 refine CK5.out.mono ?_
 rintro e w6 ⟨rfl,b6⟩
 have B6:=Lib.hid (B5.out.trans (b6.mono B5.out.size))
 clear b6
 go_wp2_with fail
 go_ret
 exact ⟨rfl,B6.out⟩
theorem pN_nilT:pN []=0:=by have:=pN_le [];simpa using this
theorem genus_nilT:genusN []=0:=by unfold genusN;rw [pN_nilT];rfl
abbrev GEl:=Value × List Nat
abbrev gE0:GEl:=(Value.bool false,[])
def gcs (ps:List GEl):List Value:=ps.map (·.1)
theorem gcs_get (ps:List GEl) (j:Nat) (h:j < ps.length):(gcs ps)[j]?=some (ps.getD j gE0).1:=by
 unfold gcs
 rw [List.getElem?_map,List.getD_eq_getElem?_getD,List.getElem?_eq_getElem h];rfl
theorem gcs_set (ps:List GEl) (j:Nat) (v:Value) (D:List Nat):(gcs ps).set j v=gcs (ps.set j (v,D)):=by
 unfold gcs;rw [List.map_set]
theorem own_own_neG {w:World} {b b':Nat} {e e':TypeId} {s s' n n':Nat} {v v':Value} {xs xs':List Value} (h:w.ownsRow b e s v n xs) (h':w.ownsRow b' e' s' v' n' xs') (hne:e≠e') {q:Nat} (hq:v.ownBlock=some q) (hq':v'.ownBlock=some q):False:=by
 rcases h.2 with ⟨rfl,_⟩ | ⟨g,c,cur,rfl,_,hg,_⟩
 ·simp [Value.ownBlock] at hq
 ·rcases h'.2 with ⟨rfl,_⟩ | ⟨g',c',cur',rfl,_,hg',_⟩
  ·simp [Value.ownBlock] at hq'
  ·simp [Value.ownBlock] at hq hq'
   subst hq;subst hq'
   rw [hg] at hg'
   simp at hg'
   exact hne hg'.2
structure GRow (w:World) (base:Nat) (A:Option Addr) (c:Nat) (ps:List GEl):Prop where
 own:w.ownsRow base 25 1 (.slice A ps.length c) ps.length (gcs ps)
 inn:∀ j,j < ps.length→(∃ A' c',(ps.getD j gE0).1=.slice A' (ps.getD j gE0).2.length c')∧w.ownsRow base 3 1 (ps.getD j gE0).1 (ps.getD j gE0).2.length (I64 (ofN (ps.getD j gE0).2))
 dj:∀ i j,i < ps.length→j < ps.length→i≠j→∀ k,(ps.getD i gE0).1.ownBlock=some k→(ps.getD j gE0).1.ownBlock≠some k
section
variable {w w':World} {base c:Nat} {A:Option Addr} {ps:List GEl}
theorem GRow.below (h:GRow w base A c ps) (m:Below w.heap.size w w'):GRow w' base A c ps :=
 ⟨own_below h.own m,fun j hj=>⟨(h.inn j hj).1,own_below (h.inn j hj).2 m⟩,h.dj⟩
theorem GRow.one (w:World) (hb:base≤w.heap.size):GRow (w.alloc (.cells #[.slice none 0 0] 25)) base (some ⟨w.heap.size,0,none⟩) 1 [(.slice none 0 0,[])]:=by
 refine ⟨?_,fun j hj=>?_,fun i j hi hj hij=>?_⟩
 ·exact (World.ownsRow_lit (base:=w.heap.size) (e:=25) (size:=1) w #[.slice none 0 0] 1 (by omega) (by simp [maxLen]) (by simp)).base_le' hb
 ·obtain rfl:j=0:=by simp at hj;omega
  exact ⟨⟨none,0,rfl⟩,World.ownsRow_nil _ _ _ _⟩
 ·simp at hi hj;omega
theorem GRow.snocM (h:GRow w base A c ps) (hbase:base≤w.heap.size) (hn:ps.length≤1000000) :
  ∃ A1 c1 w2,(Builtin.append_ #[109,109] 109 #[.slice A ps.length c,.slice (some ⟨w.heap.size,0,none⟩) 1 1]).run Tryz.prog (w.alloc (.cells #[.slice none 0 0] 25))=.ok (.slice A1 (ps.length+1) c1) w2 ∧
   GRow w2 base A1 c1 (ps++[(.slice none 0 0,[])])∧Below base w w2∧Mod (fun q=>some q=(Value.slice A ps.length c).ownBlock) w w2:=by
 obtain ⟨i0,hi0,hz0,hz1,hz2⟩:=info_parts info_ints
 have hal:Below w.heap.size w (w.alloc (.cells #[.slice none 0 0] 25)):=(Below.refl _ _).alloc (Nat.le_refl _) _
 have h1:=h.below hal
 have rd:=Rd.new w 25 #[.slice none 0 0] 1 [.slice none 0 0] rfl rfl
 obtain ⟨v',w2,hrun,hnew,hgr,hob⟩:=run_append_rd (P:=Tryz.prog) (w.alloc (.cells #[.slice none 0 0] 25)) base 109 109 25 i0 (.slice none 0 0) 24 Tryz.underlying109 hi0 hz0 hz1 hz2 rfl _ ps.length _ h1.own (w.heap.size+1) (some ⟨w.heap.size,0,none⟩) 1 1 _ rd (by intro u hu;rw [List.mem_singleton] at hu;subst hu;rfl) (by simp only [maxLen];omega) (by omega) (by simp;omega)
 obtain ⟨A1,c1,rfl,_,_⟩:=own_form hnew
 have MG:=Mod.ofGrown hgr
 have hl:(ps++[((.slice none 0 0,[]):GEl)]).length=ps.length+1:=by simp
 have gl:∀ j,j < ps.length→(ps++[((.slice none 0 0,[]):GEl)]).getD j gE0=ps.getD j gE0:=fun j hj=>by rw [List.getD_eq_getElem?_getD,List.getElem?_append_left hj,← List.getD_eq_getElem?_getD]
 have gr:(ps++[((.slice none 0 0,[]):GEl)]).getD ps.length gE0=(.slice none 0 0,[]):=by simp [List.getD_eq_getElem?_getD]
 refine ⟨A1,c1,w2,hrun,⟨?_,fun j hj=>?_,fun i j hi hj hij k hk=>?_⟩,?_⟩
 ·rw [hl]
  have:gcs (ps++[((.slice none 0 0,[]):GEl)])=gcs ps++[.slice none 0 0]:=by simp [gcs]
  rw [this];exact hnew
 ·rw [hl] at hj
  by_cases e:j < ps.length
  ·rw [gl j e]
   exact ⟨(h.inn j e).1,own_mod (h1.inn j e).2 MG fun k hk q=>own_own_neG (h1.inn j e).2 h1.own (by decide) hk q.symm⟩
  ·obtain rfl:j=ps.length:=by omega
   rw [gr]
   exact ⟨⟨none,0,rfl⟩,World.ownsRow_nil _ _ _ _⟩
 ·rw [hl] at hi hj
  by_cases e1:i < ps.length
  ·rw [gl i e1] at hk
   by_cases e2:j < ps.length
   ·rw [gl j e2];exact h.dj i j e1 e2 hij k hk
   ·obtain rfl:j=ps.length:=by omega
    rw [gr];simp [Value.ownBlock]
  ·obtain rfl:i=ps.length:=by omega
   rw [gr] at hk
   simp [Value.ownBlock] at hk
 ·exact ⟨((Below.refl base w).alloc hbase _).trans (Below.appended h1.own hgr (by simp;omega)),(Mod.none_ hal _).trans MG fun _ _ q=>q⟩
theorem GRow.grow {g:Nat} (h:GRow w base (some ⟨g,0,none⟩) c ps) (hbase:base≤w.heap.size) {j d:Nat} (hj:j < ps.length) (hn:(ps.getD j gE0).2.length≤1000000) :
  ∃ A1 cj A2 c2 w2,(ps.getD j gE0).1=.slice A1 (ps.getD j gE0).2.length cj∧(Builtin.append_ #[25,25] 25 #[.slice A1 (ps.getD j gE0).2.length cj,.slice (some ⟨w.heap.size,0,none⟩) 1 1]).run Tryz.prog (w.alloc (.cells #[.int .i64 (d:Int)] 3))=.ok (.slice A2 ((ps.getD j gE0).2.length+1) c2) w2 ∧
   w2.cell? ⟨g,j,none⟩=some (.slice A1 (ps.getD j gE0).2.length cj)∧w2.frozen? ⟨g,j,none⟩=false ∧
   GRow (w2.setCell ⟨g,j,none⟩ (.slice A2 ((ps.getD j gE0).2.length+1) c2)) base (some ⟨g,0,none⟩) c (ps.set j (.slice A2 ((ps.getD j gE0).2.length+1) c2,(ps.getD j gE0).2++[d])) ∧
   Below base w (w2.setCell ⟨g,j,none⟩ (.slice A2 ((ps.getD j gE0).2.length+1) c2))∧Mod (fun q=>q=g∨some q=(ps.getD j gE0).1.ownBlock) w (w2.setCell ⟨g,j,none⟩ (.slice A2 ((ps.getD j gE0).2.length+1) c2)) ∧
   (∀ q,(Value.slice A2 ((ps.getD j gE0).2.length+1) c2).ownBlock=some q→(ps.getD j gE0).1.ownBlock=some q∨w.heap.size≤q):=by
 obtain ⟨i0,hi0,hz0,hz1,hz2⟩:=info_parts info_int
 obtain ⟨⟨A1,cj,e1⟩,oj⟩:=h.inn j hj
 have hal:Below w.heap.size w (w.alloc (.cells #[.int .i64 (d:Int)] 3)):=(Below.refl _ _).alloc (Nat.le_refl _) _
 have h1:=h.below hal
 have oj1:=own_below oj hal
 rw [e1] at oj1
 have rd:=Rd.new w 3 #[.int .i64 (d:Int)] 1 [.int .i64 (d:Int)] rfl rfl
 obtain ⟨v',w2,hrun,hnew,hgr,hob⟩:=run_append_rd (P:=Tryz.prog) (w.alloc (.cells #[.int .i64 (d:Int)] 3)) base 25 25 3 i0 (.int .i64 0) 8 Tryz.underlying25 hi0 hz0 hz1 hz2 rfl _ _ _ oj1 (w.heap.size+1) (some ⟨w.heap.size,0,none⟩) 1 1 _ rd (by simp [Value.oneCell']) (by simp only [maxLen];omega) (by omega) (by simp;omega)
 obtain ⟨A2,c2,rfl,_,_⟩:=own_form hnew
 have MG:=Mod.ofGrown hgr
 have ow1:=h1.own
 have ow2:=own_mod ow1 MG fun k hk q=>own_own_neG oj1 ow1 (by decide) q.symm hk
 have hgw:=(own_block h.own)
 have hcell:=ow2.cellAt j (by omega)
 rw [gcs_get ps j hj,e1] at hcell
 have hfz:=ow2.frozenAt j
 have MX:Mod (fun k=>k=g) w2 (w2.setCell ⟨g,j,none⟩ (.slice A2 ((ps.getD j gE0).2.length+1) c2)):=Mod.setCell (p:=⟨g,j,none⟩) (Mod.refl (fun k=>k=g) w2) (fun _=>rfl) _
 have new:∀ k,(Value.slice A2 ((ps.getD j gE0).2.length+1) c2).ownBlock=some k→(ps.getD j gE0).1.ownBlock=some k∨w.heap.size≤k:=fun k hk=>by
  rcases hob with q | q
  ·exact .inl (by rw [e1,← q];exact hk)
  ·rw [hk] at q
   have:=Option.some.inj q
   exact .inr (by simp at this;omega)
 have gs:∀ i,(ps.set j (.slice A2 ((ps.getD j gE0).2.length+1) c2,(ps.getD j gE0).2++[d])).getD i gE0=if i=j then (.slice A2 ((ps.getD j gE0).2.length+1) c2,(ps.getD j gE0).2++[d]) else ps.getD i gE0:=fun i=>getD_setR _ _ _ _ _ hj
 have ilt:∀ i,i < ps.length→∀ k,(ps.getD i gE0).1.ownBlock=some k→k < w.heap.size:=fun i hi k hk=>((h.inn i hi).2.lt k hk).2
 refine ⟨A1,cj,A2,c2,w2,e1,hrun,hcell,hfz,⟨?_,fun i hi=>?_,fun i k hi hk hik q hq=>?_⟩,?_⟩
 ·rw [List.length_set]
  have:=(ow2.stored j (.slice A2 ((ps.getD j gE0).2.length+1) c2)).1
  rw [gcs_set ps j _ ((ps.getD j gE0).2++[d])] at this
  exact this
 ·rw [List.length_set] at hi
  rw [gs]
  by_cases e:i=j
  ·rw [if_pos e]
   refine ⟨⟨A2,c2,by simp⟩,?_⟩
   have hl:((ps.getD j gE0).2++[d]).length=(ps.getD j gE0).2.length+1:=by simp
   show World.ownsRow _ _ _ _ _ _ _
   rw [hl,ofN_snocR]
   exact own_mod hnew MX fun k hk q=>own_own_neG hnew ow2 (by decide) hk (by rw [q];simp [Value.ownBlock])
  ·rw [if_neg e]
   have oi:=(h1.inn i hi).2
   have oi2:=own_mod oi MG fun k hk q=>h.dj i j hi hj e k hk (by rw [e1];exact q.symm)
   exact ⟨(h.inn i hi).1,own_mod oi2 MX fun k hk q=>own_own_neG oi2 ow2 (by decide) hk (by rw [q];simp [Value.ownBlock])⟩
 ·rw [List.length_set] at hi hk
  rw [gs] at hq ⊢
  by_cases e1':i=j
  ·rw [if_pos e1'] at hq
   rw [if_neg (fun c=>hik (e1'.trans c.symm))]
   rcases new q hq with n1 | n1
   ·exact h.dj j k hj hk (fun c=>hik (e1'.trans c)) q n1
   ·intro c;have:=ilt k hk q c;omega
  ·rw [if_neg e1'] at hq
   by_cases e2':k=j
   ·rw [if_pos e2']
    intro c
    rcases new q c with n1 | n1
    ·exact h.dj i j hi hj e1' q hq n1
    ·have:=ilt i hi q hq;omega
   ·rw [if_neg e2'];exact h.dj i k hi hk hik q hq
 ·refine ⟨?_,Mod.setCell (p:=⟨g,j,none⟩) ((Mod.none_ hal (fun q=>q=g∨some q=(ps.getD j gE0).1.ownBlock)).trans MG fun q _ hq=>.inr (by rw [e1];exact hq)) (fun _=>.inl rfl) _,new⟩
  have b1:Below base w (w.alloc (.cells #[.int .i64 (d:Int)] 3)):=(Below.refl _ _).alloc hbase _
  exact (b1.trans (Below.appended oj1 hgr (by simp;omega))).setCell (p:=⟨g,j,none⟩) hgw.1 _
end
end Go.Proofs.YtijbdnhlpbcabaaGreatDoor
