/- TuranWords: any word is a map's, or is refused as the document says; the map is planar, of one part, its own canonical one, and has just that word. -/
import Derived.Test.YtijbdnhlpbcabaaGreatDoorZg36
import Derived.Deep.RegionHeld3
open Go.RowKit
set_option linter.unusedVariables false
set_option linter.unusedSimpArgs false
namespace Go.Proofs.YtijbdnhlpbcabaaGreatDoor
set_option maxRecDepth 100000
def RowW (w wx:World) (v:Value):Prop:=∃ (ks:List Nat) (A:Option Addr) (m c:Nat),v=.slice A m c∧ks.length=m∧m≤60∧Kds ks∧wx.ownsRow w.heap.size 3 1 (.slice A m c) m (I64 (ofN ks))∧Below w.heap.size w wx
set_option maxHeartbeats 16000000 in
theorem turanWords_walk (L0 A0:Option Addr) (nl cl pr m c:Nat) (some_:Bool) (zs:List Int) (by_:List Int) (w:World) (hT:MTabs w) (hz:Rd w w.heap.size L0 nl (I64 zs)) (hnl:nl≤cl) (hcl:cl≤maxLen) (h0:Rd w w.heap.size A0 m (Z8 by_)) (hb0:∀ x∈by_,0≤x∧x < 256) (hmc:m≤c) (hcm:c≤maxLen) (hpr:pr < 65536) :
  Calls Tryz.prog 4 #[.slice L0 nl cl,.int .u16 (pr:Int),.slice A0 m c,.bool some_] w fun e w'=>e=.returned (.bool true)∧Below w.heap.size w w':=by
 unfold maxLen at hcm hcl
 have hzl:zs.length=nl:=by rw [← I64_len,hz.len]
 have AW:=Lib.hid (tawake_p w hT)
 have HT:=Lib.hid hT
 have H0:=Lib.hid h0
 have HB0:=Lib.hid hb0
 have HZ:=Lib.hid hz
 have HZL:=Lib.hid hzl
 obtain ⟨k,hk⟩:∃ k,k=pr%30:=⟨_,rfl⟩
 have hk4:k < 30:=by omega
 have hk1:(pr:Int)%30=(k:Int):=by omega
 have hk2:(pr:Int).tmod 30=(k:Int):=by rw [Int.tmod_eq_emod_of_nonneg (by omega)];exact hk1
 have wk:IntKind.u16.wrap (k:Int)=(k:Int):=by simp [IntKind.wrap,IntKind.signed,IntKind.bits];omega
 have wk2:IntKind.i64.wrap (k:Int)=(k:Int):=by simp [IntKind.wrap,IntKind.signed,IntKind.bits];omega
 clear hk hT h0 hb0 hz hzl
 go_enter Tryz.func4,Tryz.ntmps4
 go_wp2_with fail
 refine AW.out.mono ?_
 rintro e w1 ⟨rfl,b1⟩
 have B1:=Lib.hid b1
 have HR1:=Lib.hid (HZ.out.more b1)
 clear b1 AW
 go_wp2_with fail
 go_loopw [9,10,11,25] (fun v9 i10 k11 idx wr=>∃ (i:Nat) (A:Option Addr) (c m:Nat),i≤nl∧idx=.int .i64 (i:Int)∧v9=.slice A m c∧m≤30∧Hid (m=(klT zs i).length)∧Hid (wr.ownsRow w1.heap.size 3 1 (.slice A m c) m (I64 (ofN (klT zs i))))∧Hid (Below w1.heap.size w1 wr)) (fun _ _ _ i _=>nl - (intOf i).toNat)
 case atStart=>exact ⟨0,none,0,0,by omega,rfl,rfl,by omega,rfl,World.ownsRow_nil _ _ _ _,Below.refl _ _⟩
 case round =>
  obtain ⟨i,A,cA,mA,hi,rfl,rfl,hmA,HM,HO,HB⟩:=hrel
  by_cases hlt:i < nl
  ·have hdk:decide (i < nl)=true:=decide_eq_true hlt
   have hlti:(i:Int) < (nl:Int):=by omega
   obtain ⟨ba,oa,rfl,hba,hca⟩:=HR1.out.at_ (by omega)
   obtain ⟨z,hz⟩:∃ z,z=zs.getD i 0:=⟨_,rfl⟩
   have cZ:wr.cell? ⟨ba,oa+i,none⟩=some (.int .i64 z):=by
    have c0:=(HB.out.cell (p:=⟨ba,oa+i,none⟩) hba).trans (hca i (by rw [I64_len,HZL.out];exact hlt))
    rw [c0,hz];simp [I64,List.getD_eq_getElem?_getD,List.getElem?_eq_getElem (show i < zs.length by rw [HZL.out];exact hlt)]
   have wi:IntKind.i64.wrap ((i:Int)+1)=(i:Int)+1:=by simp [IntKind.wrap,IntKind.signed,IntKind.bits];omega
   by_cases h30:i < 30
   ·have d30:decide (i < 30)=true:=decide_eq_true h30
    have d30I:(i:Int) < 30:=by omega
    have hkl:klT zs (i+1)=klT zs i++[k4 z]:=by show (if i < 30 then _ else _)=_;rw [if_pos h30,hz]
    obtain ⟨x,hx⟩:∃ x,x=k4 z:=⟨_,rfl⟩
    obtain ⟨u,hu⟩:∃ u,u=IntKind.u64.wrap z:=⟨_,rfl⟩
    have hu0:u=z%18446744073709551616:=by rw [hu];simp [IntKind.wrap,IntKind.signed,IntKind.bits]
    have hx4:x < 4:=by rw [hx];exact k4_lt z
    have hu1:u%4=(x:Int):=by rw [hx,hu0];unfold k4;omega
    have hu2:u.tmod 4=(x:Int):=by rw [Int.tmod_eq_emod_of_nonneg (by omega)];exact hu1
    have wx1:IntKind.u64.wrap (x:Int)=(x:Int):=by simp [IntKind.wrap,IntKind.signed,IntKind.bits];omega
    have wx2:IntKind.i64.wrap (x:Int)=(x:Int):=by simp [IntKind.wrap,IntKind.signed,IntKind.bits];omega
    rw [← hx] at hkl
    have al:=(Below.refl wr.heap.size wr).alloc (Nat.le_refl _) (.cells #[.int .i64 (x:Int)] 3)
    have r1:Rd (wr.alloc (.cells #[.int .i64 (x:Int)] 3)) (wr.heap.size+1) (some ⟨wr.heap.size,0,none⟩) 1 (I64 (ofN [x])):=Rd.new wr 3 #[.int .i64 (x:Int)] 1 (I64 (ofN [x])) rfl rfl
    obtain ⟨A2,c2,w2,hrun,ho2,b2⟩:=app_row w1.heap.size (wr.alloc (.cells #[.int .i64 (x:Int)] 3)) (klT zs i) [x] A mA cA HM.out.symm (own_below HO.out al) _ (some ⟨wr.heap.size,0,none⟩) 1 1 rfl r1 (by omega) (Nat.le_trans HB.out.size al.size)
    rw [← hkl] at ho2
    have HO2:=Lib.hid ho2
    have HM2:Hid (mA+1=(klT zs (i+1)).length):=by show _=_;rw [hkl,List.length_append,← HM.out];rfl
    have HB2:Hid (Below w1.heap.size w1 w2):=(HB.out.trans (al.mono HB.out.size)).trans b2
    have hm1:mA+1≤30:=by have:=(klT_len zs (i+1)).1;have:=HM2.out;omega
    subst hu
    clear hu0 hx hkl al r1 ho2 b2 HM HO HB hz hca
    go_wp2_with (first
     | (at_builtin;go_must (refine wpList_append_runR rfl _ _ _ rfl _ _ _ _ rfl rfl hrun ?_)))
    go_roundw
    case rel=>exact ⟨i+1,A2,c2,mA+1,by omega,by go_num,rfl,hm1,HM2,HO2,HB2⟩
    case measure=>simp [intOf];omega
   ·have d30:decide (i < 30)=false:=decide_eq_false h30
    have d30I:¬ (i:Int) < 30:=by omega
    have hkl:klT zs (i+1)=klT zs i:=by show (if i < 30 then _ else _)=_;rw [if_neg h30]
    have HM2:Hid (mA=(klT zs (i+1)).length):=by show _=_;rw [hkl];exact HM.out
    have HO2:Hid (wr.ownsRow w1.heap.size 3 1 (.slice A mA cA) mA (I64 (ofN (klT zs (i+1))))):=by show World.ownsRow _ _ _ _ _ _ _;rw [hkl];exact HO.out
    clear hkl hz hca HM HO
    go_wp2_with fail
    go_roundw
    case rel=>exact ⟨i+1,A,cA,mA,by omega,by go_num,rfl,hmA,HM2,HO2,HB⟩
    case measure=>simp [intOf];omega
  ·obtain rfl:i=nl:=by omega
   have hdk:decide (i < i)=false:=by simp
   have ZR:Hid (Below w.heap.size w wr):=B1.out.trans (HB.out.mono B1.out.size)
   have HP:Hid (RowW w wr (.slice A mA cA)):=⟨klT zs i,A,mA,cA,rfl,HM.out.symm,by omega,klT_kd zs i,HO.out.base_le' B1.out.size,ZR.out⟩
   have AN:Hid (Calls Tryz.prog 25 #[.int .i64 (k:Int),.slice A0 m c] wr (Any4P wr (2*k))):=by
    obtain ⟨hz8,hb8⟩:=z8_u8 HB0.out
    have h:=H0.out
    rw [hz8] at h
    exact any4_p A0 m c k _ wr ((h.below ZR.out).up ZR.out.size) hb8 (by omega) (by omega)
   clear HM HO HB HZ HR1 HZL
   go_upto_if 40 with fail
   go_cut [9] from 40 to 45 (fun v9 wx=>Hid (RowW w wx v9))
   case first =>
    cases some_ with
    | false =>
      go_wp2_with fail
      go_meet
      exact HP
    | true =>
      clear HP
      go_wp2_with fail
      refine AN.out.mono ?_
      rintro e wa ⟨ks,Aa,ca,hs,rfl,hca,hma,hoa,bba⟩
      have HQ:Hid (RowW w wa (.slice Aa (2*k) ca)):=⟨ks,Aa,2*k,ca,rfl,hs.len,by omega,hs.kd,hoa.base_le' ZR.out.size,ZR.out.trans (bba.mono ZR.out.size)⟩
      clear hs hca hma hoa bba
      go_wp2_with fail
      go_meet
      exact HQ
   case rest =>
    clear AN HP ZR
    obtain ⟨ks,A9,m9,c9,rfl,hkl,hm9,hkd,ho9,bw⟩:=hcut.out
    have HK:=Lib.hid (And.intro hkd hkl)
    have BW:=Lib.hid bw
    have RK:Hid (∀ W,Below wc.heap.size wc W→Rd W W.heap.size A9 m9 (I64 (ofN ks))):=fun W z=>Rd.ofOwn (own_below ho9 z)
    have OF:=Lib.hid (ofw_p A9 m9 c9 ks wc (RK.out wc (Below.refl _ _)) hkd (own_int ho9) (by omega))
    clear hcut hkd ho9 bw hkl
    go_wp2_with fail
    refine OF.out.mono ?_
    rintro e w2 ⟨gw,rfl,hw2,b2⟩
    have B2:=Lib.hid b2
    have HW2:=Lib.hid hw2
    have MTB:Hid (∀ W,Below wc.heap.size wc W→MTabs W):=fun W z=>HT.out.below (BW.out.trans (z.mono BW.out.size))
    have TL:Hid (∀ W,Below w2.heap.size w2 W→Tells W (some ⟨gw,0,none⟩) ks):=fun W z=>tells_word _ gw ks W (HW2.out.below z) (by have:=HK.out.2;omega)
    have DC:=Lib.hid (tdecode_p (some ⟨gw,0,none⟩) ks w2 HK.out.1 (MTB.out w2 b2) (TL.out w2 (Below.refl _ _)) m9 HK.out.2 (by omega))
    clear b2 hw2 OF
    go_wp2_with fail
    refine DC.out.mono ?_
    rintro e w3 h3
    have key:∃ (E:Int) (pv:Option Addr),e=.returned (.tuple #[.pointer pv,.int .i64 E])∧Hid (ErrW ks E)∧Below w2.heap.size w2 w3∧((E≠0∧pv=none)∨(E=0∧∃ tw l b g,pv=some ⟨g,0,none⟩∧Hid (Wd ks tw∧RightW ks tw∧TurnW ks tw l∧Inv l b)∧Hid (MapAt w3 g l b (rootW ks.length) (loneW ks.length)))):=by
     rcases h3 with ⟨tw,l,b,W,R,T,hi,g,rfl,hm,hb,_⟩ | ⟨E,q,hE,rfl,hb⟩
     ·exact ⟨0,_,rfl,.inl ⟨rfl,tw,W,R⟩,hb,.inr ⟨rfl,tw,l,b,g,rfl,⟨W,R,T,hi⟩,hm⟩⟩
     ·exact ⟨E,_,rfl,hE,hb,.inl ⟨q,rfl⟩⟩
    obtain ⟨E,pv,rfl,HE,b3,hpv⟩:=key
    have HPV:=Lib.hid hpv
    have B3:=Lib.hid (B2.out.trans (b3.mono B2.out.size))
    have B23:=Lib.hid b3
    have RC:=Lib.hid (rcheck_p A9 m9 c9 ks w3 (RK.out w3 B3.out) HK.out.1 (by omega))
    have hE3:E=0∨E=9∨E=10:=by rcases HE.out with ⟨h,_⟩ | ⟨h,_⟩ | ⟨h,_⟩ <;> omega
    clear h3 hpv b3 DC
    go_wp2_with fail
    refine RC.out.mono ?_
    rintro e w4 ⟨E',hE',rfl,b4⟩
    obtain rfl:=HE.out.uniq hE'
    have B4:=Lib.hid (B3.out.trans (b4.mono B3.out.size))
    have B24:=Lib.hid (B23.out.trans (b4.mono B23.out.size))
    have B34:=Lib.hid b4
    have CK:=Lib.hid ((tcheck_p (some ⟨gw,0,none⟩) ks w4 HK.out.1 (MTB.out w4 B4.out) (TL.out w4 B24.out) m9 HK.out.2 (by omega)).mono fun e w' h=>(show e=.returned (.int .i64 E)∧Below w4.heap.size w4 w' from by obtain ⟨E2,h1,h2,h3⟩:=h;exact ⟨by rw [h2,h1.uniq HE.out],h3⟩))
    clear hE' b4 RC
    go_wp2_with fail
    refine CK.out.mono ?_
    rintro e w5 ⟨rfl,b5⟩
    have B5:=Lib.hid (B4.out.trans (b5.mono B4.out.size))
    have B25:=Lib.hid (B24.out.trans (b5.mono B24.out.size))
    have B35:=Lib.hid (B34.out.trans (b5.mono B34.out.size))
    clear b5 CK
    by_cases h0:E=0
    ·obtain ⟨tw,l,b,g,rfl,HL,HMP⟩:∃ tw l b g,pv=some ⟨g,0,none⟩∧Hid (Wd ks tw∧RightW ks tw∧TurnW ks tw l∧Inv l b)∧Hid (MapAt w3 g l b (rootW ks.length) (loneW ks.length)):=by
      rcases HPV.out with ⟨q,_⟩ | ⟨_,q⟩
      ·exact absurd h0 q
      ·exact q
     subst h0
     have hle:ks.length=m9:=HK.out.2
     have R5:=RK.out w5 B5.out
     obtain ⟨hW,hR,hTW,hI⟩:=HL.out
     have HMP5:=Lib.hid (HMP.out.below B35.out)
     have HE0:=Lib.hid (hTW.err hW hI (lone:=if ks.length=0 then 1 else 0) rfl)
     have HEV:Hid (l.length%2=0):=by show _=_;have:=opN_half hW.P;have:=hTW.1;omega
     have HRT:Hid (RootOk (rootW ks.length) l.length):=by
      show RootOk _ _
      rw [hTW.1];unfold rootW RootOk
      by_cases c:ks.length=0
      ·rw [if_pos c];exact .inl ⟨c,rfl⟩
      ·rw [if_neg c];exact .inr ⟨by omega,by omega,by omega⟩
     have HLN:Hid (loneW ks.length=((if ks.length=0 then 1 else 0:Nat):Int)):=by
      show _=_;unfold loneW;by_cases c:ks.length=0
      ·rw [if_pos c,if_pos c];rfl
      ·rw [if_neg c,if_neg c];rfl
     have HWO:=Lib.hid (word_own hTW hW hR hI)
     obtain ⟨P,Q,hC⟩:=canO_is hI HEV.out HRT.out
     have HCI:Hid (rootW ks.length=reRoot P (rootW ks.length)∧l=cjL P Q l):=by
      rcases hC with ⟨c0,cr,rfl,rfl⟩ | ⟨r,hr,hrl,hA⟩
      ·have e:l=[]:=List.eq_nil_of_length_eq_zero c0
       rw [cr,e]
       exact ⟨rfl,rfl⟩
      ·have n0:0 < ks.length:=by have:=hTW.1;omega
       have r0:r=0:=by unfold rootW at hr;rw [if_neg (by omega)] at hr;omega
       subst r0
       obtain ⟨pa,p1,pg,_⟩:=hTW.plane hW hI n0
       have CN:=hA.one hI hrl pa
       refine ⟨?_,(can_own hTW hW hR hI n0 CN).symm⟩
       have:rootW ks.length=((0:Nat):Int):=hr
       rw [this,reRoot_nat,CN.root hI hrl]
     have HC:=Lib.hid hC
     obtain ⟨rt,hrt⟩:∃ x,x=rootW ks.length:=⟨_,rfl⟩
     obtain ⟨ln,hln⟩:∃ x,x=loneW ks.length:=⟨_,rfl⟩
     have RD:Hid (Calls Tryz.prog 30 #[.slice A9 m9 c9] w5 fun e w'=>∃ A10 c10,e=.returned (.agg #[.slice A10 m9 c10,.int .i64 rt,.int .i64 ln])∧Hid (m9≤c10∧c10≤maxLen∧Rd w' w'.heap.size A10 m9 (I64 (ofN l)))∧Below w5.heap.size w5 w'):=by
      by_cases c:m9=0
      ·subst c
       have e0:ks.length=0:=hle
       have el:l=[]:=List.eq_nil_of_length_eq_zero (by rw [hTW.1,e0])
       refine (rdecode_nil A9 c9 w5).mono ?_
       rintro e w' ⟨rfl,bb⟩
       refine ⟨none,0,by rw [hrt,hln];unfold rootW loneW;rw [if_pos e0,if_pos e0],⟨Nat.le_refl _,by simp [maxLen],by rw [el];exact Rd.nil _ _ _⟩,bb⟩
      ·refine (rdecode_p A9 m9 c9 ks w5 R5 hW.P.kd (by omega) (by omega) (hW.bal 0) (hW.bal 1)).mono ?_
       rintro e w' ⟨tw',l',b',W',T',_,hl',A10,c10,rfl,h1,h2,h3,bb⟩
       have el:l'=l:=T'.uniq hTW W' hW
       subst el
       rw [hl'] at h1 h3 ⊢
       refine ⟨A10,c10,by rw [hrt,hln];unfold rootW loneW;rw [if_neg (by omega),if_neg (by omega)],⟨h1,h2,Rd.ofOwn h3⟩,bb⟩
     clear hE3 HPV hW hR hTW hI hC R5
     have HRD:=Lib.hid (And.intro hrt hln)
     clear hrt hln
     go_wp2_with fail
     refine RD.out.mono ?_
     rintro e w6 ⟨A10,c10,rfl,H10,b6⟩
     have al6:=(Below.refl w6.heap.size w6).alloc (Nat.le_refl _) (.cells #[.slice A10 m9 c10,.int .i64 rt,.int .i64 ln] 27)
     have hBX:=Blk.new w6 27 #[.slice A10 m9 c10,.int .i64 rt,.int .i64 ln]
     obtain ⟨w7,hw7⟩:∃ w7,w7=w6.alloc (.cells #[.slice A10 m9 c10,.int .i64 rt,.int .i64 ln] 27):=⟨_,rfl⟩
     rw [← hw7] at al6 hBX
     obtain ⟨gx,hgx⟩:∃ gx,gx=w6.heap.size:=⟨_,rfl⟩
     rw [← hgx] at hBX
     have b57:Below w5.heap.size w5 w7:=b6.trans (al6.mono b6.size)
     have B7:=Lib.hid (B5.out.trans (b57.mono B5.out.size))
     have B27:=Lib.hid (B25.out.trans (b57.mono B25.out.size))
     have HMP7:=Lib.hid (HMP5.out.below b57)
     have HBX:=Lib.hid hBX
     have R10:=Lib.hid (Rd.below H10.out.2.2 al6)
     have HS67:Hid (w6.heap.size≤w7.heap.size):=al6.size
     have HMR:Hid (MapAt w7 g l b rt ((if ks.length=0 then 1 else 0:Nat):Int)):=by
      show MapAt _ _ _ _ _ _
      rw [← HLN.out,HRD.out.1];exact HMP7.out
     have EN:=Lib.hid (tenc_p g l b rt _ 0 w7 HMR.out HL.out.2.2.2 (by rw [HRD.out.1];exact HRT.out) HE0.out)
     clear al6 hBX b57 b6 RD
     go_upto_region 21 with fail
     rw [← hw7,← hgx]
     clear hw7 hgx
     go_wp2_with fail
     refine EN.out.mono ?_
     rintro e w8 (⟨q,_⟩ | ⟨_,gu,rfl,hu,b8⟩)
     ·exact absurd rfl q
     have hwo:=HWO.out
     rw [← HRD.out.1] at hwo
     rw [hwo] at hu
     have B8:=Lib.hid (B7.out.trans (b8.mono B7.out.size))
     have HU:=Lib.hid hu
     have HG8:=Lib.hid (HMR.out.below b8)
     have HW8:=Lib.hid (HW2.out.below (B27.out.trans (b8.mono B27.out.size)))
     have HB8:=Lib.hid (HBX.out.below b8)
     have R108:=Lib.hid (R10.out.below (b8.mono HS67.out))
     have HS68:Hid (w6.heap.size≤w8.heap.size):=Nat.le_trans HS67.out b8.size
     obtain ⟨T,hTt⟩:∃ T,T=textM ks:=⟨_,rfl⟩
     have hk400:ks.length≤400000:=by have:=HK.out.2;omega
     have K1:Hid (∀ W,Below w8.heap.size w8 W→Calls Tryz.prog 32 #[.pointer (some ⟨g,0,none⟩)] W fun e w'=>∃ A9 c9,e=.returned (.slice A9 m9 c9)∧Rd w' w'.heap.size A9 m9 (I64 (ofN l))∧Below w8.heap.size w8 w'):=fun W z=>by
      have hl9:(ofN l).length=m9:=by rw [ofN_len,HL.out.2.2.1.1,HK.out.2]
      refine (mlist_p g l b rt _ W (HG8.out.below z)).mono ?_
      rintro e w' ⟨A,c,rfl,_,_,ho,bb⟩
      rw [hl9] at ho ⊢
      exact ⟨A,c,rfl,Rd.ofOwn ho,z.trans (bb.mono z.size)⟩
     have K2:Hid (∀ A9 c9 W,Rd W W.heap.size A9 m9 (I64 (ofN l))→Below w8.heap.size w8 W→Calls Tryz.prog 31 #[.slice A9 m9 c9,.slice A10 m9 c10] W fun e w'=>e=.returned (.bool true)∧Below w8.heap.size w8 w'):=fun A9 c9 W r z=>by
      have:=equalI_any A9 A10 m9 c9 m9 c10 _ _ _ _ W r (R108.out.below (z.mono HS68.out)) (by omega) (by omega)
      rw [decide_eq_true rfl] at this
      exact this.mono fun e w' ⟨h1,k,h2⟩=>⟨h1,by rw [h2];exact below_draws z k⟩
     have K3:Hid (∀ W,Below w8.heap.size w8 W→Calls Tryz.prog 33 #[.pointer (some ⟨g,0,none⟩)] W fun e w'=>e=.returned (.int .i64 rt)∧Below w8.heap.size w8 w'):=fun W z =>
      (root_p g l b rt _ W (HG8.out.below z)).mono fun e w' ⟨h1,h2⟩=>⟨h1,by rw [← h2];exact z⟩
     have K4:Hid (∀ W,Below w8.heap.size w8 W→Calls Tryz.prog 34 #[.pointer (some ⟨g,0,none⟩)] W fun e w'=>e=.returned (.int .i64 ln)∧Below w8.heap.size w8 w'):=fun W z =>
      (lone_p g l b rt _ W (HG8.out.below z)).mono fun e w' ⟨h1,h2⟩=>⟨by rw [h1,HRD.out.2,HLN.out],by rw [← h2];exact z⟩
     have hEz:pN l+(if ks.length=0 then 1 else 0)=1∧genusN l=0:=by have:=HE0.out;unfold ErrM at this;omega
     have K5:Hid (∀ W,Below w8.heap.size w8 W→Calls Tryz.prog 35 #[.pointer (some ⟨g,0,none⟩)] W fun e w'=>e=.returned (.bool true)∧Below w8.heap.size w8 w'):=fun W z =>
      (planar_p g l b rt _ W (HG8.out.below z)).mono fun e w' ⟨h1,h2⟩=>⟨by rw [h1,decide_eq_true hEz.2],z.trans (h2.mono z.size)⟩
     have K6:Hid (∀ W,Below w8.heap.size w8 W→Calls Tryz.prog 36 #[.pointer (some ⟨g,0,none⟩)] W fun e w'=>e=.returned (.bool true)∧Below w8.heap.size w8 w'):=fun W z =>
      (connected_p g l b rt _ W (HG8.out.below z)).mono fun e w' ⟨h1,h2⟩=>⟨by rw [h1,decide_eq_true hEz.1],z.trans (h2.mono z.size)⟩
     have hcr:rt=reRoot P rt∧l=cjL P Q l:=by rw [HRD.out.1];exact HCI.out
     have hc':CanO l rt P Q:=by rw [HRD.out.1];exact HC.out
     have K7:Hid (∀ W,Below w8.heap.size w8 W→Calls Tryz.prog 37 #[.pointer (some ⟨g,0,none⟩)] W fun e w'=>e=.returned (.bool true)∧Below w8.heap.size w8 w'):=fun W z =>
      (cis_p g l b rt _ P Q W (HG8.out.below z) HL.out.2.2.2 hc').mono fun e w' ⟨h1,h2⟩=>⟨by rw [h1,decide_eq_true hcr],z.trans (h2.mono z.size)⟩
     have K8:Hid (∀ W,Below w8.heap.size w8 W→Calls Tryz.prog 18 #[.pointer (some ⟨gu,0,none⟩)] W fun e w'=>e=.returned (.string T)∧Below w8.heap.size w8 w'):=fun W z =>
      (mtext_p _ gu ks W (HU.out.below z) hk400).mono fun e w' ⟨h1,h2⟩=>⟨by rw [h1,hTt],z.trans (h2.mono z.size)⟩
     have K9:Hid (∀ W,Below w8.heap.size w8 W→Calls Tryz.prog 18 #[.pointer (some ⟨gw,0,none⟩)] W fun e w'=>e=.returned (.string T)∧Below w8.heap.size w8 w'):=fun W z =>
      (mtext_p _ gw ks W (HW8.out.below z) hk400).mono fun e w' ⟨h1,h2⟩=>⟨by rw [h1,hTt],z.trans (h2.mono z.size)⟩
     have hmn:∀ W,(Builtin.min_ #[3,3] 3 #[.int .i64 0,.int .i64 ((m9:Int) - 1)]).run Tryz.prog W=.ok (.int .i64 rt) W:=fun W=>by
      have e:rt=if m9=0 then -1 else 0:=by rw [HRD.out.1,HK.out.2];rfl
      rw [e]
      simp [Builtin.min_,Builtin.min2]
      by_cases c:m9=0
      ·rw [if_pos c,c];decide
      ·rw [if_neg c];omega
     have wm1:IntKind.i64.wrap ((m9:Int) - 1)=(m9:Int) - 1:=by simp [IntKind.wrap,IntKind.signed,IntKind.bits];omega
     have SK:Hid (∀ w',Below w8.heap.size w8 w'→Below w8.heap.size w8 w'∧w'.cell? ⟨gx,0,none⟩=some (.slice A10 m9 c10)∧w'.cell? ⟨gx,2,none⟩=some (.int .i64 ln)):=fun w' z=>by
      have hb:=HB8.out.below z
      have a:=hb.cell 0
      have c:=hb.cell 2
      simp at a c
      exact ⟨z,a,c⟩
     have FIN:=Lib.hid (fun wz (z:Below w8.heap.size w8 wz)=>BW.out.trans ((B8.out.trans (z.mono B8.out.size)).mono BW.out.size))
     clear hu b8 hwo hTt hEz hcr hc' EN hk400 hle
     have zd:=(Below.refl w8.heap.size w8).drew
     go_wp2_with fail
     go_region_held3 (fun w'=>Below w8.heap.size w8 w'∧w'.cell? ⟨gx,0,none⟩=some (.slice A10 m9 c10)∧w'.cell? ⟨gx,2,none⟩=some (.int .i64 ln))
      (exact SK.out _ (by assumption))
      (first
      | (go_at_call 32;(with_reducible refine (K1.out _ (by assumption)).mono ?_);rintro e wa ⟨A11,c11,rfl,r11,hba⟩)
      | (go_at_call 31;(with_reducible refine (K2.out _ _ _ r11 (by assumption)).mono ?_);rintro e wa ⟨rfl,hba⟩;clear r11)
      | (go_at_call 33;(with_reducible refine (K3.out _ (by assumption)).mono ?_);rintro e wa ⟨rfl,hba⟩)
      | (go_at_call 34;(with_reducible refine (K4.out _ (by assumption)).mono ?_);rintro e wa ⟨rfl,hba⟩)
      | (go_at_call 35;(with_reducible refine (K5.out _ (by assumption)).mono ?_);rintro e wa ⟨rfl,hba⟩)
      | (go_at_call 36;(with_reducible refine (K6.out _ (by assumption)).mono ?_);rintro e wa ⟨rfl,hba⟩)
      | (go_at_call 37;(with_reducible refine (K7.out _ (by assumption)).mono ?_);rintro e wa ⟨rfl,hba⟩)
      | (go_at_call 18;(with_reducible refine (K8.out _ (by assumption)).mono ?_);rintro e wa ⟨rfl,hba⟩)
      | (go_at_call 18;(with_reducible refine (K9.out _ (by assumption)).mono ?_);rintro e wa ⟨rfl,hba⟩))
     all_goals (go_wp2_with fail)
     all_goals (go_ret)
     all_goals (exact ⟨by first | rfl | simp,FIN.out _ (by assumption)⟩)
    ·obtain rfl:pv=none:=by
      rcases HPV.out with ⟨_,q⟩ | ⟨q,_⟩
      ·exact q
      ·exact absurd q h0
     have NM:=Lib.hid (tnamesP_p (some ⟨gw,0,none⟩) ks w5 HK.out.1 (MTB.out w5 B5.out) (TL.out w5 B25.out) m9 HK.out.2 (by omega))
     have e1:(E == 0)=false:=by simp;exact h0
     have e2:(E != 0)=true:=by simp;exact h0
     clear hE3 HPV
     go_wp2_with fail
     refine NM.out.mono ?_
     rintro e w6 (⟨tw,A6,c6,W6,R6,_⟩ | ⟨E6,q,hE6,rfl,b6⟩)
     ·exact absurd (HE.out.ok W6 R6) h0
     obtain rfl:=HE.out.uniq hE6
     have B6:=Lib.hid (B5.out.trans (b6.mono B5.out.size))
     clear hE6 b6 NM
     go_wp2_with fail
     go_ret
     exact ⟨rfl,BW.out.trans (B6.out.mono BW.out.size)⟩
end Go.Proofs.YtijbdnhlpbcabaaGreatDoor
