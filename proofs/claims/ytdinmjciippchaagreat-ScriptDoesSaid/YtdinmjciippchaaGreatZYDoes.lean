/- ScriptDoes: the walk. -/
import Derived.Test.YtdinmjciippchaaGreatZg33
import Derived.Test.YtdinmjciippchaaGreatZg34
import Derived.Test.YtdinmjciippchaaGreatZg36
import Derived.Test.YtdinmjciippchaaGreatZg1
import Derived.Deep.RegionHeld3
open Go.RowKit
set_option linter.unusedVariables false
set_option linter.unusedSimpArgs false
namespace Go.Proofs.YtdinmjciippchaaGreat
set_option maxRecDepth 100000
theorem actL_len {k root d e:Int} {l b:List Nat} (hi:Inv l b) (hev:l.length%2=0) (hn:l.length≤1000) (h0:actE k l d e=0):(actL k l b root d e).length≤3000:=by
 unfold actL
 split
 ·next c =>
  have hg:growE k.toNat l d e=0:=by unfold actE at h0;rw [if_pos c] at h0;exact h0
  have:=(growO_inv hi hev (k:=k.toNat) (by omega) hg).2.1
  omega
 ·split
  ·rw [phiL_len];omega
  ·split
   ·rw [hi.len];omega
   ·split
    ·have:=woTo_len l l (d.toNat / 2) l.length
     unfold woN;omega
    ·split
     ·have:=woTo_len l (phiL l) (d.toNat / 2) l.length
      unfold woN;omega
     ·split
      ·rw [cjL_len];omega
      ·omega
def BoxM (w0 w:World) (g:Nat) (A:Option Addr) (c:Nat) (l b:List Nat) (root:Int) (lone:Nat):Prop :=
 Blk w g 28 #[.slice A l.length c,.int .i64 root,.int .i64 (lone:Int)]∧Inv l b∧Rd w w.heap.size A l.length (I64 (ofN l))∧l.length≤c∧c≤maxLen∧l.length≤1000∧l.length%2=0∧RootOk root l.length∧lone≤1∧Below w0.heap.size w0 w
set_option maxHeartbeats 16000000 in
theorem scriptDoes_walk (A:Option Addr) (n m c r:Nat) (plane:Bool) (k d e:Int) (by_:List Int) (w:World) (h:Rd w w.heap.size A m (Z8 by_)) (hb:∀ x∈by_,0≤x∧x < 256) (hm:m≤c) (hm2:c≤maxLen) (hn:n < 256) (hr:r < 256) (hd:d < 2 ^ 63) :
  Calls Tryz.prog 3 #[.int .u8 (n:Int),.slice A m c,.int .u8 (r:Int),.bool plane,.agg #[.int .i64 k,.int .i64 d,.int .i64 e]] w fun e w'=>e=.returned (.bool true)∧Below w.heap.size w w':=by
 have hal:=(Below.refl w.heap.size w).alloc (Nat.le_refl _) (.cells #[.int .i64 k,.int .i64 d,.int .i64 e] 24)
 have HX:=Lib.hid (Blk.new w 24 #[.int .i64 k,.int .i64 d,.int .i64 e])
 have HAL:=Lib.hid hal
 have AW:=Lib.hid (fun W=>awake24_p W)
 obtain ⟨p9,hp9⟩:∃ p,p=n%9:=⟨_,rfl⟩
 obtain ⟨p12,hp12⟩:∃ p,p=n%12:=⟨_,rfl⟩
 have e9:(n:Int)%9=(p9:Int):=by omega
 have e12:(n:Int)%12=(p12:Int):=by omega
 have e9t:(n:Int).tmod 9=(p9:Int):=by rw [Int.tmod_eq_emod_of_nonneg (by omega)];exact e9
 have e12t:(n:Int).tmod 12=(p12:Int):=by rw [Int.tmod_eq_emod_of_nonneg (by omega)];exact e12
 have w9:IntKind.i64.wrap (p9:Int)=(p9:Int):=by simp [IntKind.wrap,IntKind.signed,IntKind.bits];omega
 have w12:IntKind.i64.wrap (p12:Int)=(p12:Int):=by simp [IntKind.wrap,IntKind.signed,IntKind.bits];omega
 have v9:IntKind.u8.wrap (p9:Int)=(p9:Int):=by simp [IntKind.wrap,IntKind.signed,IntKind.bits];omega
 have v12:IntKind.u8.wrap (p12:Int)=(p12:Int):=by simp [IntKind.wrap,IntKind.signed,IntKind.bits];omega
 have AN:Hid (∀ W,Below w.heap.size w W→Calls Tryz.prog 5 #[.int .i64 (p9:Int),.slice A m c,.int .u8 (r:Int)] W (XIs (KAny p9) W)):=fun W z =>
  rany_x A m c w.heap.size by_ p9 r W (h.below z) z.size hb (by omega) (by simp [maxLen] at hm2;omega) hr
 have PN:Hid (∀ W,Below w.heap.size w W→Calls Tryz.prog 6 #[.int .i64 (p12:Int),.slice A m c,.int .u8 (r:Int)] W (XIs (KPl p12) W)):=fun W z =>
  rplane_x A m c w.heap.size by_ p12 r W (h.below z) z.size hb (by omega) (by simp [maxLen] at hm2;omega) hr
 have HDD:=Lib.hid hd
 clear h hb hm hm2 hn hr hal hd hp9 hp12
 go_enter Tryz.func3,Tryz.ntmps3
 go_upto_region 1 with fail
 generalize w.alloc (.cells #[.int .i64 k,.int .i64 d,.int .i64 e] 24)=w1 at *
 go_wp2_with fail
 refine (AW.out w1).mono ?_
 rintro en w2 ⟨rfl,b2⟩
 have HX2:=Lib.hid (HX.out.below b2)
 have B2:=Lib.hid (HAL.out.trans (b2.mono HAL.out.size))
 clear b2 AW HX HAL
 go_upto_region 3 with fail
 go_wp2_with fail
 refine (AN.out _ B2.out).mono ?_
 rintro en w3 ⟨v,l,b,root,lone,rfl,hrm,hl,hev,hroot,hlo,hK,b3⟩
 obtain ⟨hinv,A2,c2,hla,rfl,hc2,hm2,r2⟩:=hrm
 have hal3:=(Below.refl w3.heap.size w3).alloc (Nat.le_refl _) (.cells #[.slice A2 l.length c2,.int .i64 root,.int .i64 (lone:Int)] 28)
 obtain ⟨gx,hgx⟩:∃ gx,gx=w3.heap.size:=⟨_,rfl⟩
 have hX:=Blk.new w3 28 #[.slice A2 l.length c2,.int .i64 root,.int .i64 (lone:Int)]
 rw [← hgx] at hX
 have BX0:Hid (BoxM w2 (w3.alloc (.cells #[.slice A2 l.length c2,.int .i64 root,.int .i64 (lone:Int)] 28)) gx A2 c2 l b root lone):=⟨hX,hinv,r2.more hal3,hc2,hm2,hl,hev,hroot,hlo,b3.trans (hal3.mono b3.size)⟩
 have HG:=Lib.hid hgx
 have hg2:w2.heap.size≤gx:=by rw [hgx];exact b3.size
 obtain ⟨N,hN⟩:∃ N,N=l.length:=⟨_,rfl⟩
 have HX3:=Lib.hid hX
 have B4:=Lib.hid (b3.trans (hal3.mono b3.size))
 rw [← hN] at HX3 B4 BX0 ⊢
 have HNN:=Lib.hid hN
 clear hX hinv hla r2 hc2 hm2 hl hev hroot hlo hK b3 hal3 hgx AN hN
 go_upto_if 26 with fail
 rw [← HG.out]
 generalize w3.alloc (.cells #[.slice A2 N c2,.int .i64 root,.int .i64 (lone:Int)] 28)=w4 at *
 go_cut [11] from 27 to 33 (fun pv wx=>∃ A2 c2 l b root lone,pv=.pointer (some ⟨gx,0,none⟩)∧Hid (BoxM w2 wx gx A2 c2 l b root lone))
 case first =>
  cases plane
  ·go_wp2_with fail
   go_meet
   exact ⟨A2,c2,l,b,root,lone,rfl,BX0⟩
  ·clear BX0
   go_wp2_with fail
   refine (PN.out _ (B2.out.trans (B4.out.mono B2.out.size))).mono ?_
   rintro en w5 ⟨v,l',b',root',lone',rfl,hrm,hl,hev,hroot,hlo,hK,b5⟩
   obtain ⟨hinv,A5,c5,hla,rfl,hc5,hm5,r5⟩:=hrm
   have HX5:=Lib.hid (HX3.out.below b5)
   have q0:=HX5.out.cell 0
   have q1:=HX5.out.cell 1
   have q2:=HX5.out.cell 2
   have f0:=HX5.out.frozen 0
   have f1:=HX5.out.frozen 1
   have f2:=HX5.out.frozen 2
   simp at q0 q1 q2
   have MM:=box_mod w5 gx (.slice A5 l'.length c5) (.int .i64 root') (.int .i64 (lone':Int))
   have hblk:Blk (((w5.setCell ⟨gx,0,none⟩ (.slice A5 l'.length c5)).setCell ⟨gx,1,none⟩ (.int .i64 root')).setCell ⟨gx,2,none⟩ (.int .i64 (lone':Int))) gx 28 #[.slice A5 l'.length c5,.int .i64 root',.int .i64 (lone':Int)]:=by
    have:=((HX5.out.set_ 0 (.slice A5 l'.length c5)).set_ 1 (.int .i64 root')).set_ 2 (.int .i64 (lone':Int))
    simpa using this
   have hg4:=HX3.out.lt
   have BX:Hid (BoxM w2 (((w5.setCell ⟨gx,0,none⟩ (.slice A5 l'.length c5)).setCell ⟨gx,1,none⟩ (.int .i64 root')).setCell ⟨gx,2,none⟩ (.int .i64 (lone':Int))) gx A5 c5 l' b' root' lone'):=by
    refine ⟨hblk,hinv,?_,hc5,hm5,hl,hev,hroot,hlo,(B4.out.trans (b5.mono B4.out.size)).trans (MM.belowB ?_ fun i hi q=>by omega)⟩
    ·exact (r5.mod MM (Nat.le_refl _) (fun h0 i hi hf=>by
      obtain ⟨a,e,rfl⟩:=hi
      have:=hla a e
      omega)).up MM.size
    ·have:=B4.out.size;have:=b5.size;omega
   clear hinv hla r5 hc5 hm5 hl hev hroot hlo hK b5 MM hblk HX3 HX5 PN
   go_wp2_with fail
   go_meet
   exact ⟨A5,c5,l',b',root',lone',rfl,BX⟩
 case rest =>
  clear BX0 HX3 HG HNN B4
  obtain ⟨A2,c2,l,b,root,lone,rfl,hBX⟩:=hcut
  obtain ⟨hX,hinv,hrd,hc2,hm2,hl,hev,hroot,hlo,hbel⟩:=hBX.out
  obtain ⟨w3,rfl⟩:∃ w3:World,w3=wc:=⟨_,rfl⟩
  have HX3:=Lib.hid hX
  have HR3:=Lib.hid hrd
  have HI:=Lib.hid (And.intro hinv (And.intro hev (And.intro hroot (And.intro hl (And.intro hc2 hm2)))))
  have XA:=Lib.hid (HX2.out.below hbel)
  have B3:=Lib.hid (B2.out.trans (hbel.mono B2.out.size))
  have NO:=Lib.hid (new_ok A2 l.length c2 l b root (lone:Int) w3 hrd hinv hev (by omega) hroot (by omega) (by omega))
  obtain ⟨N,hN⟩:∃ N,N=l.length:=⟨_,rfl⟩
  rw [← hN] at HX3 HR3 NO
  have HN:=Lib.hid hN
  have x0:=HX3.out.cell 0
  have x1:=HX3.out.cell 1
  have x2:=HX3.out.cell 2
  simp at x0 x1 x2
  clear hX hrd hinv hev hroot hl hc2 hm2 hbel hBX PN hN HX2
  go_upto_region 6 with fail
  go_wp2_with fail
  refine NO.out.mono ?_
  rintro en w4 ⟨g,rfl,hmap,b4,-⟩
  have HM4:=Lib.hid hmap
  have HX4:=Lib.hid (HX3.out.below b4)
  have XA4:=Lib.hid (XA.out.below b4)
  have HR4:=Lib.hid (HR3.out.more b4)
  have B4:=Lib.hid (B3.out.trans (b4.mono B3.out.size))
  clear hmap b4 NO HX3 XA HR3 x0 x1 x2 B3
  obtain ⟨X,hXx⟩:∃ X,X=actE k l d e:=⟨_,rfl⟩
  obtain ⟨o,ho⟩:∃ o,o=actL k l b root d e:=⟨_,rfl⟩
  obtain ⟨RT,hRT⟩:∃ RT,RT=actT k l b root d:=⟨_,rfl⟩
  obtain ⟨LN,hLN⟩:∃ LN,LN=actN k l (lone:Int) d:=⟨_,rfl⟩
  have CX:Hid (∀ W,Below w4.heap.size w4 W→W.cell? ⟨gx,0,none⟩=some (.slice A2 N c2)∧W.cell? ⟨gx,1,none⟩=some (.int .i64 root)∧W.cell? ⟨gx,2,none⟩=some (.int .i64 (lone:Int))):=fun W z=>⟨(HX4.out.below z).cell 0,(HX4.out.below z).cell 1,(HX4.out.below z).cell 2⟩
  have CA:Hid (∀ W,Below w4.heap.size w4 W→W.cell? ⟨w.heap.size,0,none⟩=some (.int .i64 k)∧W.cell? ⟨w.heap.size,1,none⟩=some (.int .i64 d)∧W.cell? ⟨w.heap.size,2,none⟩=some (.int .i64 e)):=fun W z=>⟨(XA4.out.below z).cell 0,(XA4.out.below z).cell 1,(XA4.out.below z).cell 2⟩
  have DO:Hid (Calls Tryz.prog 8 #[.pointer (some ⟨g,0,none⟩),.agg #[.int .i64 k,.int .i64 d,.int .i64 e]] w4 fun en w'=>∃ p,en=.returned (.tuple #[.pointer p,.int .i64 X])∧Below w4.heap.size w4 w'∧Hid ((X=0∧∃ g' b',p=some ⟨g',0,none⟩∧MapAt w' g' o b' RT LN)∨(X≠0∧p=none))):=by
   refine (sdo_a (e:=e) k HDD.out HM4.out HI.out.1 HI.out.2.2.1 (by have:=HI.out.2.2.2.1;omega) (by omega)).mono ?_
   rintro en w' ⟨p,x,rfl,q1,q2,q3⟩
   rw [← hXx] at q1
   subst q1
   rw [← ho,← hRT,← hLN] at q3
   refine ⟨p,rfl,q2,?_⟩
   rcases q3 with ⟨z0,g',b',z1,-,z2⟩ | z
   ·exact .inl ⟨z0,g',b',z1,z2⟩
   ·exact .inr z
  have RD:Hid (∀ W,Below w4.heap.size w4 W→Calls Tryz.prog 9 #[.agg #[.slice A2 N c2,.int .i64 root,.int .i64 (lone:Int)],.int .i64 k,.int .i64 d,.int .i64 e] W fun en w'=>∃ A n c rt ln,en=.returned (.tuple #[.agg #[.slice A n c,.int .i64 rt,.int .i64 ln],.int .i64 X])∧Below W.heap.size W w' ∧
    Hid (X=0→n=o.length∧n≤c∧c≤maxLen∧Rd w' w'.heap.size A n (I64 (ofN o))∧rt=RT∧ln=LN)):=fun W z=>by
   have hr:=(HR4.out.below z).up z.size
   have:=rdo24_a k d e A2 c2 l b root (lone:Int) W (by rw [← HN.out];exact hr) HI.out.1 HI.out.2.1 HI.out.2.2.2.1 HI.out.2.2.1 (by omega) (by omega) HI.out.2.2.2.2.1 HI.out.2.2.2.2.2
   rw [← HN.out] at this
   refine this.mono ?_
   rintro en w' ⟨A,n,c,rt,ln,rfl,q1,q2⟩
   rw [← hXx,← ho,← hRT,← hLN] at q2
   rw [← hXx]
   exact ⟨A,n,c,rt,ln,rfl,q1,q2⟩
  have ho3:Hid (X=0→o.length≤3000):=fun h0=>by
   rw [ho]
   exact actL_len HI.out.1 HI.out.2.1 HI.out.2.2.2.1 (hXx.symm.trans h0)
  clear hXx ho hRT hLN
  obtain ⟨a0,a1,a2⟩:=CA.out _ (Below.refl _ _)
  go_wp2_with fail
  refine DO.out.mono ?_
  rintro en w5 ⟨p,rfl,b5,HT⟩
  clear a0 a1 a2
  obtain ⟨a0,a1,a2⟩:=CA.out _ b5
  obtain ⟨x0,x1,x2⟩:=CX.out _ b5
  have RD5:=Lib.hid (RD.out _ b5)
  have Z5:=Lib.hid b5
  clear DO RD b5
  go_wp2_with fail
  refine RD5.out.mono ?_
  rintro en w6 ⟨A6,n6,c6,rt,ln,rfl,b6,HD⟩
  have Z6:=Lib.hid (Z5.out.trans (b6.mono Z5.out.size))
  have V6:=Lib.hid b6
  have hal6:=Lib.hid ((Below.refl w6.heap.size w6).alloc (Nat.le_refl _) (.cells #[.slice A6 n6 c6,.int .i64 rt,.int .i64 ln] 28))
  obtain ⟨gy,hgy⟩:∃ gy,gy=w6.heap.size:=⟨_,rfl⟩
  have HY:=Lib.hid (Blk.new w6 28 #[.slice A6 n6 c6,.int .i64 rt,.int .i64 ln])
  rw [← hgy] at HY
  have HGY:=Lib.hid hgy
  clear b6 RD5 x0 x1 x2 a0 a1 a2 hgy
  go_upto_region 9 with fail
  rw [← HGY.out]
  generalize hw7:w6.alloc (.cells #[.slice A6 n6 c6,.int .i64 rt,.int .i64 ln] 28)=w7 at *
  clear hw7
  have Z7:=Lib.hid (Z6.out.trans (hal6.out.mono Z6.out.size))
  have hz7:=Z7.out.size
  have hNb:N≤1000:=by rw [HN.out];exact HI.out.2.2.2.1
  have LP:Hid (∀ W,Below w7.heap.size w7 W→Calls Tryz.prog 11 #[.pointer (some ⟨g,0,none⟩)] W fun en w'=>∃ A9 c9,en=.returned (.slice A9 N c9)∧Hid (Rd w' w'.heap.size A9 N (I64 (ofN l)))∧Below w7.heap.size w7 w'):=fun W z=>by
   refine (mlist_p g l b root lone W (HM4.out.below (Z7.out.trans (z.mono hz7)))).mono ?_
   rintro en w' ⟨A9,c9,rfl,h1,h2,h3,h4⟩
   have hNl:=HN.out
   rw [ofN_len,← hNl] at h3 ⊢
   exact ⟨A9,c9,rfl,Rd.ofOwn h3,z.trans (h4.mono z.size)⟩
  have EP:Hid (∀ W A9 c9,Below w7.heap.size w7 W→Rd W W.heap.size A9 N (I64 (ofN l))→Calls Tryz.prog 10 #[.slice A9 N c9,.slice A2 N c2] W fun en w'=>en=.returned (.bool true)∧Below w7.heap.size w7 w'):=fun W A9 c9 z hA=>by
   have hr:=HR4.out.below (Z7.out.trans (z.mono hz7))
   have hNl:=HN.out
   refine (equalI_any A9 A2 N c9 N c2 _ _ (ofN l) (ofN l) W hA hr (by omega) (by omega)).mono ?_
   rintro en w' ⟨q1,q,q2⟩
   exact ⟨by rw [q1,decide_eq_true rfl],by rw [q2];exact below_draws z q⟩
  have KH:Hid (∀ W,Below w7.heap.size w7 W→Below w7.heap.size w7 W∧W.cell? ⟨gx,0,none⟩=some (.slice A2 N c2)):=fun W z=>⟨z,(CX.out W (Z7.out.trans (z.mono hz7))).1⟩
  have a0:=Below.refl w7.heap.size w7
  have a1:=a0.drew
  obtain ⟨-,y0⟩:=KH.out _ a0
  obtain ⟨-,v0⟩:=KH.out _ a1
  have xx:((X:Int) != X)=false:=by simp
  go_cut [70] from 60 to 71 (fun v wx=>v=.bool false∧Below w7.heap.size w7 wx)
  case first =>
   go_region_held3 (fun W=>Below w7.heap.size w7 W∧W.cell? ⟨gx,0,none⟩=some (.slice A2 N c2)) (exact KH.out _ (by assumption)) (first
    | (go_at_call 11;(with_reducible refine (LP.out _ (by assumption)).mono ?_);rintro en wl ⟨A9,c9,rfl,HA,hbl⟩)
    | (go_at_call 10;(with_reducible refine (EP.out _ _ _ (by assumption) HA.out).mono ?_);rintro en wq ⟨rfl,hbq⟩))
   all_goals (go_wp2_with fail)
   all_goals (go_meet)
   all_goals (exact ⟨rfl,by assumption⟩)
  case rest =>
   obtain ⟨rfl,bc⟩:=hcut
   have ZC:=Lib.hid (Z7.out.trans (bc.mono hz7))
   have HB:=Lib.hid (B4.out.trans (ZC.out.mono B4.out.size))
   have BC:=Lib.hid bc
   clear LP EP KH a0 a1 y0 v0 xx bc
   by_cases h0:X=0
   ·subst h0
    rcases HT.out with ⟨-,g',b',rfl,hm5⟩ | ⟨q,-⟩
    ·obtain ⟨d1,d2,d3,d4,d5,d6⟩:=HD.out rfl
     have hob:=ho3.out rfl
     subst d1
     subst d5
     subst d6
     have hM7:=Lib.hid ((hm5.below V6.out).below hal6.out)
     have R7:=Lib.hid (d4.more hal6.out)
     have hd3:c6≤9223372036854775807:=by unfold maxLen at d3;omega
     have LO:Hid (∀ W,Below wc.heap.size wc W→Calls Tryz.prog 11 #[.pointer (some ⟨g',0,none⟩)] W fun en w'=>∃ A9 c9,en=.returned (.slice A9 o.length c9)∧Hid (Rd w' w'.heap.size A9 o.length (I64 (ofN o)))∧Below wc.heap.size wc w'):=fun W z=>by
      refine (mlist_p g' o b' rt ln W (hM7.out.below (BC.out.trans (z.mono BC.out.size)))).mono ?_
      rintro en w' ⟨A9,c9,rfl,h1,h2,h3,h4⟩
      rw [ofN_len] at h3 ⊢
      exact ⟨A9,c9,rfl,Rd.ofOwn h3,z.trans (h4.mono z.size)⟩
     have EO:Hid (∀ W A9 c9,Below wc.heap.size wc W→Rd W W.heap.size A9 o.length (I64 (ofN o))→Calls Tryz.prog 10 #[.slice A9 o.length c9,.slice A6 o.length c6] W fun en w'=>en=.returned (.bool true)∧Below wc.heap.size wc w'):=fun W A9 c9 z hA=>by
      have hr:=R7.out.below (BC.out.trans (z.mono BC.out.size))
      refine (equalI_any A9 A6 o.length c9 o.length c6 _ _ (ofN o) (ofN o) W hA hr (by omega) (by omega)).mono ?_
      rintro en w' ⟨q1,q,q2⟩
      exact ⟨by rw [q1,decide_eq_true rfl],by rw [q2];exact below_draws z q⟩
     have RO:Hid (∀ W,Below wc.heap.size wc W→Calls Tryz.prog 12 #[.pointer (some ⟨g',0,none⟩)] W fun en w'=>en=.returned (.int .i64 rt)∧Below wc.heap.size wc w'):=fun W z =>
      (root_p g' o b' rt ln W (hM7.out.below (BC.out.trans (z.mono BC.out.size)))).mono fun en w' ⟨q1,q2⟩=>⟨q1,by rw [← q2];exact z⟩
     have NO:Hid (∀ W,Below wc.heap.size wc W→Calls Tryz.prog 13 #[.pointer (some ⟨g',0,none⟩)] W fun en w'=>en=.returned (.int .i64 ln)∧Below wc.heap.size wc w'):=fun W z =>
      (lone_p g' o b' rt ln W (hM7.out.below (BC.out.trans (z.mono BC.out.size)))).mono fun en w' ⟨q1,q2⟩=>⟨q1,by rw [← q2];exact z⟩
     have KC:Hid (∀ W,Below wc.heap.size wc W→Below wc.heap.size wc W∧W.cell? ⟨gy,0,none⟩=some (.slice A6 o.length c6)∧W.cell? ⟨gy,1,none⟩=some (.int .i64 rt)∧W.cell? ⟨gy,2,none⟩=some (.int .i64 ln)):=fun W z=>by
      have hy:=HY.out.below (BC.out.trans (z.mono BC.out.size))
      exact ⟨z,hy.cell 0,hy.cell 1,hy.cell 2⟩
     have BB:Hid (∀ W,Below wc.heap.size wc W→Below w.heap.size w W):=fun W z=>HB.out.trans (z.mono HB.out.size)
     have a0:=Below.refl wc.heap.size wc
     have a1:=a0.drew
     obtain ⟨-,y0,y1,y2⟩:=KC.out _ a0
     obtain ⟨-,v0,v1,v2⟩:=KC.out _ a1
     clear hm5 d2 d3 d4 HD HT ho3
     go_upto_region 13 with fail
     go_region_held3 (fun W=>Below wc.heap.size wc W∧W.cell? ⟨gy,0,none⟩=some (.slice A6 o.length c6)∧W.cell? ⟨gy,1,none⟩=some (.int .i64 rt)∧W.cell? ⟨gy,2,none⟩=some (.int .i64 ln)) (exact KC.out _ (by assumption)) (first
      | (go_at_call 11;(with_reducible refine (LO.out _ (by assumption)).mono ?_);rintro en wl ⟨A9,c9,rfl,HA,hbl⟩)
      | (go_at_call 10;(with_reducible refine (EO.out _ _ _ (by assumption) HA.out).mono ?_);rintro en wq ⟨rfl,hbq⟩)
      | (go_at_call 12;(with_reducible refine (RO.out _ (by assumption)).mono ?_);rintro en wr1 ⟨rfl,hbr⟩)
      | (go_at_call 13;(with_reducible refine (NO.out _ (by assumption)).mono ?_);rintro en wn ⟨rfl,hbn⟩))
     all_goals (go_wp2_with fail)
     all_goals (go_ret)
     all_goals (exact ⟨rfl,BB.out _ (by assumption)⟩)
    ·exact absurd rfl q
   ·have h0I:¬ (X:Int)=0:=h0
    have h0b:((X:Int) != 0)=true:=by rw [bne_iff_ne];exact h0
    have h0d:decide (X=0)=false:=decide_eq_false h0
    obtain rfl:p=none:=by
     rcases HT.out with ⟨q,-⟩ | ⟨-,q⟩
     ·exact absurd q h0
     ·exact q
    clear h0 HT HD
    go_wp2_with fail
    go_ret
    exact ⟨rfl,HB.out⟩
end Go.Proofs.YtdinmjciippchaaGreat
