/- The document's Do (layer 23), kind 4. -/
import Derived.Test.YtdinmjciippchaaGreatZg18
open Go.RowKit
set_option linter.unusedVariables false
set_option linter.unusedSimpArgs false
namespace Go.Proofs.YtdinmjciippchaaGreat
set_option maxRecDepth 100000
set_option maxHeartbeats 16000000 in
theorem rdo23_4 (A:Option Addr) (c:Nat) (l b:List Nat) (root lone:Int) (d:Nat) (e:Int) (w:World) (h:Rd w w.heap.size A l.length (I64 (ofN l))) (hinv:Inv l b) (hev:l.length%2=0) (hn:l.length≤6000) (hd:d < l.length) :
  Calls Tryz.prog 26 #[.agg #[.slice A l.length c,.int .i64 root,.int .i64 lone],.int .i64 4,.int .i64 (d:Int),.int .i64 e] w (fun e w'=>(Flips l d∧DoOK w (flipL l b d) root lone e w')∨(¬ Flips l d∧DoNo w A l.length c root lone 8 e w')):=by
 obtain ⟨i0,hi0,hz0,hz1,hz2⟩:=info_parts info_int
 have hb0:=((Below.refl w.heap.size w).alloc (Nat.le_refl _) (.cells #[.slice A l.length c,.int .i64 root,.int .i64 lone] 28)).alloc (by simp) (.cells #[.slice none 0 0,.int .i64 0,.int .i64 0] 28)
 have HX:=Lib.hid ((Blk.new w 28 #[.slice A l.length c,.int .i64 root,.int .i64 lone]).alloc (.cells #[.slice none 0 0,.int .i64 0,.int .i64 0] 28))
 have hy:=(Blk.new (w.alloc (.cells #[.slice A l.length c,.int .i64 root,.int .i64 lone] 28)) 28 #[.slice none 0 0,.int .i64 0,.int .i64 0])
 rw [show (w.alloc (.cells #[.slice A l.length c,.int .i64 root,.int .i64 lone] 28)).heap.size=w.heap.size+1 by simp] at hy
 have HY:=Lib.hid hy
 have HR:=Lib.hid (h.more hb0)
 have HB0:=Lib.hid hb0
 have HINF:=Lib.hid info_rmap
 have hp:=phi_inv hinv hev
 have hpl:=phiL_len l
 obtain ⟨m,hm⟩:∃ m,m=mateN d:=⟨_,rfl⟩
 have hml:m < l.length:=by rw [hm];exact mateN_lt hev hd
 obtain ⟨P,hP⟩:∃ P,P=(rowsM l).length:=⟨_,rfl⟩
 have hPl:P≤l.length:=by rw [hP];exact rowsM_len l
 have hPp:0 < P:=by rw [hP];exact rowsM_pos (by omega)
 have PH:Hid (∀ W,Below _ _ W→Calls Tryz.prog 60 #[.agg #[.slice A l.length c,.int .i64 root,.int .i64 lone]] W (NewI64 W (ofN (phiL l)))):=fun W q=>rphi_p A c l root lone W ((HR.out.below q).up q.size) hev (by omega)
 have NM:Hid (∀ W A9 c9,Rd W W.heap.size A9 l.length (I64 (ofN (phiL l)))→Calls Tryz.prog 31 #[.slice A9 l.length c9] W (NewI64 W (ofN (names (phiL l))))):=fun W A9 c9 q=>by
  have:=rnames_p A9 c9 _ (phiL l) _ W (by rw [hpl];exact q) hp (by omega)
  rwa [hpl] at this
 have IV:Hid (∀ W,Below _ _ W→Calls Tryz.prog 61 #[.slice A l.length c] W (NewI64 W (ofN b))):=fun W q=>rinverse_p A c _ l b W (HR.out.below q) hinv (by omega)
 have MT:Hid (∀ W,Calls Tryz.prog 32 #[.int .i64 (d:Int)] W fun en w'=>en=.returned (.int .i64 (m:Int))∧W=w'):=fun W=>by rw [hm];exact rmate_p d W (by omega)
 have LS:Hid (∀ W,Below _ _ W→Calls Tryz.prog 62 #[.agg #[.slice A l.length c,.int .i64 root,.int .i64 lone]] W (RWP W (rowsM l) P)):=fun W q=>by
  rw [hP];exact lists_q A c l b root lone W ((HR.out.below q).up q.size) hinv (by omega) (by omega)
 have HPL:Hid ((ofN (phiL l)).length=l.length∧(phiL l).length=l.length):=⟨by rw [ofN_len];exact hpl,hpl⟩
 have HBL:Hid ((ofN b).length=l.length∧b.length=l.length):=⟨by rw [ofN_len];exact hinv.len,hinv.len⟩
 have HNL:Hid ((ofN (names (phiL l))).length=l.length):=by show _=_;rw [ofN_len,names_len,hpl]
 have HI:=Lib.hid (And.intro hinv hev)
 have HM:Hid (m=mateN d):=hm
 have HPR:Hid (P=(rowsM l).length):=hP
 obtain ⟨n,hn'⟩:∃ n,n=l.length:=⟨_,rfl⟩
 have HN:Hid (n=l.length):=hn'
 have RL:Hid (∀ os f S B,Tells os f S→(∀ x,S x→x < B)→B≤20000→∀ r,r < os.length→(os.getD r []).length≤20000):=fun os f S B t hs hB r hr=>Nat.le_trans (t.rowLe hs r hr) hB
 obtain ⟨pd,hpd⟩:∃ pd,pd=(phiL l).getD d 0:=⟨_,rfl⟩
 obtain ⟨pm,hpm⟩:∃ pm,pm=(phiL l).getD m 0:=⟨_,rfl⟩
 have plt:∀ x,x < l.length→(phiL l).getD x 0 < l.length:=fun x hx=>by
  have:=hp.lt x (by rw [hpl];exact hx)
  rwa [hpl] at this
 have hpdl:pd < l.length:=by rw [hpd];exact plt d hd
 have hpml:pm < l.length:=by rw [hpm];exact plt m hml
 obtain ⟨oa,hoa⟩:∃ oa,oa=(phiL l).getD pd 0:=⟨_,rfl⟩
 obtain ⟨ob,hob⟩:∃ ob,ob=(phiL l).getD pm 0:=⟨_,rfl⟩
 have hoal:oa < l.length:=by rw [hoa];exact plt pd hpdl
 have hobl:ob < l.length:=by rw [hob];exact plt pm hpml
 obtain ⟨fa,hfa⟩:∃ fa,fa=flp l b d:=⟨_,rfl⟩
 obtain ⟨fb,hfb⟩:∃ fb,fb=flp l b m:=⟨_,rfl⟩
 obtain ⟨td,htd⟩:∃ td,td=(orb (phiL l) d).length:=⟨_,rfl⟩
 obtain ⟨tm,htm⟩:∃ tm,tm=(orb (phiL l) m).length:=⟨_,rfl⟩
 obtain ⟨nd,hnd⟩:∃ nd,nd=nameOf (phiL l) d:=⟨_,rfl⟩
 obtain ⟨nm,hnm⟩:∃ nm,nm=nameOf (phiL l) m:=⟨_,rfl⟩
 obtain ⟨sd,hsd⟩:∃ sd,sd=l.getD d 0:=⟨_,rfl⟩
 obtain ⟨sm,hsm⟩:∃ sm,sm=l.getD m 0:=⟨_,rfl⟩
 have HQ:Hid (pd=(phiL l).getD d 0∧pm=(phiL l).getD m 0∧oa=(phiL l).getD pd 0∧ob=(phiL l).getD pm 0∧nd=nameOf (phiL l) d∧nm=nameOf (phiL l) m∧sd=l.getD d 0∧sm=l.getD m 0):=⟨hpd,hpm,hoa,hob,hnd,hnm,hsd,hsm⟩
 have HFL:Hid (Flips l d↔td=3∧tm=3∧nd≠nm):=by
  show Flips l d↔_
  unfold Flips TriD
  rw [← hm,← htd,← htm,← hnd,← hnm]
 have HTO:Hid (Flips l d→sd≠d∧sm≠m):=fun hf=>by
  obtain ⟨-,-,-,z1,z2⟩:=flips_to hinv hev hd hf
  exact ⟨by rw [hsd];exact z1,by rw [hsm,hm];exact z2⟩
 have HFA:Hid (fa=b.getD oa 0∧fb=b.getD ob 0):=⟨by rw [hfa,hoa,hpd];rfl,by rw [hfb,hob,hpm];rfl⟩
 have T0:Hid (Flips l d→Tells ((((((rowsM l).map (witL d)).map (witL m)).map (aftL fa d)).map (aftL fb m))) (sgL (flipL l b d)) fun x=>x < (flipL l b d).length):=fun hf=>by
  have:=flip_tell hinv hev hd hf
  rw [(flip_inv hinv hev hd hf.1).2]
  unfold flipR at this
  rw [← hm,← hfa,← hfb] at this;exact this
 have HL:Hid (Flips l d→(flipL l b d).length=l.length):=fun hf=>(flip_inv hinv hev hd hf.1).2
 have t0:=lists_tell hinv
 have R0:Hid (∀ r,r < (rowsM l).length→((rowsM l).getD r []).length≤20000):=RL.out _ _ _ _ t0 (fun x hx=>hx) (by omega)
 have R1:Hid (∀ r,r < ((rowsM l).map (witL d)).length→(((rowsM l).map (witL d)).getD r []).length≤20000):=RL.out _ _ _ _ (t0.without d) (fun x hx=>hx.1) (by omega)
 have R2:Hid (∀ r,r < (((rowsM l).map (witL d)).map (witL m)).length→((((rowsM l).map (witL d)).map (witL m)).getD r []).length≤20000):=RL.out _ _ _ _ ((t0.without d).without m) (fun x hx=>hx.1.1) (by omega)
 have R3:Hid (Flips l d→∀ r,r < ((((rowsM l).map (witL d)).map (witL m)).map (aftL fa d)).length→(((((rowsM l).map (witL d)).map (witL m)).map (aftL fa d)).getD r []).length≤20000):=fun hf=>by
  obtain ⟨z1,z2,-,-,-⟩:=flips_to hinv hev hd hf
  rw [← hfa] at z1 z2
  rw [← hm] at z2
  have hfal:fa < l.length:=by rw [hfa];exact (flp_lt hinv hev hd).1
  exact RL.out _ _ _ l.length (((t0.without d).without m).after (a:=fa) (d:=d) ⟨⟨hfal,z1⟩,z2⟩ (fun q=>q.1.2 rfl)) (fun x hx=>by
   rcases hx with hx | hx
   ·exact hx.1.1
   ·rw [hx];exact hd) (by omega)
 have OP:∀ x,x < l.length→∀ W A9 c9,Rd W W.heap.size A9 l.length (I64 (ofN (phiL l)))→Calls Tryz.prog 65 #[.slice A9 l.length c9,.int .i64 (x:Int)] W (NewI64 W (ofN (orb (phiL l) x))):=fun x hx W A9 c9 q=>by
  have:=rorbit_p A9 c9 _ (phiL l) _ x W (by rw [hpl];exact q) hp (by omega) (by rw [hpl];exact hx)
  rwa [hpl] at this
 have OD:Hid (∀ W A9 c9,Rd W W.heap.size A9 l.length (I64 (ofN (phiL l)))→Calls Tryz.prog 65 #[.slice A9 l.length c9,.int .i64 (d:Int)] W fun en w'=>∃ A8 c8,en=.returned (.slice A8 td c8)∧Below W.heap.size W w'):=fun W A9 c9 q=>(OP d hd W A9 c9 q).mono fun en w' ⟨A8,c8,e1,_,_,_,b8⟩=>⟨A8,c8,by rw [e1,ofN_len,htd],b8⟩
 have OM:Hid (∀ W A9 c9,Rd W W.heap.size A9 l.length (I64 (ofN (phiL l)))→Calls Tryz.prog 65 #[.slice A9 l.length c9,.int .i64 (m:Int)] W fun en w'=>∃ A8 c8,en=.returned (.slice A8 tm c8)∧Below W.heap.size W w'):=fun W A9 c9 q=>(OP m hml W A9 c9 q).mono fun en w' ⟨A8,c8,e1,_,_,_,b8⟩=>⟨A8,c8,by rw [e1,ofN_len,htm],b8⟩
 have htb:td≤l.length∧tm≤l.length:=by rw [htd,htm];exact ⟨(ahead_lt hinv hev hd).2.2.1,(ahead_lt hinv hev hml).2.2.1⟩
 clear hpd hpm hoa hob hfa hfb htd htm hnd hnm hsd hsm OP t0 plt
 rw [← hn'] at HX HY HR HB0 hd hml hn hPl PH NM IV LS HPL HBL HNL hpdl hpml hoal hobl HL OD OM htb ⊢
 clear h hb0 hinv hy hp hpl hev hm hP hn'
 have hdI:(d:Int) < (n:Int):=by omega
 go_enter Tryz.func26,Tryz.ntmps26
 go_upto_region 1 with fail
 generalize hw3:(w.alloc (.cells #[.slice A n c,.int .i64 root,.int .i64 lone] 28)).alloc (.cells #[.slice none 0 0,.int .i64 0,.int .i64 0] 28)=w3 at *
 have hs3:w3.heap.size=w.heap.size+2:=by rw [← hw3];simp
 have SK:Hid (∀ W,Below w3.heap.size w3 W→W.cell? ⟨w.heap.size,0,none⟩=some (.slice A n c)∧W.cell? ⟨w.heap.size,1,none⟩=some (.int .i64 root)∧W.cell? ⟨w.heap.size,2,none⟩=some (.int .i64 lone)):=fun W q=>⟨(HX.out.below q).cell 0,(HX.out.below q).cell 1,(HX.out.below q).cell 2⟩
 obtain ⟨x0,x1,x2⟩:=SK.out _ (Below.refl _ _)
 have Z3:=Below.refl w3.heap.size w3
 clear hw3 HX
 go_upto_region 4 with fail
 go_wp2_with fail
 refine (PH.out _ Z3).mono ?_
 rintro en w4 ⟨A4,c4,rfl,hc4,hm4,hown4,b4⟩
 rw [HPL.out.1] at hc4 hown4 ⊢
 obtain ⟨gP,rfl,hgP,hgPw⟩:=own_some hown4 (by omega)
 have Z4:=Z3.trans (b4.mono (Nat.le_refl _))
 have hs4:=Z4.size
 have RP:=Lib.hid (Rd.ofOwn hown4)
 have FP:Hid (∀ W,Below w4.heap.size w4 W→∀ j,j < n→W.cell? ⟨gP,j,none⟩=some (.int .i64 (((phiL l).getD j 0:Nat):Int))):=fun W q j hj=>by
  have:=own_cellI (own_below hown4 q) j hj
  rwa [ofN_get] at this
 clear b4 hown4 hc4 hm4 PH x0 x1 x2 Z3
 go_wp2_with fail
 refine (NM.out _ _ c4 RP.out).mono ?_
 rintro en w5 ⟨A5,c5,rfl,hc5,hm5,hown5,b5⟩
 rw [HNL.out] at hc5 hown5 ⊢
 obtain ⟨gN,rfl,hgN,hgNw⟩:=own_some hown5 (by omega)
 have Z5:=Z4.trans (b5.mono hs4)
 have hs5:=Z5.size
 have FN:Hid (∀ W,Below w5.heap.size w5 W→∀ j,j < n→W.cell? ⟨gN,j,none⟩=some (.int .i64 ((nameOf (phiL l) j:Nat):Int))):=fun W q j hj=>by
  have:=own_cellI (own_below hown5 q) j hj
  rwa [ofN_get,names_get _ _ (by rw [HPL.out.2];exact hj)] at this
 have V5:=Lib.hid b5
 obtain ⟨x0,x1,x2⟩:=SK.out _ Z5
 clear b5 hown5 hc5 hm5 NM Z4
 go_wp2_with fail
 refine (IV.out _ Z5).mono ?_
 rintro en w6 ⟨A6,c6,rfl,hc6,hm6,hown6,b6⟩
 rw [HBL.out.1] at hc6 hown6 ⊢
 obtain ⟨gB,rfl,hgB,hgBw⟩:=own_some hown6 (by omega)
 have Z6:=Z5.trans (b6.mono hs5)
 have hs6:=Z6.size
 have FB:Hid (∀ W,Below w6.heap.size w6 W→∀ j,j < n→W.cell? ⟨gB,j,none⟩=some (.int .i64 ((b.getD j 0:Nat):Int))):=fun W q j hj=>by
  have:=own_cellI (own_below hown6 q) j hj
  rwa [ofN_get] at this
 have V6:=Lib.hid b6
 obtain ⟨x0,x1,x2⟩:=SK.out _ Z6
 clear b6 hown6 hc6 hm6 IV Z5
 go_wp2_with fail
 refine (MT.out _).mono ?_
 rintro en wz ⟨rfl,rfl⟩
 clear MT
 go_wp2_with fail
 refine (LS.out _ Z6).mono ?_
 rintro en w7 ⟨g7,c7,rfl,hW7,b7⟩
 have Z7:=Z6.trans (b7.mono hs6)
 have hs7:=Z7.size
 have FA:Hid (∀ W,Below w7.heap.size w7 W→(∀ j,j < n→W.cell? ⟨gP,j,none⟩=some (.int .i64 (((phiL l).getD j 0:Nat):Int))∧W.cell? ⟨gN,j,none⟩=some (.int .i64 ((nameOf (phiL l) j:Nat):Int))∧W.cell? ⟨gB,j,none⟩=some (.int .i64 ((b.getD j 0:Nat):Int)))∧Rd W W.heap.size (some ⟨gP,0,none⟩) n (I64 (ofN (phiL l)))):=fun W q=>by
  have u6:Below w6.heap.size w6 W:=b7.trans (q.mono b7.size)
  have u5:Below w5.heap.size w5 W:=V6.out.trans (u6.mono V6.out.size)
  have u4:Below w4.heap.size w4 W:=V5.out.trans (u5.mono V5.out.size)
  exact ⟨fun j hj=>⟨FP.out W u4 j hj,FN.out W u5 j hj,FB.out W u6 j hj⟩,(RP.out.below u4).up u4.size⟩
 have HW7:=Lib.hid hW7
 have Z7H:=Lib.hid Z7
 have hbw:w.heap.size+2≤w7.heap.size:=by omega
 obtain ⟨x0,x1,x2⟩:=SK.out _ Z7
 clear b7 hW7 LS Z6 Z7 RP FP FN FB V5 V6 hgP hgPw hgN hgNw hgB hgBw hs4 hs5
 have hmI:(m:Int) < (n:Int):=by omega
 have hpdI:(pd:Int) < (n:Int):=by omega
 have hpmI:(pm:Int) < (n:Int):=by omega
 have hoaI:(oa:Int) < (n:Int):=by omega
 have hobI:(ob:Int) < (n:Int):=by omega
 obtain ⟨ba,oA,rfl,hba,hca⟩:=HR.out.i64 (by omega)
 have C7:Hid (∀ W,Below w7.heap.size w7 W→W.cell? ⟨gP,d,none⟩=some (.int .i64 (pd:Int))∧W.cell? ⟨gP,m,none⟩=some (.int .i64 (pm:Int))∧W.cell? ⟨gP,pd,none⟩=some (.int .i64 (oa:Int))∧W.cell? ⟨gP,pm,none⟩=some (.int .i64 (ob:Int))∧W.cell? ⟨gN,d,none⟩=some (.int .i64 (nd:Int))∧W.cell? ⟨gN,m,none⟩=some (.int .i64 (nm:Int))∧W.cell? ⟨ba,oA+d,none⟩=some (.int .i64 (sd:Int))∧W.cell? ⟨ba,oA+m,none⟩=some (.int .i64 (sm:Int))∧W.cell? ⟨gB,oa,none⟩=some (.int .i64 (fa:Int))∧W.cell? ⟨gB,ob,none⟩=some (.int .i64 (fb:Int))):=fun W q=>by
  obtain ⟨u1,u2,u3,u4,u5,u6,u7,u8⟩:=HQ.out
  have G:=(FA.out W q).1
  have z:=Z7H.out.trans (q.mono hs7)
  refine ⟨by rw [u1];exact (G d hd).1,by rw [u2];exact (G m hml).1,by rw [u3];exact (G pd hpdl).1,by rw [u4];exact (G pm hpml).1,by rw [u5];exact (G d hd).2.1,by rw [u6];exact (G m hml).2.1,?_,?_,by rw [HFA.out.1];exact (G oa hoal).2.2,by rw [HFA.out.2];exact (G ob hobl).2.2⟩
  ·rw [u7,← ofN_get];exact (z.cell (p:=⟨ba,oA+d,none⟩) hba).trans (hca d hd)
  ·rw [u8,← ofN_get];exact (z.cell (p:=⟨ba,oA+m,none⟩) hba).trans (hca m hml)
 obtain ⟨p1,p2,p3,p4,-,-,-,-,-,-⟩:=C7.out _ (Below.refl _ _)
 clear hca hba
 go_upto_region 32 with fail
 go_upto_region 33 with (go_quiet (fail))
 have bq:Below w7.heap.size w7 (w7.drewN nq):=below_draws (Below.refl _ _) nq
 generalize w7.drewN nq=w8 at *
 have B8:=Lib.hid bq
 have hs8:=bq.size
 clear bq p1 p2 p3 p4 x0 x1 x2
 have SX:Hid (∀ W,Below w8.heap.size w8 W→Below w8.heap.size w8 W∧W.cell? ⟨gN,d,none⟩=some (.int .i64 (nd:Int))∧W.cell? ⟨gN,m,none⟩=some (.int .i64 (nm:Int))∧W.cell? ⟨w.heap.size,0,none⟩=some (.slice (some ⟨ba,oA,none⟩) n c)∧W.cell? ⟨ba,oA+d,none⟩=some (.int .i64 (sd:Int))∧W.cell? ⟨ba,oA+m,none⟩=some (.int .i64 (sm:Int))):=fun W q=>by
  have q7:=B8.out.trans (q.mono hs8)
  obtain ⟨-,-,-,-,u5,u6,u7,u8,-,-⟩:=C7.out W q7
  exact ⟨q,u5,u6,(SK.out W (Z7H.out.trans (q7.mono hs7))).1,u7,u8⟩
 have OD8:Hid (∀ W,Below w8.heap.size w8 W→Calls Tryz.prog 65 #[.slice (some ⟨gP,0,none⟩) n c4,.int .i64 (d:Int)] W fun en w'=>∃ A8 c8,en=.returned (.slice A8 td c8)∧Below w8.heap.size w8 w'):=fun W q =>
  (OD.out W _ c4 (FA.out W (B8.out.trans (q.mono hs8))).2).mono fun en w' ⟨A8,c8,e1,b8⟩=>⟨A8,c8,e1,q.trans (b8.mono q.size)⟩
 have OM8:Hid (∀ W,Below w8.heap.size w8 W→Calls Tryz.prog 65 #[.slice (some ⟨gP,0,none⟩) n c4,.int .i64 (m:Int)] W fun en w'=>∃ A8 c8,en=.returned (.slice A8 tm c8)∧Below w8.heap.size w8 w'):=fun W q =>
  (OM.out W _ c4 (FA.out W (B8.out.trans (q.mono hs8))).2).mono fun en w' ⟨A8,c8,e1,b8⟩=>⟨A8,c8,e1,q.trans (b8.mono q.size)⟩
 obtain ⟨td1,td2⟩:=htb
 have a0:=Below.refl w8.heap.size w8
 have a1:=a0.drew
 obtain ⟨-,y1,y2,y3,y4,y5⟩:=SX.out _ a0
 obtain ⟨-,v1,v2,v3,v4,v5⟩:=SX.out _ a1
 clear OD OM
 go_cut [200] from 160 to 201 (fun v wx=>∃ f:Bool,v=.bool f∧Below w8.heap.size w8 wx∧(f=false↔td=3∧tm=3∧nd≠nm))
 case first =>
  by_cases h1:td=3
  ·subst h1
   by_cases h2:tm=3
   ·subst h2
    by_cases h3:nd=nm
    ·have n3:((nd:Int) == (nm:Int))=true:=by simp [h3]
     have n3d:decide (nd=nm)=true:=decide_eq_true h3
     have h3':Hid (nd=nm):=h3
     clear h3
     refine wp_region_held_drew (S:=fun W=>Below w8.heap.size w8 W∧W.cell? ⟨gN,d,none⟩=some (.int .i64 (nd:Int))∧W.cell? ⟨gN,m,none⟩=some (.int .i64 (nm:Int))∧W.cell? ⟨w.heap.size,0,none⟩=some (.slice (some ⟨ba,oA,none⟩) n c)∧W.cell? ⟨ba,oA+d,none⟩=some (.int .i64 (sd:Int))∧W.cell? ⟨ba,oA+m,none⟩=some (.int .i64 (sm:Int))) (by kernel_rfl) (SX.out _ (by assumption)) (fun hHeld=>?_)
     refine' wpAnyH_take (i:=0) (v:=_) rfl (by kernel_rfl) (by kernel_rfl) (by kernel_rfl) (fun _ _ _ h=>h) (Or.inl ⟨by rfl,?hy10_0⟩) (by assumption) ?rest10_0
     case hy10_0=>(intro w hSw;(try dsimp only at hSw);go_simp;try (with_reducible rfl))
     try simp only [List.getElem_toArray,List.getElem_cons_succ,List.getElem_cons_zero,Act.put,List.setIfInBounds_toArray,List.set_cons_zero,List.set_cons_succ]
     refine' wpAnyH_take (i:=1) (v:=_) rfl (by kernel_rfl) (by kernel_rfl) (by kernel_rfl) (fun _ _ _ h=>h) (Or.inl ⟨by rfl,?hy10_1⟩) (by assumption) ?rest10_1
     case hy10_1=>(intro w hSw;(try dsimp only at hSw);go_simp;try (with_reducible rfl))
     try simp only [List.getElem_toArray,List.getElem_cons_succ,List.getElem_cons_zero,Act.put,List.setIfInBounds_toArray,List.set_cons_zero,List.set_cons_succ]
     refine wpAnyH_ready (rs:=[2]) (by kernel_rfl) (by simp) ?_
     refine AllReadyH.cons rfl (fun K hK=>?_) AllReadyH.nil
     go_simp
     (go_at_call 65;(with_reducible refine (OD8.out _ (by assumption)).mono ?_);rintro en waOD8 ⟨A9OD8,c9OD8,rfl,hbaOD8⟩)
     go_wp2_with fail
     refine hK.out _ _ ?_ (fun hHeld=>?_)
     ·((try dsimp only);exact SX.out _ (by assumption))
     clear hK K
     try simp only [List.getElem_toArray,List.getElem_cons_succ,List.getElem_cons_zero,Act.put,List.setIfInBounds_toArray,List.set_cons_zero,List.set_cons_succ]
     refine' wpAnyH_take (i:=3) (v:=_) rfl (by kernel_rfl) (by kernel_rfl) (by kernel_rfl) (fun _ _ _ h=>h) (Or.inl ⟨by rfl,?hy10_3⟩) (by assumption) ?rest10_3
     case hy10_3=>(intro w hSw;(try dsimp only at hSw);go_simp;try (with_reducible rfl))
     try simp only [List.getElem_toArray,List.getElem_cons_succ,List.getElem_cons_zero,Act.put,List.setIfInBounds_toArray,List.set_cons_zero,List.set_cons_succ]
     refine' wpAnyH_take (i:=4) (v:=_) rfl (by kernel_rfl) (by kernel_rfl) (by kernel_rfl) (fun _ _ _ h=>h) (Or.inl ⟨by rfl,?hy10_4⟩) (by assumption) ?rest10_4
     case hy10_4=>(intro w hSw;(try dsimp only at hSw);go_simp;try (with_reducible rfl))
     try simp only [List.getElem_toArray,List.getElem_cons_succ,List.getElem_cons_zero,Act.put,List.setIfInBounds_toArray,List.set_cons_zero,List.set_cons_succ]
     refine' wpAnyH_take (i:=5) (v:=_) rfl (by kernel_rfl) (by kernel_rfl) (by kernel_rfl) (fun _ _ _ h=>h) (Or.inl ⟨by rfl,?hy10_5⟩) (by assumption) ?rest10_5
     case hy10_5=>(intro w hSw;(try dsimp only at hSw);go_simp;try (with_reducible rfl))
     try simp only [List.getElem_toArray,List.getElem_cons_succ,List.getElem_cons_zero,Act.put,List.setIfInBounds_toArray,List.set_cons_zero,List.set_cons_succ]
     refine' wpAnyH_take (i:=6) (v:=_) rfl (by kernel_rfl) (by kernel_rfl) (by kernel_rfl) (fun _ _ _ h=>h) (Or.inl ⟨by rfl,?hy10_6⟩) (by assumption) ?rest10_6
     case hy10_6=>(intro w hSw;(try dsimp only at hSw);go_simp;try (with_reducible rfl))
     try simp only [List.getElem_toArray,List.getElem_cons_succ,List.getElem_cons_zero,Act.put,List.setIfInBounds_toArray,List.set_cons_zero,List.set_cons_succ]
     refine' wpAnyH_take (i:=7) (v:=_) rfl (by kernel_rfl) (by kernel_rfl) (by kernel_rfl) (fun _ _ _ h=>h) (Or.inl ⟨by rfl,?hy10_7⟩) (by assumption) ?rest10_7
     case hy10_7=>(intro w hSw;(try dsimp only at hSw);go_simp;try (with_reducible rfl))
     try simp only [List.getElem_toArray,List.getElem_cons_succ,List.getElem_cons_zero,Act.put,List.setIfInBounds_toArray,List.set_cons_zero,List.set_cons_succ]
     refine wpAnyH_ready (rs:=[8]) (by kernel_rfl) (by simp) ?_
     refine AllReadyH.cons rfl (fun K hK=>?_) AllReadyH.nil
     go_simp
     (go_at_call 65;(with_reducible refine (OM8.out _ (by assumption)).mono ?_);rintro en waOM8 ⟨A9OM8,c9OM8,rfl,hbaOM8⟩)
     go_wp2_with fail
     refine hK.out _ _ ?_ (fun hHeld=>?_)
     ·((try dsimp only);exact SX.out _ (by assumption))
     clear hK K
     try simp only [List.getElem_toArray,List.getElem_cons_succ,List.getElem_cons_zero,Act.put,List.setIfInBounds_toArray,List.set_cons_zero,List.set_cons_succ]
     refine' wpAnyH_take (i:=9) (v:=_) rfl (by kernel_rfl) (by kernel_rfl) (by kernel_rfl) (fun _ _ _ h=>h) (Or.inl ⟨by rfl,?hy10_9⟩) (by assumption) ?rest10_9
     case hy10_9=>(intro w hSw;(try dsimp only at hSw);go_simp;try (with_reducible rfl))
     try simp only [List.getElem_toArray,List.getElem_cons_succ,List.getElem_cons_zero,Act.put,List.setIfInBounds_toArray,List.set_cons_zero,List.set_cons_succ]
     refine' wpAnyH_take (i:=10) (v:=_) rfl (by kernel_rfl) (by kernel_rfl) (by kernel_rfl) (fun _ _ _ h=>h) (Or.inl ⟨by rfl,?hy10_10⟩) (by assumption) ?rest10_10
     case hy10_10=>(intro w hSw;(try dsimp only at hSw);go_simp;try (with_reducible rfl))
     try simp only [List.getElem_toArray,List.getElem_cons_succ,List.getElem_cons_zero,Act.put,List.setIfInBounds_toArray,List.set_cons_zero,List.set_cons_succ]
     refine' wpAnyH_take (i:=11) (v:=_) rfl (by kernel_rfl) (by kernel_rfl) (by kernel_rfl) (fun _ _ _ h=>h) (Or.inl ⟨by rfl,?hy10_11⟩) (by assumption) ?rest10_11
     case hy10_11=>(intro w hSw;(try dsimp only at hSw);go_simp;try (with_reducible rfl))
     try simp only [List.getElem_toArray,List.getElem_cons_succ,List.getElem_cons_zero,Act.put,List.setIfInBounds_toArray,List.set_cons_zero,List.set_cons_succ]
     refine' wpAnyH_take (i:=12) (v:=_) rfl (by kernel_rfl) (by kernel_rfl) (by kernel_rfl) (fun _ _ _ h=>h) (Or.inl ⟨by rfl,?hy10_12⟩) (by assumption) ?rest10_12
     case hy10_12=>(intro w hSw;(try dsimp only at hSw);go_simp;try (with_reducible rfl))
     try simp only [List.getElem_toArray,List.getElem_cons_succ,List.getElem_cons_zero,Act.put,List.setIfInBounds_toArray,List.set_cons_zero,List.set_cons_succ]
     refine' wpAnyH_take (i:=13) (v:=_) rfl (by kernel_rfl) (by kernel_rfl) (by kernel_rfl) (fun _ _ _ h=>h) (Or.inl ⟨by rfl,?hy10_13⟩) (by assumption) ?rest10_13
     case hy10_13=>(intro w hSw;(try dsimp only at hSw);go_simp;try (with_reducible rfl))
     try simp only [List.getElem_toArray,List.getElem_cons_succ,List.getElem_cons_zero,Act.put,List.setIfInBounds_toArray,List.set_cons_zero,List.set_cons_succ]
     refine' wpAnyH_take (i:=14) (v:=_) rfl (by kernel_rfl) (by kernel_rfl) (by kernel_rfl) (fun _ _ _ h=>h) (Or.inl ⟨by rfl,?hy10_14⟩) (by assumption) ?rest10_14
     case hy10_14=>(intro w hSw;(try dsimp only at hSw);go_simp;try (with_reducible rfl))
     try simp only [List.getElem_toArray,List.getElem_cons_succ,List.getElem_cons_zero,Act.put,List.setIfInBounds_toArray,List.set_cons_zero,List.set_cons_succ]
     refine' wpAnyH_take (i:=15) (v:=_) rfl (by kernel_rfl) (by kernel_rfl) (by kernel_rfl) (fun _ _ _ h=>h) (Or.inl ⟨by rfl,?hy10_15⟩) (by assumption) ?rest10_15
     case hy10_15=>(intro w hSw;(try dsimp only at hSw);go_simp;try (with_reducible rfl))
     try simp only [List.getElem_toArray,List.getElem_cons_succ,List.getElem_cons_zero,Act.put,List.setIfInBounds_toArray,List.set_cons_zero,List.set_cons_succ]
     refine' wpAnyH_take (i:=16) (v:=_) rfl (by kernel_rfl) (by kernel_rfl) (by kernel_rfl) (fun _ _ _ h=>h) (Or.inl ⟨by rfl,?hy10_16⟩) (by assumption) ?rest10_16
     case hy10_16=>(intro w hSw;(try dsimp only at hSw);go_simp;try (with_reducible rfl))
     try simp only [List.getElem_toArray,List.getElem_cons_succ,List.getElem_cons_zero,Act.put,List.setIfInBounds_toArray,List.set_cons_zero,List.set_cons_succ]
     refine' wpAnyH_take (i:=17) (v:=_) rfl (by kernel_rfl) (by kernel_rfl) (by kernel_rfl) (fun _ _ _ h=>h) (Or.inl ⟨by rfl,?hy10_17⟩) (by assumption) ?rest10_17
     case hy10_17=>(intro w hSw;(try dsimp only at hSw);go_simp;try (with_reducible rfl))
     try simp only [List.getElem_toArray,List.getElem_cons_succ,List.getElem_cons_zero,Act.put,List.setIfInBounds_toArray,List.set_cons_zero,List.set_cons_succ]
     refine' wpAnyH_take (i:=18) (v:=_) rfl (by kernel_rfl) (by kernel_rfl) (by kernel_rfl) (fun _ _ _ h=>h) (Or.inl ⟨by rfl,?hy10_18⟩) (by assumption) ?rest10_18
     case hy10_18=>(intro w hSw;(try dsimp only at hSw);go_simp;try (with_reducible rfl))
     try simp only [List.getElem_toArray,List.getElem_cons_succ,List.getElem_cons_zero,Act.put,List.setIfInBounds_toArray,List.set_cons_zero,List.set_cons_succ]
     refine' wpAnyH_take (i:=19) (v:=_) rfl (by kernel_rfl) (by kernel_rfl) (by kernel_rfl) (fun _ _ _ h=>h) (Or.inl ⟨by rfl,?hy10_19⟩) (by assumption) ?rest10_19
     case hy10_19=>(intro w hSw;(try dsimp only at hSw);go_simp;try (with_reducible rfl))
     try simp only [List.getElem_toArray,List.getElem_cons_succ,List.getElem_cons_zero,Act.put,List.setIfInBounds_toArray,List.set_cons_zero,List.set_cons_succ]
     refine' wpAnyH_take (i:=20) (v:=_) rfl (by kernel_rfl) (by kernel_rfl) (by kernel_rfl) (fun _ _ _ h=>h) (Or.inl ⟨by rfl,?hy10_20⟩) (by assumption) ?rest10_20
     case hy10_20=>(intro w hSw;(try dsimp only at hSw);go_simp;try (with_reducible rfl))
     try simp only [List.getElem_toArray,List.getElem_cons_succ,List.getElem_cons_zero,Act.put,List.setIfInBounds_toArray,List.set_cons_zero,List.set_cons_succ]
     refine' wpAnyH_take (i:=21) (v:=_) rfl (by kernel_rfl) (by kernel_rfl) (by kernel_rfl) (fun _ _ _ h=>h) (Or.inl ⟨by rfl,?hy10_21⟩) (by assumption) ?rest10_21
     case hy10_21=>(intro w hSw;(try dsimp only at hSw);go_simp;try (with_reducible rfl))
     try simp only [List.getElem_toArray,List.getElem_cons_succ,List.getElem_cons_zero,Act.put,List.setIfInBounds_toArray,List.set_cons_zero,List.set_cons_succ]
     refine' wpAnyH_take (i:=22) (v:=_) rfl (by kernel_rfl) (by kernel_rfl) (by kernel_rfl) (fun _ _ _ h=>h) (Or.inl ⟨by rfl,?hy10_22⟩) (by assumption) ?rest10_22
     case hy10_22=>(intro w hSw;(try dsimp only at hSw);go_simp;try (with_reducible rfl))
     try simp only [List.getElem_toArray,List.getElem_cons_succ,List.getElem_cons_zero,Act.put,List.setIfInBounds_toArray,List.set_cons_zero,List.set_cons_succ]
     refine' wpAnyH_take (i:=23) (v:=_) rfl (by kernel_rfl) (by kernel_rfl) (by kernel_rfl) (fun _ _ _ h=>h) (Or.inl ⟨by rfl,?hy10_23⟩) (by assumption) ?rest10_23
     case hy10_23=>(intro w hSw;(try dsimp only at hSw);go_simp;try (with_reducible rfl))
     try simp only [List.getElem_toArray,List.getElem_cons_succ,List.getElem_cons_zero,Act.put,List.setIfInBounds_toArray,List.set_cons_zero,List.set_cons_succ]
     refine wpAnyH_take (i:=24) (v:=undef) rfl (by kernel_rfl) (by kernel_rfl) (by kernel_rfl) (fun _ _ _ h=>h) (Or.inr ⟨by rfl,rfl⟩) (by assumption) ?_
     try simp only [List.getElem_toArray,List.getElem_cons_succ,List.getElem_cons_zero,Act.put,List.setIfInBounds_toArray,List.set_cons_zero,List.set_cons_succ]
     refine wpAnyH_take (i:=25) (v:=undef) rfl (by kernel_rfl) (by kernel_rfl) (by kernel_rfl) (fun _ _ _ h=>h) (Or.inr ⟨by rfl,rfl⟩) (by assumption) ?_
     try simp only [List.getElem_toArray,List.getElem_cons_succ,List.getElem_cons_zero,Act.put,List.setIfInBounds_toArray,List.set_cons_zero,List.set_cons_succ]
     refine wpAnyH_take (i:=26) (v:=undef) rfl (by kernel_rfl) (by kernel_rfl) (by kernel_rfl) (fun _ _ _ h=>h) (Or.inr ⟨by rfl,rfl⟩) (by assumption) ?_
     try simp only [List.getElem_toArray,List.getElem_cons_succ,List.getElem_cons_zero,Act.put,List.setIfInBounds_toArray,List.set_cons_zero,List.set_cons_succ]
     refine wpAnyH_take (i:=27) (v:=undef) rfl (by kernel_rfl) (by kernel_rfl) (by kernel_rfl) (fun _ _ _ h=>h) (Or.inr ⟨by rfl,rfl⟩) (by assumption) ?_
     try simp only [List.getElem_toArray,List.getElem_cons_succ,List.getElem_cons_zero,Act.put,List.setIfInBounds_toArray,List.set_cons_zero,List.set_cons_succ]
     refine wpAnyH_take (i:=28) (v:=undef) rfl (by kernel_rfl) (by kernel_rfl) (by kernel_rfl) (fun _ _ _ h=>h) (Or.inr ⟨by rfl,rfl⟩) (by assumption) ?_
     try simp only [List.getElem_toArray,List.getElem_cons_succ,List.getElem_cons_zero,Act.put,List.setIfInBounds_toArray,List.set_cons_zero,List.set_cons_succ]
     refine wpAnyH_take (i:=29) (v:=undef) rfl (by kernel_rfl) (by kernel_rfl) (by kernel_rfl) (fun _ _ _ h=>h) (Or.inr ⟨by rfl,rfl⟩) (by assumption) ?_
     try simp only [List.getElem_toArray,List.getElem_cons_succ,List.getElem_cons_zero,Act.put,List.setIfInBounds_toArray,List.set_cons_zero,List.set_cons_succ]
     refine wpAnyH_take (i:=30) (v:=undef) rfl (by kernel_rfl) (by kernel_rfl) (by kernel_rfl) (fun _ _ _ h=>h) (Or.inr ⟨by rfl,rfl⟩) (by assumption) ?_
     try simp only [List.getElem_toArray,List.getElem_cons_succ,List.getElem_cons_zero,Act.put,List.setIfInBounds_toArray,List.set_cons_zero,List.set_cons_succ]
     refine' wpAnyH_take (i:=31) (v:=_) rfl (by kernel_rfl) (by kernel_rfl) (by kernel_rfl) (fun _ _ _ h=>h) (Or.inl ⟨by rfl,?hy10_31⟩) (by assumption) ?rest10_31
     case hy10_31=>(intro w hSw;(try dsimp only at hSw);go_simp;try (with_reducible rfl))
     try simp only [List.getElem_toArray,List.getElem_cons_succ,List.getElem_cons_zero,Act.put,List.setIfInBounds_toArray,List.set_cons_zero,List.set_cons_succ]
     refine' wpAnyH_take (i:=32) (v:=_) rfl (by kernel_rfl) (by kernel_rfl) (by kernel_rfl) (fun _ _ _ h=>h) (Or.inl ⟨by rfl,?hy10_32⟩) (by assumption) ?rest10_32
     case hy10_32=>(intro w hSw;(try dsimp only at hSw);go_simp;try (with_reducible rfl))
     try simp only [List.getElem_toArray,List.getElem_cons_succ,List.getElem_cons_zero,Act.put,List.setIfInBounds_toArray,List.set_cons_zero,List.set_cons_succ]
     refine wpAnyH_take (i:=33) (v:=undef) rfl (by kernel_rfl) (by kernel_rfl) (by kernel_rfl) (fun _ _ _ h=>h) (Or.inr ⟨by rfl,rfl⟩) (by assumption) ?_
     try simp only [List.getElem_toArray,List.getElem_cons_succ,List.getElem_cons_zero,Act.put,List.setIfInBounds_toArray,List.set_cons_zero,List.set_cons_succ]
     refine wpAnyH_take (i:=34) (v:=undef) rfl (by kernel_rfl) (by kernel_rfl) (by kernel_rfl) (fun _ _ _ h=>h) (Or.inr ⟨by rfl,rfl⟩) (by assumption) ?_
     try simp only [List.getElem_toArray,List.getElem_cons_succ,List.getElem_cons_zero,Act.put,List.setIfInBounds_toArray,List.set_cons_zero,List.set_cons_succ]
     refine wpAnyH_take (i:=35) (v:=undef) rfl (by kernel_rfl) (by kernel_rfl) (by kernel_rfl) (fun _ _ _ h=>h) (Or.inr ⟨by rfl,rfl⟩) (by assumption) ?_
     try simp only [List.getElem_toArray,List.getElem_cons_succ,List.getElem_cons_zero,Act.put,List.setIfInBounds_toArray,List.set_cons_zero,List.set_cons_succ]
     refine wpAnyH_take (i:=36) (v:=undef) rfl (by kernel_rfl) (by kernel_rfl) (by kernel_rfl) (fun _ _ _ h=>h) (Or.inr ⟨by rfl,rfl⟩) (by assumption) ?_
     try simp only [List.getElem_toArray,List.getElem_cons_succ,List.getElem_cons_zero,Act.put,List.setIfInBounds_toArray,List.set_cons_zero,List.set_cons_succ]
     refine wpAnyH_take (i:=37) (v:=undef) rfl (by kernel_rfl) (by kernel_rfl) (by kernel_rfl) (fun _ _ _ h=>h) (Or.inr ⟨by rfl,rfl⟩) (by assumption) ?_
     try simp only [List.getElem_toArray,List.getElem_cons_succ,List.getElem_cons_zero,Act.put,List.setIfInBounds_toArray,List.set_cons_zero,List.set_cons_succ]
     refine wpAnyH_take (i:=38) (v:=undef) rfl (by kernel_rfl) (by kernel_rfl) (by kernel_rfl) (fun _ _ _ h=>h) (Or.inr ⟨by rfl,rfl⟩) (by assumption) ?_
     try simp only [List.getElem_toArray,List.getElem_cons_succ,List.getElem_cons_zero,Act.put,List.setIfInBounds_toArray,List.set_cons_zero,List.set_cons_succ]
     refine wpAnyH_take (i:=39) (v:=undef) rfl (by kernel_rfl) (by kernel_rfl) (by kernel_rfl) (fun _ _ _ h=>h) (Or.inr ⟨by rfl,rfl⟩) (by assumption) ?_
     try simp only [List.getElem_toArray,List.getElem_cons_succ,List.getElem_cons_zero,Act.put,List.setIfInBounds_toArray,List.set_cons_zero,List.set_cons_succ]
     refine' wpAnyH_take (i:=40) (v:=_) rfl (by kernel_rfl) (by kernel_rfl) (by kernel_rfl) (fun _ _ _ h=>h) (Or.inl ⟨by rfl,?hy10_40⟩) (by assumption) ?rest10_40
     case hy10_40=>(intro w hSw;(try dsimp only at hSw);go_simp;try (with_reducible rfl))
     try simp only [List.getElem_toArray,List.getElem_cons_succ,List.getElem_cons_zero,Act.put,List.setIfInBounds_toArray,List.set_cons_zero,List.set_cons_succ]
     refine wpAnyH_done (by kernel_rfl) ?_ _
     all_goals (go_wp2_with fail)
     all_goals (go_meet)
     all_goals (exact ⟨true,rfl,by assumption,by simp;exact h3'.out⟩)
    ·have n3I:¬ (nd:Int)=(nm:Int):=by omega
     have n3:((nd:Int) == (nm:Int))=false:=by rw [beq_eq_false_iff_ne];exact n3I
     have n3d:decide (nd=nm)=false:=decide_eq_false h3
     obtain ⟨z1,z2⟩:=HTO.out (HFL.out.2 ⟨rfl,rfl,h3⟩)
     have n4I:¬ (sd:Int)=(d:Int):=by omega
     have n4:((sd:Int) == (d:Int))=false:=by rw [beq_eq_false_iff_ne];exact n4I
     have n4d:decide (sd=d)=false:=decide_eq_false z1
     have n5I:¬ (sm:Int)=(m:Int):=by omega
     have n5:((sm:Int) == (m:Int))=false:=by rw [beq_eq_false_iff_ne];exact n5I
     have n5d:decide (sm=m)=false:=decide_eq_false z2
     have h3':Hid (nd≠nm):=h3
     clear z1 z2 h3
     go_region_held3 (fun W=>Below w8.heap.size w8 W∧W.cell? ⟨gN,d,none⟩=some (.int .i64 (nd:Int))∧W.cell? ⟨gN,m,none⟩=some (.int .i64 (nm:Int))∧W.cell? ⟨w.heap.size,0,none⟩=some (.slice (some ⟨ba,oA,none⟩) n c)∧W.cell? ⟨ba,oA+d,none⟩=some (.int .i64 (sd:Int))∧W.cell? ⟨ba,oA+m,none⟩=some (.int .i64 (sm:Int))) (exact SX.out _ (by assumption)) (first
      | (go_at_call 65;(with_reducible refine (OD8.out _ (by assumption)).mono ?_);rintro en waOD8 ⟨A9OD8,c9OD8,rfl,hbaOD8⟩)
      | (go_at_call 65;(with_reducible refine (OM8.out _ (by assumption)).mono ?_);rintro en waOM8 ⟨A9OM8,c9OM8,rfl,hbaOM8⟩))
     all_goals (go_wp2_with fail)
     all_goals (go_meet)
     all_goals (exact ⟨false,rfl,by assumption,by simp;exact h3'.out⟩)
   ·have n2I:¬ (tm:Int)=3:=by omega
    have n2:((tm:Int) != 3)=true:=by rw [bne_iff_ne];exact n2I
    have n2d:decide (tm=3)=false:=decide_eq_false h2
    have h2':Hid (tm≠3):=h2
    clear h2
    refine wp_region_held_drew (S:=fun W=>Below w8.heap.size w8 W∧W.cell? ⟨gN,d,none⟩=some (.int .i64 (nd:Int))∧W.cell? ⟨gN,m,none⟩=some (.int .i64 (nm:Int))∧W.cell? ⟨w.heap.size,0,none⟩=some (.slice (some ⟨ba,oA,none⟩) n c)∧W.cell? ⟨ba,oA+d,none⟩=some (.int .i64 (sd:Int))∧W.cell? ⟨ba,oA+m,none⟩=some (.int .i64 (sm:Int))) (by kernel_rfl) (SX.out _ (by assumption)) (fun hHeld=>?_)
    refine' wpAnyH_take (i:=0) (v:=_) rfl (by kernel_rfl) (by kernel_rfl) (by kernel_rfl) (fun _ _ _ h=>h) (Or.inl ⟨by rfl,?hy8_0⟩) (by assumption) ?rest8_0
    case hy8_0=>(intro w hSw;(try dsimp only at hSw);go_simp;try (with_reducible rfl))
    try simp only [List.getElem_toArray,List.getElem_cons_succ,List.getElem_cons_zero,Act.put,List.setIfInBounds_toArray,List.set_cons_zero,List.set_cons_succ]
    refine' wpAnyH_take (i:=1) (v:=_) rfl (by kernel_rfl) (by kernel_rfl) (by kernel_rfl) (fun _ _ _ h=>h) (Or.inl ⟨by rfl,?hy8_1⟩) (by assumption) ?rest8_1
    case hy8_1=>(intro w hSw;(try dsimp only at hSw);go_simp;try (with_reducible rfl))
    try simp only [List.getElem_toArray,List.getElem_cons_succ,List.getElem_cons_zero,Act.put,List.setIfInBounds_toArray,List.set_cons_zero,List.set_cons_succ]
    refine wpAnyH_ready (rs:=[2]) (by kernel_rfl) (by simp) ?_
    refine AllReadyH.cons rfl (fun K hK=>?_) AllReadyH.nil
    go_simp
    (go_at_call 65;(with_reducible refine (OD8.out _ (by assumption)).mono ?_);rintro en waOD8 ⟨A9OD8,c9OD8,rfl,hbaOD8⟩)
    go_wp2_with fail
    refine hK.out _ _ ?_ (fun hHeld=>?_)
    ·((try dsimp only);exact SX.out _ (by assumption))
    clear hK K
    try simp only [List.getElem_toArray,List.getElem_cons_succ,List.getElem_cons_zero,Act.put,List.setIfInBounds_toArray,List.set_cons_zero,List.set_cons_succ]
    refine' wpAnyH_take (i:=3) (v:=_) rfl (by kernel_rfl) (by kernel_rfl) (by kernel_rfl) (fun _ _ _ h=>h) (Or.inl ⟨by rfl,?hy8_3⟩) (by assumption) ?rest8_3
    case hy8_3=>(intro w hSw;(try dsimp only at hSw);go_simp;try (with_reducible rfl))
    try simp only [List.getElem_toArray,List.getElem_cons_succ,List.getElem_cons_zero,Act.put,List.setIfInBounds_toArray,List.set_cons_zero,List.set_cons_succ]
    refine' wpAnyH_take (i:=4) (v:=_) rfl (by kernel_rfl) (by kernel_rfl) (by kernel_rfl) (fun _ _ _ h=>h) (Or.inl ⟨by rfl,?hy8_4⟩) (by assumption) ?rest8_4
    case hy8_4=>(intro w hSw;(try dsimp only at hSw);go_simp;try (with_reducible rfl))
    try simp only [List.getElem_toArray,List.getElem_cons_succ,List.getElem_cons_zero,Act.put,List.setIfInBounds_toArray,List.set_cons_zero,List.set_cons_succ]
    refine' wpAnyH_take (i:=5) (v:=_) rfl (by kernel_rfl) (by kernel_rfl) (by kernel_rfl) (fun _ _ _ h=>h) (Or.inl ⟨by rfl,?hy8_5⟩) (by assumption) ?rest8_5
    case hy8_5=>(intro w hSw;(try dsimp only at hSw);go_simp;try (with_reducible rfl))
    try simp only [List.getElem_toArray,List.getElem_cons_succ,List.getElem_cons_zero,Act.put,List.setIfInBounds_toArray,List.set_cons_zero,List.set_cons_succ]
    refine' wpAnyH_take (i:=6) (v:=_) rfl (by kernel_rfl) (by kernel_rfl) (by kernel_rfl) (fun _ _ _ h=>h) (Or.inl ⟨by rfl,?hy8_6⟩) (by assumption) ?rest8_6
    case hy8_6=>(intro w hSw;(try dsimp only at hSw);go_simp;try (with_reducible rfl))
    try simp only [List.getElem_toArray,List.getElem_cons_succ,List.getElem_cons_zero,Act.put,List.setIfInBounds_toArray,List.set_cons_zero,List.set_cons_succ]
    refine' wpAnyH_take (i:=7) (v:=_) rfl (by kernel_rfl) (by kernel_rfl) (by kernel_rfl) (fun _ _ _ h=>h) (Or.inl ⟨by rfl,?hy8_7⟩) (by assumption) ?rest8_7
    case hy8_7=>(intro w hSw;(try dsimp only at hSw);go_simp;try (with_reducible rfl))
    try simp only [List.getElem_toArray,List.getElem_cons_succ,List.getElem_cons_zero,Act.put,List.setIfInBounds_toArray,List.set_cons_zero,List.set_cons_succ]
    refine wpAnyH_ready (rs:=[8]) (by kernel_rfl) (by simp) ?_
    refine AllReadyH.cons rfl (fun K hK=>?_) AllReadyH.nil
    go_simp
    (go_at_call 65;(with_reducible refine (OM8.out _ (by assumption)).mono ?_);rintro en waOM8 ⟨A9OM8,c9OM8,rfl,hbaOM8⟩)
    go_wp2_with fail
    refine hK.out _ _ ?_ (fun hHeld=>?_)
    ·((try dsimp only);exact SX.out _ (by assumption))
    clear hK K
    try simp only [List.getElem_toArray,List.getElem_cons_succ,List.getElem_cons_zero,Act.put,List.setIfInBounds_toArray,List.set_cons_zero,List.set_cons_succ]
    refine' wpAnyH_take (i:=9) (v:=_) rfl (by kernel_rfl) (by kernel_rfl) (by kernel_rfl) (fun _ _ _ h=>h) (Or.inl ⟨by rfl,?hy8_9⟩) (by assumption) ?rest8_9
    case hy8_9=>(intro w hSw;(try dsimp only at hSw);go_simp;try (with_reducible rfl))
    try simp only [List.getElem_toArray,List.getElem_cons_succ,List.getElem_cons_zero,Act.put,List.setIfInBounds_toArray,List.set_cons_zero,List.set_cons_succ]
    refine' wpAnyH_take (i:=10) (v:=_) rfl (by kernel_rfl) (by kernel_rfl) (by kernel_rfl) (fun _ _ _ h=>h) (Or.inl ⟨by rfl,?hy8_10⟩) (by assumption) ?rest8_10
    case hy8_10=>(intro w hSw;(try dsimp only at hSw);go_simp;try (with_reducible rfl))
    try simp only [List.getElem_toArray,List.getElem_cons_succ,List.getElem_cons_zero,Act.put,List.setIfInBounds_toArray,List.set_cons_zero,List.set_cons_succ]
    refine' wpAnyH_take (i:=11) (v:=_) rfl (by kernel_rfl) (by kernel_rfl) (by kernel_rfl) (fun _ _ _ h=>h) (Or.inl ⟨by rfl,?hy8_11⟩) (by assumption) ?rest8_11
    case hy8_11=>(intro w hSw;(try dsimp only at hSw);go_simp;try (with_reducible rfl))
    try simp only [List.getElem_toArray,List.getElem_cons_succ,List.getElem_cons_zero,Act.put,List.setIfInBounds_toArray,List.set_cons_zero,List.set_cons_succ]
    refine' wpAnyH_take (i:=12) (v:=_) rfl (by kernel_rfl) (by kernel_rfl) (by kernel_rfl) (fun _ _ _ h=>h) (Or.inl ⟨by rfl,?hy8_12⟩) (by assumption) ?rest8_12
    case hy8_12=>(intro w hSw;(try dsimp only at hSw);go_simp;try (with_reducible rfl))
    try simp only [List.getElem_toArray,List.getElem_cons_succ,List.getElem_cons_zero,Act.put,List.setIfInBounds_toArray,List.set_cons_zero,List.set_cons_succ]
    refine wpAnyH_take (i:=13) (v:=undef) rfl (by kernel_rfl) (by kernel_rfl) (by kernel_rfl) (fun _ _ _ h=>h) (Or.inr ⟨by rfl,rfl⟩) (by assumption) ?_
    try simp only [List.getElem_toArray,List.getElem_cons_succ,List.getElem_cons_zero,Act.put,List.setIfInBounds_toArray,List.set_cons_zero,List.set_cons_succ]
    refine wpAnyH_take (i:=14) (v:=undef) rfl (by kernel_rfl) (by kernel_rfl) (by kernel_rfl) (fun _ _ _ h=>h) (Or.inr ⟨by rfl,rfl⟩) (by assumption) ?_
    try simp only [List.getElem_toArray,List.getElem_cons_succ,List.getElem_cons_zero,Act.put,List.setIfInBounds_toArray,List.set_cons_zero,List.set_cons_succ]
    refine wpAnyH_take (i:=15) (v:=undef) rfl (by kernel_rfl) (by kernel_rfl) (by kernel_rfl) (fun _ _ _ h=>h) (Or.inr ⟨by rfl,rfl⟩) (by assumption) ?_
    try simp only [List.getElem_toArray,List.getElem_cons_succ,List.getElem_cons_zero,Act.put,List.setIfInBounds_toArray,List.set_cons_zero,List.set_cons_succ]
    refine wpAnyH_take (i:=16) (v:=undef) rfl (by kernel_rfl) (by kernel_rfl) (by kernel_rfl) (fun _ _ _ h=>h) (Or.inr ⟨by rfl,rfl⟩) (by assumption) ?_
    try simp only [List.getElem_toArray,List.getElem_cons_succ,List.getElem_cons_zero,Act.put,List.setIfInBounds_toArray,List.set_cons_zero,List.set_cons_succ]
    refine wpAnyH_take (i:=17) (v:=undef) rfl (by kernel_rfl) (by kernel_rfl) (by kernel_rfl) (fun _ _ _ h=>h) (Or.inr ⟨by rfl,rfl⟩) (by assumption) ?_
    try simp only [List.getElem_toArray,List.getElem_cons_succ,List.getElem_cons_zero,Act.put,List.setIfInBounds_toArray,List.set_cons_zero,List.set_cons_succ]
    refine wpAnyH_take (i:=18) (v:=undef) rfl (by kernel_rfl) (by kernel_rfl) (by kernel_rfl) (fun _ _ _ h=>h) (Or.inr ⟨by rfl,rfl⟩) (by assumption) ?_
    try simp only [List.getElem_toArray,List.getElem_cons_succ,List.getElem_cons_zero,Act.put,List.setIfInBounds_toArray,List.set_cons_zero,List.set_cons_succ]
    refine wpAnyH_take (i:=19) (v:=undef) rfl (by kernel_rfl) (by kernel_rfl) (by kernel_rfl) (fun _ _ _ h=>h) (Or.inr ⟨by rfl,rfl⟩) (by assumption) ?_
    try simp only [List.getElem_toArray,List.getElem_cons_succ,List.getElem_cons_zero,Act.put,List.setIfInBounds_toArray,List.set_cons_zero,List.set_cons_succ]
    refine wpAnyH_take (i:=20) (v:=undef) rfl (by kernel_rfl) (by kernel_rfl) (by kernel_rfl) (fun _ _ _ h=>h) (Or.inr ⟨by rfl,rfl⟩) (by assumption) ?_
    try simp only [List.getElem_toArray,List.getElem_cons_succ,List.getElem_cons_zero,Act.put,List.setIfInBounds_toArray,List.set_cons_zero,List.set_cons_succ]
    refine wpAnyH_take (i:=21) (v:=undef) rfl (by kernel_rfl) (by kernel_rfl) (by kernel_rfl) (fun _ _ _ h=>h) (Or.inr ⟨by rfl,rfl⟩) (by assumption) ?_
    try simp only [List.getElem_toArray,List.getElem_cons_succ,List.getElem_cons_zero,Act.put,List.setIfInBounds_toArray,List.set_cons_zero,List.set_cons_succ]
    refine' wpAnyH_take (i:=22) (v:=_) rfl (by kernel_rfl) (by kernel_rfl) (by kernel_rfl) (fun _ _ _ h=>h) (Or.inl ⟨by rfl,?hy8_22⟩) (by assumption) ?rest8_22
    case hy8_22=>(intro w hSw;(try dsimp only at hSw);go_simp;try (with_reducible rfl))
    try simp only [List.getElem_toArray,List.getElem_cons_succ,List.getElem_cons_zero,Act.put,List.setIfInBounds_toArray,List.set_cons_zero,List.set_cons_succ]
    refine' wpAnyH_take (i:=23) (v:=_) rfl (by kernel_rfl) (by kernel_rfl) (by kernel_rfl) (fun _ _ _ h=>h) (Or.inl ⟨by rfl,?hy8_23⟩) (by assumption) ?rest8_23
    case hy8_23=>(intro w hSw;(try dsimp only at hSw);go_simp;try (with_reducible rfl))
    try simp only [List.getElem_toArray,List.getElem_cons_succ,List.getElem_cons_zero,Act.put,List.setIfInBounds_toArray,List.set_cons_zero,List.set_cons_succ]
    refine wpAnyH_take (i:=24) (v:=undef) rfl (by kernel_rfl) (by kernel_rfl) (by kernel_rfl) (fun _ _ _ h=>h) (Or.inr ⟨by rfl,rfl⟩) (by assumption) ?_
    try simp only [List.getElem_toArray,List.getElem_cons_succ,List.getElem_cons_zero,Act.put,List.setIfInBounds_toArray,List.set_cons_zero,List.set_cons_succ]
    refine wpAnyH_take (i:=25) (v:=undef) rfl (by kernel_rfl) (by kernel_rfl) (by kernel_rfl) (fun _ _ _ h=>h) (Or.inr ⟨by rfl,rfl⟩) (by assumption) ?_
    try simp only [List.getElem_toArray,List.getElem_cons_succ,List.getElem_cons_zero,Act.put,List.setIfInBounds_toArray,List.set_cons_zero,List.set_cons_succ]
    refine wpAnyH_take (i:=26) (v:=undef) rfl (by kernel_rfl) (by kernel_rfl) (by kernel_rfl) (fun _ _ _ h=>h) (Or.inr ⟨by rfl,rfl⟩) (by assumption) ?_
    try simp only [List.getElem_toArray,List.getElem_cons_succ,List.getElem_cons_zero,Act.put,List.setIfInBounds_toArray,List.set_cons_zero,List.set_cons_succ]
    refine wpAnyH_take (i:=27) (v:=undef) rfl (by kernel_rfl) (by kernel_rfl) (by kernel_rfl) (fun _ _ _ h=>h) (Or.inr ⟨by rfl,rfl⟩) (by assumption) ?_
    try simp only [List.getElem_toArray,List.getElem_cons_succ,List.getElem_cons_zero,Act.put,List.setIfInBounds_toArray,List.set_cons_zero,List.set_cons_succ]
    refine wpAnyH_take (i:=28) (v:=undef) rfl (by kernel_rfl) (by kernel_rfl) (by kernel_rfl) (fun _ _ _ h=>h) (Or.inr ⟨by rfl,rfl⟩) (by assumption) ?_
    try simp only [List.getElem_toArray,List.getElem_cons_succ,List.getElem_cons_zero,Act.put,List.setIfInBounds_toArray,List.set_cons_zero,List.set_cons_succ]
    refine wpAnyH_take (i:=29) (v:=undef) rfl (by kernel_rfl) (by kernel_rfl) (by kernel_rfl) (fun _ _ _ h=>h) (Or.inr ⟨by rfl,rfl⟩) (by assumption) ?_
    try simp only [List.getElem_toArray,List.getElem_cons_succ,List.getElem_cons_zero,Act.put,List.setIfInBounds_toArray,List.set_cons_zero,List.set_cons_succ]
    refine wpAnyH_take (i:=30) (v:=undef) rfl (by kernel_rfl) (by kernel_rfl) (by kernel_rfl) (fun _ _ _ h=>h) (Or.inr ⟨by rfl,rfl⟩) (by assumption) ?_
    try simp only [List.getElem_toArray,List.getElem_cons_succ,List.getElem_cons_zero,Act.put,List.setIfInBounds_toArray,List.set_cons_zero,List.set_cons_succ]
    refine' wpAnyH_take (i:=31) (v:=_) rfl (by kernel_rfl) (by kernel_rfl) (by kernel_rfl) (fun _ _ _ h=>h) (Or.inl ⟨by rfl,?hy8_31⟩) (by assumption) ?rest8_31
    case hy8_31=>(intro w hSw;(try dsimp only at hSw);go_simp;try (with_reducible rfl))
    try simp only [List.getElem_toArray,List.getElem_cons_succ,List.getElem_cons_zero,Act.put,List.setIfInBounds_toArray,List.set_cons_zero,List.set_cons_succ]
    refine' wpAnyH_take (i:=32) (v:=_) rfl (by kernel_rfl) (by kernel_rfl) (by kernel_rfl) (fun _ _ _ h=>h) (Or.inl ⟨by rfl,?hy8_32⟩) (by assumption) ?rest8_32
    case hy8_32=>(intro w hSw;(try dsimp only at hSw);go_simp;try (with_reducible rfl))
    try simp only [List.getElem_toArray,List.getElem_cons_succ,List.getElem_cons_zero,Act.put,List.setIfInBounds_toArray,List.set_cons_zero,List.set_cons_succ]
    refine wpAnyH_take (i:=33) (v:=undef) rfl (by kernel_rfl) (by kernel_rfl) (by kernel_rfl) (fun _ _ _ h=>h) (Or.inr ⟨by rfl,rfl⟩) (by assumption) ?_
    try simp only [List.getElem_toArray,List.getElem_cons_succ,List.getElem_cons_zero,Act.put,List.setIfInBounds_toArray,List.set_cons_zero,List.set_cons_succ]
    refine wpAnyH_take (i:=34) (v:=undef) rfl (by kernel_rfl) (by kernel_rfl) (by kernel_rfl) (fun _ _ _ h=>h) (Or.inr ⟨by rfl,rfl⟩) (by assumption) ?_
    try simp only [List.getElem_toArray,List.getElem_cons_succ,List.getElem_cons_zero,Act.put,List.setIfInBounds_toArray,List.set_cons_zero,List.set_cons_succ]
    refine wpAnyH_take (i:=35) (v:=undef) rfl (by kernel_rfl) (by kernel_rfl) (by kernel_rfl) (fun _ _ _ h=>h) (Or.inr ⟨by rfl,rfl⟩) (by assumption) ?_
    try simp only [List.getElem_toArray,List.getElem_cons_succ,List.getElem_cons_zero,Act.put,List.setIfInBounds_toArray,List.set_cons_zero,List.set_cons_succ]
    refine wpAnyH_take (i:=36) (v:=undef) rfl (by kernel_rfl) (by kernel_rfl) (by kernel_rfl) (fun _ _ _ h=>h) (Or.inr ⟨by rfl,rfl⟩) (by assumption) ?_
    try simp only [List.getElem_toArray,List.getElem_cons_succ,List.getElem_cons_zero,Act.put,List.setIfInBounds_toArray,List.set_cons_zero,List.set_cons_succ]
    refine wpAnyH_take (i:=37) (v:=undef) rfl (by kernel_rfl) (by kernel_rfl) (by kernel_rfl) (fun _ _ _ h=>h) (Or.inr ⟨by rfl,rfl⟩) (by assumption) ?_
    try simp only [List.getElem_toArray,List.getElem_cons_succ,List.getElem_cons_zero,Act.put,List.setIfInBounds_toArray,List.set_cons_zero,List.set_cons_succ]
    refine wpAnyH_take (i:=38) (v:=undef) rfl (by kernel_rfl) (by kernel_rfl) (by kernel_rfl) (fun _ _ _ h=>h) (Or.inr ⟨by rfl,rfl⟩) (by assumption) ?_
    try simp only [List.getElem_toArray,List.getElem_cons_succ,List.getElem_cons_zero,Act.put,List.setIfInBounds_toArray,List.set_cons_zero,List.set_cons_succ]
    refine wpAnyH_take (i:=39) (v:=undef) rfl (by kernel_rfl) (by kernel_rfl) (by kernel_rfl) (fun _ _ _ h=>h) (Or.inr ⟨by rfl,rfl⟩) (by assumption) ?_
    try simp only [List.getElem_toArray,List.getElem_cons_succ,List.getElem_cons_zero,Act.put,List.setIfInBounds_toArray,List.set_cons_zero,List.set_cons_succ]
    refine' wpAnyH_take (i:=40) (v:=_) rfl (by kernel_rfl) (by kernel_rfl) (by kernel_rfl) (fun _ _ _ h=>h) (Or.inl ⟨by rfl,?hy8_40⟩) (by assumption) ?rest8_40
    case hy8_40=>(intro w hSw;(try dsimp only at hSw);go_simp;try (with_reducible rfl))
    try simp only [List.getElem_toArray,List.getElem_cons_succ,List.getElem_cons_zero,Act.put,List.setIfInBounds_toArray,List.set_cons_zero,List.set_cons_succ]
    refine wpAnyH_done (by kernel_rfl) ?_ _
    all_goals (go_wp2_with fail)
    all_goals (go_meet)
    all_goals (exact ⟨true,rfl,by assumption,by simp;intro q;exact absurd q h2'.out⟩)
  ·have n1I:¬ (td:Int)=3:=by omega
   have n1:((td:Int) != 3)=true:=by rw [bne_iff_ne];exact n1I
   have n1d:decide (td=3)=false:=decide_eq_false h1
   have h1':Hid (td≠3):=h1
   clear h1
   refine wp_region_held_drew (S:=fun W=>Below w8.heap.size w8 W∧W.cell? ⟨gN,d,none⟩=some (.int .i64 (nd:Int))∧W.cell? ⟨gN,m,none⟩=some (.int .i64 (nm:Int))∧W.cell? ⟨w.heap.size,0,none⟩=some (.slice (some ⟨ba,oA,none⟩) n c)∧W.cell? ⟨ba,oA+d,none⟩=some (.int .i64 (sd:Int))∧W.cell? ⟨ba,oA+m,none⟩=some (.int .i64 (sm:Int))) (by kernel_rfl) (SX.out _ (by assumption)) (fun hHeld=>?_)
   refine' wpAnyH_take (i:=0) (v:=_) rfl (by kernel_rfl) (by kernel_rfl) (by kernel_rfl) (fun _ _ _ h=>h) (Or.inl ⟨by rfl,?hy6_0⟩) (by assumption) ?rest6_0
   case hy6_0=>(intro w hSw;(try dsimp only at hSw);go_simp;try (with_reducible rfl))
   try simp only [List.getElem_toArray,List.getElem_cons_succ,List.getElem_cons_zero,Act.put,List.setIfInBounds_toArray,List.set_cons_zero,List.set_cons_succ]
   refine' wpAnyH_take (i:=1) (v:=_) rfl (by kernel_rfl) (by kernel_rfl) (by kernel_rfl) (fun _ _ _ h=>h) (Or.inl ⟨by rfl,?hy6_1⟩) (by assumption) ?rest6_1
   case hy6_1=>(intro w hSw;(try dsimp only at hSw);go_simp;try (with_reducible rfl))
   try simp only [List.getElem_toArray,List.getElem_cons_succ,List.getElem_cons_zero,Act.put,List.setIfInBounds_toArray,List.set_cons_zero,List.set_cons_succ]
   refine wpAnyH_ready (rs:=[2]) (by kernel_rfl) (by simp) ?_
   refine AllReadyH.cons rfl (fun K hK=>?_) AllReadyH.nil
   go_simp
   (go_at_call 65;(with_reducible refine (OD8.out _ (by assumption)).mono ?_);rintro en waOD8 ⟨A9OD8,c9OD8,rfl,hbaOD8⟩)
   go_wp2_with fail
   refine hK.out _ _ ?_ (fun hHeld=>?_)
   ·((try dsimp only);exact SX.out _ (by assumption))
   clear hK K
   try simp only [List.getElem_toArray,List.getElem_cons_succ,List.getElem_cons_zero,Act.put,List.setIfInBounds_toArray,List.set_cons_zero,List.set_cons_succ]
   refine' wpAnyH_take (i:=3) (v:=_) rfl (by kernel_rfl) (by kernel_rfl) (by kernel_rfl) (fun _ _ _ h=>h) (Or.inl ⟨by rfl,?hy6_3⟩) (by assumption) ?rest6_3
   case hy6_3=>(intro w hSw;(try dsimp only at hSw);go_simp;try (with_reducible rfl))
   try simp only [List.getElem_toArray,List.getElem_cons_succ,List.getElem_cons_zero,Act.put,List.setIfInBounds_toArray,List.set_cons_zero,List.set_cons_succ]
   refine' wpAnyH_take (i:=4) (v:=_) rfl (by kernel_rfl) (by kernel_rfl) (by kernel_rfl) (fun _ _ _ h=>h) (Or.inl ⟨by rfl,?hy6_4⟩) (by assumption) ?rest6_4
   case hy6_4=>(intro w hSw;(try dsimp only at hSw);go_simp;try (with_reducible rfl))
   try simp only [List.getElem_toArray,List.getElem_cons_succ,List.getElem_cons_zero,Act.put,List.setIfInBounds_toArray,List.set_cons_zero,List.set_cons_succ]
   refine' wpAnyH_take (i:=5) (v:=_) rfl (by kernel_rfl) (by kernel_rfl) (by kernel_rfl) (fun _ _ _ h=>h) (Or.inl ⟨by rfl,?hy6_5⟩) (by assumption) ?rest6_5
   case hy6_5=>(intro w hSw;(try dsimp only at hSw);go_simp;try (with_reducible rfl))
   try simp only [List.getElem_toArray,List.getElem_cons_succ,List.getElem_cons_zero,Act.put,List.setIfInBounds_toArray,List.set_cons_zero,List.set_cons_succ]
   refine wpAnyH_take (i:=6) (v:=undef) rfl (by kernel_rfl) (by kernel_rfl) (by kernel_rfl) (fun _ _ _ h=>h) (Or.inr ⟨by rfl,rfl⟩) (by assumption) ?_
   try simp only [List.getElem_toArray,List.getElem_cons_succ,List.getElem_cons_zero,Act.put,List.setIfInBounds_toArray,List.set_cons_zero,List.set_cons_succ]
   refine wpAnyH_take (i:=7) (v:=undef) rfl (by kernel_rfl) (by kernel_rfl) (by kernel_rfl) (fun _ _ _ h=>h) (Or.inr ⟨by rfl,rfl⟩) (by assumption) ?_
   try simp only [List.getElem_toArray,List.getElem_cons_succ,List.getElem_cons_zero,Act.put,List.setIfInBounds_toArray,List.set_cons_zero,List.set_cons_succ]
   refine wpAnyH_take (i:=8) (v:=undef) rfl (by kernel_rfl) (by kernel_rfl) (by kernel_rfl) (fun _ _ _ h=>h) (Or.inr ⟨by rfl,rfl⟩) (by assumption) ?_
   try simp only [List.getElem_toArray,List.getElem_cons_succ,List.getElem_cons_zero,Act.put,List.setIfInBounds_toArray,List.set_cons_zero,List.set_cons_succ]
   refine wpAnyH_take (i:=9) (v:=undef) rfl (by kernel_rfl) (by kernel_rfl) (by kernel_rfl) (fun _ _ _ h=>h) (Or.inr ⟨by rfl,rfl⟩) (by assumption) ?_
   try simp only [List.getElem_toArray,List.getElem_cons_succ,List.getElem_cons_zero,Act.put,List.setIfInBounds_toArray,List.set_cons_zero,List.set_cons_succ]
   refine wpAnyH_take (i:=10) (v:=undef) rfl (by kernel_rfl) (by kernel_rfl) (by kernel_rfl) (fun _ _ _ h=>h) (Or.inr ⟨by rfl,rfl⟩) (by assumption) ?_
   try simp only [List.getElem_toArray,List.getElem_cons_succ,List.getElem_cons_zero,Act.put,List.setIfInBounds_toArray,List.set_cons_zero,List.set_cons_succ]
   refine' wpAnyH_take (i:=11) (v:=_) rfl (by kernel_rfl) (by kernel_rfl) (by kernel_rfl) (fun _ _ _ h=>h) (Or.inl ⟨by rfl,?hy6_11⟩) (by assumption) ?rest6_11
   case hy6_11=>(intro w hSw;(try dsimp only at hSw);go_simp;try (with_reducible rfl))
   try simp only [List.getElem_toArray,List.getElem_cons_succ,List.getElem_cons_zero,Act.put,List.setIfInBounds_toArray,List.set_cons_zero,List.set_cons_succ]
   refine' wpAnyH_take (i:=12) (v:=_) rfl (by kernel_rfl) (by kernel_rfl) (by kernel_rfl) (fun _ _ _ h=>h) (Or.inl ⟨by rfl,?hy6_12⟩) (by assumption) ?rest6_12
   case hy6_12=>(intro w hSw;(try dsimp only at hSw);go_simp;try (with_reducible rfl))
   try simp only [List.getElem_toArray,List.getElem_cons_succ,List.getElem_cons_zero,Act.put,List.setIfInBounds_toArray,List.set_cons_zero,List.set_cons_succ]
   refine wpAnyH_take (i:=13) (v:=undef) rfl (by kernel_rfl) (by kernel_rfl) (by kernel_rfl) (fun _ _ _ h=>h) (Or.inr ⟨by rfl,rfl⟩) (by assumption) ?_
   try simp only [List.getElem_toArray,List.getElem_cons_succ,List.getElem_cons_zero,Act.put,List.setIfInBounds_toArray,List.set_cons_zero,List.set_cons_succ]
   refine wpAnyH_take (i:=14) (v:=undef) rfl (by kernel_rfl) (by kernel_rfl) (by kernel_rfl) (fun _ _ _ h=>h) (Or.inr ⟨by rfl,rfl⟩) (by assumption) ?_
   try simp only [List.getElem_toArray,List.getElem_cons_succ,List.getElem_cons_zero,Act.put,List.setIfInBounds_toArray,List.set_cons_zero,List.set_cons_succ]
   refine wpAnyH_take (i:=15) (v:=undef) rfl (by kernel_rfl) (by kernel_rfl) (by kernel_rfl) (fun _ _ _ h=>h) (Or.inr ⟨by rfl,rfl⟩) (by assumption) ?_
   try simp only [List.getElem_toArray,List.getElem_cons_succ,List.getElem_cons_zero,Act.put,List.setIfInBounds_toArray,List.set_cons_zero,List.set_cons_succ]
   refine wpAnyH_take (i:=16) (v:=undef) rfl (by kernel_rfl) (by kernel_rfl) (by kernel_rfl) (fun _ _ _ h=>h) (Or.inr ⟨by rfl,rfl⟩) (by assumption) ?_
   try simp only [List.getElem_toArray,List.getElem_cons_succ,List.getElem_cons_zero,Act.put,List.setIfInBounds_toArray,List.set_cons_zero,List.set_cons_succ]
   refine wpAnyH_take (i:=17) (v:=undef) rfl (by kernel_rfl) (by kernel_rfl) (by kernel_rfl) (fun _ _ _ h=>h) (Or.inr ⟨by rfl,rfl⟩) (by assumption) ?_
   try simp only [List.getElem_toArray,List.getElem_cons_succ,List.getElem_cons_zero,Act.put,List.setIfInBounds_toArray,List.set_cons_zero,List.set_cons_succ]
   refine wpAnyH_take (i:=18) (v:=undef) rfl (by kernel_rfl) (by kernel_rfl) (by kernel_rfl) (fun _ _ _ h=>h) (Or.inr ⟨by rfl,rfl⟩) (by assumption) ?_
   try simp only [List.getElem_toArray,List.getElem_cons_succ,List.getElem_cons_zero,Act.put,List.setIfInBounds_toArray,List.set_cons_zero,List.set_cons_succ]
   refine wpAnyH_take (i:=19) (v:=undef) rfl (by kernel_rfl) (by kernel_rfl) (by kernel_rfl) (fun _ _ _ h=>h) (Or.inr ⟨by rfl,rfl⟩) (by assumption) ?_
   try simp only [List.getElem_toArray,List.getElem_cons_succ,List.getElem_cons_zero,Act.put,List.setIfInBounds_toArray,List.set_cons_zero,List.set_cons_succ]
   refine wpAnyH_take (i:=20) (v:=undef) rfl (by kernel_rfl) (by kernel_rfl) (by kernel_rfl) (fun _ _ _ h=>h) (Or.inr ⟨by rfl,rfl⟩) (by assumption) ?_
   try simp only [List.getElem_toArray,List.getElem_cons_succ,List.getElem_cons_zero,Act.put,List.setIfInBounds_toArray,List.set_cons_zero,List.set_cons_succ]
   refine wpAnyH_take (i:=21) (v:=undef) rfl (by kernel_rfl) (by kernel_rfl) (by kernel_rfl) (fun _ _ _ h=>h) (Or.inr ⟨by rfl,rfl⟩) (by assumption) ?_
   try simp only [List.getElem_toArray,List.getElem_cons_succ,List.getElem_cons_zero,Act.put,List.setIfInBounds_toArray,List.set_cons_zero,List.set_cons_succ]
   refine' wpAnyH_take (i:=22) (v:=_) rfl (by kernel_rfl) (by kernel_rfl) (by kernel_rfl) (fun _ _ _ h=>h) (Or.inl ⟨by rfl,?hy6_22⟩) (by assumption) ?rest6_22
   case hy6_22=>(intro w hSw;(try dsimp only at hSw);go_simp;try (with_reducible rfl))
   try simp only [List.getElem_toArray,List.getElem_cons_succ,List.getElem_cons_zero,Act.put,List.setIfInBounds_toArray,List.set_cons_zero,List.set_cons_succ]
   refine' wpAnyH_take (i:=23) (v:=_) rfl (by kernel_rfl) (by kernel_rfl) (by kernel_rfl) (fun _ _ _ h=>h) (Or.inl ⟨by rfl,?hy6_23⟩) (by assumption) ?rest6_23
   case hy6_23=>(intro w hSw;(try dsimp only at hSw);go_simp;try (with_reducible rfl))
   try simp only [List.getElem_toArray,List.getElem_cons_succ,List.getElem_cons_zero,Act.put,List.setIfInBounds_toArray,List.set_cons_zero,List.set_cons_succ]
   refine wpAnyH_take (i:=24) (v:=undef) rfl (by kernel_rfl) (by kernel_rfl) (by kernel_rfl) (fun _ _ _ h=>h) (Or.inr ⟨by rfl,rfl⟩) (by assumption) ?_
   try simp only [List.getElem_toArray,List.getElem_cons_succ,List.getElem_cons_zero,Act.put,List.setIfInBounds_toArray,List.set_cons_zero,List.set_cons_succ]
   refine wpAnyH_take (i:=25) (v:=undef) rfl (by kernel_rfl) (by kernel_rfl) (by kernel_rfl) (fun _ _ _ h=>h) (Or.inr ⟨by rfl,rfl⟩) (by assumption) ?_
   try simp only [List.getElem_toArray,List.getElem_cons_succ,List.getElem_cons_zero,Act.put,List.setIfInBounds_toArray,List.set_cons_zero,List.set_cons_succ]
   refine wpAnyH_take (i:=26) (v:=undef) rfl (by kernel_rfl) (by kernel_rfl) (by kernel_rfl) (fun _ _ _ h=>h) (Or.inr ⟨by rfl,rfl⟩) (by assumption) ?_
   try simp only [List.getElem_toArray,List.getElem_cons_succ,List.getElem_cons_zero,Act.put,List.setIfInBounds_toArray,List.set_cons_zero,List.set_cons_succ]
   refine wpAnyH_take (i:=27) (v:=undef) rfl (by kernel_rfl) (by kernel_rfl) (by kernel_rfl) (fun _ _ _ h=>h) (Or.inr ⟨by rfl,rfl⟩) (by assumption) ?_
   try simp only [List.getElem_toArray,List.getElem_cons_succ,List.getElem_cons_zero,Act.put,List.setIfInBounds_toArray,List.set_cons_zero,List.set_cons_succ]
   refine wpAnyH_take (i:=28) (v:=undef) rfl (by kernel_rfl) (by kernel_rfl) (by kernel_rfl) (fun _ _ _ h=>h) (Or.inr ⟨by rfl,rfl⟩) (by assumption) ?_
   try simp only [List.getElem_toArray,List.getElem_cons_succ,List.getElem_cons_zero,Act.put,List.setIfInBounds_toArray,List.set_cons_zero,List.set_cons_succ]
   refine wpAnyH_take (i:=29) (v:=undef) rfl (by kernel_rfl) (by kernel_rfl) (by kernel_rfl) (fun _ _ _ h=>h) (Or.inr ⟨by rfl,rfl⟩) (by assumption) ?_
   try simp only [List.getElem_toArray,List.getElem_cons_succ,List.getElem_cons_zero,Act.put,List.setIfInBounds_toArray,List.set_cons_zero,List.set_cons_succ]
   refine wpAnyH_take (i:=30) (v:=undef) rfl (by kernel_rfl) (by kernel_rfl) (by kernel_rfl) (fun _ _ _ h=>h) (Or.inr ⟨by rfl,rfl⟩) (by assumption) ?_
   try simp only [List.getElem_toArray,List.getElem_cons_succ,List.getElem_cons_zero,Act.put,List.setIfInBounds_toArray,List.set_cons_zero,List.set_cons_succ]
   refine' wpAnyH_take (i:=31) (v:=_) rfl (by kernel_rfl) (by kernel_rfl) (by kernel_rfl) (fun _ _ _ h=>h) (Or.inl ⟨by rfl,?hy6_31⟩) (by assumption) ?rest6_31
   case hy6_31=>(intro w hSw;(try dsimp only at hSw);go_simp;try (with_reducible rfl))
   try simp only [List.getElem_toArray,List.getElem_cons_succ,List.getElem_cons_zero,Act.put,List.setIfInBounds_toArray,List.set_cons_zero,List.set_cons_succ]
   refine' wpAnyH_take (i:=32) (v:=_) rfl (by kernel_rfl) (by kernel_rfl) (by kernel_rfl) (fun _ _ _ h=>h) (Or.inl ⟨by rfl,?hy6_32⟩) (by assumption) ?rest6_32
   case hy6_32=>(intro w hSw;(try dsimp only at hSw);go_simp;try (with_reducible rfl))
   try simp only [List.getElem_toArray,List.getElem_cons_succ,List.getElem_cons_zero,Act.put,List.setIfInBounds_toArray,List.set_cons_zero,List.set_cons_succ]
   refine wpAnyH_take (i:=33) (v:=undef) rfl (by kernel_rfl) (by kernel_rfl) (by kernel_rfl) (fun _ _ _ h=>h) (Or.inr ⟨by rfl,rfl⟩) (by assumption) ?_
   try simp only [List.getElem_toArray,List.getElem_cons_succ,List.getElem_cons_zero,Act.put,List.setIfInBounds_toArray,List.set_cons_zero,List.set_cons_succ]
   refine wpAnyH_take (i:=34) (v:=undef) rfl (by kernel_rfl) (by kernel_rfl) (by kernel_rfl) (fun _ _ _ h=>h) (Or.inr ⟨by rfl,rfl⟩) (by assumption) ?_
   try simp only [List.getElem_toArray,List.getElem_cons_succ,List.getElem_cons_zero,Act.put,List.setIfInBounds_toArray,List.set_cons_zero,List.set_cons_succ]
   refine wpAnyH_take (i:=35) (v:=undef) rfl (by kernel_rfl) (by kernel_rfl) (by kernel_rfl) (fun _ _ _ h=>h) (Or.inr ⟨by rfl,rfl⟩) (by assumption) ?_
   try simp only [List.getElem_toArray,List.getElem_cons_succ,List.getElem_cons_zero,Act.put,List.setIfInBounds_toArray,List.set_cons_zero,List.set_cons_succ]
   refine wpAnyH_take (i:=36) (v:=undef) rfl (by kernel_rfl) (by kernel_rfl) (by kernel_rfl) (fun _ _ _ h=>h) (Or.inr ⟨by rfl,rfl⟩) (by assumption) ?_
   try simp only [List.getElem_toArray,List.getElem_cons_succ,List.getElem_cons_zero,Act.put,List.setIfInBounds_toArray,List.set_cons_zero,List.set_cons_succ]
   refine wpAnyH_take (i:=37) (v:=undef) rfl (by kernel_rfl) (by kernel_rfl) (by kernel_rfl) (fun _ _ _ h=>h) (Or.inr ⟨by rfl,rfl⟩) (by assumption) ?_
   try simp only [List.getElem_toArray,List.getElem_cons_succ,List.getElem_cons_zero,Act.put,List.setIfInBounds_toArray,List.set_cons_zero,List.set_cons_succ]
   refine wpAnyH_take (i:=38) (v:=undef) rfl (by kernel_rfl) (by kernel_rfl) (by kernel_rfl) (fun _ _ _ h=>h) (Or.inr ⟨by rfl,rfl⟩) (by assumption) ?_
   try simp only [List.getElem_toArray,List.getElem_cons_succ,List.getElem_cons_zero,Act.put,List.setIfInBounds_toArray,List.set_cons_zero,List.set_cons_succ]
   refine wpAnyH_take (i:=39) (v:=undef) rfl (by kernel_rfl) (by kernel_rfl) (by kernel_rfl) (fun _ _ _ h=>h) (Or.inr ⟨by rfl,rfl⟩) (by assumption) ?_
   try simp only [List.getElem_toArray,List.getElem_cons_succ,List.getElem_cons_zero,Act.put,List.setIfInBounds_toArray,List.set_cons_zero,List.set_cons_succ]
   refine' wpAnyH_take (i:=40) (v:=_) rfl (by kernel_rfl) (by kernel_rfl) (by kernel_rfl) (fun _ _ _ h=>h) (Or.inl ⟨by rfl,?hy6_40⟩) (by assumption) ?rest6_40
   case hy6_40=>(intro w hSw;(try dsimp only at hSw);go_simp;try (with_reducible rfl))
   try simp only [List.getElem_toArray,List.getElem_cons_succ,List.getElem_cons_zero,Act.put,List.setIfInBounds_toArray,List.set_cons_zero,List.set_cons_succ]
   refine wpAnyH_done (by kernel_rfl) ?_ _
   all_goals (go_wp2_with fail)
   all_goals (go_meet)
   all_goals (exact ⟨true,rfl,by assumption,by simp;intro q;exact absurd q h1'.out⟩)
 case rest =>
  obtain ⟨f,rfl,bc,hf⟩:=hcut
  have BC:=Lib.hid bc
  have HF:=Lib.hid hf
  clear bc hf a0 a1 y1 y2 y3 y4 y5 v1 v2 v3 v4 v5 SX OD8 OM8
  have HC7:=Lib.hid (HW7.out.below (B8.out.trans (BC.out.mono hs8)))
  have ZC:=Lib.hid (Z7H.out.trans ((B8.out.trans (BC.out.mono hs8)).mono hs7))
  have CC:Hid (∀ W,Below wc.heap.size wc W→W.cell? ⟨gB,oa,none⟩=some (.int .i64 (fa:Int))∧W.cell? ⟨gB,ob,none⟩=some (.int .i64 (fb:Int))):=fun W q =>
   (C7.out W (B8.out.trans ((BC.out.trans (q.mono BC.out.size)).mono hs8))).2.2.2.2.2.2.2.2
  have hsc:=ZC.out.size
  clear HW7 Z7H FA C7 B8 BC
  go_upto_if 200 with fail
  cases f
  ·have hFl:Hid (Flips l d):=HFL.out.2 (HF.out.1 rfl)
   have T1:=Lib.hid (T0.out hFl.out)
   have R4:=Lib.hid (R3.out hFl.out)
   have HL1:=Lib.hid (HL.out hFl.out)
   have WQ:=Lib.hid (without_q HC7.out d (by omega) R0.out)
   clear T0 R3 HL HC7
   go_wp2_with fail
   refine WQ.out.mono ?_
   rintro en w9 ⟨g9,c9,rfl,hW9,b9⟩
   have WQ2:=Lib.hid (without_q hW9 m (by omega) R1.out)
   have B9:=Lib.hid b9
   have hs9:=b9.size
   clear hW9 b9 WQ R0 R1
   go_wp2_with fail
   refine WQ2.out.mono ?_
   rintro en w10 ⟨g10,c10,rfl,hW10,b10⟩
   have B10:=Lib.hid (B9.out.trans (b10.mono hs9))
   have hs10:=B10.out.size
   have AQ1:Hid (∀ W,Below w10.heap.size w10 W→Calls Tryz.prog 63 #[.slice (some ⟨g10,0,none⟩) P c10,.int .i64 (fa:Int),.int .i64 (d:Int)] W fun e w'=>∃ g c,e=.returned (.slice (some ⟨g,0,none⟩) P c)∧Hid (RW w' w10.heap.size g c ((((rowsM l).map (witL d)).map (witL m)).map (aftL fa d)) P)∧Below w10.heap.size w10 w'):=fun W q=>by
    refine (after_q (at_:=fa) (d:=d) (hW10.below q) (by omega) R2.out).mono ?_
    rintro e w' ⟨g,c,rfl,z1,z2⟩
    exact ⟨g,c,rfl,z1.baseLe q.size,q.trans (z2.mono q.size)⟩
   have AQ2:Hid (∀ W g c,RW W w10.heap.size g c ((((rowsM l).map (witL d)).map (witL m)).map (aftL fa d)) P→Below w10.heap.size w10 W→Calls Tryz.prog 63 #[.slice (some ⟨g,0,none⟩) P c,.int .i64 (fb:Int),.int .i64 (m:Int)] W fun e w'=>∃ g c,e=.returned (.slice (some ⟨g,0,none⟩) P c)∧Hid (RW w' w10.heap.size g c (((((rowsM l).map (witL d)).map (witL m)).map (aftL fa d)).map (aftL fb m)) P)∧Below w10.heap.size w10 w'):=fun W g c h q=>by
    refine (after_q (at_:=fb) (d:=m) h (by omega) R4.out).mono ?_
    rintro e w' ⟨g,c,rfl,z1,z2⟩
    exact ⟨g,c,rfl,z1.baseLe q.size,q.trans (z2.mono q.size)⟩
   have SY:Hid (∀ W,Below w10.heap.size w10 W→Below w10.heap.size w10 W∧W.cell? ⟨gB,oa,none⟩=some (.int .i64 (fa:Int))∧W.cell? ⟨gB,ob,none⟩=some (.int .i64 (fb:Int))):=fun W q=>⟨q,CC.out W (B10.out.trans (q.mono hs10))⟩
   have z0:=Below.refl w10.heap.size w10
   have z1:=z0.drew
   obtain ⟨-,y1,y2⟩:=SY.out _ z0
   obtain ⟨-,v1,v2⟩:=SY.out _ z1
   clear hW10 b10 WQ2 R2 R4 B9 CC HF
   go_upto_region 36 with fail
   have hoF:(flipL l b d).length≤20000:=by rw [HL1.out];omega
   have hpF:P≤40000:=by omega
   have TF:=T1
   go_region_held3 (fun W=>Below w10.heap.size w10 W∧W.cell? ⟨gB,oa,none⟩=some (.int .i64 (fa:Int))∧W.cell? ⟨gB,ob,none⟩=some (.int .i64 (fb:Int))) (exact SY.out _ (by assumption)) (first
    | (go_at_call 63;(with_reducible refine (AQ1.out _ (by assumption)).mono ?_);rintro en wa1 ⟨g11,c11,rfl,HW11,hba11⟩)
    | (go_at_call 63;(with_reducible refine (AQ2.out _ _ _ HW11.out (by assumption)).mono ?_);rintro en wF ⟨gF,cF,rfl,HWF,bF⟩;have ZF:=Lib.hid (ZC.out.trans ((B10.out.trans (bF.mono hs10)).mono hsc));obtain ⟨x0,x1,x2⟩:=SK.out _ ZF.out))
   all_goals (
    clear AQ1 AQ2 SY z0 z1 y1 y2 v1 v2 bF B10 ZC HL1 T1
    have MD:Hid (Calls Tryz.prog 66 #[.slice (some ⟨gF,0,none⟩) P cF,.int .i64 root,.int .i64 lone] wF (NewRO wF (flipL l b d) root lone)):=made_q HWF.out TF.out rfl hoF hpF root lone
    clear HWF TF
    go_wp2_with fail
    refine MD.out.mono ?_
    rintro en w9 ⟨A9,c9,rfl,hc9,hm9,hown9,b9⟩
    have Z9:=Lib.hid (ZF.out.trans (b9.mono ZF.out.size))
    have hsF:=ZF.out.size
    have HO9:=Lib.hid hown9
    have HYr:=Lib.hid (HY.out.below Z9.out)
    have q0:=HYr.out.cell 0
    have q1:=HYr.out.cell 1
    have q2:=HYr.out.cell 2
    have f0:=HYr.out.frozen 0
    have f1:=HYr.out.frozen 1
    have f2:=HYr.out.frozen 2
    simp at q0 q1 q2
    clear b9 hown9 MD x0 x1 x2 ZF
    go_wp2_with fail
    obtain ⟨k1,k2,k3⟩:=box_ret (w:=w) (g:=w.heap.size+1) (RT:=root) (LF:=lone) (by omega) (HB0.out.trans (Z9.out.mono HB0.out.size)) HYr.out HO9.out
    refine bodyPost_ret (results_cell_tmp_row rfl _ _ (w.heap.size+1) 28 _ (0,0) _ rfl k1 Tryz.underlying28 rfl HINF.out) rfl ?_
    exact .inl ⟨hFl.out,A9,c9,rfl,hc9,hm9,k2.base_le' (by omega),k3⟩)
  ·have hFl:Hid (¬ Flips l d):=fun q=>by
    have:=HF.out.2 (HFL.out.1 q)
    cases this
   have BZH:=ZC
   clear HC7 ZC T0 R0 R1 R2 R3 CC
   have HYr:=Lib.hid (HY.out.below BZH.out)
   have q0:=HYr.out.cell 0
   have q1:=HYr.out.cell 1
   have q2:=HYr.out.cell 2
   have f0:=HYr.out.frozen 0
   have f1:=HYr.out.frozen 1
   have f2:=HYr.out.frozen 2
   simp at q0 q1 q2
   obtain ⟨x0,x1,x2⟩:=SK.out _ BZH.out
   go_wp2_with fail
   have MM:=box_mod wc (w.heap.size+1) (.slice (some ⟨ba,oA,none⟩) n c) (.int .i64 root) (.int .i64 lone)
   have hblk:Blk (((wc.setCell ⟨w.heap.size+1,0,none⟩ (.slice (some ⟨ba,oA,none⟩) n c)).setCell ⟨w.heap.size+1,1,none⟩ (.int .i64 root)).setCell ⟨w.heap.size+1,2,none⟩ (.int .i64 lone)) (w.heap.size+1) 28 #[.slice (some ⟨ba,oA,none⟩) n c,.int .i64 root,.int .i64 lone]:=by
    have:=((HYr.out.set_ 0 (.slice (some ⟨ba,oA,none⟩) n c)).set_ 1 (.int .i64 root)).set_ 2 (.int .i64 lone)
    simpa using this
   have hsz:=BZH.out.size
   refine bodyPost_ret (results_cell_tmp_row rfl _ _ (w.heap.size+1) 28 _ (0,0) _ rfl hblk Tryz.underlying28 rfl HINF.out) rfl ?_
   exact .inr ⟨hFl.out,rfl,(HB0.out.trans (BZH.out.mono HB0.out.size)).trans (MM.belowB (by omega) fun i hi q=>by omega)⟩
end Go.Proofs.YtdinmjciippchaaGreat
