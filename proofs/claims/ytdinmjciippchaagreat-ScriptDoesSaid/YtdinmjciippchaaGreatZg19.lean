/- The document's Do (layer 23), kind 0. -/
import Derived.Test.YtdinmjciippchaaGreatZg18
open Go.RowKit
set_option linter.unusedVariables false
set_option linter.unusedSimpArgs false
namespace Go.Proofs.YtdinmjciippchaaGreat
set_option maxRecDepth 100000
set_option maxHeartbeats 16000000 in
theorem rdo23_0 (A:Option Addr) (c:Nat) (l b:List Nat) (root lone:Int) (d:Nat) (e:Int) (w:World) (h:Rd w w.heap.size A l.length (I64 (ofN l))) (hinv:Inv l b) (hev:l.length%2=0) (hn:l.length≤6000) (hd:d < l.length) :
  Calls Tryz.prog 26 #[.agg #[.slice A l.length c,.int .i64 root,.int .i64 lone],.int .i64 0,.int .i64 (d:Int),.int .i64 e] w (DoOK w (leafL l d) root lone):=by
 obtain ⟨i0,hi0,hz0,hz1,hz2⟩:=info_parts info_int
 have hb0:=((Below.refl w.heap.size w).alloc (Nat.le_refl _) (.cells #[.slice A l.length c,.int .i64 root,.int .i64 lone] 28)).alloc (by simp) (.cells #[.slice none 0 0,.int .i64 0,.int .i64 0] 28)
 have HX:=Lib.hid ((Blk.new w 28 #[.slice A l.length c,.int .i64 root,.int .i64 lone]).alloc (.cells #[.slice none 0 0,.int .i64 0,.int .i64 0] 28))
 have hy:=(Blk.new (w.alloc (.cells #[.slice A l.length c,.int .i64 root,.int .i64 lone] 28)) 28 #[.slice none 0 0,.int .i64 0,.int .i64 0])
 rw [show (w.alloc (.cells #[.slice A l.length c,.int .i64 root,.int .i64 lone] 28)).heap.size=w.heap.size+1 by simp] at hy
 have HY:=Lib.hid hy
 have HR:=Lib.hid (h.more hb0)
 have HB0:=Lib.hid hb0
 have HINF:=Lib.hid info_rmap
 have hp:=phi_inv hinv hev
 have hpl:=phiL_len l
 obtain ⟨m,hm⟩:∃ m,m=mateN d:=⟨_,rfl⟩
 have hml:m < l.length:=by rw [hm];exact mateN_lt hev hd
 obtain ⟨P,hP⟩:∃ P,P=(rowsM l).length:=⟨_,rfl⟩
 have hPl:P≤l.length:=by rw [hP];exact rowsM_len l
 have hPp:0 < P:=by rw [hP];exact rowsM_pos (by omega)
 have PH:Hid (∀ W,Below _ _ W→Calls Tryz.prog 60 #[.agg #[.slice A l.length c,.int .i64 root,.int .i64 lone]] W (NewI64 W (ofN (phiL l)))):=fun W q=>rphi_p A c l root lone W ((HR.out.below q).up q.size) hev (by omega)
 have NM:Hid (∀ W A9 c9,Rd W W.heap.size A9 l.length (I64 (ofN (phiL l)))→Calls Tryz.prog 31 #[.slice A9 l.length c9] W (NewI64 W (ofN (names (phiL l))))):=fun W A9 c9 q=>by
  have:=rnames_p A9 c9 _ (phiL l) _ W (by rw [hpl];exact q) hp (by omega)
  rwa [hpl] at this
 have IV:Hid (∀ W,Below _ _ W→Calls Tryz.prog 61 #[.slice A l.length c] W (NewI64 W (ofN b))):=fun W q=>rinverse_p A c _ l b W (HR.out.below q) hinv (by omega)
 have MT:Hid (∀ W,Calls Tryz.prog 32 #[.int .i64 (d:Int)] W fun en w'=>en=.returned (.int .i64 (m:Int))∧W=w'):=fun W=>by rw [hm];exact rmate_p d W (by omega)
 have LS:Hid (∀ W,Below _ _ W→Calls Tryz.prog 62 #[.agg #[.slice A l.length c,.int .i64 root,.int .i64 lone]] W (RWP W (rowsM l) P)):=fun W q=>by
  rw [hP];exact lists_q A c l b root lone W ((HR.out.below q).up q.size) hinv (by omega) (by omega)
 have HPL:Hid ((ofN (phiL l)).length=l.length∧(phiL l).length=l.length):=⟨by rw [ofN_len];exact hpl,hpl⟩
 have HBL:Hid ((ofN b).length=l.length∧b.length=l.length):=⟨by rw [ofN_len];exact hinv.len,hinv.len⟩
 have HNL:Hid ((ofN (names (phiL l))).length=l.length):=by show _=_;rw [ofN_len,names_len,hpl]
 have HI:=Lib.hid (And.intro hinv hev)
 have HM:Hid (m=mateN d):=hm
 have HPR:Hid (P=(rowsM l).length):=hP
 obtain ⟨n,hn'⟩:∃ n,n=l.length:=⟨_,rfl⟩
 have HN:Hid (n=l.length):=hn'
 have RL:Hid (∀ os f S B,Tells os f S→(∀ x,S x→x < B)→B≤20000→∀ r,r < os.length→(os.getD r []).length≤20000):=fun os f S B t hs hB r hr=>Nat.le_trans (t.rowLe hs r hr) hB
 have T0:Hid (Tells (leafR l d) (sgL (leafL l d)) fun x=>x < (leafL l d).length):=by show Tells _ _ _;rw [(leaf_inv hinv hd).2];exact leaf_tell hinv hd
 have HL:Hid ((leafL l d).length=l.length+2):=(leaf_inv hinv hd).2
 have R0:Hid (∀ r,r < (rowsM l).length→((rowsM l).getD r []).length≤20000):=RL.out _ _ _ _ (lists_tell hinv) (fun x hx=>hx) (by omega)
 obtain ⟨n1,hn1⟩:∃ n1,n1=l.length+1:=⟨_,rfl⟩
 have en1:(l.length:Int)+1=(n1:Int):=by omega
 have wn1:IntKind.i64.wrap (n1:Int)=(n1:Int):=by simp [IntKind.wrap,IntKind.signed,IntKind.bits];omega
 have HLR:Hid (leafR l d=(rowsM l).map (aftL d l.length)++[[n1]]):=by rw [hn1];rfl
 clear hn1
 rw [← hn'] at HX HY HR HB0 hd hml hn hPl PH NM IV LS HPL HBL HNL HL en1 HLR ⊢
 clear h hb0 hinv hy hp hpl hev hm hP hn'
 have hdI:(d:Int) < (n:Int):=by omega
 go_enter Tryz.func26,Tryz.ntmps26
 go_upto_region 1 with fail
 generalize hw3:(w.alloc (.cells #[.slice A n c,.int .i64 root,.int .i64 lone] 28)).alloc (.cells #[.slice none 0 0,.int .i64 0,.int .i64 0] 28)=w3 at *
 have hs3:w3.heap.size=w.heap.size+2:=by rw [← hw3];simp
 have SK:Hid (∀ W,Below w3.heap.size w3 W→W.cell? ⟨w.heap.size,0,none⟩=some (.slice A n c)∧W.cell? ⟨w.heap.size,1,none⟩=some (.int .i64 root)∧W.cell? ⟨w.heap.size,2,none⟩=some (.int .i64 lone)):=fun W q=>⟨(HX.out.below q).cell 0,(HX.out.below q).cell 1,(HX.out.below q).cell 2⟩
 obtain ⟨x0,x1,x2⟩:=SK.out _ (Below.refl _ _)
 have Z3:=Below.refl w3.heap.size w3
 clear hw3 HX
 go_upto_region 4 with fail
 go_wp2_with fail
 refine (PH.out _ Z3).mono ?_
 rintro en w4 ⟨A4,c4,rfl,hc4,hm4,hown4,b4⟩
 rw [HPL.out.1] at hc4 hown4 ⊢
 obtain ⟨gP,rfl,hgP,hgPw⟩:=own_some hown4 (by omega)
 have Z4:=Z3.trans (b4.mono (Nat.le_refl _))
 have hs4:=Z4.size
 have RP:=Lib.hid (Rd.ofOwn hown4)
 have FP:Hid (∀ W,Below w4.heap.size w4 W→∀ j,j < n→W.cell? ⟨gP,j,none⟩=some (.int .i64 (((phiL l).getD j 0:Nat):Int))):=fun W q j hj=>by
  have:=own_cellI (own_below hown4 q) j hj
  rwa [ofN_get] at this
 clear b4 hown4 hc4 hm4 PH x0 x1 x2 Z3
 go_wp2_with fail
 refine (NM.out _ _ c4 RP.out).mono ?_
 rintro en w5 ⟨A5,c5,rfl,hc5,hm5,hown5,b5⟩
 rw [HNL.out] at hc5 hown5 ⊢
 obtain ⟨gN,rfl,hgN,hgNw⟩:=own_some hown5 (by omega)
 have Z5:=Z4.trans (b5.mono hs4)
 have hs5:=Z5.size
 have FN:Hid (∀ W,Below w5.heap.size w5 W→∀ j,j < n→W.cell? ⟨gN,j,none⟩=some (.int .i64 ((nameOf (phiL l) j:Nat):Int))):=fun W q j hj=>by
  have:=own_cellI (own_below hown5 q) j hj
  rwa [ofN_get,names_get _ _ (by rw [HPL.out.2];exact hj)] at this
 have V5:=Lib.hid b5
 obtain ⟨x0,x1,x2⟩:=SK.out _ Z5
 clear b5 hown5 hc5 hm5 NM Z4
 go_wp2_with fail
 refine (IV.out _ Z5).mono ?_
 rintro en w6 ⟨A6,c6,rfl,hc6,hm6,hown6,b6⟩
 rw [HBL.out.1] at hc6 hown6 ⊢
 obtain ⟨gB,rfl,hgB,hgBw⟩:=own_some hown6 (by omega)
 have Z6:=Z5.trans (b6.mono hs5)
 have hs6:=Z6.size
 have FB:Hid (∀ W,Below w6.heap.size w6 W→∀ j,j < n→W.cell? ⟨gB,j,none⟩=some (.int .i64 ((b.getD j 0:Nat):Int))):=fun W q j hj=>by
  have:=own_cellI (own_below hown6 q) j hj
  rwa [ofN_get] at this
 have V6:=Lib.hid b6
 obtain ⟨x0,x1,x2⟩:=SK.out _ Z6
 clear b6 hown6 hc6 hm6 IV Z5
 go_wp2_with fail
 refine (MT.out _).mono ?_
 rintro en wz ⟨rfl,rfl⟩
 clear MT
 go_wp2_with fail
 refine (LS.out _ Z6).mono ?_
 rintro en w7 ⟨g7,c7,rfl,hW7,b7⟩
 have Z7:=Z6.trans (b7.mono hs6)
 have hs7:=Z7.size
 have FA:Hid (∀ W,Below w7.heap.size w7 W→(∀ j,j < n→W.cell? ⟨gP,j,none⟩=some (.int .i64 (((phiL l).getD j 0:Nat):Int))∧W.cell? ⟨gN,j,none⟩=some (.int .i64 ((nameOf (phiL l) j:Nat):Int))∧W.cell? ⟨gB,j,none⟩=some (.int .i64 ((b.getD j 0:Nat):Int)))∧Rd W W.heap.size (some ⟨gP,0,none⟩) n (I64 (ofN (phiL l)))):=fun W q=>by
  have u6:Below w6.heap.size w6 W:=b7.trans (q.mono b7.size)
  have u5:Below w5.heap.size w5 W:=V6.out.trans (u6.mono V6.out.size)
  have u4:Below w4.heap.size w4 W:=V5.out.trans (u5.mono V5.out.size)
  exact ⟨fun j hj=>⟨FP.out W u4 j hj,FN.out W u5 j hj,FB.out W u6 j hj⟩,(RP.out.below u4).up u4.size⟩
 have HW7:=Lib.hid hW7
 have Z7H:=Lib.hid Z7
 have hbw:w.heap.size+2≤w7.heap.size:=by omega
 obtain ⟨x0,x1,x2⟩:=SK.out _ Z7
 clear b7 hW7 LS Z6 Z7 RP FP FN FB V5 V6 hgP hgPw hgN hgNw hgB hgBw hs4 hs5
 have AQ:=Lib.hid (after_q (at_:=d) (d:=n) HW7.out (by omega) R0.out)
 clear HW7
 go_wp2_with fail
 refine AQ.out.mono ?_
 rintro en w8 ⟨g8,c8,rfl,hW8,b8⟩
 obtain ⟨gF,cF,wF,hrun,hWF,bF⟩:=hW8.push (b8.size) (by omega) [n1] (by simp)
 have hcs:(I64 (ofN [n1])).toArray=#[.int .i64 (n1:Int)]:=by simp [I64,ofN]
 rw [hcs] at hrun
 simp only [List.length_singleton] at hrun
 rw [← HLR.out] at hWF
 have HWF:=Lib.hid hWF
 have ZF:=Lib.hid (Z7H.out.trans ((b8.trans bF).mono hs7))
 have TF:=T0
 have hoF:(leafL l d).length≤20000:=by rw [HL.out];omega
 have hpF:P+1≤40000:=by omega
 clear AQ hWF bF hW8 b8 hcs Z7H HL HLR T0 R0 x0 x1 x2
 obtain ⟨x0,x1,x2⟩:=SK.out _ ZF.out
 go_wp2_with (first
  | (at_builtin;go_must (refine wpList_append_runR rfl _ _ _ rfl _ _ _ _ rfl rfl hrun ?_)))
 have MD:Hid (Calls Tryz.prog 66 #[.slice (some ⟨gF,0,none⟩) (P+1) cF,.int .i64 root,.int .i64 lone] wF (NewRO wF (leafL l d) root lone)):=made_q HWF.out TF.out rfl hoF hpF root lone
 clear HWF TF
 go_wp2_with fail
 refine MD.out.mono ?_
 rintro en w9 ⟨A9,c9,rfl,hc9,hm9,hown9,b9⟩
 have Z9:=Lib.hid (ZF.out.trans (b9.mono ZF.out.size))
 have hsF:=ZF.out.size
 have HO9:=Lib.hid hown9
 have HYr:=Lib.hid (HY.out.below Z9.out)
 have q0:=HYr.out.cell 0
 have q1:=HYr.out.cell 1
 have q2:=HYr.out.cell 2
 have f0:=HYr.out.frozen 0
 have f1:=HYr.out.frozen 1
 have f2:=HYr.out.frozen 2
 simp at q0 q1 q2
 clear b9 hown9 MD x0 x1 x2 ZF
 go_wp2_with fail
 obtain ⟨k1,k2,k3⟩:=box_ret (w:=w) (g:=w.heap.size+1) (RT:=root) (LF:=lone) (by omega) (HB0.out.trans (Z9.out.mono HB0.out.size)) HYr.out HO9.out
 refine bodyPost_ret (results_cell_tmp_row rfl _ _ (w.heap.size+1) 28 _ (0,0) _ rfl k1 Tryz.underlying28 rfl HINF.out) rfl ?_
 exact ⟨A9,c9,rfl,hc9,hm9,k2.base_le' (by omega),k3⟩
set_option maxHeartbeats 16000000 in
theorem rdo23_1 (A:Option Addr) (c:Nat) (l b:List Nat) (root lone:Int) (d:Nat) (e:Nat) (w:World) (h:Rd w w.heap.size A l.length (I64 (ofN l))) (hinv:Inv l b) (hev:l.length%2=0) (hn:l.length≤6000) (hd:d < l.length) (he:e < l.length) (hf:nameOf (phiL l) (l.getD d 0)=nameOf (phiL l) (l.getD e 0)) :
  Calls Tryz.prog 26 #[.agg #[.slice A l.length c,.int .i64 root,.int .i64 lone],.int .i64 1,.int .i64 (d:Int),.int .i64 (e:Int)] w (DoOK w (chordL l d e) root lone):=by
 obtain ⟨i0,hi0,hz0,hz1,hz2⟩:=info_parts info_int
 have hb0:=((Below.refl w.heap.size w).alloc (Nat.le_refl _) (.cells #[.slice A l.length c,.int .i64 root,.int .i64 lone] 28)).alloc (by simp) (.cells #[.slice none 0 0,.int .i64 0,.int .i64 0] 28)
 have HX:=Lib.hid ((Blk.new w 28 #[.slice A l.length c,.int .i64 root,.int .i64 lone]).alloc (.cells #[.slice none 0 0,.int .i64 0,.int .i64 0] 28))
 have hy:=(Blk.new (w.alloc (.cells #[.slice A l.length c,.int .i64 root,.int .i64 lone] 28)) 28 #[.slice none 0 0,.int .i64 0,.int .i64 0])
 rw [show (w.alloc (.cells #[.slice A l.length c,.int .i64 root,.int .i64 lone] 28)).heap.size=w.heap.size+1 by simp] at hy
 have HY:=Lib.hid hy
 have HR:=Lib.hid (h.more hb0)
 have HB0:=Lib.hid hb0
 have HINF:=Lib.hid info_rmap
 have hp:=phi_inv hinv hev
 have hpl:=phiL_len l
 obtain ⟨m,hm⟩:∃ m,m=mateN d:=⟨_,rfl⟩
 have hml:m < l.length:=by rw [hm];exact mateN_lt hev hd
 obtain ⟨P,hP⟩:∃ P,P=(rowsM l).length:=⟨_,rfl⟩
 have hPl:P≤l.length:=by rw [hP];exact rowsM_len l
 have hPp:0 < P:=by rw [hP];exact rowsM_pos (by omega)
 have PH:Hid (∀ W,Below _ _ W→Calls Tryz.prog 60 #[.agg #[.slice A l.length c,.int .i64 root,.int .i64 lone]] W (NewI64 W (ofN (phiL l)))):=fun W q=>rphi_p A c l root lone W ((HR.out.below q).up q.size) hev (by omega)
 have NM:Hid (∀ W A9 c9,Rd W W.heap.size A9 l.length (I64 (ofN (phiL l)))→Calls Tryz.prog 31 #[.slice A9 l.length c9] W (NewI64 W (ofN (names (phiL l))))):=fun W A9 c9 q=>by
  have:=rnames_p A9 c9 _ (phiL l) _ W (by rw [hpl];exact q) hp (by omega)
  rwa [hpl] at this
 have IV:Hid (∀ W,Below _ _ W→Calls Tryz.prog 61 #[.slice A l.length c] W (NewI64 W (ofN b))):=fun W q=>rinverse_p A c _ l b W (HR.out.below q) hinv (by omega)
 have MT:Hid (∀ W,Calls Tryz.prog 32 #[.int .i64 (d:Int)] W fun en w'=>en=.returned (.int .i64 (m:Int))∧W=w'):=fun W=>by rw [hm];exact rmate_p d W (by omega)
 have LS:Hid (∀ W,Below _ _ W→Calls Tryz.prog 62 #[.agg #[.slice A l.length c,.int .i64 root,.int .i64 lone]] W (RWP W (rowsM l) P)):=fun W q=>by
  rw [hP];exact lists_q A c l b root lone W ((HR.out.below q).up q.size) hinv (by omega) (by omega)
 have HPL:Hid ((ofN (phiL l)).length=l.length∧(phiL l).length=l.length):=⟨by rw [ofN_len];exact hpl,hpl⟩
 have HBL:Hid ((ofN b).length=l.length∧b.length=l.length):=⟨by rw [ofN_len];exact hinv.len,hinv.len⟩
 have HNL:Hid ((ofN (names (phiL l))).length=l.length):=by show _=_;rw [ofN_len,names_len,hpl]
 have HI:=Lib.hid (And.intro hinv hev)
 have HM:Hid (m=mateN d):=hm
 have HPR:Hid (P=(rowsM l).length):=hP
 obtain ⟨n,hn'⟩:∃ n,n=l.length:=⟨_,rfl⟩
 have HN:Hid (n=l.length):=hn'
 have RL:Hid (∀ os f S B,Tells os f S→(∀ x,S x→x < B)→B≤20000→∀ r,r < os.length→(os.getD r []).length≤20000):=fun os f S B t hs hB r hr=>Nat.le_trans (t.rowLe hs r hr) hB
 have T0:Hid (Tells (chordR l d e) (sgL (chordL l d e)) fun x=>x < (chordL l d e).length):=by show Tells _ _ _;rw [(chord_inv hinv hd he).2];exact chord_tell hinv hd he
 have HL:Hid ((chordL l d e).length=l.length+2):=(chord_inv hinv hd he).2
 have R0:Hid (∀ r,r < (rowsM l).length→((rowsM l).getD r []).length≤20000):=RL.out _ _ _ _ (lists_tell hinv) (fun x hx=>hx) (by omega)
 obtain ⟨n1,hn1⟩:∃ n1,n1=l.length+1:=⟨_,rfl⟩
 have en1:(l.length:Int)+1=(n1:Int):=by omega
 have wn1:IntKind.i64.wrap (n1:Int)=(n1:Int):=by simp [IntKind.wrap,IntKind.signed,IntKind.bits];omega
 have R1:Hid (∀ r,r < ((rowsM l).map (aftL d l.length)).length→(((rowsM l).map (aftL d l.length)).getD r []).length≤20000):=RL.out _ _ _ (l.length+1) (leaf_pre hinv hd) (fun x hx=>hx) (by omega)
 have HLR:Hid (chordR l d e=((rowsM l).map (aftL d l.length)).map (aftL (if d=e then l.length else e) n1)):=by rw [hn1];rfl
 obtain ⟨sd,hsd⟩:∃ sd,sd=l.getD d 0:=⟨_,rfl⟩
 obtain ⟨se,hse⟩:∃ se,se=l.getD e 0:=⟨_,rfl⟩
 have hsdl:sd < l.length:=by rw [hsd];exact hinv.lt d hd
 have hsel:se < l.length:=by rw [hse];exact hinv.lt e he
 obtain ⟨fd,hfd⟩:∃ fd,fd=nameOf (phiL l) sd:=⟨_,rfl⟩
 obtain ⟨fe,hfe⟩:∃ fe,fe=nameOf (phiL l) se:=⟨_,rfl⟩
 have HF:Hid (fd=fe):=by rw [hfd,hfe,hsd,hse];exact hf
 have HSF:Hid (sd=l.getD d 0∧se=l.getD e 0∧fd=nameOf (phiL l) sd∧fe=nameOf (phiL l) se):=⟨hsd,hse,hfd,hfe⟩
 clear hn1 hsd hse hfd hfe hf
 rw [← hn'] at HX HY HR HB0 hd hml hn hPl PH NM IV LS HPL HBL HNL HL en1 HLR he hsdl hsel R1 ⊢
 clear h hb0 hinv hy hp hpl hev hm hP hn'
 have hdI:(d:Int) < (n:Int):=by omega
 go_enter Tryz.func26,Tryz.ntmps26
 go_upto_region 1 with fail
 generalize hw3:(w.alloc (.cells #[.slice A n c,.int .i64 root,.int .i64 lone] 28)).alloc (.cells #[.slice none 0 0,.int .i64 0,.int .i64 0] 28)=w3 at *
 have hs3:w3.heap.size=w.heap.size+2:=by rw [← hw3];simp
 have SK:Hid (∀ W,Below w3.heap.size w3 W→W.cell? ⟨w.heap.size,0,none⟩=some (.slice A n c)∧W.cell? ⟨w.heap.size,1,none⟩=some (.int .i64 root)∧W.cell? ⟨w.heap.size,2,none⟩=some (.int .i64 lone)):=fun W q=>⟨(HX.out.below q).cell 0,(HX.out.below q).cell 1,(HX.out.below q).cell 2⟩
 obtain ⟨x0,x1,x2⟩:=SK.out _ (Below.refl _ _)
 have Z3:=Below.refl w3.heap.size w3
 clear hw3 HX
 go_upto_region 4 with fail
 go_wp2_with fail
 refine (PH.out _ Z3).mono ?_
 rintro en w4 ⟨A4,c4,rfl,hc4,hm4,hown4,b4⟩
 rw [HPL.out.1] at hc4 hown4 ⊢
 obtain ⟨gP,rfl,hgP,hgPw⟩:=own_some hown4 (by omega)
 have Z4:=Z3.trans (b4.mono (Nat.le_refl _))
 have hs4:=Z4.size
 have RP:=Lib.hid (Rd.ofOwn hown4)
 have FP:Hid (∀ W,Below w4.heap.size w4 W→∀ j,j < n→W.cell? ⟨gP,j,none⟩=some (.int .i64 (((phiL l).getD j 0:Nat):Int))):=fun W q j hj=>by
  have:=own_cellI (own_below hown4 q) j hj
  rwa [ofN_get] at this
 clear b4 hown4 hc4 hm4 PH x0 x1 x2 Z3
 go_wp2_with fail
 refine (NM.out _ _ c4 RP.out).mono ?_
 rintro en w5 ⟨A5,c5,rfl,hc5,hm5,hown5,b5⟩
 rw [HNL.out] at hc5 hown5 ⊢
 obtain ⟨gN,rfl,hgN,hgNw⟩:=own_some hown5 (by omega)
 have Z5:=Z4.trans (b5.mono hs4)
 have hs5:=Z5.size
 have FN:Hid (∀ W,Below w5.heap.size w5 W→∀ j,j < n→W.cell? ⟨gN,j,none⟩=some (.int .i64 ((nameOf (phiL l) j:Nat):Int))):=fun W q j hj=>by
  have:=own_cellI (own_below hown5 q) j hj
  rwa [ofN_get,names_get _ _ (by rw [HPL.out.2];exact hj)] at this
 have V5:=Lib.hid b5
 obtain ⟨x0,x1,x2⟩:=SK.out _ Z5
 clear b5 hown5 hc5 hm5 NM Z4
 go_wp2_with fail
 refine (IV.out _ Z5).mono ?_
 rintro en w6 ⟨A6,c6,rfl,hc6,hm6,hown6,b6⟩
 rw [HBL.out.1] at hc6 hown6 ⊢
 obtain ⟨gB,rfl,hgB,hgBw⟩:=own_some hown6 (by omega)
 have Z6:=Z5.trans (b6.mono hs5)
 have hs6:=Z6.size
 have FB:Hid (∀ W,Below w6.heap.size w6 W→∀ j,j < n→W.cell? ⟨gB,j,none⟩=some (.int .i64 ((b.getD j 0:Nat):Int))):=fun W q j hj=>by
  have:=own_cellI (own_below hown6 q) j hj
  rwa [ofN_get] at this
 have V6:=Lib.hid b6
 obtain ⟨x0,x1,x2⟩:=SK.out _ Z6
 clear b6 hown6 hc6 hm6 IV Z5
 go_wp2_with fail
 refine (MT.out _).mono ?_
 rintro en wz ⟨rfl,rfl⟩
 clear MT
 go_wp2_with fail
 refine (LS.out _ Z6).mono ?_
 rintro en w7 ⟨g7,c7,rfl,hW7,b7⟩
 have Z7:=Z6.trans (b7.mono hs6)
 have hs7:=Z7.size
 have FA:Hid (∀ W,Below w7.heap.size w7 W→(∀ j,j < n→W.cell? ⟨gP,j,none⟩=some (.int .i64 (((phiL l).getD j 0:Nat):Int))∧W.cell? ⟨gN,j,none⟩=some (.int .i64 ((nameOf (phiL l) j:Nat):Int))∧W.cell? ⟨gB,j,none⟩=some (.int .i64 ((b.getD j 0:Nat):Int)))∧Rd W W.heap.size (some ⟨gP,0,none⟩) n (I64 (ofN (phiL l)))):=fun W q=>by
  have u6:Below w6.heap.size w6 W:=b7.trans (q.mono b7.size)
  have u5:Below w5.heap.size w5 W:=V6.out.trans (u6.mono V6.out.size)
  have u4:Below w4.heap.size w4 W:=V5.out.trans (u5.mono V5.out.size)
  exact ⟨fun j hj=>⟨FP.out W u4 j hj,FN.out W u5 j hj,FB.out W u6 j hj⟩,(RP.out.below u4).up u4.size⟩
 have HW7:=Lib.hid hW7
 have Z7H:=Lib.hid Z7
 have hbw:w.heap.size+2≤w7.heap.size:=by omega
 obtain ⟨x0,x1,x2⟩:=SK.out _ Z7
 clear b7 hW7 LS Z6 Z7 RP FP FN FB V5 V6 hgP hgPw hgN hgNw hgB hgBw hs4 hs5
 have heI:(e:Int) < (n:Int):=by omega
 have hsdI:(sd:Int) < (n:Int):=by omega
 have hseI:(se:Int) < (n:Int):=by omega
 obtain ⟨ba,oa,rfl,hba,hca⟩:=HR.out.i64 (by omega)
 have cd:w7.cell? ⟨ba,oa+d,none⟩=some (.int .i64 (sd:Int)):=by
  rw [HSF.out.1,← ofN_get];exact (Z7H.out.cell (p:=⟨ba,oa+d,none⟩) hba).trans (hca d hd)
 have ce:w7.cell? ⟨ba,oa+e,none⟩=some (.int .i64 (se:Int)):=by
  rw [HSF.out.2.1,← ofN_get];exact (Z7H.out.cell (p:=⟨ba,oa+e,none⟩) hba).trans (hca e he)
 have nd:=(((FA.out _ (Below.refl _ _)).1) sd hsdl).2.1
 have ne:=(((FA.out _ (Below.refl _ _)).1) se hsel).2.1
 rw [← HSF.out.2.2.1] at nd
 rw [← HSF.out.2.2.2] at ne
 clear hca hba
 go_upto_if 86 with (go_quiet (fail))
 have bq:Below w7.heap.size w7 (w7.drewN nq):=below_draws (Below.refl _ _) nq
 generalize w7.drewN nq=w8 at *
 have B8:=Lib.hid bq
 have hs8:=bq.size
 clear bq cd ce nd ne x0 x1 x2
 have qd:((fd:Int) != (fe:Int))=false:=by have:=HF.out;simp [this]
 have qd2:decide (fd=fe)=true:=decide_eq_true HF.out
 have AQ:=Lib.hid (after_q (at_:=d) (d:=n) (HW7.out.below B8.out) (by omega) R0.out)
 have Z8H:=Lib.hid (Z7H.out.trans (B8.out.mono hs7))
 clear HW7 Z7H
 go_wp2_with fail
 refine AQ.out.mono ?_
 rintro en w9 ⟨g9,c9,rfl,hW9,b9⟩
 have HW9:=Lib.hid hW9
 have Z9H:=Lib.hid (Z8H.out.trans (b9.mono (by omega)))
 have hs9:=Z9H.out.size
 clear hW9 b9 AQ R0 Z8H B8 FA HF HSF
 by_cases hde:d=e
 ·have edb:((d:Int) == (e:Int))=true:=by simp [hde]
  have edd:decide (d=e)=true:=decide_eq_true hde
  have HLR2:Hid (chordR l d e=((rowsM l).map (aftL d n)).map (aftL n n1)):=by show _=_;rw [HLR.out,if_pos hde]
  have AQ2:=Lib.hid (after_q (at_:=n) (d:=n1) HW9.out (by omega) R1.out)
  clear HW9 hde
  go_wp2_with fail
  refine AQ2.out.mono ?_
  rintro en wF ⟨gF,cF,rfl,hWF,bF⟩
  rw [← HLR2.out] at hWF
  have HWF:=Lib.hid hWF
  have ZF:=Lib.hid (Z9H.out.trans (bF.mono hs9))
  have TF:=T0
  have hoF:(chordL l d e).length≤20000:=by rw [HL.out];omega
  have hpF:P≤40000:=by omega
  clear AQ2 hWF bF HL HLR HLR2 T0 Z9H
  obtain ⟨x0,x1,x2⟩:=SK.out _ ZF.out
  have MD:Hid (Calls Tryz.prog 66 #[.slice (some ⟨gF,0,none⟩) P cF,.int .i64 root,.int .i64 lone] wF (NewRO wF (chordL l d e) root lone)):=made_q HWF.out TF.out rfl hoF hpF root lone
  clear HWF TF
  go_wp2_with fail
  refine MD.out.mono ?_
  rintro en w9 ⟨A9,c9,rfl,hc9,hm9,hown9,b9⟩
  have Z9:=Lib.hid (ZF.out.trans (b9.mono ZF.out.size))
  have hsF:=ZF.out.size
  have HO9:=Lib.hid hown9
  have HYr:=Lib.hid (HY.out.below Z9.out)
  have q0:=HYr.out.cell 0
  have q1:=HYr.out.cell 1
  have q2:=HYr.out.cell 2
  have f0:=HYr.out.frozen 0
  have f1:=HYr.out.frozen 1
  have f2:=HYr.out.frozen 2
  simp at q0 q1 q2
  clear b9 hown9 MD x0 x1 x2 ZF
  go_wp2_with fail
  obtain ⟨k1,k2,k3⟩:=box_ret (w:=w) (g:=w.heap.size+1) (RT:=root) (LF:=lone) (by omega) (HB0.out.trans (Z9.out.mono HB0.out.size)) HYr.out HO9.out
  refine bodyPost_ret (results_cell_tmp_row rfl _ _ (w.heap.size+1) 28 _ (0,0) _ rfl k1 Tryz.underlying28 rfl HINF.out) rfl ?_
  exact ⟨A9,c9,rfl,hc9,hm9,k2.base_le' (by omega),k3⟩
 ·have edI:¬ (d:Int)=(e:Int):=by omega
  have edb:((d:Int) == (e:Int))=false:=by rw [beq_eq_false_iff_ne];exact edI
  have edd:decide (d=e)=false:=decide_eq_false hde
  have HLR2:Hid (chordR l d e=((rowsM l).map (aftL d n)).map (aftL e n1)):=by show _=_;rw [HLR.out,if_neg hde]
  have AQ2:=Lib.hid (after_q (at_:=e) (d:=n1) HW9.out (by omega) R1.out)
  clear HW9 hde
  go_wp2_with fail
  refine AQ2.out.mono ?_
  rintro en wF ⟨gF,cF,rfl,hWF,bF⟩
  rw [← HLR2.out] at hWF
  have HWF:=Lib.hid hWF
  have ZF:=Lib.hid (Z9H.out.trans (bF.mono hs9))
  have TF:=T0
  have hoF:(chordL l d e).length≤20000:=by rw [HL.out];omega
  have hpF:P≤40000:=by omega
  clear AQ2 hWF bF HL HLR HLR2 T0 Z9H
  obtain ⟨x0,x1,x2⟩:=SK.out _ ZF.out
  have MD:Hid (Calls Tryz.prog 66 #[.slice (some ⟨gF,0,none⟩) P cF,.int .i64 root,.int .i64 lone] wF (NewRO wF (chordL l d e) root lone)):=made_q HWF.out TF.out rfl hoF hpF root lone
  clear HWF TF
  go_wp2_with fail
  refine MD.out.mono ?_
  rintro en w9 ⟨A9,c9,rfl,hc9,hm9,hown9,b9⟩
  have Z9:=Lib.hid (ZF.out.trans (b9.mono ZF.out.size))
  have hsF:=ZF.out.size
  have HO9:=Lib.hid hown9
  have HYr:=Lib.hid (HY.out.below Z9.out)
  have q0:=HYr.out.cell 0
  have q1:=HYr.out.cell 1
  have q2:=HYr.out.cell 2
  have f0:=HYr.out.frozen 0
  have f1:=HYr.out.frozen 1
  have f2:=HYr.out.frozen 2
  simp at q0 q1 q2
  clear b9 hown9 MD x0 x1 x2 ZF
  go_wp2_with fail
  obtain ⟨k1,k2,k3⟩:=box_ret (w:=w) (g:=w.heap.size+1) (RT:=root) (LF:=lone) (by omega) (HB0.out.trans (Z9.out.mono HB0.out.size)) HYr.out HO9.out
  refine bodyPost_ret (results_cell_tmp_row rfl _ _ (w.heap.size+1) 28 _ (0,0) _ rfl k1 Tryz.underlying28 rfl HINF.out) rfl ?_
  exact ⟨A9,c9,rfl,hc9,hm9,k2.base_le' (by omega),k3⟩
set_option maxHeartbeats 16000000 in
theorem rdo23_2 (A:Option Addr) (c:Nat) (l b:List Nat) (root lone:Int) (d:Nat) (e:Int) (w:World) (h:Rd w w.heap.size A l.length (I64 (ofN l))) (hinv:Inv l b) (hev:l.length%2=0) (hn:l.length≤6000) (hd:d < l.length) :
  Calls Tryz.prog 26 #[.agg #[.slice A l.length c,.int .i64 root,.int .i64 lone],.int .i64 2,.int .i64 (d:Int),.int .i64 e] w (DoOK w (splitL l b d) root lone):=by
 obtain ⟨i0,hi0,hz0,hz1,hz2⟩:=info_parts info_int
 have hb0:=((Below.refl w.heap.size w).alloc (Nat.le_refl _) (.cells #[.slice A l.length c,.int .i64 root,.int .i64 lone] 28)).alloc (by simp) (.cells #[.slice none 0 0,.int .i64 0,.int .i64 0] 28)
 have HX:=Lib.hid ((Blk.new w 28 #[.slice A l.length c,.int .i64 root,.int .i64 lone]).alloc (.cells #[.slice none 0 0,.int .i64 0,.int .i64 0] 28))
 have hy:=(Blk.new (w.alloc (.cells #[.slice A l.length c,.int .i64 root,.int .i64 lone] 28)) 28 #[.slice none 0 0,.int .i64 0,.int .i64 0])
 rw [show (w.alloc (.cells #[.slice A l.length c,.int .i64 root,.int .i64 lone] 28)).heap.size=w.heap.size+1 by simp] at hy
 have HY:=Lib.hid hy
 have HR:=Lib.hid (h.more hb0)
 have HB0:=Lib.hid hb0
 have HINF:=Lib.hid info_rmap
 have hp:=phi_inv hinv hev
 have hpl:=phiL_len l
 obtain ⟨m,hm⟩:∃ m,m=mateN d:=⟨_,rfl⟩
 have hml:m < l.length:=by rw [hm];exact mateN_lt hev hd
 obtain ⟨P,hP⟩:∃ P,P=(rowsM l).length:=⟨_,rfl⟩
 have hPl:P≤l.length:=by rw [hP];exact rowsM_len l
 have hPp:0 < P:=by rw [hP];exact rowsM_pos (by omega)
 have PH:Hid (∀ W,Below _ _ W→Calls Tryz.prog 60 #[.agg #[.slice A l.length c,.int .i64 root,.int .i64 lone]] W (NewI64 W (ofN (phiL l)))):=fun W q=>rphi_p A c l root lone W ((HR.out.below q).up q.size) hev (by omega)
 have NM:Hid (∀ W A9 c9,Rd W W.heap.size A9 l.length (I64 (ofN (phiL l)))→Calls Tryz.prog 31 #[.slice A9 l.length c9] W (NewI64 W (ofN (names (phiL l))))):=fun W A9 c9 q=>by
  have:=rnames_p A9 c9 _ (phiL l) _ W (by rw [hpl];exact q) hp (by omega)
  rwa [hpl] at this
 have IV:Hid (∀ W,Below _ _ W→Calls Tryz.prog 61 #[.slice A l.length c] W (NewI64 W (ofN b))):=fun W q=>rinverse_p A c _ l b W (HR.out.below q) hinv (by omega)
 have MT:Hid (∀ W,Calls Tryz.prog 32 #[.int .i64 (d:Int)] W fun en w'=>en=.returned (.int .i64 (m:Int))∧W=w'):=fun W=>by rw [hm];exact rmate_p d W (by omega)
 have LS:Hid (∀ W,Below _ _ W→Calls Tryz.prog 62 #[.agg #[.slice A l.length c,.int .i64 root,.int .i64 lone]] W (RWP W (rowsM l) P)):=fun W q=>by
  rw [hP];exact lists_q A c l b root lone W ((HR.out.below q).up q.size) hinv (by omega) (by omega)
 have HPL:Hid ((ofN (phiL l)).length=l.length∧(phiL l).length=l.length):=⟨by rw [ofN_len];exact hpl,hpl⟩
 have HBL:Hid ((ofN b).length=l.length∧b.length=l.length):=⟨by rw [ofN_len];exact hinv.len,hinv.len⟩
 have HNL:Hid ((ofN (names (phiL l))).length=l.length):=by show _=_;rw [ofN_len,names_len,hpl]
 have HI:=Lib.hid (And.intro hinv hev)
 have HM:Hid (m=mateN d):=hm
 have HPR:Hid (P=(rowsM l).length):=hP
 obtain ⟨n,hn'⟩:∃ n,n=l.length:=⟨_,rfl⟩
 have HN:Hid (n=l.length):=hn'
 have RL:Hid (∀ os f S B,Tells os f S→(∀ x,S x→x < B)→B≤20000→∀ r,r < os.length→(os.getD r []).length≤20000):=fun os f S B t hs hB r hr=>Nat.le_trans (t.rowLe hs r hr) hB
 have T0:Hid (Tells (splitR l d) (sgL (splitL l b d)) fun x=>x < (splitL l b d).length):=by show Tells _ _ _;rw [(split_inv hinv hev hd).2];exact split_tell hinv hev hd
 have HL:Hid ((splitL l b d).length=l.length+2):=(split_inv hinv hev hd).2
 have R0:Hid (∀ r,r < (rowsM l).length→((rowsM l).getD r []).length≤20000):=RL.out _ _ _ _ (lists_tell hinv) (fun x hx=>hx) (by omega)
 obtain ⟨n1,hn1⟩:∃ n1,n1=l.length+1:=⟨_,rfl⟩
 have en1:(l.length:Int)+1=(n1:Int):=by omega
 have wn1:IntKind.i64.wrap (n1:Int)=(n1:Int):=by simp [IntKind.wrap,IntKind.signed,IntKind.bits];omega
 have R1:Hid (∀ r,r < ((rowsM l).map (aftL m n1)).length→(((rowsM l).map (aftL m n1)).getD r []).length≤20000) :=
  RL.out _ _ _ (l.length+2) ((lists_tell hinv).after (a:=m) (d:=n1) hml (by omega)) (fun x hx=>by rcases hx with hx | hx <;> omega) (by omega)
 have HLR:Hid (splitR l d=((rowsM l).map (aftL m n1)).map (witL m)++[[l.length,m]]):=by rw [hn1,hm];rfl
 clear hn1
 rw [← hn'] at HX HY HR HB0 hd hml hn hPl PH NM IV LS HPL HBL HNL HL en1 HLR ⊢
 clear h hb0 hinv hy hp hpl hev hm hP hn'
 have hdI:(d:Int) < (n:Int):=by omega
 go_enter Tryz.func26,Tryz.ntmps26
 go_upto_region 1 with fail
 generalize hw3:(w.alloc (.cells #[.slice A n c,.int .i64 root,.int .i64 lone] 28)).alloc (.cells #[.slice none 0 0,.int .i64 0,.int .i64 0] 28)=w3 at *
 have hs3:w3.heap.size=w.heap.size+2:=by rw [← hw3];simp
 have SK:Hid (∀ W,Below w3.heap.size w3 W→W.cell? ⟨w.heap.size,0,none⟩=some (.slice A n c)∧W.cell? ⟨w.heap.size,1,none⟩=some (.int .i64 root)∧W.cell? ⟨w.heap.size,2,none⟩=some (.int .i64 lone)):=fun W q=>⟨(HX.out.below q).cell 0,(HX.out.below q).cell 1,(HX.out.below q).cell 2⟩
 obtain ⟨x0,x1,x2⟩:=SK.out _ (Below.refl _ _)
 have Z3:=Below.refl w3.heap.size w3
 clear hw3 HX
 go_upto_region 4 with fail
 go_wp2_with fail
 refine (PH.out _ Z3).mono ?_
 rintro en w4 ⟨A4,c4,rfl,hc4,hm4,hown4,b4⟩
 rw [HPL.out.1] at hc4 hown4 ⊢
 obtain ⟨gP,rfl,hgP,hgPw⟩:=own_some hown4 (by omega)
 have Z4:=Z3.trans (b4.mono (Nat.le_refl _))
 have hs4:=Z4.size
 have RP:=Lib.hid (Rd.ofOwn hown4)
 have FP:Hid (∀ W,Below w4.heap.size w4 W→∀ j,j < n→W.cell? ⟨gP,j,none⟩=some (.int .i64 (((phiL l).getD j 0:Nat):Int))):=fun W q j hj=>by
  have:=own_cellI (own_below hown4 q) j hj
  rwa [ofN_get] at this
 clear b4 hown4 hc4 hm4 PH x0 x1 x2 Z3
 go_wp2_with fail
 refine (NM.out _ _ c4 RP.out).mono ?_
 rintro en w5 ⟨A5,c5,rfl,hc5,hm5,hown5,b5⟩
 rw [HNL.out] at hc5 hown5 ⊢
 obtain ⟨gN,rfl,hgN,hgNw⟩:=own_some hown5 (by omega)
 have Z5:=Z4.trans (b5.mono hs4)
 have hs5:=Z5.size
 have FN:Hid (∀ W,Below w5.heap.size w5 W→∀ j,j < n→W.cell? ⟨gN,j,none⟩=some (.int .i64 ((nameOf (phiL l) j:Nat):Int))):=fun W q j hj=>by
  have:=own_cellI (own_below hown5 q) j hj
  rwa [ofN_get,names_get _ _ (by rw [HPL.out.2];exact hj)] at this
 have V5:=Lib.hid b5
 obtain ⟨x0,x1,x2⟩:=SK.out _ Z5
 clear b5 hown5 hc5 hm5 NM Z4
 go_wp2_with fail
 refine (IV.out _ Z5).mono ?_
 rintro en w6 ⟨A6,c6,rfl,hc6,hm6,hown6,b6⟩
 rw [HBL.out.1] at hc6 hown6 ⊢
 obtain ⟨gB,rfl,hgB,hgBw⟩:=own_some hown6 (by omega)
 have Z6:=Z5.trans (b6.mono hs5)
 have hs6:=Z6.size
 have FB:Hid (∀ W,Below w6.heap.size w6 W→∀ j,j < n→W.cell? ⟨gB,j,none⟩=some (.int .i64 ((b.getD j 0:Nat):Int))):=fun W q j hj=>by
  have:=own_cellI (own_below hown6 q) j hj
  rwa [ofN_get] at this
 have V6:=Lib.hid b6
 obtain ⟨x0,x1,x2⟩:=SK.out _ Z6
 clear b6 hown6 hc6 hm6 IV Z5
 go_wp2_with fail
 refine (MT.out _).mono ?_
 rintro en wz ⟨rfl,rfl⟩
 clear MT
 go_wp2_with fail
 refine (LS.out _ Z6).mono ?_
 rintro en w7 ⟨g7,c7,rfl,hW7,b7⟩
 have Z7:=Z6.trans (b7.mono hs6)
 have hs7:=Z7.size
 have FA:Hid (∀ W,Below w7.heap.size w7 W→(∀ j,j < n→W.cell? ⟨gP,j,none⟩=some (.int .i64 (((phiL l).getD j 0:Nat):Int))∧W.cell? ⟨gN,j,none⟩=some (.int .i64 ((nameOf (phiL l) j:Nat):Int))∧W.cell? ⟨gB,j,none⟩=some (.int .i64 ((b.getD j 0:Nat):Int)))∧Rd W W.heap.size (some ⟨gP,0,none⟩) n (I64 (ofN (phiL l)))):=fun W q=>by
  have u6:Below w6.heap.size w6 W:=b7.trans (q.mono b7.size)
  have u5:Below w5.heap.size w5 W:=V6.out.trans (u6.mono V6.out.size)
  have u4:Below w4.heap.size w4 W:=V5.out.trans (u5.mono V5.out.size)
  exact ⟨fun j hj=>⟨FP.out W u4 j hj,FN.out W u5 j hj,FB.out W u6 j hj⟩,(RP.out.below u4).up u4.size⟩
 have HW7:=Lib.hid hW7
 have Z7H:=Lib.hid Z7
 have hbw:w.heap.size+2≤w7.heap.size:=by omega
 obtain ⟨x0,x1,x2⟩:=SK.out _ Z7
 clear b7 hW7 LS Z6 Z7 RP FP FN FB V5 V6 hgP hgPw hgN hgNw hgB hgBw hs4 hs5
 have AQ:=Lib.hid (after_q (at_:=m) (d:=n1) HW7.out (by omega) R0.out)
 clear HW7
 go_wp2_with fail
 refine AQ.out.mono ?_
 rintro en w8 ⟨g8,c8,rfl,hW8,b8⟩
 have WQ:=Lib.hid (without_q hW8 m (by omega) R1.out)
 have B8:=Lib.hid b8
 have hs8:=b8.size
 clear hW8 b8 AQ R0 R1
 go_wp2_with fail
 refine WQ.out.mono ?_
 rintro en w10 ⟨g10,c10,rfl,hW10,b10⟩
 obtain ⟨gF,cF,wF,hrun,hWF,bF⟩:=hW10.push (b10.size) (by omega) [n,m] (by simp)
 have hcs:(I64 (ofN [n,m])).toArray=#[.int .i64 (n:Int),.int .i64 (m:Int)]:=by simp [I64,ofN]
 rw [hcs] at hrun
 simp only [show [n,m].length=2 from rfl] at hrun
 rw [← HLR.out] at hWF
 have HWF:=Lib.hid hWF
 have ZF:=Lib.hid (Z7H.out.trans ((B8.out.trans ((b10.trans bF).mono hs8)).mono hs7))
 have TF:=T0
 have hoF:(splitL l b d).length≤20000:=by rw [HL.out];omega
 have hpF:P+1≤40000:=by omega
 clear WQ hWF bF hW10 b10 hcs Z7H HL HLR T0 B8 x0 x1 x2
 obtain ⟨x0,x1,x2⟩:=SK.out _ ZF.out
 go_wp2_with (first
  | (at_builtin;go_must (refine wpList_append_runR rfl _ _ _ rfl _ _ _ _ rfl rfl hrun ?_)))
 have MD:Hid (Calls Tryz.prog 66 #[.slice (some ⟨gF,0,none⟩) (P+1) cF,.int .i64 root,.int .i64 lone] wF (NewRO wF (splitL l b d) root lone)):=made_q HWF.out TF.out rfl hoF hpF root lone
 clear HWF TF
 go_wp2_with fail
 refine MD.out.mono ?_
 rintro en w9 ⟨A9,c9,rfl,hc9,hm9,hown9,b9⟩
 have Z9:=Lib.hid (ZF.out.trans (b9.mono ZF.out.size))
 have hsF:=ZF.out.size
 have HO9:=Lib.hid hown9
 have HYr:=Lib.hid (HY.out.below Z9.out)
 have q0:=HYr.out.cell 0
 have q1:=HYr.out.cell 1
 have q2:=HYr.out.cell 2
 have f0:=HYr.out.frozen 0
 have f1:=HYr.out.frozen 1
 have f2:=HYr.out.frozen 2
 simp at q0 q1 q2
 clear b9 hown9 MD x0 x1 x2 ZF
 go_wp2_with fail
 obtain ⟨k1,k2,k3⟩:=box_ret (w:=w) (g:=w.heap.size+1) (RT:=root) (LF:=lone) (by omega) (HB0.out.trans (Z9.out.mono HB0.out.size)) HYr.out HO9.out
 refine bodyPost_ret (results_cell_tmp_row rfl _ _ (w.heap.size+1) 28 _ (0,0) _ rfl k1 Tryz.underlying28 rfl HINF.out) rfl ?_
 exact ⟨A9,c9,rfl,hc9,hm9,k2.base_le' (by omega),k3⟩
set_option maxHeartbeats 16000000 in
theorem rdo23_3 (A:Option Addr) (c:Nat) (l b:List Nat) (root lone:Int) (d:Nat) (e:Int) (w:World) (h:Rd w w.heap.size A l.length (I64 (ofN l))) (hinv:Inv l b) (hev:l.length%2=0) (hn:l.length≤6000) (hd:d < l.length) :
  Calls Tryz.prog 26 #[.agg #[.slice A l.length c,.int .i64 root,.int .i64 lone],.int .i64 3,.int .i64 (d:Int),.int .i64 e] w (DoOK w (starL l b d) root lone):=by
 obtain ⟨i0,hi0,hz0,hz1,hz2⟩:=info_parts info_int
 have hb0:=((Below.refl w.heap.size w).alloc (Nat.le_refl _) (.cells #[.slice A l.length c,.int .i64 root,.int .i64 lone] 28)).alloc (by simp) (.cells #[.slice none 0 0,.int .i64 0,.int .i64 0] 28)
 have HX:=Lib.hid ((Blk.new w 28 #[.slice A l.length c,.int .i64 root,.int .i64 lone]).alloc (.cells #[.slice none 0 0,.int .i64 0,.int .i64 0] 28))
 have hy:=(Blk.new (w.alloc (.cells #[.slice A l.length c,.int .i64 root,.int .i64 lone] 28)) 28 #[.slice none 0 0,.int .i64 0,.int .i64 0])
 rw [show (w.alloc (.cells #[.slice A l.length c,.int .i64 root,.int .i64 lone] 28)).heap.size=w.heap.size+1 by simp] at hy
 have HY:=Lib.hid hy
 have HR:=Lib.hid (h.more hb0)
 have HB0:=Lib.hid hb0
 have HINF:=Lib.hid info_rmap
 have hp:=phi_inv hinv hev
 have hpl:=phiL_len l
 obtain ⟨m,hm⟩:∃ m,m=mateN d:=⟨_,rfl⟩
 have hml:m < l.length:=by rw [hm];exact mateN_lt hev hd
 obtain ⟨P,hP⟩:∃ P,P=(rowsM l).length:=⟨_,rfl⟩
 have hPl:P≤l.length:=by rw [hP];exact rowsM_len l
 have hPp:0 < P:=by rw [hP];exact rowsM_pos (by omega)
 have PH:Hid (∀ W,Below _ _ W→Calls Tryz.prog 60 #[.agg #[.slice A l.length c,.int .i64 root,.int .i64 lone]] W (NewI64 W (ofN (phiL l)))):=fun W q=>rphi_p A c l root lone W ((HR.out.below q).up q.size) hev (by omega)
 have NM:Hid (∀ W A9 c9,Rd W W.heap.size A9 l.length (I64 (ofN (phiL l)))→Calls Tryz.prog 31 #[.slice A9 l.length c9] W (NewI64 W (ofN (names (phiL l))))):=fun W A9 c9 q=>by
  have:=rnames_p A9 c9 _ (phiL l) _ W (by rw [hpl];exact q) hp (by omega)
  rwa [hpl] at this
 have IV:Hid (∀ W,Below _ _ W→Calls Tryz.prog 61 #[.slice A l.length c] W (NewI64 W (ofN b))):=fun W q=>rinverse_p A c _ l b W (HR.out.below q) hinv (by omega)
 have MT:Hid (∀ W,Calls Tryz.prog 32 #[.int .i64 (d:Int)] W fun en w'=>en=.returned (.int .i64 (m:Int))∧W=w'):=fun W=>by rw [hm];exact rmate_p d W (by omega)
 have LS:Hid (∀ W,Below _ _ W→Calls Tryz.prog 62 #[.agg #[.slice A l.length c,.int .i64 root,.int .i64 lone]] W (RWP W (rowsM l) P)):=fun W q=>by
  rw [hP];exact lists_q A c l b root lone W ((HR.out.below q).up q.size) hinv (by omega) (by omega)
 have HPL:Hid ((ofN (phiL l)).length=l.length∧(phiL l).length=l.length):=⟨by rw [ofN_len];exact hpl,hpl⟩
 have HBL:Hid ((ofN b).length=l.length∧b.length=l.length):=⟨by rw [ofN_len];exact hinv.len,hinv.len⟩
 have HNL:Hid ((ofN (names (phiL l))).length=l.length):=by show _=_;rw [ofN_len,names_len,hpl]
 have HI:=Lib.hid (And.intro hinv hev)
 have HM:Hid (m=mateN d):=hm
 have HPR:Hid (P=(rowsM l).length):=hP
 obtain ⟨n,hn'⟩:∃ n,n=l.length:=⟨_,rfl⟩
 have HN:Hid (n=l.length):=hn'
 have RL:Hid (∀ os f S B,Tells os f S→(∀ x,S x→x < B)→B≤20000→∀ r,r < os.length→(os.getD r []).length≤20000):=fun os f S B t hs hB r hr=>Nat.le_trans (t.rowLe hs r hr) hB
 obtain ⟨a1,a2,a3,a4⟩:=ahead_lt hinv hev hd
 obtain ⟨O,hO⟩:∃ O,O=orb (phiL l) d:=⟨_,rfl⟩
 obtain ⟨Q,hQ⟩:∃ Q,Q=aheadN l b d:=⟨_,rfl⟩
 obtain ⟨K,hK⟩:∃ K,K=Q.length:=⟨_,rfl⟩
 have hQO:Q.length=O.length:=by rw [hQ,hO];simp [aheadN]
 have hKn:K≤l.length:=by rw [hK,hQO,hO];exact a3
 have ts:=star_tellj hinv a2
 rw [← hQ] at ts a2
 have TJ:Hid (∀ j,j≤K→∃ f S,Tells (starR (rowsM l) Q l.length j) f S∧∀ x,S x→x < l.length+2*j):=fun j hj=>⟨_,_,(ts j (by omega)).1,fun x hx=>by rcases hx with hx | ⟨i,hi,hx⟩ <;> omega⟩
 have hSL:(starL l b d).length=l.length+2*K:=by
  have:=(star_inv hinv a2 Q.length (Nat.le_refl _)).2
  unfold starL;rw [← hQ,this,hK]
 have T0:Hid (Tells (starR (rowsM l) Q l.length K++[hubN l.length K]) (sgL (starL l b d)) fun x=>x < (starL l b d).length):=by
  show Tells _ _ _
  have:=star_tell hinv hev hd
  rw [hSL]
  unfold starRows at this
  rw [← hQ,← hK] at this;exact this
 have HL:Hid ((starL l b d).length=l.length+2*K):=hSL
 have HO:Hid (O.length=K∧∀ j,j < K→O.getD j 0 < l.length∧Q.getD j 0=b.getD (O.getD j 0) 0):=by
  refine ⟨by rw [hK,hQO],fun j hj=>?_⟩
  have hjo:j < (orb (phiL l) d).length:=by rw [← hO];omega
  refine ⟨by rw [hO];exact a1 _ (gD_mem hjo),?_⟩
  rw [hQ,hO]
  unfold aheadN
  simp [List.getD_eq_getElem?_getD,List.getElem?_eq_getElem hjo]
 have OB:Hid (∀ W A9 c9,Rd W W.heap.size A9 l.length (I64 (ofN (phiL l)))→Calls Tryz.prog 65 #[.slice A9 l.length c9,.int .i64 (d:Int)] W (NewI64 W (ofN O))):=fun W A9 c9 q=>by
  have:=rorbit_p A9 c9 _ (phiL l) _ d W (by rw [hpl];exact q) hp (by omega) (by rw [hpl];exact hd)
  rwa [hpl,← hO] at this
 have HOL:Hid ((ofN O).length=K):=by show _=_;rw [ofN_len,hK,hQO]
 clear hSL ts a1 a2 a3 a4 hO hQ hK hQO
 rw [← hn'] at HX HY HR HB0 hd hml hn hPl PH NM IV LS HPL HBL HNL HL TJ T0 HO OB hKn ⊢
 clear h hb0 hinv hy hp hpl hev hm hP hn'
 have hdI:(d:Int) < (n:Int):=by omega
 go_enter Tryz.func26,Tryz.ntmps26
 go_upto_region 1 with fail
 generalize hw3:(w.alloc (.cells #[.slice A n c,.int .i64 root,.int .i64 lone] 28)).alloc (.cells #[.slice none 0 0,.int .i64 0,.int .i64 0] 28)=w3 at *
 have hs3:w3.heap.size=w.heap.size+2:=by rw [← hw3];simp
 have SK:Hid (∀ W,Below w3.heap.size w3 W→W.cell? ⟨w.heap.size,0,none⟩=some (.slice A n c)∧W.cell? ⟨w.heap.size,1,none⟩=some (.int .i64 root)∧W.cell? ⟨w.heap.size,2,none⟩=some (.int .i64 lone)):=fun W q=>⟨(HX.out.below q).cell 0,(HX.out.below q).cell 1,(HX.out.below q).cell 2⟩
 obtain ⟨x0,x1,x2⟩:=SK.out _ (Below.refl _ _)
 have Z3:=Below.refl w3.heap.size w3
 clear hw3 HX
 go_upto_region 4 with fail
 go_wp2_with fail
 refine (PH.out _ Z3).mono ?_
 rintro en w4 ⟨A4,c4,rfl,hc4,hm4,hown4,b4⟩
 rw [HPL.out.1] at hc4 hown4 ⊢
 obtain ⟨gP,rfl,hgP,hgPw⟩:=own_some hown4 (by omega)
 have Z4:=Z3.trans (b4.mono (Nat.le_refl _))
 have hs4:=Z4.size
 have RP:=Lib.hid (Rd.ofOwn hown4)
 have FP:Hid (∀ W,Below w4.heap.size w4 W→∀ j,j < n→W.cell? ⟨gP,j,none⟩=some (.int .i64 (((phiL l).getD j 0:Nat):Int))):=fun W q j hj=>by
  have:=own_cellI (own_below hown4 q) j hj
  rwa [ofN_get] at this
 clear b4 hown4 hc4 hm4 PH x0 x1 x2 Z3
 go_wp2_with fail
 refine (NM.out _ _ c4 RP.out).mono ?_
 rintro en w5 ⟨A5,c5,rfl,hc5,hm5,hown5,b5⟩
 rw [HNL.out] at hc5 hown5 ⊢
 obtain ⟨gN,rfl,hgN,hgNw⟩:=own_some hown5 (by omega)
 have Z5:=Z4.trans (b5.mono hs4)
 have hs5:=Z5.size
 have FN:Hid (∀ W,Below w5.heap.size w5 W→∀ j,j < n→W.cell? ⟨gN,j,none⟩=some (.int .i64 ((nameOf (phiL l) j:Nat):Int))):=fun W q j hj=>by
  have:=own_cellI (own_below hown5 q) j hj
  rwa [ofN_get,names_get _ _ (by rw [HPL.out.2];exact hj)] at this
 have V5:=Lib.hid b5
 obtain ⟨x0,x1,x2⟩:=SK.out _ Z5
 clear b5 hown5 hc5 hm5 NM Z4
 go_wp2_with fail
 refine (IV.out _ Z5).mono ?_
 rintro en w6 ⟨A6,c6,rfl,hc6,hm6,hown6,b6⟩
 rw [HBL.out.1] at hc6 hown6 ⊢
 obtain ⟨gB,rfl,hgB,hgBw⟩:=own_some hown6 (by omega)
 have Z6:=Z5.trans (b6.mono hs5)
 have hs6:=Z6.size
 have FB:Hid (∀ W,Below w6.heap.size w6 W→∀ j,j < n→W.cell? ⟨gB,j,none⟩=some (.int .i64 ((b.getD j 0:Nat):Int))):=fun W q j hj=>by
  have:=own_cellI (own_below hown6 q) j hj
  rwa [ofN_get] at this
 have V6:=Lib.hid b6
 obtain ⟨x0,x1,x2⟩:=SK.out _ Z6
 clear b6 hown6 hc6 hm6 IV Z5
 go_wp2_with fail
 refine (MT.out _).mono ?_
 rintro en wz ⟨rfl,rfl⟩
 clear MT
 go_wp2_with fail
 refine (LS.out _ Z6).mono ?_
 rintro en w7 ⟨g7,c7,rfl,hW7,b7⟩
 have Z7:=Z6.trans (b7.mono hs6)
 have hs7:=Z7.size
 have FA:Hid (∀ W,Below w7.heap.size w7 W→(∀ j,j < n→W.cell? ⟨gP,j,none⟩=some (.int .i64 (((phiL l).getD j 0:Nat):Int))∧W.cell? ⟨gN,j,none⟩=some (.int .i64 ((nameOf (phiL l) j:Nat):Int))∧W.cell? ⟨gB,j,none⟩=some (.int .i64 ((b.getD j 0:Nat):Int)))∧Rd W W.heap.size (some ⟨gP,0,none⟩) n (I64 (ofN (phiL l)))):=fun W q=>by
  have u6:Below w6.heap.size w6 W:=b7.trans (q.mono b7.size)
  have u5:Below w5.heap.size w5 W:=V6.out.trans (u6.mono V6.out.size)
  have u4:Below w4.heap.size w4 W:=V5.out.trans (u5.mono V5.out.size)
  exact ⟨fun j hj=>⟨FP.out W u4 j hj,FN.out W u5 j hj,FB.out W u6 j hj⟩,(RP.out.below u4).up u4.size⟩
 have HW7:=Lib.hid hW7
 have Z7H:=Lib.hid Z7
 have hbw:w.heap.size+2≤w7.heap.size:=by omega
 obtain ⟨x0,x1,x2⟩:=SK.out _ Z7
 clear b7 hW7 LS Z6 Z7 RP FP FN FB V5 V6 hgP hgPw hgN hgNw hgB hgBw hs4 hs5
 have RP7:=Lib.hid (FA.out _ (Below.refl _ _)).2
 have OBH:=Lib.hid (OB.out w7 _ c4 RP7.out)
 clear OB RP7
 go_wp2_with fail
 refine OBH.out.mono ?_
 rintro en w8 ⟨A8,c8,rfl,hc8,hm8,hown8,b8⟩
 rw [HOL.out] at hc8 hown8 ⊢
 have FO:Hid (∀ W,Below w8.heap.size w8 W→∃ bo,A8=some ⟨bo,0,none⟩∨K=0):=fun W q=>by
  rcases Nat.eq_zero_or_pos K with z | z
  ·exact ⟨0,.inr z⟩
  ·obtain ⟨g,rfl,_,_⟩:=own_some hown8 z;exact ⟨g,.inl rfl⟩
 have RO:=Lib.hid hown8
 have B8:=Lib.hid b8
 have hs8:=b8.size
 have HW8:=Lib.hid (HW7.out.below b8)
 clear b8 hown8 hc8 hm8 OBH HW7 x0 x1 x2
 obtain ⟨base,hbase⟩:∃ base,base=w8.heap.size:=⟨_,rfl⟩
 have HBS:=Lib.hid hbase
 go_wp2_with fail
 go_loopw [10,15,16,18,121] (fun nv lv hv _ idx wz=>∃ (j N g ch cl:Nat) (Ah:Option Addr) (w0:World),j≤K∧idx=.int .i64 (j:Int)∧nv=.int .i64 (N:Int)∧N≤n+2*j∧lv=.slice (some ⟨g,0,none⟩) P cl∧hv=.slice Ah j ch ∧
  Hid (N=n+2*j∧Below w8.heap.size w8 wz)∧Hid (RW w0 w6.heap.size g cl (starR (rowsM l) Q n j) P∧w6.heap.size≤w0.heap.size∧Below w0.heap.size w0 wz∧wz.ownsRow w0.heap.size 3 1 (.slice Ah j ch) j (I64 (ofN (hubN n j))))) (fun _ _ _ _ x _=>K - (intOf x).toNat)
 case atStart=>exact ⟨0,n,g7,0,c7,none,w8,by omega,rfl,rfl,by omega,rfl,rfl,⟨rfl,Below.refl _ _⟩,⟨HW8.out,by have:=HW8.out.lt;omega,Below.refl _ _,World.ownsRow_nil _ _ _ _⟩⟩
 case round =>
  clear HW8 hbase
  obtain ⟨wz,rfl⟩:∃ wz:World,wz=wr:=⟨_,rfl⟩
  obtain ⟨j,N,g,ch,cl,Ah,w0,hj,rfl,rfl,hNb,rfl,rfl,HA,HBb⟩:=hrel
  by_cases hjK:j < K
  ·have hjd:decide (j < K)=true:=decide_eq_true hjK
   have hjI:(j:Int) < (K:Int):=by omega
   obtain ⟨gO,rfl,_,_⟩:=own_some RO.out (by omega)
   obtain ⟨y,hy⟩:∃ y,y=O.getD j 0:=⟨_,rfl⟩
   obtain ⟨a,ha⟩:∃ a,a=Q.getD j 0:=⟨_,rfl⟩
   have hyn:y < n:=by rw [hy];exact (HO.out.2 j hjK).1
   have hyI:(y:Int) < (n:Int):=by omega
   have cy:wz.cell? ⟨gO,j,none⟩=some (.int .i64 (y:Int)):=by
    have:=own_cellI (own_below RO.out HA.out.2) j hjK
    rwa [ofN_get,← hy] at this
   have ca:wz.cell? ⟨gB,y,none⟩=some (.int .i64 (a:Int)):=by
    rw [ha,(HO.out.2 j hjK).2,← hy]
    exact ((FA.out _ (B8.out.trans (HA.out.2.mono hs8))).1 y hyn).2.2
   obtain ⟨N1,hN1⟩:∃ N1,N1=N+1:=⟨_,rfl⟩
   obtain ⟨N2,hN2⟩:∃ N2,N2=N+2:=⟨_,rfl⟩
   have e1:(N:Int)+1=(N1:Int):=by omega
   have e2:(N:Int)+2=(N2:Int):=by omega
   have w1:IntKind.i64.wrap (N1:Int)=(N1:Int):=by simp [IntKind.wrap,IntKind.signed,IntKind.bits];omega
   have w2:IntKind.i64.wrap (N2:Int)=(N2:Int):=by simp [IntKind.wrap,IntKind.signed,IntKind.bits];omega
   have wj:IntKind.i64.wrap ((j:Int)+1)=(j:Int)+1:=by simp [IntKind.wrap,IntKind.signed,IntKind.bits];omega
   obtain ⟨h1,h2,h3,h4⟩:=HBb.out
   have AQ:=Lib.hid (after_q (at_:=a) (d:=N) (h1.below h3) (by omega) (fun r hr=>by
    obtain ⟨f,S,t,hs⟩:=TJ.out j (by omega)
    exact RL.out _ _ _ (n+2*j) t hs (by omega) r hr))
   have H4:=Lib.hid h4
   have H0:Hid (N1=n+2*j+1∧N2=n+2*(j+1)∧a=Q.getD j 0∧N=n+2*j):=⟨by have:=HA.out.1;omega,by have:=HA.out.1;omega,ha,HA.out.1⟩
   have Z0:=Lib.hid (And.intro h2 h3.size)
   have HAB:=Lib.hid HA.out.2
   have hN2b:N2≤n+2*(j+1):=by omega
   clear h1 h2 h3 h4 hN1 hN2 ha hy HA HBb
   go_wp2_with fail
   refine AQ.out.mono ?_
   rintro en w9 ⟨g9,c9,rfl,hW9,b9⟩
   have hlh:=hub_len n j
   have hO9:=own_below H4.out b9
   have hO9':w9.ownsRow w0.heap.size 3 1 (.slice Ah (hubN n j).length ch) (hubN n j).length (I64 (ofN (hubN n j))):=by rw [hlh];exact hO9
   obtain ⟨A5,c5,w5,hrun,hO5,b5⟩:=hub_push hO9' (by rw [hlh];omega) N1
   rw [hlh] at hrun hO5
   have hz9:=b9.size
   have hz5:=b5.size
   have R9:Hid (RW w9 w6.heap.size g9 c9 (starR (rowsM l) Q n (j+1)) P∧w6.heap.size≤w9.heap.size∧Below w9.heap.size w9 w5∧w5.ownsRow w9.heap.size 3 1 (.slice A5 (j+1) c5) (j+1) (I64 (ofN (hubN n (j+1))))):=by
    refine ⟨?_,by have:=Z0.out;omega,b5,?_⟩
    ·have e:starR (rowsM l) Q n (j+1)=(starR (rowsM l) Q n j).map (aftL a N):=by rw [H0.out.2.2.1,H0.out.2.2.2];rfl
     rw [e];exact hW9.baseLe (by have:=Z0.out;omega)
    ·have e:hubN n (j+1)=N1 :: hubN n j:=by rw [H0.out.1];rfl
     rw [e];exact hO5
   have RA:Hid (N2=n+2*(j+1)∧Below w8.heap.size w8 w5):=⟨H0.out.2.1,HAB.out.trans ((b9.trans (b5.mono hz9)).mono HAB.out.size)⟩
   clear AQ hlh hO9 hO9' hO5 b5 b9 hW9 H4 HAB Z0 H0 hz9 hz5 cy ca
   go_wp2_with (first
    | (at_builtin;go_must (refine wpList_append_runR rfl _ _ _ rfl _ _ _ _ rfl rfl hrun ?_)))
   go_roundw
   case rel=>exact ⟨j+1,N2,g9,c5,c9,A5,w9,by omega,by go_num,rfl,hN2b,rfl,by first | rfl | go_num,RA,R9⟩
   case measure=>simp [intOf];omega
  ·obtain rfl:j=K:=by omega
   have hjd:decide (j < j)=false:=by simp
   obtain ⟨h1,h2,h3,h4⟩:=HBb.out
   have hlh:=hub_len n j
   obtain ⟨gF,cF,wF,hrun,hWF,bF⟩:=(h1.below h3).snoc (w0:=w0) (v:=hubN n j) (Av:=Ah) (cv:=ch) (by have:=h3.size;omega) (by omega) (by rw [hlh];exact h4.base_le' h2) w0.heap.size (fun k hk=>by rw [hlh] at hk;exact (h4.lt k hk).1) h1 (Nat.le_refl _) h3
   rw [hlh] at hrun
   have HWF:=Lib.hid hWF
   have hz:=HA.out.2.size
   have ZF:=Lib.hid ((Z7H.out.trans ((B8.out.trans (HA.out.2.mono hs8)).mono hs7)).trans (bF.mono hs6))
   have TF:=T0
   have hoF:(starL l b d).length≤20000:=by rw [HL.out];omega
   have hpF:P+1≤40000:=by omega
   clear h1 h2 h3 h4 hlh hWF bF HBb HA T0 HL
   obtain ⟨x0,x1,x2⟩:=SK.out _ ZF.out
   go_wp2_with (first
    | (at_builtin;go_must (refine wpList_append_runR rfl _ _ _ rfl _ _ _ _ rfl rfl hrun ?_)))
   have MD:Hid (Calls Tryz.prog 66 #[.slice (some ⟨gF,0,none⟩) (P+1) cF,.int .i64 root,.int .i64 lone] wF (NewRO wF (starL l b d) root lone)):=made_q HWF.out TF.out rfl hoF hpF root lone
   clear HWF TF
   go_wp2_with fail
   refine MD.out.mono ?_
   rintro en w9 ⟨A9,c9,rfl,hc9,hm9,hown9,b9⟩
   have Z9:=Lib.hid (ZF.out.trans (b9.mono ZF.out.size))
   have hsF:=ZF.out.size
   have HO9:=Lib.hid hown9
   have HYr:=Lib.hid (HY.out.below Z9.out)
   have q0:=HYr.out.cell 0
   have q1:=HYr.out.cell 1
   have q2:=HYr.out.cell 2
   have f0:=HYr.out.frozen 0
   have f1:=HYr.out.frozen 1
   have f2:=HYr.out.frozen 2
   simp at q0 q1 q2
   clear b9 hown9 MD x0 x1 x2 ZF
   go_wp2_with fail
   obtain ⟨k1,k2,k3⟩:=box_ret (w:=w) (g:=w.heap.size+1) (RT:=root) (LF:=lone) (by omega) (HB0.out.trans (Z9.out.mono HB0.out.size)) HYr.out HO9.out
   refine bodyPost_ret (results_cell_tmp_row rfl _ _ (w.heap.size+1) 28 _ (0,0) _ rfl k1 Tryz.underlying28 rfl HINF.out) rfl ?_
   exact ⟨A9,c9,rfl,hc9,hm9,k2.base_le' (by omega),k3⟩
end Go.Proofs.YtdinmjciippchaaGreat
