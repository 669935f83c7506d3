/- The document's Do (layer 23), kind 1n. -/
import Derived.Test.YtdinmjciippchaaGreatZg18
import Derived.Test.YtdinmjciippchaaGreatZg9
import Derived.Test.YtdinmjciippchaaGreatZg19
import Derived.Test.YtdinmjciippchaaGreatZGpDo4
open Go.RowKit
set_option linter.unusedVariables false
set_option linter.unusedSimpArgs false
namespace Go.Proofs.YtdinmjciippchaaGreat
set_option maxRecDepth 100000
set_option maxHeartbeats 16000000 in
theorem rdo23_1n (A:Option Addr) (c:Nat) (l b:List Nat) (root lone:Int) (d:Nat) (e:Nat) (w:World) (h:Rd w w.heap.size A l.length (I64 (ofN l))) (hinv:Inv l b) (hev:l.length%2=0) (hn:l.length≤6000) (hd:d < l.length) (he:e < l.length) (hf:nameOf (phiL l) (l.getD d 0)≠nameOf (phiL l) (l.getD e 0)) :
  Calls Tryz.prog 26 #[.agg #[.slice A l.length c,.int .i64 root,.int .i64 lone],.int .i64 1,.int .i64 (d:Int),.int .i64 (e:Int)] w (DoNo w A l.length c root lone 8):=by
 obtain ⟨i0,hi0,hz0,hz1,hz2⟩:=info_parts info_int
 have hb0:=((Below.refl w.heap.size w).alloc (Nat.le_refl _) (.cells #[.slice A l.length c,.int .i64 root,.int .i64 lone] 28)).alloc (by simp) (.cells #[.slice none 0 0,.int .i64 0,.int .i64 0] 28)
 have HX:=Lib.hid ((Blk.new w 28 #[.slice A l.length c,.int .i64 root,.int .i64 lone]).alloc (.cells #[.slice none 0 0,.int .i64 0,.int .i64 0] 28))
 have hy:=(Blk.new (w.alloc (.cells #[.slice A l.length c,.int .i64 root,.int .i64 lone] 28)) 28 #[.slice none 0 0,.int .i64 0,.int .i64 0])
 rw [show (w.alloc (.cells #[.slice A l.length c,.int .i64 root,.int .i64 lone] 28)).heap.size=w.heap.size+1 by simp] at hy
 have HY:=Lib.hid hy
 have HR:=Lib.hid (h.more hb0)
 have HB0:=Lib.hid hb0
 have HINF:=Lib.hid info_rmap
 have hp:=phi_inv hinv hev
 have hpl:=phiL_len l
 obtain ⟨m,hm⟩:∃ m,m=mateN d:=⟨_,rfl⟩
 have hml:m < l.length:=by rw [hm];exact mateN_lt hev hd
 obtain ⟨P,hP⟩:∃ P,P=(rowsM l).length:=⟨_,rfl⟩
 have hPl:P≤l.length:=by rw [hP];exact rowsM_len l
 have hPp:0 < P:=by rw [hP];exact rowsM_pos (by omega)
 have PH:Hid (∀ W,Below _ _ W→Calls Tryz.prog 60 #[.agg #[.slice A l.length c,.int .i64 root,.int .i64 lone]] W (NewI64 W (ofN (phiL l)))):=fun W q=>rphi_p A c l root lone W ((HR.out.below q).up q.size) hev (by omega)
 have NM:Hid (∀ W A9 c9,Rd W W.heap.size A9 l.length (I64 (ofN (phiL l)))→Calls Tryz.prog 31 #[.slice A9 l.length c9] W (NewI64 W (ofN (names (phiL l))))):=fun W A9 c9 q=>by
  have:=rnames_p A9 c9 _ (phiL l) _ W (by rw [hpl];exact q) hp (by omega)
  rwa [hpl] at this
 have IV:Hid (∀ W,Below _ _ W→Calls Tryz.prog 61 #[.slice A l.length c] W (NewI64 W (ofN b))):=fun W q=>rinverse_p A c _ l b W (HR.out.below q) hinv (by omega)
 have MT:Hid (∀ W,Calls Tryz.prog 32 #[.int .i64 (d:Int)] W fun en w'=>en=.returned (.int .i64 (m:Int))∧W=w'):=fun W=>by rw [hm];exact rmate_p d W (by omega)
 have LS:Hid (∀ W,Below _ _ W→Calls Tryz.prog 62 #[.agg #[.slice A l.length c,.int .i64 root,.int .i64 lone]] W (RWP W (rowsM l) P)):=fun W q=>by
  rw [hP];exact lists_q A c l b root lone W ((HR.out.below q).up q.size) hinv (by omega) (by omega)
 have HPL:Hid ((ofN (phiL l)).length=l.length∧(phiL l).length=l.length):=⟨by rw [ofN_len];exact hpl,hpl⟩
 have HBL:Hid ((ofN b).length=l.length∧b.length=l.length):=⟨by rw [ofN_len];exact hinv.len,hinv.len⟩
 have HNL:Hid ((ofN (names (phiL l))).length=l.length):=by show _=_;rw [ofN_len,names_len,hpl]
 have HI:=Lib.hid (And.intro hinv hev)
 have HM:Hid (m=mateN d):=hm
 have HPR:Hid (P=(rowsM l).length):=hP
 obtain ⟨n,hn'⟩:∃ n,n=l.length:=⟨_,rfl⟩
 have HN:Hid (n=l.length):=hn'
 have RL:Hid (∀ os f S B,Tells os f S→(∀ x,S x→x < B)→B≤20000→∀ r,r < os.length→(os.getD r []).length≤20000):=fun os f S B t hs hB r hr=>Nat.le_trans (t.rowLe hs r hr) hB
 have T0:Hid (Tells (chordR l d e) (sgL (chordL l d e)) fun x=>x < (chordL l d e).length):=by show Tells _ _ _;rw [(chord_inv hinv hd he).2];exact chord_tell hinv hd he
 have HL:Hid ((chordL l d e).length=l.length+2):=(chord_inv hinv hd he).2
 have R0:Hid (∀ r,r < (rowsM l).length→((rowsM l).getD r []).length≤20000):=RL.out _ _ _ _ (lists_tell hinv) (fun x hx=>hx) (by omega)
 obtain ⟨n1,hn1⟩:∃ n1,n1=l.length+1:=⟨_,rfl⟩
 have en1:(l.length:Int)+1=(n1:Int):=by omega
 have wn1:IntKind.i64.wrap (n1:Int)=(n1:Int):=by simp [IntKind.wrap,IntKind.signed,IntKind.bits];omega
 have R1:Hid (∀ r,r < ((rowsM l).map (aftL d l.length)).length→(((rowsM l).map (aftL d l.length)).getD r []).length≤20000):=RL.out _ _ _ (l.length+1) (leaf_pre hinv hd) (fun x hx=>hx) (by omega)
 have HLR:Hid (chordR l d e=((rowsM l).map (aftL d l.length)).map (aftL (if d=e then l.length else e) n1)):=by rw [hn1];rfl
 obtain ⟨sd,hsd⟩:∃ sd,sd=l.getD d 0:=⟨_,rfl⟩
 obtain ⟨se,hse⟩:∃ se,se=l.getD e 0:=⟨_,rfl⟩
 have hsdl:sd < l.length:=by rw [hsd];exact hinv.lt d hd
 have hsel:se < l.length:=by rw [hse];exact hinv.lt e he
 obtain ⟨fd,hfd⟩:∃ fd,fd=nameOf (phiL l) sd:=⟨_,rfl⟩
 obtain ⟨fe,hfe⟩:∃ fe,fe=nameOf (phiL l) se:=⟨_,rfl⟩
 have HF:Hid (fd≠fe):=by rw [hfd,hfe,hsd,hse];exact hf
 have HSF:Hid (sd=l.getD d 0∧se=l.getD e 0∧fd=nameOf (phiL l) sd∧fe=nameOf (phiL l) se):=⟨hsd,hse,hfd,hfe⟩
 clear hn1 hsd hse hfd hfe hf
 rw [← hn'] at HX HY HR HB0 hd hml hn hPl PH NM IV LS HPL HBL HNL HL en1 HLR he hsdl hsel R1 ⊢
 clear h hb0 hinv hy hp hpl hev hm hP hn'
 have hdI:(d:Int) < (n:Int):=by omega
 go_enter Tryz.func26,Tryz.ntmps26
 go_upto_region 1 with fail
 generalize hw3:(w.alloc (.cells #[.slice A n c,.int .i64 root,.int .i64 lone] 28)).alloc (.cells #[.slice none 0 0,.int .i64 0,.int .i64 0] 28)=w3 at *
 have hs3:w3.heap.size=w.heap.size+2:=by rw [← hw3];simp
 have SK:Hid (∀ W,Below w3.heap.size w3 W→W.cell? ⟨w.heap.size,0,none⟩=some (.slice A n c)∧W.cell? ⟨w.heap.size,1,none⟩=some (.int .i64 root)∧W.cell? ⟨w.heap.size,2,none⟩=some (.int .i64 lone)):=fun W q=>⟨(HX.out.below q).cell 0,(HX.out.below q).cell 1,(HX.out.below q).cell 2⟩
 obtain ⟨x0,x1,x2⟩:=SK.out _ (Below.refl _ _)
 have Z3:=Below.refl w3.heap.size w3
 clear hw3 HX
 go_upto_region 4 with fail
 go_wp2_with fail
 refine (PH.out _ Z3).mono ?_
 rintro en w4 ⟨A4,c4,rfl,hc4,hm4,hown4,b4⟩
 rw [HPL.out.1] at hc4 hown4 ⊢
 obtain ⟨gP,rfl,hgP,hgPw⟩:=own_some hown4 (by omega)
 have Z4:=Z3.trans (b4.mono (Nat.le_refl _))
 have hs4:=Z4.size
 have RP:=Lib.hid (Rd.ofOwn hown4)
 have FP:Hid (∀ W,Below w4.heap.size w4 W→∀ j,j < n→W.cell? ⟨gP,j,none⟩=some (.int .i64 (((phiL l).getD j 0:Nat):Int))):=fun W q j hj=>by
  have:=own_cellI (own_below hown4 q) j hj
  rwa [ofN_get] at this
 clear b4 hown4 hc4 hm4 PH x0 x1 x2 Z3
 go_wp2_with fail
 refine (NM.out _ _ c4 RP.out).mono ?_
 rintro en w5 ⟨A5,c5,rfl,hc5,hm5,hown5,b5⟩
 rw [HNL.out] at hc5 hown5 ⊢
 obtain ⟨gN,rfl,hgN,hgNw⟩:=own_some hown5 (by omega)
 have Z5:=Z4.trans (b5.mono hs4)
 have hs5:=Z5.size
 have FN:Hid (∀ W,Below w5.heap.size w5 W→∀ j,j < n→W.cell? ⟨gN,j,none⟩=some (.int .i64 ((nameOf (phiL l) j:Nat):Int))):=fun W q j hj=>by
  have:=own_cellI (own_below hown5 q) j hj
  rwa [ofN_get,names_get _ _ (by rw [HPL.out.2];exact hj)] at this
 have V5:=Lib.hid b5
 obtain ⟨x0,x1,x2⟩:=SK.out _ Z5
 clear b5 hown5 hc5 hm5 NM Z4
 go_wp2_with fail
 refine (IV.out _ Z5).mono ?_
 rintro en w6 ⟨A6,c6,rfl,hc6,hm6,hown6,b6⟩
 rw [HBL.out.1] at hc6 hown6 ⊢
 obtain ⟨gB,rfl,hgB,hgBw⟩:=own_some hown6 (by omega)
 have Z6:=Z5.trans (b6.mono hs5)
 have hs6:=Z6.size
 have FB:Hid (∀ W,Below w6.heap.size w6 W→∀ j,j < n→W.cell? ⟨gB,j,none⟩=some (.int .i64 ((b.getD j 0:Nat):Int))):=fun W q j hj=>by
  have:=own_cellI (own_below hown6 q) j hj
  rwa [ofN_get] at this
 have V6:=Lib.hid b6
 obtain ⟨x0,x1,x2⟩:=SK.out _ Z6
 clear b6 hown6 hc6 hm6 IV Z5
 go_wp2_with fail
 refine (MT.out _).mono ?_
 rintro en wz ⟨rfl,rfl⟩
 clear MT
 go_wp2_with fail
 refine (LS.out _ Z6).mono ?_
 rintro en w7 ⟨g7,c7,rfl,hW7,b7⟩
 have Z7:=Z6.trans (b7.mono hs6)
 have hs7:=Z7.size
 have FA:Hid (∀ W,Below w7.heap.size w7 W→(∀ j,j < n→W.cell? ⟨gP,j,none⟩=some (.int .i64 (((phiL l).getD j 0:Nat):Int))∧W.cell? ⟨gN,j,none⟩=some (.int .i64 ((nameOf (phiL l) j:Nat):Int))∧W.cell? ⟨gB,j,none⟩=some (.int .i64 ((b.getD j 0:Nat):Int)))∧Rd W W.heap.size (some ⟨gP,0,none⟩) n (I64 (ofN (phiL l)))):=fun W q=>by
  have u6:Below w6.heap.size w6 W:=b7.trans (q.mono b7.size)
  have u5:Below w5.heap.size w5 W:=V6.out.trans (u6.mono V6.out.size)
  have u4:Below w4.heap.size w4 W:=V5.out.trans (u5.mono V5.out.size)
  exact ⟨fun j hj=>⟨FP.out W u4 j hj,FN.out W u5 j hj,FB.out W u6 j hj⟩,(RP.out.below u4).up u4.size⟩
 have HW7:=Lib.hid hW7
 have Z7H:=Lib.hid Z7
 have hbw:w.heap.size+2≤w7.heap.size:=by omega
 obtain ⟨x0,x1,x2⟩:=SK.out _ Z7
 clear b7 hW7 LS Z6 Z7 RP FP FN FB V5 V6 hgP hgPw hgN hgNw hgB hgBw hs4 hs5
 have heI:(e:Int) < (n:Int):=by omega
 have hsdI:(sd:Int) < (n:Int):=by omega
 have hseI:(se:Int) < (n:Int):=by omega
 obtain ⟨ba,oa,rfl,hba,hca⟩:=HR.out.i64 (by omega)
 have cd:w7.cell? ⟨ba,oa+d,none⟩=some (.int .i64 (sd:Int)):=by
  rw [HSF.out.1,← ofN_get];exact (Z7H.out.cell (p:=⟨ba,oa+d,none⟩) hba).trans (hca d hd)
 have ce:w7.cell? ⟨ba,oa+e,none⟩=some (.int .i64 (se:Int)):=by
  rw [HSF.out.2.1,← ofN_get];exact (Z7H.out.cell (p:=⟨ba,oa+e,none⟩) hba).trans (hca e he)
 have nd:=(((FA.out _ (Below.refl _ _)).1) sd hsdl).2.1
 have ne:=(((FA.out _ (Below.refl _ _)).1) se hsel).2.1
 rw [← HSF.out.2.2.1] at nd
 rw [← HSF.out.2.2.2] at ne
 clear hca hba
 go_upto_if 86 with (go_quiet (fail))
 have bq:Below w7.heap.size w7 (w7.drewN nq):=below_draws (Below.refl _ _) nq
 generalize w7.drewN nq=w8 at *
 have B8:=Lib.hid bq
 have hs8:=bq.size
 clear bq cd ce nd ne x0 x1 x2
 have qI:¬ (fd:Int)=(fe:Int):=by have:=HF.out;omega
 have qd:((fd:Int) != (fe:Int))=true:=by rw [bne_iff_ne];exact qI
 have qd2:decide (fd=fe)=false:=decide_eq_false HF.out
 have BZH:=Lib.hid (Z7H.out.trans (B8.out.mono hs7))
 clear HW7 Z7H B8 FA
 have HYr:=Lib.hid (HY.out.below BZH.out)
 have q0:=HYr.out.cell 0
 have q1:=HYr.out.cell 1
 have q2:=HYr.out.cell 2
 have f0:=HYr.out.frozen 0
 have f1:=HYr.out.frozen 1
 have f2:=HYr.out.frozen 2
 simp at q0 q1 q2
 obtain ⟨x0,x1,x2⟩:=SK.out _ BZH.out
 go_wp2_with fail
 have MM:=box_mod w8 (w.heap.size+1) (.slice (some ⟨ba,oa,none⟩) n c) (.int .i64 root) (.int .i64 lone)
 have hblk:Blk (((w8.setCell ⟨w.heap.size+1,0,none⟩ (.slice (some ⟨ba,oa,none⟩) n c)).setCell ⟨w.heap.size+1,1,none⟩ (.int .i64 root)).setCell ⟨w.heap.size+1,2,none⟩ (.int .i64 lone)) (w.heap.size+1) 28 #[.slice (some ⟨ba,oa,none⟩) n c,.int .i64 root,.int .i64 lone]:=by
  have:=((HYr.out.set_ 0 (.slice (some ⟨ba,oa,none⟩) n c)).set_ 1 (.int .i64 root)).set_ 2 (.int .i64 lone)
  simpa using this
 have hsz:=BZH.out.size
 refine bodyPost_ret (results_cell_tmp_row rfl _ _ (w.heap.size+1) 28 _ (0,0) _ rfl hblk Tryz.underlying28 rfl HINF.out) rfl ?_
 exact ⟨rfl,(HB0.out.trans (BZH.out.mono HB0.out.size)).trans (MM.belowB (by omega) fun i hi q=>by omega)⟩
def GrowD (k:Nat) (l b:List Nat) (root lone d e:Int) (w:World) (en:Ending) (w':World):Prop :=
 ∃ A n c,en=.returned (.tuple #[.agg #[.slice A n c,.int .i64 root,.int .i64 lone],.int .i64 (growE k l d e)])∧Below w.heap.size w w'∧(growE k l d e=0 →
  n=(growO k l b d.toNat e.toNat).1.length∧n≤c∧c≤maxLen∧w'.ownsRow w.heap.size 3 1 (.slice A n c) n (I64 (ofN (growO k l b d.toNat e.toNat).1)))
theorem DoNo.d {w:World} {A:Option Addr} {k n c:Nat} {l b:List Nat} {root lone d e x:Int} {en:Ending} {w':World} (h:DoNo w A n c root lone x en w') (hx:growE k l d e=x) (h0:x≠0):GrowD k l b root lone d e w en w':=by
 obtain ⟨rfl,q⟩:=h
 exact ⟨A,n,c,by rw [hx],q,fun z=>absurd (hx.symm.trans z) h0⟩
theorem DoOK.d {w:World} {k:Nat} {o l b:List Nat} {root lone d e:Int} {en:Ending} {w':World} (h:DoOK w o root lone en w') (hx:growE k l d e=0) (ho:o=(growO k l b d.toNat e.toNat).1):GrowD k l b root lone d e w en w':=by
 obtain ⟨A,c,rfl,q1,q2,q3,q4⟩:=h
 exact ⟨A,o.length,c,by rw [hx],q4,fun _=>⟨by rw [ho],q1,q2,by rw [← ho];exact q3⟩⟩
theorem rdo23_a (k:Nat) (hk:k < 5) (A:Option Addr) (c:Nat) (l b:List Nat) (root lone d e:Int) (w:World) (h:Rd w w.heap.size A l.length (I64 (ofN l))) (hinv:Inv l b) (hev:l.length%2=0) (hn:l.length≤6000) :
  Calls Tryz.prog 26 #[.agg #[.slice A l.length c,.int .i64 root,.int .i64 lone],.int .i64 (k:Int),.int .i64 d,.int .i64 e] w (GrowD k l b root lone d e w):=by
 by_cases ho:(d < 0∨(l.length:Int)≤d)∨(k=1∧(e < 0∨(l.length:Int)≤e))
 ·exact (rdo23_out A l.length c root lone k d e w (by omega) (by omega)).mono fun en w' q=>q.d (growE_out ho) (by omega)
 ·have hE:=growE_in ho
  obtain ⟨dn,rfl⟩:∃ dn:Nat,d=(dn:Int):=⟨d.toNat,by omega⟩
  rw [Int.toNat_natCast] at hE
  have hd:dn < l.length:=by omega
  have hk5:k=0∨k=1∨k=2∨k=3∨k=4:=by omega
  rcases hk5 with rfl | rfl | rfl | rfl | rfl
  ·exact (rdo23_0 A c l b root lone dn e w h hinv hev hn hd).mono fun en w' q=>q.d (hE.1 (by omega) (by omega)) rfl
  ·obtain ⟨en',rfl⟩:∃ en':Nat,e=(en':Int):=⟨e.toNat,by omega⟩
   rw [Int.toNat_natCast] at hE
   by_cases hf:nameOf (phiL l) (l.getD dn 0)=nameOf (phiL l) (l.getD en' 0)
   ·exact (rdo23_1 A c l b root lone dn en' w h hinv hev hn hd (by omega) hf).mono fun en w' q=>q.d (hE.1 (fun c=>c.2 hf) (by omega)) rfl
   ·exact (rdo23_1n A c l b root lone dn en' w h hinv hev hn hd (by omega) hf).mono fun en w' q=>q.d (hE.2.1 rfl hf) (by omega)
  ·exact (rdo23_2 A c l b root lone dn e w h hinv hev hn hd).mono fun en w' q=>q.d (hE.1 (by omega) (by omega)) rfl
  ·exact (rdo23_3 A c l b root lone dn e w h hinv hev hn hd).mono fun en w' q=>q.d (hE.1 (by omega) (by omega)) rfl
  ·refine (rdo23_4 A c l b root lone dn e w h hinv hev hn hd).mono fun en w' q=>?_
   rcases q with ⟨hf,q⟩ | ⟨hf,q⟩
   ·exact q.d (hE.1 (by omega) (fun c=>c.2 hf)) rfl
   ·exact q.d (hE.2.2 rfl hf) (by omega)
end Go.Proofs.YtdinmjciippchaaGreat
