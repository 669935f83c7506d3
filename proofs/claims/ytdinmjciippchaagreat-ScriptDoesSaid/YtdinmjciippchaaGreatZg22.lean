/- The document's made: rows of darts around vertices told into a map without an edge. -/
import Derived.Test.YtdinmjciippchaaGreatZg21
import Derived.Test.YtdinmjciippchaaGreatZg4
import Derived.Test.YtdinmjciippchaaGreatZg2
import Derived.Test.YtdinmjciippchaaGreatZg3
import Derived.Maps.OwnSet
import Derived.Test.YtdinmjciippchaaGreatZg9
open Go.RowKit
set_option linter.unusedVariables false
namespace Go.Proofs.YtdinmjciippchaaGreat
set_option maxRecDepth 100000
def hdE (e:Nat):List Nat→Int
 | []=>0
 | x :: L=>if x / 2≠e then ((calN e x:Nat):Int) else hdE e L
theorem hdE_at (e:Nat):∀ (L:List Nat) (i:Nat),i < L.length→L.getD i 0 / 2≠e→(∀ j,j < i→L.getD j 0 / 2=e)→hdE e L=((calN e (L.getD i 0):Nat):Int)
 | [],i,h,_,_=>by simp at h
 | x :: L,0,_,c,_=>by
   have:x / 2≠e:=c
   show hdE e (x :: L)=((calN e x:Nat):Int)
   unfold hdE;rw [if_pos this]
 | x :: L,i+1,h,c,f=>by
   have h0:x / 2=e:=f 0 (by omega)
   unfold hdE
   rw [if_neg (by omega)]
   exact hdE_at e L i (by simpa using h) c (fun j hj=>f (j+1) (by omega))
theorem hdE_none (e:Nat):∀ (L:List Nat),(∀ j,j < L.length→L.getD j 0 / 2=e)→hdE e L=0
 | [],_=>rfl
 | x :: L,f=>by
   have h0:x / 2=e:=f 0 (by simp)
   unfold hdE
   rw [if_neg (by omega)]
   exact hdE_none e L (fun j hj=>f (j+1) (by simpa using hj))
theorem hdE_drop (e:Nat) (L:List Nat) {i:Nat} (h:i < L.length):hdE e (L.drop i)=if L.getD i 0 / 2≠e then ((calN e (L.getD i 0):Nat):Int) else hdE e (L.drop (i+1)):=by
 rw [List.drop_eq_getElem_cons h]
 rw [show L.getD i 0=L[i] by rw [List.getD_eq_getElem?_getD,List.getElem?_eq_getElem h];rfl]
 rfl
theorem heir_hd {l b:List Nat} (h:Inv l b) (hev:l.length%2=0) {r e:Nat} (hr:r < l.length) (hE:2*e+2≤l.length):heirN l b r e=if l.length - 2=0 then -1 else hdE e (orb b r):=by
 have hb:=h.symm
 have hlb:=h.len
 have hrb:r < b.length:=by omega
 obtain ⟨p1,p2,p3⟩:=per_is hb hrb
 have hol:(orb b r).length=per b r:=by unfold orb;exact way_len _ _ _
 have hg:∀ k,k < per b r→(orb b r).getD k 0=it b k r:=fun k hk=>by unfold orb;exact way_get b r _ k hk
 have i1:it b 1 r=b.getD r 0:=rfl
 have i2:it b 2 r=b.getD (b.getD r 0) 0:=rfl
 have g0:(orb b r).getD 0 0=r:=hg 0 p1
 have lb1:=hb.lt r hrb
 have lb2:=hb.lt _ lb1
 have last:lastN l.length=if l.length - 2=0 then -1 else 0:=by
  unfold lastN
  by_cases c:l.length - 2=0
  ·rw [if_pos c,if_pos (by omega)]
  ·rw [if_neg c,if_neg (by omega)]
 unfold heirN
 by_cases c0:r / 2≠e
 ·rw [if_pos c0,if_neg (by omega)]
  have:=hdE_at e (orb b r) 0 (by omega) (by rw [g0];exact c0) (fun j hj=>by omega)
  rw [this,g0]
 ·rw [if_neg c0]
  by_cases c1:b.getD r 0=r
  ·rw [if_pos c1,last]
   have hp:per b r=1:=by
    have:=p3 1 (by omega)
    rw [i1] at this
    by_cases q:1 < per b r
    ·exact absurd c1 (this q)
    ·omega
   rw [hdE_none e (orb b r) (fun j hj=>by obtain rfl:j=0:=by omega
                                          rw [g0];omega)]
  ·have hp1:1 < per b r:=by
    by_cases q:per b r=1
    ·rw [q,i1] at p2;exact absurd p2 c1
    ·omega
   have g1:(orb b r).getD 1 0=b.getD r 0:=by rw [hg 1 hp1,i1]
   rw [if_neg c1]
   by_cases c2:b.getD r 0 / 2≠e
   ·rw [if_pos c2,if_neg (by omega)]
    have:=hdE_at e (orb b r) 1 (by omega) (by rw [g1];exact c2) (fun j hj=>by obtain rfl:j=0:=by omega
                                                                              rw [g0];omega)
    rw [this,g1]
   ·rw [if_neg c2]
    by_cases c3:b.getD (b.getD r 0) 0=r
    ·rw [if_pos c3,last]
     have hp:per b r=2:=by
      have:=p3 2 (by omega)
      rw [i2] at this
      by_cases q:2 < per b r
      ·exact absurd c3 (this q)
      ·omega
     rw [hdE_none e (orb b r) (fun j hj=>by
      have:j=0∨j=1:=by omega
      rcases this with rfl | rfl
      ·rw [g0];omega
      ·rw [g1];omega)]
    ·have hp2:2 < per b r:=by
      by_cases q:per b r=2
      ·rw [q,i2] at p2;exact absurd p2 c3
      ·omega
     have g2:(orb b r).getD 2 0=b.getD (b.getD r 0) 0:=by rw [hg 2 hp2,i2]
     have c4:b.getD (b.getD r 0) 0≠b.getD r 0:=fun q=>c1 (hb.inj _ _ lb1 hrb q)
     have c5:b.getD (b.getD r 0) 0 / 2≠e:=by omega
     rw [if_neg c3,if_neg (by omega)]
     have:=hdE_at e (orb b r) 2 (by omega) (by rw [g2];exact c5) (fun j hj=>by
      have:j=0∨j=1:=by omega
      rcases this with rfl | rfl
      ·rw [g0];omega
      ·rw [g1];omega)
     rw [this,g2]
def empN (os:List (List Nat)):Nat→Nat
 | 0=>0
 | k+1=>empN os k+if (os.getD k []).length=0 then 1 else 0
theorem empN_le (os:List (List Nat)):∀ k,empN os k≤k
 | 0=>by simp [empN]
 | k+1=>by have:=empN_le os k;unfold empN;split <;> omega
def RowsN (w:World) (B:Nat) (vs:List Value) (os:List (List Nat)):Prop :=
 ∀ k,k < os.length→∃ A c,vs[k]?=some (.slice A (os.getD k []).length c)∧Rd w B A (os.getD k []).length (I64 (ofN (os.getD k [])))
theorem RowsOwn.rd {w:World} {base:Nat} {vs:List Value} {os:List (List Nat)} (h:RowsOwn w base vs os):RowsN w w.heap.size vs os:=fun k hk=>by
 obtain ⟨A,c,h1,_,h3⟩:=h.2 k hk
 exact ⟨A,c,h1,Rd.ofOwn h3⟩
theorem RowsN.below {w w':World} {B:Nat} {vs:List Value} {os:List (List Nat)} (h:RowsN w B vs os) (m:Below B w w'):RowsN w' B vs os:=fun k hk=>by
 obtain ⟨A,c,h1,h3⟩:=h k hk
 exact ⟨A,c,h1,h3.below m⟩
theorem RowsN.up {w:World} {B B':Nat} {vs:List Value} {os:List (List Nat)} (h:RowsN w B vs os) (m:B≤B'):RowsN w B' vs os:=fun k hk=>by
 obtain ⟨A,c,h1,h3⟩:=h k hk
 exact ⟨A,c,h1,h3.up m⟩
set_option maxHeartbeats 4000000 in
theorem rname_p (d e:Nat) (w:World) (hd:d≤1000000) (he:e≤1000000) :
  Calls Tryz.prog 100 #[.int .i64 (d:Int),.int .i64 (e:Int)] w fun en w'=>en=.returned (.int .i64 ((calN e d:Nat):Int))∧w=w':=by
 obtain ⟨e1,he1⟩:∃ e1,e1=2*e+1:=⟨_,rfl⟩
 have i0:2*(e:Int)+1=(e1:Int):=by omega
 have HC:Hid (calN e d=if e1 < d then d - 2 else d):=by
  show _=_
  unfold calN
  by_cases c:e < d / 2
  ·rw [if_pos c,if_pos (by omega)]
  ·rw [if_neg c,if_neg (by omega)]
 by_cases c:e1 < d
 ·obtain ⟨d2,hd2⟩:∃ d2,d2=d - 2:=⟨_,rfl⟩
  have hc:decide (e1 < d)=true:=decide_eq_true c
  have hci:(e1:Int) < (d:Int):=by omega
  have hdc:(d:Int) - 2=(d2:Int):=by omega
  have HR:Hid (calN e d=d2):=by show _=_;rw [HC.out,if_pos c,hd2]
  clear HC hd2 he1
  go_enter Tryz.func100,Tryz.ntmps100
  go_wp2_with fail
  go_ret
  exact ⟨by rw [HR.out];rfl,rfl⟩
 ·have hc:decide (e1 < d)=false:=decide_eq_false c
  have hci:¬ (e1:Int) < (d:Int):=by omega
  have HR:Hid (calN e d=d):=by show _=_;rw [HC.out,if_neg c]
  clear HC he1
  go_enter Tryz.func100,Tryz.ntmps100
  go_wp2_with fail
  go_ret
  exact ⟨by rw [HR.out];rfl,rfl⟩
set_option maxHeartbeats 4000000 in
theorem rmade_p (A:Option Addr) (c:Nat) (l b:List Nat) (r:Nat) (lone:Int) (e:Nat) (Av:Option Addr) (cv:Nat) (vs:List Value) (os:List (List Nat)) (T:List Nat) (w:World)
  (h:Rd w w.heap.size A l.length (I64 (ofN l))) (hinv:Inv l b) (hn:l.length≤100000) (hr:r < l.length) (hE:2*e+2≤l.length) (hl0:0≤lone) (hl1:lone≤60000)
  (hv:Rd w w.heap.size Av os.length vs) (hrows:RowsN w w.heap.size vs os) (hos:os.length≤200000) (hT:T.length=l.length - 2)
  (tells:∀ v,v∈os→TellsU l.length e T v) (cov:∀ x,x < l.length→x / 2≠e→∃ v,v∈os∧x∈v) (hvl:∀ v,v∈os→v.length≤200000) :
  Calls Tryz.prog 70 #[.agg #[.slice A l.length c,.int .i64 (r:Int),.int .i64 lone],.slice Av os.length cv,.int .i64 (e:Int)] w
   (NewRO w T (if l.length - 2=0 then -1 else hdE e (orb b r)) (lone+(empN os os.length:Nat))):=by
 obtain ⟨i0,hi0,hz0,hz1,hz2⟩:=info_parts info_int
 obtain ⟨N,hN⟩:∃ N,N=l.length - 2:=⟨_,rfl⟩
 have hNi:(l.length:Int) - 2=(N:Int):=by omega
 have hmk:=run_make_one (P:=Tryz.prog) 26 3 i0 (.int .i64 0) 8 Tryz.underlying26 hi0 hz0 hz1 hz2 rfl .i64 .i64 N (by omega) (by omega)
 have hb0:=((Below.refl w.heap.size w).alloc (Nat.le_refl _) (.cells #[.slice A l.length c,.int .i64 (r:Int),.int .i64 lone] 28)).alloc (by simp) (.cells #[.slice none 0 0,.int .i64 0,.int .i64 0] 28)
 have HX:=Lib.hid ((Blk.new w 28 #[.slice A l.length c,.int .i64 (r:Int),.int .i64 lone]).alloc (.cells #[.slice none 0 0,.int .i64 0,.int .i64 0] 28))
 have hy:=(Blk.new (w.alloc (.cells #[.slice A l.length c,.int .i64 (r:Int),.int .i64 lone] 28)) 28 #[.slice none 0 0,.int .i64 0,.int .i64 0])
 rw [show (w.alloc (.cells #[.slice A l.length c,.int .i64 (r:Int),.int .i64 lone] 28)).heap.size=w.heap.size+1 by simp] at hy
 have HY:=Lib.hid hy
 have HR:=Lib.hid (h.more hb0)
 have HV:=Lib.hid (hv.more hb0)
 have HRW:=Lib.hid ((hrows.below hb0).up hb0.size)
 have HB0:=Lib.hid hb0
 have HINF:=Lib.hid info_rmap
 have HI:=Lib.hid hinv
 have HT:=Lib.hid hT
 have HTL:=Lib.hid tells
 have HCV:=Lib.hid cov
 have HVL:=Lib.hid hvl
 have HNN:=Lib.hid hN
 obtain ⟨RT,hRT⟩:∃ RT,RT=(if l.length - 2=0 then -1 else hdE e (orb b r)):=⟨_,rfl⟩
 obtain ⟨LF,hLF⟩:∃ LF,LF=lone+((empN os os.length:Nat):Int):=⟨_,rfl⟩
 have HRT:=Lib.hid hRT
 have HLF:=Lib.hid hLF
 rw [← hRT,← hLF]
 clear h hv hrows hb0 hinv hy hT tells cov hvl hRT hLF
 go_enter Tryz.func70,Tryz.ntmps70
 go_upto_region 1 with fail
 generalize hw3:(w.alloc (.cells #[.slice A l.length c,.int .i64 (r:Int),.int .i64 lone] 28)).alloc (.cells #[.slice none 0 0,.int .i64 0,.int .i64 0] 28)=w3 at *
 have hs3:w3.heap.size=w.heap.size+2:=by rw [← hw3];simp
 have x0:w3.cell? ⟨w.heap.size,0,none⟩=some (.slice A l.length c):=HX.out.cell 0
 have x1:w3.cell? ⟨w.heap.size,1,none⟩=some (.int .i64 (r:Int)):=HX.out.cell 1
 have x2:w3.cell? ⟨w.heap.size,2,none⟩=some (.int .i64 lone):=HX.out.cell 2
 clear hw3 hN
 have c3:∀ W:World,Below w3.heap.size w3 W→∀ o,W.cell? ⟨w.heap.size,o,none⟩=w3.cell? ⟨w.heap.size,o,none⟩:=fun W m o=>m.cell (p:=⟨w.heap.size,o,none⟩) (show w.heap.size < w3.heap.size by omega)
 have SK:Hid (∀ W,Below w3.heap.size w3 W→W.cell? ⟨w.heap.size,0,none⟩=some (.slice A l.length c)∧W.cell? ⟨w.heap.size,1,none⟩=some (.int .i64 (r:Int))∧W.cell? ⟨w.heap.size,2,none⟩=some (.int .i64 lone)):=fun W m=>⟨(c3 W m 0).trans x0,(c3 W m 1).trans x1,(c3 W m 2).trans x2⟩
 have Z0:=(Below.refl w3.heap.size w3)
 have hm1:=c3 _ (Z0.alloc (Nat.le_refl _) (.cells (List.replicate N (.int .i64 0)).toArray 3)) 2
 rw [x2] at hm1
 have hm2:=c3 _ (Z0.alloc (Nat.le_refl _) (.cells #[.slice none 0 0,.int .i64 0,.int .i64 0] 28))
 have hm20:=(hm2 0).trans x0
 have hm22:=(hm2 2).trans x2
 clear hm2 c3
 have wN:IntKind.i64.wrap (N:Int)=(N:Int):=by simp [IntKind.wrap,IntKind.signed,IntKind.bits];omega
 have wN2:IntKind.i64.wrap ((l.length:Int) - 2)=(N:Int):=by rw [hNi];exact wN
 have FA:Hid (∃ g7 gS,(Value.pointer (some ⟨w.heap.size+2+1,0,none⟩))=.pointer (some ⟨g7,0,none⟩)∧g7≠gS∧w3.heap.size≤g7∧w3.heap.size≤gS∧g7 < (((w3.alloc (.cells (Array.replicate N (.int .i64 0)) 3)).alloc (.cells #[.slice (some ⟨w.heap.size+2,0,none⟩) N N,.int .i64 0,.int .i64 lone] 28)).drew).heap.size∧gS < (((w3.alloc (.cells (Array.replicate N (.int .i64 0)) 3)).alloc (.cells #[.slice (some ⟨w.heap.size+2,0,none⟩) N N,.int .i64 0,.int .i64 lone] 28)).drew).heap.size∧Hid (Blk (((w3.alloc (.cells (Array.replicate N (.int .i64 0)) 3)).alloc (.cells #[.slice (some ⟨w.heap.size+2,0,none⟩) N N,.int .i64 0,.int .i64 lone] 28)).drew) g7 28 #[.slice (some ⟨gS,0,none⟩) N N,.int .i64 0,.int .i64 lone])∧Hid ((((w3.alloc (.cells (Array.replicate N (.int .i64 0)) 3)).alloc (.cells #[.slice (some ⟨w.heap.size+2,0,none⟩) N N,.int .i64 0,.int .i64 lone] 28)).drew).ownsRow w3.heap.size 3 1 (.slice (some ⟨gS,0,none⟩) N N) N (I64 (List.replicate N 0)))∧Hid (Below w3.heap.size w3 (((w3.alloc (.cells (Array.replicate N (.int .i64 0)) 3)).alloc (.cells #[.slice (some ⟨w.heap.size+2,0,none⟩) N N,.int .i64 0,.int .i64 lone] 28)).drew))):=by
  have o1:=own_made w3 3 N (.int .i64 0) (by simp only [maxLen];omega)
  rw [List.toArray_replicate] at o1
  have k1:=Blk.new (w3.alloc (.cells (Array.replicate N (.int .i64 0)) 3)) 28 #[.slice (some ⟨w.heap.size+2,0,none⟩) N N,.int .i64 0,.int .i64 lone]
  have es:(w3.alloc (.cells (Array.replicate N (.int .i64 0)) 3)).heap.size=w.heap.size+2+1:=by simp;omega
  rw [es] at k1
  refine ⟨w.heap.size+2+1,w.heap.size+2,rfl,by omega,by omega,by omega,by simp;omega,by simp;omega,k1.drewN 1,?_,?_⟩
  ·have o2:=own_below (o1.alloc (.cells #[.slice (some ⟨w.heap.size+2,0,none⟩) N N,.int .i64 0,.int .i64 lone] 28)) (Below.refl _ _).drew
   rw [hs3] at o2
   rw [hs3]
   rw [show I64 (List.replicate N 0)=List.replicate N (.int .i64 0) by simp [I64]]
   exact o2
  ·exact ((Z0.alloc (Nat.le_refl _) _).alloc (by simp) _).drew
 have FB:Hid (∃ g7 gS,(Value.pointer (some ⟨w.heap.size+2,0,none⟩))=.pointer (some ⟨g7,0,none⟩)∧g7≠gS∧w3.heap.size≤g7∧w3.heap.size≤gS∧g7 < (((w3.alloc (.cells #[.slice (some ⟨w.heap.size+2+1,0,none⟩) N N,.int .i64 0,.int .i64 lone] 28)).alloc (.cells (Array.replicate N (.int .i64 0)) 3)).drew).heap.size∧gS < (((w3.alloc (.cells #[.slice (some ⟨w.heap.size+2+1,0,none⟩) N N,.int .i64 0,.int .i64 lone] 28)).alloc (.cells (Array.replicate N (.int .i64 0)) 3)).drew).heap.size∧Hid (Blk (((w3.alloc (.cells #[.slice (some ⟨w.heap.size+2+1,0,none⟩) N N,.int .i64 0,.int .i64 lone] 28)).alloc (.cells (Array.replicate N (.int .i64 0)) 3)).drew) g7 28 #[.slice (some ⟨gS,0,none⟩) N N,.int .i64 0,.int .i64 lone])∧Hid ((((w3.alloc (.cells #[.slice (some ⟨w.heap.size+2+1,0,none⟩) N N,.int .i64 0,.int .i64 lone] 28)).alloc (.cells (Array.replicate N (.int .i64 0)) 3)).drew).ownsRow w3.heap.size 3 1 (.slice (some ⟨gS,0,none⟩) N N) N (I64 (List.replicate N 0)))∧Hid (Below w3.heap.size w3 (((w3.alloc (.cells #[.slice (some ⟨w.heap.size+2+1,0,none⟩) N N,.int .i64 0,.int .i64 lone] 28)).alloc (.cells (Array.replicate N (.int .i64 0)) 3)).drew))):=by
  have o1:=own_made (w3.alloc (.cells #[.slice (some ⟨w.heap.size+2+1,0,none⟩) N N,.int .i64 0,.int .i64 lone] 28)) 3 N (.int .i64 0) (by simp only [maxLen];omega)
  rw [List.toArray_replicate] at o1
  have k1:=(Blk.new w3 28 #[.slice (some ⟨w.heap.size+2+1,0,none⟩) N N,.int .i64 0,.int .i64 lone]).alloc (.cells (Array.replicate N (.int .i64 0)) 3)
  rw [hs3] at k1
  have es:(w3.alloc (.cells #[.slice (some ⟨w.heap.size+2+1,0,none⟩) N N,.int .i64 0,.int .i64 lone] 28)).heap.size=w.heap.size+2+1:=by simp;omega
  refine ⟨w.heap.size+2,w.heap.size+2+1,rfl,by omega,by omega,by omega,by simp;omega,by simp;omega,k1.drewN 1,?_,?_⟩
  ·have o2:=(own_below o1 (Below.refl _ _).drew).base_le' (show w3.heap.size≤_ by rw [es];omega)
   rw [es] at o2
   rw [show I64 (List.replicate N 0)=List.replicate N (.int .i64 0) by simp [I64]]
   exact o2
  ·exact ((Z0.alloc (Nat.le_refl _) _).alloc (by simp) _).drew
 go_cut [7] from 15 to 22 (fun s wx=>∃ g7 gS,s=.pointer (some ⟨g7,0,none⟩)∧g7≠gS∧w3.heap.size≤g7∧w3.heap.size≤gS∧g7 < wx.heap.size∧gS < wx.heap.size∧Hid (Blk wx g7 28 #[.slice (some ⟨gS,0,none⟩) N N,.int .i64 0,.int .i64 lone])∧Hid (wx.ownsRow w3.heap.size 3 1 (.slice (some ⟨gS,0,none⟩) N N) N (I64 (List.replicate N 0)))∧Hid (Below w3.heap.size w3 wx))
 case first =>
  go_region_with (fail)
  all_goals (go_wp2_with fail)
  all_goals (go_meet)
  all_goals (first | exact FA.out | exact FB.out)
 case rest =>
  obtain ⟨g7,gS,rfl,hne,h37,h3S,h7c,hSc,HB7,HOS,HBW⟩:=hcut
  clear FA FB hm20 hm22 Z0 hmk wN wN2
  have HNE:Hid (g7≠gS):=hne
  clear hne
  have SKV:Hid (∀ W,Below w3.heap.size w3 W→RowsN W w3.heap.size vs os∧Rd W w3.heap.size Av os.length vs):=fun W m=>⟨HRW.out.below m,HV.out.below m⟩
  clear HX x0 x1 x2 hm1
  obtain ⟨KO,hKO⟩:∃ KO,KO=os.length:=⟨_,rfl⟩
  have HKO:Hid (KO=os.length):=hKO
  rw [← hKO] at hos ⊢
  rw [← hKO] at SKV
  clear hKO HRW HV
  go_wp2_with fail
  go_loopw [25] (fun i wr=>∃ (k:Nat) (y:List Int),k≤KO∧i=.int .i64 (k:Int)∧Hid (y.length=N∧∀ j,j < k→∀ x,x∈os.getD j []→y.getD (calN e x) 0=((T.getD (calN e x) 0:Nat):Int))∧Hid (Blk wr g7 28 #[.slice (some ⟨gS,0,none⟩) N N,.int .i64 0,.int .i64 (lone+(empN os k:Nat))])∧Hid (wr.ownsRow w3.heap.size 3 1 (.slice (some ⟨gS,0,none⟩) N N) N (I64 y))∧Hid (Below w3.heap.size w3 wr)) (fun i _=>KO - (intOf i).toNat)
  case atStart =>
   refine ⟨0,List.replicate N 0,by omega,rfl,⟨by simp,fun j hj=>by omega⟩,?_,HOS.out,HBW.out⟩
   have:=HB7.out
   show Blk _ _ _ _
   rw [show lone+((empN os 0:Nat):Int)=lone by simp [empN]]
   exact this
  case round =>
   clear HB7 HOS HBW
   obtain ⟨k,y,hk,rfl,HY1,HB7,HOS,HBW⟩:=hrel
   have hef:=empN_le os k
   have r0:=HB7.out.cell 0
   have r1:=HB7.out.cell 1
   have r2:=HB7.out.cell 2
   have f0:=HB7.out.frozen 0
   have f1:=HB7.out.frozen 1
   have f2:=HB7.out.frozen 2
   simp at r0 r1 r2
   by_cases hlt:k < KO
   ·have hdk:decide (k < KO)=true:=by rw [decide_eq_true_iff];exact hlt
    obtain ⟨hro,hvo⟩:=SKV.out _ HBW.out
    have hko:k < os.length:=by rw [← HKO.out];exact hlt
    obtain ⟨Ak,ck,hvk,hrk⟩:=hro k hko
    obtain ⟨bv,ov,rfl,hbv,hcv⟩:=hvo.at_ (by omega)
    have hvl:k < vs.length:=by have:=hvo.len;omega
    have hck:=hcv k hvl
    rw [show vs[k]=.slice Ak (os.getD k []).length ck by
     rw [List.getElem?_eq_getElem hvl] at hvk;exact Option.some.inj hvk] at hck
    have hmem:os.getD k []∈os:=by rw [List.getD_eq_getElem?_getD,List.getElem?_eq_getElem hko];exact List.getElem_mem hko
    have HTE:=Lib.hid (HTL.out _ hmem)
    have hvn:=HVL.out _ hmem
    have hE1:Hid (empN os (k+1)=empN os k+if (os.getD k []).length=0 then 1 else 0):=rfl
    have HYR:Hid (∀ y':List Int,y'.length=N→(∀ j,j < k→∀ x,x∈os.getD j []→y'.getD (calN e x) 0=((T.getD (calN e x) 0:Nat):Int))→(∀ i,i < (os.getD k []).length→y'.getD (calN e ((os.getD k []).getD i 0)) 0=((T.getD (calN e ((os.getD k []).getD i 0)) 0:Nat):Int)) →
      y'.length=N∧∀ j,j < k+1→∀ x,x∈os.getD j []→y'.getD (calN e x) 0=((T.getD (calN e x) 0:Nat):Int)):=fun y' a1 a2 a3=>⟨a1,fun j hj x hx=>by
     by_cases q:j=k
     ·subst q
      obtain ⟨i,hi,hix⟩:=List.getElem_of_mem hx
      have:=a3 i hi
      rw [show (os.getD j []).getD i 0=x by rw [List.getD_eq_getElem?_getD,List.getElem?_eq_getElem hi];exact hix] at this
      exact this
     ·exact a2 j (by omega) x hx⟩
    have HRK:Hid (∀ W,Below w3.heap.size w3 W→Rd W w3.heap.size Ak (os.getD k []).length (I64 (ofN (os.getD k [])))):=fun W m=>by
     obtain ⟨hro2,_⟩:=SKV.out _ m
     obtain ⟨Ak2,ck2,hvk2,hrk2⟩:=hro2 k hko
     rw [hvk] at hvk2
     cases hvk2
     exact hrk2
    clear hro hvo hcv hmem hvk hrk hbv hvl hko
    generalize os.getD k []=V at *
    obtain ⟨n,hn2⟩:∃ n,n=V.length:=⟨_,rfl⟩
    have HNV:Hid (n=V.length):=hn2
    rw [← hn2] at hck hvn
    rw [← hn2] at hE1 HRK
    clear hn2
    by_cases h0:n=0
    ·subst h0
     have hE2:Hid (lone+((empN os k:Nat):Int)+1=lone+((empN os (k+1):Nat):Int)):=by show _=_;rw [hE1.out,if_pos rfl];omega
     obtain ⟨LN,hLN⟩:∃ LN,LN=lone+((empN os k:Nat):Int):=⟨_,rfl⟩
     rw [← hLN] at r2 hE2
     have hLb:0≤LN∧LN≤1000000:=by omega
     have HBN:Hid (Blk (wr.setCell ⟨g7,2,none⟩ (.int .i64 (LN+1))) g7 28 #[.slice (some ⟨gS,0,none⟩) N N,.int .i64 0,.int .i64 (lone+(empN os (k+1):Nat))]):=by
      have:=HB7.out.set_ 2 (.int .i64 (LN+1))
      show Blk _ _ _ _
      rw [← hE2.out]
      simpa using this
     have HON:Hid ((wr.setCell ⟨g7,2,none⟩ (.int .i64 (LN+1))).ownsRow w3.heap.size 3 1 (.slice (some ⟨gS,0,none⟩) N N) N (I64 y)) :=
      own_mod HOS.out (Mod.setCell (p:=⟨g7,2,none⟩) (Mod.refl (fun i=>i=g7) wr) (fun _=>rfl) _) (fun q hq c=>by
       simp [Value.ownBlock] at hq;have:=HNE.out;omega)
     have HBN2:Hid (Below w3.heap.size w3 (wr.setCell ⟨g7,2,none⟩ (.int .i64 (LN+1)))):=HBW.out.setCell (p:=⟨g7,2,none⟩) h37 _
     have HYN:=Lib.hid (HYR.out y HY1.out.1 HY1.out.2 (fun i hi=>by rw [← HNV.out] at hi;omega))
     clear hLN HY1 HYR hE1 HB7 HOS HTE
     go_wp2_with fail
     go_loopw [38] (fun i wx=>i=.int .i64 0∧(wr.setCell ⟨g7,2,none⟩ (.int .i64 (LN+1)))=wx) (fun _ _=>0)
     case atStart=>exact ⟨rfl,rfl⟩
     case round =>
      obtain ⟨rfl,rfl⟩:=hrel
      go_wp2_with fail
      go_roundw
      case rel=>exact ⟨k+1,y,by omega,by go_num,HYN,HBN,HON,HBN2⟩
      case measure=>simp [intOf];omega
    ·have hE2:Hid (empN os (k+1)=empN os k):=by show _=_;rw [hE1.out,if_neg h0];rfl
     have h0d:decide (n=0)=false:=decide_eq_false h0
     have h0b:(n == 0)=false:=by simp [h0]
     have h0bi:((n:Int) == 0)=false:=by simp [h0]
     have hnp:0 < n:=by omega
     have hnpi:(0:Int) < (n:Int):=by omega
     obtain ⟨bk,ok,rfl,hbk,hcz0⟩:=(HRK.out _ HBW.out).i64 hnp
     have HCZ:Hid (∀ W,Below w3.heap.size w3 W→∀ j,j < n→W.cell? ⟨bk,ok+j,none⟩=some (.int .i64 ((V.getD j 0:Nat):Int))):=fun W m j hj=>by
      obtain ⟨bk2,ok2,q,_,hcz2⟩:=(HRK.out _ m).i64 hnp
      cases q
      have:=hcz2 j hj
      rwa [ofN_get] at this
     have HB7':Hid (Blk wr g7 28 #[.slice (some ⟨gS,0,none⟩) N N,.int .i64 0,.int .i64 (lone+(empN os (k+1):Nat))]):=by rw [hE2.out];exact HB7.out
     obtain ⟨LN,hLN⟩:∃ LN,LN=lone+((empN os (k+1):Nat):Int):=⟨_,rfl⟩
     have HLN:=Lib.hid hLN
     rw [← hLN] at HB7'
     clear hcz0 HRK hE1 hE2 HB7 r0 r1 r2 f0 f1 f2 hLN hef
     go_wp2_with fail
     go_loopw [38] (fun i wx=>∃ (i':Nat) (z:List Int),i'≤n∧i=.int .i64 (i':Int)∧Hid (z.length=N∧(∀ j,j < k→∀ x,x∈os.getD j []→z.getD (calN e x) 0=((T.getD (calN e x) 0:Nat):Int))∧∀ a,a < i'→z.getD (calN e (V.getD a 0)) 0=((T.getD (calN e (V.getD a 0)) 0:Nat):Int))∧Hid (Blk wx g7 28 #[.slice (some ⟨gS,0,none⟩) N N,.int .i64 0,.int .i64 LN])∧Hid (wx.ownsRow w3.heap.size 3 1 (.slice (some ⟨gS,0,none⟩) N N) N (I64 z))∧Hid (Below w3.heap.size w3 wx)) (fun i _=>n - (intOf i).toNat)
     case atStart=>exact ⟨0,y,by omega,rfl,⟨HY1.out.1,HY1.out.2,fun a ha=>by omega⟩,HB7',HOS,HBW⟩
     case round =>
      rename_i wr0 _
      clear HB7' HOS HBW HY1
      obtain ⟨i,z,hi,rfl,HZ,HB7,HOS,HBW⟩:=hrel
      by_cases hin:i < n
      ·have hdi:decide (i < n)=true:=decide_eq_true hin
       have c0:=HCZ.out _ HBW.out 0 hnp
       rw [Nat.add_zero] at c0
       have ci:=HCZ.out _ HBW.out i hin
       obtain ⟨t1,t2,t3,t4,t5⟩:=HTE.out i (by rw [← HNV.out];exact hin)
       have hpx:=cal_ltE hE t1 t2
       rw [← HNN.out] at hpx
       have r0:=HB7.out.cell 0
       have f0:=HB7.out.frozen 0
       simp at r0
       have hcS:=own_cellI HOS.out (calN e (V.getD i 0)) hpx
       have hfS:=HOS.out.frozenAt (calN e (V.getD i 0))
       have HZ2:Hid ((z.set (calN e (V.getD i 0)) ((calN e (nxt V i):Nat):Int)).length=N∧(∀ j,j < k→∀ x,x∈os.getD j []→(z.set (calN e (V.getD i 0)) ((calN e (nxt V i):Nat):Int)).getD (calN e x) 0=((T.getD (calN e x) 0:Nat):Int))∧∀ a,a < i+1→(z.set (calN e (V.getD i 0)) ((calN e (nxt V i):Nat):Int)).getD (calN e (V.getD a 0)) 0=((T.getD (calN e (V.getD a 0)) 0:Nat):Int)):=by
        obtain ⟨z1,z2,z3⟩:=HZ.out
        have hpz:calN e (V.getD i 0) < z.length:=by rw [z1];exact hpx
        refine ⟨by rw [List.length_set];exact z1,fun j hj x hx=>?_,fun a ha=>?_⟩
        ·rw [getDI_set _ _ _ _ hpz]
         by_cases q:calN e x=calN e (V.getD i 0)
         ·rw [if_pos q,q,t5]
         ·rw [if_neg q];exact z2 j hj x hx
        ·rw [getDI_set _ _ _ _ hpz]
         by_cases q:calN e (V.getD a 0)=calN e (V.getD i 0)
         ·rw [if_pos q,q,t5]
         ·rw [if_neg q]
          refine z3 a ?_
          by_cases q2:a=i
          ·subst q2;exact absurd rfl q
          ·omega
       have HO2:=Lib.hid (own_setI HOS.out (calN e (V.getD i 0)) ((calN e (nxt V i):Nat):Int))
       have HX2:Hid (nxt V i=if i+1 < n then V.getD (i+1) 0 else V.getD 0 0):=by show _=_;unfold nxt;rw [HNV.out]
       have NPx:Hid (∀ W,Calls Tryz.prog 100 #[.int .i64 ((V.getD i 0:Nat):Int),.int .i64 (e:Int)] W fun en w'=>en=.returned (.int .i64 ((calN e (V.getD i 0):Nat):Int))∧W=w'):=fun W=>rname_p _ e W (by omega) (by omega)
       have NPn:Hid (∀ W,Calls Tryz.prog 100 #[.int .i64 ((nxt V i:Nat):Int),.int .i64 (e:Int)] W fun en w'=>en=.returned (.int .i64 ((calN e (nxt V i):Nat):Int))∧W=w'):=fun W=>rname_p _ e W (by omega) (by omega)
       have hcV:∀ h:i+1 < n,wr.cell? ⟨bk,ok+(i+1),none⟩=some (.int .i64 ((V.getD (i+1) 0:Nat):Int)):=fun h=>HCZ.out _ HBW.out (i+1) h
       have HCVV:=Lib.hid hcV
       have HBN:Hid (∀ u,Blk (wr.setCell ⟨gS,calN e (V.getD i 0),none⟩ u) g7 28 #[.slice (some ⟨gS,0,none⟩) N N,.int .i64 0,.int .i64 LN]):=fun u =>
        HB7.out.mod (Mod.setCell (p:=⟨gS,calN e (V.getD i 0),none⟩) (Mod.refl (fun i=>i=gS) wr) (fun _=>rfl) _) HNE.out
       have HBW2:Hid (∀ u,Below w3.heap.size w3 (wr.setCell ⟨gS,calN e (V.getD i 0),none⟩ u)):=fun u=>HBW.out.setCell (p:=⟨gS,calN e (V.getD i 0),none⟩) h3S _
       clear hcV t5 HZ HOS
       generalize V.getD 0 0=v0 at *
       generalize V.getD i 0=x at *
       generalize V.getD (i+1) 0=vn at *
       generalize nxt V i=nx at *
       generalize calN e x=px at *
       generalize calN e nx=qx at *
       have hpxi:(px:Int) < (N:Int):=by omega
       go_upto_if 50 with fail
       go_cut [12] from 51 to 55 (fun s wx=>s=.int .i64 (nx:Int)∧wr=wx)
       case first =>
        by_cases hd:i+1 < n
        ·have hdd:decide (i+1 < n)=true:=decide_eq_true hd
         have hddi:(i:Int)+1 < (n:Int):=by omega
         have cn:=HCVV.out hd
         have hx2:=HX2.out
         rw [if_pos hd] at hx2
         subst hx2
         clear HCVV HX2
         go_wp2_with fail
         go_meet
         exact ⟨rfl,rfl⟩
        ·have hdd:decide (i+1 < n)=false:=decide_eq_false hd
         have hddi:¬ (i:Int)+1 < (n:Int):=by omega
         have hx2:=HX2.out
         rw [if_neg hd] at hx2
         subst hx2
         clear HCVV HX2
         go_wp2_with fail
         go_meet
         exact ⟨rfl,rfl⟩
       case rest =>
        obtain ⟨rfl,rfl⟩:=hcut
        clear HCVV HX2 c0 ci HCZ
        have FIN:=Lib.hid (And.intro ((HBN.out (.int .i64 (qx:Int))).drewN 1) (And.intro (own_below HO2.out (Below.refl _ _).drew) ((HBW2.out (.int .i64 (qx:Int))).drew)))
        clear HBN HO2 HBW2 HB7 HBW
        go_wp2_with fail
        go_region_with (first
         | (go_at_call 100;with_reducible refine (NPx.out _).mono ?_;rintro en w9 ⟨rfl,rfl⟩)
         | (go_at_call 100;with_reducible refine (NPn.out _).mono ?_;rintro en w9 ⟨rfl,rfl⟩))
        all_goals (
         go_wp2_with fail
         go_roundw
         case rel =>
          exact ⟨i+1,_,by omega,by go_num,HZ2,FIN.out.1,FIN.out.2.1,FIN.out.2.2⟩
         case measure=>simp [intOf];omega)
      ·obtain rfl:i=n:=by omega
       have hdi:decide (i < i)=false:=by simp
       have HYN:=Lib.hid (HYR.out z HZ.out.1 HZ.out.2.1 (fun a ha=>HZ.out.2.2 a (by rw [HNV.out];exact ha)))
       have HB7':Hid (Blk wr g7 28 #[.slice (some ⟨gS,0,none⟩) N N,.int .i64 0,.int .i64 (lone+(empN os (k+1):Nat))]):=by rw [← HLN.out];exact HB7.out
       clear HZ HYR HB7
       go_wp2_with fail
       go_roundw
       case rel=>exact ⟨k+1,z,by omega,by go_num,HYN,HB7',HOS,HBW⟩
       case measure=>simp [intOf];omega
   ·obtain rfl:k=KO:=by omega
    have hdk:decide (k < k)=false:=by simp
    have hyT:y=ofN T:=by
     refine getDI_ext (by rw [HY1.out.1,ofN_len,HT.out,HNN.out]) fun p hp=>?_
     rw [HY1.out.1,HNN.out] at hp
     have hu:=unN_is e p
     have hul:=unN_lt hE hp
     obtain ⟨v,hv1,hv2⟩:=HCV.out _ hul hu.1
     obtain ⟨j,hj,hje⟩:=List.getElem_of_mem hv1
     have:=HY1.out.2 j (by rw [HKO.out];exact hj) (unN e p) (by
      rw [List.getD_eq_getElem?_getD,List.getElem?_eq_getElem hj]
      show _∈os[j]
      rw [hje];exact hv2)
     rw [hu.2] at this
     rw [this,ofN_get]
    have HOT:Hid (wr.ownsRow w3.heap.size 3 1 (.slice (some ⟨gS,0,none⟩) N N) N (I64 (ofN T))):=by
     show World.ownsRow _ _ _ _ _ _ _
     rw [← hyT];exact HOS.out
    have HBA:Hid (Blk (wr.setCell ⟨g7,1,none⟩ (.int .i64 (-1))) g7 28 #[.slice (some ⟨gS,0,none⟩) N N,.int .i64 (-1),.int .i64 LF]):=by
     have:=HB7.out.set_ 1 (.int .i64 (-1))
     rw [HKO.out,← HLF.out] at this
     show Blk _ _ _ _
     simpa using this
    have own7:∀ (W:World) (i:Nat) (u:Value),W.ownsRow w3.heap.size 3 1 (.slice (some ⟨gS,0,none⟩) N N) N (I64 (ofN T))→(W.setCell ⟨g7,i,none⟩ u).ownsRow w3.heap.size 3 1 (.slice (some ⟨gS,0,none⟩) N N) N (I64 (ofN T)):=fun W i u ho =>
     own_mod ho (Mod.setCell (p:=⟨g7,i,none⟩) (Mod.refl (fun i=>i=g7) W) (fun _=>rfl) _) (fun q hq c=>by
       simp [Value.ownBlock] at hq;have:=HNE.out;omega)
    have OWN7:=Lib.hid own7
    have HOA:=Lib.hid (own7 _ 1 (.int .i64 (-1)) HOT.out)
    have HBWA:Hid (Below w3.heap.size w3 (wr.setCell ⟨g7,1,none⟩ (.int .i64 (-1)))):=HBW.out.setCell (p:=⟨g7,1,none⟩) h37 _
    clear hyT HY1 HOS HOT HTL HCV HVL HB7 SKV own7
    go_upto_if 71 with fail
    generalize hwa:wr.setCell ⟨g7,1,none⟩ (.int .i64 (-1))=wa at *
    clear HBW r0 r1 r2 f0 f1 f2 hwa
    have a0:=HBA.out.cell 0
    have a1:=HBA.out.cell 1
    have a2:=HBA.out.cell 2
    have fa1:=HBA.out.frozen 1
    simp at a0 a1 a2
    go_cut [13,14] from 68 (fun _ _ wx=>Hid (Blk wx g7 28 #[.slice (some ⟨gS,0,none⟩) N N,.int .i64 RT,.int .i64 LF])∧Hid (wx.ownsRow w3.heap.size 3 1 (.slice (some ⟨gS,0,none⟩) N N) N (I64 (ofN T)))∧Hid (Below w3.heap.size w3 wx))
    case first =>
     by_cases hN0:N=0
     ·have hNd:decide (0 < N)=false:=decide_eq_false (by omega)
      have hNdi:¬ (0:Int) < (N:Int):=by omega
      have HBA2:Hid (Blk wa g7 28 #[.slice (some ⟨gS,0,none⟩) N N,.int .i64 RT,.int .i64 LF]):=by
       have:RT=-1:=by rw [HRT.out,if_pos (by rw [← HNN.out];exact hN0)]
       show Blk _ _ _ _
       rw [this];exact HBA.out
      clear HBA
      go_wp2_with fail
      go_meet
      exact ⟨HBA2,HOA,HBWA⟩
     ·have hNd:decide (0 < N)=true:=decide_eq_true (by omega)
      have hNdi:(0:Int) < (N:Int):=by omega
      have HRT2:Hid (RT=hdE e (orb b r)):=by show _=_;rw [HRT.out,if_neg (by rw [← HNN.out];exact hN0)]
      have HBB:Hid (Blk (wa.setCell ⟨g7,1,none⟩ (.int .i64 0)) g7 28 #[.slice (some ⟨gS,0,none⟩) N N,.int .i64 0,.int .i64 LF]):=by
       have:=HBA.out.set_ 1 (.int .i64 0)
       show Blk _ _ _ _
       simpa using this
      have HOB:=Lib.hid (OWN7.out _ 1 (.int .i64 0) HOA.out)
      have HBWB:Hid (Below w3.heap.size w3 (wa.setCell ⟨g7,1,none⟩ (.int .i64 0))):=HBWA.out.setCell (p:=⟨g7,1,none⟩) h37 _
      have hg7b:g7 < (wa.setCell ⟨g7,1,none⟩ (.int .i64 0)).heap.size:=HBB.out.lt
      obtain ⟨O,hO⟩:∃ O,O=orb b r:=⟨_,rfl⟩
      have HOI:Hid (∀ x,x∈O→x < l.length):=fun x hx=>by
       rw [hO] at hx
       have hb:=HI.out.symm
       have hlb:=HI.out.len
       obtain ⟨t,ht⟩:=(mem_orb hb (by omega)).1 hx
       rw [← ht,← hlb];exact it_lt hb (by omega) t
      have hOL:1≤O.length∧O.length≤l.length:=by
       have hb:=HI.out.symm
       have hlb:=HI.out.len
       rw [hO]
       have h1:=orb_leF hb (i:=r) (by omega)
       have h2:=(per_is hb (i:=r) (by omega)).1
       have h3:(orb b r).length=per b r:=by unfold orb;exact way_len _ _ _
       omega
      have OBP:Hid (∀ W A9 c9,Rd W W.heap.size A9 l.length (I64 (ofN b))→Calls Tryz.prog 65 #[.slice A9 l.length c9,.int .i64 (r:Int)] W (NewI64 W (ofN O))):=fun W A9 c9 hrd=>by
       have hlb:=HI.out.len
       rw [hO]
       have:=rorbit_p A9 c9 W.heap.size b l r W (by rw [hlb];exact hrd) HI.out.symm (by omega) (by omega)
       rw [hlb] at this
       exact this
      rw [← hO] at HRT2
      obtain ⟨L1,hL1⟩:∃ L1,O.length=L1+1:=⟨O.length - 1,by omega⟩
      have HL1:=Lib.hid hL1
      have hL1n:L1≤100000:=by omega
      clear hO hL1 hOL HBA HOA HBWA
      go_upto_region 19 with fail
      generalize hwb:wa.setCell ⟨g7,1,none⟩ (.int .i64 0)=wb at *
      clear hwb a0 a1 a2 fa1
      have Zb:=(Below.refl wb.heap.size wb).drew
      obtain ⟨y0,y1,y2⟩:=SK.out _ HBWB.out
      have hsb:=HBWB.out.size
      have IVP:Hid (∀ W,Below wb.heap.size wb W→Calls Tryz.prog 61 #[.slice A l.length c] W (NewI64 W (ofN b))):=fun W m=>rinverse_p A c _ l b W (HR.out.below (HBWB.out.trans (m.mono hsb))) HI.out (by omega)
      have LENB:Hid ((ofN b).length=l.length):=by show _=_;rw [ofN_len];exact HI.out.len
      have LENO:Hid ((ofN O).length=L1+1):=by show _=_;rw [ofN_len];exact HL1.out
      go_cut [13] from 71 to 78 (fun s wx=>∃ A8 c8,s=.slice A8 (L1+1) c8∧Hid (wx.ownsRow wb.heap.size 3 1 (.slice A8 (L1+1) c8) (L1+1) (I64 (ofN O)))∧Hid (Below wb.heap.size wb wx))
      case first =>
       go_region_with (first
        | (go_at_call 61;(with_reducible refine (IVP.out _ Zb).mono ?_);rintro en w9 ⟨A9,c9,rfl,hc9,hm9,hown9,hb9⟩;rw [LENB.out] at hown9 hc9 ⊢;have Z9:=Lib.hid (Zb.trans (hb9.mono Zb.size));obtain ⟨z0,z1,z2⟩:=SK.out _ (HBWB.out.trans (Z9.out.mono hsb));have OB9:=Lib.hid (OBP.out w9 A9 c9 (Rd.ofOwn hown9));clear hown9 hb9 hc9 hm9)
        | (go_at_call 65;(with_reducible refine OB9.out.mono ?_);rintro en w8 ⟨A8,c8,rfl,hc8,hm8,hown8,hb8⟩;rw [LENO.out] at hown8 hc8 ⊢;have F8:=Lib.hid (And.intro (hown8.base_le' Z9.out.size) (Z9.out.trans (hb8.mono Z9.out.size)));clear hown8 hb8 hc8 hm8))
       all_goals (
        go_wp2_with fail
        go_meet
        exact ⟨_,_,rfl,F8.out.1,F8.out.2⟩)
      case rest =>
       obtain ⟨A8,c8,rfl,HO8,HB8⟩:=hcut
       obtain ⟨wd,hwd⟩:∃ wd,wd=wc:=⟨_,rfl⟩
       subst hwd
       obtain ⟨b8,o8,rfl,_,hcz⟩:=(Rd.ofOwn HO8.out).i64 (by omega)
       have C8:Hid (∀ W,Mod (fun q=>q=g7) wd W→∀ j,j < L1+1→W.cell? ⟨b8,o8+j,none⟩=some (.int .i64 ((O.getD j 0:Nat):Int))):=fun W m j hj=>by
        have o9:=own_mod HO8.out m (fun q hq c=>by have:=(HO8.out.lt q hq).1;omega)
        obtain ⟨b9,o9',q,_,hcz9⟩:=(Rd.ofOwn o9).i64 (by omega)
        cases q
        have:=hcz9 j hj
        rwa [ofN_get] at this
       have HBD:Hid (Blk wd g7 28 #[.slice (some ⟨gS,0,none⟩) N N,.int .i64 0,.int .i64 LF]):=HBB.out.below HB8.out
       have HOD:=Lib.hid (own_below HOB.out HB8.out)
       have HBWD:Hid (Below w3.heap.size w3 wd):=HBWB.out.trans (HB8.out.mono hsb)
       clear HBB HOB HBWB hcz IVP OBP Zb y0 y1 y2
       go_wp2_with fail
       go_loopw [14] (fun i wx=>Hid (Mod (fun q=>q=g7) wd wx)∧((∃ j:Nat,j≤L1∧i=.int .i64 (j:Int)∧Hid (Blk wx g7 28 #[.slice (some ⟨gS,0,none⟩) N N,.int .i64 (hdE e (O.drop (j+1))),.int .i64 LF]))∨(i=.int .i64 (-1)∧Hid (Blk wx g7 28 #[.slice (some ⟨gS,0,none⟩) N N,.int .i64 RT,.int .i64 LF])))) (fun i _=>(intOf i+1).toNat)
       case atStart =>
        refine ⟨Mod.refl _ _,.inl ⟨L1,by omega,rfl,?_⟩⟩
        have:O.drop (L1+1)=[]:=by rw [← HL1.out,List.drop_length]
        show Blk _ _ _ _
        rw [this]
        exact HBD.out
       case round =>
        clear HBD
        obtain ⟨HMD,hrel⟩:=hrel
        rcases hrel with ⟨j,hj,rfl,HBJ⟩ | ⟨rfl,HBJ⟩
        ·have hcx:=C8.out _ HMD.out j (by omega)
         have hjo:j < O.length:=by rw [HL1.out];omega
         have hxl:O.getD j 0 < l.length:=HOI.out _ (by
          rw [List.getD_eq_getElem?_getD,List.getElem?_eq_getElem hjo];exact List.getElem_mem hjo)
         have HDR:Hid (hdE e (O.drop j)=if O.getD j 0 / 2≠e then ((calN e (O.getD j 0):Nat):Int) else hdE e (O.drop (j+1))):=hdE_drop e O hjo
         have NPx:Hid (∀ W,Calls Tryz.prog 100 #[.int .i64 ((O.getD j 0:Nat):Int),.int .i64 (e:Int)] W fun en w'=>en=.returned (.int .i64 ((calN e (O.getD j 0):Nat):Int))∧W=w'):=fun W=>rname_p _ e W (by omega) (by omega)
         have hcq:calN e (O.getD j 0)≤O.getD j 0:=by unfold calN;split <;> omega
         have r0:=HBJ.out.cell 0
         have r1:=HBJ.out.cell 1
         have f1:=HBJ.out.frozen 1
         simp at r0 r1
         have hd0:decide ((0:Int)≤(j:Int))=true:=decide_eq_true (by omega)
         have hd0i:(0:Int)≤(j:Int):=by omega
         generalize O.getD j 0=x at *
         obtain ⟨x2,hx2⟩:∃ x2,x2=x / 2:=⟨_,rfl⟩
         rw [← hx2] at HDR
         have h2:(x:Int) / 2=(x2:Int):=by omega
         have h2t:(x:Int).tdiv 2=(x2:Int):=by rw [Int.tdiv_eq_ediv_of_nonneg (by omega)];exact h2
         have wx:IntKind.i64.wrap (x2:Int)=(x2:Int):=by simp [IntKind.wrap,IntKind.signed,IntKind.bits];omega
         clear hx2 hjo
         by_cases hxe:x2=e
         ·have hde:decide (x2=e)=true:=decide_eq_true hxe
          have hdn:(x2 != e)=false:=by simp [hxe]
          have HBJ2:Hid (Blk wr g7 28 #[.slice (some ⟨gS,0,none⟩) N N,.int .i64 (hdE e (O.drop j)),.int .i64 LF]):=by
           show Blk _ _ _ _
           rw [HDR.out,if_neg (by simp [hxe])];exact HBJ.out
          clear HDR HBJ r0 r1 f1 NPx
          subst hxe
          rcases j with _ | j
          ·rw [Nat.add_zero] at hcx
           have HBJ3:Hid (Blk wr g7 28 #[.slice (some ⟨gS,0,none⟩) N N,.int .i64 RT,.int .i64 LF]):=by
            show Blk _ _ _ _
            rw [HRT2.out];exact HBJ2.out
           clear HBJ2
           go_wp2_with fail
           go_roundw
           case rel=>exact ⟨HMD,.inr ⟨by go_num,HBJ3⟩⟩
           case measure=>simp [intOf]
          ·go_wp2_with fail
           go_roundw
           case rel=>exact ⟨HMD,.inl ⟨j,by omega,by go_num,HBJ2⟩⟩
           case measure=>simp [intOf];omega
         ·have hde:decide (x2=e)=false:=decide_eq_false hxe
          have hdn:(x2 != e)=true:=by simp [hxe]
          have HBJ2:Hid (Blk (wr.setCell ⟨g7,1,none⟩ (.int .i64 ((calN e x:Nat):Int))) g7 28 #[.slice (some ⟨gS,0,none⟩) N N,.int .i64 (hdE e (O.drop j)),.int .i64 LF]):=by
           have:=HBJ.out.set_ 1 (.int .i64 ((calN e x:Nat):Int))
           show Blk _ _ _ _
           rw [HDR.out,if_pos hxe]
           simpa using this
          have HMD2:Hid (Mod (fun q=>q=g7) wd (wr.setCell ⟨g7,1,none⟩ (.int .i64 ((calN e x:Nat):Int)))):=HMD.out.setCell (p:=⟨g7,1,none⟩) (fun _=>rfl) _
          clear HDR HBJ
          generalize calN e x=px at *
          rcases j with _ | j
          ·rw [Nat.add_zero] at hcx
           have HBJ3:Hid (Blk (wr.setCell ⟨g7,1,none⟩ (.int .i64 (px:Int))) g7 28 #[.slice (some ⟨gS,0,none⟩) N N,.int .i64 RT,.int .i64 LF]):=by
            show Blk _ _ _ _
            rw [HRT2.out];exact HBJ2.out
           clear HBJ2
           go_wp2_with (go_at_call 100;with_reducible refine (NPx.out _).mono ?_;rintro en w9 ⟨rfl,rfl⟩)
           go_roundw
           case rel=>first | exact ⟨HMD2,.inr ⟨by go_num,HBJ3⟩⟩ | ((repeat apply Exists.intro);exact ⟨⟨HMD2,.inr ⟨by go_num,HBJ3⟩⟩,rfl⟩)
           case measure=>simp [intOf]
          ·go_wp2_with (go_at_call 100;with_reducible refine (NPx.out _).mono ?_;rintro en w9 ⟨rfl,rfl⟩)
           go_roundw
           case rel=>first | exact ⟨HMD2,.inl ⟨j,by omega,by go_num,HBJ2⟩⟩ | ((repeat apply Exists.intro);exact ⟨⟨HMD2,.inl ⟨j,by omega,by go_num,HBJ2⟩⟩,rfl⟩)
           case measure=>simp [intOf];omega
        ·have HOZ:Hid (wr.ownsRow w3.heap.size 3 1 (.slice (some ⟨gS,0,none⟩) N N) N (I64 (ofN T))):=own_mod HOD.out HMD.out (fun q hq c=>by
          simp [Value.ownBlock] at hq;have:=HNE.out;omega)
         have HBZ:Hid (Below w3.heap.size w3 wr):=HBWD.out.trans (HMD.out.belowB (by have:=HB8.out.size;omega) (fun i hi c=>by omega))
         go_wp2_with fail
         go_meet
         exact ⟨HBJ,HOZ,HBZ⟩
    case rest =>
     obtain ⟨HBZ,HOZ,HBWZ⟩:=hcut
     obtain ⟨wz,hwz⟩:∃ wz,wz=wc:=⟨_,rfl⟩
     subst hwz
     have r0:=HBZ.out.cell 0
     have r1:=HBZ.out.cell 1
     have r2:=HBZ.out.cell 2
     simp at r0 r1 r2
     have HYZ:=Lib.hid (HY.out.below HBWZ.out)
     have q0:=HYZ.out.cell 0
     have q1:=HYZ.out.cell 1
     have q2:=HYZ.out.cell 2
     have f0:=HYZ.out.frozen 0
     have f1:=HYZ.out.frozen 1
     have f2:=HYZ.out.frozen 2
     simp at q0 q1 q2
     have HTN:Hid (T.length=N):=by show _=_;rw [HT.out,HNN.out]
     clear HBA HOA HBWA a0 a1 a2 fa1
     go_wp2_with fail
     have hs9:=HBWZ.out.size
     have MM:Mod (fun i=>i=w.heap.size+1) wz (((wz.setCell ⟨w.heap.size+1,0,none⟩ (.slice (some ⟨gS,0,none⟩) N N)).setCell ⟨w.heap.size+1,1,none⟩ (.int .i64 RT)).setCell ⟨w.heap.size+1,2,none⟩ (.int .i64 LF)) :=
      Mod.setCell (p:=⟨w.heap.size+1,2,none⟩) (Mod.setCell (p:=⟨w.heap.size+1,1,none⟩) (Mod.setCell (p:=⟨w.heap.size+1,0,none⟩) (Mod.refl (fun i=>i=w.heap.size+1) wz) (fun _=>rfl) _) (fun _=>rfl) _) (fun _=>rfl) _
     have hblk:Blk (((wz.setCell ⟨w.heap.size+1,0,none⟩ (.slice (some ⟨gS,0,none⟩) N N)).setCell ⟨w.heap.size+1,1,none⟩ (.int .i64 RT)).setCell ⟨w.heap.size+1,2,none⟩ (.int .i64 LF)) (w.heap.size+1) 28 #[.slice (some ⟨gS,0,none⟩) N N,.int .i64 RT,.int .i64 LF]:=by
      have:=((HYZ.out.set_ 0 (.slice (some ⟨gS,0,none⟩) N N)).set_ 1 (.int .i64 RT)).set_ 2 (.int .i64 LF)
      simpa using this
     refine bodyPost_ret (v:=.agg #[.slice (some ⟨gS,0,none⟩) N N,.int .i64 RT,.int .i64 LF]) ?_ rfl ?_
     ·exact results_cell_row rfl _ _ (w.heap.size+1) 28 _ (0,0) _ rfl hblk Tryz.underlying28 rfl HINF.out
     have BB:=HB0.out.trans (HBWZ.out.mono HB0.out.size)
     have BX:=BB.trans (MM.belowB (Nat.le_trans HB0.out.size hs9) fun i hi hf=>by omega)
     refine ⟨some ⟨gS,0,none⟩,N,by rw [HTN.out],by rw [HTN.out];exact Nat.le_refl _,by simp only [maxLen];omega,?_,BX⟩
     rw [HTN.out]
     exact (own_mod HOZ.out MM (fun q hq c=>by
      simp [Value.ownBlock] at hq;omega)).base_le' (by omega)
set_option maxRecDepth 20000
open Go.RowKit Go.Maps
def kI (j:Nat):Lit:=.int .i64 (j:Int)
theorem kI_ne {i j:Nat} (h:i≠j):kI i≠kI j:=by
 intro e
 unfold kI at e
 simp only [Lit.int.injEq,true_and] at e
 omega
theorem kI_key (j:Nat):WideAt.IsKeyLit (kI j):=by
 unfold kI;simp [WideAt.IsKeyLit]
theorem own_map_below {H:Type} {P:Program} {k:TypeId} {R:Value→Option (DataW H × List MemPlace)} {w w':World} {b n:Nat} {D:DataW H} (h:w.ownsMap P k R b n D) (m:Below w.heap.size w w'):w'.ownsMap P k R b n D:=by
 have hlt:=h.lt
 obtain ⟨es,clock,hb,F,hs,hD⟩:=h
 exact ⟨es,clock,(m.block b hlt).trans hb,F,hs,hD⟩
theorem mlaw:Keyed Tryz.prog 3:=int_keyed Tryz.underlying3
theorem mzero (w:World):(zeroValue 3).run Tryz.prog w=.ok (.int .i64 0) w:=by kernel_rfl
theorem mkey (j:Nat) (hj:j≤1000000):keyOf Tryz.prog 3 (.int .i64 (j:Int))=some (kI j):=keyOf_int_mk Tryz.underlying3 (by simp [Lit.wf,IntKind.min,IntKind.max,IntKind.bits,IntKind.signed];omega)
abbrev OwnM (w:World) (g n:Nat) (D:DataW Unit):Prop:=w.ownsMap Tryz.prog 3 (plainElem Tryz.prog 3) g n D
open Go.RowKit Go.Maps
structure MM (D:DataW Unit) (M:List Bool):Prop where
 tidy:Tidy D
 at_:∀ v,v < M.length→D.atKey (kI v) (.lit (.int .i64 0))=.lit (.int .i64 (if M.getD v false=true then 1 else 0))
theorem MM.zero (V:Nat):MM (.map []) (List.replicate V false) where
 tidy:=tidy_empty
 at_:=fun v hv=>by
  have:(List.replicate V false).getD v false=false:=by simp [List.getD_eq_getElem?_getD,List.getElem?_replicate];split <;> rfl
  rw [this];simp [DataW.atKey]
theorem MM.put {D:DataW Unit} {M:List Bool} (h:MM D M) {v:Nat} (hv:v < M.length):MM (D.put (kI v) (.lit (.int .i64 1))) (M.set v true) where
 tidy:=h.tidy.put (kI_key _) _
 at_:=fun j hj=>by
  rw [List.length_set] at hj
  rw [getB_set _ _ _ _ hv]
  by_cases c:j=v
  ·subst c
   rw [atKey_put_same h.tidy.isMap (kI_key _),if_pos rfl,if_pos rfl]
  ·rw [atKey_put_other (kI_ne c),h.at_ j hj,if_neg c]
theorem look_met {w:World} {g n:Nat} {D:DataW Unit} {M:List Bool} (h:OwnM w g n D) (hm:MM D M) (v:Nat) (hv:v < M.length) (hj:v≤1000000) :
  (Instr.lookup 104 (.map (some g)) (.int .i64 (v:Int)) false).run Tryz.prog w=.ok (.int .i64 (if M.getD v false=true then 1 else 0)) w:=by
 obtain ⟨c,hrun,hat,_⟩:=World.ownsMap.lookup_int h mlaw Tryz.underlying104 Tryz.underlying3 (mzero _) (mkey v hj)
 rw [hm.at_ v hv] at hat
 simp only [DataW.lit.injEq,Lit.int.injEq,true_and] at hat
 rw [hat];exact hrun
theorem put_m {w:World} {g n:Nat} {D:DataW Unit} (h:OwnM w g n D) (hn:n < 1000000) (e:Nat) (hj:e≤1000000) (v:Int) (hv:-9223372036854775808≤v∧v≤9223372036854775807) :
  ∃ w',(Instr.mapUpdate 104 (.map (some g)) (.int .i64 (e:Int)) (.int .i64 v)).run Tryz.prog w=.ok () w'∧OwnM w' g (n+1) (D.put (kI e) (.lit (.int .i64 v)))∧w.grownBy w' (some g) :=
 World.ownsMap.update h mlaw Tryz.underlying104 (by unfold maxLen;omega) (mkey e hj) (plainElem_int Tryz.underlying3 (WalkArith.wf_i64 (by omega)))
theorem own_map_ne {w:World} {base:Nat} {e:TypeId} {size n g m:Nat} {v:Value} {xs:List Value} {D:DataW Unit} (h:w.ownsRow base e size v n xs) (hm:OwnM w g m D):v.ownBlock≠some g:=fun q=>by
 obtain ⟨es,clock,hb,_⟩:=hm
 rcases h.2 with ⟨h0,_⟩ | ⟨k,cap,cur,rfl,hb',hg,_⟩
 ·rw [h0] at q;simp [Value.ownBlock] at q
 ·simp [Value.ownBlock] at q
  subst q
  rw [hb] at hg
  simp at hg
end Go.Proofs.YtdinmjciippchaaGreat
