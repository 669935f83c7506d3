/- Bytes read as acts: the program's Read. -/
import Derived.Test.YtdinmjciippchaaGreatZg32
import Derived.Test.YtdinmjciippchaaGreatZg3
import Derived.Laws.OwnMore
import Derived.Deep.RegionLaw
import Derived.Test.YtdinmjciippchaaGreatZg9
import Derived.Deep.RegionHeld3
import Derived.Test.YtdinmjciippchaaGreatZg8
import Derived.ProofKit
import Derived.OpenShut
import Derived.Deep.Slices
import Derived.Deep.Fields
import Derived.Test.YtdinmjciippchaaGreatZg14
open Go.RowKit
set_option linter.unusedVariables false
set_option linter.unusedSimpArgs false
namespace Go.Proofs.YtdinmjciippchaaGreat
set_option maxRecDepth 100000
theorem info_act:∃ i,Tryz.prog.info? 24=some i∧i.zero=some (.agg #[.int .i64 0,.int .i64 0,.int .i64 0])∧i.size=3∧i.bytes=24:=by
 have h:(Tryz.prog.info? 24).map (fun i=>(i.zero,i.size,i.bytes))=some (some (.agg #[.int .i64 0,.int .i64 0,.int .i64 0]),3,24):=by kernel_rfl
 obtain ⟨i,hi,e⟩:=Option.map_eq_some_iff.1 h
 simp only [Prod.mk.injEq] at e
 exact ⟨i,hi,e.1,e.2.1,e.2.2⟩
def rdA (bs:List Int) (j:Nat):Int:=if j%3=0 then bs.getD j 0%11 else bs.getD j 0
section
variable {w:World} {base g n c:Nat} {e:TypeId} {y:List Int}
theorem own_set3 (h:w.ownsRow base e 3 (.slice (some ⟨g,0,none⟩) n c) n (I64 y)) (k:Nat) (v:Int) :
  (w.setCell ⟨g,k,none⟩ (.int .i64 v)).ownsRow base e 3 (.slice (some ⟨g,0,none⟩) n c) n (I64 (y.set k v)):=by
 rw [I64_set];exact (h.stored k _).1
theorem own_cell3 (h:w.ownsRow base e 3 (.slice (some ⟨g,0,none⟩) n c) n (I64 y)) (k:Nat) (hk:k < n*3) :
  w.cell? ⟨g,k,none⟩=some (.int .i64 (y.getD k 0)):=by
 have hl:y.length=n*3:=by have:=h.1;rw [I64_len] at this;omega
 rw [h.cellAt k (by omega),I64_get y k (by omega)]
end
theorem Rd.z8Y {w:World} {B n:Nat} {A:Option Addr} {bs:List Int} (h:Rd w B A n (Z8 bs)) (h0:0 < n) :
  ∃ b o,A=some ⟨b,o,none⟩∧b < B∧∀ j,j < n→w.cell? ⟨b,o+j,none⟩=some (.int .u8 (bs.getD j 0)):=by
 obtain ⟨b,o,e,hb,hc⟩:=h.at_ h0
 have hl:bs.length=n:=by have:=h.len;simpa [Z8] using this
 refine ⟨b,o,e,hb,fun j hj=>?_⟩
 rw [hc j (by simp [Z8];omega)]
 simp [Z8,List.getD_eq_getElem?_getD,List.getElem?_eq_getElem (show j < bs.length by omega)]
def ReadP (w:World) (bs:List Int) (q:Nat) (e:Ending) (w':World):Prop :=
 ∃ g y,e=.returned (.slice (some ⟨g,0,none⟩) q q)∧w'.ownsRow w.heap.size 24 3 (.slice (some ⟨g,0,none⟩) q q) q (I64 y)∧(∀ j,j < 3*q→y.getD j 0=rdA bs j)∧Below w.heap.size w w'
set_option maxHeartbeats 16000000 in
theorem sread_p (A:Option Addr) (n c q:Nat) (bs:List Int) (w:World) (h:Rd w w.heap.size A n (Z8 bs)) (hb:∀ x∈bs,0≤x∧x < 256) (hn:n≤300) (hnc:n≤c) (hc:c≤maxLen) (hq:q=n / 3) :
  Calls Tryz.prog 37 #[.slice A n c] w (ReadP w bs q):=by
 obtain ⟨i0,hi0,hz0,hz1,hz2⟩:=info_act
 obtain ⟨w1,hmk,hown,hgr⟩:=run_make_full (P:=Tryz.prog) w w.heap.size 65 24 i0 (.agg #[.int .i64 0,.int .i64 0,.int .i64 0]) 3 Tryz.underlying65 hi0 hz0 hz1 .i64 .i64 q (by rw [hz2];omega) (by simp [maxLen];omega) (Nat.le_refl _)
 have hmc:(madeCells (Value.agg #[.int .i64 0,.int .i64 0,.int .i64 0]).cells (q*3)).toList=I64 (List.replicate (q*3) 0):=by
  apply List.ext_getElem?
  intro j
  by_cases hj:j < q*3
  ·have h3:j%3 < 3:=Nat.mod_lt _ (by omega)
   have:j%3=0∨j%3=1∨j%3=2:=by omega
   simp [madeCells,I64,hj,Value.cells]
   rcases this with c | c | c <;> simp [c]
  ·simp [madeCells,I64,hj]
 rw [hmc] at hown
 have b1:Below w.heap.size w w1:=(Below.refl _ _).grown hgr (Nat.le_refl _) (fun k hk=>by cases hk)
 have HO1:=Lib.hid hown
 have HB1:=Lib.hid b1
 have HR:=Lib.hid h
 have HBB:=Lib.hid hb
 have e1:(n:Int) / 3=(q:Int):=by omega
 have e1t:(n:Int).tdiv 3=(q:Int):=by rw [Int.tdiv_eq_ediv_of_nonneg (by omega)];exact e1
 have wq:IntKind.i64.wrap (q:Int)=(q:Int):=by simp [IntKind.wrap,IntKind.signed,IntKind.bits];omega
 have hc9:c≤9223372036854775807:=by unfold maxLen at hc;omega
 have hqn:3*q≤n:=by omega
 clear hgr hmc h hb hown b1 hq hc
 go_enter Tryz.func37,Tryz.ntmps37
 go_wp2_with fail
 go_loopw [4,5,12] (fun _ _ ix wz=>∃ (i:Nat) (y:List Int),i≤q∧ix=.int .i64 (i:Int)∧Hid (wz.ownsRow w.heap.size 24 3 (.slice (some ⟨w.heap.size,0,none⟩) q q) q (I64 y))∧Hid (y.length=3*q∧∀ j,j < 3*i→y.getD j 0=rdA bs j)∧Hid (Below w.heap.size w wz)) (fun _ _ x _=>q - (intOf x).toNat)
 case atStart=>exact ⟨0,List.replicate (q*3) 0,by omega,rfl,HO1.out,⟨by simp;omega,fun j hj=>absurd hj (by omega)⟩,HB1.out⟩
 case round =>
  clear HO1 HB1
  obtain ⟨wz,rfl⟩:∃ wz:World,wz=wr:=⟨_,rfl⟩
  obtain ⟨i,y,hi,rfl,HO,HY,HB⟩:=hrel
  by_cases hiq:i < q
  ·have hid':decide (i < q)=true:=decide_eq_true hiq
   have hiI:(i:Int) < (q:Int):=by omega
   obtain ⟨b,o,rfl,hbw,hcell⟩:=HR.out.z8Y (by omega)
   obtain ⟨t,ht⟩:∃ t,t=i*3:=⟨_,rfl⟩
   have et:(i:Int)*3=(t:Int):=by omega
   have wt:IntKind.i64.wrap (t:Int)=(t:Int):=by simp [IntKind.wrap,IntKind.signed,IntKind.bits];omega
   have tn:t+2 < n:=by omega
   have tni:(t:Int)≤(c:Int):=by omega
   have tnn:(t:Int)≤(n:Int):=by omega
   have get:∀ k,k < 3→wz.cell? ⟨b,o+t+k,none⟩=some (.int .u8 (bs.getD (t+k) 0)):=fun k hk=>by
    have:=(HB.out.cell (p:=⟨b,o+(t+k),none⟩) hbw).trans (hcell (t+k) (by omega))
    rwa [← Nat.add_assoc] at this
   have hbl:bs.length=n:=by have:=HR.out.len;simpa [Z8] using this
   have inb:∀ k,k < 3→0≤bs.getD (t+k) 0∧bs.getD (t+k) 0 < 256:=fun k hk=>by
    refine HBB.out _ ?_
    rw [List.getD_eq_getElem?_getD,List.getElem?_eq_getElem (show t+k < bs.length by omega)];exact List.getElem_mem _
   obtain ⟨x0,hx0⟩:∃ x,x=bs.getD (t+0) 0:=⟨_,rfl⟩
   obtain ⟨x1,hx1⟩:∃ x,x=bs.getD (t+1) 0:=⟨_,rfl⟩
   obtain ⟨x2,hx2⟩:∃ x,x=bs.getD (t+2) 0:=⟨_,rfl⟩
   have c0:=get 0 (by omega)
   have c1:=get 1 (by omega)
   have c2:=get 2 (by omega)
   have i0':=inb 0 (by omega)
   have i1':=inb 1 (by omega)
   have i2':=inb 2 (by omega)
   rw [← hx0] at c0 i0'
   rw [← hx1] at c1 i1'
   rw [← hx2] at c2 i2'
   rw [Nat.add_zero] at c0
   obtain ⟨r0,hr0⟩:∃ r,r=x0%11:=⟨_,rfl⟩
   have m0:x0%11=r0:=hr0.symm
   have m0t:x0.tmod 11=r0:=by rw [Int.tmod_eq_emod_of_nonneg i0'.1];exact m0
   have v0:IntKind.i64.wrap x0=x0:=by simp [IntKind.wrap,IntKind.signed,IntKind.bits];omega
   have v1:IntKind.i64.wrap x1=x1:=by simp [IntKind.wrap,IntKind.signed,IntKind.bits];omega
   have v2:IntKind.i64.wrap x2=x2:=by simp [IntKind.wrap,IntKind.signed,IntKind.bits];omega
   have vr:IntKind.i64.wrap r0=r0:=by simp [IntKind.wrap,IntKind.signed,IntKind.bits];omega
   have o1:=own_set3 HO.out (i*3) r0
   have o2:=own_set3 o1 (i*3+1) x1
   have o3:=own_set3 o2 (i*3+2) x2
   have y0:=own_cell3 HO.out (i*3) (by omega)
   have y1:=own_cell3 HO.out (i*3+1) (by omega)
   have y2:=own_cell3 HO.out (i*3+2) (by omega)
   have f0:=HO.out.frozenAt (i*3)
   have f1:=HO.out.frozenAt (i*3+1)
   have f2:=HO.out.frozenAt (i*3+2)
   have HO3:=Lib.hid o3
   have HB3:Hid (Below w.heap.size w (((wz.setCell ⟨w.heap.size,i*3,none⟩ (.int .i64 r0)).setCell ⟨w.heap.size,i*3+1,none⟩ (.int .i64 x1)).setCell ⟨w.heap.size,i*3+2,none⟩ (.int .i64 x2))) :=
    ((HB.out.setCell (p:=⟨w.heap.size,i*3,none⟩) (Nat.le_refl _) _).setCell (p:=⟨w.heap.size,i*3+1,none⟩) (Nat.le_refl _) _).setCell (p:=⟨w.heap.size,i*3+2,none⟩) (Nat.le_refl _) _
   have HY3:Hid ((((y.set (i*3) r0).set (i*3+1) x1).set (i*3+2) x2).length=3*q∧∀ j,j < 3*(i+1)→(((y.set (i*3) r0).set (i*3+1) x1).set (i*3+2) x2).getD j 0=rdA bs j):=by
    have hyl:=HY.out.1
    have gs:∀ (z:List Int) k j (v:Int),k < z.length→(z.set k v).getD j 0=if j=k then v else z.getD j 0:=fun z k j v hk=>by
     by_cases e:j=k
     ·subst e;simp [List.getD_eq_getElem?_getD,hk]
     ·rw [if_neg e];simp [List.getD_eq_getElem?_getD,Ne.symm e]
    refine ⟨by simp [hyl],fun j hj=>?_⟩
    rw [gs _ _ _ _ (by simp;omega),gs _ _ _ _ (by simp;omega),gs _ _ _ _ (by omega)]
    unfold rdA
    by_cases e2:j=i*3+2
    ·rw [if_pos e2,if_neg (by omega),hx2,e2,ht]
    ·rw [if_neg e2]
     by_cases e1:j=i*3+1
     ·rw [if_pos e1,if_neg (by omega),hx1,e1,ht]
     ·rw [if_neg e1]
      by_cases e0:j=i*3
      ·rw [if_pos e0,if_pos (by omega),← m0,hx0,e0,Nat.add_zero,ht]
      ·rw [if_neg e0]
       have:=HY.out.2 j (by omega)
       unfold rdA at this
       exact this
   have wi1:IntKind.i64.wrap ((i:Int)+1)=(i:Int)+1:=by simp [IntKind.wrap,IntKind.signed,IntKind.bits];omega
   have tcn:¬ t=c:=by omega
   clear get inb hx0 hx1 hx2 hr0 o1 o2 o3 hcell HY HO hbl ht
   go_upto_region 6 with fail
   go_region
   go_wp2_with fail
   go_roundw
   case rel=>exact ⟨i+1,_,by omega,by go_num,HO3,HY3,Lib.hid HB3.out.drew⟩
   case measure=>simp [intOf];omega
  ·obtain rfl:i=q:=by omega
   have hid':decide (i < i)=false:=by simp
   go_wp2_with fail
   go_ret
   exact ⟨_,y,rfl,HO.out,HY.out.2,HB.out⟩
theorem info_actS:(Tryz.prog.info? 24).map (·.size)=some 3:=by kernel_rfl
theorem run_max (n:Nat) (w:World):(Builtin.max_ #[3,3] 3 #[.int .i64 (n:Int),.int .i64 1]).run Tryz.prog w=.ok (.int .i64 ((max n 1:Nat):Int)) w:=by
 simp [Builtin.max_,Builtin.max2]
 repeat' split
 all_goals omega
set_option maxHeartbeats 8000000 in
theorem among_p (k d e:Int) (n:Nat) (w:World) (hn:n≤1000000) (hd:0≤d∧d < 256) (he:0≤e∧e < 256) :
  Calls Tryz.prog 38 #[.agg #[.int .i64 k,.int .i64 d,.int .i64 e],.int .i64 (n:Int)] w fun en w'=>en=.returned (.agg #[.int .i64 k,.int .i64 (d%(max n 1:Nat)),.int .i64 (e%(max n 1:Nat))])∧Below w.heap.size w w':=by
 obtain ⟨N,hN⟩:∃ N,N=max n 1:=⟨_,rfl⟩
 have hmx:=fun W=>run_max n W
 rw [← hN] at hmx ⊢
 obtain ⟨dm,hdm⟩:∃ dm,dm=d%(N:Int):=⟨_,rfl⟩
 obtain ⟨em,hem⟩:∃ em,em=e%(N:Int):=⟨_,rfl⟩
 have hNp:0 < N:=by omega
 have d1:d%(N:Int)=dm:=hdm.symm
 have d2:d.tmod (N:Int)=dm:=by rw [Int.tmod_eq_emod_of_nonneg hd.1];exact d1
 have e1:e%(N:Int)=em:=hem.symm
 have e2:e.tmod (N:Int)=em:=by rw [Int.tmod_eq_emod_of_nonneg he.1];exact e1
 have bd:=Int.emod_nonneg d (show (N:Int)≠0 by omega)
 have bd2:=Int.emod_lt_of_pos d (show 0 < (N:Int) by omega)
 have be:=Int.emod_nonneg e (show (N:Int)≠0 by omega)
 have be2:=Int.emod_lt_of_pos e (show 0 < (N:Int) by omega)
 have wd:IntKind.i64.wrap dm=dm:=by simp [IntKind.wrap,IntKind.signed,IntKind.bits];omega
 have we:IntKind.i64.wrap em=em:=by simp [IntKind.wrap,IntKind.signed,IntKind.bits];omega
 have n0:¬ (N:Int)=0:=by omega
 have hb0:=((Below.refl w.heap.size w).alloc (Nat.le_refl _) (.cells #[.int .i64 k,.int .i64 d,.int .i64 e] 24)).alloc (by simp) (.cells #[.int .i64 0,.int .i64 0,.int .i64 0] 24)
 have hx:=(Blk.new w 24 #[.int .i64 k,.int .i64 d,.int .i64 e]).alloc (.cells #[.int .i64 0,.int .i64 0,.int .i64 0] 24)
 have hy:=(Blk.new (w.alloc (.cells #[.int .i64 k,.int .i64 d,.int .i64 e] 24)) 24 #[.int .i64 0,.int .i64 0,.int .i64 0])
 rw [show (w.alloc (.cells #[.int .i64 k,.int .i64 d,.int .i64 e] 24)).heap.size=w.heap.size+1 by simp] at hy
 have HY:=Lib.hid hy
 have HX:=Lib.hid hx
 have HB:=Lib.hid hb0
 have HINF:=Lib.hid info_actS
 rw [d1,e1]
 clear hb0 hx hy hN hdm hem bd bd2 be be2 hd he
 go_enter Tryz.func38,Tryz.ntmps38
 go_upto_region 1 with fail
 generalize hw3:(w.alloc (.cells #[.int .i64 k,.int .i64 d,.int .i64 e] 24)).alloc (.cells #[.int .i64 0,.int .i64 0,.int .i64 0] 24)=w3 at *
 have x0:w3.cell? ⟨w.heap.size,0,none⟩=some (.int .i64 k):=HX.out.cell 0
 have x1:w3.cell? ⟨w.heap.size,1,none⟩=some (.int .i64 d):=HX.out.cell 1
 have x2:w3.cell? ⟨w.heap.size,2,none⟩=some (.int .i64 e):=HX.out.cell 2
 have q0:w3.cell? ⟨w.heap.size+1,0,none⟩=some (.int .i64 0):=HY.out.cell 0
 have q1:w3.cell? ⟨w.heap.size+1,1,none⟩=some (.int .i64 0):=HY.out.cell 1
 have q2:w3.cell? ⟨w.heap.size+1,2,none⟩=some (.int .i64 0):=HY.out.cell 2
 have f0:=HY.out.frozen 0
 have f1:=HY.out.frozen 1
 have f2:=HY.out.frozen 2
 have hs3:w3.heap.size=w.heap.size+2:=by rw [← hw3];simp
 have HBK:Hid (Blk (((w3.setCell ⟨w.heap.size+1,0,none⟩ (.int .i64 k)).setCell ⟨w.heap.size+1,1,none⟩ (.int .i64 dm)).setCell ⟨w.heap.size+1,2,none⟩ (.int .i64 em)) (w.heap.size+1) 24 #[.int .i64 k,.int .i64 dm,.int .i64 em]):=by
  show Blk _ _ _ _
  have:=((HY.out.set_ 0 (.int .i64 k)).set_ 1 (.int .i64 dm)).set_ 2 (.int .i64 em)
  simpa using this
 have HBB:Hid (Below w.heap.size w (((w3.setCell ⟨w.heap.size+1,0,none⟩ (.int .i64 k)).setCell ⟨w.heap.size+1,1,none⟩ (.int .i64 dm)).setCell ⟨w.heap.size+1,2,none⟩ (.int .i64 em))) :=
  ((HB.out.setCell (p:=⟨w.heap.size+1,0,none⟩) (by show w.heap.size≤w.heap.size+1;omega) _).setCell (p:=⟨w.heap.size+1,1,none⟩) (by show w.heap.size≤w.heap.size+1;omega) _).setCell (p:=⟨w.heap.size+1,2,none⟩) (by show w.heap.size≤w.heap.size+1;omega) _
 clear hw3
 go_upto_region 2 with fail
 go_region
 go_wp2_with fail
 refine bodyPost_ret (v:=.agg #[.int .i64 k,.int .i64 dm,.int .i64 em]) ?_ rfl ?_
 ·exact results_cell_row rfl _ _ (w.heap.size+1) 24 _ (0,0) _ rfl (HBK.out.drewN 1) Tryz.underlying24 rfl HINF.out
 ·exact ⟨rfl,HBB.out.drew⟩
def PlayP (MX:Nat→Nat→World→Nat→Prop) (E:Nat→Int) (w:World) (q:Nat) (e:Ending) (w':World):Prop :=
 ∃ g A c k,e=.returned (.tuple #[.pointer (some ⟨g,0,none⟩),.slice A q c])∧MX k q w' g∧q≤c∧c≤maxLen∧w'.ownsRow w.heap.size 31 1 (.slice A q c) q (I64 ((List.range q).map E))∧Below w.heap.size w w'
structure Plays (MX:Nat→Nat→World→Nat→Prop) (E:Nat→Int) (L:Nat→Nat) (r:Nat→Int) (q:Nat):Prop where
 start:∀ W g k,MapAt W g sdL sdL 0 0→W.heap.size≤k→MX k 0 W g
 below:∀ k i W W' g,MX k i W g→Below W.heap.size W W'→MX k i W' g
 len:∀ k i W g,i < q→MX k i W g→L i≤131072∧∃ l b rt ln,MapAt W g l b rt ln∧l.length=L i
 step:∀ k i W g,i < q→MX k i W g→k < W.heap.size→Calls Tryz.prog 8 #[.pointer (some ⟨g,0,none⟩),.agg #[.int .i64 (r (3*i)),.int .i64 (r (3*i+1)%(max (L i) 1:Nat)),.int .i64 (r (3*i+2)%(max (L i) 1:Nat))]] W fun en w' =>
  ∃ p,en=.returned (.tuple #[.pointer p,.int .i64 (E i)])∧Below W.heap.size W w'∧((E i=0∧∃ g',p=some ⟨g',0,none⟩∧∀ W'',Below w'.heap.size w' W''→MX k (i+1) (W''.setCell ⟨k,i,none⟩ (.int .i64 (E i))) g')∨(E i≠0∧p=none∧∀ W'',Below w'.heap.size w' W''→MX k (i+1) (W''.setCell ⟨k,i,none⟩ (.int .i64 (E i))) g))
theorem info_errno:∃ i,Tryz.prog.info? 31=some i∧i.zero=some (.int .i64 0)∧i.size=1∧i.bytes=8:=by
 have h:(Tryz.prog.info? 31).map (fun i=>(i.zero,i.size,i.bytes))=some (some (.int .i64 0),1,8):=by kernel_rfl
 obtain ⟨i,hi,e⟩:=Option.map_eq_some_iff.1 h
 simp only [Prod.mk.injEq] at e
 exact ⟨i,hi,e.1,e.2.1,e.2.2⟩
theorem own_setE {w:World} {base g n c k:Nat} {e:TypeId} {y:List Int} (h:w.ownsRow base e 1 (.slice (some ⟨g,0,none⟩) n c) n (I64 y)) (v:Int):(w.setCell ⟨g,k,none⟩ (.int .i64 v)).ownsRow base e 1 (.slice (some ⟨g,0,none⟩) n c) n (I64 (y.set k v)):=by
 rw [I64_set];exact (h.stored k _).1
theorem rdA_rng {bs:List Int} (hb:∀ x∈bs,0≤x∧x < 256) (j:Nat):0≤rdA bs j∧rdA bs j < 256:=by
 have:0≤bs.getD j 0∧bs.getD j 0 < 256:=by
  rw [List.getD_eq_getElem?_getD]
  by_cases c:j < bs.length
  ·rw [List.getElem?_eq_getElem c];exact hb _ (List.getElem_mem _)
  ·rw [List.getElem?_eq_none (by omega)];simp
 unfold rdA
 split <;> omega
set_option maxHeartbeats 16000000 in
theorem splay_p (A:Option Addr) (n c q:Nat) (bs:List Int) (w:World) (h:Rd w w.heap.size A n (Z8 bs)) (hb:∀ x∈bs,0≤x∧x < 256) (hn:n≤300) (hnc:n≤c) (hc:c≤maxLen) (hq:q=n / 3) {MX:Nat→Nat→World→Nat→Prop} {E:Nat→Int} {L:Nat→Nat} (hG:Plays MX E L (rdA bs) q) :
  Calls Tryz.prog 14 #[.slice A n c] w (PlayP MX E w q):=by
 obtain ⟨i0,hi0,hz0,hz1,hz2⟩:=info_errno
 have SP:=Lib.hid (seed_p w)
 have RP:Hid (∀ W,Below w.heap.size w W→Calls Tryz.prog 37 #[.slice A n c] W (ReadP W bs q)):=fun W z=>sread_p A n c q bs W ((h.below z).up z.size) hb hn hnc hc hq
 have HBB:=Lib.hid hb
 have HGD:=Lib.hid hG
 have hmk:=run_make_one (P:=Tryz.prog) 41 31 i0 (.int .i64 0) 8 Tryz.underlying41 hi0 hz0 hz1 hz2 rfl .i64 .i64 q (by omega) (by omega)
 have hrep:(List.replicate q (Value.int .i64 0)).toArray=Array.replicate q (.int .i64 0):=by simp
 rw [hrep] at hmk
 have hqb:q≤100:=by omega
 clear h hb hG hq hnc hn hc hrep
 go_enter Tryz.func14,Tryz.ntmps14
 go_wp2_with fail
 refine SP.out.mono ?_
 rintro en w1 ⟨g0,rfl,m0,b1⟩
 have HM0:Hid (∀ k,w1.heap.size≤k→MX k 0 w1 g0):=fun k hk=>HGD.out.start w1 g0 k m0 hk
 have B1:=Lib.hid b1
 have RP1:=Lib.hid (RP.out w1 b1)
 clear m0 b1 SP RP
 go_wp2_with fail
 refine RP1.out.mono ?_
 rintro en w2 ⟨gA,y,rfl,hown,hy,b2⟩
 have HA:=Lib.hid hown
 have HYV:=Lib.hid hy
 have hlA:=own_block hown
 have HM2:Hid (MX w2.heap.size 0 w2 g0):=HGD.out.below _ _ _ _ _ (HM0.out _ b2.size) b2
 have B2:=Lib.hid (B1.out.trans (b2.mono B1.out.size))
 clear hown hy b2 HM0 B1 RP1
 have hal:=(Below.refl w2.heap.size w2).alloc (Nat.le_refl _) (.cells (Array.replicate q (Value.int .i64 0)) 31)
 have hO:(w2.alloc (.cells (Array.replicate q (Value.int .i64 0)) 31)).ownsRow w2.heap.size 31 1 (.slice (some ⟨w2.heap.size,0,none⟩) q q) q (I64 (List.replicate q 0)):=by
  have:=World.ownsRow_lit (base:=w2.heap.size) (e:=31) (size:=1) w2 (Array.replicate q (Value.int .i64 0)) q (Nat.le_refl _) (by simp [maxLen];omega) (by simp)
  rw [show I64 (List.replicate q 0)=List.replicate q (.int .i64 0) by simp [I64]]
  simpa using this
 obtain ⟨gE,hgE⟩:∃ gE,gE=w2.heap.size:=⟨_,rfl⟩
 have HO3:=Lib.hid hO
 have HAL:=Lib.hid hal
 have HM3:=Lib.hid (HGD.out.below _ _ _ _ _ HM2.out hal)
 have hmk2:=hmk w2
 clear hO hal HM2 hmk
 go_upto_region 4 with fail
 generalize hw3:w2.alloc (.cells (Array.replicate q (Value.int .i64 0)) 31)=w3 at *
 clear hw3 hmk2
 rw [← hgE]
 rw [← hgE] at HO3 HM3
 have HGE:=Lib.hid hgE
 clear hgE
 go_wp2_with fail
 go_loopw [4,7,8,9,10,19] (fun mv _ _ _ _ ix wz=>∃ (i g:Nat) (z:List Int),i≤q∧ix=.int .i64 (i:Int)∧mv=.pointer (some ⟨g,0,none⟩)∧Hid (MX gE i wz g)∧Hid (z.length=q∧∀ j,j < i→z.getD j 0=E j) ∧
  Hid (wz.ownsRow gE 31 1 (.slice (some ⟨gE,0,none⟩) q q) q (I64 z))∧Hid (Below w2.heap.size w2 wz)) (fun _ _ _ _ _ x _=>q - (intOf x).toNat)
 case atStart=>exact ⟨0,g0,List.replicate q 0,by omega,rfl,rfl,HM3.out,⟨by simp,fun j hj=>absurd hj (by omega)⟩,HO3.out,HAL.out⟩
 case round =>
  clear HM3 HO3 HAL
  obtain ⟨wz,rfl⟩:∃ wz:World,wz=wr:=⟨_,rfl⟩
  obtain ⟨i,g,z,hi,rfl,rfl,HM,HZ,HO,HB⟩:=hrel
  by_cases hiq:i < q
  ·have hid':decide (i < q)=true:=decide_eq_true hiq
   have hiI:(i:Int) < (q:Int):=by omega
   obtain ⟨hLb,lz,bz,rz,nz,hmz,hlz⟩:=HGD.out.len gE i wz g hiq HM.out
   have HDZ:=Lib.hid (And.intro hmz hlz)
   clear hmz hlz
   obtain ⟨ka,hka⟩:∃ k,k=rdA bs (3*i):=⟨_,rfl⟩
   obtain ⟨da,hda⟩:∃ k,k=rdA bs (3*i+1):=⟨_,rfl⟩
   obtain ⟨ea,hea⟩:∃ k,k=rdA bs (3*i+2):=⟨_,rfl⟩
   have hdr:0≤da∧da < 256:=by rw [hda];exact rdA_rng HBB.out _
   have her:0≤ea∧ea < 256:=by rw [hea];exact rdA_rng HBB.out _
   have cellA:∀ j,j < 3→wz.cell? ⟨gA,i*3+j,none⟩=some (.int .i64 (rdA bs (3*i+j))):=fun j hj=>by
    have:=own_cell3 (own_below HA.out HB.out) (i*3+j) (by omega)
    rw [HYV.out _ (by omega),show i*3+j=3*i+j by omega] at this
    rw [show i*3+j=3*i+j by omega];exact this
   have c0:=cellA 0 (by omega)
   have c1:=cellA 1 (by omega)
   have c2:=cellA 2 (by omega)
   rw [Nat.add_zero,Nat.add_zero,← hka] at c0
   rw [← hda] at c1
   rw [← hea] at c2
   obtain ⟨N,hN⟩:∃ N,N=L i:=⟨_,rfl⟩
   have hNb:N≤1000000:=by omega
   obtain ⟨dm,hdm⟩:∃ x,x=da%((max N 1:Nat):Int):=⟨_,rfl⟩
   obtain ⟨em,hem⟩:∃ x,x=ea%((max N 1:Nat):Int):=⟨_,rfl⟩
   obtain ⟨X,hX⟩:∃ x,x=E i:=⟨_,rfl⟩
   have halb:=(Below.refl wz.heap.size wz).alloc (Nat.le_refl _) (.cells #[.int .i64 ka,.int .i64 da,.int .i64 ea] 24)
   obtain ⟨gX,hgX⟩:∃ gX,gX=wz.heap.size:=⟨_,rfl⟩
   have hXb:=Blk.new wz 24 #[.int .i64 ka,.int .i64 da,.int .i64 ea]
   rw [← hgX] at hXb
   have HXB:=Lib.hid hXb
   have HALB:=Lib.hid halb
   have HMz:=Lib.hid (HGD.out.below _ _ _ _ _ HM.out halb)
   have HDA:=Lib.hid (HDZ.out.1.below halb)
   have hgEz:=(own_block HO.out).2
   have HGX:=Lib.hid hgX
   have AP:Hid (∀ W,Calls Tryz.prog 38 #[.agg #[.int .i64 ka,.int .i64 da,.int .i64 ea],.int .i64 (N:Int)] W fun en w'=>en=.returned (.agg #[.int .i64 ka,.int .i64 dm,.int .i64 em])∧Below W.heap.size W w'):=fun W=>by
    have:=among_p ka da ea N W hNb hdr her
    rw [hdm,hem];exact this
   have DO:Hid (∀ W,MX gE i W g→gE < W.heap.size→Calls Tryz.prog 8 #[.pointer (some ⟨g,0,none⟩),.agg #[.int .i64 ka,.int .i64 dm,.int .i64 em]] W fun en w'=>∃ p,en=.returned (.tuple #[.pointer p,.int .i64 X])∧Below W.heap.size W w'∧Hid ((X=0∧∃ g',p=some ⟨g',0,none⟩∧∀ W'',Below w'.heap.size w' W''→MX gE (i+1) (W''.setCell ⟨gE,i,none⟩ (.int .i64 X)) g')∨(X≠0∧p=none∧∀ W'',Below w'.heap.size w' W''→MX gE (i+1) (W''.setCell ⟨gE,i,none⟩ (.int .i64 X)) g))):=fun W hW hk=>by
    have:=HGD.out.step gE i W g hiq hW hk
    rw [← hX,← hN,← hka,← hda,← hea,← hdm,← hem] at this
    exact this
   have HE2:Hid (E i=X∧lz.length=N):=⟨hX.symm,by rw [HDZ.out.2,hN]⟩
   have hw5e:gE < (wz.alloc (.cells #[.int .i64 ka,.int .i64 da,.int .i64 ea] 24)).heap.size:=by simp;omega
   have wi1:IntKind.i64.wrap ((i:Int)+1)=(i:Int)+1:=by simp [IntKind.wrap,IntKind.signed,IntKind.bits];omega
   clear cellA hka hda hea hdm hem hX hN hdr her halb hXb hgX HM HDZ hLb
   go_upto_region 7 with fail
   rw [← HGX.out]
   generalize hw5:wz.alloc (.cells #[.int .i64 ka,.int .i64 da,.int .i64 ea] 24)=w5 at *
   clear hw5 c0 c1 c2
   have KH:Hid (∀ W,Below w5.heap.size w5 W→Below w5.heap.size w5 W∧W.cell? ⟨gX,0,none⟩=some (.int .i64 ka)∧W.cell? ⟨gX,1,none⟩=some (.int .i64 da)∧W.cell? ⟨gX,2,none⟩=some (.int .i64 ea)):=fun W t=>⟨t,(HXB.out.below t).cell 0,(HXB.out.below t).cell 1,(HXB.out.below t).cell 2⟩
   have DP5:Hid (∀ W,Below w5.heap.size w5 W→Calls Tryz.prog 39 #[.pointer (some ⟨g,0,none⟩)] W fun e w'=>e=.returned (.int .i64 (N:Int))∧Below w5.heap.size w5 w'):=fun W t=>by
    rw [← HE2.out.2]
    exact (darts_p g lz bz rz nz W (HDA.out.below t)).mono fun e w' ⟨q1,q2⟩=>⟨q1,t.trans (q2.mono t.size)⟩
   have AP5:Hid (∀ W,Below w5.heap.size w5 W→Calls Tryz.prog 38 #[.agg #[.int .i64 ka,.int .i64 da,.int .i64 ea],.int .i64 (N:Int)] W fun en w'=>en=.returned (.agg #[.int .i64 ka,.int .i64 dm,.int .i64 em])∧Below w5.heap.size w5 w'):=fun W t=>(AP.out W).mono fun e w' ⟨q1,q2⟩=>⟨q1,t.trans (q2.mono t.size)⟩
   have DO5:Hid (∀ W,Below w5.heap.size w5 W→Calls Tryz.prog 8 #[.pointer (some ⟨g,0,none⟩),.agg #[.int .i64 ka,.int .i64 dm,.int .i64 em]] W fun en w'=>∃ p,en=.returned (.tuple #[.pointer p,.int .i64 X])∧Below w5.heap.size w5 w'∧Hid ((X=0∧∃ g',p=some ⟨g',0,none⟩∧∀ W'',Below w'.heap.size w' W''→MX gE (i+1) (W''.setCell ⟨gE,i,none⟩ (.int .i64 X)) g')∨(X≠0∧p=none∧∀ W'',Below w'.heap.size w' W''→MX gE (i+1) (W''.setCell ⟨gE,i,none⟩ (.int .i64 X)) g))):=fun W t=>(DO.out W (HGD.out.below _ _ _ _ _ HMz.out t) (by have:=t.size;omega)).mono fun e w' ⟨p,q1,q2,q3⟩=>⟨p,q1,t.trans (q2.mono t.size),q3⟩
   have a0:=Below.refl w5.heap.size w5
   have a1:=a0.drew
   obtain ⟨-,y0,y1,y2⟩:=KH.out _ a0
   obtain ⟨-,v0,v1,v2⟩:=KH.out _ a1
   clear AP DO
   go_cut [9,10] from 24 to 33 (fun pv xv wx=>∃ p,pv=.pointer p∧xv=.int .i64 X∧Below w5.heap.size w5 wx∧Hid ((X=0∧∃ g',p=some ⟨g',0,none⟩∧∀ W'',Below wx.heap.size wx W''→MX gE (i+1) (W''.setCell ⟨gE,i,none⟩ (.int .i64 X)) g')∨(X≠0∧p=none∧∀ W'',Below wx.heap.size wx W''→MX gE (i+1) (W''.setCell ⟨gE,i,none⟩ (.int .i64 X)) g)))
   case first =>
    go_region_held3 (fun W=>Below w5.heap.size w5 W∧W.cell? ⟨gX,0,none⟩=some (.int .i64 ka)∧W.cell? ⟨gX,1,none⟩=some (.int .i64 da)∧W.cell? ⟨gX,2,none⟩=some (.int .i64 ea)) (exact KH.out _ (by assumption)) (first
     | (go_at_call 39;(with_reducible refine (DP5.out _ (by assumption)).mono ?_);rintro en wa ⟨rfl,hba⟩)
     | (go_at_call 38;(with_reducible refine (AP5.out _ (by assumption)).mono ?_);rintro en wb ⟨rfl,hbb⟩)
     | (go_at_call 8;(with_reducible refine (DO5.out _ (by assumption)).mono ?_);rintro en wd ⟨p,rfl,hbd,HT⟩))
    all_goals (go_wp2_with fail)
    all_goals (go_meet)
    all_goals (exact ⟨_,rfl,rfl,hbd,HT⟩)
   case rest =>
    obtain ⟨p,rfl,rfl,bc,HT⟩:=hcut
    have hsz:=HALB.out.size
    have HOc:=own_below (own_below HO.out HALB.out) bc
    have HBc:=HB.out.trans ((HALB.out.trans (bc.mono hsz)).mono HB.out.size)
    have oE:=own_setE (k:=i) HOc X
    have yE:wc.cell? ⟨gE,i,none⟩=some (.int .i64 (z.getD i 0)):=by
     have hl:=HOc.1
     rw [I64_len] at hl
     rw [HOc.cellAt i (by omega),I64_get z i (by omega)]
    have fE:=HOc.frozenAt i
    have hgEb:=own_block HOc
    have HO2:=Lib.hid oE
    have HB2:=Lib.hid (HBc.setCell (p:=⟨gE,i,none⟩) (by rw [← HGE.out];exact Nat.le_refl _) (.int .i64 X))
    have HZ2:Hid ((z.set i X).length=q∧∀ j,j < i+1→(z.set i X).getD j 0=E j):=by
     have hzl:=HZ.out.1
     refine ⟨by simp [hzl],fun j hj=>?_⟩
     by_cases e:j=i
     ·subst e;rw [HE2.out.1];simp [List.getD_eq_getElem?_getD,hzl,hiq]
     ·have:(z.set i X).getD j 0=z.getD j 0:=by simp [List.getD_eq_getElem?_getD,Ne.symm e]
      rw [this];exact HZ.out.2 j (by omega)
    clear oE HOc HBc HALB HMz HDA HXB KH DP5 AP5 DO5 a0 a1 y0 y1 y2 v0 v1 v2 bc HO HB HZ hgEb
    rcases HT.out with ⟨hX0,g',rfl,hm2⟩ | ⟨hX0,rfl,hm2⟩
    ·have HM2':=Lib.hid (hm2 _ (Below.refl _ _))
     subst hX0
     clear HT hm2
     go_wp2_with fail
     go_roundw
     case rel=>exact ⟨i+1,g',_,by omega,by go_num,rfl,HM2',HZ2,HO2,HB2⟩
     case measure=>simp [intOf];omega
    ·have HM2':=Lib.hid (hm2 _ (Below.refl _ _))
     have hXb:((X:Int) == 0)=false:=by rw [beq_eq_false_iff_ne];exact hX0
     have hXd:decide (X=0)=false:=decide_eq_false hX0
     clear HT hm2
     go_wp2_with fail
     go_roundw
     case rel=>exact ⟨i+1,g,_,by omega,by go_num,rfl,HM2',HZ2,HO2,HB2⟩
     case measure=>simp [intOf];omega
  ·obtain rfl:i=q:=by omega
   have hid':decide (i < i)=false:=by simp
   have hz:z=(List.range i).map E:=by
    apply List.ext_getElem
    ·simp [HZ.out.1]
    ·intro j h1 h2
     have e1:z[j]=z.getD j 0:=by rw [List.getD_eq_getElem?_getD,List.getElem?_eq_getElem h1];rfl
     rw [e1,HZ.out.2 j (by have:=HZ.out.1;omega)]
     simp
   have HOF:Hid (wz.ownsRow gE 31 1 (.slice (some ⟨gE,0,none⟩) i i) i (I64 ((List.range i).map E))):=by rw [← hz];exact HO
   have HBF:=Lib.hid (B2.out.trans (HB.out.mono B2.out.size))
   have hs2:=B2.out.size
   clear hz HO HZ HB
   go_wp2_with fail
   go_ret2
   exact ⟨g,some ⟨gE,0,none⟩,i,gE,rfl,HM.out,Nat.le_refl _,by simp [maxLen];omega,HOF.out.base_le' (by rw [HGE.out];exact hs2),HBF.out⟩
theorem MapLo.lowerY {lo lo':Nat} {w:World} {g:Nat} (h:MapLo lo w g) (k:lo'≤lo):MapLo lo' w g:=by
 obtain ⟨p,A,n,c,S,k',d,q,A',n',c',S',k2,d',rt,ln,hb,h0,hp,hq,i1,i2,i3,i4⟩:=h
 exact ⟨p,A,n,c,S,k',d,q,A',n',c',S',k2,d',rt,ln,hb,Nat.le_trans k h0,hp.le k,hq.le k,fun a e=>Nat.le_trans k (i1 a e),fun a e=>Nat.le_trans k (i2 a e),fun a e=>Nat.le_trans k (i3 a e),fun a e=>Nat.le_trans k (i4 a e)⟩
set_option maxHeartbeats 4000000 in
theorem leaf_lo (g:Nat) (l b:List Nat) (root lone:Int) (d:Nat) (w:World) (h:MapAt w g l b root lone) (hi:Inv l b) (hr:RootOk root l.length) (hd:d < l.length) (hn:l.length≤60000) :
  Calls Tryz.prog 46 #[.pointer (some ⟨g,0,none⟩),.int .i64 (d:Int)] w fun en w'=>∃ g',en=.returned (.tuple #[.pointer (some ⟨g',0,none⟩),.int .i64 0])∧MapAt w' g' (leafL l d) (leafB l b d) root lone∧Below w.heap.size w w'∧MapLo w.heap.size w' g':=by
 have hn2:=h.2.1
 have hal:=(Below.refl w.heap.size w).alloc (Nat.le_refl _) (.cells #[.int .i64 (d:Int)] 3)
 have RP:Hid (Calls Tryz.prog 74 #[.pointer (some ⟨g,0,none⟩),.slice (some ⟨w.heap.size,0,none⟩) 1 1] (w.alloc (.cells #[.int .i64 (d:Int)] 3)) fun en w'=>en=.returned (.int .i64 0)∧Below w.heap.size w w'):=by
  have:=gready_p g l b root lone (some ⟨w.heap.size,0,none⟩) 1 1 [(d:Int)] (w.alloc (.cells #[.int .i64 (d:Int)] 3)) (h.below hal) ((Rd.new w 3 #[.int .i64 (d:Int)] 1 (I64 [(d:Int)]) (by simp [I64]) (by simp)).up (by simp)) (by omega)
  rw [rdy_one hd] at this
  exact this.mono fun en w' ⟨q1,q2⟩=>⟨q1,hal.trans (q2.mono (by simp))⟩
 have TP:Hid (∀ W,Below w.heap.size w W→Calls Tryz.prog 75 #[.pointer (some ⟨g,0,none⟩)] W fun en w'=>∃ gx,en=.returned (.pointer (some ⟨gx,0,none⟩))∧TurnsAt w' W.heap.size gx l b∧Below W.heap.size W w'):=fun W m=>turnsOf_p g l b root lone W (h.below m) hi
 obtain ⟨n,hnn⟩:∃ n,n=l.length:=⟨_,rfl⟩
 obtain ⟨n1,hn1⟩:∃ n1,n1=l.length+1:=⟨_,rfl⟩
 have HN:Hid (n=l.length∧n1=l.length+1):=⟨hnn,hn1⟩
 have HV:=Lib.hid (leaf_inv hi hd)
 have hev:=h.1.1
 have EP:Hid (∀ W base gx,TurnsAt W base gx (l) (b)→base≤W.heap.size→Calls Tryz.prog 76 #[.pointer (some ⟨gx,0,none⟩)] W fun e w'=>e=.returned (.tuple #[.int .i64 (n:Int),.int .i64 (n1:Int)])∧TurnsAt w' base gx (edgL (l)) (edgL (b))∧Below base W w'):=fun W base gx ht hb=>by
  have:=gedge_p base gx (l) (b) W ht (by omega) hb
  rw [← HN.out.2,← HN.out.1] at this
  exact this
 have PP:Hid (∀ W base gx,TurnsAt W base gx (edgL l) (edgL b)→base≤W.heap.size→Calls Tryz.prog 77 #[.pointer (some ⟨gx,0,none⟩),.int .i64 (n:Int),.int .i64 (d:Int)] W fun e w'=>e=.returned (.tuple #[])∧TurnsAt w' base gx (leafL l d) (leafB l b d)∧Below base W w'):=fun W base gx ht hb=>by
  have:=gput_p base gx (edgL l) (edgL b) (l.length) (d) W ht (edg_inv hi) (by rw [edg_len];omega) (by rw [edg_len];omega) (by rw [edg_len];omega) hb
  rw [← HN.out.1] at this
  unfold leafL leafB
  rw [← HN.out.1]
  exact this
 have DR:Hid (∀ W base gx,TurnsAt W base gx (leafL l d) (leafB l b d)→Below w.heap.size w W→Calls Tryz.prog 78 #[.pointer (some ⟨gx,0,none⟩),.pointer (some ⟨g,0,none⟩)] W (NewMap W (leafL l d) (leafB l b d) root lone)):=fun W base gx ht m=>drawn_p base gx g (leafL l d) (leafB l b d) l b root lone W ht (h.below m) HV.out.1 (by rw [HV.out.2];omega) (by rw [HV.out.2];omega) (by rw [HV.out.2];exact root_more hr (by omega) (by omega))
 clear h hal hi hnn hn1 hr hn2 hev
 go_enter Tryz.func46,Tryz.ntmps46
 go_wp2_with fail
 refine RP.out.mono ?_
 rintro en w1 ⟨rfl,b1⟩
 have B1:=Lib.hid b1
 clear b1 RP
 go_wp2_with fail
 refine (TP.out _ B1.out).mono ?_
 rintro en w2 ⟨gx,rfl,t2,b2⟩
 obtain ⟨base,hbase⟩:∃ base,base=w1.heap.size:=⟨_,rfl⟩
 rw [← hbase] at t2 b2
 have hw1:w.heap.size≤base:=by rw [hbase];exact B1.out.size
 have B2:=B1.out.trans (b2.mono hw1)
 have s2:base≤w2.heap.size:=by rw [hbase];exact b2.size
 clear b2 B1 TP hbase
 go_wp2_with fail
 refine (EP.out _ _ _ t2 s2).mono ?_
 rintro en w3 ⟨rfl,t3,b3⟩
 have B3:=B2.trans (b3.mono hw1)
 have s3:base≤w3.heap.size:=Nat.le_trans s2 b3.size
 clear b3 t2 B2
 go_wp2_with fail
 refine (PP.out _ _ _ t3 s3).mono ?_
 rintro en w4 ⟨rfl,t4,b4⟩
 have B4:=B3.trans (b4.mono hw1)
 have s4:base≤w4.heap.size:=Nat.le_trans s3 b4.size
 clear b4 t3 B3
 go_wp2_with fail
 refine (DR.out _ _ _ t4 B4).mono ?_
 rintro en w99 ⟨g9,rfl,m9,b9,lo9⟩
 have F:=Lib.hid (And.intro m9 (And.intro (B4.trans (b9.mono B4.size)) (lo9.lowerY B4.size)))
 clear m9 b9 lo9 t4
 go_wp2_with fail
 go_ret2
 exact ⟨g9,rfl,F.out.1,F.out.2.1,F.out.2.2⟩
theorem MapLo.belowY {lo:Nat} {w w':World} {g:Nat} (h:MapLo lo w g) (m:Below w.heap.size w w'):MapLo lo w' g:=by
 obtain ⟨p,A,n,c,S,k',d,q,A',n',c',S',k2,d',rt,ln,hb,h0,hp,hq,i1,i2,i3,i4⟩:=h
 exact ⟨p,A,n,c,S,k',d,q,A',n',c',S',k2,d',rt,ln,hb.below m,h0,hp.below m,hq.below m,i1,i2,i3,i4⟩
def AwX (k i:Nat) (W:World) (g:Nat):Prop:=(i=0∧MapAt W g sdL sdL 0 0)∨(i=1∧MapAt W g (leafL sdL 0) (leafB sdL sdL 0) 0 0)
theorem aw_plays:Plays AwX (fun _=>0) (fun _=>2) (rdA [0,0,0]) 1:=by
 refine ⟨fun W g k h _=>.inl ⟨rfl,h⟩,fun k i W W' g h m=>?_,fun k i W g hi h=>⟨by omega,?_⟩,fun k i W g hi h hk=>?_⟩
 ·rcases h with ⟨h0,h⟩ | ⟨h0,h⟩
  ·exact .inl ⟨h0,h.below m⟩
  ·exact .inr ⟨h0,h.below m⟩
 ·rcases h with ⟨h0,h⟩ | ⟨h0,h⟩
  ·exact ⟨_,_,_,_,h,rfl⟩
  ·omega
 ·obtain rfl:i=0:=by omega
  rcases h with ⟨_,h⟩ | ⟨h0,h⟩
  ·have r0:rdA [0,0,0] (3*0)=0:=rfl
   have r1:rdA [0,0,0] (3*0+1)%((max 2 1:Nat):Int)=0:=rfl
   have r2:rdA [0,0,0] (3*0+2)%((max 2 1:Nat):Int)=0:=rfl
   rw [r0,r1,r2]
   refine (sdo_k0 g 0 0 W (fun p x w'=>x=0∧Below W.heap.size W w'∧∃ g',p=some ⟨g',0,none⟩∧MapAt w' g' (leafL sdL 0) (leafB sdL sdL 0) 0 0∧MapLo W.heap.size w' g') fun W' m=>?_).mono ?_
   ·refine (leaf_lo g sdL sdL 0 0 0 W' (h.below m) sd_inv (.inr (by decide)) (by decide) (by decide)).mono ?_
    rintro en w' ⟨g',q1,q2,q3,q4⟩
    exact ⟨_,_,q1,rfl,m.trans (q3.mono m.size),g',rfl,q2,q4.lowerY m.size⟩
   ·rintro en w' ⟨p,x,rfl,rfl,q2,g',rfl,q3,q4⟩
    refine ⟨_,rfl,q2,.inl ⟨rfl,g',rfl,fun W'' m=>.inr ⟨rfl,?_⟩⟩⟩
    refine (q3.below m).mod (q4.belowY m) (Mod.setCell (p:=⟨k,0,none⟩) (Mod.refl (fun j=>j=k) W'') (fun _=>rfl) _) (fun j hj=>?_)
    rw [hj];exact hk
  ·omega
set_option maxHeartbeats 4000000 in
theorem awake24_p (w:World):Calls Tryz.prog 4 #[] w fun e w'=>e=.returned (.bool true)∧Below w.heap.size w w':=by
 have li:=leaf_inv sd_inv (show 0 < sdL.length by decide)
 have HE:Hid ((leafL sdL 0).length / 2=2):=by show _=_;rw [li.2];rfl
 have HV:Hid ((sizes (leafL sdL 0)).length=3):=by show _=_;rw [met_sizesG li.1];decide
 have hal:=(Below.refl w.heap.size w).alloc (Nat.le_refl _) (.cells #[.int .u8 0,.int .u8 0,.int .u8 0] 5)
 have hrd:=(Rd.new w 5 #[.int .u8 0,.int .u8 0,.int .u8 0] 3 (Z8 [0,0,0]) rfl rfl)
 have PP:=Lib.hid (splay_p (some ⟨w.heap.size,0,none⟩) 3 3 1 [0,0,0] (w.alloc (.cells #[.int .u8 0,.int .u8 0,.int .u8 0] 5)) (hrd.up (by simp)) (by decide) (by omega) (by omega) (by simp [maxLen]) (by omega) aw_plays)
 have HAL:=Lib.hid hal
 clear li hal hrd
 go_enter Tryz.func4,Tryz.ntmps4
 go_wp2_with fail
 refine PP.out.mono ?_
 rintro en w2 ⟨g,A,c,k,rfl,hm,hc1,hc2,hown,b2⟩
 have hm2:MapAt w2 g (leafL sdL 0) (leafB sdL sdL 0) 0 0:=by
  rcases hm with ⟨h0,_⟩ | ⟨_,h⟩
  ·omega
  ·exact h
 obtain ⟨gE,rfl,_,_⟩:=own_some hown (by omega)
 have M2:=Lib.hid hm2
 have B2:=Lib.hid (HAL.out.trans (b2.mono HAL.out.size))
 have HO:=Lib.hid hown
 have EC:Hid (∀ W,Below w2.heap.size w2 W→W.cell? ⟨gE,0,none⟩=some (.int .i64 0)):=fun W m=>by
  have:=(own_below HO.out m).cellAt 0 (by omega)
  simpa [I64] using this
 have EP:Hid (∀ W,Below w2.heap.size w2 W→Calls Tryz.prog 15 #[.pointer (some ⟨g,0,none⟩)] W fun e w'=>e=.returned (.int .i64 2)∧Below w2.heap.size w2 w'):=fun W m=>by
  have:=edges_p g _ _ _ _ W (M2.out.below m)
  rw [HE.out] at this
  exact this.mono fun e w' ⟨q1,q2⟩=>⟨q1,m.trans (q2.mono m.size)⟩
 have VP:Hid (∀ W,Below w2.heap.size w2 W→Calls Tryz.prog 16 #[.pointer (some ⟨g,0,none⟩)] W fun e w'=>e=.returned (.int .i64 3)∧Below w2.heap.size w2 w'):=fun W m=>by
  have:=vertices_p g _ _ _ _ W (M2.out.below m)
  rw [HV.out] at this
  exact this.mono fun e w' ⟨q1,q2⟩=>⟨q1,m.trans (q2.mono m.size)⟩
 clear hm hm2 hown b2 PP
 go_wp2_with fail
 refine (EP.out _ (Below.refl _ _)).mono ?_
 rintro en w3 ⟨rfl,b3⟩
 have B3:=Lib.hid b3
 clear b3
 go_wp2_with fail
 refine (VP.out _ B3.out).mono ?_
 rintro en w4 ⟨rfl,b4⟩
 have y0:=EC.out _ b4
 have F:=Lib.hid (B2.out.trans (b4.mono B2.out.size))
 clear b4
 go_wp2_with fail
 go_ret
 exact ⟨rfl,F.out⟩
open Go.RowKit Go.ChangeShapes Go.WideShapes Go.Deep
set_option maxRecDepth 20000
theorem cells_act24:Tryz.prog.cellsOf 24=3:=by kernel_rfl
theorem cells_int24:Tryz.prog.cellsOf 3=1:=by kernel_rfl
theorem act_fields24:(match Tryz.prog.underlying 24 with | some (.struct fs)=>fs.map (fun f=>(f.type,f.offset)) | _=>#[])=#[(3,0),(3,1),(3,2)]:=by kernel_rfl
theorem act_open {H:Type} {enc:TypeId × Value→H} {W:World} {b0:Nat} {r:Reach} {v:Value} {D:DataW H} {Pl:List MemPlace} (hv:Value.okWide Tryz.prog W r b0 24 v)
  (h:DataW.Trod enc Tryz.prog W 0 (fun _=>true) true 24 v D Pl):∃ a b c:Int,v=.agg #[.int .i64 a,.int .i64 b,.int .i64 c]∧(Lit.int .i64 a).wf=true∧(Lit.int .i64 b).wf=true∧(Lit.int .i64 c).wf=true:=by
 obtain ⟨fs,hfs⟩:∃ fs,Tryz.prog.underlying 24=some (.struct fs):=⟨_,Tryz.underlying24⟩
 unfold Value.okWide at hv
 rw [hfs] at hv
 obtain ⟨cs,rfl,hsz,-⟩:=hv
 rw [cells_act24] at hsz
 obtain ⟨fuel,hf⟩:=h
 have hc:Value.cells (.agg cs)=cs:=rfl
 obtain ⟨ys,nn,_,_,_,hyl,hg⟩:=DataW.trod_struct hfs hf
 have hff:=act_fields24
 rw [hfs] at hff
 have hsz3:fs.size=3:=by have:=congrArg Array.size hff;simpa using this
 have fld:∀ j (hj:j < 3),∃ f,fs[j]?=some f∧(f.type,f.offset)=(#[(3,0),(3,1),(3,2)]:Array (Nat × Nat)).getD j (0,0):=fun j hj=>by
  refine ⟨fs[j]'(by omega),Array.getElem?_eq_getElem (by omega),?_⟩
  have h1:=congrArg (fun (q:Array (Nat × Nat))=>q[j]?) hff
  simp only [Array.getElem?_map,Array.getElem?_eq_getElem (show j < fs.size by omega),Option.map_some] at h1
  rw [Array.getD_eq_getD_getElem?,← h1];rfl
 have one:∀ j (hj:j < 3),∃ q:Int,cs[j]?=some (.int .i64 q)∧(Lit.int .i64 q).wf=true:=fun j hj=>by
  obtain ⟨f,g,e⟩:=fld j hj
  have e1:f.type=3:=by
   have:j=0∨j=1∨j=2:=by omega
   rcases this with rfl | rfl | rfl <;> exact congrArg Prod.fst e
  have e2:f.offset=j:=by
   have:j=0∨j=1∨j=2:=by omega
   rcases this with rfl | rfl | rfl <;> exact congrArg Prod.snd e
  have u:=hg j f g
  rw [e1,e2,cells_int24,List.getElem?_eq_getElem (show j < ys.length by omega)] at u
  obtain ⟨q,e0,_,wf⟩:=DataW.trod_int Tryz.underlying3 u
  refine ⟨q,?_,wf⟩
  have:=congrArg (fun (z:List Value)=>z[0]?) e0
  simp only [List.getElem?_take,List.getElem?_drop] at this
  simpa [Value.cells] using this
 obtain ⟨a,ha,wa⟩:=one 0 (by omega)
 obtain ⟨b,hb,wb⟩:=one 1 (by omega)
 obtain ⟨c,hc2,wc⟩:=one 2 (by omega)
 refine ⟨a,b,c,?_,wa,wb,wc⟩
 have key:cs=#[.int .i64 a,.int .i64 b,.int .i64 c]:=by
  apply Array.ext
  ·rw [hsz];rfl
  ·intro i h1 h2
   have:i=0∨i=1∨i=2:=by omega
   rw [Array.getElem?_eq_getElem (by omega)] at ha hb hc2
   rcases this with rfl | rfl | rfl
   ·exact Option.some.inj ha
   ·exact Option.some.inj hb
   ·exact Option.some.inj hc2
 rw [key]
def XIs (K:List Nat→List Nat→Nat→Prop) (w:World) (e:Ending) (w':World):Prop :=
 ∃ v l b root lone,e=.returned v∧RMap w.heap.size w' l b root ((lone:Nat):Int) v∧l.length≤1000∧l.length%2=0∧RootOk root l.length∧lone≤1∧K l b lone∧Below w.heap.size w w'
def KAny (q:Nat) (l b:List Nat) (lone:Nat):Prop:=lone=0∧l.length=2*q
theorem rany_x (A:Option Addr) (m c B:Nat) (by_:List Int) (k:Nat) (rt:Nat) (w:World)
  (h:Rd w B A m (Z8 by_)) (hB:B≤w.heap.size) (hb:∀ x∈by_,0≤x∧x < 256) (hin:k≤100) (hm:m≤9223372036854775807) (hr1:rt < 256) :
  Calls Tryz.prog 5 #[.int .i64 (k:Int),.slice A m c,.int .u8 (rt:Int)] w (XIs (KAny k) w):=by
 refine (any_p k rt m c B A by_ w h hb hB hin hr1 hm).mono ?_
 rintro e w' ⟨v,l,b,root,rfl,hrm,hl,hroot,b2⟩
 exact ⟨v,l,b,root,0,rfl,hrm,by omega,by omega,by rw [hl];exact hroot,by omega,⟨rfl,hl⟩,b2⟩
end Go.Proofs.YtdinmjciippchaaGreat
