/- What a nil vector answers. -/
import Derived.Test.YtajjgpkahljjmaaGreatDoorZg34
import Derived.Test.YtajjgpkahljjmaaGreatDoorZg13
import Derived.Test.YtajjgpkahljjmaaGreatDoorZg25
import Derived.Test.YtajjgpkahljjmaaGreatDoorZg12
import Derived.Laws.Concat
open Go.RowKit
set_option linter.unusedVariables false
set_option linter.unusedSimpArgs false
namespace Go.Proofs.YtajjgpkahljjmaaGreatDoor
theorem min_64 (n i:Nat) (hi:64*i < n) (hn:n≤1000000):∃ s:Nat,Hid (s=min 64 (n - 64*i))∧1≤s∧s≤64∧∀ w,(Builtin.min_ #[3,3] 3 #[.int .i64 64,.int .i64 ((n:Int) - (i:Int)*64)]).run Tryz.prog w=.ok (.int .i64 (s:Int)) w:=by
 refine ⟨min 64 (n - 64*i),rfl,by omega,by omega,fun w=>?_⟩
 simp [Builtin.min_,Builtin.min2]
 repeat' split
 all_goals omega
end Go.Proofs.YtajjgpkahljjmaaGreatDoor

namespace Go.Proofs.YtajjgpkahljjmaaGreatDoor

theorem numL_take' (b t s:Nat) (hs:s≤t):(numL b t).take s=numL b s:=by
 simp only [numL,← List.map_take,List.take_range,Nat.min_eq_left hs]
theorem numL_wd {m:List Nat} (hm:Bin m) (k s:Nat) (hs:s≤64) (hl:64*k+s≤m.length):numL (wd (val m) k) s=(m.drop (64*k)).take s:=by
 unfold wd
 rw [← numL_take' _ 64 s hs,numL_mod,numL_take' _ 64 s hs,← val_drop hm,numL_val (hm.drop _) s (by rw [List.length_drop];omega)]
set_option maxHeartbeats 2000000 in
theorem bjoin_p (g h B:Nat) (l m:List Nat) (A C:Option Addr) (w:World) (hv:VecAt w g (val l) l.length A) (hu:VecB w B h (val m) m.length C) (hsep:Sep g A h C) (hm:Bin m) (hlen:l.length+m.length+64≤1000000) :
  Calls Tryz.prog 67 #[.pointer (some ⟨g,0,none⟩),.pointer (some ⟨h,0,none⟩)] w (NumPost w g (val (l++m)) (l++m).length A):=by
 obtain ⟨hU,hn,c,hb,ho⟩:=hu
 obtain ⟨n,hnn⟩:∃ n,n=m.length:=⟨_,rfl⟩
 rw [← hnn] at hb ho hn hU
 obtain ⟨q,hq⟩:∃ q,q=(n+63) / 64:=⟨_,rfl⟩
 have HQ:=Lib.hid hq
 have hq1:q≤1000000:=by omega
 rw [← hq] at hb ho
 have s0:w.cell? ⟨h,0,none⟩=some (.slice C q c):=hb.cell 0
 have s1:w.cell? ⟨h,1,none⟩=some (.int .i64 (n:Int)):=hb.cell 1
 have R:=Lib.hid (Rd.ofOwn ho)
 have HS:Hid (0 < q→∀ i,inBlk C i→¬ foot g A i):=fun h0 i hi hf=>by
  obtain ⟨b,e,_⟩:=own_some ho h0
  obtain ⟨a,e2,rfl⟩:=hi
  rw [e] at e2
  cases e2
  exact hsep _ hf (.inr ⟨b,e,rfl⟩)
 have HV:=Lib.hid hv
 have HM:=Lib.hid hm
 have HN:=Lib.hid hnn
 clear hb ho hq hU hv hsep hm hnn
 go_enter Tryz.func67,Tryz.ntmps67
 go_wp2_with fail
 go_loopw [18] (fun i wr=>∃ (k:Nat) (Ak:Option Addr),k≤q∧i=.int .i64 (k:Int)∧Hid (VecAt wr g (val (l++m.take (64*k))) (l++m.take (64*k)).length Ak)∧Hid (Mod (foot g A) w wr)∧Hid (Ak=A∨∃ b,Ak=some ⟨b,0,none⟩∧w.heap.size≤b)) (fun i _=>q - (intOf i).toNat)
 case atStart=>exact ⟨0,A,by omega,rfl,by show VecAt _ _ _ _ _;simpa using HV.out,Mod.refl _ _,.inl rfl⟩
 case round =>
  obtain ⟨k,Ak,hk,rfl,hvk,hmo,hak⟩:=hrel
  by_cases hlt:k < q
  ·have hr:=R.out.mod hmo.out (Nat.le_refl _) HS.out
   obtain ⟨b,o,rfl,_,k1⟩:=hr.u64 (by omega)
   have t1:=k1 k hlt
   rw [words_get _ _ _ hlt] at t1
   have h64:64*k < n:=by have:=HQ.out;omega
   obtain ⟨s,hs,hs1,hs64,hmin⟩:=min_64 n k h64 hn
   have hsl:64*k+s≤m.length:=by have:=hs.out;have:=HN.out;omega
   have hta:m.take (64*(k+1))=m.take (64*k)++(m.drop (64*k)).take s:=by
    rw [Nat.mul_add,Nat.mul_one,List.take_add]
    congr 1
    by_cases h7:s=64
    ·rw [h7]
    ·have h1:=hs.out
     have h2:=HN.out
     rw [List.take_of_length_le (by rw [List.length_drop];omega),List.take_of_length_le (by rw [List.length_drop];omega)]
   have hll:(l++m.take (64*k)).length+64≤1000000:=by rw [List.length_append,List.length_take];omega
   have NM:=num_p g (val (l++m.take (64*k))) (l++m.take (64*k)).length (wd (val m) k) (s:Int) Ak wr hvk.out (wd_lt _ _) (by omega) hll
   rw [cnt64_nat hs64,put_numL,numL_wd HM.out k s hs64 hsl,List.append_assoc,← hta,show (l++m.take (64*k)).length+s=(l++m.take (64*(k+1))).length by rw [hta,List.length_append,List.length_append,List.length_append,List.length_take (i:=s),List.length_drop];omega] at NM
   have NMH:=Lib.hid NM
   clear hr k1 NM hta hll hsl
   generalize wd (val m) k=x at *
   go_wp2_with fail
   refine NMH.out.mono ?_
   rintro e w2 hp
   obtain ⟨rfl,A2,hv2,hm2,ha2⟩:=NumPost.trans hmo.out hak.out hp
   go_wp2_with fail
   go_roundw
   case rel=>exact ⟨k+1,A2,by omega,by go_num,hv2,hm2,ha2⟩
   case measure=>simp [intOf];omega
  ·obtain rfl:k=q:=by omega
   have e1:m.take (64*k)=m:=List.take_of_length_le (by have:=HQ.out;have:=HN.out;omega)
   rw [e1] at hvk
   go_wp2_with fail
   exact bodyPost_end (results_none rfl _ _ _) rfl ⟨rfl,Ak,hvk.out,hmo.out,hak.out⟩
set_option maxRecDepth 20000
def wbits (ks:List Nat):List Nat:=ks.flatMap fun k=>[k%2,k / 2%2]
theorem wbits_len:∀ ks:List Nat,(wbits ks).length=2*ks.length
 | []=>rfl
 | k :: ks=>by
   have:=wbits_len ks
   unfold wbits at *
   rw [List.flatMap_cons,List.length_append,this,List.length_cons];simp;omega
theorem wbits_bin (ks:List Nat):Bin (wbits ks):=fun b hb=>by
 unfold wbits at hb
 obtain ⟨k,_,h⟩:=List.mem_flatMap.1 hb
 simp at h
 omega
theorem wv_wbits:∀ ks:List Nat,wv ks=val (wbits ks)
 | []=>rfl
 | k :: ks=>by
   have:=wv_wbits ks
   unfold wbits at *
   rw [List.flatMap_cons]
   show k%4+4*wv ks=k%2+2*(k / 2%2+2*val (List.flatMap (fun k=>[k%2,k / 2%2]) ks))
   rw [← this];omega
def NewBits (w:World) (ks:List Nat) (e:Ending) (w':World):Prop:=∃ gv A,e=.returned (.pointer (some ⟨gv,0,none⟩))∧VecAt w' gv (val (wbits ks)) (wbits ks).length A∧Below w.heap.size w w'∧w.heap.size≤gv
set_option maxHeartbeats 1000000 in
theorem mbits_p (B g:Nat) (ks:List Nat) (w:World) (h:WordAt w B g ks) (hn:ks.length≤400000) :
  Calls Tryz.prog 22 #[.pointer (some ⟨g,0,none⟩)] w (NewBits w ks):=by
 have BN:=Lib.hid (bnew_p w)
 obtain ⟨h1,h2,gv,A,h3,h4,h5⟩:=h
 have h5':VecB w gv gv (val (wbits ks)) (wbits ks).length A:=by
  have:=h5
  rw [wv_wbits,← wbits_len] at this
  exact VecB.base this (by omega)
 have H4:=Lib.hid h4
 have H5:=Lib.hid h5'
 clear h4 h5 h5'
 go_enter Tryz.func22,Tryz.ntmps22
 go_wp2_with fail
 refine BN.out.mono ?_
 rintro e w1 ⟨rfl,hv,b1⟩
 have c0:w1.cell? ⟨g,0,none⟩=some (.pointer (some ⟨gv,0,none⟩)):=(H4.out.below b1).cell 0
 have jp:=bjoin_p w.heap.size gv gv [] (wbits ks) none A w1 hv (H5.out.below b1) (fun i hi hj=>by
  have h9:=H5.out.foot_lt hj
  rcases hi with rfl | ⟨b,e,_⟩
  ·omega
  ·cases e) (wbits_bin ks) (by simp [wbits_len];omega)
 have HB1:=Lib.hid b1
 have HV:=Lib.hid hv
 have JP:=Lib.hid jp
 clear hv b1 jp BN H5 H4
 go_wp2_with fail
 refine JP.out.mono ?_
 intro e w2 hp
 have hb:=NumPost.below hp HV.out
 obtain ⟨rfl,A',hv2,hm,ha⟩:=hp
 rw [List.nil_append] at hv2
 have V2:=Lib.hid hv2
 have B2:Hid (Below w.heap.size w w2):=HB1.out.trans hb
 clear hb hv2 hm ha JP HV HB1
 go_wp2_with fail
 go_ret
 exact ⟨_,A',rfl,V2.out,B2.out,Nat.le_refl _⟩
theorem textM_sz (l:List Nat):(textM l).size=l.length:=by rw [textM,strOfNums_size,List.length_map]
theorem textM_nx (l:List Nat) (b:Nat):textM (l++[b])=textM l++⟨#[UInt8.ofNat (signN b)]⟩:=by
 apply ByteArray.ext
 rw [ByteArray.data_append]
 simp [textM,strOfNums]
set_option maxHeartbeats 2000000 in
theorem refTextM_p (A:Option Addr) (n c B:Nat) (l:List Nat) (w:World) (h:Rd w B A n (I64 (ofNB l))) (hb:∀ x∈l,x < 4) (hn:n≤1000000) :
  Calls Tryz.prog 19 #[.slice A n c] w fun e w'=>e=.returned (.string (textM l))∧w=w':=by
 have hl:l.length=n:=by rw [← ofN_lenB,← I64_len,h.len]
 have HL:=Lib.hid hl
 have HBN:=Lib.hid hb
 clear hl hb
 go_enter Tryz.func19,Tryz.ntmps19
 go_wp2
 go_loopw [3,8] (fun x i wr=>∃ (k:Nat) (t:ByteArray),k≤n∧i=.int .i64 (k:Int)∧Hid (t=textM (l.take k))∧x=.string t∧wr=w) (fun _ i _=>n - (intOf i).toNat)
 case atStart=>exact ⟨0,_,by omega,rfl,rfl,rfl,rfl⟩
 case round =>
  obtain ⟨k,t,hk,rfl,ht,rfl,rfl⟩:=hrel
  have hts:t.size≤1000000:=by rw [ht.out,textM_sz,List.length_take];omega
  by_cases hlt:k < n
  ·obtain ⟨b,o,rfl,_,k1⟩:=h.i64 (by omega)
   have t1:=k1 k hlt
   rw [ofN_getB] at t1
   have hkl:k < l.length:=by rw [HL.out];exact hlt
   have hb2:l.getD k 0 < 4:=HBN.out _ (by rw [List.getD_eq_getElem?_getD,List.getElem?_eq_getElem hkl];exact List.getElem_mem hkl)
   have hnx:textM (l.take (k+1))=t++⟨#[UInt8.ofNat (signN (l.getD k 0))]⟩:=by
    rw [take_snoc l k hkl,textM_nx,ht.out]
   have HNX:=Lib.hid hnx
   clear k1 hnx hkl
   generalize l.getD k 0=x at *
   rcases (show x=0∨x=1∨x=2∨x=3 by omega) with rfl | rfl | rfl | rfl
   ·have hcat:∀ W,(Op.stringOp .add t ⟨#[40]⟩).run Tryz.prog W=.ok (.string (t++⟨#[40]⟩)) W:=fun W=>run_string_add W _ _ (by omega) (by decide)
    clear hb2
    go_wp2_with fail
    go_roundw
    case rel=>exact ⟨k+1,_,by omega,by go_num,HNX.out.symm,rfl,trivial⟩
    case measure=>simp [intOf];omega
   ·have hcat:∀ W,(Op.stringOp .add t ⟨#[41]⟩).run Tryz.prog W=.ok (.string (t++⟨#[41]⟩)) W:=fun W=>run_string_add W _ _ (by omega) (by decide)
    clear hb2
    go_wp2_with fail
    go_roundw
    case rel=>exact ⟨k+1,_,by omega,by go_num,HNX.out.symm,rfl,trivial⟩
    case measure=>simp [intOf];omega
   ·have hcat:∀ W,(Op.stringOp .add t ⟨#[91]⟩).run Tryz.prog W=.ok (.string (t++⟨#[91]⟩)) W:=fun W=>run_string_add W _ _ (by omega) (by decide)
    clear hb2
    go_wp2_with fail
    go_roundw
    case rel=>exact ⟨k+1,_,by omega,by go_num,HNX.out.symm,rfl,trivial⟩
    case measure=>simp [intOf];omega
   ·have hcat:∀ W,(Op.stringOp .add t ⟨#[93]⟩).run Tryz.prog W=.ok (.string (t++⟨#[93]⟩)) W:=fun W=>run_string_add W _ _ (by omega) (by decide)
    clear hb2
    go_wp2_with fail
    go_roundw
    case rel=>exact ⟨k+1,_,by omega,by go_num,HNX.out.symm,rfl,trivial⟩
    case measure=>simp [intOf];omega
  ·obtain rfl:k=n:=by omega
   have e1:l.take k=l:=List.take_of_length_le (by rw [HL.out];exact Nat.le_refl _)
   rw [e1] at ht
   go_wp2_with fail
   go_ret
   exact ⟨by rw [← ht.out];rfl,rfl⟩
theorem code_same {l b l' P Q:List Nat} {root:Int} {lone:Nat} {tw:Nat→Nat} (hi:Inv l b) (he:l.length%2=0) (hE:ErrM l lone 0) (hC:CanO l root P Q) (W:Wd (wordL l root) tw) (T:TurnW (wordL l root) tw l') :
  l'=cjL P Q l∧rootW (wordL l root).length=reRoot P root∧loneW (wordL l root).length=(lone:Int):=by
 rcases hC with ⟨h0,rfl,rfl,rfl⟩ | ⟨r,rfl,hr,hC⟩
 ·have e:l=[]:=List.eq_nil_of_length_eq_zero h0
  have e':l'=[]:=List.eq_nil_of_length_eq_zero (by rw [T.1,wordL_len,h0])
  subst e
  have:lone=1:=by unfold ErrM at hE;rw [pN_nilT] at hE;omega
  rw [this,e']
  exact ⟨rfl,rfl,rfl⟩
 ·have p1:pN l=1∧genusN l=0∧lone=0:=by
   have:=pq_lt hi he hr hr;have:=pq_lt hi he (d:=l.length) hr hr;unfold ErrM at hE;unfold pN at *;omega
  have CN:=hC.one hi hr fun j hj=>one_all hi he p1.1 hr hj
  obtain ⟨tw',W',T'⟩:=can_turn hi he hr p1.1 p1.2.1 CN
  have n0:(wordL l (r:Int)).length≠0:=by rw [wordL_len];omega
  refine ⟨T.uniq T' W W',?_,?_⟩
  ·rw [reRoot_nat,CN.root hi hr]
   unfold rootW;rw [if_neg n0];rfl
  ·unfold loneW;rw [if_neg n0,p1.2.2];rfl
def BoxM (w wx:World) (g:Nat):Prop:=∃ (l b:List Nat) (root:Int) (lone:Nat) (A:Option Addr) (c:Nat),Blk wx g 27 #[.slice A l.length c,.int .i64 root,.int .i64 (lone:Int)]∧Inv l b ∧
 Rd wx wx.heap.size A l.length (I64 (ofN l))∧l.length≤100∧l.length%2=0∧RootOk root l.length∧lone≤2∧Below w.heap.size w wx
set_option maxHeartbeats 16000000 in
theorem turanCodes_walk (A0:Option Addr) (n m c rr lo:Nat) (raw:Bool) (by_:List Int) (w:World) (hT:MTabs w) (h0:Rd w w.heap.size A0 m (Z8 by_)) (hb0:∀ x∈by_,0≤x∧x < 256) (hmc:m≤c) (hcm:c≤maxLen) (hn:n < 65536) (hrr:rr < 256) (hlo:lo < 256) :
  Calls Tryz.prog 3 #[.int .u16 (n:Int),.slice A0 m c,.int .u8 (rr:Int),.bool raw,.int .u8 (lo:Int)] w fun e w'=>e=.returned (.bool true)∧Below w.heap.size w w':=by
 unfold maxLen at hcm
 have AW:=Lib.hid (tawake_p w hT)
 have HT:=Lib.hid hT
 have H0:=Lib.hid h0
 have HB0:=Lib.hid hb0
 obtain ⟨k,hk⟩:∃ k,k=n%40:=⟨_,rfl⟩
 have hk4:k < 40:=by omega
 have hk1:(n:Int)%40=(k:Int):=by omega
 have hk2:(n:Int).tmod 40=(k:Int):=by rw [Int.tmod_eq_emod_of_nonneg (by omega)];exact hk1
 have wk:IntKind.u16.wrap (k:Int)=(k:Int):=by simp [IntKind.wrap,IntKind.signed,IntKind.bits];omega
 have wk2:IntKind.i64.wrap (k:Int)=(k:Int):=by simp [IntKind.wrap,IntKind.signed,IntKind.bits];omega
 obtain ⟨k8,hk8⟩:∃ k,k=n%8:=⟨_,rfl⟩
 have hk84:k8 < 8:=by omega
 have hk81:(n:Int)%8=(k8:Int):=by omega
 have hk82:(n:Int).tmod 8=(k8:Int):=by rw [Int.tmod_eq_emod_of_nonneg (by omega)];exact hk81
 have wk8:IntKind.u16.wrap (k8:Int)=(k8:Int):=by simp [IntKind.wrap,IntKind.signed,IntKind.bits];omega
 have wk82:IntKind.i64.wrap (k8:Int)=(k8:Int):=by simp [IntKind.wrap,IntKind.signed,IntKind.bits];omega
 obtain ⟨k3,hk3⟩:∃ k,k=lo%3:=⟨_,rfl⟩
 have hk34:k3 < 3:=by omega
 have hk31:(lo:Int)%3=(k3:Int):=by omega
 have hk32:(lo:Int).tmod 3=(k3:Int):=by rw [Int.tmod_eq_emod_of_nonneg (by omega)];exact hk31
 have wk3:IntKind.u8.wrap (k3:Int)=(k3:Int):=by simp [IntKind.wrap,IntKind.signed,IntKind.bits];omega
 have wk32:IntKind.i64.wrap (k3:Int)=(k3:Int):=by simp [IntKind.wrap,IntKind.signed,IntKind.bits];omega
 clear hk hk8 hk3 hT h0 hb0
 go_enter Tryz.func3,Tryz.ntmps3
 go_wp2_with fail
 refine AW.out.mono ?_
 rintro e w1 ⟨rfl,b1⟩
 have B1:=Lib.hid b1
 have PL:=Lib.hid (rplane_x A0 m c w.heap.size by_ k rr w1 (H0.out.below b1) b1.size HB0.out (by omega) (by omega) hrr)
 clear b1 AW
 go_wp2_with fail
 refine PL.out.mono ?_
 rintro e w2 ⟨v,l,b,root,lone,rfl,⟨hi,A,cA,_,rfl,hlc,hcA,hrA⟩,hl,he,hroot,hlone,hkp,b2⟩
 have hlen:l.length=2*k:=hkp.1
 have hal:=(Below.refl w2.heap.size w2).alloc (Nat.le_refl _) (.cells #[.slice A l.length cA,.int .i64 root,.int .i64 (lone:Int)] 27)
 have hBX:=Blk.new w2 27 #[.slice A l.length cA,.int .i64 root,.int .i64 (lone:Int)]
 have hrA3:=hrA.more hal
 obtain ⟨w3,hw3⟩:∃ w3,w3=w2.alloc (.cells #[.slice A l.length cA,.int .i64 root,.int .i64 (lone:Int)] 27):=⟨_,rfl⟩
 rw [← hw3] at hal hBX hrA3
 have B3:Hid (Below w.heap.size w w3):=(B1.out.trans (b2.mono B1.out.size)).trans (hal.mono (by have:=B1.out.size;have:=b2.size;omega))
 obtain ⟨gb,hgb⟩:∃ gb,gb=w2.heap.size:=⟨_,rfl⟩
 rw [← hgb] at hBX
 have HGB:Hid (w.heap.size≤gb∧gb < w3.heap.size):=⟨by have:=B1.out.size;have:=b2.size;omega,hBX.lt⟩
 have HP:Hid (BoxM w w3 gb):=⟨l,b,root,lone,A,cA,hBX,hi,hrA3,by omega,he,hroot,by omega,B3.out⟩
 have HBX:=Lib.hid hBX
 have AN:Hid (Calls Tryz.prog 11 #[.int .i64 (k8:Int),.slice A0 m c,.int .u8 (rr:Int)] w3 fun e w'=>∃ v l b root,e=.returned v∧RMap w3.heap.size w' l b root 0 v∧l.length=2*k8∧RootOk root (2*k8)∧Below w3.heap.size w3 w') :=
  any_p k8 rr m c w.heap.size A0 by_ w3 (H0.out.below B3.out) HB0.out B3.out.size (by omega) hrr (by omega)
 clear hi hrA hl he hroot hlone hkp b2 hlen hal hBX hrA3 hlc hcA
 go_upto_if 33 with fail
 rw [← hw3,← hgb]
 clear hw3 hgb
 go_cut [] from 33 to 43 (fun wx=>Hid (BoxM w wx gb))
 case first =>
  cases raw with
  | false =>
    go_wp2_with fail
    go_meet
    exact HP
  | true =>
    have q0:=HBX.out.cell 0
    have q1:=HBX.out.cell 1
    have q2:=HBX.out.cell 2
    simp at q0 q1 q2
    clear HP q0 q1 q2
    go_wp2_with fail
    refine AN.out.mono ?_
    rintro e w4 ⟨v4,l4,b4,root4,rfl,⟨hi4,A4,c4,hlo4,rfl,hc4,hm4,hr4⟩,hl4,hro4,bb4⟩
    have HR4:=Lib.hid (And.intro hi4 (And.intro hlo4 (And.intro hr4 (And.intro hl4 hro4))))
    have HB4':=Lib.hid bb4
    have HB4:=HBX.out.below bb4
    have q0:=HB4.cell 0
    have q1:=HB4.cell 1
    have q2:=HB4.cell 2
    have f0:=HB4.frozen 0
    have f1:=HB4.frozen 1
    have f2:=HB4.frozen 2
    simp at q0 q1 q2
    have HBB:=Lib.hid HB4
    clear hi4 hlo4 hr4 hro4 bb4 hc4 hm4
    go_wp2_with fail
    go_meet
    obtain ⟨hi4,hlo4,hr4,_,hro4⟩:=HR4.out
    have hbk:=(((HBB.out.set_ 0 (.slice A4 (2*k8) c4)).set_ 1 (.int .i64 root4)).set_ 2 (.int .i64 0)).set_ 2 (.int .i64 (k3:Int))
    have MM:Mod (fun k=>k=gb) w4 ((((w4.setCell ⟨gb,0,none⟩ (.slice A4 (2*k8) c4)).setCell ⟨gb,1,none⟩ (.int .i64 root4)).setCell ⟨gb,2,none⟩ (.int .i64 0)).setCell ⟨gb,2,none⟩ (.int .i64 (k3:Int))) :=
     Mod.setCell (p:=⟨gb,2,none⟩) (Mod.setCell (p:=⟨gb,2,none⟩) (Mod.setCell (p:=⟨gb,1,none⟩) (Mod.setCell (p:=⟨gb,0,none⟩) (Mod.refl (fun k=>k=gb) w4) (fun _=>rfl) _) (fun _=>rfl) _) (fun _=>rfl) _) (fun _=>rfl) _
    refine ⟨l4,b4,root4,k3,A4,c4,?_,hi4,?_,by omega,by omega,by rw [hl4];exact hro4,by omega,?_⟩
    ·rw [hl4];simpa using hbk
    ·rw [hl4] at hr4 ⊢
     refine (Rd.mod hr4 MM (Nat.le_refl _) fun _ k hk e=>?_).up MM.size
     obtain ⟨a,ha,hak⟩:=hk
     have:=hlo4 a ha
     have:=HGB.out.2
     omega
    ·exact (B3.out.trans (HB4'.out.mono B3.out.size)).trans (MM.belowB (by have:=B3.out.size;have:=HB4'.out.size;omega) fun i hi e=>by have:=HGB.out.1;omega)
 case rest =>
  clear AN HP HBX B3 hk1 hk2 hk81 hk82 hk31 hk32 wk wk2 wk8 wk82 wk3 wk32
  have HC:=hcut
  clear hcut
  obtain ⟨l,b,root,lone,A,cA,hbx,hi,hrA,hl100,he,hroot,hlone,bw⟩:=HC.out
  obtain ⟨E,hE⟩:=errM_ex l lone
  obtain ⟨N,hN⟩:∃ N,N=l.length:=⟨_,rfl⟩
  obtain ⟨M,hM⟩:∃ M,M=l.length / 2:=⟨_,rfl⟩
  obtain ⟨ks,hks⟩:∃ ks,ks=wordL l root:=⟨_,rfl⟩
  have hkl:ks.length=N:=by rw [hks,wordL_len,hN]
  have hNM:N=2*M:=by omega
  have NW:=new_ok A l.length cA l b root (lone:Int) wc hrA hi he (by omega) hroot (by omega) (by omega)
  have XB:Hid (∀ W,Below wc.heap.size wc W→W.cell? ⟨gb,0,none⟩=some (.slice A N cA)∧W.cell? ⟨gb,1,none⟩=some (.int .i64 root)∧W.cell? ⟨gb,2,none⟩=some (.int .i64 (lone:Int))):=fun W z=>by
   have hb:=hbx.below z
   have a:=hb.cell 0
   have b:=hb.cell 1
   have c:=hb.cell 2
   simp at a b c
   rw [hN]
   exact ⟨a,b,c⟩
  have EN:Hid (∀ g W,MapAt W g l b root (lone:Int)→Calls Tryz.prog 13 #[.pointer (some ⟨g,0,none⟩)] W (EnPost W l root E)):=fun g W hm=>tenc_p g l b root lone E W hm hi hroot hE
  have BT:Hid (∀ g W,MapAt W g l b root (lone:Int)→Calls Tryz.prog 14 #[.pointer (some ⟨g,0,none⟩)] W fun e w'=>e=.returned (.tuple #[.int .i64 (if E=0 then ((4*M:Nat):Int) else 0),.int .i64 E])∧Below W.heap.size W w'):=fun g W hm=>tbits_p g l b root lone E M W hm hE hM
  have RE:Hid (∀ W,Below wc.heap.size wc W→Calls Tryz.prog 15 #[.agg #[.slice A N cA,.int .i64 root,.int .i64 (lone:Int)]] W (REnPost W l root E)):=fun W z=>by
   rw [hN]
   exact renc_p A cA l b root lone E W (hrA.more z) hi he (by omega) (by omega) hroot hE
  have HD:=Lib.hid (And.intro hi (And.intro he (And.intro hroot hE)))
  have HKS:=Lib.hid (And.intro hks hkl)
  have HNM:=Lib.hid (And.intro hN hNM)
  have BW:=Lib.hid bw
  rw [← hN] at NW
  have HNW:=Lib.hid NW
  have hNb:N≤100:=by omega
  have hMb:M≤50:=by omega
  obtain ⟨x0,x1,x2⟩:=XB.out wc (Below.refl _ _)
  have hE3:E=0∨E=7∨E=8:=by unfold ErrM at hE;omega
  clear hbx hi hrA he hroot bw hE hN hM hks hkl hNM NW HC hl100
  go_wp2_with fail
  refine HNW.out.mono ?_
  rintro e w4 ⟨g,rfl,hm,b4,_⟩
  have HM4:=Lib.hid hm
  have B4:=Lib.hid b4
  have EN4:=Lib.hid (EN.out g w4 hm)
  clear hm b4 EN HNW x0 x1 x2
  go_wp2_with fail
  refine EN4.out.mono ?_
  rintro e w5 h5
  have key:∃ pv:Option Addr,e=.returned (.tuple #[.pointer pv,.int .i64 E])∧Below w4.heap.size w4 w5∧((E≠0∧pv=none)∨(E=0∧∃ gw,pv=some ⟨gw,0,none⟩∧WordAt w5 w4.heap.size gw ks)):=by
   rcases h5 with ⟨q,h,hb⟩ | ⟨h0,gw,h,hw,hb⟩
   ·exact ⟨none,h,hb,.inl ⟨q,rfl⟩⟩
   ·exact ⟨some ⟨gw,0,none⟩,by rw [h0];exact h,hb,.inr ⟨h0,gw,rfl,by rw [HKS.out.1];exact hw⟩⟩
  obtain ⟨pv,rfl,b5,hpv⟩:=key
  have HPV:=Lib.hid hpv
  have B5:=Lib.hid (B4.out.trans (b5.mono B4.out.size))
  have HM5:=Lib.hid (HM4.out.below b5)
  have BT5:=BT.out g w5 HM5.out
  obtain ⟨vb,hvb⟩:∃ vb,vb=(if E=0 then ((4*M:Nat):Int) else 0):=⟨_,rfl⟩
  rw [← hvb] at BT5
  have HVB:=Lib.hid hvb
  have HBT:=Lib.hid BT5
  clear h5 b5 hpv HM4 BT5 BT hvb EN4
  go_wp2_with fail
  refine HBT.out.mono ?_
  rintro e w6 ⟨rfl,b6⟩
  have B6:=Lib.hid (B5.out.trans (b6.mono B5.out.size))
  have HB6:=Lib.hid b6
  obtain ⟨x0,x1,x2⟩:=XB.out w6 B6.out
  have RE6:=Lib.hid (RE.out w6 B6.out)
  clear b6 RE HBT
  go_wp2_with fail
  refine RE6.out.mono ?_
  rintro e w7 h7
  by_cases h0:E=0
  ·obtain ⟨hi,he,hroot,hE⟩:=HD.out
   rw [h0] at hE
   obtain ⟨gw,hpw,hw5⟩:∃ gw,pv=some ⟨gw,0,none⟩∧WordAt w5 w4.heap.size gw ks:=by
    rcases HPV.out with ⟨q,_⟩ | ⟨_,q⟩
    ·exact absurd h0 q
    ·exact q
   have hvb:=HVB.out
   rw [if_pos h0] at hvb
   rcases h7 with ⟨q,_⟩ | ⟨_,A7,c7,rfl,hc7,hm7,ho7,b7⟩
   ·exact absurd h0 q
   rw [← HNM.out.1,← HKS.out.1] at ho7
   rw [← HNM.out.1]
   have B7:=Lib.hid (B6.out.trans (b7.mono B6.out.size))
   have B57:=Lib.hid (HB6.out.trans (b7.mono HB6.out.size))
   obtain ⟨tw,hW,hR⟩:=word_right hi he hroot hE
   rw [← HKS.out.1] at hW hR
   obtain ⟨P,Q,hC⟩:=canO_is hi he hroot
   have HW5:=Lib.hid hw5
   have hTb:=HT.out.below (BW.out.trans (B7.out.mono BW.out.size))
   have DC:=Lib.hid (tdecode_p (some ⟨gw,0,none⟩) ks w7 hW.P.kd hTb (tells_word _ gw ks w7 (hw5.below B57.out) (by have:=HKS.out.2;omega)) N HKS.out.2 (by omega))
   have HWR:=Lib.hid (And.intro hW (And.intro hR (And.intro hi (And.intro he (And.intro hE hC)))))
   have HO7:=Lib.hid ho7
   have HM7:=Lib.hid (HM5.out.below B57.out)
   obtain ⟨M4,hM4⟩:∃ M4,M4=4*M:=⟨_,rfl⟩
   rw [← hM4] at hvb
   have HM4':=Lib.hid hM4
   have hM4b:M4≤200:=by omega
   subst h0
   subst hvb
   subst hpw
   clear hi he hroot hE hw5 hW hR hC hTb ho7 hc7 hm7 b7 hE3 x0 x1 x2 RE6 hM4 HM5
   go_wp2_with fail
   refine DC.out.mono ?_
   rintro e w8 (⟨tw',l8,b8,hW8,_,hT8,hi8,g8,rfl,hm8,bb8,_⟩ | ⟨E',q,hE',_⟩)
   rotate_left
   ·exact absurd (hE'.ok HWR.out.1 HWR.out.2.1) q
   obtain ⟨hW,hR,hi,he,hE,hC⟩:=HWR.out
   have SM:=code_same hi he hE hC (by rw [← HKS.out.1];exact hW8) (by rw [← HKS.out.1];exact hT8)
   rw [← HKS.out.1] at SM
   have CA:=Lib.hid (canon_any g l b root (lone:Int) P Q w8 (HM7.out.below bb8) hi hC)
   have HM8:=Lib.hid (HM7.out.below bb8)
   have HD8:=Lib.hid hm8
   have HSM:=Lib.hid SM
   have B8:=Lib.hid (B7.out.trans (bb8.mono B7.out.size))
   have BB8:=Lib.hid bb8
   clear hW8 hT8 hi8 hm8 bb8 hW hR hi he hE hC SM DC HM7
   go_wp2_with fail
   refine CA.out.mono ?_
   rintro e w9 ⟨g9,gp,rfl,hm9,_,b9⟩
   have B9:=Lib.hid (B8.out.trans (b9.mono B8.out.size))
   have B59:=Lib.hid ((B57.out.trans (BB8.out.mono B57.out.size)).trans (b9.mono (by have:=B57.out.size;have:=BB8.out.size;omega)))
   have B79:=Lib.hid (BB8.out.trans (b9.mono BB8.out.size))
   have HM9:=Lib.hid hm9
   have HD9:=Lib.hid (HD8.out.below b9)
   have HG9:=Lib.hid (HM8.out.below b9)
   have W9:=Lib.hid (HW5.out.below B59.out)
   have TX:=mtext_p _ gw ks w9 W9.out (by have:=HKS.out.2;omega)
   obtain ⟨T,hTt⟩:∃ T,T=textM ks:=⟨_,rfl⟩
   rw [← hTt] at TX
   have HTX:=Lib.hid TX
   have RT:Hid (∀ W,Below w9.heap.size w9 W→Calls Tryz.prog 19 #[.slice A7 N c7] W fun e w'=>e=.returned (.string T)∧W=w'):=fun W z=>by
    rw [hTt]
    exact refTextM_p A7 N c7 w7.heap.size ks W (((Rd.ofOwn HO7.out).below B79.out).below (z.mono B79.out.size)) HWR.out.1.P.kd (by omega)
   have HTT:=Lib.hid hTt
   clear hm9 b9 CA HM8 HD8 TX hTt
   go_wp2_with fail
   refine HTX.out.mono ?_
   rintro e wa ⟨rfl,ba⟩
   have Ba:=Lib.hid ba
   have RTa:=Lib.hid (RT.out wa ba)
   clear ba HTX RT
   go_wp2_with fail
   refine RTa.out.mono ?_
   rintro e wb ⟨rfl,rfl⟩
   have LN:=mlen_p _ gw ks wa (W9.out.below Ba.out)
   rw [HKS.out.2] at LN
   have HLN:=Lib.hid LN
   have EP:Hid (∀ W,Below w9.heap.size w9 W→Calls Tryz.prog 21 #[.pointer (some ⟨g,0,none⟩)] W fun e w'=>e=.returned (.int .i64 (M:Int))∧Below W.heap.size W w'):=fun W z=>by
    have:=edges_p g l b root (lone:Int) W (HG9.out.below z)
    rwa [show l.length / 2=M by have:=HNM.out;omega] at this
   have EPa:=Lib.hid (EP.out wa Ba.out)
   have t2:2*(M:Int)=(N:Int):=by have:=HNM.out.2;omega
   have t4:4*(M:Int)=(M4:Int):=by have:=HM4'.out;omega
   have wN':IntKind.i64.wrap (N:Int)=(N:Int):=by simp [IntKind.wrap,IntKind.signed,IntKind.bits];omega
   have w4':IntKind.i64.wrap (M4:Int)=(M4:Int):=by simp [IntKind.wrap,IntKind.signed,IntKind.bits];omega
   clear LN RTa
   go_wp2_with fail
   refine HLN.out.mono ?_
   rintro e wb ⟨rfl,rfl⟩
   go_wp2_with fail
   refine EPa.out.mono ?_
   rintro e wb ⟨rfl,bb⟩
   have Bb:=Lib.hid (Ba.out.trans (bb.mono Ba.out.size))
   have EPb:=Lib.hid (EP.out wb Bb.out)
   clear bb EPa EP HLN
   go_wp2_with fail
   refine EPb.out.mono ?_
   rintro e wd ⟨rfl,bd⟩
   have Bd:=Lib.hid (Bb.out.trans (bd.mono Bb.out.size))
   have BI:=Lib.hid (mbits_p _ gw ks wd (W9.out.below Bd.out) (by have:=HKS.out.2;omega))
   clear bd EPb
   go_wp2_with fail
   refine BI.out.mono ?_
   rintro e we ⟨gv,Av,rfl,hv,bev,_⟩
   have Be:=Lib.hid (Bd.out.trans (bev.mono Bd.out.size))
   have hwl:(wbits ks).length=M4:=by rw [wbits_len,HKS.out.2,HNM.out.2,HM4'.out];omega
   have BL:=blen_p gv _ _ Av we hv
   rw [hwl] at BL
   have HBL:=Lib.hid BL
   have hds:=dsame_p g8 g9 l8 b8 (cjL P Q l) (cjL P Q b) (rootW ks.length) (loneW ks.length) (reRoot P root) (lone:Int) we (HD9.out.below Be.out) (HM9.out.below Be.out)
   rw [decide_eq_true (show _∧_∧_ from ⟨HSM.out.2.1,HSM.out.2.2,HSM.out.1⟩)] at hds
   have HDS:=Lib.hid hds
   clear hv bev hwl BL hds BI
   go_wp2_with fail
   refine HBL.out.mono ?_
   rintro e wf ⟨rfl,rfl⟩
   go_wp2_with fail
   refine HDS.out.mono ?_
   rintro e wg ⟨rfl,bg⟩
   have Bg:=Lib.hid (Be.out.trans (bg.mono Be.out.size))
   clear bg
   go_wp2_with fail
   go_ret
   exact ⟨rfl,BW.out.trans ((B9.out.trans (Bg.out.mono B9.out.size)).mono BW.out.size)⟩
  ·obtain ⟨pv0,hpw⟩:∃ _:pv=none,True:=by
    rcases HPV.out with ⟨_,q⟩ | ⟨q,_⟩
    ·exact ⟨q,trivial⟩
    ·exact absurd q h0
   have hvb:=HVB.out
   rw [if_neg h0] at hvb
   rcases h7 with ⟨_,rfl,b7⟩ | ⟨q,_⟩
   rotate_left
   ·exact absurd q h0
   have B7:=Lib.hid (B6.out.trans (b7.mono B6.out.size))
   have e1:(E == 0)=false:=by simp;exact h0
   have e2:(E != 0)=true:=by simp;exact h0
   subst hvb
   subst pv0
   clear b7 hE3 x0 x1 x2 RE6 hpw
   go_wp2_with fail
   go_ret
   exact ⟨rfl,BW.out.trans (B7.out.mono BW.out.size)⟩
end Go.Proofs.YtajjgpkahljjmaaGreatDoor
