/- TuranCounts: there are just as many right words of so many letters as rooted planar maps of half as many edges, by Tutte's count. -/
import Derived.Test.YtijbdnhlpbcabaaGreatDoorZg31
import Derived.Test.YtijbdnhlpbcabaaGreatDoorZg35
open Go.RowKit
set_option linter.unusedVariables false
set_option linter.unusedSimpArgs false
namespace Go.Proofs.YtijbdnhlpbcabaaGreatDoor
set_option maxRecDepth 20000
def tutN (n:Nat):Nat:=[1,2,9,54].getD n 0
theorem rtutte_p (n:Nat) (w:World) (hn:n < 4):Calls Tryz.prog 39 #[.int .i64 (n:Int)] w fun e w'=>e=.returned (.int .i64 ((tutN n:Nat):Int))∧w=w':=by
 go_enter Tryz.func39,Tryz.ntmps39
 go_wp2_with fail
 go_loopw [3,4] (fun v3 v4 wr=>∃ (k:Nat) (t:Int),k≤n∧v4=.int .i64 (k:Int)∧v3=.int .i64 t∧Hid (t=((tutN k:Nat):Int))∧wr=w) (fun _ v4 _=>n - (intOf v4).toNat)
 case atStart=>exact ⟨0,1,by omega,rfl,rfl,rfl,rfl⟩
 case round =>
  obtain ⟨k,t,hk,rfl,rfl,HT,rfl⟩:=hrel
  by_cases hlt:k < n
  ·have hdk:decide (k < n)=true:=decide_eq_true hlt
   have hlti:(k:Int) < (n:Int):=by omega
   have h3:k=0∨k=1∨k=2:=by omega
   rcases h3 with rfl | rfl | rfl
   ·obtain rfl:t=1:=HT.out
    clear HT
    go_wp2_with fail
    go_roundw
    case rel=>exact ⟨1,2,by omega,by first | rfl | simp,by first | rfl | (congr 1) | simp,by first | rfl | exact (rfl:(2:Int)=((tutN 1:Nat):Int)),by first | rfl | trivial⟩
    case measure=>simp [intOf];omega
   ·obtain rfl:t=2:=HT.out
    clear HT
    go_wp2_with fail
    go_roundw
    case rel=>exact ⟨2,9,by omega,by first | rfl | simp,by first | rfl | (congr 1) | simp,by first | rfl | exact (rfl:(9:Int)=((tutN 2:Nat):Int)),by first | rfl | trivial⟩
    case measure=>simp [intOf];omega
   ·obtain rfl:t=9:=HT.out
    clear HT
    go_wp2_with fail
    go_roundw
    case rel=>exact ⟨3,54,by omega,by first | rfl | simp,by first | rfl | (congr 1) | simp,by first | rfl | exact (rfl:(54:Int)=((tutN 3:Nat):Int)),by first | rfl | trivial⟩
    case measure=>simp [intOf];omega
  ·obtain rfl:k=n:=by omega
   have hdk:decide (k < k)=false:=by simp
   go_wp2_with fail
   go_ret
   exact ⟨by show Ending.returned (Value.int .i64 t)=_;rw [HT.out],rfl⟩
theorem tut_cnt {k:Nat} (hk:k < 4):cntB (2*k) (4 ^ (2*k))=tutN k:=by
 obtain ⟨a,b,c,d⟩:=cntB_all
 have:k=0∨k=1∨k=2∨k=3:=by omega
 rcases this with rfl | rfl | rfl | rfl
 ·exact a
 ·exact b
 ·exact c
 ·exact d
set_option maxHeartbeats 16000000 in
theorem turanCounts_walk (n f:Nat) (w:World) (hT:MTabs w) (hn:n < 256) (hf:f < 65536) :
  Calls Tryz.prog 6 #[.int .u8 (n:Int),.int .u16 (f:Int)] w fun e w'=>e=.returned (.bool true)∧Below w.heap.size w w':=by
 have AW:=Lib.hid (tawake_p w hT)
 have HT:=Lib.hid hT
 obtain ⟨k,hk⟩:∃ k,k=n%4:=⟨_,rfl⟩
 have hk4:k < 4:=by omega
 have hk1:(n:Int)%4=(k:Int):=by omega
 have hk2:(n:Int).tmod 4=(k:Int):=by rw [Int.tmod_eq_emod_of_nonneg (by omega)];exact hk1
 have wk:IntKind.u8.wrap (k:Int)=(k:Int):=by simp [IntKind.wrap,IntKind.signed,IntKind.bits];omega
 have wk2:IntKind.i64.wrap (k:Int)=(k:Int):=by simp [IntKind.wrap,IntKind.signed,IntKind.bits];omega
 obtain ⟨M,hM⟩:∃ M,M=2*k:=⟨_,rfl⟩
 have hM2:2*(k:Int)=(M:Int):=by omega
 have hM6:M≤6:=by omega
 have wM:IntKind.i64.wrap (M:Int)=(M:Int):=by simp [IntKind.wrap,IntKind.signed,IntKind.bits];omega
 have HM:=Lib.hid hM
 clear hk hT hM
 go_enter Tryz.func6,Tryz.ntmps6
 go_wp2_with fail
 refine AW.out.mono ?_
 rintro e w1 ⟨rfl,b1⟩
 have B1:=Lib.hid b1
 clear b1 AW
 go_wp2_with fail
 go_loopw [6,18] (fun v6 v18 wr=>∃ i p:Nat,i≤M∧v18=.int .i64 (i:Int)∧v6=.int .i64 (p:Int)∧Hid (p=4 ^ i)∧Hid (wr=w1)) (fun _ v _=>M - (intOf v).toNat)
 case atStart=>exact ⟨0,1,by omega,rfl,rfl,rfl,rfl⟩
 case round =>
  obtain ⟨i,p,hi,rfl,rfl,HP,HWE⟩:=hrel
  obtain rfl:w1=wr:=HWE.out.symm
  have pw:∀ i:Nat,i≤6→4 ^ i≤4096:=fun i hi=>Nat.le_trans (Nat.pow_le_pow_right (by decide) hi) (by decide)
  by_cases hlt:i < M
  ·have hdk:decide (i < M)=true:=decide_eq_true hlt
   have hlti:(i:Int) < (M:Int):=by omega
   obtain ⟨p1,hp1⟩:∃ p1,p1=p*4:=⟨_,rfl⟩
   have hpI:(p:Int)*4=(p1:Int):=by omega
   have hp1e:p1=4 ^ (i+1):=by rw [hp1,HP.out,Nat.pow_succ]
   have hp1b:p1≤4096:=by rw [hp1e];exact pw _ (by omega)
   have wp1:IntKind.i64.wrap (p1:Int)=(p1:Int):=by simp [IntKind.wrap,IntKind.signed,IntKind.bits];omega
   have wi:IntKind.i64.wrap ((i:Int)+1)=(i:Int)+1:=by simp [IntKind.wrap,IntKind.signed,IntKind.bits];omega
   have HP1:Hid (p1=4 ^ (i+1)):=hp1e
   clear hp1 hp1e pw HP
   go_wp2_with fail
   go_roundw
   case rel=>exact ⟨i+1,p1,by omega,by go_num,rfl,HP1,by first | exact True.intro | rfl⟩
   case measure=>simp [intOf];omega
  ·obtain rfl:i=M:=by omega
   have hdk:decide (i < i)=false:=by simp
   obtain ⟨N,hN⟩:∃ N,N=p:=⟨_,rfl⟩
   rw [← hN] at HP
   have hNb:N≤4096:=by rw [HP.out];exact pw _ hM6
   have hN0:0 < N:=by rw [HP.out];exact Nat.pow_pos (by decide)
   have wf1:IntKind.i64.wrap (f:Int)=(f:Int):=by simp [IntKind.wrap,IntKind.signed,IntKind.bits];omega
   have wf2:IntKind.u16.wrap (f:Int)=(f:Int):=by simp [IntKind.wrap,IntKind.signed,IntKind.bits];omega
   have h0n:¬ (N:Int)=0:=by omega
   have h0b:((N:Int) == 0)=false:=by simp;omega
   rw [← hN]
   clear hN pw
   go_wp2_with fail
   go_loopw [7,8,9,10,24] (fun v7 v8 v9 v10 v24 wr=>∃ j q:Nat,j≤N∧v24=.int .i64 (j:Int)∧v7=.int .i64 (q:Int)∧Hid (q=num (fun x=>okB i ((x+f)%N)=true) j)∧Hid (Below w1.heap.size w1 wr)) (fun _ _ _ _ v _=>N - (intOf v).toNat)
   case atStart=>exact ⟨0,0,by omega,rfl,rfl,rfl,Below.refl _ _⟩
   case round =>
    obtain ⟨j,q,hj,rfl,rfl,HQ,HB⟩:=hrel
    by_cases hjl:j < N
    ·have hdj:decide (j < N)=true:=decide_eq_true hjl
     have hjI:(j:Int) < (N:Int):=by omega
     obtain ⟨X,hX⟩:∃ X,X=(j+f)%N:=⟨_,rfl⟩
     obtain ⟨s,hs⟩:∃ s,s=j+f:=⟨_,rfl⟩
     have hsI:(j:Int)+(f:Int)=(s:Int):=by omega
     have ws:IntKind.i64.wrap (s:Int)=(s:Int):=by simp [IntKind.wrap,IntKind.signed,IntKind.bits];omega
     have hX1:(s:Int)%(N:Int)=(X:Int):=by rw [hX,hs];rfl
     have hX2:(s:Int).tmod (N:Int)=(X:Int):=by rw [Int.tmod_eq_emod_of_nonneg (by omega)];exact hX1
     have hXb:X < 4096:=by have:X < N:=by rw [hX];exact Nat.mod_lt _ hN0
                           omega
     have wX:IntKind.i64.wrap (X:Int)=(X:Int):=by simp [IntKind.wrap,IntKind.signed,IntKind.bits];omega
     have wj:IntKind.i64.wrap ((j:Int)+1)=(j:Int)+1:=by simp [IntKind.wrap,IntKind.signed,IntKind.bits];omega
     have hqb:q≤N:=by rw [HQ.out];have:=num_le (fun x=>okB i ((x+f)%N)=true) j;omega
     have HX:=Lib.hid hX
     obtain ⟨wo,hwo⟩:∃ wo:World,wo=wr:=⟨_,rfl⟩
     rw [← hwo] at HB ⊢
     clear hX hs hwo
     go_wp2_with fail
     go_loopw [9,10] (fun v9 v10 wz=>∃ (t:Nat) (y:Nat) (A:Option Addr) (c:Nat),t≤i∧v9=.slice A t c∧v10=.int .i64 (y:Int)∧Hid (y=X / 4 ^ t)∧y≤4096∧Hid (wz.ownsRow wo.heap.size 3 1 (.slice A t c) t (I64 (ofN (dig4 X t))))∧Hid (Below wo.heap.size wo wz)) (fun v _ _=>i - (match v with | .slice _ t _=>t | _=>0))
     case atStart=>exact ⟨0,X,none,0,by omega,rfl,rfl,by show _=_;simp,by omega,World.ownsRow_nil _ _ _ _,Below.refl _ _⟩
     case round =>
      obtain ⟨wz,rfl⟩:∃ wz:World,wz=wr:=⟨_,rfl⟩
      obtain ⟨t,y,A,c,ht,rfl,rfl,HY,hyb,HO,HZ⟩:=hrel
      by_cases htl:t < i
      ·have hdt:decide (t < i)=true:=decide_eq_true htl
       have htI:(t:Int) < (i:Int):=by omega
       obtain ⟨d,hd⟩:∃ d,d=y%4:=⟨_,rfl⟩
       obtain ⟨y2,hy2⟩:∃ y2,y2=y / 4:=⟨_,rfl⟩
       have d1:(y:Int)%4=(d:Int):=by omega
       have d2:(y:Int).tmod 4=(d:Int):=by rw [Int.tmod_eq_emod_of_nonneg (by omega)];exact d1
       have e1:(y:Int) / 4=(y2:Int):=by omega
       have e2:(y:Int).tdiv 4=(y2:Int):=by rw [Int.tdiv_eq_ediv_of_nonneg (by omega)];exact e1
       have wd:IntKind.i64.wrap (d:Int)=(d:Int):=by simp [IntKind.wrap,IntKind.signed,IntKind.bits];omega
       have wy:IntKind.i64.wrap (y2:Int)=(y2:Int):=by simp [IntKind.wrap,IntKind.signed,IntKind.bits];omega
       have hdg:dig4 X (t+1)=dig4 X t++[d]:=by show dig4 X t++[X / 4 ^ t%4]=_;rw [hd,HY.out]
       have HY2:Hid (y2=X / 4 ^ (t+1)):=by show _=_;rw [hy2,HY.out,Nat.div_div_eq_div_mul,Nat.pow_succ]
       have al:=(Below.refl wz.heap.size wz).alloc (Nat.le_refl _) (.cells #[.int .i64 (d:Int)] 3)
       have r1:Rd (wz.alloc (.cells #[.int .i64 (d:Int)] 3)) (wz.heap.size+1) (some ⟨wz.heap.size,0,none⟩) 1 (I64 (ofN [d])):=Rd.new wz 3 #[.int .i64 (d:Int)] 1 (I64 (ofN [d])) rfl rfl
       obtain ⟨A2,c2,w2,hrun,ho2,b2⟩:=app_row wo.heap.size (wz.alloc (.cells #[.int .i64 (d:Int)] 3)) (dig4 X t) [d] A t c (dig4_len X t) (own_below HO.out al) _ (some ⟨wz.heap.size,0,none⟩) 1 1 rfl r1 (by omega) (Nat.le_trans HZ.out.size al.size)
       rw [← hdg] at ho2
       have HO2:=Lib.hid ho2
       have HZ2:Hid (Below wo.heap.size wo w2):=(HZ.out.trans (al.mono HZ.out.size)).trans b2
       have hy2b:y2≤4096:=by omega
       clear hd hy2 hdg al r1 ho2 b2 HO HZ HY
       go_wp2_with (first
        | (at_builtin;go_must (refine wpList_append_runR rfl _ _ _ rfl _ _ _ _ rfl rfl hrun ?_)))
       go_roundw
       case rel=>exact ⟨t+1,y2,A2,c2,by omega,rfl,rfl,HY2,hy2b,HO2,HZ2⟩
       case measure=>show i - (t+1) < i - t;omega
      ·obtain rfl:t=i:=by omega
       have hdt:decide (t < t)=false:=by simp
       have hkd:=dig4_kd X t
       have OF:=Lib.hid (ofw_p A t c (dig4 X t) wz (Rd.ofOwn HO.out) hkd (own_int HO.out) (by omega))
       have ZZ:Hid (Below w1.heap.size w1 wz):=HB.out.trans (HZ.out.mono HB.out.size)
       clear HO HY hkd
       go_wp2_with fail
       refine OF.out.mono ?_
       rintro e w3 ⟨g3,rfl,hw3,b3⟩
       have Z3:=Lib.hid (ZZ.out.trans (b3.mono ZZ.out.size))
       have CK:=Lib.hid (tcheck_p (some ⟨g3,0,none⟩) (dig4 X t) w3 (dig4_kd X t) (HT.out.below (B1.out.trans (Z3.out.mono B1.out.size))) (tells_word _ g3 _ w3 hw3 (by rw [dig4_len];omega)) t (dig4_len X t) (by omega))
       clear hw3 b3 OF ZZ
       go_wp2_with fail
       refine CK.out.mono ?_
       rintro e w4 ⟨E,hE,rfl,b4⟩
       have Z4:=Lib.hid (Z3.out.trans (b4.mono Z3.out.size))
       have HOK:Hid (okB t X=true↔E=0):=by
        show _↔_
        unfold okB
        rw [rB_iff (dig4_kd X t)]
        exact ⟨fun h=>hE.uniq h,fun h=>by rw [← h];exact hE⟩
       have hnx:=num_next (fun x=>okB t ((x+f)%N)=true) j
       rw [← HX.out,← HQ.out] at hnx
       clear b4 CK Z3 hE
       by_cases hE0:E=0
       ·have HQ1:Hid (q+1=num (fun x=>okB t ((x+f)%N)=true) (j+1)):=(hnx.1 (HOK.out.2 hE0)).symm
        have wq:IntKind.i64.wrap ((q:Int)+1)=(q:Int)+1:=by simp [IntKind.wrap,IntKind.signed,IntKind.bits];omega
        subst hE0
        clear hnx HQ
        go_wp2_with fail
        go_roundw
        case rel=>exact ⟨j+1,q+1,by omega,by go_num,by go_num,HQ1,Z4⟩
        case measure=>simp [intOf];omega
       ·have HQ1:Hid (q=num (fun x=>okB t ((x+f)%N)=true) (j+1)):=(hnx.2 (fun c=>hE0 (HOK.out.1 c))).symm
        have eE:(E == 0)=false:=by simp;exact hE0
        clear hnx HQ
        go_wp2_with fail
        go_roundw
        case rel=>exact ⟨j+1,q,by omega,by go_num,by go_num,HQ1,Z4⟩
        case measure=>simp [intOf];omega
    ·obtain rfl:j=N:=by omega
     have hdj:decide (j < j)=false:=by simp
     have hq:q=tutN k:=by
      rw [HQ.out,num_shift (fun x=>okB i x=true) f hN0,← cntB_num,HP.out,HM.out,tut_cnt hk4]
     have TU:=Lib.hid (rtutte_p k wr hk4)
     have FB:Hid (Below w.heap.size w wr):=B1.out.trans (HB.out.mono B1.out.size)
     rw [← hq] at TU
     clear hq HQ HB
     go_wp2_with fail
     refine TU.out.mono ?_
     rintro e w5 ⟨rfl,rfl⟩
     go_wp2_with fail
     go_ret
     exact ⟨by first | rfl | simp,FB.out⟩
end Go.Proofs.YtijbdnhlpbcabaaGreatDoor
