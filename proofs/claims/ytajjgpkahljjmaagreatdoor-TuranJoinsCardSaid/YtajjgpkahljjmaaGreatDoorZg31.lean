/- The document's words of numbers, balanced in both sorts. -/
import Derived.Test.YtajjgpkahljjmaaGreatDoorZg14
import Derived.Test.YtajjgpkahljjmaaGreatDoorZg6
import Derived.Test.YtajjgpkahljjmaaGreatDoorZg30
import Derived.BigQuiet
import Derived.Test.YtajjgpkahljjmaaGreatDoorZg3
import Derived.Test.YtajjgpkahljjmaaGreatDoorZg17
open Go.RowKit
set_option linter.unusedVariables false
namespace Go.Proofs.YtajjgpkahljjmaaGreatDoor
set_option maxRecDepth 20000
def Any4P (w:World) (N:Nat) (e:Ending) (w':World):Prop :=
 ∃ l A c,Sof4 l N 0 0∧e=.returned (.slice A N c)∧N≤c∧c≤maxLen∧w'.ownsRow w.heap.size 3 1 (.slice A N c) N (I64 (ofNB l))∧Below w.heap.size w w'
set_option maxHeartbeats 16000000 in
theorem any4_p (A0:Option Addr) (n0 c0 P:Nat) (bs:List Nat) (w:World) (h0:Rd w w.heap.size A0 n0 (U8 bs)) (hbs:∀ b∈bs,b < 256) (hn0:n0≤9223372036854775807) (hP:P≤3000) :
  Calls Tryz.prog 25 #[.int .i64 (P:Int),.slice A0 n0 c0] w (Any4P w (2*P)):=by
 obtain ⟨i0,hi0,hz0,hz1,hz2⟩:=info_parts info_int
 have H0:=Lib.hid h0
 have HBS:=Lib.hid hbs
 clear h0 hbs
 go_enter Tryz.func25,Tryz.ntmps25
 go_wp2_with fail
 go_loopw [5,6,7,8] (fun z o p i wr=>∃ (N r e c:Nat) (l:List Nat) (A:Option Addr),i=.int .i64 (N:Int)∧o=.int .i64 (r:Int)∧p=.int .i64 (e:Int)∧z=.slice A N c∧N≤2*P∧r+e≤2*P - N∧(2*P - N - (r+e))%2=0∧Hid (Sof4 l N r e)∧Hid (wr.ownsRow w.heap.size 3 1 (.slice A N c) N (I64 (ofNB l)))∧Hid (Below w.heap.size w wr)) (fun _ _ _ i _=>2*P - (intOf i).toNat)
 case atStart=>exact ⟨0,0,0,0,[],none,rfl,rfl,rfl,rfl,by omega,by omega,by omega,Sof4.nil,World.ownsRow_nil _ _ _ _,Below.refl _ _⟩
 case round =>
  obtain ⟨N,r,e,c,l,A,rfl,rfl,rfl,rfl,hN,hop,hpar,hs,hown,hbel⟩:=hrel
  by_cases hlt:N < 2*P
  ·have hltI:(N:Int) < 2*(P:Int):=by omega
   have hleft:2*(P:Int) - (N:Int)=((2*P - N:Nat):Int):=by omega
   obtain ⟨L,hL⟩:∃ L,L=2*P - N:=⟨_,rfl⟩
   rw [← hL] at hleft hop hpar
   have HLL:=Lib.hid hL
   have hL1:1≤L:=by omega
   have hL9:L≤6000:=by omega
   obtain ⟨t,ht⟩:∃ t,t=r+e:=⟨_,rfl⟩
   have htI:(r:Int)+(e:Int)=(t:Int):=by omega
   have ht9:t≤6000:=by omega
   have HTT:=Lib.hid ht
   rw [← ht] at hop hpar
   have hr9:r≤6000:=by omega
   have he9:e≤6000:=by omega
   have HOP:=Lib.hid hop
   have HPAR:=Lib.hid hpar
   clear hL ht hop hpar
   by_cases hn:0 < n0
   ·obtain ⟨b',o,e',hbw,k1⟩:∃ b o,A0=some ⟨b,o,none⟩∧b < w.heap.size∧∀ k,k < n0→wr.cell? ⟨b,o+k,none⟩=some (.int .u8 ((bs.getD k 0:Nat):Int)):=by
     obtain ⟨b,o,e,hb,hc⟩:=(H0.out.below hbel.out).at_ hn
     refine ⟨b,o,e,hb,fun k hk=>?_⟩
     have hl:bs.length=n0:=by have:=H0.out.len;simpa [U8] using this
     have:=hc k (by simp [U8];omega)
     rw [this]
     simp [U8,List.getD_eq_getElem?_getD,List.getElem?_eq_getElem (show k < bs.length by omega)]
    subst e'
    obtain ⟨rr,hr,hrn⟩:∃ rr:Nat,(N:Int).tmod (n0:Int)=(rr:Int)∧rr < n0:=⟨N%n0,by rw [Int.tmod_eq_emod_of_nonneg (by omega)];exact (Int.natCast_emod N n0).symm,Nat.mod_lt _ hn⟩
    obtain ⟨d,hd⟩:∃ d:Nat,(N:Int).tdiv (n0:Int)=(d:Int)∧d≤10000:=⟨N / n0,by rw [Int.tdiv_eq_ediv_of_nonneg (by omega)];exact (Int.natCast_ediv N n0).symm,by have:=Nat.div_le_self N n0;omega⟩
    obtain ⟨f,hf,hf3⟩:∃ f:Nat,(d:Int).tmod 5=(f:Int)∧f < 5:=⟨d%5,by rw [Int.tmod_eq_emod_of_nonneg (by omega)];omega,by omega⟩
    have t1:=k1 rr hrn
    have hx9:bs.getD rr 0 < 256:=by
     rw [List.getD_eq_getElem?_getD]
     cases hq:bs[rr]? with
     | none=>simp
     | some v=>simp;exact HBS.out v (List.mem_of_getElem? hq)
    generalize bs.getD rr 0=x at *
    obtain ⟨q,hq,hq9⟩:∃ q:Nat,(x:Int).tdiv (1+(f:Int))=(q:Int)∧q < 256:=⟨x / (1+f),by rw [Int.tdiv_eq_ediv_of_nonneg (by omega),show (1:Int)+(f:Int)=((1+f:Nat):Int) by omega];exact (Int.natCast_ediv x (1+f)).symm,by have:=Nat.div_le_self x (1+f);omega⟩
    have w1:IntKind.i64.wrap (rr:Int)=(rr:Int):=by rw [IntKind.wrap_i64];omega
    have w2:IntKind.i64.wrap (d:Int)=(d:Int):=by rw [IntKind.wrap_i64];omega
    have w3:IntKind.i64.wrap (f:Int)=(f:Int):=by rw [IntKind.wrap_i64];omega
    have w4:IntKind.i64.wrap (1+(f:Int))=1+(f:Int):=by rw [IntKind.wrap_i64];omega
    have w5:IntKind.u8.wrap (1+(f:Int))=1+(f:Int):=by simp [IntKind.wrap,IntKind.signed,IntKind.bits];omega
    have w6:IntKind.u8.wrap (q:Int)=(q:Int):=by simp [IntKind.wrap,IntKind.signed,IntKind.bits];omega
    have hrI:(rr:Int) < (n0:Int):=by omega
    have hnz:(n0:Int)≠0:=by omega
    have hfz:(1:Int)+(f:Int)≠0:=by omega
    have hnzb:((n0:Int) == 0)=false:=by rw [beq_eq_false_iff_ne];omega
    have hfzb:((1:Int)+(f:Int) == 0)=false:=by rw [beq_eq_false_iff_ne];omega
    have hd1:=hd.1
    clear k1
    go_wp2_with fail
    go_quiet (fail)
    have OX:Hid ((wr.drewN nq).ownsRow w.heap.size 3 1 (.slice A N c) N (I64 (ofNB l))):=own_below hown.out (below_draws (Below.refl _ _) nq)
    have BX:Hid (Below w.heap.size w (wr.drewN nq)):=below_draws hbel.out nq
    generalize wr.drewN nq=wx at *
    clear w1 w2 w3 w4 w5 w6 hr hd hd1 hf hq hrI hnz hfz hnzb hfzb t1
    obtain ⟨q2,hq2⟩:∃ q2,q2=q / 2:=⟨_,rfl⟩
    obtain ⟨q4,hq4⟩:∃ q4,q4=q / 4:=⟨_,rfl⟩
    have a2:(q:Int).tdiv 2=(q2:Int):=by rw [Int.tdiv_eq_ediv_of_nonneg (by omega)];omega
    have a2':(q:Int) / 2=(q2:Int):=by omega
    have a4:(q:Int).tdiv 4=(q4:Int):=by rw [Int.tdiv_eq_ediv_of_nonneg (by omega)];omega
    have a4':(q:Int) / 4=(q4:Int):=by omega
    have u2:IntKind.u8.wrap (q2:Int)=(q2:Int):=by simp [IntKind.wrap,IntKind.signed,IntKind.bits];omega
    have u4:IntKind.u8.wrap (q4:Int)=(q4:Int):=by simp [IntKind.wrap,IntKind.signed,IntKind.bits];omega
    have q29:q2 < 256:=by omega
    have q49:q4 < 256:=by omega
    clear hq2 hq4
    by_cases ht0:t=0
    ·subst ht0
     obtain ⟨rfl,rfl⟩:r=0∧e=0:=by have:=HTT.out;omega
     rcases (by omega:q%2=0∨q%2=1) with hm | hm
     ·have mq:(q:Int).tmod 2=0:=by rw [Int.tmod_eq_emod_of_nonneg (by omega)];omega
      have mq':(q:Int)%2=0:=by omega
      clear hm
      rcases (by omega:q2%2=0∨q2%2=1) with hm | hm
      ·have mq2:(q2:Int).tmod 2=0:=by rw [Int.tmod_eq_emod_of_nonneg (by omega)];omega
       have mq2':(q2:Int)%2=0:=by omega
       clear hm
       have bA:=(Below.refl wx.heap.size wx).alloc (Nat.le_refl _) (.cells #[.int .i64 0] 3)
       have ownA:=own_below OX.out bA
       have rA:=Rd.new wx 3 #[.int .i64 0] 1 (I64 [0]) (by simp [I64]) (by simp)
       have e1:N+1≤maxLen:=by simp only [maxLen];omega
       have e2:(N+1)*8≤140737488355328:=by omega
       have e3:w.heap.size≤(wx.alloc (.cells #[.int .i64 0] 3)).heap.size:=by have:=BX.out.size;simp;omega
       go_wp2_with (first
        | (at_builtin;go_must (refine wpList_append_rd _ rfl _ _ 25 rfl w.heap.size 3 i0 (.int .i64 0) 8 Tryz.underlying25 hi0 hz0 hz1 hz2 rfl (.slice A N c) N (I64 (ofNB l)) rfl ownA (wx.heap.size+1) (some ⟨wx.heap.size,0,none⟩) 1 1 (I64 [0]) rfl rA (I64_one _) e1 e2 e3 ?_)))
       intro A7 c7 w7 hc7 hm7 hown7 hg7 _
       have O7:Hid (w7.ownsRow w.heap.size 3 1 (.slice A7 (N+1) c7) (N+1) (I64 (ofNB (l++[0])))):=by
        have:=hown7
        rw [← I64_append] at this
        rw [ofN_appendB]
        exact this
       have B7:Hid (Below w.heap.size w w7):=(BX.out.trans (bA.mono BX.out.size)).trans (Below.appended ownA hg7 e3)
       have S7:=Lib.hid (hs.out.add0)
       have F7:Hid (0+1+(0)≤2*P - (N+1)∧(2*P - (N+1) - (0+1+(0)))%2=0):=by
        have h1:=HLL.out
        have h2:=HTT.out
        have h3:=HOP.out
        have h4:=HPAR.out
        exact ⟨by omega,by omega⟩
       clear bA ownA rA e1 e2 e3 hown7 hg7
       go_wp2_with fail
       go_roundw
       case rel=>exact ⟨N+1,0+1,0,c7,_,A7,by go_num,congrArg (Value.int .i64) (by omega),congrArg (Value.int .i64) (by omega),rfl,by omega,F7.out.1,F7.out.2,S7,O7,B7⟩
       case measure=>simp [intOf];omega
      ·have mq2:(q2:Int).tmod 2=1:=by rw [Int.tmod_eq_emod_of_nonneg (by omega)];omega
       have mq2':(q2:Int)%2=1:=by omega
       clear hm
       have bA:=(Below.refl wx.heap.size wx).alloc (Nat.le_refl _) (.cells #[.int .i64 2] 3)
       have ownA:=own_below OX.out bA
       have rA:=Rd.new wx 3 #[.int .i64 2] 1 (I64 [2]) (by simp [I64]) (by simp)
       have e1:N+1≤maxLen:=by simp only [maxLen];omega
       have e2:(N+1)*8≤140737488355328:=by omega
       have e3:w.heap.size≤(wx.alloc (.cells #[.int .i64 2] 3)).heap.size:=by have:=BX.out.size;simp;omega
       go_wp2_with (first
        | (at_builtin;go_must (refine wpList_append_rd _ rfl _ _ 25 rfl w.heap.size 3 i0 (.int .i64 0) 8 Tryz.underlying25 hi0 hz0 hz1 hz2 rfl (.slice A N c) N (I64 (ofNB l)) rfl ownA (wx.heap.size+1) (some ⟨wx.heap.size,0,none⟩) 1 1 (I64 [2]) rfl rA (I64_one _) e1 e2 e3 ?_)))
       intro A7 c7 w7 hc7 hm7 hown7 hg7 _
       have O7:Hid (w7.ownsRow w.heap.size 3 1 (.slice A7 (N+1) c7) (N+1) (I64 (ofNB (l++[2])))):=by
        have:=hown7
        rw [← I64_append] at this
        rw [ofN_appendB]
        exact this
       have B7:Hid (Below w.heap.size w w7):=(BX.out.trans (bA.mono BX.out.size)).trans (Below.appended ownA hg7 e3)
       have S7:=Lib.hid (hs.out.add2)
       have F7:Hid (0+(0+1)≤2*P - (N+1)∧(2*P - (N+1) - (0+(0+1)))%2=0):=by
        have h1:=HLL.out
        have h2:=HTT.out
        have h3:=HOP.out
        have h4:=HPAR.out
        exact ⟨by omega,by omega⟩
       clear bA ownA rA e1 e2 e3 hown7 hg7
       go_wp2_with fail
       go_roundw
       case rel=>exact ⟨N+1,0,0+1,c7,_,A7,by go_num,congrArg (Value.int .i64) (by omega),congrArg (Value.int .i64) (by omega),rfl,by omega,F7.out.1,F7.out.2,S7,O7,B7⟩
       case measure=>simp [intOf];omega
     ·have mq:(q:Int).tmod 2=1:=by rw [Int.tmod_eq_emod_of_nonneg (by omega)];omega
      have mq':(q:Int)%2=1:=by omega
      clear hm
      rcases (by omega:q2%2=0∨q2%2=1) with hm | hm
      ·have mq2:(q2:Int).tmod 2=0:=by rw [Int.tmod_eq_emod_of_nonneg (by omega)];omega
       have mq2':(q2:Int)%2=0:=by omega
       clear hm
       have bA:=(Below.refl wx.heap.size wx).alloc (Nat.le_refl _) (.cells #[.int .i64 0] 3)
       have ownA:=own_below OX.out bA
       have rA:=Rd.new wx 3 #[.int .i64 0] 1 (I64 [0]) (by simp [I64]) (by simp)
       have e1:N+1≤maxLen:=by simp only [maxLen];omega
       have e2:(N+1)*8≤140737488355328:=by omega
       have e3:w.heap.size≤(wx.alloc (.cells #[.int .i64 0] 3)).heap.size:=by have:=BX.out.size;simp;omega
       go_wp2_with (first
        | (at_builtin;go_must (refine wpList_append_rd _ rfl _ _ 25 rfl w.heap.size 3 i0 (.int .i64 0) 8 Tryz.underlying25 hi0 hz0 hz1 hz2 rfl (.slice A N c) N (I64 (ofNB l)) rfl ownA (wx.heap.size+1) (some ⟨wx.heap.size,0,none⟩) 1 1 (I64 [0]) rfl rA (I64_one _) e1 e2 e3 ?_)))
       intro A7 c7 w7 hc7 hm7 hown7 hg7 _
       have O7:Hid (w7.ownsRow w.heap.size 3 1 (.slice A7 (N+1) c7) (N+1) (I64 (ofNB (l++[0])))):=by
        have:=hown7
        rw [← I64_append] at this
        rw [ofN_appendB]
        exact this
       have B7:Hid (Below w.heap.size w w7):=(BX.out.trans (bA.mono BX.out.size)).trans (Below.appended ownA hg7 e3)
       have S7:=Lib.hid (hs.out.add0)
       have F7:Hid (0+1+(0)≤2*P - (N+1)∧(2*P - (N+1) - (0+1+(0)))%2=0):=by
        have h1:=HLL.out
        have h2:=HTT.out
        have h3:=HOP.out
        have h4:=HPAR.out
        exact ⟨by omega,by omega⟩
       clear bA ownA rA e1 e2 e3 hown7 hg7
       go_wp2_with fail
       go_roundw
       case rel=>exact ⟨N+1,0+1,0,c7,_,A7,by go_num,congrArg (Value.int .i64) (by omega),congrArg (Value.int .i64) (by omega),rfl,by omega,F7.out.1,F7.out.2,S7,O7,B7⟩
       case measure=>simp [intOf];omega
      ·have mq2:(q2:Int).tmod 2=1:=by rw [Int.tmod_eq_emod_of_nonneg (by omega)];omega
       have mq2':(q2:Int)%2=1:=by omega
       clear hm
       have bA:=(Below.refl wx.heap.size wx).alloc (Nat.le_refl _) (.cells #[.int .i64 2] 3)
       have ownA:=own_below OX.out bA
       have rA:=Rd.new wx 3 #[.int .i64 2] 1 (I64 [2]) (by simp [I64]) (by simp)
       have e1:N+1≤maxLen:=by simp only [maxLen];omega
       have e2:(N+1)*8≤140737488355328:=by omega
       have e3:w.heap.size≤(wx.alloc (.cells #[.int .i64 2] 3)).heap.size:=by have:=BX.out.size;simp;omega
       go_wp2_with (first
        | (at_builtin;go_must (refine wpList_append_rd _ rfl _ _ 25 rfl w.heap.size 3 i0 (.int .i64 0) 8 Tryz.underlying25 hi0 hz0 hz1 hz2 rfl (.slice A N c) N (I64 (ofNB l)) rfl ownA (wx.heap.size+1) (some ⟨wx.heap.size,0,none⟩) 1 1 (I64 [2]) rfl rA (I64_one _) e1 e2 e3 ?_)))
       intro A7 c7 w7 hc7 hm7 hown7 hg7 _
       have O7:Hid (w7.ownsRow w.heap.size 3 1 (.slice A7 (N+1) c7) (N+1) (I64 (ofNB (l++[2])))):=by
        have:=hown7
        rw [← I64_append] at this
        rw [ofN_appendB]
        exact this
       have B7:Hid (Below w.heap.size w w7):=(BX.out.trans (bA.mono BX.out.size)).trans (Below.appended ownA hg7 e3)
       have S7:=Lib.hid (hs.out.add2)
       have F7:Hid (0+(0+1)≤2*P - (N+1)∧(2*P - (N+1) - (0+(0+1)))%2=0):=by
        have h1:=HLL.out
        have h2:=HTT.out
        have h3:=HOP.out
        have h4:=HPAR.out
        exact ⟨by omega,by omega⟩
       clear bA ownA rA e1 e2 e3 hown7 hg7
       go_wp2_with fail
       go_roundw
       case rel=>exact ⟨N+1,0,0+1,c7,_,A7,by go_num,congrArg (Value.int .i64) (by omega),congrArg (Value.int .i64) (by omega),rfl,by omega,F7.out.1,F7.out.2,S7,O7,B7⟩
       case measure=>simp [intOf];omega
    ·have ht0b:((t:Int) == 0)=false:=by rw [beq_eq_false_iff_ne];omega
     by_cases hl:t < L
     ·have hlb:decide ((t:Int) < (L:Int))=true:=decide_eq_true (by omega)
      rcases (by omega:q%2=0∨q%2=1) with hm | hm
      ·have mq:(q:Int).tmod 2=0:=by rw [Int.tmod_eq_emod_of_nonneg (by omega)];omega
       have mq':(q:Int)%2=0:=by omega
       clear hm
       rcases (by omega:q2%2=0∨q2%2=1) with hm | hm
       ·have mq2:(q2:Int).tmod 2=0:=by rw [Int.tmod_eq_emod_of_nonneg (by omega)];omega
        have mq2':(q2:Int)%2=0:=by omega
        clear hm
        have bA:=(Below.refl wx.heap.size wx).alloc (Nat.le_refl _) (.cells #[.int .i64 0] 3)
        have ownA:=own_below OX.out bA
        have rA:=Rd.new wx 3 #[.int .i64 0] 1 (I64 [0]) (by simp [I64]) (by simp)
        have e1:N+1≤maxLen:=by simp only [maxLen];omega
        have e2:(N+1)*8≤140737488355328:=by omega
        have e3:w.heap.size≤(wx.alloc (.cells #[.int .i64 0] 3)).heap.size:=by have:=BX.out.size;simp;omega
        go_wp2_with (first
         | (at_builtin;go_must (refine wpList_append_rd _ rfl _ _ 25 rfl w.heap.size 3 i0 (.int .i64 0) 8 Tryz.underlying25 hi0 hz0 hz1 hz2 rfl (.slice A N c) N (I64 (ofNB l)) rfl ownA (wx.heap.size+1) (some ⟨wx.heap.size,0,none⟩) 1 1 (I64 [0]) rfl rA (I64_one _) e1 e2 e3 ?_)))
        intro A7 c7 w7 hc7 hm7 hown7 hg7 _
        have O7:Hid (w7.ownsRow w.heap.size 3 1 (.slice A7 (N+1) c7) (N+1) (I64 (ofNB (l++[0])))):=by
         have:=hown7
         rw [← I64_append] at this
         rw [ofN_appendB]
         exact this
        have B7:Hid (Below w.heap.size w w7):=(BX.out.trans (bA.mono BX.out.size)).trans (Below.appended ownA hg7 e3)
        have S7:=Lib.hid (hs.out.add0)
        have F7:Hid (r+1+(e)≤2*P - (N+1)∧(2*P - (N+1) - (r+1+(e)))%2=0):=by
         have h1:=HLL.out
         have h2:=HTT.out
         have h3:=HOP.out
         have h4:=HPAR.out
         exact ⟨by omega,by omega⟩
        clear bA ownA rA e1 e2 e3 hown7 hg7
        go_wp2_with fail
        go_roundw
        case rel=>exact ⟨N+1,r+1,e,c7,_,A7,by go_num,congrArg (Value.int .i64) (by omega),congrArg (Value.int .i64) (by omega),rfl,by omega,F7.out.1,F7.out.2,S7,O7,B7⟩
        case measure=>simp [intOf];omega
       ·have mq2:(q2:Int).tmod 2=1:=by rw [Int.tmod_eq_emod_of_nonneg (by omega)];omega
        have mq2':(q2:Int)%2=1:=by omega
        clear hm
        have bA:=(Below.refl wx.heap.size wx).alloc (Nat.le_refl _) (.cells #[.int .i64 2] 3)
        have ownA:=own_below OX.out bA
        have rA:=Rd.new wx 3 #[.int .i64 2] 1 (I64 [2]) (by simp [I64]) (by simp)
        have e1:N+1≤maxLen:=by simp only [maxLen];omega
        have e2:(N+1)*8≤140737488355328:=by omega
        have e3:w.heap.size≤(wx.alloc (.cells #[.int .i64 2] 3)).heap.size:=by have:=BX.out.size;simp;omega
        go_wp2_with (first
         | (at_builtin;go_must (refine wpList_append_rd _ rfl _ _ 25 rfl w.heap.size 3 i0 (.int .i64 0) 8 Tryz.underlying25 hi0 hz0 hz1 hz2 rfl (.slice A N c) N (I64 (ofNB l)) rfl ownA (wx.heap.size+1) (some ⟨wx.heap.size,0,none⟩) 1 1 (I64 [2]) rfl rA (I64_one _) e1 e2 e3 ?_)))
        intro A7 c7 w7 hc7 hm7 hown7 hg7 _
        have O7:Hid (w7.ownsRow w.heap.size 3 1 (.slice A7 (N+1) c7) (N+1) (I64 (ofNB (l++[2])))):=by
         have:=hown7
         rw [← I64_append] at this
         rw [ofN_appendB]
         exact this
        have B7:Hid (Below w.heap.size w w7):=(BX.out.trans (bA.mono BX.out.size)).trans (Below.appended ownA hg7 e3)
        have S7:=Lib.hid (hs.out.add2)
        have F7:Hid (r+(e+1)≤2*P - (N+1)∧(2*P - (N+1) - (r+(e+1)))%2=0):=by
         have h1:=HLL.out
         have h2:=HTT.out
         have h3:=HOP.out
         have h4:=HPAR.out
         exact ⟨by omega,by omega⟩
        clear bA ownA rA e1 e2 e3 hown7 hg7
        go_wp2_with fail
        go_roundw
        case rel=>exact ⟨N+1,r,e+1,c7,_,A7,by go_num,congrArg (Value.int .i64) (by omega),congrArg (Value.int .i64) (by omega),rfl,by omega,F7.out.1,F7.out.2,S7,O7,B7⟩
        case measure=>simp [intOf];omega
      ·have mq:(q:Int).tmod 2=1:=by rw [Int.tmod_eq_emod_of_nonneg (by omega)];omega
       have mq':(q:Int)%2=1:=by omega
       clear hm
       by_cases hr0:0 < r
       ·obtain ⟨r',rfl⟩:∃ r',r=r'+1:=⟨r - 1,by omega⟩
        have hrI:(0:Int) < (r':Int)+1:=by omega
        clear hr0
        rcases (by omega:q4%2=0∨q4%2=1) with hm | hm
        ·have mq4:(q4:Int).tmod 2=0:=by rw [Int.tmod_eq_emod_of_nonneg (by omega)];omega
         have mq4':(q4:Int)%2=0:=by omega
         clear hm
         have bA:=(Below.refl wx.heap.size wx).alloc (Nat.le_refl _) (.cells #[.int .i64 1] 3)
         have ownA:=own_below OX.out bA
         have rA:=Rd.new wx 3 #[.int .i64 1] 1 (I64 [1]) (by simp [I64]) (by simp)
         have e1:N+1≤maxLen:=by simp only [maxLen];omega
         have e2:(N+1)*8≤140737488355328:=by omega
         have e3:w.heap.size≤(wx.alloc (.cells #[.int .i64 1] 3)).heap.size:=by have:=BX.out.size;simp;omega
         go_wp2_with (first
          | (at_builtin;go_must (refine wpList_append_rd _ rfl _ _ 25 rfl w.heap.size 3 i0 (.int .i64 0) 8 Tryz.underlying25 hi0 hz0 hz1 hz2 rfl (.slice A N c) N (I64 (ofNB l)) rfl ownA (wx.heap.size+1) (some ⟨wx.heap.size,0,none⟩) 1 1 (I64 [1]) rfl rA (I64_one _) e1 e2 e3 ?_)))
         intro A7 c7 w7 hc7 hm7 hown7 hg7 _
         have O7:Hid (w7.ownsRow w.heap.size 3 1 (.slice A7 (N+1) c7) (N+1) (I64 (ofNB (l++[1])))):=by
          have:=hown7
          rw [← I64_append] at this
          rw [ofN_appendB]
          exact this
         have B7:Hid (Below w.heap.size w w7):=(BX.out.trans (bA.mono BX.out.size)).trans (Below.appended ownA hg7 e3)
         have S7:=Lib.hid (hs.out.add1)
         have F7:Hid (r'+(e)≤2*P - (N+1)∧(2*P - (N+1) - (r'+(e)))%2=0):=by
          have h1:=HLL.out
          have h2:=HTT.out
          have h3:=HOP.out
          have h4:=HPAR.out
          exact ⟨by omega,by omega⟩
         clear bA ownA rA e1 e2 e3 hown7 hg7
         go_wp2_with fail
         go_roundw
         case rel=>exact ⟨N+1,r',e,c7,_,A7,by go_num,congrArg (Value.int .i64) (by omega),congrArg (Value.int .i64) (by omega),rfl,by omega,F7.out.1,F7.out.2,S7,O7,B7⟩
         case measure=>simp [intOf];omega
        ·have mq4:(q4:Int).tmod 2=1:=by rw [Int.tmod_eq_emod_of_nonneg (by omega)];omega
         have mq4':(q4:Int)%2=1:=by omega
         clear hm
         by_cases he0:e=0
         ·subst he0
          have bA:=(Below.refl wx.heap.size wx).alloc (Nat.le_refl _) (.cells #[.int .i64 1] 3)
          have ownA:=own_below OX.out bA
          have rA:=Rd.new wx 3 #[.int .i64 1] 1 (I64 [1]) (by simp [I64]) (by simp)
          have e1:N+1≤maxLen:=by simp only [maxLen];omega
          have e2:(N+1)*8≤140737488355328:=by omega
          have e3:w.heap.size≤(wx.alloc (.cells #[.int .i64 1] 3)).heap.size:=by have:=BX.out.size;simp;omega
          go_wp2_with (first
           | (at_builtin;go_must (refine wpList_append_rd _ rfl _ _ 25 rfl w.heap.size 3 i0 (.int .i64 0) 8 Tryz.underlying25 hi0 hz0 hz1 hz2 rfl (.slice A N c) N (I64 (ofNB l)) rfl ownA (wx.heap.size+1) (some ⟨wx.heap.size,0,none⟩) 1 1 (I64 [1]) rfl rA (I64_one _) e1 e2 e3 ?_)))
          intro A7 c7 w7 hc7 hm7 hown7 hg7 _
          have O7:Hid (w7.ownsRow w.heap.size 3 1 (.slice A7 (N+1) c7) (N+1) (I64 (ofNB (l++[1])))):=by
           have:=hown7
           rw [← I64_append] at this
           rw [ofN_appendB]
           exact this
          have B7:Hid (Below w.heap.size w w7):=(BX.out.trans (bA.mono BX.out.size)).trans (Below.appended ownA hg7 e3)
          have S7:=Lib.hid (hs.out.add1)
          have F7:Hid (r'+(0)≤2*P - (N+1)∧(2*P - (N+1) - (r'+(0)))%2=0):=by
           have h1:=HLL.out
           have h2:=HTT.out
           have h3:=HOP.out
           have h4:=HPAR.out
           exact ⟨by omega,by omega⟩
          clear bA ownA rA e1 e2 e3 hown7 hg7
          go_wp2_with fail
          go_roundw
          case rel=>exact ⟨N+1,r',0,c7,_,A7,by go_num,congrArg (Value.int .i64) (by omega),congrArg (Value.int .i64) (by omega),rfl,by omega,F7.out.1,F7.out.2,S7,O7,B7⟩
          case measure=>simp [intOf];omega
         ·obtain ⟨e',rfl⟩:∃ e',e=e'+1:=⟨e - 1,by omega⟩
          have heb:(((e':Int)+1) == 0)=false:=by rw [beq_eq_false_iff_ne];omega
          have bA:=(Below.refl wx.heap.size wx).alloc (Nat.le_refl _) (.cells #[.int .i64 3] 3)
          have ownA:=own_below OX.out bA
          have rA:=Rd.new wx 3 #[.int .i64 3] 1 (I64 [3]) (by simp [I64]) (by simp)
          have e1:N+1≤maxLen:=by simp only [maxLen];omega
          have e2:(N+1)*8≤140737488355328:=by omega
          have e3:w.heap.size≤(wx.alloc (.cells #[.int .i64 3] 3)).heap.size:=by have:=BX.out.size;simp;omega
          go_wp2_with (first
           | (at_builtin;go_must (refine wpList_append_rd _ rfl _ _ 25 rfl w.heap.size 3 i0 (.int .i64 0) 8 Tryz.underlying25 hi0 hz0 hz1 hz2 rfl (.slice A N c) N (I64 (ofNB l)) rfl ownA (wx.heap.size+1) (some ⟨wx.heap.size,0,none⟩) 1 1 (I64 [3]) rfl rA (I64_one _) e1 e2 e3 ?_)))
          intro A7 c7 w7 hc7 hm7 hown7 hg7 _
          have O7:Hid (w7.ownsRow w.heap.size 3 1 (.slice A7 (N+1) c7) (N+1) (I64 (ofNB (l++[3])))):=by
           have:=hown7
           rw [← I64_append] at this
           rw [ofN_appendB]
           exact this
          have B7:Hid (Below w.heap.size w w7):=(BX.out.trans (bA.mono BX.out.size)).trans (Below.appended ownA hg7 e3)
          have S7:=Lib.hid (hs.out.add3)
          have F7:Hid ((r'+1)+(e')≤2*P - (N+1)∧(2*P - (N+1) - ((r'+1)+(e')))%2=0):=by
           have h1:=HLL.out
           have h2:=HTT.out
           have h3:=HOP.out
           have h4:=HPAR.out
           exact ⟨by omega,by omega⟩
          clear bA ownA rA e1 e2 e3 hown7 hg7
          go_wp2_with fail
          go_roundw
          case rel=>exact ⟨N+1,(r'+1),e',c7,_,A7,by go_num,congrArg (Value.int .i64) (by omega),congrArg (Value.int .i64) (by omega),rfl,by omega,F7.out.1,F7.out.2,S7,O7,B7⟩
          case measure=>simp [intOf];omega
       ·obtain rfl:r=0:=by omega
        obtain ⟨e',rfl⟩:∃ e',e=e'+1:=⟨e - 1,by have:=HTT.out;omega⟩
        clear hr0
        have bA:=(Below.refl wx.heap.size wx).alloc (Nat.le_refl _) (.cells #[.int .i64 3] 3)
        have ownA:=own_below OX.out bA
        have rA:=Rd.new wx 3 #[.int .i64 3] 1 (I64 [3]) (by simp [I64]) (by simp)
        have e1:N+1≤maxLen:=by simp only [maxLen];omega
        have e2:(N+1)*8≤140737488355328:=by omega
        have e3:w.heap.size≤(wx.alloc (.cells #[.int .i64 3] 3)).heap.size:=by have:=BX.out.size;simp;omega
        go_wp2_with (first
         | (at_builtin;go_must (refine wpList_append_rd _ rfl _ _ 25 rfl w.heap.size 3 i0 (.int .i64 0) 8 Tryz.underlying25 hi0 hz0 hz1 hz2 rfl (.slice A N c) N (I64 (ofNB l)) rfl ownA (wx.heap.size+1) (some ⟨wx.heap.size,0,none⟩) 1 1 (I64 [3]) rfl rA (I64_one _) e1 e2 e3 ?_)))
        intro A7 c7 w7 hc7 hm7 hown7 hg7 _
        have O7:Hid (w7.ownsRow w.heap.size 3 1 (.slice A7 (N+1) c7) (N+1) (I64 (ofNB (l++[3])))):=by
         have:=hown7
         rw [← I64_append] at this
         rw [ofN_appendB]
         exact this
        have B7:Hid (Below w.heap.size w w7):=(BX.out.trans (bA.mono BX.out.size)).trans (Below.appended ownA hg7 e3)
        have S7:=Lib.hid (hs.out.add3)
        have F7:Hid (0+(e')≤2*P - (N+1)∧(2*P - (N+1) - (0+(e')))%2=0):=by
         have h1:=HLL.out
         have h2:=HTT.out
         have h3:=HOP.out
         have h4:=HPAR.out
         exact ⟨by omega,by omega⟩
        clear bA ownA rA e1 e2 e3 hown7 hg7
        go_wp2_with fail
        go_roundw
        case rel=>exact ⟨N+1,0,e',c7,_,A7,by go_num,congrArg (Value.int .i64) (by omega),congrArg (Value.int .i64) (by omega),rfl,by omega,F7.out.1,F7.out.2,S7,O7,B7⟩
        case measure=>simp [intOf];omega
     ·have hlb:decide ((t:Int) < (L:Int))=false:=decide_eq_false (by omega)
      by_cases hr0:0 < r
      ·obtain ⟨r',rfl⟩:∃ r',r=r'+1:=⟨r - 1,by omega⟩
       have hrI:(0:Int) < (r':Int)+1:=by omega
       clear hr0
       rcases (by omega:q4%2=0∨q4%2=1) with hm | hm
       ·have mq4:(q4:Int).tmod 2=0:=by rw [Int.tmod_eq_emod_of_nonneg (by omega)];omega
        have mq4':(q4:Int)%2=0:=by omega
        clear hm
        have bA:=(Below.refl wx.heap.size wx).alloc (Nat.le_refl _) (.cells #[.int .i64 1] 3)
        have ownA:=own_below OX.out bA
        have rA:=Rd.new wx 3 #[.int .i64 1] 1 (I64 [1]) (by simp [I64]) (by simp)
        have e1:N+1≤maxLen:=by simp only [maxLen];omega
        have e2:(N+1)*8≤140737488355328:=by omega
        have e3:w.heap.size≤(wx.alloc (.cells #[.int .i64 1] 3)).heap.size:=by have:=BX.out.size;simp;omega
        go_wp2_with (first
         | (at_builtin;go_must (refine wpList_append_rd _ rfl _ _ 25 rfl w.heap.size 3 i0 (.int .i64 0) 8 Tryz.underlying25 hi0 hz0 hz1 hz2 rfl (.slice A N c) N (I64 (ofNB l)) rfl ownA (wx.heap.size+1) (some ⟨wx.heap.size,0,none⟩) 1 1 (I64 [1]) rfl rA (I64_one _) e1 e2 e3 ?_)))
        intro A7 c7 w7 hc7 hm7 hown7 hg7 _
        have O7:Hid (w7.ownsRow w.heap.size 3 1 (.slice A7 (N+1) c7) (N+1) (I64 (ofNB (l++[1])))):=by
         have:=hown7
         rw [← I64_append] at this
         rw [ofN_appendB]
         exact this
        have B7:Hid (Below w.heap.size w w7):=(BX.out.trans (bA.mono BX.out.size)).trans (Below.appended ownA hg7 e3)
        have S7:=Lib.hid (hs.out.add1)
        have F7:Hid (r'+(e)≤2*P - (N+1)∧(2*P - (N+1) - (r'+(e)))%2=0):=by
         have h1:=HLL.out
         have h2:=HTT.out
         have h3:=HOP.out
         have h4:=HPAR.out
         exact ⟨by omega,by omega⟩
        clear bA ownA rA e1 e2 e3 hown7 hg7
        go_wp2_with fail
        go_roundw
        case rel=>exact ⟨N+1,r',e,c7,_,A7,by go_num,congrArg (Value.int .i64) (by omega),congrArg (Value.int .i64) (by omega),rfl,by omega,F7.out.1,F7.out.2,S7,O7,B7⟩
        case measure=>simp [intOf];omega
       ·have mq4:(q4:Int).tmod 2=1:=by rw [Int.tmod_eq_emod_of_nonneg (by omega)];omega
        have mq4':(q4:Int)%2=1:=by omega
        clear hm
        by_cases he0:e=0
        ·subst he0
         have bA:=(Below.refl wx.heap.size wx).alloc (Nat.le_refl _) (.cells #[.int .i64 1] 3)
         have ownA:=own_below OX.out bA
         have rA:=Rd.new wx 3 #[.int .i64 1] 1 (I64 [1]) (by simp [I64]) (by simp)
         have e1:N+1≤maxLen:=by simp only [maxLen];omega
         have e2:(N+1)*8≤140737488355328:=by omega
         have e3:w.heap.size≤(wx.alloc (.cells #[.int .i64 1] 3)).heap.size:=by have:=BX.out.size;simp;omega
         go_wp2_with (first
          | (at_builtin;go_must (refine wpList_append_rd _ rfl _ _ 25 rfl w.heap.size 3 i0 (.int .i64 0) 8 Tryz.underlying25 hi0 hz0 hz1 hz2 rfl (.slice A N c) N (I64 (ofNB l)) rfl ownA (wx.heap.size+1) (some ⟨wx.heap.size,0,none⟩) 1 1 (I64 [1]) rfl rA (I64_one _) e1 e2 e3 ?_)))
         intro A7 c7 w7 hc7 hm7 hown7 hg7 _
         have O7:Hid (w7.ownsRow w.heap.size 3 1 (.slice A7 (N+1) c7) (N+1) (I64 (ofNB (l++[1])))):=by
          have:=hown7
          rw [← I64_append] at this
          rw [ofN_appendB]
          exact this
         have B7:Hid (Below w.heap.size w w7):=(BX.out.trans (bA.mono BX.out.size)).trans (Below.appended ownA hg7 e3)
         have S7:=Lib.hid (hs.out.add1)
         have F7:Hid (r'+(0)≤2*P - (N+1)∧(2*P - (N+1) - (r'+(0)))%2=0):=by
          have h1:=HLL.out
          have h2:=HTT.out
          have h3:=HOP.out
          have h4:=HPAR.out
          exact ⟨by omega,by omega⟩
         clear bA ownA rA e1 e2 e3 hown7 hg7
         go_wp2_with fail
         go_roundw
         case rel=>exact ⟨N+1,r',0,c7,_,A7,by go_num,congrArg (Value.int .i64) (by omega),congrArg (Value.int .i64) (by omega),rfl,by omega,F7.out.1,F7.out.2,S7,O7,B7⟩
         case measure=>simp [intOf];omega
        ·obtain ⟨e',rfl⟩:∃ e',e=e'+1:=⟨e - 1,by omega⟩
         have heb:(((e':Int)+1) == 0)=false:=by rw [beq_eq_false_iff_ne];omega
         have bA:=(Below.refl wx.heap.size wx).alloc (Nat.le_refl _) (.cells #[.int .i64 3] 3)
         have ownA:=own_below OX.out bA
         have rA:=Rd.new wx 3 #[.int .i64 3] 1 (I64 [3]) (by simp [I64]) (by simp)
         have e1:N+1≤maxLen:=by simp only [maxLen];omega
         have e2:(N+1)*8≤140737488355328:=by omega
         have e3:w.heap.size≤(wx.alloc (.cells #[.int .i64 3] 3)).heap.size:=by have:=BX.out.size;simp;omega
         go_wp2_with (first
          | (at_builtin;go_must (refine wpList_append_rd _ rfl _ _ 25 rfl w.heap.size 3 i0 (.int .i64 0) 8 Tryz.underlying25 hi0 hz0 hz1 hz2 rfl (.slice A N c) N (I64 (ofNB l)) rfl ownA (wx.heap.size+1) (some ⟨wx.heap.size,0,none⟩) 1 1 (I64 [3]) rfl rA (I64_one _) e1 e2 e3 ?_)))
         intro A7 c7 w7 hc7 hm7 hown7 hg7 _
         have O7:Hid (w7.ownsRow w.heap.size 3 1 (.slice A7 (N+1) c7) (N+1) (I64 (ofNB (l++[3])))):=by
          have:=hown7
          rw [← I64_append] at this
          rw [ofN_appendB]
          exact this
         have B7:Hid (Below w.heap.size w w7):=(BX.out.trans (bA.mono BX.out.size)).trans (Below.appended ownA hg7 e3)
         have S7:=Lib.hid (hs.out.add3)
         have F7:Hid ((r'+1)+(e')≤2*P - (N+1)∧(2*P - (N+1) - ((r'+1)+(e')))%2=0):=by
          have h1:=HLL.out
          have h2:=HTT.out
          have h3:=HOP.out
          have h4:=HPAR.out
          exact ⟨by omega,by omega⟩
         clear bA ownA rA e1 e2 e3 hown7 hg7
         go_wp2_with fail
         go_roundw
         case rel=>exact ⟨N+1,(r'+1),e',c7,_,A7,by go_num,congrArg (Value.int .i64) (by omega),congrArg (Value.int .i64) (by omega),rfl,by omega,F7.out.1,F7.out.2,S7,O7,B7⟩
         case measure=>simp [intOf];omega
      ·obtain rfl:r=0:=by omega
       obtain ⟨e',rfl⟩:∃ e',e=e'+1:=⟨e - 1,by have:=HTT.out;omega⟩
       clear hr0
       have bA:=(Below.refl wx.heap.size wx).alloc (Nat.le_refl _) (.cells #[.int .i64 3] 3)
       have ownA:=own_below OX.out bA
       have rA:=Rd.new wx 3 #[.int .i64 3] 1 (I64 [3]) (by simp [I64]) (by simp)
       have e1:N+1≤maxLen:=by simp only [maxLen];omega
       have e2:(N+1)*8≤140737488355328:=by omega
       have e3:w.heap.size≤(wx.alloc (.cells #[.int .i64 3] 3)).heap.size:=by have:=BX.out.size;simp;omega
       go_wp2_with (first
        | (at_builtin;go_must (refine wpList_append_rd _ rfl _ _ 25 rfl w.heap.size 3 i0 (.int .i64 0) 8 Tryz.underlying25 hi0 hz0 hz1 hz2 rfl (.slice A N c) N (I64 (ofNB l)) rfl ownA (wx.heap.size+1) (some ⟨wx.heap.size,0,none⟩) 1 1 (I64 [3]) rfl rA (I64_one _) e1 e2 e3 ?_)))
       intro A7 c7 w7 hc7 hm7 hown7 hg7 _
       have O7:Hid (w7.ownsRow w.heap.size 3 1 (.slice A7 (N+1) c7) (N+1) (I64 (ofNB (l++[3])))):=by
        have:=hown7
        rw [← I64_append] at this
        rw [ofN_appendB]
        exact this
       have B7:Hid (Below w.heap.size w w7):=(BX.out.trans (bA.mono BX.out.size)).trans (Below.appended ownA hg7 e3)
       have S7:=Lib.hid (hs.out.add3)
       have F7:Hid (0+(e')≤2*P - (N+1)∧(2*P - (N+1) - (0+(e')))%2=0):=by
        have h1:=HLL.out
        have h2:=HTT.out
        have h3:=HOP.out
        have h4:=HPAR.out
        exact ⟨by omega,by omega⟩
       clear bA ownA rA e1 e2 e3 hown7 hg7
       go_wp2_with fail
       go_roundw
       case rel=>exact ⟨N+1,0,e',c7,_,A7,by go_num,congrArg (Value.int .i64) (by omega),congrArg (Value.int .i64) (by omega),rfl,by omega,F7.out.1,F7.out.2,S7,O7,B7⟩
       case measure=>simp [intOf];omega
   ·obtain rfl:n0=0:=by omega
    have OX:=Lib.hid hown.out
    have BX:=Lib.hid hbel.out
    by_cases ht0:t=0
    ·subst ht0
     obtain ⟨rfl,rfl⟩:r=0∧e=0:=by have:=HTT.out;omega
     have bA:=(Below.refl wr.heap.size wr).alloc (Nat.le_refl _) (.cells #[.int .i64 0] 3)
     have ownA:=own_below OX.out bA
     have rA:=Rd.new wr 3 #[.int .i64 0] 1 (I64 [0]) (by simp [I64]) (by simp)
     have e1:N+1≤maxLen:=by simp only [maxLen];omega
     have e2:(N+1)*8≤140737488355328:=by omega
     have e3:w.heap.size≤(wr.alloc (.cells #[.int .i64 0] 3)).heap.size:=by have:=BX.out.size;simp;omega
     go_wp2_with (first
      | (at_builtin;go_must (refine wpList_append_rd _ rfl _ _ 25 rfl w.heap.size 3 i0 (.int .i64 0) 8 Tryz.underlying25 hi0 hz0 hz1 hz2 rfl (.slice A N c) N (I64 (ofNB l)) rfl ownA (wr.heap.size+1) (some ⟨wr.heap.size,0,none⟩) 1 1 (I64 [0]) rfl rA (I64_one _) e1 e2 e3 ?_)))
     intro A7 c7 w7 hc7 hm7 hown7 hg7 _
     have O7:Hid (w7.ownsRow w.heap.size 3 1 (.slice A7 (N+1) c7) (N+1) (I64 (ofNB (l++[0])))):=by
      have:=hown7
      rw [← I64_append] at this
      rw [ofN_appendB]
      exact this
     have B7:Hid (Below w.heap.size w w7):=(BX.out.trans (bA.mono BX.out.size)).trans (Below.appended ownA hg7 e3)
     have S7:=Lib.hid (hs.out.add0)
     have F7:Hid (0+1+(0)≤2*P - (N+1)∧(2*P - (N+1) - (0+1+(0)))%2=0):=by
      have h1:=HLL.out
      have h2:=HTT.out
      have h3:=HOP.out
      have h4:=HPAR.out
      exact ⟨by omega,by omega⟩
     clear bA ownA rA e1 e2 e3 hown7 hg7
     go_wp2_with fail
     go_roundw
     case rel=>exact ⟨N+1,0+1,0,c7,_,A7,by go_num,congrArg (Value.int .i64) (by omega),congrArg (Value.int .i64) (by omega),rfl,by omega,F7.out.1,F7.out.2,S7,O7,B7⟩
     case measure=>simp [intOf];omega
    ·have ht0b:((t:Int) == 0)=false:=by rw [beq_eq_false_iff_ne];omega
     by_cases hl:t < L
     ·have hlb:decide ((t:Int) < (L:Int))=true:=decide_eq_true (by omega)
      have bA:=(Below.refl wr.heap.size wr).alloc (Nat.le_refl _) (.cells #[.int .i64 0] 3)
      have ownA:=own_below OX.out bA
      have rA:=Rd.new wr 3 #[.int .i64 0] 1 (I64 [0]) (by simp [I64]) (by simp)
      have e1:N+1≤maxLen:=by simp only [maxLen];omega
      have e2:(N+1)*8≤140737488355328:=by omega
      have e3:w.heap.size≤(wr.alloc (.cells #[.int .i64 0] 3)).heap.size:=by have:=BX.out.size;simp;omega
      go_wp2_with (first
       | (at_builtin;go_must (refine wpList_append_rd _ rfl _ _ 25 rfl w.heap.size 3 i0 (.int .i64 0) 8 Tryz.underlying25 hi0 hz0 hz1 hz2 rfl (.slice A N c) N (I64 (ofNB l)) rfl ownA (wr.heap.size+1) (some ⟨wr.heap.size,0,none⟩) 1 1 (I64 [0]) rfl rA (I64_one _) e1 e2 e3 ?_)))
      intro A7 c7 w7 hc7 hm7 hown7 hg7 _
      have O7:Hid (w7.ownsRow w.heap.size 3 1 (.slice A7 (N+1) c7) (N+1) (I64 (ofNB (l++[0])))):=by
       have:=hown7
       rw [← I64_append] at this
       rw [ofN_appendB]
       exact this
      have B7:Hid (Below w.heap.size w w7):=(BX.out.trans (bA.mono BX.out.size)).trans (Below.appended ownA hg7 e3)
      have S7:=Lib.hid (hs.out.add0)
      have F7:Hid (r+1+(e)≤2*P - (N+1)∧(2*P - (N+1) - (r+1+(e)))%2=0):=by
       have h1:=HLL.out
       have h2:=HTT.out
       have h3:=HOP.out
       have h4:=HPAR.out
       exact ⟨by omega,by omega⟩
      clear bA ownA rA e1 e2 e3 hown7 hg7
      go_wp2_with fail
      go_roundw
      case rel=>exact ⟨N+1,r+1,e,c7,_,A7,by go_num,congrArg (Value.int .i64) (by omega),congrArg (Value.int .i64) (by omega),rfl,by omega,F7.out.1,F7.out.2,S7,O7,B7⟩
      case measure=>simp [intOf];omega
     ·have hlb:decide ((t:Int) < (L:Int))=false:=decide_eq_false (by omega)
      by_cases hr0:0 < r
      ·obtain ⟨r',rfl⟩:∃ r',r=r'+1:=⟨r - 1,by omega⟩
       have hrI:(0:Int) < (r':Int)+1:=by omega
       clear hr0
       have bA:=(Below.refl wr.heap.size wr).alloc (Nat.le_refl _) (.cells #[.int .i64 1] 3)
       have ownA:=own_below OX.out bA
       have rA:=Rd.new wr 3 #[.int .i64 1] 1 (I64 [1]) (by simp [I64]) (by simp)
       have e1:N+1≤maxLen:=by simp only [maxLen];omega
       have e2:(N+1)*8≤140737488355328:=by omega
       have e3:w.heap.size≤(wr.alloc (.cells #[.int .i64 1] 3)).heap.size:=by have:=BX.out.size;simp;omega
       go_wp2_with (first
        | (at_builtin;go_must (refine wpList_append_rd _ rfl _ _ 25 rfl w.heap.size 3 i0 (.int .i64 0) 8 Tryz.underlying25 hi0 hz0 hz1 hz2 rfl (.slice A N c) N (I64 (ofNB l)) rfl ownA (wr.heap.size+1) (some ⟨wr.heap.size,0,none⟩) 1 1 (I64 [1]) rfl rA (I64_one _) e1 e2 e3 ?_)))
       intro A7 c7 w7 hc7 hm7 hown7 hg7 _
       have O7:Hid (w7.ownsRow w.heap.size 3 1 (.slice A7 (N+1) c7) (N+1) (I64 (ofNB (l++[1])))):=by
        have:=hown7
        rw [← I64_append] at this
        rw [ofN_appendB]
        exact this
       have B7:Hid (Below w.heap.size w w7):=(BX.out.trans (bA.mono BX.out.size)).trans (Below.appended ownA hg7 e3)
       have S7:=Lib.hid (hs.out.add1)
       have F7:Hid (r'+(e)≤2*P - (N+1)∧(2*P - (N+1) - (r'+(e)))%2=0):=by
        have h1:=HLL.out
        have h2:=HTT.out
        have h3:=HOP.out
        have h4:=HPAR.out
        exact ⟨by omega,by omega⟩
       clear bA ownA rA e1 e2 e3 hown7 hg7
       go_wp2_with fail
       go_roundw
       case rel=>exact ⟨N+1,r',e,c7,_,A7,by go_num,congrArg (Value.int .i64) (by omega),congrArg (Value.int .i64) (by omega),rfl,by omega,F7.out.1,F7.out.2,S7,O7,B7⟩
       case measure=>simp [intOf];omega
      ·obtain rfl:r=0:=by omega
       obtain ⟨e',rfl⟩:∃ e',e=e'+1:=⟨e - 1,by have:=HTT.out;omega⟩
       clear hr0
       have bA:=(Below.refl wr.heap.size wr).alloc (Nat.le_refl _) (.cells #[.int .i64 3] 3)
       have ownA:=own_below OX.out bA
       have rA:=Rd.new wr 3 #[.int .i64 3] 1 (I64 [3]) (by simp [I64]) (by simp)
       have e1:N+1≤maxLen:=by simp only [maxLen];omega
       have e2:(N+1)*8≤140737488355328:=by omega
       have e3:w.heap.size≤(wr.alloc (.cells #[.int .i64 3] 3)).heap.size:=by have:=BX.out.size;simp;omega
       go_wp2_with (first
        | (at_builtin;go_must (refine wpList_append_rd _ rfl _ _ 25 rfl w.heap.size 3 i0 (.int .i64 0) 8 Tryz.underlying25 hi0 hz0 hz1 hz2 rfl (.slice A N c) N (I64 (ofNB l)) rfl ownA (wr.heap.size+1) (some ⟨wr.heap.size,0,none⟩) 1 1 (I64 [3]) rfl rA (I64_one _) e1 e2 e3 ?_)))
       intro A7 c7 w7 hc7 hm7 hown7 hg7 _
       have O7:Hid (w7.ownsRow w.heap.size 3 1 (.slice A7 (N+1) c7) (N+1) (I64 (ofNB (l++[3])))):=by
        have:=hown7
        rw [← I64_append] at this
        rw [ofN_appendB]
        exact this
       have B7:Hid (Below w.heap.size w w7):=(BX.out.trans (bA.mono BX.out.size)).trans (Below.appended ownA hg7 e3)
       have S7:=Lib.hid (hs.out.add3)
       have F7:Hid (0+(e')≤2*P - (N+1)∧(2*P - (N+1) - (0+(e')))%2=0):=by
        have h1:=HLL.out
        have h2:=HTT.out
        have h3:=HOP.out
        have h4:=HPAR.out
        exact ⟨by omega,by omega⟩
       clear bA ownA rA e1 e2 e3 hown7 hg7
       go_wp2_with fail
       go_roundw
       case rel=>exact ⟨N+1,0,e',c7,_,A7,by go_num,congrArg (Value.int .i64) (by omega),congrArg (Value.int .i64) (by omega),rfl,by omega,F7.out.1,F7.out.2,S7,O7,B7⟩
       case measure=>simp [intOf];omega
  ·obtain rfl:N=2*P:=by omega
   obtain ⟨rfl,rfl⟩:r=0∧e=0:=by omega
   have hlb:decide (((2*P:Nat):Int) < 2*(P:Int))=false:=decide_eq_false (by omega)
   go_wp2_with fail
   go_ret
   obtain ⟨A',c',e',h1,h2⟩:=own_form hown.out
   cases e'
   exact ⟨l,A,c,hs.out,rfl,h1,h2,hown.out,hbel.out⟩
def XIs (K:List Nat→List Nat→Nat→Prop) (w:World) (e:Ending) (w':World):Prop :=
 ∃ v l b root lone,e=.returned v∧RMap w.heap.size w' l b root ((lone:Nat):Int) v∧l.length≤1000∧l.length%2=0∧RootOk root l.length∧lone≤1∧K l b lone∧Below w.heap.size w w'
set_option maxRecDepth 100000
theorem nil_invP:Inv [] []:=⟨rfl,fun _ h=>absurd h (by simp),fun _ h=>absurd h (by simp),fun _ h=>absurd h (by simp),fun _ h=>absurd h (by simp)⟩
theorem inLo_none (lo:Nat):inLo lo none:=fun a e=>nomatch e
theorem rdecode_nil (A:Option Addr) (c:Nat) (w:World) :
  Calls Tryz.prog 30 #[.slice A 0 c] w fun e w'=>e=.returned (.agg #[.slice none 0 0,.int .i64 (-1),.int .i64 1])∧Below w.heap.size w w':=by
 have k1:=Lib.hid (Blk.new w 27 #[.slice none 0 0,.int .i64 (-1),.int .i64 1])
 have HINF:=Lib.hid info_rmap
 have HB:=Lib.hid ((Below.refl w.heap.size w).alloc (Nat.le_refl _) (.cells #[.slice none 0 0,.int .i64 (-1),.int .i64 1] 27))
 go_enter Tryz.func30,Tryz.ntmps30
 go_wp2_with fail
 refine bodyPost_ret (v:=.agg #[.slice none 0 0,.int .i64 (-1),.int .i64 1]) ?_ rfl ?_
 ·exact results_cell_row rfl _ _ w.heap.size 27 _ (0,0) _ rfl k1.out Tryz.underlying27 rfl HINF.out
 ·exact ⟨rfl,HB.out⟩
def KPl (P:Nat) (l b:List Nat) (lone:Nat):Prop:=l.length=2*P∧(lone=if P=0 then 1 else 0)∧(0 < P→∃ ks tw,Wd ks tw∧TurnW ks tw l)
theorem z8_u8 {by_:List Int} (hb:∀ x∈by_,0≤x∧x < 256):Z8 by_=U8 (by_.map Int.toNat)∧∀ b∈by_.map Int.toNat,b < 256:=by
 refine ⟨?_,fun b h=>?_⟩
 ·unfold Z8 U8
  rw [List.map_map]
  refine List.map_congr_left fun x hx=>?_
  have:=(hb x hx).1
  simp only [Function.comp]
  rw [Int.toNat_of_nonneg this]
 ·obtain ⟨x,hx,rfl⟩:=List.mem_map.1 h
  have:=hb x hx
  omega
set_option maxHeartbeats 8000000 in
theorem rplane_x (A:Option Addr) (m c B:Nat) (by_:List Int) (P:Nat) (rt:Nat) (w:World)
  (h:Rd w B A m (Z8 by_)) (hB:B≤w.heap.size) (hb:∀ x∈by_,0≤x∧x < 256) (hP:P≤100) (hm:m≤9223372036854775807) (hr1:rt < 256) :
  Calls Tryz.prog 10 #[.int .i64 (P:Int),.slice A m c,.int .u8 (rt:Int)] w (XIs (KPl P) w):=by
 obtain ⟨hz8,hb8⟩:=z8_u8 hb
 rw [hz8] at h
 have hal:=(Below.refl w.heap.size w).alloc (Nat.le_refl _) (.cells #[.slice none 0 0,.int .i64 0,.int .i64 0] 27)
 have AN:=Lib.hid (any4_p A m c P _ (w.alloc (.cells #[.slice none 0 0,.int .i64 0,.int .i64 0] 27)) ((h.up hB).more hal) hb8 hm (by omega))
 have HX0:=Lib.hid (Blk.new w 27 #[.slice none 0 0,.int .i64 0,.int .i64 0])
 have HZ0:=Lib.hid hal
 have HINF:=Lib.hid info_rmap
 clear h hal hz8 hb8 hb
 go_enter Tryz.func10,Tryz.ntmps10
 go_wp2_with fail
 refine AN.out.mono ?_
 generalize w.alloc (.cells #[.slice none 0 0,.int .i64 0,.int .i64 0] 27)=w1 at *
 rintro e w2 ⟨ks,A1,c1,hs,rfl,hc1,hm1,hown,b2⟩
 have HX2:=Lib.hid (HX0.out.below b2)
 have HZ2:=Lib.hid (HZ0.out.trans (b2.mono HZ0.out.size))
 rcases Nat.eq_zero_or_pos P with h0 | h0
 ·subst h0
  have DN:=Lib.hid (rdecode_nil A1 c1 w2)
  clear hown b2 hs AN HX0 HZ0 hc1 hm1
  go_wp2_with fail
  refine DN.out.mono ?_
  rintro e w3 ⟨rfl,b3⟩
  have HX3:=Lib.hid (HX2.out.below b3)
  have HZ3:=Lib.hid (HZ2.out.trans (b3.mono HZ2.out.size))
  have HB7:=Lib.hid (Blk.new w3 27 #[.slice none 0 0,.int .i64 (-1),.int .i64 1])
  have hal3:=(Below.refl w3.heap.size w3).alloc (Nat.le_refl _) (.cells #[.slice none 0 0,.int .i64 (-1),.int .i64 1] 27)
  have HX4:=Lib.hid (HX3.out.below hal3)
  have HZ4:=Lib.hid (HZ3.out.trans (hal3.mono HZ3.out.size))
  clear hal3 b3 DN HX2 HZ2 HX3 HZ3
  go_upto_region 2 with fail
  generalize hw4:w3.alloc (.cells #[.slice none 0 0,.int .i64 (-1),.int .i64 1] 27)=w4 at *
  have x0:=HB7.out.cell 0
  have x1:=HB7.out.cell 1
  have x2:=HB7.out.cell 2
  have q0:=HX4.out.cell 0
  have q1:=HX4.out.cell 1
  have q2:=HX4.out.cell 2
  have f0:=HX4.out.frozen 0
  have f1:=HX4.out.frozen 1
  have f2:=HX4.out.frozen 2
  simp at x0 x1 x2 q0 q1 q2
  clear hw4
  go_wp2_with fail
  obtain ⟨k1,k2,k3⟩:=box_ret (w:=w) (g:=w.heap.size) (RT:=-1) (LF:=1) (A:=none) (N:=0) (cS:=0) (base:=0) (xs:=[]) (Nat.le_refl _) HZ4.out HX4.out (World.ownsRow_nil _ _ _ _)
  refine bodyPost_ret (v:=.agg #[.slice none 0 0,.int .i64 (-1),.int .i64 1]) ?_ rfl ?_
  ·exact results_cell_row rfl _ _ w.heap.size 27 _ (0,0) _ rfl k1 Tryz.underlying27 rfl HINF.out
  ·exact ⟨_,[],[],-1,1,rfl,⟨nil_invP,none,0,inLo_none _,rfl,Nat.le_refl _,by simp [maxLen],Rd.ofOwn k2⟩,by simp,by simp,.inl ⟨rfl,rfl⟩,by omega,⟨rfl,rfl,fun h=>absurd h (by omega)⟩,k3⟩
 ·obtain ⟨N,hN⟩:∃ N,N=2*P:=⟨_,rfl⟩
  rw [← hN] at hs hown hc1
  have DP:=Lib.hid (rdecode_p A1 N c1 ks w2 (Rd.ofOwn hown) hs.kd (by omega) (by omega) hs.bal.1 hs.bal.2)
  have HN:=Lib.hid hN
  rw [← hN]
  clear hown b2 hs AN HX0 HZ0 hc1 hm1 hN
  go_wp2_with fail
  refine DP.out.mono ?_
  rintro e w3 ⟨tw,l,b,hWD,hTW,hi,hl,A3,c3,rfl,hc3,hm3,hown3,b3⟩
  rw [hl] at hc3 hown3 ⊢
  obtain ⟨r,hr⟩:∃ r,r=rt%N:=⟨_,rfl⟩
  have hN0:0 < N:=by have:=HN.out;omega
  have hNb:N≤200:=by have:=HN.out;omega
  have hrN:r < N:=by rw [hr];exact Nat.mod_lt _ hN0
  have h1t:(rt:Int).tmod (N:Int)=(r:Int):=by rw [Int.tmod_eq_emod_of_nonneg (by omega),hr];rfl
  have h1:(rt:Int)%(N:Int)=(r:Int):=by rw [hr];rfl
  have hm0:¬ (N:Int)=0:=by omega
  have hm0n:¬ N=0:=by omega
  have hmb:((N:Int) == 0)=false:=by simp;omega
  have hmb2:decide (N=0)=false:=decide_eq_false hm0n
  have hpI:(0:Int) < (N:Int):=by omega
  have hpd:decide (0 < N)=true:=decide_eq_true hN0
  have wd:IntKind.i64.wrap (r:Int)=(r:Int):=by simp [IntKind.wrap,IntKind.signed,IntKind.bits];omega
  have wt:IntKind.i64.wrap (rt:Int)=(rt:Int):=by simp [IntKind.wrap,IntKind.signed,IntKind.bits];omega
  have HX3:=Lib.hid (HX2.out.below b3)
  have HZ3:=Lib.hid (HZ2.out.trans (b3.mono HZ2.out.size))
  have HB7:=Lib.hid (Blk.new w3 27 #[.slice A3 N c3,.int .i64 0,.int .i64 0])
  have hal3:=(Below.refl w3.heap.size w3).alloc (Nat.le_refl _) (.cells #[.slice A3 N c3,.int .i64 0,.int .i64 0] 27)
  have HX4:=Lib.hid (HX3.out.below hal3)
  have HZ4:=Lib.hid (HZ3.out.trans (hal3.mono HZ3.out.size))
  have hw2s:w.heap.size < w2.heap.size:=HX2.out.lt
  have HO4:=Lib.hid ((own_below hown3 hal3).base_le' (base':=w.heap.size+1) (by omega))
  have HI:=Lib.hid (And.intro hi (And.intro hl (And.intro hc3 hm3)))
  have HWT:=Lib.hid (And.intro hWD hTW)
  obtain ⟨g7,hg7⟩:∃ g7,g7=w3.heap.size:=⟨_,rfl⟩
  have hgl:w.heap.size < g7:=by have:=HX3.out.lt;omega
  rw [← hg7] at HB7
  clear hal3 b3 DP HX2 HZ2 HX3 HZ3 hi hl hc3 hm3 hown3 hr hWD hTW
  go_upto_region 2 with fail
  rw [← hg7]
  generalize w3.alloc (.cells #[.slice A3 N c3,.int .i64 0,.int .i64 0] 27)=w4 at *
  clear hg7
  have x0:=HB7.out.cell 0
  have x1:=HB7.out.cell 1
  have x2:=HB7.out.cell 2
  have f0:=HB7.out.frozen 0
  have f1:=HB7.out.frozen 1
  have f2:=HB7.out.frozen 2
  simp at x0 x1 x2
  have MS:Mod (fun i=>i=g7) w4 (w4.setCell ⟨g7,1,none⟩ (.int .i64 (r:Int))):=Mod.setCell (p:=⟨g7,1,none⟩) (Mod.refl (fun i=>i=g7) w4) (fun _=>rfl) _
  have B5:Hid (Blk (w4.setCell ⟨g7,1,none⟩ (.int .i64 (r:Int))) g7 27 #[.slice A3 N c3,.int .i64 (r:Int),.int .i64 0]):=by
   show Blk _ _ _ _
   have:=HB7.out.set_ 1 (.int .i64 (r:Int));simpa using this
  have X5:=Lib.hid (HX4.out.mod MS (by omega))
  have O5:=Lib.hid (own_mod HO4.out MS (fun i hi hj=>own_ne HO4.out HB7.out (by decide) (by rw [hi,hj])))
  have Z5:Hid (Below w.heap.size w (w4.setCell ⟨g7,1,none⟩ (.int .i64 (r:Int)))):=HZ4.out.trans (MS.belowB HZ4.out.size fun i hi hj=>by omega)
  clear MS HX4 HO4 HZ4
  go_upto_region 4 with fail
  generalize w4.setCell ⟨g7,1,none⟩ (.int .i64 (r:Int))=wy at *
  clear x0 x1 x2 f0 f1 f2
  have x0:=B5.out.cell 0
  have x1:=B5.out.cell 1
  have x2:=B5.out.cell 2
  have q0:=X5.out.cell 0
  have q1:=X5.out.cell 1
  have q2:=X5.out.cell 2
  have f0:=X5.out.frozen 0
  have f1:=X5.out.frozen 1
  have f2:=X5.out.frozen 2
  simp at x0 x1 x2 q0 q1 q2
  go_wp2_with fail
  obtain ⟨k1,k2,k3⟩:=box_ret (w:=w) (g:=w.heap.size) (RT:=(r:Int)) (LF:=0) (Nat.le_refl _) Z5.out X5.out O5.out
  refine bodyPost_ret (v:=.agg #[.slice A3 N c3,.int .i64 (r:Int),.int .i64 0]) ?_ rfl ?_
  ·exact results_cell_row rfl _ _ w.heap.size 27 _ (0,0) _ rfl k1 Tryz.underlying27 rfl HINF.out
  ·obtain ⟨i1,i2,i3,i4⟩:=HI.out
   refine ⟨_,l,b,(r:Int),0,rfl,⟨i1,A3,c3,(own_inLo k2).le (by omega),by rw [i2];rfl,by rw [i2];exact i3,i4,by rw [i2];exact Rd.ofOwn k2⟩,by omega,by rw [i2,HN.out];omega,?_,by omega,⟨by rw [i2,HN.out],by rw [if_neg (by omega)],fun _=>⟨_,_,HWT.out.1,HWT.out.2⟩⟩,k3⟩
   rw [i2]
   exact .inr ⟨by omega,by omega,by omega⟩
end Go.Proofs.YtajjgpkahljjmaaGreatDoor
