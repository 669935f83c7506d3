/- The document's words of numbers, balanced in both sorts. -/
import Derived.Test.YtijbdnhlpbcabaaGreatDoorZg14
import Derived.Test.YtijbdnhlpbcabaaGreatDoorZg6
import Derived.Test.YtijbdnhlpbcabaaGreatDoorZg29
import Derived.BigQuiet
import Derived.Test.YtijbdnhlpbcabaaGreatDoorZg3
import Derived.Test.YtijbdnhlpbcabaaGreatDoorZg17
open Go.RowKit
set_option linter.unusedVariables false
namespace Go.Proofs.YtijbdnhlpbcabaaGreatDoor
set_option maxRecDepth 20000
def Any4P (w:World) (N:Nat) (e:Ending) (w':World):Prop :=
 ∃ l A c,Sof4 l N 0 0∧e=.returned (.slice A N c)∧N≤c∧c≤maxLen∧w'.ownsRow w.heap.size 3 1 (.slice A N c) N (I64 (ofNB l))∧Below w.heap.size w w'
set_option maxHeartbeats 16000000 in
theorem any4_p (A0:Option Addr) (n0 c0 P:Nat) (bs:List Nat) (w:World) (h0:Rd w w.heap.size A0 n0 (U8 bs)) (hbs:∀ b∈bs,b < 256) (hn0:n0≤9223372036854775807) (hP:P≤3000) :
  Calls Tryz.prog 25 #[.int .i64 (P:Int),.slice A0 n0 c0] w (Any4P w (2*P)):=by
 obtain ⟨i0,hi0,hz0,hz1,hz2⟩:=info_parts info_int
 have H0:=Lib.hid h0
 have HBS:=Lib.hid hbs
 clear h0 hbs
 go_enter Tryz.func25,Tryz.ntmps25
 go_wp2_with fail
 go_loopw [5,6,7,8] (fun z o p i wr=>∃ (N r e c:Nat) (l:List Nat) (A:Option Addr),i=.int .i64 (N:Int)∧o=.int .i64 (r:Int)∧p=.int .i64 (e:Int)∧z=.slice A N c∧N≤2*P∧r+e≤2*P - N∧(2*P - N - (r+e))%2=0∧Hid (Sof4 l N r e)∧Hid (wr.ownsRow w.heap.size 3 1 (.slice A N c) N (I64 (ofNB l)))∧Hid (Below w.heap.size w wr)) (fun _ _ _ i _=>2*P - (intOf i).toNat)
 case atStart=>exact ⟨0,0,0,0,[],none,rfl,rfl,rfl,rfl,by omega,by omega,by omega,Sof4.nil,World.ownsRow_nil _ _ _ _,Below.refl _ _⟩
 case round =>
  obtain ⟨N,r,e,c,l,A,rfl,rfl,rfl,rfl,hN,hop,hpar,hs,hown,hbel⟩:=hrel
  by_cases hlt:N < 2*P
  ·have hltI:(N:Int) < 2*(P:Int):=by omega
   have hleft:2*(P:Int) - (N:Int)=((2*P - N:Nat):Int):=by omega
   obtain ⟨L,hL⟩:∃ L,L=2*P - N:=⟨_,rfl⟩
   rw [← hL] at hleft hop hpar
   have HLL:=Lib.hid hL
   have hL1:1≤L:=by omega
   have hL9:L≤6000:=by omega
   obtain ⟨t,ht⟩:∃ t,t=r+e:=⟨_,rfl⟩
   have htI:(r:Int)+(e:Int)=(t:Int):=by omega
   have ht9:t≤6000:=by omega
   have HTT:=Lib.hid ht
   rw [← ht] at hop hpar
   have hr9:r≤6000:=by omega
   have he9:e≤6000:=by omega
   have HOP:=Lib.hid hop
   have HPAR:=Lib.hid hpar
   clear hL ht hop hpar
   by_cases hn:0 < n0
   ·obtain ⟨b',o,e',hbw,k1⟩:∃ b o,A0=some ⟨b,o,none⟩∧b < w.heap.size∧∀ k,k < n0→wr.cell? ⟨b,o+k,none⟩=some (.int .u8 ((bs.getD k 0:Nat):Int)):=by
     obtain ⟨b,o,e,hb,hc⟩:=(H0.out.below hbel.out).at_ hn
     refine ⟨b,o,e,hb,fun k hk=>?_⟩
     have hl:bs.length=n0:=by have:=H0.out.len;simpa [U8] using this
     have:=hc k (by simp [U8];omega)
     rw [this]
     simp [U8,List.getD_eq_getElem?_getD,List.getElem?_eq_getElem (show k < bs.length by omega)]
    subst e'
    obtain ⟨rr,hr,hrn⟩:∃ rr:Nat,(N:Int).tmod (n0:Int)=(rr:Int)∧rr < n0:=⟨N%n0,by rw [Int.tmod_eq_emod_of_nonneg (by omega)];exact (Int.natCast_emod N n0).symm,Nat.mod_lt _ hn⟩
    obtain ⟨d,hd⟩:∃ d:Nat,(N:Int).tdiv (n0:Int)=(d:Int)∧d≤10000:=⟨N / n0,by rw [Int.tdiv_eq_ediv_of_nonneg (by omega)];exact (Int.natCast_ediv N n0).symm,by have:=Nat.div_le_self N n0;omega⟩
    obtain ⟨f,hf,hf3⟩:∃ f:Nat,(d:Int).tmod 5=(f:Int)∧f < 5:=⟨d%5,by rw [Int.tmod_eq_emod_of_nonneg (by omega)];omega,by omega⟩
    have t1:=k1 rr hrn
    have hx9:bs.getD rr 0 < 256:=by
     rw [List.getD_eq_getElem?_getD]
     cases hq:bs[rr]? with
     | none=>simp
     | some v=>simp;exact HBS.out v (List.mem_of_getElem? hq)
    generalize bs.getD rr 0=x at *
    obtain ⟨q,hq,hq9⟩:∃ q:Nat,(x:Int).tdiv (1+(f:Int))=(q:Int)∧q < 256:=⟨x / (1+f),by rw [Int.tdiv_eq_ediv_of_nonneg (by omega),show (1:Int)+(f:Int)=((1+f:Nat):Int) by omega];exact (Int.natCast_ediv x (1+f)).symm,by have:=Nat.div_le_self x (1+f);omega⟩
    have w1:IntKind.i64.wrap (rr:Int)=(rr:Int):=by rw [IntKind.wrap_i64];omega
    have w2:IntKind.i64.wrap (d:Int)=(d:Int):=by rw [IntKind.wrap_i64];omega
    have w3:IntKind.i64.wrap (f:Int)=(f:Int):=by rw [IntKind.wrap_i64];omega
    have w4:IntKind.i64.wrap (1+(f:Int))=1+(f:Int):=by rw [IntKind.wrap_i64];omega
    have w5:IntKind.u8.wrap (1+(f:Int))=1+(f:Int):=by simp [IntKind.wrap,IntKind.signed,IntKind.bits];omega
    have w6:IntKind.u8.wrap (q:Int)=(q:Int):=by simp [IntKind.wrap,IntKind.signed,IntKind.bits];omega
    have hrI:(rr:Int) < (n0:Int):=by omega
    have hnz:(n0:Int)≠0:=by omega
    have hfz:(1:Int)+(f:Int)≠0:=by omega
    have hnzb:((n0:Int) == 0)=false:=by rw [beq_eq_false_iff_ne];omega
    have hfzb:((1:Int)+(f:Int) == 0)=false:=by rw [beq_eq_false_iff_ne];omega
    have hd1:=hd.1
    clear k1
    go_wp2_with fail
    go_quiet (fail)
    have OX:Hid ((wr.drewN nq).ownsRow w.heap.size 3 1 (.slice A N c) N (I64 (ofNB l))):=own_below hown.out (below_draws (Below.refl _ _) nq)
    have BX:Hid (Below w.heap.size w (wr.drewN nq)):=below_draws hbel.out nq
    generalize wr.drewN nq=wx at *
    clear w1 w2 w3 w4 w5 w6 hr hd hd1 hf hq hrI hnz hfz hnzb hfzb t1
    obtain ⟨q2,hq2⟩:∃ q2,q2=q / 2:=⟨_,rfl⟩
    obtain ⟨q4,hq4⟩:∃ q4,q4=q / 4:=⟨_,rfl⟩
    have a2:(q:Int).tdiv 2=(q2:Int):=by rw [Int.tdiv_eq_ediv_of_nonneg (by omega)];omega
    have a2':(q:Int) / 2=(q2:Int):=by omega
    have a4:(q:Int).tdiv 4=(q4:Int):=by rw [Int.tdiv_eq_ediv_of_nonneg (by omega)];omega
    have a4':(q:Int) / 4=(q4:Int):=by omega
    have u2:IntKind.u8.wrap (q2:Int)=(q2:Int):=by simp [IntKind.wrap,IntKind.signed,IntKind.bits];omega
    have u4:IntKind.u8.wrap (q4:Int)=(q4:Int):=by simp [IntKind.wrap,IntKind.signed,IntKind.bits];omega
    have q29:q2 < 256:=by omega
    have q49:q4 < 256:=by omega
    clear hq2 hq4
    by_cases ht0:t=0
    ·subst ht0
     obtain ⟨rfl,rfl⟩:r=0∧e=0:=by have:=HTT.out;omega
     rcases (by omega:q%2=0∨q%2=1) with hm | hm
     ·have mq:(q:Int).tmod 2=0:=by rw [Int.tmod_eq_emod_of_nonneg (by omega)];omega
      have mq':(q:Int)%2=0:=by omega
      clear hm
      rcases (by omega:q2%2=0∨q2%2=1) with hm | hm
      ·have mq2:(q2:Int).tmod 2=0:=by rw [Int.tmod_eq_emod_of_nonneg (by omega)];omega
       have mq2':(q2:Int)%2=0:=by omega
       clear hm
       have bA:=(Below.refl wx.heap.size wx).alloc (Nat.le_refl _) (.cells #[.int .i64 0] 3)
       have ownA:=own_below OX.out bA
       have rA:=Rd.new wx 3 #[.int .i64 0] 1 (I64 [0]) (by simp [I64]) (by simp)
       have e1:N+1≤maxLen:=by simp only [maxLen];omega
       have e2:(N+1)*8≤140737488355328:=by omega
       have e3:w.heap.size≤(wx.alloc (.cells #[.int .i64 0] 3)).heap.size:=by have:=BX.out.size;simp;omega
       go_wp2_with (first
        | (at_builtin;go_must (refine wpList_append_rd _ rfl _ _ 25 rfl w.heap.size 3 i0 (.int .i64 0) 8 Tryz.underlying25 hi0 hz0 hz1 hz2 rfl (.slice A N c) N (I64 (ofNB l)) rfl ownA (wx.heap.size+1) (some ⟨wx.heap.size,0,none⟩) 1 1 (I64 [0]) rfl rA (I64_one _) e1 e2 e3 ?_)))
       intro A7 c7 w7 hc7 hm7 hown7 hg7 _
       have O7:Hid (w7.ownsRow w.heap.size 3 1 (.slice A7 (N+1) c7) (N+1) (I64 (ofNB (l++[0])))):=by
        have:=hown7
        rw [← I64_append] at this
        rw [ofN_appendB]
        exact this
       have B7:Hid (Below w.heap.size w w7):=(BX.out.trans (bA.mono BX.out.size)).trans (Below.appended ownA hg7 e3)
       have S7:=Lib.hid (hs.out.add0)
       have F7:Hid (0+1+(0)≤2*P - (N+1)∧(2*P - (N+1) - (0+1+(0)))%2=0):=by
        have h1:=HLL.out
        have h2:=HTT.out
        have h3:=HOP.out
        have h4:=HPAR.out
        exact ⟨by omega,by omega⟩
       clear bA ownA rA e1 e2 e3 hown7 hg7
       go_wp2_with fail
       go_roundw
       case rel=>exact ⟨N+1,0+1,0,c7,_,A7,by go_num,congrArg (Value.int .i64) (by omega),congrArg (Value.int .i64) (by omega),rfl,by omega,F7.out.1,F7.out.2,S7,O7,B7⟩
       case measure=>simp [intOf];omega
      ·have mq2:(q2:Int).tmod 2=1:=by rw [Int.tmod_eq_emod_of_nonneg (by omega)];omega
       have mq2':(q2:Int)%2=1:=by omega
       clear hm
       have bA:=(Below.refl wx.heap.size wx).alloc (Nat.le_refl _) (.cells #[.int .i64 2] 3)
       have ownA:=own_below OX.out bA
       have rA:=Rd.new wx 3 #[.int .i64 2] 1 (I64 [2]) (by simp [I64]) (by simp)
       have e1:N+1≤maxLen:=by simp only [maxLen];omega
       have e2:(N+1)*8≤140737488355328:=by omega
       have e3:w.heap.size≤(wx.alloc (.cells #[.int .i64 2] 3)).heap.size:=by have:=BX.out.size;simp;omega
       go_wp2_with (first
        | (at_builtin;go_must (refine wpList_append_rd _ rfl _ _ 25 rfl w.heap.size 3 i0 (.int .i64 0) 8 Tryz.underlying25 hi0 hz0 hz1 hz2 rfl (.slice A N c) N (I64 (ofNB l)) rfl ownA (wx.heap.size+1) (some ⟨wx.heap.size,0,none⟩) 1 1 (I64 [2]) rfl rA (I64_one _) e1 e2 e3 ?_)))
       intro A7 c7 w7 hc7 hm7 hown7 hg7 _
       have O7:Hid (w7.ownsRow w.heap.size 3 1 (.slice A7 (N+1) c7) (N+1) (I64 (ofNB (l++[2])))):=by
        have:=hown7
        rw [← I64_append] at this
        rw [ofN_appendB]
        exact this
       have B7:Hid (Below w.heap.size w w7):=(BX.out.trans (bA.mono BX.out.size)).trans (Below.appended ownA hg7 e3)
       have S7:=Lib.hid (hs.out.add2)
       have F7:Hid (0+(0+1)≤2*P - (N+1)∧(2*P - (N+1) - (0+(0+1)))%2=0):=by
        have h1:=HLL.out
        have h2:=HTT.out
        have h3:=HOP.out
        have h4:=HPAR.out
        exact ⟨by omega,by omega⟩
       clear bA ownA rA e1 e2 e3 hown7 hg7
       go_wp2_with fail
       go_roundw
       case rel=>exact ⟨N+1,0,0+1,c7,_,A7,by go_num,congrArg (Value.int .i64) (by omega),congrArg (Value.int .i64) (by omega),rfl,by omega,F7.out.1,F7.out.2,S7,O7,B7⟩
       case measure=>simp [intOf];omega
     ·have mq:(q:Int).tmod 2=1:=by rw [Int.tmod_eq_emod_of_nonneg (by omega)];omega
      have mq':(q:Int)%2=1:=by omega
      clear hm
      rcases (by omega:q2%2=0∨q2%2=1) with hm | hm
      ·have mq2:(q2:Int).tmod 2=0:=by rw [Int.tmod_eq_emod_of_nonneg (by omega)];omega
       have mq2':(q2:Int)%2=0:=by omega
       clear hm
       have bA:=(Below.refl wx.heap.size wx).alloc (Nat.le_refl _) (.cells #[.int .i64 0] 3)
       have ownA:=own_below OX.out bA
       have rA:=Rd.new wx 3 #[.int .i64 0] 1 (I64 [0]) (by simp [I64]) (by simp)
       have e1:N+1≤maxLen:=by simp only [maxLen];omega
       have e2:(N+1)*8≤140737488355328:=by omega
       have e3:w.heap.size≤(wx.alloc (.cells #[.int .i64 0] 3)).heap.size:=by have:=BX.out.size;simp;omega
       go_wp2_with (first
        | (at_builtin;go_must (refine wpList_append_rd _ rfl _ _ 25 rfl w.heap.size 3 i0 (.int .i64 0) 8 Tryz.underlying25 hi0 hz0 hz1 hz2 rfl (.slice A N c) N (I64 (ofNB l)) rfl ownA (wx.heap.size+1) (some ⟨wx.heap.size,0,none⟩) 1 1 (I64 [0]) rfl rA (I64_one _) e1 e2 e3 ?_)))
       intro A7 c7 w7 hc7 hm7 hown7 hg7 _
       have O7:Hid (w7.ownsRow w.heap.size 3 1 (.slice A7 (N+1) c7) (N+1) (I64 (ofNB (l++[0])))):=by
        have:=hown7
        rw [← I64_append] at this
        rw [ofN_appendB]
        exact this
       have B7:Hid (Below w.heap.size w w7):=(BX.out.trans (bA.mono BX.out.size)).trans (Below.appended ownA hg7 e3)
       have S7:=Lib.hid (hs.out.add0)
       have F7:Hid (0+1+(0)≤2*P - (N+1)∧(2*P - (N+1) - (0+1+(0)))%2=0):=by
        have h1:=HLL.out
        have h2:=HTT.out
        have h3:=HOP.out
        have h4:=HPAR.out
        exact ⟨by omega,by omega⟩
       clear bA ownA rA e1 e2 e3 hown7 hg7
       go_wp2_with fail
       go_roundw
       case rel=>exact ⟨N+1,0+1,0,c7,_,A7,by go_num,congrArg (Value.int .i64) (by omega),congrArg (Value.int .i64) (by omega),rfl,by omega,F7.out.1,F7.out.2,S7,O7,B7⟩
       case measure=>simp [intOf];omega
      ·have mq2:(q2:Int).tmod 2=1:=by rw [Int.tmod_eq_emod_of_nonneg (by omega)];omega
       have mq2':(q2:Int)%2=1:=by omega
       clear hm
       have bA:=(Below.refl wx.heap.size wx).alloc (Nat.le_refl _) (.cells #[.int .i64 2] 3)
       have ownA:=own_below OX.out bA
       have rA:=Rd.new wx 3 #[.int .i64 2] 1 (I64 [2]) (by simp [I64]) (by simp)
       have e1:N+1≤maxLen:=by simp only [maxLen];omega
       have e2:(N+1)*8≤140737488355328:=by omega
       have e3:w.heap.size≤(wx.alloc (.cells #[.int .i64 2] 3)).heap.size:=by have:=BX.out.size;simp;omega
       go_wp2_with (first
        | (at_builtin;go_must (refine wpList_append_rd _ rfl _ _ 25 rfl w.heap.size 3 i0 (.int .i64 0) 8 Tryz.underlying25 hi0 hz0 hz1 hz2 rfl (.slice A N c) N (I64 (ofNB l)) rfl ownA (wx.heap.size+1) (some ⟨wx.heap.size,0,none⟩) 1 1 (I64 [2]) rfl rA (I64_one _) e1 e2 e3 ?_)))
       intro A7 c7 w7 hc7 hm7 hown7 hg7 _
       have O7:Hid (w7.ownsRow w.heap.size 3 1 (.slice A7 (N+1) c7) (N+1) (I64 (ofNB (l++[2])))):=by
        have:=hown7
        rw [← I64_append] at this
        rw [ofN_appendB]
        exact this
       have B7:Hid (Below w.heap.size w w7):=(BX.out.trans (bA.mono BX.out.size)).trans (Below.appended ownA hg7 e3)
       have S7:=Lib.hid (hs.out.add2)
       have F7:Hid (0+(0+1)≤2*P - (N+1)∧(2*P - (N+1) - (0+(0+1)))%2=0):=by
        have h1:=HLL.out
        have h2:=HTT.out
        have h3:=HOP.out
        have h4:=HPAR.out
        exact ⟨by omega,by omega⟩
       clear bA ownA rA e1 e2 e3 hown7 hg7
       go_wp2_with fail
       go_roundw
       case rel=>exact ⟨N+1,0,0+1,c7,_,A7,by go_num,congrArg (Value.int .i64) (by omega),congrArg (Value.int .i64) (by omega),rfl,by omega,F7.out.1,F7.out.2,S7,O7,B7⟩
       case measure=>simp [intOf];omega
    ·have ht0b:((t:Int) == 0)=false:=by rw [beq_eq_false_iff_ne];omega
     by_cases hl:t < L
     ·have hlb:decide ((t:Int) < (L:Int))=true:=decide_eq_true (by omega)
      rcases (by omega:q%2=0∨q%2=1) with hm | hm
      ·have mq:(q:Int).tmod 2=0:=by rw [Int.tmod_eq_emod_of_nonneg (by omega)];omega
       have mq':(q:Int)%2=0:=by omega
       clear hm
       rcases (by omega:q2%2=0∨q2%2=1) with hm | hm
       ·have mq2:(q2:Int).tmod 2=0:=by rw [Int.tmod_eq_emod_of_nonneg (by omega)];omega
        have mq2':(q2:Int)%2=0:=by omega
        clear hm
        have bA:=(Below.refl wx.heap.size wx).alloc (Nat.le_refl _) (.cells #[.int .i64 0] 3)
        have ownA:=own_below OX.out bA
        have rA:=Rd.new wx 3 #[.int .i64 0] 1 (I64 [0]) (by simp [I64]) (by simp)
        have e1:N+1≤maxLen:=by simp only [maxLen];omega
        have e2:(N+1)*8≤140737488355328:=by omega
        have e3:w.heap.size≤(wx.alloc (.cells #[.int .i64 0] 3)).heap.size:=by have:=BX.out.size;simp;omega
        go_wp2_with (first
         | (at_builtin;go_must (refine wpList_append_rd _ rfl _ _ 25 rfl w.heap.size 3 i0 (.int .i64 0) 8 Tryz.underlying25 hi0 hz0 hz1 hz2 rfl (.slice A N c) N (I64 (ofNB l)) rfl ownA (wx.heap.size+1) (some ⟨wx.heap.size,0,none⟩) 1 1 (I64 [0]) rfl rA (I64_one _) e1 e2 e3 ?_)))
        intro A7 c7 w7 hc7 hm7 hown7 hg7 _
        have O7:Hid (w7.ownsRow w.heap.size 3 1 (.slice A7 (N+1) c7) (N+1) (I64 (ofNB (l++[0])))):=by
         have:=hown7
         rw [← I64_append] at this
         rw [ofN_appendB]
         exact this
        have B7:Hid (Below w.heap.size w w7):=(BX.out.trans (bA.mono BX.out.size)).trans (Below.appended ownA hg7 e3)
        have S7:=Lib.hid (hs.out.add0)
        have F7:Hid (r+1+(e)≤2*P - (N+1)∧(2*P - (N+1) - (r+1+(e)))%2=0):=by
         have h1:=HLL.out
         have h2:=HTT.out
         have h3:=HOP.out
         have h4:=HPAR.out
         exact ⟨by omega,by omega⟩
        clear bA ownA rA e1 e2 e3 hown7 hg7
        go_wp2_with fail
        go_roundw
        case rel=>exact ⟨N+1,r+1,e,c7,_,A7,by go_num,congrArg (Value.int .i64) (by omega),congrArg (Value.int .i64) (by omega),rfl,by omega,F7.out.1,F7.out.2,S7,O7,B7⟩
        case measure=>simp [intOf];omega
       ·have mq2:(q2:Int).tmod 2=1:=by rw [Int.tmod_eq_emod_of_nonneg (by omega)];omega
        have mq2':(q2:Int)%2=1:=by omega
        clear hm
        have bA:=(Below.refl wx.heap.size wx).alloc (Nat.le_refl _) (.cells #[.int .i64 2] 3)
        have ownA:=own_below OX.out bA
        have rA:=Rd.new wx 3 #[.int .i64 2] 1 (I64 [2]) (by simp [I64]) (by simp)
        have e1:N+1≤maxLen:=by simp only [maxLen];omega
        have e2:(N+1)*8≤140737488355328:=by omega
        have e3:w.heap.size≤(wx.alloc (.cells #[.int .i64 2] 3)).heap.size:=by have:=BX.out.size;simp;omega
        go_wp2_with (first
         | (at_builtin;go_must (refine wpList_append_rd _ rfl _ _ 25 rfl w.heap.size 3 i0 (.int .i64 0) 8 Tryz.underlying25 hi0 hz0 hz1 hz2 rfl (.slice A N c) N (I64 (ofNB l)) rfl ownA (wx.heap.size+1) (some ⟨wx.heap.size,0,none⟩) 1 1 (I64 [2]) rfl rA (I64_one _) e1 e2 e3 ?_)))
        intro A7 c7 w7 hc7 hm7 hown7 hg7 _
        have O7:Hid (w7.ownsRow w.heap.size 3 1 (.slice A7 (N+1) c7) (N+1) (I64 (ofNB (l++[2])))):=by
         have:=hown7
         rw [← I64_append] at this
         rw [ofN_appendB]
         exact this
        have B7:Hid (Below w.heap.size w w7):=(BX.out.trans (bA.mono BX.out.size)).trans (Below.appended ownA hg7 e3)
        have S7:=Lib.hid (hs.out.add2)
        have F7:Hid (r+(e+1)≤2*P - (N+1)∧(2*P - (N+1) - (r+(e+1)))%2=0):=by
         have h1:=HLL.out
         have h2:=HTT.out
         have h3:=HOP.out
         have h4:=HPAR.out
         exact ⟨by omega,by omega⟩
        clear bA ownA rA e1 e2 e3 hown7 hg7
        go_wp2_with fail
        go_roundw
        case rel=>exact ⟨N+1,r,e+1,c7,_,A7,by go_num,congrArg (Value.int .i64) (by omega),congrArg (Value.int .i64) (by omega),rfl,by omega,F7.out.1,F7.out.2,S7,O7,B7⟩
        case measure=>simp [intOf];omega
      ·have mq:(q:Int).tmod 2=1:=by rw [Int.tmod_eq_emod_of_nonneg (by omega)];omega
       have mq':(q:Int)%2=1:=by omega
       clear hm
       by_cases hr0:0 < r
       ·obtain ⟨r',rfl⟩:∃ r',r=r'+1:=⟨r - 1,by omega⟩
        have hrI:(0:Int) < (r':Int)+1:=by omega
        clear hr0
        rcases (by omega:q4%2=0∨q4%2=1) with hm | hm
        ·have mq4:(q4:Int).tmod 2=0:=by rw [Int.tmod_eq_emod_of_nonneg (by omega)];omega
         have mq4':(q4:Int)%2=0:=by omega
         clear hm
         have bA:=(Below.refl wx.heap.size wx).alloc (Nat.le_refl _) (.cells #[.int .i64 1] 3)
         have ownA:=own_below OX.out bA
         have rA:=Rd.new wx 3 #[.int .i64 1] 1 (I64 [1]) (by simp [I64]) (by simp)
         have e1:N+1≤maxLen:=by simp only [maxLen];omega
         have e2:(N+1)*8≤140737488355328:=by omega
         have e3:w.heap.size≤(wx.alloc (.cells #[.int .i64 1] 3)).heap.size:=by have:=BX.out.size;simp;omega
         go_wp2_with (first
          | (at_builtin;go_must (refine wpList_append_rd _ rfl _ _ 25 rfl w.heap.size 3 i0 (.int .i64 0) 8 Tryz.underlying25 hi0 hz0 hz1 hz2 rfl (.slice A N c) N (I64 (ofNB l)) rfl ownA (wx.heap.size+1) (some ⟨wx.heap.size,0,none⟩) 1 1 (I64 [1]) rfl rA (I64_one _) e1 e2 e3 ?_)))
         intro A7 c7 w7 hc7 hm7 hown7 hg7 _
         have O7:Hid (w7.ownsRow w.heap.size 3 1 (.slice A7 (N+1) c7) (N+1) (I64 (ofNB (l++[1])))):=by
          have:=hown7
          rw [← I64_append] at this
          rw [ofN_appendB]
          exact this
         have B7:Hid (Below w.heap.size w w7):=(BX.out.trans (bA.mono BX.out.size)).trans (Below.appended ownA hg7 e3)
         have S7:=Lib.hid (hs.out.add1)
         have F7:Hid (r'+(e)≤2*P - (N+1)∧(2*P - (N+1) - (r'+(e)))%2=0):=by
          have h1:=HLL.out
          have h2:=HTT.out
          have h3:=HOP.out
          have h4:=HPAR.out
          exact ⟨by omega,by omega⟩
         clear bA ownA rA e1 e2 e3 hown7 hg7
         go_wp2_with fail
         go_roundw
         case rel=>exact ⟨N+1,r',e,c7,_,A7,by go_num,congrArg (Value.int .i64) (by omega),congrArg (Value.int .i64) (by omega),rfl,by omega,F7.out.1,F7.out.2,S7,O7,B7⟩
         case measure=>simp [intOf];omega
        ·have mq4:(q4:Int).tmod 2=1:=by rw [Int.tmod_eq_emod_of_nonneg (by omega)];omega
         have mq4':(q4:Int)%2=1:=by omega
         clear hm
         by_cases he0:e=0
         ·subst he0
          have bA:=(Below.refl wx.heap.size wx).alloc (Nat.le_refl _) (.cells #[.int .i64 1] 3)
          have ownA:=own_below OX.out bA
          have rA:=Rd.new wx 3 #[.int .i64 1] 1 (I64 [1]) (by simp [I64]) (by simp)
          have e1:N+1≤maxLen:=by simp only [maxLen];omega
          have e2:(N+1)*8≤140737488355328:=by omega
          have e3:w.heap.size≤(wx.alloc (.cells #[.int .i64 1] 3)).heap.size:=by have:=BX.out.size;simp;omega
          go_wp2_with (first
           | (at_builtin;go_must (refine wpList_append_rd _ rfl _ _ 25 rfl w.heap.size 3 i0 (.int .i64 0) 8 Tryz.underlying25 hi0 hz0 hz1 hz2 rfl (.slice A N c) N (I64 (ofNB l)) rfl ownA (wx.heap.size+1) (some ⟨wx.heap.size,0,none⟩) 1 1 (I64 [1]) rfl rA (I64_one _) e1 e2 e3 ?_)))
          intro A7 c7 w7 hc7 hm7 hown7 hg7 _
          have O7:Hid (w7.ownsRow w.heap.size 3 1 (.slice A7 (N+1) c7) (N+1) (I64 (ofNB (l++[1])))):=by
           have:=hown7
           rw [← I64_append] at this
           rw [ofN_appendB]
           exact this
          have B7:Hid (Below w.heap.size w w7):=(BX.out.trans (bA.mono BX.out.size)).trans (Below.appended ownA hg7 e3)
          have S7:=Lib.hid (hs.out.add1)
          have F7:Hid (r'+(0)≤2*P - (N+1)∧(2*P - (N+1) - (r'+(0)))%2=0):=by
           have h1:=HLL.out
           have h2:=HTT.out
           have h3:=HOP.out
           have h4:=HPAR.out
           exact ⟨by omega,by omega⟩
          clear bA ownA rA e1 e2 e3 hown7 hg7
          go_wp2_with fail
          go_roundw
          case rel=>exact ⟨N+1,r',0,c7,_,A7,by go_num,congrArg (Value.int .i64) (by omega),congrArg (Value.int .i64) (by omega),rfl,by omega,F7.out.1,F7.out.2,S7,O7,B7⟩
          case measure=>simp [intOf];omega
         ·obtain ⟨e',rfl⟩:∃ e',e=e'+1:=⟨e - 1,by omega⟩
          have heb:(((e':Int)+1) == 0)=false:=by rw [beq_eq_false_iff_ne];omega
          have bA:=(Below.refl wx.heap.size wx).alloc (Nat.le_refl _) (.cells #[.int .i64 3] 3)
          have ownA:=own_below OX.out bA
          have rA:=Rd.new wx 3 #[.int .i64 3] 1 (I64 [3]) (by simp [I64]) (by simp)
          have e1:N+1≤maxLen:=by simp only [maxLen];omega
          have e2:(N+1)*8≤140737488355328:=by omega
          have e3:w.heap.size≤(wx.alloc (.cells #[.int .i64 3] 3)).heap.size:=by have:=BX.out.size;simp;omega
          go_wp2_with (first
           | (at_builtin;go_must (refine wpList_append_rd _ rfl _ _ 25 rfl w.heap.size 3 i0 (.int .i64 0) 8 Tryz.underlying25 hi0 hz0 hz1 hz2 rfl (.slice A N c) N (I64 (ofNB l)) rfl ownA (wx.heap.size+1) (some ⟨wx.heap.size,0,none⟩) 1 1 (I64 [3]) rfl rA (I64_one _) e1 e2 e3 ?_)))
          intro A7 c7 w7 hc7 hm7 hown7 hg7 _
          have O7:Hid (w7.ownsRow w.heap.size 3 1 (.slice A7 (N+1) c7) (N+1) (I64 (ofNB (l++[3])))):=by
           have:=hown7
           rw [← I64_append] at this
           rw [ofN_appendB]
           exact this
          have B7:Hid (Below w.heap.size w w7):=(BX.out.trans (bA.mono BX.out.size)).trans (Below.appended ownA hg7 e3)
          have S7:=Lib.hid (hs.out.add3)
          have F7:Hid ((r'+1)+(e')≤2*P - (N+1)∧(2*P - (N+1) - ((r'+1)+(e')))%2=0):=by
           have h1:=HLL.out
           have h2:=HTT.out
           have h3:=HOP.out
           have h4:=HPAR.out
           exact ⟨by omega,by omega⟩
          clear bA ownA rA e1 e2 e3 hown7 hg7
          go_wp2_with fail
          go_roundw
          case rel=>exact ⟨N+1,(r'+1),e',c7,_,A7,by go_num,congrArg (Value.int .i64) (by omega),congrArg (Value.int .i64) (by omega),rfl,by omega,F7.out.1,F7.out.2,S7,O7,B7⟩
          case measure=>simp [intOf];omega
       ·obtain rfl:r=0:=by omega
        obtain ⟨e',rfl⟩:∃ e',e=e'+1:=⟨e - 1,by have:=HTT.out;omega⟩
        clear hr0
        have bA:=(Below.refl wx.heap.size wx).alloc (Nat.le_refl _) (.cells #[.int .i64 3] 3)
        have ownA:=own_below OX.out bA
        have rA:=Rd.new wx 3 #[.int .i64 3] 1 (I64 [3]) (by simp [I64]) (by simp)
        have e1:N+1≤maxLen:=by simp only [maxLen];omega
        have e2:(N+1)*8≤140737488355328:=by omega
        have e3:w.heap.size≤(wx.alloc (.cells #[.int .i64 3] 3)).heap.size:=by have:=BX.out.size;simp;omega
        go_wp2_with (first
         | (at_builtin;go_must (refine wpList_append_rd _ rfl _ _ 25 rfl w.heap.size 3 i0 (.int .i64 0) 8 Tryz.underlying25 hi0 hz0 hz1 hz2 rfl (.slice A N c) N (I64 (ofNB l)) rfl ownA (wx.heap.size+1) (some ⟨wx.heap.size,0,none⟩) 1 1 (I64 [3]) rfl rA (I64_one _) e1 e2 e3 ?_)))
        intro A7 c7 w7 hc7 hm7 hown7 hg7 _
        have O7:Hid (w7.ownsRow w.heap.size 3 1 (.slice A7 (N+1) c7) (N+1) (I64 (ofNB (l++[3])))):=by
         have:=hown7
         rw [← I64_append] at this
         rw [ofN_appendB]
         exact this
        have B7:Hid (Below w.heap.size w w7):=(BX.out.trans (bA.mono BX.out.size)).trans (Below.appended ownA hg7 e3)
        have S7:=Lib.hid (hs.out.add3)
        have F7:Hid (0+(e')≤2*P - (N+1)∧(2*P - (N+1) - (0+(e')))%2=0):=by
         have h1:=HLL.out
         have h2:=HTT.out
         have h3:=HOP.out
         have h4:=HPAR.out
         exact ⟨by omega,by omega⟩
        clear bA ownA rA e1 e2 e3 hown7 hg7
        go_wp2_with fail
        go_roundw
        case rel=>exact ⟨N+1,0,e',c7,_,A7,by go_num,congrArg (Value.int .i64) (by omega),congrArg (Value.int .i64) (by omega),rfl,by omega,F7.out.1,F7.out.2,S7,O7,B7⟩
        case measure=>simp [intOf];omega
     ·have hlb:decide ((t:Int) < (L:Int))=false:=decide_eq_false (by omega)
      by_cases hr0:0 < r
      ·obtain ⟨r',rfl⟩:∃ r',r=r'+1:=⟨r - 1,by omega⟩
       have hrI:(0:Int) < (r':Int)+1:=by omega
       clear hr0
       rcases (by omega:q4%2=0∨q4%2=1) with hm | hm
       ·have mq4:(q4:Int).tmod 2=0:=by rw [Int.tmod_eq_emod_of_nonneg (by omega)];omega
        have mq4':(q4:Int)%2=0:=by omega
        clear hm
        have bA:=(Below.refl wx.heap.size wx).alloc (Nat.le_refl _) (.cells #[.int .i64 1] 3)
        have ownA:=own_below OX.out bA
        have rA:=Rd.new wx 3 #[.int .i64 1] 1 (I64 [1]) (by simp [I64]) (by simp)
        have e1:N+1≤maxLen:=by simp only [maxLen];omega
        have e2:(N+1)*8≤140737488355328:=by omega
        have e3:w.heap.size≤(wx.alloc (.cells #[.int .i64 1] 3)).heap.size:=by have:=BX.out.size;simp;omega
        go_wp2_with (first
         | (at_builtin;go_must (refine wpList_append_rd _ rfl _ _ 25 rfl w.heap.size 3 i0 (.int .i64 0) 8 Tryz.underlying25 hi0 hz0 hz1 hz2 rfl (.slice A N c) N (I64 (ofNB l)) rfl ownA (wx.heap.size+1) (some ⟨wx.heap.size,0,none⟩) 1 1 (I64 [1]) rfl rA (I64_one _) e1 e2 e3 ?_)))
        intro A7 c7 w7 hc7 hm7 hown7 hg7 _
        have O7:Hid (w7.ownsRow w.heap.size 3 1 (.slice A7 (N+1) c7) (N+1) (I64 (ofNB (l++[1])))):=by
         have:=hown7
         rw [← I64_append] at this
         rw [ofN_appendB]
         exact this
        have B7:Hid (Below w.heap.size w w7):=(BX.out.trans (bA.mono BX.out.size)).trans (Below.appended ownA hg7 e3)
        have S7:=Lib.hid (hs.out.add1)
        have F7:Hid (r'+(e)≤2*P - (N+1)∧(2*P - (N+1) - (r'+(e)))%2=0):=by
         have h1:=HLL.out
         have h2:=HTT.out
         have h3:=HOP.out
         have h4:=HPAR.out
         exact ⟨by omega,by omega⟩
        clear bA ownA rA e1 e2 e3 hown7 hg7
        go_wp2_with fail
        go_roundw
        case rel=>exact ⟨N+1,r',e,c7,_,A7,by go_num,congrArg (Value.int .i64) (by omega),congrArg (Value.int .i64) (by omega),rfl,by omega,F7.out.1,F7.out.2,S7,O7,B7⟩
        case measure=>simp [intOf];omega
       ·have mq4:(q4:Int).tmod 2=1:=by rw [Int.tmod_eq_emod_of_nonneg (by omega)];omega
        have mq4':(q4:Int)%2=1:=by omega
        clear hm
        by_cases he0:e=0
        ·subst he0
         have bA:=(Below.refl wx.heap.size wx).alloc (Nat.le_refl _) (.cells #[.int .i64 1] 3)
         have ownA:=own_below OX.out bA
         have rA:=Rd.new wx 3 #[.int .i64 1] 1 (I64 [1]) (by simp [I64]) (by simp)
         have e1:N+1≤maxLen:=by simp only [maxLen];omega
         have e2:(N+1)*8≤140737488355328:=by omega
         have e3:w.heap.size≤(wx.alloc (.cells #[.int .i64 1] 3)).heap.size:=by have:=BX.out.size;simp;omega
         go_wp2_with (first
          | (at_builtin;go_must (refine wpList_append_rd _ rfl _ _ 25 rfl w.heap.size 3 i0 (.int .i64 0) 8 Tryz.underlying25 hi0 hz0 hz1 hz2 rfl (.slice A N c) N (I64 (ofNB l)) rfl ownA (wx.heap.size+1) (some ⟨wx.heap.size,0,none⟩) 1 1 (I64 [1]) rfl rA (I64_one _) e1 e2 e3 ?_)))
         intro A7 c7 w7 hc7 hm7 hown7 hg7 _
         have O7:Hid (w7.ownsRow w.heap.size 3 1 (.slice A7 (N+1) c7) (N+1) (I64 (ofNB (l++[1])))):=by
          have:=hown7
          rw [← I64_append] at this
          rw [ofN_appendB]
          exact this
         have B7:Hid (Below w.heap.size w w7):=(BX.out.trans (bA.mono BX.out.size)).trans (Below.appended ownA hg7 e3)
         have S7:=Lib.hid (hs.out.add1)
         have F7:Hid (r'+(0)≤2*P - (N+1)∧(2*P - (N+1) - (r'+(0)))%2=0):=by
          have h1:=HLL.out
          have h2:=HTT.out
          have h3:=HOP.out
          have h4:=HPAR.out
          exact ⟨by omega,by omega⟩
         clear bA ownA rA e1 e2 e3 hown7 hg7
         go_wp2_with fail
         go_roundw
         case rel=>exact ⟨N+1,r',0,c7,_,A7,by go_num,congrArg (Value.int .i64) (by omega),congrArg (Value.int .i64) (by omega),rfl,by omega,F7.out.1,F7.out.2,S7,O7,B7⟩
         case measure=>simp [intOf];omega
        ·obtain ⟨e',rfl⟩:∃ e',e=e'+1:=⟨e - 1,by omega⟩
         have heb:(((e':Int)+1) == 0)=false:=by rw [beq_eq_false_iff_ne];omega
         have bA:=(Below.refl wx.heap.size wx).alloc (Nat.le_refl _) (.cells #[.int .i64 3] 3)
         have ownA:=own_below OX.out bA
         have rA:=Rd.new wx 3 #[.int .i64 3] 1 (I64 [3]) (by simp [I64]) (by simp)
         have e1:N+1≤maxLen:=by simp only [maxLen];omega
         have e2:(N+1)*8≤140737488355328:=by omega
         have e3:w.heap.size≤(wx.alloc (.cells #[.int .i64 3] 3)).heap.size:=by have:=BX.out.size;simp;omega
         go_wp2_with (first
          | (at_builtin;go_must (refine wpList_append_rd _ rfl _ _ 25 rfl w.heap.size 3 i0 (.int .i64 0) 8 Tryz.underlying25 hi0 hz0 hz1 hz2 rfl (.slice A N c) N (I64 (ofNB l)) rfl ownA (wx.heap.size+1) (some ⟨wx.heap.size,0,none⟩) 1 1 (I64 [3]) rfl rA (I64_one _) e1 e2 e3 ?_)))
         intro A7 c7 w7 hc7 hm7 hown7 hg7 _
         have O7:Hid (w7.ownsRow w.heap.size 3 1 (.slice A7 (N+1) c7) (N+1) (I64 (ofNB (l++[3])))):=by
          have:=hown7
          rw [← I64_append] at this
          rw [ofN_appendB]
          exact this
         have B7:Hid (Below w.heap.size w w7):=(BX.out.trans (bA.mono BX.out.size)).trans (Below.appended ownA hg7 e3)
         have S7:=Lib.hid (hs.out.add3)
         have F7:Hid ((r'+1)+(e')≤2*P - (N+1)∧(2*P - (N+1) - ((r'+1)+(e')))%2=0):=by
          have h1:=HLL.out
          have h2:=HTT.out
          have h3:=HOP.out
          have h4:=HPAR.out
          exact ⟨by omega,by omega⟩
         clear bA ownA rA e1 e2 e3 hown7 hg7
         go_wp2_with fail
         go_roundw
         case rel=>exact ⟨N+1,(r'+1),e',c7,_,A7,by go_num,congrArg (Value.int .i64) (by omega),congrArg (Value.int .i64) (by omega),rfl,by omega,F7.out.1,F7.out.2,S7,O7,B7⟩
         case measure=>simp [intOf];omega
      ·obtain rfl:r=0:=by omega
       obtain ⟨e',rfl⟩:∃ e',e=e'+1:=⟨e - 1,by have:=HTT.out;omega⟩
       clear hr0
       have bA:=(Below.refl wx.heap.size wx).alloc (Nat.le_refl _) (.cells #[.int .i64 3] 3)
       have ownA:=own_below OX.out bA
       have rA:=Rd.new wx 3 #[.int .i64 3] 1 (I64 [3]) (by simp [I64]) (by simp)
       have e1:N+1≤maxLen:=by simp only [maxLen];omega
       have e2:(N+1)*8≤140737488355328:=by omega
       have e3:w.heap.size≤(wx.alloc (.cells #[.int .i64 3] 3)).heap.size:=by have:=BX.out.size;simp;omega
       go_wp2_with (first
        | (at_builtin;go_must (refine wpList_append_rd _ rfl _ _ 25 rfl w.heap.size 3 i0 (.int .i64 0) 8 Tryz.underlying25 hi0 hz0 hz1 hz2 rfl (.slice A N c) N (I64 (ofNB l)) rfl ownA (wx.heap.size+1) (some ⟨wx.heap.size,0,none⟩) 1 1 (I64 [3]) rfl rA (I64_one _) e1 e2 e3 ?_)))
       intro A7 c7 w7 hc7 hm7 hown7 hg7 _
       have O7:Hid (w7.ownsRow w.heap.size 3 1 (.slice A7 (N+1) c7) (N+1) (I64 (ofNB (l++[3])))):=by
        have:=hown7
        rw [← I64_append] at this
        rw [ofN_appendB]
        exact this
       have B7:Hid (Below w.heap.size w w7):=(BX.out.trans (bA.mono BX.out.size)).trans (Below.appended ownA hg7 e3)
       have S7:=Lib.hid (hs.out.add3)
       have F7:Hid (0+(e')≤2*P - (N+1)∧(2*P - (N+1) - (0+(e')))%2=0):=by
        have h1:=HLL.out
        have h2:=HTT.out
        have h3:=HOP.out
        have h4:=HPAR.out
        exact ⟨by omega,by omega⟩
       clear bA ownA rA e1 e2 e3 hown7 hg7
       go_wp2_with fail
       go_roundw
       case rel=>exact ⟨N+1,0,e',c7,_,A7,by go_num,congrArg (Value.int .i64) (by omega),congrArg (Value.int .i64) (by omega),rfl,by omega,F7.out.1,F7.out.2,S7,O7,B7⟩
       case measure=>simp [intOf];omega
   ·obtain rfl:n0=0:=by omega
    have OX:=Lib.hid hown.out
    have BX:=Lib.hid hbel.out
    by_cases ht0:t=0
    ·subst ht0
     obtain ⟨rfl,rfl⟩:r=0∧e=0:=by have:=HTT.out;omega
     have bA:=(Below.refl wr.heap.size wr).alloc (Nat.le_refl _) (.cells #[.int .i64 0] 3)
     have ownA:=own_below OX.out bA
     have rA:=Rd.new wr 3 #[.int .i64 0] 1 (I64 [0]) (by simp [I64]) (by simp)
     have e1:N+1≤maxLen:=by simp only [maxLen];omega
     have e2:(N+1)*8≤140737488355328:=by omega
     have e3:w.heap.size≤(wr.alloc (.cells #[.int .i64 0] 3)).heap.size:=by have:=BX.out.size;simp;omega
     go_wp2_with (first
      | (at_builtin;go_must (refine wpList_append_rd _ rfl _ _ 25 rfl w.heap.size 3 i0 (.int .i64 0) 8 Tryz.underlying25 hi0 hz0 hz1 hz2 rfl (.slice A N c) N (I64 (ofNB l)) rfl ownA (wr.heap.size+1) (some ⟨wr.heap.size,0,none⟩) 1 1 (I64 [0]) rfl rA (I64_one _) e1 e2 e3 ?_)))
     intro A7 c7 w7 hc7 hm7 hown7 hg7 _
     have O7:Hid (w7.ownsRow w.heap.size 3 1 (.slice A7 (N+1) c7) (N+1) (I64 (ofNB (l++[0])))):=by
      have:=hown7
      rw [← I64_append] at this
      rw [ofN_appendB]
      exact this
     have B7:Hid (Below w.heap.size w w7):=(BX.out.trans (bA.mono BX.out.size)).trans (Below.appended ownA hg7 e3)
     have S7:=Lib.hid (hs.out.add0)
     have F7:Hid (0+1+(0)≤2*P - (N+1)∧(2*P - (N+1) - (0+1+(0)))%2=0):=by
      have h1:=HLL.out
      have h2:=HTT.out
      have h3:=HOP.out
      have h4:=HPAR.out
      exact ⟨by omega,by omega⟩
     clear bA ownA rA e1 e2 e3 hown7 hg7
     go_wp2_with fail
     go_roundw
     case rel=>exact ⟨N+1,0+1,0,c7,_,A7,by go_num,congrArg (Value.int .i64) (by omega),congrArg (Value.int .i64) (by omega),rfl,by omega,F7.out.1,F7.out.2,S7,O7,B7⟩
     case measure=>simp [intOf];omega
    ·have ht0b:((t:Int) == 0)=false:=by rw [beq_eq_false_iff_ne];omega
     by_cases hl:t < L
     ·have hlb:decide ((t:Int) < (L:Int))=true:=decide_eq_true (by omega)
      have bA:=(Below.refl wr.heap.size wr).alloc (Nat.le_refl _) (.cells #[.int .i64 0] 3)
      have ownA:=own_below OX.out bA
      have rA:=Rd.new wr 3 #[.int .i64 0] 1 (I64 [0]) (by simp [I64]) (by simp)
      have e1:N+1≤maxLen:=by simp only [maxLen];omega
      have e2:(N+1)*8≤140737488355328:=by omega
      have e3:w.heap.size≤(wr.alloc (.cells #[.int .i64 0] 3)).heap.size:=by have:=BX.out.size;simp;omega
      go_wp2_with (first
       | (at_builtin;go_must (refine wpList_append_rd _ rfl _ _ 25 rfl w.heap.size 3 i0 (.int .i64 0) 8 Tryz.underlying25 hi0 hz0 hz1 hz2 rfl (.slice A N c) N (I64 (ofNB l)) rfl ownA (wr.heap.size+1) (some ⟨wr.heap.size,0,none⟩) 1 1 (I64 [0]) rfl rA (I64_one _) e1 e2 e3 ?_)))
      intro A7 c7 w7 hc7 hm7 hown7 hg7 _
      have O7:Hid (w7.ownsRow w.heap.size 3 1 (.slice A7 (N+1) c7) (N+1) (I64 (ofNB (l++[0])))):=by
       have:=hown7
       rw [← I64_append] at this
       rw [ofN_appendB]
       exact this
      have B7:Hid (Below w.heap.size w w7):=(BX.out.trans (bA.mono BX.out.size)).trans (Below.appended ownA hg7 e3)
      have S7:=Lib.hid (hs.out.add0)
      have F7:Hid (r+1+(e)≤2*P - (N+1)∧(2*P - (N+1) - (r+1+(e)))%2=0):=by
       have h1:=HLL.out
       have h2:=HTT.out
       have h3:=HOP.out
       have h4:=HPAR.out
       exact ⟨by omega,by omega⟩
      clear bA ownA rA e1 e2 e3 hown7 hg7
      go_wp2_with fail
      go_roundw
      case rel=>exact ⟨N+1,r+1,e,c7,_,A7,by go_num,congrArg (Value.int .i64) (by omega),congrArg (Value.int .i64) (by omega),rfl,by omega,F7.out.1,F7.out.2,S7,O7,B7⟩
      case measure=>simp [intOf];omega
     ·have hlb:decide ((t:Int) < (L:Int))=false:=decide_eq_false (by omega)
      by_cases hr0:0 < r
      ·obtain ⟨r',rfl⟩:∃ r',r=r'+1:=⟨r - 1,by omega⟩
       have hrI:(0:Int) < (r':Int)+1:=by omega
       clear hr0
       have bA:=(Below.refl wr.heap.size wr).alloc (Nat.le_refl _) (.cells #[.int .i64 1] 3)
       have ownA:=own_below OX.out bA
       have rA:=Rd.new wr 3 #[.int .i64 1] 1 (I64 [1]) (by simp [I64]) (by simp)
       have e1:N+1≤maxLen:=by simp only [maxLen];omega
       have e2:(N+1)*8≤140737488355328:=by omega
       have e3:w.heap.size≤(wr.alloc (.cells #[.int .i64 1] 3)).heap.size:=by have:=BX.out.size;simp;omega
       go_wp2_with (first
        | (at_builtin;go_must (refine wpList_append_rd _ rfl _ _ 25 rfl w.heap.size 3 i0 (.int .i64 0) 8 Tryz.underlying25 hi0 hz0 hz1 hz2 rfl (.slice A N c) N (I64 (ofNB l)) rfl ownA (wr.heap.size+1) (some ⟨wr.heap.size,0,none⟩) 1 1 (I64 [1]) rfl rA (I64_one _) e1 e2 e3 ?_)))
       intro A7 c7 w7 hc7 hm7 hown7 hg7 _
       have O7:Hid (w7.ownsRow w.heap.size 3 1 (.slice A7 (N+1) c7) (N+1) (I64 (ofNB (l++[1])))):=by
        have:=hown7
        rw [← I64_append] at this
        rw [ofN_appendB]
        exact this
       have B7:Hid (Below w.heap.size w w7):=(BX.out.trans (bA.mono BX.out.size)).trans (Below.appended ownA hg7 e3)
       have S7:=Lib.hid (hs.out.add1)
       have F7:Hid (r'+(e)≤2*P - (N+1)∧(2*P - (N+1) - (r'+(e)))%2=0):=by
        have h1:=HLL.out
        have h2:=HTT.out
        have h3:=HOP.out
        have h4:=HPAR.out
        exact ⟨by omega,by omega⟩
       clear bA ownA rA e1 e2 e3 hown7 hg7
       go_wp2_with fail
       go_roundw
       case rel=>exact ⟨N+1,r',e,c7,_,A7,by go_num,congrArg (Value.int .i64) (by omega),congrArg (Value.int .i64) (by omega),rfl,by omega,F7.out.1,F7.out.2,S7,O7,B7⟩
       case measure=>simp [intOf];omega
      ·obtain rfl:r=0:=by omega
       obtain ⟨e',rfl⟩:∃ e',e=e'+1:=⟨e - 1,by have:=HTT.out;omega⟩
       clear hr0
       have bA:=(Below.refl wr.heap.size wr).alloc (Nat.le_refl _) (.cells #[.int .i64 3] 3)
       have ownA:=own_below OX.out bA
       have rA:=Rd.new wr 3 #[.int .i64 3] 1 (I64 [3]) (by simp [I64]) (by simp)
       have e1:N+1≤maxLen:=by simp only [maxLen];omega
       have e2:(N+1)*8≤140737488355328:=by omega
       have e3:w.heap.size≤(wr.alloc (.cells #[.int .i64 3] 3)).heap.size:=by have:=BX.out.size;simp;omega
       go_wp2_with (first
        | (at_builtin;go_must (refine wpList_append_rd _ rfl _ _ 25 rfl w.heap.size 3 i0 (.int .i64 0) 8 Tryz.underlying25 hi0 hz0 hz1 hz2 rfl (.slice A N c) N (I64 (ofNB l)) rfl ownA (wr.heap.size+1) (some ⟨wr.heap.size,0,none⟩) 1 1 (I64 [3]) rfl rA (I64_one _) e1 e2 e3 ?_)))
       intro A7 c7 w7 hc7 hm7 hown7 hg7 _
       have O7:Hid (w7.ownsRow w.heap.size 3 1 (.slice A7 (N+1) c7) (N+1) (I64 (ofNB (l++[3])))):=by
        have:=hown7
        rw [← I64_append] at this
        rw [ofN_appendB]
        exact this
       have B7:Hid (Below w.heap.size w w7):=(BX.out.trans (bA.mono BX.out.size)).trans (Below.appended ownA hg7 e3)
       have S7:=Lib.hid (hs.out.add3)
       have F7:Hid (0+(e')≤2*P - (N+1)∧(2*P - (N+1) - (0+(e')))%2=0):=by
        have h1:=HLL.out
        have h2:=HTT.out
        have h3:=HOP.out
        have h4:=HPAR.out
        exact ⟨by omega,by omega⟩
       clear bA ownA rA e1 e2 e3 hown7 hg7
       go_wp2_with fail
       go_roundw
       case rel=>exact ⟨N+1,0,e',c7,_,A7,by go_num,congrArg (Value.int .i64) (by omega),congrArg (Value.int .i64) (by omega),rfl,by omega,F7.out.1,F7.out.2,S7,O7,B7⟩
       case measure=>simp [intOf];omega
  ·obtain rfl:N=2*P:=by omega
   obtain ⟨rfl,rfl⟩:r=0∧e=0:=by omega
   have hlb:decide (((2*P:Nat):Int) < 2*(P:Int))=false:=decide_eq_false (by omega)
   go_wp2_with fail
   go_ret
   obtain ⟨A',c',e',h1,h2⟩:=own_form hown.out
   cases e'
   exact ⟨l,A,c,hs.out,rfl,h1,h2,hown.out,hbel.out⟩

set_option maxRecDepth 100000
theorem rdecode_nil (A:Option Addr) (c:Nat) (w:World) :
  Calls Tryz.prog 30 #[.slice A 0 c] w fun e w'=>e=.returned (.agg #[.slice none 0 0,.int .i64 (-1),.int .i64 1])∧Below w.heap.size w w':=by
 have k1:=Lib.hid (Blk.new w 27 #[.slice none 0 0,.int .i64 (-1),.int .i64 1])
 have HINF:=Lib.hid info_rmap
 have HB:=Lib.hid ((Below.refl w.heap.size w).alloc (Nat.le_refl _) (.cells #[.slice none 0 0,.int .i64 (-1),.int .i64 1] 27))
 go_enter Tryz.func30,Tryz.ntmps30
 go_wp2_with fail
 refine bodyPost_ret (v:=.agg #[.slice none 0 0,.int .i64 (-1),.int .i64 1]) ?_ rfl ?_
 ·exact results_cell_row rfl _ _ w.heap.size 27 _ (0,0) _ rfl k1.out Tryz.underlying27 rfl HINF.out
 ·exact ⟨rfl,HB.out⟩
theorem z8_u8 {by_:List Int} (hb:∀ x∈by_,0≤x∧x < 256):Z8 by_=U8 (by_.map Int.toNat)∧∀ b∈by_.map Int.toNat,b < 256:=by
 refine ⟨?_,fun b h=>?_⟩
 ·unfold Z8 U8
  rw [List.map_map]
  refine List.map_congr_left fun x hx=>?_
  have:=(hb x hx).1
  simp only [Function.comp]
  rw [Int.toNat_of_nonneg this]
 ·obtain ⟨x,hx,rfl⟩:=List.mem_map.1 h
  have:=hb x hx
  omega
end Go.Proofs.YtijbdnhlpbcabaaGreatDoor
