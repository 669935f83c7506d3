/- build: the directory is made. -/
import Derived.Test.YtajjgpkahljjmaaGreatDoorZg6
import Derived.Deep.RegionWith
import Derived.Deep.RegionLaw
import Derived.Deep.AppendLies
import Derived.Deep.DeepCutAuto
import Derived.Deep.QuietTactic
import Derived.BigQuiet
import Derived.Shelf.Spec.TrailingZeros
open Go.RowKit
set_option linter.unusedVariables false
namespace Go.Proofs.YtajjgpkahljjmaaGreatDoor
theorem xblocks_c (g m c:Nat) (A:Option Addr) (w:World) (c1:w.cell? ⟨g,0,none⟩=some (.slice A m c)) (hm9:m≤1000000) :
  Calls Tryz.prog 172 #[.pointer (some ⟨g,0,none⟩)] w fun e w'=>e=.returned (.int .i64 (((m+7) / 8:Nat):Int))∧w=w':=by
 have e1:((m:Int)+8 - 1) / 8=(((m+7) / 8:Nat):Int):=by omega
 generalize (m+7) / 8=r at *
 have E1:=Lib.hid e1
 clear e1
 go_enter Tryz.func172,Tryz.ntmps172
 go_wp2
 go_ret
 exact ⟨congrArg (fun z=>Ending.returned (.int .i64 z)) E1.out,rfl⟩
theorem info_u32:(Tryz.prog.info? 157).map (fun i=>(i.zero,i.size,i.bytes))=some (some (.int .u32 0),1,4):=by kernel_rfl
theorem run_make_room (k:Nat) (hk:k≤1000000) (w:World) :
  (Instr.makeSlice 166 (.int .i64 0) (.int .i64 (k:Int))).run Tryz.prog w=.ok (.slice (some ⟨w.heap.size,0,none⟩) 0 k) (w.alloc (.cells (List.replicate k (.int .u32 0)).toArray 157)):=by
 obtain ⟨i0,hi0,hz0,hz1,hz2⟩:=info_parts info_u32
 have hr:=run_make (P:=Tryz.prog) w 166 157 i0 (.int .u32 0) Tryz.underlying166 hi0 hz0 .i64 .i64 0 (k:Int) (by omega) (by omega) (by rw [hz2];omega) (by omega)
 simp only [Int.toNat_natCast,hz1,Nat.mul_one,show (Value.int .u32 0).cells=#[.int .u32 0] from rfl] at hr
 have hz:madeCells #[Value.int .u32 0] k=(List.replicate k (Value.int .u32 0)).toArray:=Array.toList_inj.1 (by rw [toList_madeCells_one])
 rw [hz] at hr
 exact hr
theorem pop_block {V n:Nat} (h:V < 2 ^ n):pop V (512*blk n)=pop V n:=pop_all h (by unfold blk;omega)
set_option maxRecDepth 20000 in
set_option maxHeartbeats 4000000 in
theorem build1_p (g V n pb c:Nat) (A:Option Addr) (x3 x4 x5 qv:Value) (w:World) (hV:V < 2 ^ n) (hn:n≤1000000)
  (hb:Blk w g 171 #[.slice A ((n+63) / 64) c,.int .i64 (n:Int),.int .i64 ((pop V n:Nat):Int),x3,x4,x5,.slice none 0 0,.int .i64 0,qv])
  (ho:w.ownsRow (g+1) 139 1 (.slice A ((n+63) / 64) c) ((n+63) / 64) (U64 (words V ((n+63) / 64)))) (hp:Blk w pb 133 #[.pointer (some ⟨g,0,none⟩)]) :
  Calls Tryz.prog 171 #[.pointer (some ⟨pb,0,none⟩)] w fun e w'=>e=.returned (.tuple #[])∧∃ S d,
   Blk w' g 171 #[.slice A ((n+63) / 64) c,.int .i64 (n:Int),.int .i64 ((pop V n:Nat):Int),x3,x4,x5,.slice S (blk n+1) d,.int .i64 1,qv] ∧
   w'.ownsRow (g+1) 157 1 (.slice S (blk n+1) d) (blk n+1) (U32 (aheadL V (blk n+1)))∧Mod (fun i=>i=g) w w':=by
 obtain ⟨i0,hi0,hz0,hz1,hz2⟩:=info_parts info_u32
 obtain ⟨m,hm⟩:∃ m,m=(n+63) / 64:=⟨_,rfl⟩
 have hbm:blk n=(m+7) / 8:=by unfold blk;omega
 have HBM:=Lib.hid hbm
 have hm9:m≤20000:=by omega
 have hb9:blk n≤3000:=by omega
 rw [← hm] at hb ho ⊢
 have hgp:pb≠g:=fun e=>by
  subst e
  unfold Blk at hb hp
  rw [hb] at hp
  simp at hp
 have c0:w.cell? ⟨g,0,none⟩=some (.slice A m c):=hb.cell 0
 have c6:w.cell? ⟨g,6,none⟩=some (.slice none 0 0):=hb.cell 6
 have f6:=hb.frozen 6
 have hgl:=hb.lt
 have hpl:=hp.lt
 have p0:w.cell? ⟨pb,0,none⟩=some (.pointer (some ⟨g,0,none⟩)):=hp.cell 0
 have XB:=Lib.hid (fun w' h=>xblocks_c g m c A w' h (by omega))
 rw [← hbm] at XB
 have hmk:=run_make_room (blk n+1) (by omega)
 have hcast:((blk n+1:Nat):Int)=((blk n:Nat):Int)+1:=by omega
 rw [hcast] at hmk
 have HB:=Lib.hid hb
 have HO:=Lib.hid ho
 have HP:=Lib.hid hp
 have HV:=Lib.hid hV
 have HM:=Lib.hid hm
 have PB:=Lib.hid (pop_block hV)
 clear hb ho hp hV hm hbm hcast
 generalize blk n=nb at *
 go_enter Tryz.func171,Tryz.ntmps171
 have FIN:Hid (Blk ((w.setCell ⟨g,6,none⟩ (.slice (some ⟨w.heap.size,0,none⟩) 0 (nb+1))).alloc (.cells (Array.replicate (nb+1) (.int .u32 0)) 157)).drew g 171 #[.slice A m c,.int .i64 (n:Int),.int .i64 ((pop V n:Nat):Int),x3,x4,x5,.slice (some ⟨w.heap.size,0,none⟩) 0 (nb+1),.int .i64 0,qv] ∧
   ((w.setCell ⟨g,6,none⟩ (.slice (some ⟨w.heap.size,0,none⟩) 0 (nb+1))).alloc (.cells (Array.replicate (nb+1) (.int .u32 0)) 157)).drew.ownsRow w.heap.size 157 1 (.slice (some ⟨w.heap.size,0,none⟩) 0 (nb+1)) 0 (U32 (aheadL V 0)) ∧
   Mod (fun i=>i=g) w ((w.setCell ⟨g,6,none⟩ (.slice (some ⟨w.heap.size,0,none⟩) 0 (nb+1))).alloc (.cells (Array.replicate (nb+1) (.int .u32 0)) 157)).drew):=by
  refine ⟨?_,?_,Mod.drew (Mod.alloc (Mod.setCell (p:=⟨g,6,none⟩) (Mod.refl (fun i=>i=g) w) (fun _=>rfl) _) _)⟩
  ·have:=HB.out.set_ 6 (.slice (some ⟨w.heap.size,0,none⟩) 0 (nb+1))
   exact ((Blk.alloc (by simpa using this) _).drewN 1)
  ·have hs:(w.setCell ⟨g,6,none⟩ (.slice (some ⟨w.heap.size,0,none⟩) 0 (nb+1))).heap.size=w.heap.size:=by simp [World.setCell]
   have:=World.ownsRow_made (base:=w.heap.size) (e:=157) (size:=1) (w.setCell ⟨g,6,none⟩ (.slice (some ⟨w.heap.size,0,none⟩) 0 (nb+1))) (Array.replicate (nb+1) (.int .u32 0)) (nb+1) (by rw [hs];exact Nat.le_refl _) (by simp only [maxLen];omega) (by simp)
   rw [hs] at this
   exact own_below this (Below.refl _ _).drew
 have HGW:Hid (g+1≤w.heap.size):=hgl
 have wnb:IntKind.i64.wrap ((nb:Int)+1)=(nb:Int)+1:=by rw [IntKind.wrap_i64];omega
 go_upto_region 0 with fail
 go_cut [0] from 4 to 10 (fun s wx=>s=.pointer (some ⟨pb,0,none⟩)∧∃ S,Hid (Blk wx g 171 #[.slice A m c,.int .i64 (n:Int),.int .i64 ((pop V n:Nat):Int),x3,x4,x5,.slice S 0 (nb+1),.int .i64 0,qv])∧Hid (wx.ownsRow w.heap.size 157 1 (.slice S 0 (nb+1)) 0 (U32 (aheadL V 0)))∧Hid (Mod (fun i=>i=g) w wx))
 case first =>
  go_region_with (first
   | (go_at_call 172;refine (XB.out w.drew c0).mono ?_;rintro e w9 ⟨rfl,rfl⟩))
  all_goals (
   go_wp2_with fail
   go_meet
   exact ⟨rfl,_,FIN.out.1,FIN.out.2.1,FIN.out.2.2⟩)
 case rest =>
  obtain ⟨rfl,S0,hb1,ho1,hm1⟩:=hcut
  clear wnb FIN
  have hp1:=HP.out.mod hm1.out hgp
  have p1:wc.cell? ⟨pb,0,none⟩=some (.pointer (some ⟨g,0,none⟩)):=hp1.cell 0
  have b0:wc.cell? ⟨g,0,none⟩=some (.slice A m c):=hb1.out.cell 0
  have HP1:=Lib.hid hp1
  have HW:Hid (∀ w',Mod (fun i=>i=g) w w'→w'.ownsRow (g+1) 139 1 (.slice A m c) m (U64 (words V m))):=fun w' hmm=>own_mod HO.out hmm fun k hk hx=>by
   have:=(HO.out.lt k hk).1
   omega
  clear hp1 c0 c6 f6 p0 hgl hpl HO hmk XB
  have hq0:(0+7) / 8=0:=rfl
  go_wp2_with fail
  go_loopw [1,16] (fun s i wr=>∃ (k q r d:Nat) (S:Option Addr),k≤m∧i=.int .i64 (k:Int)∧s=.int .i64 (r:Int)∧r≤64*k∧Hid (r=pop V (64*k))∧Hid (q=(k+7) / 8)∧Hid (Blk wr g 171 #[.slice A m c,.int .i64 (n:Int),.int .i64 ((pop V n:Nat):Int),x3,x4,x5,.slice S q d,.int .i64 0,qv]) ∧
   Hid (wr.ownsRow w.heap.size 157 1 (.slice S q d) q (U32 (aheadL V q)))∧Hid (Mod (fun i=>i=g) w wr)) (fun _ i _=>m - (intOf i).toNat)
  case atStart=>exact ⟨0,0,0,nb+1,S0,by omega,rfl,rfl,by omega,rfl,rfl,hb1.out,ho1.out,hm1.out⟩
  case round =>
   clear hb1 ho1 hm1 p1 b0 HP1 hq0
   obtain ⟨k,q,r,d,S,hk,rfl,rfl,hr,hrp,hqk,hbk,hok,hmk⟩:=hrel
   have hpk:=HP.out.mod hmk.out hgp
   have p0:wr.cell? ⟨pb,0,none⟩=some (.pointer (some ⟨g,0,none⟩)):=hpk.cell 0
   have c6:wr.cell? ⟨g,6,none⟩=some (.slice S q d):=hbk.out.cell 6
   have f6:=hbk.out.frozen 6
   have hgl:=hbk.out.lt
   have hpl:=hpk.lt
   have hq9:q≤3000:=by have:=hqk.out;omega
   by_cases hlt:k < m
   ·have hwk:=HW.out wr hmk.out
    obtain ⟨bw,ow,rfl,hbw,k1⟩:=(Rd.ofOwn hwk).u64 (by omega)
    have t1:=k1 k hlt
    rw [words_get _ _ _ hlt] at t1
    obtain ⟨x,hx⟩:∃ x,x=wd V k:=⟨_,rfl⟩
    have hx64:x < 2 ^ 64:=by rw [hx];exact wd_lt V k
    have hpn:=pop_words V k
    rw [← hx,← hrp.out] at hpn
    rw [← hx] at t1
    have OC:=Lib.hid (fun w'=>onesCount_p x w' hx64)
    have hpx:=pop_le x 64
    generalize pop x 64=px at *
    have HPN:=Lib.hid hpn
    have HPK:=Lib.hid hpk
    clear hwk k1 hx hpn hpk hx64
    by_cases h8:k%8=0
    ·have h8':(k:Int)%8=0:=by omega
     have hq1:Hid (q+1=(k+1+7) / 8):=by show _=_;have:=hqk.out;omega
     have NX:Hid (U32 (aheadL V q)++[Value.int .u32 (r:Int)]=U32 (aheadL V (q+1))):=by
      show _=_
      have:=hqk.out
      rw [aheadL_next,U32_append,show 512*q=64*k by omega,← hrp.out];rfl
     have w32:IntKind.u32.wrap (r:Int)=(r:Int):=by simp [IntKind.wrap,IntKind.signed,IntKind.bits];omega
     have e1:q+1≤maxLen:=by simp only [maxLen];omega
     have e2:(q+1)*4≤140737488355328:=by omega
     have hws:w.heap.size≤wr.heap.size:=hmk.out.size
     have hgo:Hid ((Value.slice S q d).ownBlock≠some g):=own_ne hok.out hbk.out (by decide)
     have hpo:Hid ((Value.slice S q d).ownBlock≠some pb):=own_ne hok.out HPK.out (by decide)
     go_wp2_with fail
     go_region_law
      (first
        | (refine step_append_lies _ (by rfl) _ _ _ (by rfl) w.heap.size 157 i0 _ 1 4 Tryz.underlying166 hi0 hz0 hz1 hz2 rfl (by omega) (.slice S q d) q (U32 (aheadL V q)) (by rfl) ((hok.out.alloc _).drew)
            ⟨wr.heap.size,0,none⟩ 1 1 [.int .u32 (r:Int)] (by rfl) (by rfl) (World.news_of_block (cs:=#[.int .u32 (r:Int)]) (t:=157) (fr:=(0,0)) (heap_alloc_new wr _)) (by simp [Value.oneCell'])
            (by omega) e1 e2 (by simp;omega) (wr.heap.size+1) (by simp) ?_;intro gg cap w3 hown1 hgrow hat hlt3
           have hgm:=Mod.ofGrown hgrow
           have b3:=((hbk.out.alloc (.cells #[.int .u32 (r:Int)] 157)).drewN 1).mod hgm (fun e=>hgo.out e.symm)
           have q3:=((HPK.out.alloc (.cells #[.int .u32 (r:Int)] 157)).drewN 1).mod hgm (fun e=>hpo.out e.symm)
           have e6:w3.cell? ⟨g,6,none⟩=some (.slice S q d):=b3.cell 6
           have g6:=b3.frozen 6
           have e0:w3.cell? ⟨pb,0,none⟩=some (.pointer (some ⟨g,0,none⟩)):=q3.cell 0
           have HGM:=Lib.hid hgm
           have HOW:=Lib.hid hown1
           have B3:=Lib.hid b3
           clear hgm hgrow hown1 hat b3 q3))
     all_goals (
      have HB4:Hid (Blk (w3.setCell ⟨g,6,none⟩ (.slice (some ⟨gg,0,none⟩) (q+1) cap)) g 171 #[.slice (some ⟨bw,ow,none⟩) m c,.int .i64 (n:Int),.int .i64 ((pop V n:Nat):Int),x3,x4,x5,.slice (some ⟨gg,0,none⟩) (q+1) cap,.int .i64 0,qv]):=by
       have:=B3.out.set_ 6 (.slice (some ⟨gg,0,none⟩) (q+1) cap)
       show Blk _ _ _ _
       simpa using this
      have HO4:Hid ((w3.setCell ⟨g,6,none⟩ (.slice (some ⟨gg,0,none⟩) (q+1) cap)).ownsRow w.heap.size 157 1 (.slice (some ⟨gg,0,none⟩) (q+1) cap) (q+1) (U32 (aheadL V (q+1)))):=by
       rw [← NX.out]
       exact own_mod HOW.out (Mod.setCell (p:=⟨g,6,none⟩) (Mod.refl (fun i=>i=g) w3) (fun _=>rfl) _) (fun i hi hx=>by have:=(HOW.out.lt i hi).1;have:=HGW.out;omega)
      have HM4:Hid (Mod (fun i=>i=g) w (w3.setCell ⟨g,6,none⟩ (.slice (some ⟨gg,0,none⟩) (q+1) cap))) :=
       Mod.setCell (p:=⟨g,6,none⟩) (((hmk.out.alloc _).drew).trans HGM.out (fun i hi hx=>by have:=(hok.out.lt i hx.symm).1;omega)) (fun _=>rfl) _
      clear B3 HGM HOW
      go_wp2_with fail
      refine (OC.out _).mono ?_
      rintro e w9 ⟨rfl,rfl⟩
      go_wp2_with fail
      go_roundw
      case rel=>exact ⟨k+1,q+1,r+px,cap,some ⟨gg,0,none⟩,by omega,by go_num,by go_num,by omega,HPN.out.symm,hq1.out,HB4.out,HO4.out,HM4.out⟩
      case measure=>simp [intOf];omega)
    ·have h8':((k:Int)%8 == 0)=false:=by rw [beq_eq_false_iff_ne];omega
     have hq1:Hid (q=(k+1+7) / 8):=by show _=_;have:=hqk.out;omega
     go_wp2_with fail
     refine (OC.out _).mono ?_
     rintro e w9 ⟨rfl,rfl⟩
     go_wp2_with fail
     go_roundw
     case rel=>exact ⟨k+1,q,r+px,d,S,by omega,by go_num,by go_num,by omega,HPN.out.symm,hq1.out,hbk.out,hok.out,hmk.out⟩
     case measure=>simp [intOf];omega
   ·obtain rfl:m=k:=by omega
    have HPK:=Lib.hid hpk
    have NX:Hid (U32 (aheadL V q)++[Value.int .u32 (r:Int)]=U32 (aheadL V (q+1))):=by
     show _=_
     have h1:=hqk.out
     have h2:=HBM.out
     rw [aheadL_next,U32_append,show q=nb by omega,PB.out,hrp.out,pop_all HV.out (by have:=HM.out;omega)];rfl
    have hqn:Hid (q=nb):=by show _=_;rw [hqk.out,HBM.out]
    have w32:IntKind.u32.wrap (r:Int)=(r:Int):=by simp [IntKind.wrap,IntKind.signed,IntKind.bits];omega
    have e1:q+1≤maxLen:=by simp only [maxLen];omega
    have e2:(q+1)*4≤140737488355328:=by omega
    have hws:w.heap.size≤wr.heap.size:=hmk.out.size
    have hgo:Hid ((Value.slice S q d).ownBlock≠some g):=own_ne hok.out hbk.out (by decide)
    have hpo:Hid ((Value.slice S q d).ownBlock≠some pb):=own_ne hok.out HPK.out (by decide)
    clear hpk
    go_wp2_with fail
    go_region_law
     (first
       | (refine step_append_lies _ (by rfl) _ _ _ (by rfl) w.heap.size 157 i0 _ 1 4 Tryz.underlying166 hi0 hz0 hz1 hz2 rfl (by omega) (.slice S q d) q (U32 (aheadL V q)) (by rfl) ((hok.out.alloc _).drew)
           ⟨wr.heap.size,0,none⟩ 1 1 [.int .u32 (r:Int)] (by rfl) (by rfl) (World.news_of_block (cs:=#[.int .u32 (r:Int)]) (t:=157) (fr:=(0,0)) (heap_alloc_new wr _)) (by simp [Value.oneCell'])
           (by omega) e1 e2 (by simp;omega) (wr.heap.size+1) (by simp) ?_;intro gg cap w3 hown1 hgrow hat hlt3
          have hgm:=Mod.ofGrown hgrow
          have b3:=((hbk.out.alloc (.cells #[.int .u32 (r:Int)] 157)).drewN 1).mod hgm (fun e=>hgo.out e.symm)
          have q3:=((HPK.out.alloc (.cells #[.int .u32 (r:Int)] 157)).drewN 1).mod hgm (fun e=>hpo.out e.symm)
          have e6:w3.cell? ⟨g,6,none⟩=some (.slice S q d):=b3.cell 6
          have g6:=b3.frozen 6
          have e0:w3.cell? ⟨pb,0,none⟩=some (.pointer (some ⟨g,0,none⟩)):=q3.cell 0
          have HGM:=Lib.hid hgm
          have HOW:=Lib.hid hown1
          have B3:=Lib.hid b3
          clear hgm hgrow hown1 hat b3 q3))
    all_goals (
      have HB4:Hid (Blk (w3.setCell ⟨g,6,none⟩ (.slice (some ⟨gg,0,none⟩) (q+1) cap)) g 171 #[.slice A m c,.int .i64 (n:Int),.int .i64 ((pop V n:Nat):Int),x3,x4,x5,.slice (some ⟨gg,0,none⟩) (q+1) cap,.int .i64 0,qv]):=by
       have:=B3.out.set_ 6 (.slice (some ⟨gg,0,none⟩) (q+1) cap)
       show Blk _ _ _ _
       simpa using this
      have HO4:Hid ((w3.setCell ⟨g,6,none⟩ (.slice (some ⟨gg,0,none⟩) (q+1) cap)).ownsRow w.heap.size 157 1 (.slice (some ⟨gg,0,none⟩) (q+1) cap) (q+1) (U32 (aheadL V (q+1)))):=by
       rw [← NX.out]
       exact own_mod HOW.out (Mod.setCell (p:=⟨g,6,none⟩) (Mod.refl (fun i=>i=g) w3) (fun _=>rfl) _) (fun i hi hx=>by have:=(HOW.out.lt i hi).1;have:=HGW.out;omega)
      have HM4:Hid (Mod (fun i=>i=g) w (w3.setCell ⟨g,6,none⟩ (.slice (some ⟨gg,0,none⟩) (q+1) cap))) :=
       Mod.setCell (p:=⟨g,6,none⟩) (((hmk.out.alloc _).drew).trans HGM.out (fun i hi hx=>by have:=(hok.out.lt i hx.symm).1;omega)) (fun _=>rfl) _
      clear B3 HGM HOW
      have d7:(w3.setCell ⟨g,6,none⟩ (.slice (some ⟨gg,0,none⟩) (q+1) cap)).cell? ⟨g,7,none⟩=some (.int .i64 0):=HB4.out.cell 7
      have g7:=HB4.out.frozen 7
      have AD:=Lib.hid (add64 ⟨g,7,none⟩ 0 _ d7 g7 (by omega) (by omega))
      go_wp2_with fail
      refine AD.out.mono ?_
      rintro e w9 ⟨rfl,rfl⟩
      go_wp2_with fail
      refine bodyPost_end (results_none rfl _ _ _) rfl ⟨rfl,some ⟨gg,0,none⟩,cap,?_,?_,?_⟩
      ·rw [← hqn.out]
       have:=HB4.out.set_ 7 (.int .i64 1)
       simpa using this
      ·rw [← hqn.out]
       exact own_mod (HO4.out.base_le' HGW.out) (Mod.setCell (p:=⟨g,7,none⟩) (Mod.refl (fun i=>i=g) _) (fun _=>rfl) _) (fun i hi hx=>by have:=(HO4.out.lt i hi).1;have:=HGW.out;omega)
      ·exact Mod.setCell (p:=⟨g,7,none⟩) HM4.out (fun _=>rfl) _)
set_option maxRecDepth 100000 in
set_option maxHeartbeats 1600000 in
theorem slow_p (g V n pb q:Nat) (w:World) (h:IdxAt w g V n false q) (hp:Blk w pb 133 #[.pointer (some ⟨g,0,none⟩)]) :
  Calls Tryz.prog 183 #[.pointer (some ⟨g,3,none⟩),.func (.func 171) #[] #[.pointer (some ⟨pb,0,none⟩)]] w fun e w'=>e=.returned (.tuple #[])∧IdxAt w' g V n true q∧Mod (fun i=>i=g) w w':=by
 obtain ⟨hV,hn,A,c,H,hb,ho,hd⟩:=h
 have hH:H=.slice none 0 0:=hd
 subst hH
 have hgp:pb≠g:=fun e=>by
  subst e
  unfold Blk at hb hp
  rw [hb] at hp
  simp at hp
 have c3:w.cell? ⟨g,3,none⟩=some (.int .u32 0):=hb.cell 3
 have c4:w.cell? ⟨g,4,none⟩=some (.int .i32 0):=hb.cell 4
 have f4:=hb.frozen 4
 have LK:=Lib.hid (lock_free ⟨g,4,none⟩ w c4 f4)
 have hb1:Blk (w.setCell ⟨g,4,none⟩ (.int .i32 1)) g 171 #[.slice A ((n+63) / 64) c,.int .i64 (n:Int),.int .i64 ((pop V n:Nat):Int),.int .u32 0,.int .i32 1,.int .u32 0,.slice none 0 0,.int .i64 0,.int .i64 (q:Int)]:=by
  have:=hb.set_ 4 (.int .i32 1)
  simpa [b01] using this
 have m1:Mod (fun i=>i=g) w (w.setCell ⟨g,4,none⟩ (.int .i32 1)):=Mod.setCell (p:=⟨g,4,none⟩) (Mod.refl (fun i=>i=g) w) (fun _=>rfl) _
 have ho1:(w.setCell ⟨g,4,none⟩ (.int .i32 1)).ownsRow (g+1) 139 1 (.slice A ((n+63) / 64) c) ((n+63) / 64) (U64 (words V ((n+63) / 64))):=own_mod ho m1 fun k hk hx=>by
  have:=(ho.lt k hk).1;omega
 have BD:=Lib.hid (build1_p g V n pb c A (.int .u32 0) (.int .i32 1) (.int .u32 0) (.int .i64 (q:Int)) _ hV hn hb1 ho1 (hp.mod m1 hgp))
 have d3:(w.setCell ⟨g,4,none⟩ (.int .i32 1)).cell? ⟨g,3,none⟩=some (.int .u32 0):=hb1.cell 3
 have hl:=run_call_load (P:=Tryz.prog) Tryz.func190 (by kernel_rfl) (by kernel_rfl) (by kernel_rfl) .u32 (by kernel_rfl) d3
 have hnot:∀ (x:Bool) (w:World),(Op.unary .not (.bool x)).run Tryz.prog w=.ok (.bool (!x)) w:=fun _ _=>rfl
 have HO:=Lib.hid ho1
 have HM1:=Lib.hid m1
 have HV:=Lib.hid (And.intro hV hn)
 clear hb hp hb1 m1 ho1 ho hd hgp hV c4 f4
 generalize w.setCell ⟨g,4,none⟩ (.int .i32 1)=w1 at *
 go_enter_defers Tryz.func183,Tryz.ntmps183
 go_wp2_with fail
 refine LK.out.mono ?_
 rintro e w' ⟨rfl,rfl⟩
 go_wp2_with (first | (go_at_call 182;go_in))
 refine BD.out.mono ?_
 rintro e w2 ⟨rfl,S,d,hb2,ho2,m2⟩
 have FIN:Hid (IdxAt ((w2.drew.setCell ⟨g,3,none⟩ (.int .u32 1)).setCell ⟨g,4,none⟩ (.int .i32 0)) g V n true q∧Mod (fun i=>i=g) w ((w2.drew.setCell ⟨g,3,none⟩ (.int .u32 1)).setCell ⟨g,4,none⟩ (.int .i32 0))):=by
  have m3:Mod (fun i=>i=g) w2 ((w2.drew.setCell ⟨g,3,none⟩ (.int .u32 1)).setCell ⟨g,4,none⟩ (.int .i32 0)):=Mod.setCell (p:=⟨g,4,none⟩) (Mod.setCell (p:=⟨g,3,none⟩) (Mod.drew (Mod.refl (fun i=>i=g) w2)) (fun _=>rfl) _) (fun _=>rfl) _
  have hm:Mod (fun i=>i=g) w ((w2.drew.setCell ⟨g,3,none⟩ (.int .u32 1)).setCell ⟨g,4,none⟩ (.int .i32 0)):=(HM1.out.trans m2 fun _ _ h=>h).trans m3 fun _ _ h=>h
  refine ⟨⟨HV.out.1,HV.out.2,A,c,.slice S (blk n+1) d,?_,?_,S,d,rfl,?_⟩,hm⟩
  ·have:=((hb2.below (Below.refl _ _).drew).set_ 3 (.int .u32 1)).set_ 4 (.int .i32 0)
   simpa [b01] using this
  ·exact own_mod (own_mod HO.out m2 fun k hk hx=>by have:=(HO.out.lt k hk).1;omega) m3 fun k hk hx=>by
    have:=(HO.out.lt k hk).1;omega
  ·exact own_mod ho2 m3 fun k hk hx=>by have:=(ho2.lt k hk).1;omega
 have e3:w2.cell? ⟨g,3,none⟩=some (.int .u32 0):=hb2.cell 3
 have e4:w2.cell? ⟨g,4,none⟩=some (.int .i32 1):=hb2.cell 4
 have g3:=hb2.frozen 3
 have g4:=hb2.frozen 4
 have HB2:=Lib.hid hb2
 clear hb2 ho2 m2 d3 hl
 go_wp2_with fail
 refine leaves_cons (f:=193) (args:=#[.pointer (some ⟨g,3,none⟩),.bool true]) (by simp) (by simp [go_sem]) ?_
 refine (store_deferred ⟨g,3,none⟩ (.int .u32 0) .returning _ e3 g3).mono ?_
 rintro e u' w'' ⟨rfl,rfl,rfl⟩
 refine leaves_cons (f:=192) (args:=#[.pointer (some ⟨g,4,none⟩)]) (by simp [settle]) (by simp [go_sem]) ?_
 refine (unlock_deferred ⟨g,4,none⟩ _ _ ?_ ?_).mono ?_
 ·exact (World.cell?_setCell_other _ ⟨g,3,none⟩ ⟨g,4,none⟩ _ (by simp)).trans e4
 ·exact ((HB2.out.below (Below.refl _ _).drew).set_ 3 (.int .u32 1)).frozen 4
 rintro e u' w'' ⟨rfl,rfl,rfl⟩
 have F:=FIN.out
 simp [Leaves,settle,results,Tryz.results183]
 exact F
set_option maxRecDepth 100000 in
set_option maxHeartbeats 1600000 in
theorem do_first (g V n pb q:Nat) (w:World) (h:IdxAt w g V n false q) (hp:Blk w pb 133 #[.pointer (some ⟨g,0,none⟩)]) :
  Calls Tryz.prog 170 #[.pointer (some ⟨g,3,none⟩),.func (.func 171) #[] #[.pointer (some ⟨pb,0,none⟩)]] w fun e w'=>e=.returned (.tuple #[])∧IdxAt w' g V n true q∧Mod (fun i=>i=g) w w':=by
 have SL:=Lib.hid (slow_p g V n pb q w h hp)
 obtain ⟨hV,hn,A,c,H,hb,ho,hd⟩:=h
 have c3:w.cell? ⟨g,3,none⟩=some (.int .u32 0):=hb.cell 3
 have hl:=run_call_load (P:=Tryz.prog) Tryz.func190 (by kernel_rfl) (by kernel_rfl) (by kernel_rfl) .u32 (by kernel_rfl) c3
 have hnot:∀ (x:Bool) (w:World),(Op.unary .not (.bool x)).run Tryz.prog w=.ok (.bool (!x)) w:=fun _ _=>rfl
 clear hb ho hd hp
 go_enter Tryz.func170,Tryz.ntmps170
 go_wp2_with (first | (go_at_call 182;go_in))
 refine SL.out.mono ?_
 rintro e w2 ⟨rfl,h2⟩
 have H2:=Lib.hid h2
 clear h2
 go_wp2_with fail
 exact bodyPost_end (results_none rfl _ _ _) rfl ⟨rfl,H2.out⟩
theorem build_p (g V n q:Nat) (d:Bool) (w:World) (h:IdxAt w g V n d q) :
  Calls Tryz.prog 162 #[.pointer (some ⟨g,0,none⟩)] w fun e w'=>e=.returned (.tuple #[])∧IdxAt w' g V n true q∧Mod (fun i=>i=g) w w':=by
 have hmf:∀ (fn:Fn) (first cap:Array Value) (w:World),(Instr.makeFunc fn first cap).run Tryz.prog w=.ok (.func fn first cap) w:=fun _ _ _ _=>rfl
 have hbx:=(Below.refl w.heap.size w).alloc (Nat.le_refl _) (.cells #[.pointer (some ⟨g,0,none⟩)] 133)
 have h1:=h.below hbx
 have m0:Mod (fun i=>i=g) w (w.alloc (.cells #[.pointer (some ⟨g,0,none⟩)] 133)):=Mod.alloc (Mod.refl _ w) _
 have hgl:=h.lt
 cases d with
 | false =>
   have DF:=Lib.hid (do_first g V n w.heap.size q _ h1 (Blk.new w _ _))
   have M0:=Lib.hid m0
   clear h h1 hbx m0
   go_enter Tryz.func162,Tryz.ntmps162
   go_wp2_with fail
   refine DF.out.mono ?_
   rintro e w2 ⟨rfl,h2,m2⟩
   have H2:=Lib.hid h2
   have M2:Hid (Mod (fun i=>i=g) w w2):=M0.out.trans m2 fun _ _ h=>h
   clear h2 m2
   go_wp2_with fail
   exact bodyPost_end (results_none rfl _ _ _) rfl ⟨rfl,H2.out,M2.out⟩
 | true =>
   have c3:(w.alloc (.cells #[.pointer (some ⟨g,0,none⟩)] 133)).cell? ⟨g,3,none⟩=some (.int .u32 1):=by
    obtain ⟨_,_,A,c,H,hb,_⟩:=h1
    exact hb.cell 3
   have DD:=Lib.hid (fun fv=>do_done ⟨g,3,none⟩ fv _ c3)
   have M0:=Lib.hid m0
   have H1:=Lib.hid h1
   clear h h1 hbx m0 c3
   go_enter Tryz.func162,Tryz.ntmps162
   go_wp2_with fail
   refine (DD.out _).mono ?_
   rintro e w2 ⟨rfl,rfl⟩
   go_wp2_with fail
   exact bodyPost_end (results_none rfl _ _ _) rfl ⟨rfl,H1.out,M0.out⟩
theorem pop_le_mod (x r:Nat) (h:r≤64):pop (x%2 ^ 64) r=pop x r:=by
 rw [← pop_mod (x%2 ^ 64) r,← pop_mod x r,Nat.mod_mod_of_dvd _ (Nat.pow_dvd_pow 2 h)]
theorem pop_part (V a r:Nat) (h:r≤64):pop V (64*a+r)=pop V (64*a)+pop (wd V a) r:=by
 rw [pop_add]
 unfold wd
 rw [pop_le_mod _ _ h]
theorem pop_shl (x s:Nat) (h:s≤64):pop (x*2 ^ s%2 ^ 64) 64=pop x (64 - s):=by
 rw [pop_mod]
 have:pop (x*2 ^ s) (s+(64 - s))=pop (x*2 ^ s) s+pop (x*2 ^ s / 2 ^ s) (64 - s):=pop_add _ _ _
 rw [show s+(64 - s)=64 by omega] at this
 rw [this,Nat.mul_div_cancel _ (Nat.two_pow_pos s),← pop_mod (x*2 ^ s) s,Nat.mul_mod_left,pop_zero,Nat.zero_add]
def cb (bit:Int) (V i:Nat):Nat:=if bit=0 then i - pop V i else pop V i
theorem isBit_p (b:Int) (w:World) :
  Calls Tryz.prog 161 #[.int .i64 b] w fun e w'=>e=.returned (.bool (decide (b=0∨b=1)))∧w=w':=by
 by_cases h0:b=0
 ·have hd:decide (b=0∨b=1)=true:=decide_eq_true (.inl h0)
  rw [hd]
  have g0:(b == 0)=true:=by rw [beq_iff_eq];exact h0
  clear hd h0
  go_enter Tryz.func161,Tryz.ntmps161
  go_wp2
  go_ret
  exact ⟨rfl,rfl⟩
 ·have g0:(b == 0)=false:=by rw [beq_eq_false_iff_ne];exact h0
  by_cases h1:b=1
  ·have hd:decide (b=0∨b=1)=true:=decide_eq_true (.inr h1)
   rw [hd]
   have g1:(b == 1)=true:=by rw [beq_iff_eq];exact h1
   clear hd h0 h1
   go_enter Tryz.func161,Tryz.ntmps161
   go_wp2
   go_ret
   exact ⟨rfl,rfl⟩
  ·have hd:decide (b=0∨b=1)=false:=decide_eq_false (by omega)
   rw [hd]
   have g1:(b == 1)=false:=by rw [beq_eq_false_iff_ne];exact h1
   clear hd h0 h1
   go_enter Tryz.func161,Tryz.ntmps161
   go_wp2
   go_ret
   exact ⟨rfl,rfl⟩
theorem IdxAt.dir {w:World} {g V n q:Nat} (h:IdxAt w g V n true q):∃ b c,w.cell? ⟨g,6,none⟩=some (.slice (some ⟨b,0,none⟩) (blk n+1) c)∧b < w.heap.size∧∀ j,j≤blk n→w.cell? ⟨b,j,none⟩=some (.int .u32 ((pop V (512*j):Nat):Int)):=by
 obtain ⟨_,_,A,c,H,hb,_,S,d,rfl,ho⟩:=h
 obtain ⟨b,rfl,_,hbl⟩:=own_some ho (by omega)
 refine ⟨b,d,hb.cell 6,hbl,fun j hj=>?_⟩
 rw [ho.cellAt j (by omega),U32_get _ _ (by rw [aheadL_len];omega),aheadL_get _ _ _ (by omega)]
theorem IdxAt.word {w:World} {g V n q:Nat} {d:Bool} (h:IdxAt w g V n d q) (h0:0 < n):∃ b c,w.cell? ⟨g,0,none⟩=some (.slice (some ⟨b,0,none⟩) ((n+63) / 64) c)∧(n+63) / 64≤c∧c≤maxLen∧∀ j,j < (n+63) / 64→w.cell? ⟨b,j,none⟩=some (.int .u64 ((wd V j:Nat):Int)):=by
 obtain ⟨_,_,A,c,H,hb,ho,_⟩:=h
 obtain ⟨b,rfl,_,hbl⟩:=own_some ho (by omega)
 obtain ⟨A',c',e,h1,h2⟩:=own_form ho
 simp only [Value.slice.injEq] at e
 obtain ⟨_,_,rfl⟩:=e
 refine ⟨b,c,hb.cell 0,h1,h2,fun j hj=>?_⟩
 rw [ho.cellAt j (by omega),U64_get _ _ (by rw [words_len];omega),words_get _ _ _ hj]
set_option maxRecDepth 20000 in
set_option maxHeartbeats 2000000 in
theorem onesAhead_p (g V n q i:Nat) (w:World) (h:IdxAt w g V n true q) (hi:i≤n) :
  Calls Tryz.prog 163 #[.pointer (some ⟨g,0,none⟩),.int .i64 (i:Int)] w fun e w'=>e=.returned (.int .i64 ((pop V i:Nat):Int))∧w=w':=by
 have hn:=h.2.1
 obtain ⟨bd,cd,c6,_,kd⟩:=h.dir
 obtain ⟨s,hs⟩:∃ s,s=i / 512:=⟨_,rfl⟩
 obtain ⟨a,ha⟩:∃ a,a=i / 64:=⟨_,rfl⟩
 obtain ⟨r,hr⟩:∃ r,r=i%64:=⟨_,rfl⟩
 have hsb:s≤blk n:=by unfold blk;omega
 have td:=kd s hsb
 have q1:(i:Int) / 512=(s:Int):=by omega
 have q2:(i:Int) / 64=(a:Int):=by omega
 have q3:(i:Int)%64=(r:Int):=by omega
 have h8a:8*s≤a:=by omega
 have hi64:i=64*a+r:=by omega
 have hr64:r < 64:=by omega
 have hbn:blk n≤3000:=by unfold blk;omega
 have hp1:pop V (512*s)≤1000000:=by have:=pop_le V (512*s);omega
 have P1:Hid (pop V (512*s)=pop V (64*(8*s))):=by show _=_;rw [show 512*s=64*(8*s) by omega]
 have hsI:(s:Int) < ((blk n:Nat):Int)+1:=by omega
 have HA:=Lib.hid (And.intro hs (And.intro ha hr))
 have HI:=Lib.hid hi64
 clear kd hs ha hr hi64
 generalize pop V (512*s)=p0 at *
 generalize hblk:blk n=bn at *
 clear hblk
 rcases Nat.eq_zero_or_pos n with hn0 | hn0
 ·have h0:i=0∧a=0∧r=0∧s=0:=by have:=HI.out;omega
  obtain ⟨rfl,rfl,rfl,rfl⟩:=h0
  obtain ⟨_,_,A,c,H,hb,ho,_⟩:=h
  have c0:w.cell? ⟨g,0,none⟩=some (.slice A ((n+63) / 64) c):=hb.cell 0
  subst hn0
  have hA:A=none∨∃ b,A=some ⟨b,0,none⟩:=by
   rcases ho.2 with ⟨e,_⟩ | ⟨g',cap,cur,e,_⟩
   ·simp only [Value.slice.injEq] at e;exact .inl e.1
   ·simp only [Value.slice.injEq] at e;exact .inr ⟨g',e.1⟩
  have hc:c≤maxLen:=by obtain ⟨_,_,e,_,h2⟩:=own_form ho;simp only [Value.slice.injEq] at e;omega
  have hp0:p0=0:=by have:=P1.out;rw [this];rfl
  subst hp0
  have PZ:Hid (pop V 0=0):=rfl
  clear hb ho
  unfold maxLen at hc
  rcases hA with rfl | ⟨b,rfl⟩
  all_goals (
   go_enter Tryz.func163,Tryz.ntmps163
   go_wp2_with fail
   refine wp_loop_rounds 1 ?_
   rw [rounds_succ]
   go_wp2_with fail
   go_ret
   exact ⟨by rw [PZ.out];rfl,rfl⟩)
 ·obtain ⟨b,c,c0,hmc,hcm,kw⟩:=h.word hn0
  obtain ⟨m,hm⟩:∃ m,m=(n+63) / 64:=⟨_,rfl⟩
  rw [← hm] at c0 hmc kw
  have ham:a≤m:=by have:=HI.out;omega
  have hm9:m≤20000:=by omega
  unfold maxLen at hcm
  have hp8:p0≤64*(s*8+0):=by have:=P1.out;have:=pop_le V (64*(8*s));omega
  have KW:=Lib.hid kw
  have HM:=Lib.hid hm
  clear kw hm h
  go_enter Tryz.func163,Tryz.ntmps163
  go_wp2_with fail
  all_goals (
   go_loop [6,30] (fun v j=>∃ k r0:Nat,k≤a - s*8∧j=.int .i64 (k:Int)∧v=.int .i64 (r0:Int)∧r0≤64*(s*8+k)∧Hid (r0=pop V (64*(s*8+k)))) (fun _ j=>a - s*8 - (intOf j).toNat)
   case atStart=>exact ⟨0,p0,by omega,rfl,rfl,hp8,by show _=_;rw [P1.out,show 64*(s*8+0)=64*(8*s) by omega]⟩
   case round =>
    obtain ⟨k,r0,hk,rfl,rfl,hr0,hrp⟩:=hrel
    by_cases hlt:k < a - s*8
    ·first
      | (exfalso;omega)
      | (have t1:=KW.out (s*8+k) (by omega)
         have hpn:=pop_words V (s*8+k)
         rw [← hrp.out] at hpn
         have OC:=Lib.hid (fun w'=>onesCount_p (wd V (s*8+k)) w' (wd_lt _ _))
         have hpx:=pop_le (wd V (s*8+k)) 64
         generalize pop (wd V (s*8+k)) 64=px at *
         generalize wd V (s*8+k)=x at *
         have HPN:=Lib.hid hpn
         clear hpn
         go_wp2_with fail
         refine (OC.out _).mono ?_
         rintro e w9 ⟨rfl,rfl⟩
         go_wp2_with fail
         go_round
         case rel=>exact ⟨k+1,r0+px,by omega,by go_num,by go_num,by omega,HPN.out.symm⟩
         case measure=>simp [intOf];omega)
    ·have hka:s*8+k=a:=by omega
     rw [hka] at hrp hr0
     by_cases hr0z:r=0
     ·have hrb:(r:Int)=0:=by omega
      have hE:Hid (r0=pop V i):=by show _=_;rw [hrp.out,HI.out,hr0z,Nat.add_zero]
      have hrz:((r:Int) != 0)=false:=by simp [hr0z]
      clear hr0z hrb hka
      go_wp2_with fail
      go_ret
      exact ⟨by rw [← hE.out];rfl,rfl⟩
     ·have ham2:a < m:=by have:=HI.out;have:=HM.out;omega
      first
      | (exfalso;omega)
      | (have t1:=KW.out a ham2
         obtain ⟨tt,htt⟩:∃ tt,tt=64 - r:=⟨_,rfl⟩
         have htI:(64:Int) - (r:Int)=(tt:Int):=by omega
         have ht64:tt≤64:=by omega
         have hpx:=pop_part V a r (by omega)
         have hsh:=pop_shl (wd V a) tt ht64
         rw [show 64 - tt=r by omega] at hsh
         rw [← HI.out,← hrp.out,← hsh] at hpx
         have hwr:=wrap_u64 (wd V a) tt
         have OC:=Lib.hid (fun w'=>onesCount_p (wd V a*2 ^ tt%2 ^ 64) w' (Nat.mod_lt _ (by decide)))
         have hpl:=pop_le (wd V a*2 ^ tt%2 ^ 64) 64
         have hrz:((r:Int) != 0)=true:=by rw [bne_iff_ne];omega
         generalize wd V a*2 ^ tt%2 ^ 64=yy at *
         generalize pop yy 64=py at *
         generalize wd V a=x at *
         have HPX:=Lib.hid hpx
         clear hpx hsh htt hr0z hka
         go_wp2_with fail
         refine (OC.out _).mono ?_
         rintro e w9 ⟨rfl,rfl⟩
         go_wp2_with fail
         go_ret
         exact ⟨by rw [HPX.out];go_num,rfl⟩))
theorem cb_le (bit:Int) (V i:Nat):cb bit V i≤i:=by
 unfold cb
 split
 ·omega
 ·exact pop_le V i
theorem min_len (a n:Nat) (ha:a≤2000000) (hn:n≤1000000):∀ w,(Builtin.min_ #[3,3] 3 #[.int .i64 (a:Int),.int .i64 (n:Int)]).run Tryz.prog w=.ok (.int .i64 ((min a n:Nat):Int)) w:=fun w=>by
 simp [Builtin.min_,Builtin.min2]
 repeat' split
 all_goals omega
theorem xat_in (g V n q i:Nat) (d:Bool) (w:World) (h:IdxAt w g V n d q) (hi:i < n) :
  Calls Tryz.prog 124 #[.pointer (some ⟨g,0,none⟩),.int .i64 (i:Int)] w fun e w'=>e=.returned (.int .i64 ((V / 2 ^ i%2:Nat):Int))∧w=w':=by
 have XL:=Lib.hid (xlen_p g V n q d w h)
 have hn:=h.2.1
 obtain ⟨b,c,c0,hmc,hcm,kw⟩:=h.word (by omega)
 obtain ⟨m,hm⟩:∃ m,m=(n+63) / 64:=⟨_,rfl⟩
 rw [← hm] at c0 hmc kw
 obtain ⟨a,ha⟩:∃ a,a=i / 64:=⟨_,rfl⟩
 obtain ⟨r,hr⟩:∃ r,r=i%64:=⟨_,rfl⟩
 have t1:=kw a (by omega)
 have q2:(i:Int) / 64=(a:Int):=by omega
 have q3:(i:Int)%64=(r:Int):=by omega
 have hr64:r < 64:=by omega
 have ham:(a:Int) < (m:Int):=by omega
 have hlt:¬ (n:Int)≤(i:Int):=by omega
 have hG:=get_one V a r 1 (by omega)
 rw [show 64*a+r=i by omega,Nat.pow_one] at hG
 have hm9:m≤20000:=by omega
 have hx64:=wd_lt V a
 have hand:bits .and .u64 ((wd V a:Int) / 2 ^ r) 1=((V / 2 ^ i%2:Nat):Int):=by
  have e:((wd V a:Int) / 2 ^ r)=((wd V a / 2 ^ r:Nat):Int):=by simp
  rw [e,← hG]
  have:=u64_and_nat (wd V a / 2 ^ r) 1 (Nat.lt_of_le_of_lt (Nat.div_le_self _ _) hx64) (by decide)
  rw [show ((1:Nat):Int)=1 from rfl] at this
  rw [this,show (1:Nat)=2 ^ 1 - 1 by rfl,Nat.and_two_pow_sub_one_eq_mod]
 have hv2:V / 2 ^ i%2 < 2:=Nat.mod_lt _ (by decide)
 generalize V / 2 ^ i%2=v at *
 generalize wd V a=x at *
 clear kw hm ha hr hG h hcm
 go_enter Tryz.func124,Tryz.ntmps124
 go_wp2_with fail
 refine XL.out.mono ?_
 rintro e w' ⟨rfl,rfl⟩
 go_wp2_with fail
 go_ret
 exact ⟨rfl,rfl⟩
/-! ### Rank -/
theorem asked_next {w:World} {g V n q:Nat} {d:Bool} (h:IdxAt w g V n d q):IdxAt (w.setCell ⟨g,8,none⟩ (.int .i64 ((q:Int)+1))) g V n d (q+1)∧Mod (fun i=>i=g) w (w.setCell ⟨g,8,none⟩ (.int .i64 ((q:Int)+1))):=by
 have m1:Mod (fun i=>i=g) w (w.setCell ⟨g,8,none⟩ (.int .i64 ((q:Int)+1))):=Mod.setCell (p:=⟨g,8,none⟩) (Mod.refl (fun i=>i=g) w) (fun _=>rfl) _
 obtain ⟨hV,hn,A,c,H,hb,ho,hd⟩:=h
 refine ⟨⟨hV,hn,A,c,H,?_,own_mod ho m1 fun k hk hx=>by have:=(ho.lt k hk).1;omega,?_⟩,m1⟩
 ·have:=hb.set_ 8 (.int .i64 ((q:Int)+1))
  rw [show ((q:Int)+1)=((q+1:Nat):Int) by omega] at this ⊢
  simpa using this
 ·cases d with
  | false=>exact hd
  | true =>
    obtain ⟨S,d,e,h1⟩:=hd
    exact ⟨S,d,e,own_mod h1 m1 fun k hk hx=>by have:=(h1.lt k hk).1;omega⟩
theorem ask_p (g V n q:Nat) (d:Bool) (w:World) (h:IdxAt w g V n d q) (hq:q≤1000000) :
  Calls Tryz.prog 160 #[.pointer (some ⟨g,8,none⟩),.int .i64 1] w fun e w'=>e=.returned (.int .i64 ((q:Int)+1))∧IdxAt w' g V n d (q+1)∧Mod (fun i=>i=g) w w':=by
 obtain ⟨h1,h2⟩:=asked_next h
 obtain ⟨hV,hn,A,c,H,hb,ho,hd⟩:=h
 exact (add64 ⟨g,8,none⟩ (q:Int) w (hb.cell 8) (hb.frozen 8) (by omega) (by omega)).mono fun e w' ⟨he,hw⟩=>by subst hw;exact ⟨he,h1,h2⟩
theorem rank_yes (g V n q i:Nat) (d:Bool) (bit:Int) (w:World) (h:IdxAt w g V n d q) (hq:q≤1000000) (hb:bit=0∨bit=1) (hi:i≤n) :
  Calls Tryz.prog 147 #[.pointer (some ⟨g,0,none⟩),.int .i64 bit,.int .i64 (i:Int)] w fun e w'=>e=.returned (.tuple #[.int .i64 ((cb bit V i:Nat):Int),.int .i64 0])∧IdxAt w' g V n true (q+1)∧Mod (fun i=>i=g) w w':=by
 have hn:=h.2.1
 have AK:=Lib.hid (ask_p g V n q d w h hq)
 have IB:=Lib.hid (fun w'=>isBit_p bit w')
 rw [decide_eq_true hb] at IB
 have hni:¬ (n:Int) < (i:Int):=by omega
 have hpi:=pop_le V i
 have HCB:Hid (((cb bit V i:Nat):Int)=if bit=0 then (i:Int) - ((pop V i:Nat):Int) else ((pop V i:Nat):Int)):=by
  show _=_
  unfold cb;split <;> omega
 rw [HCB.out]
 have BP:=Lib.hid (fun w' h'=>build_p g V n (q+1) d w' h')
 have OA:=Lib.hid (fun w' h'=>onesAhead_p g V n (q+1) i w' h' hi)
 clear h hi HCB
 generalize pop V i=p at *
 rcases hb with rfl | rfl
 ·rw [if_pos rfl]
  go_enter Tryz.func147,Tryz.ntmps147
  go_wp2_with fail
  refine AK.out.mono ?_
  rintro e w1 ⟨rfl,h1,m1⟩
  have c1:w1.cell? ⟨g,1,none⟩=some (.int .i64 (n:Int)):=by obtain ⟨_,_,A,c,H,hb,_⟩:=h1;exact hb.cell 1
  have H1:=Lib.hid h1
  have M1:=Lib.hid m1
  clear h1 m1
  go_wp2_with fail
  refine (IB.out _).mono ?_
  rintro e w' ⟨rfl,rfl⟩
  go_wp2_with fail
  refine (BP.out _ H1.out).mono ?_
  rintro e w2 ⟨rfl,h2,m2⟩
  have H2:=Lib.hid h2
  have M2:Hid (Mod (fun i=>i=g) w w2):=M1.out.trans m2 fun _ _ h=>h
  clear h2 m2 c1
  go_wp2_with fail
  refine (OA.out _ H2.out).mono ?_
  rintro e w' ⟨rfl,rfl⟩
  go_wp2_with fail
  go_ret2
  exact ⟨rfl,H2.out,M2.out⟩
 ·rw [if_neg (by decide)]
  go_enter Tryz.func147,Tryz.ntmps147
  go_wp2_with fail
  refine AK.out.mono ?_
  rintro e w1 ⟨rfl,h1,m1⟩
  have c1:w1.cell? ⟨g,1,none⟩=some (.int .i64 (n:Int)):=by obtain ⟨_,_,A,c,H,hb,_⟩:=h1;exact hb.cell 1
  have H1:=Lib.hid h1
  have M1:=Lib.hid m1
  clear h1 m1
  go_wp2_with fail
  refine (IB.out _).mono ?_
  rintro e w' ⟨rfl,rfl⟩
  go_wp2_with fail
  refine (BP.out _ H1.out).mono ?_
  rintro e w2 ⟨rfl,h2,m2⟩
  have H2:=Lib.hid h2
  have M2:Hid (Mod (fun i=>i=g) w w2):=M1.out.trans m2 fun _ _ h=>h
  clear h2 m2 c1
  go_wp2_with fail
  refine (OA.out _ H2.out).mono ?_
  rintro e w' ⟨rfl,rfl⟩
  go_wp2_with fail
  go_ret2
  exact ⟨rfl,H2.out,M2.out⟩
theorem pop_next (x i:Nat):pop x (i+1)=pop x i+x / 2 ^ i%2:=by
 rw [pop_add]
 congr 1
 simp [pop,numL,List.range_succ]
theorem pop_bit1 {x i:Nat} (h:x.testBit i=true):pop x (i+1)=pop x i+1:=by
 rw [pop_next]
 rw [Nat.testBit_eq_decide_div_mod_eq,decide_eq_true_iff] at h
 rw [h]
theorem pop_mono (x:Nat) {a b:Nat} (h:a≤b):pop x a≤pop x b:=by
 obtain ⟨d,rfl⟩:∃ d,b=a+d:=⟨b - a,by omega⟩
 rw [pop_add];omega
theorem one_at (x j:Nat):∀ c,j < pop x c→∃ i,i < c∧x.testBit i=true∧pop x i=j:=by
 intro c
 induction c with
 | zero=>intro h;simp [pop,numL] at h
 | succ c ih =>
   intro h
   by_cases hb:x.testBit c=true
   ·rw [pop_bit1 hb] at h
    by_cases he:pop x c=j
    ·exact ⟨c,by omega,hb,he⟩
    ·obtain ⟨i,h1,h2,h3⟩:=ih (by omega)
     exact ⟨i,by omega,h2,h3⟩
   ·have:pop x (c+1)=pop x c:=by
     rw [pop_next]
     rw [Nat.testBit_eq_decide_div_mod_eq,decide_eq_true_iff] at hb
     omega
    rw [this] at h
    obtain ⟨i,h1,h2,h3⟩:=ih h
    exact ⟨i,by omega,h2,h3⟩
theorem one_unique {x i c:Nat} (hi:x.testBit i=true) (hc:x.testBit c=true) (he:pop x i=pop x c):i=c:=by
 rcases Nat.lt_trichotomy i c with h | h | h
 ·have h1:=pop_mono x (show i+1≤c by omega)
  rw [pop_bit1 hi] at h1;omega
 ·exact h
 ·have h1:=pop_mono x (show c+1≤i by omega)
  rw [pop_bit1 hc] at h1;omega
theorem clr_bit {y c m:Nat} (h:y=2 ^ c*(2*m+1)) (i:Nat):(y &&& (y - 1)).testBit i=(y.testBit i && decide (i≠c)):=by
 have h1:y - 1=2 ^ c*(2*m)+(2 ^ c - 1):=by
  have:=Nat.two_pow_pos c
  rw [h,Nat.mul_add,Nat.mul_one];omega
 have h2:y=2 ^ c*(2*m+1)+0:=by rw [h];rfl
 have hlt:2 ^ c - 1 < 2 ^ c:=by have:=Nat.two_pow_pos c;omega
 rw [Nat.testBit_and,h1,Nat.testBit_two_pow_mul_add _ hlt]
 rw [h2,Nat.testBit_two_pow_mul_add _ (Nat.two_pow_pos c)]
 by_cases hic:i < c
 ·simp [hic]
 ·by_cases he:i=c
  ·subst he;simp
  ·obtain ⟨k,hk⟩:∃ k,i - c=k+1:=⟨i - c - 1,by omega⟩
   simp only [hic,if_false,hk,Nat.testBit_succ]
   rw [show (2*m+1) / 2=m by omega,show 2*m / 2=m by omega]
   simp [he]
def Cleared (x j y:Nat):Prop:=y < 2 ^ 64∧∀ i,y.testBit i=(x.testBit i && decide (j≤pop x i))
theorem Cleared.start {x:Nat} (h:x < 2 ^ 64):Cleared x 0 x:=⟨h,fun i=>by simp⟩
theorem Cleared.low {x j k y:Nat} (h:Cleared x j y) (hjk:j≤k) (hk:k < pop x 64):y≠0:=by
 obtain ⟨i,_,h2,h3⟩:=one_at x k 64 hk
 intro e
 have:=h.2 i
 rw [e,h2,h3,decide_eq_true hjk] at this
 simp at this
theorem Cleared.first {x j y:Nat} (h:Cleared x j y) (h0:y≠0):∃ m,y=2 ^ Lib.ctz 64 y*(2*m+1)∧Lib.ctz 64 y < 64∧x.testBit (Lib.ctz 64 y)=true∧pop x (Lib.ctz 64 y)=j:=by
 obtain ⟨m,hm,hc⟩:=Lib.ctzFrom_spec 64 y (by omega) h.1
 have e:Lib.ctz 64 y=Lib.ctzFrom 64 y:=by simp [Lib.ctz,h0]
 rw [e]
 generalize Lib.ctzFrom 64 y=c at *
 have hb:∀ i,y.testBit i=if i < c then false else (2*m+1).testBit (i - c):=fun i=>by
  rw [show y=2 ^ c*(2*m+1)+0 by rw [hm];rfl,Nat.testBit_two_pow_mul_add _ (Nat.two_pow_pos c)]
  simp
 have hyc:y.testBit c=true:=by rw [hb c];simp
 have hxc:=h.2 c
 rw [hyc] at hxc
 have hx2:=Bool.and_eq_true_iff.1 hxc.symm
 have hjc:j≤pop x c:=of_decide_eq_true hx2.2
 refine ⟨m,hm,hc,hx2.1,?_⟩
 by_cases he:pop x c=j
 ·exact he
 ·obtain ⟨i,h1,h2,h3⟩:=one_at x j c (by omega)
  have:=h.2 i
  rw [hb i,if_pos h1,h2,h3,decide_eq_true (Nat.le_refl j)] at this
  simp at this
theorem Cleared.next {x j y:Nat} (h:Cleared x j y) (h0:y≠0):Cleared x (j+1) (y &&& (y - 1)):=by
 obtain ⟨m,hm,hc,hxc,hpc⟩:=h.first h0
 refine ⟨Nat.lt_of_le_of_lt Nat.and_le_left h.1,fun i=>?_⟩
 rw [clr_bit hm i,h.2 i]
 generalize Lib.ctz 64 y=c at *
 by_cases hx:x.testBit i=true
 ·rw [hx]
  by_cases hi:i=c
  ·subst hi
   rw [hpc];simp
  ·have hne:pop x i≠j:=fun e=>hi (one_unique hx hxc (by rw [e,hpc]))
   simp [hi]
   omega
 ·simp only [Bool.not_eq_true] at hx
  rw [hx];simp
structure Tab (w:World):Prop where
 at_:TabAt 2 Lib.deBruijn64tab w
theorem Tab.below {w w':World} {B:Nat} (h:Tab w) (hB:2 < B) (m:Below B w w'):Tab w':=⟨fun j hj=>(m.cell (p:=⟨2,j,none⟩) hB).trans (h.at_ j hj)⟩
set_option maxHeartbeats 1000000 in
theorem tz_core (x k idx:Nat) (w:World) (hx0:((x:Int) == 0)=false)
  (key:IntKind.u64.wrap (bits BinOp.and IntKind.u64 (x:Int) (IntKind.u64.wrap (-(x:Int)))*285870213051353865) / 288230376151711744=(idx:Int))
  (hi:idx < 64) (hk:k < 64) (hcell:w.cell? ⟨2,idx,none⟩=some (.int .u8 (k:Int))) :
  Calls Tryz.prog 199 #[.int .u64 (x:Int)] w fun e w'=>e=.returned (.int .i64 (k:Int))∧w=w':=by
 go_enter Tryz.func199,Tryz.ntmps199
 go_wp2_with (simp only [key])
 go_ret
 exact ⟨rfl,rfl⟩
theorem tz_p (x:Nat) (hx:x < 18446744073709551616) (hx0:x≠0) (w:World) (hT:Tab w) :
  Calls Tryz.prog 199 #[.int .u64 (x:Int)] w fun e w'=>e=.returned (.int .i64 ((Lib.ctz 64 x:Nat):Int))∧w=w':=by
 obtain ⟨hlow,hk⟩:=Lib.lowest_bit 64 x hx0 hx
 obtain ⟨hi,htab⟩:=Lib.deBruijn64_at _ hk
 have hcell:=hT.at_ _ hi
 rw [htab] at hcell
 exact tz_core x _ _ w (by simp;omega) (tz64_key x _ hx hx0 hlow) hi hk hcell
set_option maxHeartbeats 1000000 in
theorem within_p (x k:Nat) (hx:x < 2 ^ 64) (hk:k < pop x 64) (w:World) (hT:Tab w) :
  Calls Tryz.prog 188 #[.int .u64 (x:Int),.int .i64 (k:Int)] w fun e w'=>∃ p:Nat,e=.returned (.int .i64 (p:Int))∧p < 64∧x.testBit p=true∧pop x p=k∧w=w':=by
 have hk64:k < 64:=Nat.lt_of_lt_of_le hk (pop_le x 64)
 have HK:=Lib.hid hk
 have HT:=Lib.hid hT
 have HS:=Lib.hid (Cleared.start hx)
 clear hT hk
 go_enter Tryz.func188,Tryz.ntmps188
 go_wp2_with fail
 go_loop [0,6] (fun v i=>∃ j y:Nat,j≤k∧i=.int .i64 (j:Int)∧v=.int .u64 (y:Int)∧Hid (Cleared x j y)) (fun _ i=>k - (intOf i).toNat)
 case atStart=>exact ⟨0,x,by omega,rfl,rfl,HS.out⟩
 case round =>
  obtain ⟨j,y,hj,rfl,rfl,hc⟩:=hrel
  have hy0:y≠0:=hc.out.low hj HK.out
  have hy1:1≤y:=by omega
  have hy64:y < 18446744073709551616:=hc.out.1
  by_cases hlt:j < k
  ·have hand:bits .and .u64 (y:Int) ((y:Int) - 1)=((y &&& (y - 1):Nat):Int):=by
    rw [show (y:Int) - 1=((y - 1:Nat):Int) by omega];exact u64_and_nat y (y - 1) hc.out.1 (by omega)
   have NX:=Lib.hid (hc.out.next hy0)
   clear hc hy0
   generalize y &&& (y - 1)=y2 at *
   go_wp2_with fail
   go_round
   case rel=>exact ⟨j+1,y2,by omega,by go_num,rfl,NX.out⟩
   case measure=>simp [intOf];omega
  ·obtain rfl:j=k:=by omega
   obtain ⟨c,TZ,HF⟩:∃ c:Nat,Hid (∀ w',Tab w'→Calls Tryz.prog 199 #[.int .u64 (y:Int)] w' fun e w''=>e=.returned (.int .i64 (c:Int))∧w'=w'')∧Hid (c < 64∧x.testBit c=true∧pop x c=j):=by
    obtain ⟨m,_,h1,h2,h3⟩:=hc.out.first hy0
    exact ⟨_,fun w' hw'=>tz_p y hy64 hy0 w' hw',h1,h2,h3⟩
   clear hc hy0
   go_wp2_with fail
   refine (TZ.out _ HT.out).mono ?_
   rintro e w' ⟨rfl,rfl⟩
   go_wp2_with fail
   go_ret
   exact ⟨c,rfl,HF.out.1,HF.out.2.1,HF.out.2.2,rfl⟩
section
variable (g V n q:Nat) (d:Bool) (w:World)
end
end Go.Proofs.YtajjgpkahljjmaaGreatDoor
namespace Go.Proofs.YtajjgpkahljjmaaGreatDoor
theorem aheadOf_p (g V n q j:Nat) (bit:Int) (w:World) (h:IdxAt w g V n true q) (hj:j≤blk n) :
  Calls Tryz.prog 179 #[.pointer (some ⟨g,0,none⟩),.int .i64 bit,.int .i64 (j:Int)] w fun e w'=>e=.returned (.int .i64 ((cb bit V (min (512*j) n):Nat):Int))∧w=w':=by
 have hn:=h.2.1
 obtain ⟨bd,cd,c6,_,kd⟩:=h.dir
 have td:=kd j hj
 have c1:w.cell? ⟨g,1,none⟩=some (.int .i64 (n:Int)):=by obtain ⟨_,_,A,c,H,hb,_⟩:=h;exact hb.cell 1
 have hbn:blk n≤3000:=by unfold blk;omega
 have hjI:(j:Int) < ((blk n:Nat):Int)+1:=by omega
 have hp1:=pop_le V (512*j)
 have hpm:Hid (pop V (min (512*j) n)=pop V (512*j)):=by
  show _=_
  by_cases hc:512*j≤n
  ·rw [Nat.min_eq_left hc]
  ·rw [Nat.min_eq_right (by omega)]
   exact (pop_all h.1 (by omega)).symm
 have hple:=pop_le V (min (512*j) n)
 rw [hpm.out] at hple
 have hmm9:min (512*j) n≤1000000:=by omega
 by_cases h0:bit=0
 ·have hc:Hid (((cb bit V (min (512*j) n):Nat):Int)=((min (512*j) n:Nat):Int) - ((pop V (512*j):Nat):Int)):=by
   show _=_
   unfold cb
   rw [if_pos h0,hpm.out]
   generalize min (512*j) n=mm at *
   omega
  have g0:(bit == 0)=true:=by rw [beq_iff_eq];exact h0
  have hmin:=min_len (j*512) n (by have h5:=hj;unfold blk at h5;omega) hn
  rw [Nat.mul_comm j 512] at hmin
  have hmul:((512*j:Nat):Int)=(j:Int)*512:=by omega
  rw [hmul] at hmin
  clear kd h h0 hmul
  rw [hc.out]
  generalize pop V (512*j)=p0 at *
  generalize min (512*j) n=mm at *
  go_enter Tryz.func179,Tryz.ntmps179
  go_wp2_with fail
  go_ret
  exact ⟨rfl,rfl⟩
 ·have hc:Hid (cb bit V (min (512*j) n)=pop V (512*j)):=by show _=_;unfold cb;rw [if_neg h0,hpm.out]
  have g0:(bit == 0)=false:=by rw [beq_eq_false_iff_ne];exact h0
  clear kd h h0
  rw [hc.out]
  generalize pop V (512*j)=p0 at *
  go_enter Tryz.func179,Tryz.ntmps179
  go_wp2_with fail
  go_ret
  exact ⟨rfl,rfl⟩
theorem count_q (g V n q:Nat) (d:Bool) (bit:Int) (w:World) (h:IdxAt w g V n d q) :
  Calls Tryz.prog 176 #[.pointer (some ⟨g,0,none⟩),.int .i64 bit] w fun e w'=>e=.returned (.int .i64 ((cb bit V n:Nat):Int))∧∃ j,w'=w.drewN j:=by
 have hn:=h.2.1
 obtain ⟨_,_,A,c,H,hb,_⟩:=h
 have c1:w.cell? ⟨g,1,none⟩=some (.int .i64 (n:Int)):=hb.cell 1
 have c2:w.cell? ⟨g,2,none⟩=some (.int .i64 ((pop V n:Nat):Int)):=hb.cell 2
 have hp1:=pop_le V n
 clear hb
 by_cases h0:bit=0
 ·have hc:Hid (((cb bit V n:Nat):Int)=(n:Int) - ((pop V n:Nat):Int)):=by show _=_;unfold cb;rw [if_pos h0];omega
  have g0:(bit == 0)=true:=by rw [beq_iff_eq];exact h0
  rw [hc.out]
  clear h0 hc
  generalize pop V n=p0 at *
  go_enter Tryz.func176,Tryz.ntmps176
  go_wp2_with fail
  go_quiet (fail)
  go_wp2
  go_ret
  exact ⟨rfl,nq,rfl⟩
 ·have hc:Hid (cb bit V n=pop V n):=by show _=_;unfold cb;rw [if_neg h0]
  have g0:(bit == 0)=false:=by rw [beq_eq_false_iff_ne];exact h0
  rw [hc.out]
  clear h0 hc
  generalize pop V n=p0 at *
  go_enter Tryz.func176,Tryz.ntmps176
  go_wp2_with fail
  go_ret
  exact ⟨rfl,0,rfl⟩
end Go.Proofs.YtajjgpkahljjmaaGreatDoor
