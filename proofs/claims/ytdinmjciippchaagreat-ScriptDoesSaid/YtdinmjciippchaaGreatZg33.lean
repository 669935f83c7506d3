/- The document's Do of layer 24, kind by kind. -/
import Derived.Test.YtdinmjciippchaaGreatZg4
import Derived.Test.YtdinmjciippchaaGreatZg20
import Derived.Test.YtdinmjciippchaaGreatZg24
import Derived.Test.YtdinmjciippchaaGreatZg31
import Derived.Test.YtdinmjciippchaaGreatZg32
import Derived.Deep.RegionHeld3
open Go.RowKit
set_option linter.unusedVariables false
set_option linter.unusedSimpArgs false
namespace Go.Proofs.YtdinmjciippchaaGreat
set_option maxRecDepth 100000
set_option maxHeartbeats 16000000 in
theorem rk_none (A:Option Addr) (n c:Nat) (root lone:Int) (k d e:Int) (w:World) (hk:k < 0∨10 < k) :
  Calls Tryz.prog 9 #[.agg #[.slice A n c,.int .i64 root,.int .i64 lone],.int .i64 k,.int .i64 d,.int .i64 e] w (DoNo w A n c root lone 15):=by
 have hb0:=((Below.refl w.heap.size w).alloc (Nat.le_refl _) (.cells #[.slice A n c,.int .i64 root,.int .i64 lone] 28)).alloc (by simp) (.cells #[.slice none 0 0,.int .i64 0,.int .i64 0] 28)
 have HX:=Lib.hid ((Blk.new w 28 #[.slice A n c,.int .i64 root,.int .i64 lone]).alloc (.cells #[.slice none 0 0,.int .i64 0,.int .i64 0] 28))
 have hy:=(Blk.new (w.alloc (.cells #[.slice A n c,.int .i64 root,.int .i64 lone] 28)) 28 #[.slice none 0 0,.int .i64 0,.int .i64 0])
 rw [show (w.alloc (.cells #[.slice A n c,.int .i64 root,.int .i64 lone] 28)).heap.size=w.heap.size+1 by simp] at hy
 have HY:=Lib.hid hy
 have HB0:=Lib.hid hb0
 have HINF:=Lib.hid info_rmap
 have HK:=Lib.hid hk
 clear hb0 hy hk
 go_enter Tryz.func9,Tryz.ntmps9
 go_upto_region 1 with fail
 generalize hw3:(w.alloc (.cells #[.slice A n c,.int .i64 root,.int .i64 lone] 28)).alloc (.cells #[.slice none 0 0,.int .i64 0,.int .i64 0] 28)=w3 at *
 have hs3:w3.heap.size=w.heap.size+2:=by rw [← hw3];simp
 have SK:Hid (∀ W,Below w3.heap.size w3 W→W.cell? ⟨w.heap.size,0,none⟩=some (.slice A n c)∧W.cell? ⟨w.heap.size,1,none⟩=some (.int .i64 root)∧W.cell? ⟨w.heap.size,2,none⟩=some (.int .i64 lone)):=fun W q=>⟨(HX.out.below q).cell 0,(HX.out.below q).cell 1,(HX.out.below q).cell 2⟩
 obtain ⟨x0,x1,x2⟩:=SK.out _ (Below.refl _ _)
 have Z3:=Lib.hid (Below.refl w3.heap.size w3)
 clear hw3 HX
 go_upto_region 2 with fail
 go_cut [15] from 16 to 22 (fun v wx=>v=.bool true∧wx=w3)
 case first =>
  by_cases k0:k < 0
  ·have k0b:decide (k < 0)=true:=decide_eq_true k0
   go_wp2_with fail
   go_meet
   exact ⟨rfl,rfl⟩
  ·have k0b:decide (k < 0)=false:=decide_eq_false k0
   have k1:10 < k:=by have:=HK.out;omega
   have k1b:decide (10 < k)=true:=decide_eq_true k1
   go_wp2_with fail
   go_meet
   exact ⟨rfl,rfl⟩
 case rest =>
 obtain ⟨rfl,rfl⟩:=hcut
 obtain ⟨w3,rfl⟩:∃ w3:World,w3=wc:=⟨_,rfl⟩
 have HYr:=Lib.hid (HY.out.below Z3.out)
 have q0:=HYr.out.cell 0
 have q1:=HYr.out.cell 1
 have q2:=HYr.out.cell 2
 have f0:=HYr.out.frozen 0
 have f1:=HYr.out.frozen 1
 have f2:=HYr.out.frozen 2
 simp at q0 q1 q2
 have MM:=Lib.hid (box_mod w3 (w.heap.size+1) (.slice A n c) (.int .i64 (root)) (.int .i64 lone))
 have hblk:Hid (Blk (((w3.setCell ⟨w.heap.size+1,0,none⟩ (.slice A n c)).setCell ⟨w.heap.size+1,1,none⟩ (.int .i64 (root))).setCell ⟨w.heap.size+1,2,none⟩ (.int .i64 lone)) (w.heap.size+1) 28 #[.slice A n c,.int .i64 (root),.int .i64 lone]):=by
  show Blk _ _ _ _
  have:=((HYr.out.set_ 0 (.slice A n c)).set_ 1 (.int .i64 (root))).set_ 2 (.int .i64 lone)
  simpa using this
 go_wp2_with fail
 refine bodyPost_ret (results_cell_tmp_row rfl _ _ (w.heap.size+1) 28 _ (0,0) _ rfl hblk.out Tryz.underlying28 rfl HINF.out) rfl ?_
 exact ⟨rfl,HB0.out.trans (MM.out.belowB (by omega) fun i hi q=>by omega)⟩
set_option maxHeartbeats 16000000 in
theorem rk_5out (A:Option Addr) (n c:Nat) (root lone:Int) (d e:Int) (w:World) (hd:d < 0∨(n:Int)≤d) :
  Calls Tryz.prog 9 #[.agg #[.slice A n c,.int .i64 root,.int .i64 lone],.int .i64 5,.int .i64 d,.int .i64 e] w (DoNo w A n c root lone 5):=by
 have hb0:=((Below.refl w.heap.size w).alloc (Nat.le_refl _) (.cells #[.slice A n c,.int .i64 root,.int .i64 lone] 28)).alloc (by simp) (.cells #[.slice none 0 0,.int .i64 0,.int .i64 0] 28)
 have HX:=Lib.hid ((Blk.new w 28 #[.slice A n c,.int .i64 root,.int .i64 lone]).alloc (.cells #[.slice none 0 0,.int .i64 0,.int .i64 0] 28))
 have hy:=(Blk.new (w.alloc (.cells #[.slice A n c,.int .i64 root,.int .i64 lone] 28)) 28 #[.slice none 0 0,.int .i64 0,.int .i64 0])
 rw [show (w.alloc (.cells #[.slice A n c,.int .i64 root,.int .i64 lone] 28)).heap.size=w.heap.size+1 by simp] at hy
 have HY:=Lib.hid hy
 have HB0:=Lib.hid hb0
 have HINF:=Lib.hid info_rmap
 have HK:=Lib.hid hd
 clear hb0 hy hd
 go_enter Tryz.func9,Tryz.ntmps9
 go_upto_region 1 with fail
 generalize hw3:(w.alloc (.cells #[.slice A n c,.int .i64 root,.int .i64 lone] 28)).alloc (.cells #[.slice none 0 0,.int .i64 0,.int .i64 0] 28)=w3 at *
 have hs3:w3.heap.size=w.heap.size+2:=by rw [← hw3];simp
 have SK:Hid (∀ W,Below w3.heap.size w3 W→W.cell? ⟨w.heap.size,0,none⟩=some (.slice A n c)∧W.cell? ⟨w.heap.size,1,none⟩=some (.int .i64 root)∧W.cell? ⟨w.heap.size,2,none⟩=some (.int .i64 lone)):=fun W q=>⟨(HX.out.below q).cell 0,(HX.out.below q).cell 1,(HX.out.below q).cell 2⟩
 obtain ⟨x0,x1,x2⟩:=SK.out _ (Below.refl _ _)
 have Z3:=Lib.hid (Below.refl w3.heap.size w3)
 clear hw3 HX
 go_upto_region 6 with fail
 go_cut [33] from 34 to 45 (fun v wx=>v=.bool true∧wx=w3)
 case first =>
  by_cases k0:d < 0
  ·have k0b:decide (d < 0)=true:=decide_eq_true k0
   go_wp2_with fail
   go_meet
   exact ⟨rfl,rfl⟩
  ·have k0b:decide (d < 0)=false:=decide_eq_false k0
   have k1:(n:Int)≤d:=by have:=HK.out;omega
   have k1b:decide ((n:Int)≤d)=true:=decide_eq_true k1
   go_wp2_with fail
   go_meet
   exact ⟨rfl,rfl⟩
 case rest =>
 obtain ⟨rfl,rfl⟩:=hcut
 obtain ⟨w3,rfl⟩:∃ w3:World,w3=wc:=⟨_,rfl⟩
 have HYr:=Lib.hid (HY.out.below Z3.out)
 have q0:=HYr.out.cell 0
 have q1:=HYr.out.cell 1
 have q2:=HYr.out.cell 2
 have f0:=HYr.out.frozen 0
 have f1:=HYr.out.frozen 1
 have f2:=HYr.out.frozen 2
 simp at q0 q1 q2
 have MM:=Lib.hid (box_mod w3 (w.heap.size+1) (.slice A n c) (.int .i64 (root)) (.int .i64 lone))
 have hblk:Hid (Blk (((w3.setCell ⟨w.heap.size+1,0,none⟩ (.slice A n c)).setCell ⟨w.heap.size+1,1,none⟩ (.int .i64 (root))).setCell ⟨w.heap.size+1,2,none⟩ (.int .i64 lone)) (w.heap.size+1) 28 #[.slice A n c,.int .i64 (root),.int .i64 lone]):=by
  show Blk _ _ _ _
  have:=((HYr.out.set_ 0 (.slice A n c)).set_ 1 (.int .i64 (root))).set_ 2 (.int .i64 lone)
  simpa using this
 go_wp2_with fail
 refine bodyPost_ret (results_cell_tmp_row rfl _ _ (w.heap.size+1) 28 _ (0,0) _ rfl hblk.out Tryz.underlying28 rfl HINF.out) rfl ?_
 exact ⟨rfl,HB0.out.trans (MM.out.belowB (by omega) fun i hi q=>by omega)⟩
set_option maxHeartbeats 16000000 in
theorem rk_5in (A:Option Addr) (n c:Nat) (root lone:Int) (d e:Int) (w:World) (hd0:0≤d) (hd1:d < (n:Int)) :
  Calls Tryz.prog 9 #[.agg #[.slice A n c,.int .i64 root,.int .i64 lone],.int .i64 5,.int .i64 d,.int .i64 e] w (fun en w'=>en=.returned (.tuple #[.agg #[.slice A n c,.int .i64 d,.int .i64 lone],.int .i64 0])∧Below w.heap.size w w'):=by
 have hb0:=((Below.refl w.heap.size w).alloc (Nat.le_refl _) (.cells #[.slice A n c,.int .i64 root,.int .i64 lone] 28)).alloc (by simp) (.cells #[.slice none 0 0,.int .i64 0,.int .i64 0] 28)
 have HX:=Lib.hid ((Blk.new w 28 #[.slice A n c,.int .i64 root,.int .i64 lone]).alloc (.cells #[.slice none 0 0,.int .i64 0,.int .i64 0] 28))
 have hy:=(Blk.new (w.alloc (.cells #[.slice A n c,.int .i64 root,.int .i64 lone] 28)) 28 #[.slice none 0 0,.int .i64 0,.int .i64 0])
 rw [show (w.alloc (.cells #[.slice A n c,.int .i64 root,.int .i64 lone] 28)).heap.size=w.heap.size+1 by simp] at hy
 have HY:=Lib.hid hy
 have HB0:=Lib.hid hb0
 have HINF:=Lib.hid info_rmap
 have n0:¬ d < 0:=by omega
 have n0b:decide (d < 0)=false:=decide_eq_false n0
 have n1:¬ (n:Int)≤d:=by omega
 have n1b:decide ((n:Int)≤d)=false:=decide_eq_false n1
 clear hb0 hy
 go_enter Tryz.func9,Tryz.ntmps9
 go_upto_region 1 with fail
 generalize hw3:(w.alloc (.cells #[.slice A n c,.int .i64 root,.int .i64 lone] 28)).alloc (.cells #[.slice none 0 0,.int .i64 0,.int .i64 0] 28)=w3 at *
 have hs3:w3.heap.size=w.heap.size+2:=by rw [← hw3];simp
 have SK:Hid (∀ W,Below w3.heap.size w3 W→W.cell? ⟨w.heap.size,0,none⟩=some (.slice A n c)∧W.cell? ⟨w.heap.size,1,none⟩=some (.int .i64 root)∧W.cell? ⟨w.heap.size,2,none⟩=some (.int .i64 lone)):=fun W q=>⟨(HX.out.below q).cell 0,(HX.out.below q).cell 1,(HX.out.below q).cell 2⟩
 obtain ⟨x0,x1,x2⟩:=SK.out _ (Below.refl _ _)
 have Z3:=Lib.hid (Below.refl w3.heap.size w3)
 clear hw3 HX
 have HYr:=Lib.hid (HY.out.below Z3.out)
 have q0:=HYr.out.cell 0
 have q1:=HYr.out.cell 1
 have q2:=HYr.out.cell 2
 have f0:=HYr.out.frozen 0
 have f1:=HYr.out.frozen 1
 have f2:=HYr.out.frozen 2
 simp at q0 q1 q2
 have MM:=Lib.hid (box_mod w3 (w.heap.size+1) (.slice A n c) (.int .i64 (d)) (.int .i64 lone))
 have hblk:Hid (Blk (((w3.setCell ⟨w.heap.size+1,0,none⟩ (.slice A n c)).setCell ⟨w.heap.size+1,1,none⟩ (.int .i64 (d))).setCell ⟨w.heap.size+1,2,none⟩ (.int .i64 lone)) (w.heap.size+1) 28 #[.slice A n c,.int .i64 (d),.int .i64 lone]):=by
  show Blk _ _ _ _
  have:=((HYr.out.set_ 0 (.slice A n c)).set_ 1 (.int .i64 (d))).set_ 2 (.int .i64 lone)
  simpa using this
 go_wp2_with fail
 refine bodyPost_ret (results_cell_tmp_row rfl _ _ (w.heap.size+1) 28 _ (0,0) _ rfl hblk.out Tryz.underlying28 rfl HINF.out) rfl ?_
 exact ⟨rfl,HB0.out.trans (MM.out.belowB (by omega) fun i hi q=>by omega)⟩
set_option maxHeartbeats 16000000 in
theorem rk_8out (A:Option Addr) (n c:Nat) (root lone:Int) (d e:Int) (w:World) (hd:d < 0∨(n:Int)≤d) :
  Calls Tryz.prog 9 #[.agg #[.slice A n c,.int .i64 root,.int .i64 lone],.int .i64 8,.int .i64 d,.int .i64 e] w (DoNo w A n c root lone 1):=by
 have hb0:=((Below.refl w.heap.size w).alloc (Nat.le_refl _) (.cells #[.slice A n c,.int .i64 root,.int .i64 lone] 28)).alloc (by simp) (.cells #[.slice none 0 0,.int .i64 0,.int .i64 0] 28)
 have HX:=Lib.hid ((Blk.new w 28 #[.slice A n c,.int .i64 root,.int .i64 lone]).alloc (.cells #[.slice none 0 0,.int .i64 0,.int .i64 0] 28))
 have hy:=(Blk.new (w.alloc (.cells #[.slice A n c,.int .i64 root,.int .i64 lone] 28)) 28 #[.slice none 0 0,.int .i64 0,.int .i64 0])
 rw [show (w.alloc (.cells #[.slice A n c,.int .i64 root,.int .i64 lone] 28)).heap.size=w.heap.size+1 by simp] at hy
 have HY:=Lib.hid hy
 have HB0:=Lib.hid hb0
 have HINF:=Lib.hid info_rmap
 have HK:=Lib.hid hd
 clear hb0 hy hd
 go_enter Tryz.func9,Tryz.ntmps9
 go_upto_region 1 with fail
 generalize hw3:(w.alloc (.cells #[.slice A n c,.int .i64 root,.int .i64 lone] 28)).alloc (.cells #[.slice none 0 0,.int .i64 0,.int .i64 0] 28)=w3 at *
 have hs3:w3.heap.size=w.heap.size+2:=by rw [← hw3];simp
 have SK:Hid (∀ W,Below w3.heap.size w3 W→W.cell? ⟨w.heap.size,0,none⟩=some (.slice A n c)∧W.cell? ⟨w.heap.size,1,none⟩=some (.int .i64 root)∧W.cell? ⟨w.heap.size,2,none⟩=some (.int .i64 lone)):=fun W q=>⟨(HX.out.below q).cell 0,(HX.out.below q).cell 1,(HX.out.below q).cell 2⟩
 obtain ⟨x0,x1,x2⟩:=SK.out _ (Below.refl _ _)
 have Z3:=Lib.hid (Below.refl w3.heap.size w3)
 clear hw3 HX
 go_upto_region 16 with fail
 go_cut [70] from 71 to 78 (fun v wx=>v=.bool true∧wx=w3)
 case first =>
  by_cases k0:d < 0
  ·have k0b:decide (d < 0)=true:=decide_eq_true k0
   go_wp2_with fail
   go_meet
   exact ⟨rfl,rfl⟩
  ·have k0b:decide (d < 0)=false:=decide_eq_false k0
   have k1:(n:Int)≤d:=by have:=HK.out;omega
   have k1b:decide ((n:Int)≤d)=true:=decide_eq_true k1
   go_wp2_with fail
   go_meet
   exact ⟨rfl,rfl⟩
 case rest =>
 obtain ⟨rfl,rfl⟩:=hcut
 obtain ⟨w3,rfl⟩:∃ w3:World,w3=wc:=⟨_,rfl⟩
 have HYr:=Lib.hid (HY.out.below Z3.out)
 have q0:=HYr.out.cell 0
 have q1:=HYr.out.cell 1
 have q2:=HYr.out.cell 2
 have f0:=HYr.out.frozen 0
 have f1:=HYr.out.frozen 1
 have f2:=HYr.out.frozen 2
 simp at q0 q1 q2
 have MM:=Lib.hid (box_mod w3 (w.heap.size+1) (.slice A n c) (.int .i64 (root)) (.int .i64 lone))
 have hblk:Hid (Blk (((w3.setCell ⟨w.heap.size+1,0,none⟩ (.slice A n c)).setCell ⟨w.heap.size+1,1,none⟩ (.int .i64 (root))).setCell ⟨w.heap.size+1,2,none⟩ (.int .i64 lone)) (w.heap.size+1) 28 #[.slice A n c,.int .i64 (root),.int .i64 lone]):=by
  show Blk _ _ _ _
  have:=((HYr.out.set_ 0 (.slice A n c)).set_ 1 (.int .i64 (root))).set_ 2 (.int .i64 lone)
  simpa using this
 go_wp2_with fail
 refine bodyPost_ret (results_cell_tmp_row rfl _ _ (w.heap.size+1) 28 _ (0,0) _ rfl hblk.out Tryz.underlying28 rfl HINF.out) rfl ?_
 exact ⟨rfl,HB0.out.trans (MM.out.belowB (by omega) fun i hi q=>by omega)⟩
set_option maxHeartbeats 16000000 in
theorem rk_9out (A:Option Addr) (n c:Nat) (root lone:Int) (d e:Int) (w:World) (hd:d < 0∨(n:Int)≤d) :
  Calls Tryz.prog 9 #[.agg #[.slice A n c,.int .i64 root,.int .i64 lone],.int .i64 9,.int .i64 d,.int .i64 e] w (DoNo w A n c root lone 1):=by
 have hb0:=((Below.refl w.heap.size w).alloc (Nat.le_refl _) (.cells #[.slice A n c,.int .i64 root,.int .i64 lone] 28)).alloc (by simp) (.cells #[.slice none 0 0,.int .i64 0,.int .i64 0] 28)
 have HX:=Lib.hid ((Blk.new w 28 #[.slice A n c,.int .i64 root,.int .i64 lone]).alloc (.cells #[.slice none 0 0,.int .i64 0,.int .i64 0] 28))
 have hy:=(Blk.new (w.alloc (.cells #[.slice A n c,.int .i64 root,.int .i64 lone] 28)) 28 #[.slice none 0 0,.int .i64 0,.int .i64 0])
 rw [show (w.alloc (.cells #[.slice A n c,.int .i64 root,.int .i64 lone] 28)).heap.size=w.heap.size+1 by simp] at hy
 have HY:=Lib.hid hy
 have HB0:=Lib.hid hb0
 have HINF:=Lib.hid info_rmap
 have HK:=Lib.hid hd
 clear hb0 hy hd
 go_enter Tryz.func9,Tryz.ntmps9
 go_upto_region 1 with fail
 generalize hw3:(w.alloc (.cells #[.slice A n c,.int .i64 root,.int .i64 lone] 28)).alloc (.cells #[.slice none 0 0,.int .i64 0,.int .i64 0] 28)=w3 at *
 have hs3:w3.heap.size=w.heap.size+2:=by rw [← hw3];simp
 have SK:Hid (∀ W,Below w3.heap.size w3 W→W.cell? ⟨w.heap.size,0,none⟩=some (.slice A n c)∧W.cell? ⟨w.heap.size,1,none⟩=some (.int .i64 root)∧W.cell? ⟨w.heap.size,2,none⟩=some (.int .i64 lone)):=fun W q=>⟨(HX.out.below q).cell 0,(HX.out.below q).cell 1,(HX.out.below q).cell 2⟩
 obtain ⟨x0,x1,x2⟩:=SK.out _ (Below.refl _ _)
 have Z3:=Lib.hid (Below.refl w3.heap.size w3)
 clear hw3 HX
 go_upto_region 16 with fail
 go_cut [70] from 71 to 78 (fun v wx=>v=.bool true∧wx=w3)
 case first =>
  by_cases k0:d < 0
  ·have k0b:decide (d < 0)=true:=decide_eq_true k0
   go_wp2_with fail
   go_meet
   exact ⟨rfl,rfl⟩
  ·have k0b:decide (d < 0)=false:=decide_eq_false k0
   have k1:(n:Int)≤d:=by have:=HK.out;omega
   have k1b:decide ((n:Int)≤d)=true:=decide_eq_true k1
   go_wp2_with fail
   go_meet
   exact ⟨rfl,rfl⟩
 case rest =>
 obtain ⟨rfl,rfl⟩:=hcut
 obtain ⟨w3,rfl⟩:∃ w3:World,w3=wc:=⟨_,rfl⟩
 have HYr:=Lib.hid (HY.out.below Z3.out)
 have q0:=HYr.out.cell 0
 have q1:=HYr.out.cell 1
 have q2:=HYr.out.cell 2
 have f0:=HYr.out.frozen 0
 have f1:=HYr.out.frozen 1
 have f2:=HYr.out.frozen 2
 simp at q0 q1 q2
 have MM:=Lib.hid (box_mod w3 (w.heap.size+1) (.slice A n c) (.int .i64 (root)) (.int .i64 lone))
 have hblk:Hid (Blk (((w3.setCell ⟨w.heap.size+1,0,none⟩ (.slice A n c)).setCell ⟨w.heap.size+1,1,none⟩ (.int .i64 (root))).setCell ⟨w.heap.size+1,2,none⟩ (.int .i64 lone)) (w.heap.size+1) 28 #[.slice A n c,.int .i64 (root),.int .i64 lone]):=by
  show Blk _ _ _ _
  have:=((HYr.out.set_ 0 (.slice A n c)).set_ 1 (.int .i64 (root))).set_ 2 (.int .i64 lone)
  simpa using this
 go_wp2_with fail
 refine bodyPost_ret (results_cell_tmp_row rfl _ _ (w.heap.size+1) 28 _ (0,0) _ rfl hblk.out Tryz.underlying28 rfl HINF.out) rfl ?_
 exact ⟨rfl,HB0.out.trans (MM.out.belowB (by omega) fun i hi q=>by omega)⟩
set_option maxHeartbeats 16000000 in
theorem rk_6 (A:Option Addr) (n c:Nat) (root lone:Int) (m:Nat) (o:List Nat) (RT LF:Int) (d e:Int) (w:World) (hon:o.length=m) (CP0:∀ W,Below w.heap.size w W→Calls Tryz.prog 27 #[.agg #[.slice A n c,.int .i64 root,.int .i64 lone]] W fun en w'=>∃ A9 c9,en=.returned (.agg #[.slice A9 m c9,.int .i64 RT,.int .i64 LF])∧m≤c9∧c9≤maxLen∧w'.ownsRow W.heap.size 3 1 (.slice A9 m c9) m (I64 (ofN o))∧Below W.heap.size W w') :
  Calls Tryz.prog 9 #[.agg #[.slice A n c,.int .i64 root,.int .i64 lone],.int .i64 6,.int .i64 d,.int .i64 e] w (DoOK w o RT LF):=by
 have hb0:=((Below.refl w.heap.size w).alloc (Nat.le_refl _) (.cells #[.slice A n c,.int .i64 root,.int .i64 lone] 28)).alloc (by simp) (.cells #[.slice none 0 0,.int .i64 0,.int .i64 0] 28)
 have HX:=Lib.hid ((Blk.new w 28 #[.slice A n c,.int .i64 root,.int .i64 lone]).alloc (.cells #[.slice none 0 0,.int .i64 0,.int .i64 0] 28))
 have hy:=(Blk.new (w.alloc (.cells #[.slice A n c,.int .i64 root,.int .i64 lone] 28)) 28 #[.slice none 0 0,.int .i64 0,.int .i64 0])
 rw [show (w.alloc (.cells #[.slice A n c,.int .i64 root,.int .i64 lone] 28)).heap.size=w.heap.size+1 by simp] at hy
 have HY:=Lib.hid hy
 have HB0:=Lib.hid hb0
 have HINF:=Lib.hid info_rmap
 have HLN:Hid (o.length=m):=hon
 have CPH:=Lib.hid CP0
 clear hb0 hy hon CP0
 go_enter Tryz.func9,Tryz.ntmps9
 go_upto_region 1 with fail
 generalize hw3:(w.alloc (.cells #[.slice A n c,.int .i64 root,.int .i64 lone] 28)).alloc (.cells #[.slice none 0 0,.int .i64 0,.int .i64 0] 28)=w3 at *
 have hs3:w3.heap.size=w.heap.size+2:=by rw [← hw3];simp
 have SK:Hid (∀ W,Below w3.heap.size w3 W→W.cell? ⟨w.heap.size,0,none⟩=some (.slice A n c)∧W.cell? ⟨w.heap.size,1,none⟩=some (.int .i64 root)∧W.cell? ⟨w.heap.size,2,none⟩=some (.int .i64 lone)):=fun W q=>⟨(HX.out.below q).cell 0,(HX.out.below q).cell 1,(HX.out.below q).cell 2⟩
 obtain ⟨x0,x1,x2⟩:=SK.out _ (Below.refl _ _)
 have Z3:=Lib.hid (Below.refl w3.heap.size w3)
 clear hw3 HX
 have CP:Hid (∀ W,Below w3.heap.size w3 W→Calls Tryz.prog 27 #[.agg #[.slice A n c,.int .i64 root,.int .i64 lone]] W fun en w'=>∃ A9 c9,en=.returned (.agg #[.slice A9 m c9,.int .i64 RT,.int .i64 LF])∧m≤c9∧c9≤maxLen∧w'.ownsRow W.heap.size 3 1 (.slice A9 m c9) m (I64 (ofN o))∧Below W.heap.size W w'):=fun W q=>CPH.out W (HB0.out.trans (q.mono HB0.out.size))
 clear CPH
 go_wp2_with fail
 refine (CP.out _ Z3.out).mono ?_
 rintro en w9 ⟨A9,c9,rfl,hc9,hm9,hown9,b9⟩
 have Z9:=Lib.hid (Z3.out.trans (b9.mono (Nat.le_refl _)))
 have HO9:=Lib.hid hown9
 have HYr:=Lib.hid (HY.out.below Z9.out)
 have q0:=HYr.out.cell 0
 have q1:=HYr.out.cell 1
 have q2:=HYr.out.cell 2
 have f0:=HYr.out.frozen 0
 have f1:=HYr.out.frozen 1
 have f2:=HYr.out.frozen 2
 simp at q0 q1 q2
 clear b9 hown9 x0 x1 x2
 go_wp2_with fail
 obtain ⟨k1,k2,k3⟩:=box_ret (w:=w) (g:=w.heap.size+1) (RT:=RT) (LF:=LF) (by omega) (HB0.out.trans (Z9.out.mono HB0.out.size)) HYr.out HO9.out
 refine bodyPost_ret (results_cell_tmp_row rfl _ _ (w.heap.size+1) 28 _ (0,0) _ rfl k1 Tryz.underlying28 rfl HINF.out) rfl ?_
 have hmo:=HLN.out
 subst hmo
 exact ⟨A9,c9,rfl,hc9,hm9,k2.base_le' (by omega),k3⟩
set_option maxHeartbeats 16000000 in
theorem rk_7 (A:Option Addr) (n c:Nat) (root lone:Int) (m:Nat) (o:List Nat) (RT LF:Int) (d e:Int) (w:World) (hon:o.length=m) (CP0:∀ W,Below w.heap.size w W→Calls Tryz.prog 28 #[.agg #[.slice A n c,.int .i64 root,.int .i64 lone]] W fun en w'=>∃ A9 c9,en=.returned (.agg #[.slice A9 m c9,.int .i64 RT,.int .i64 LF])∧m≤c9∧c9≤maxLen∧w'.ownsRow W.heap.size 3 1 (.slice A9 m c9) m (I64 (ofN o))∧Below W.heap.size W w') :
  Calls Tryz.prog 9 #[.agg #[.slice A n c,.int .i64 root,.int .i64 lone],.int .i64 7,.int .i64 d,.int .i64 e] w (DoOK w o RT LF):=by
 have hb0:=((Below.refl w.heap.size w).alloc (Nat.le_refl _) (.cells #[.slice A n c,.int .i64 root,.int .i64 lone] 28)).alloc (by simp) (.cells #[.slice none 0 0,.int .i64 0,.int .i64 0] 28)
 have HX:=Lib.hid ((Blk.new w 28 #[.slice A n c,.int .i64 root,.int .i64 lone]).alloc (.cells #[.slice none 0 0,.int .i64 0,.int .i64 0] 28))
 have hy:=(Blk.new (w.alloc (.cells #[.slice A n c,.int .i64 root,.int .i64 lone] 28)) 28 #[.slice none 0 0,.int .i64 0,.int .i64 0])
 rw [show (w.alloc (.cells #[.slice A n c,.int .i64 root,.int .i64 lone] 28)).heap.size=w.heap.size+1 by simp] at hy
 have HY:=Lib.hid hy
 have HB0:=Lib.hid hb0
 have HINF:=Lib.hid info_rmap
 have HLN:Hid (o.length=m):=hon
 have CPH:=Lib.hid CP0
 clear hb0 hy hon CP0
 go_enter Tryz.func9,Tryz.ntmps9
 go_upto_region 1 with fail
 generalize hw3:(w.alloc (.cells #[.slice A n c,.int .i64 root,.int .i64 lone] 28)).alloc (.cells #[.slice none 0 0,.int .i64 0,.int .i64 0] 28)=w3 at *
 have hs3:w3.heap.size=w.heap.size+2:=by rw [← hw3];simp
 have SK:Hid (∀ W,Below w3.heap.size w3 W→W.cell? ⟨w.heap.size,0,none⟩=some (.slice A n c)∧W.cell? ⟨w.heap.size,1,none⟩=some (.int .i64 root)∧W.cell? ⟨w.heap.size,2,none⟩=some (.int .i64 lone)):=fun W q=>⟨(HX.out.below q).cell 0,(HX.out.below q).cell 1,(HX.out.below q).cell 2⟩
 obtain ⟨x0,x1,x2⟩:=SK.out _ (Below.refl _ _)
 have Z3:=Lib.hid (Below.refl w3.heap.size w3)
 clear hw3 HX
 have CP:Hid (∀ W,Below w3.heap.size w3 W→Calls Tryz.prog 28 #[.agg #[.slice A n c,.int .i64 root,.int .i64 lone]] W fun en w'=>∃ A9 c9,en=.returned (.agg #[.slice A9 m c9,.int .i64 RT,.int .i64 LF])∧m≤c9∧c9≤maxLen∧w'.ownsRow W.heap.size 3 1 (.slice A9 m c9) m (I64 (ofN o))∧Below W.heap.size W w'):=fun W q=>CPH.out W (HB0.out.trans (q.mono HB0.out.size))
 clear CPH
 go_wp2_with fail
 refine (CP.out _ Z3.out).mono ?_
 rintro en w9 ⟨A9,c9,rfl,hc9,hm9,hown9,b9⟩
 have Z9:=Lib.hid (Z3.out.trans (b9.mono (Nat.le_refl _)))
 have HO9:=Lib.hid hown9
 have HYr:=Lib.hid (HY.out.below Z9.out)
 have q0:=HYr.out.cell 0
 have q1:=HYr.out.cell 1
 have q2:=HYr.out.cell 2
 have f0:=HYr.out.frozen 0
 have f1:=HYr.out.frozen 1
 have f2:=HYr.out.frozen 2
 simp at q0 q1 q2
 clear b9 hown9 x0 x1 x2
 go_wp2_with fail
 obtain ⟨k1,k2,k3⟩:=box_ret (w:=w) (g:=w.heap.size+1) (RT:=RT) (LF:=LF) (by omega) (HB0.out.trans (Z9.out.mono HB0.out.size)) HYr.out HO9.out
 refine bodyPost_ret (results_cell_tmp_row rfl _ _ (w.heap.size+1) 28 _ (0,0) _ rfl k1 Tryz.underlying28 rfl HINF.out) rfl ?_
 have hmo:=HLN.out
 subst hmo
 exact ⟨A9,c9,rfl,hc9,hm9,k2.base_le' (by omega),k3⟩
set_option maxHeartbeats 16000000 in
theorem rk_10 (A:Option Addr) (n c:Nat) (root lone:Int) (m:Nat) (o:List Nat) (RT LF:Int) (d e:Int) (w:World) (hon:o.length=m) (CP0:∀ W,Below w.heap.size w W→Calls Tryz.prog 29 #[.agg #[.slice A n c,.int .i64 root,.int .i64 lone]] W fun en w'=>∃ A9 c9,en=.returned (.agg #[.slice A9 m c9,.int .i64 RT,.int .i64 LF])∧m≤c9∧c9≤maxLen∧w'.ownsRow W.heap.size 3 1 (.slice A9 m c9) m (I64 (ofN o))∧Below W.heap.size W w') :
  Calls Tryz.prog 9 #[.agg #[.slice A n c,.int .i64 root,.int .i64 lone],.int .i64 10,.int .i64 d,.int .i64 e] w (DoOK w o RT LF):=by
 have hb0:=((Below.refl w.heap.size w).alloc (Nat.le_refl _) (.cells #[.slice A n c,.int .i64 root,.int .i64 lone] 28)).alloc (by simp) (.cells #[.slice none 0 0,.int .i64 0,.int .i64 0] 28)
 have HX:=Lib.hid ((Blk.new w 28 #[.slice A n c,.int .i64 root,.int .i64 lone]).alloc (.cells #[.slice none 0 0,.int .i64 0,.int .i64 0] 28))
 have hy:=(Blk.new (w.alloc (.cells #[.slice A n c,.int .i64 root,.int .i64 lone] 28)) 28 #[.slice none 0 0,.int .i64 0,.int .i64 0])
 rw [show (w.alloc (.cells #[.slice A n c,.int .i64 root,.int .i64 lone] 28)).heap.size=w.heap.size+1 by simp] at hy
 have HY:=Lib.hid hy
 have HB0:=Lib.hid hb0
 have HINF:=Lib.hid info_rmap
 have HLN:Hid (o.length=m):=hon
 have CPH:=Lib.hid CP0
 clear hb0 hy hon CP0
 go_enter Tryz.func9,Tryz.ntmps9
 go_upto_region 1 with fail
 generalize hw3:(w.alloc (.cells #[.slice A n c,.int .i64 root,.int .i64 lone] 28)).alloc (.cells #[.slice none 0 0,.int .i64 0,.int .i64 0] 28)=w3 at *
 have hs3:w3.heap.size=w.heap.size+2:=by rw [← hw3];simp
 have SK:Hid (∀ W,Below w3.heap.size w3 W→W.cell? ⟨w.heap.size,0,none⟩=some (.slice A n c)∧W.cell? ⟨w.heap.size,1,none⟩=some (.int .i64 root)∧W.cell? ⟨w.heap.size,2,none⟩=some (.int .i64 lone)):=fun W q=>⟨(HX.out.below q).cell 0,(HX.out.below q).cell 1,(HX.out.below q).cell 2⟩
 obtain ⟨x0,x1,x2⟩:=SK.out _ (Below.refl _ _)
 have Z3:=Lib.hid (Below.refl w3.heap.size w3)
 clear hw3 HX
 have CP:Hid (∀ W,Below w3.heap.size w3 W→Calls Tryz.prog 29 #[.agg #[.slice A n c,.int .i64 root,.int .i64 lone]] W fun en w'=>∃ A9 c9,en=.returned (.agg #[.slice A9 m c9,.int .i64 RT,.int .i64 LF])∧m≤c9∧c9≤maxLen∧w'.ownsRow W.heap.size 3 1 (.slice A9 m c9) m (I64 (ofN o))∧Below W.heap.size W w'):=fun W q=>CPH.out W (HB0.out.trans (q.mono HB0.out.size))
 clear CPH
 go_wp2_with fail
 refine (CP.out _ Z3.out).mono ?_
 rintro en w9 ⟨A9,c9,rfl,hc9,hm9,hown9,b9⟩
 have Z9:=Lib.hid (Z3.out.trans (b9.mono (Nat.le_refl _)))
 have HO9:=Lib.hid hown9
 have HYr:=Lib.hid (HY.out.below Z9.out)
 have q0:=HYr.out.cell 0
 have q1:=HYr.out.cell 1
 have q2:=HYr.out.cell 2
 have f0:=HYr.out.frozen 0
 have f1:=HYr.out.frozen 1
 have f2:=HYr.out.frozen 2
 simp at q0 q1 q2
 clear b9 hown9 x0 x1 x2
 go_wp2_with fail
 obtain ⟨k1,k2,k3⟩:=box_ret (w:=w) (g:=w.heap.size+1) (RT:=RT) (LF:=LF) (by omega) (HB0.out.trans (Z9.out.mono HB0.out.size)) HYr.out HO9.out
 refine bodyPost_ret (results_cell_tmp_row rfl _ _ (w.heap.size+1) 28 _ (0,0) _ rfl k1 Tryz.underlying28 rfl HINF.out) rfl ?_
 have hmo:=HLN.out
 subst hmo
 exact ⟨A9,c9,rfl,hc9,hm9,k2.base_le' (by omega),k3⟩
set_option maxHeartbeats 16000000 in
theorem rk_8 (A:Option Addr) (n c:Nat) (root lone:Int) (m:Nat) (o:List Nat) (RT LF:Int) (d h:Nat) (e:Int) (w:World) (hd:d < n) (hh:h=d / 2) (hn:n≤200000) (hon:o.length=m) (CP0:∀ W,Below w.heap.size w W→Calls Tryz.prog 30 #[.agg #[.slice A n c,.int .i64 root,.int .i64 lone],.int .i64 (h:Int)] W fun en w'=>∃ A9 c9,en=.returned (.agg #[.slice A9 m c9,.int .i64 RT,.int .i64 LF])∧m≤c9∧c9≤maxLen∧w'.ownsRow W.heap.size 3 1 (.slice A9 m c9) m (I64 (ofN o))∧Below W.heap.size W w') :
  Calls Tryz.prog 9 #[.agg #[.slice A n c,.int .i64 root,.int .i64 lone],.int .i64 8,.int .i64 (d:Int),.int .i64 e] w (DoOK w o RT LF):=by
 have hb0:=((Below.refl w.heap.size w).alloc (Nat.le_refl _) (.cells #[.slice A n c,.int .i64 root,.int .i64 lone] 28)).alloc (by simp) (.cells #[.slice none 0 0,.int .i64 0,.int .i64 0] 28)
 have HX:=Lib.hid ((Blk.new w 28 #[.slice A n c,.int .i64 root,.int .i64 lone]).alloc (.cells #[.slice none 0 0,.int .i64 0,.int .i64 0] 28))
 have hy:=(Blk.new (w.alloc (.cells #[.slice A n c,.int .i64 root,.int .i64 lone] 28)) 28 #[.slice none 0 0,.int .i64 0,.int .i64 0])
 rw [show (w.alloc (.cells #[.slice A n c,.int .i64 root,.int .i64 lone] 28)).heap.size=w.heap.size+1 by simp] at hy
 have HY:=Lib.hid hy
 have HB0:=Lib.hid hb0
 have HINF:=Lib.hid info_rmap
 have HLN:Hid (o.length=m):=hon
 have CPH:=Lib.hid CP0
 have dI:(d:Int) < (n:Int):=by omega
 have nI:¬ (n:Int)≤(d:Int):=by omega
 have nIb:decide ((n:Int)≤(d:Int))=false:=decide_eq_false nI
 have h2:(d:Int) / 2=(h:Int):=by omega
 have h2t:(d:Int).tdiv 2=(h:Int):=by rw [Int.tdiv_eq_ediv_of_nonneg (by omega)];exact h2
 have wh2:IntKind.i64.wrap (h:Int)=(h:Int):=by simp [IntKind.wrap,IntKind.signed,IntKind.bits];omega
 clear hb0 hy hon CP0 hh
 go_enter Tryz.func9,Tryz.ntmps9
 go_upto_region 1 with fail
 generalize hw3:(w.alloc (.cells #[.slice A n c,.int .i64 root,.int .i64 lone] 28)).alloc (.cells #[.slice none 0 0,.int .i64 0,.int .i64 0] 28)=w3 at *
 have hs3:w3.heap.size=w.heap.size+2:=by rw [← hw3];simp
 have SK:Hid (∀ W,Below w3.heap.size w3 W→W.cell? ⟨w.heap.size,0,none⟩=some (.slice A n c)∧W.cell? ⟨w.heap.size,1,none⟩=some (.int .i64 root)∧W.cell? ⟨w.heap.size,2,none⟩=some (.int .i64 lone)):=fun W q=>⟨(HX.out.below q).cell 0,(HX.out.below q).cell 1,(HX.out.below q).cell 2⟩
 obtain ⟨x0,x1,x2⟩:=SK.out _ (Below.refl _ _)
 have Z3:=Lib.hid (Below.refl w3.heap.size w3)
 clear hw3 HX
 have CP:Hid (∀ W,Below w3.heap.size w3 W→Calls Tryz.prog 30 #[.agg #[.slice A n c,.int .i64 root,.int .i64 lone],.int .i64 (h:Int)] W fun en w'=>∃ A9 c9,en=.returned (.agg #[.slice A9 m c9,.int .i64 RT,.int .i64 LF])∧m≤c9∧c9≤maxLen∧w'.ownsRow W.heap.size 3 1 (.slice A9 m c9) m (I64 (ofN o))∧Below W.heap.size W w'):=fun W q=>CPH.out W (HB0.out.trans (q.mono HB0.out.size))
 clear CPH
 go_wp2_with fail
 refine (CP.out _ Z3.out).mono ?_
 rintro en w9 ⟨A9,c9,rfl,hc9,hm9,hown9,b9⟩
 have Z9:=Lib.hid (Z3.out.trans (b9.mono (Nat.le_refl _)))
 have HO9:=Lib.hid hown9
 have HYr:=Lib.hid (HY.out.below Z9.out)
 have q0:=HYr.out.cell 0
 have q1:=HYr.out.cell 1
 have q2:=HYr.out.cell 2
 have f0:=HYr.out.frozen 0
 have f1:=HYr.out.frozen 1
 have f2:=HYr.out.frozen 2
 simp at q0 q1 q2
 clear b9 hown9 x0 x1 x2
 go_wp2_with fail
 obtain ⟨k1,k2,k3⟩:=box_ret (w:=w) (g:=w.heap.size+1) (RT:=RT) (LF:=LF) (by omega) (HB0.out.trans (Z9.out.mono HB0.out.size)) HYr.out HO9.out
 refine bodyPost_ret (results_cell_tmp_row rfl _ _ (w.heap.size+1) 28 _ (0,0) _ rfl k1 Tryz.underlying28 rfl HINF.out) rfl ?_
 have hmo:=HLN.out
 subst hmo
 exact ⟨A9,c9,rfl,hc9,hm9,k2.base_le' (by omega),k3⟩
set_option maxHeartbeats 16000000 in
theorem rk_grow (A:Option Addr) (n c:Nat) (root lone:Int) (k:Nat) (l b:List Nat) (d e:Int) (w:World) (hk:k < 5) (GP0:∀ W,Below w.heap.size w W→Calls Tryz.prog 26 #[.agg #[.slice A n c,.int .i64 root,.int .i64 lone],.int .i64 (k:Int),.int .i64 d,.int .i64 e] W (GrowD k l b root lone d e W)) :
  Calls Tryz.prog 9 #[.agg #[.slice A n c,.int .i64 root,.int .i64 lone],.int .i64 (k:Int),.int .i64 d,.int .i64 e] w (GrowD k l b root lone d e w):=by
 have hb0:=((Below.refl w.heap.size w).alloc (Nat.le_refl _) (.cells #[.slice A n c,.int .i64 root,.int .i64 lone] 28)).alloc (by simp) (.cells #[.slice none 0 0,.int .i64 0,.int .i64 0] 28)
 have HX:=Lib.hid ((Blk.new w 28 #[.slice A n c,.int .i64 root,.int .i64 lone]).alloc (.cells #[.slice none 0 0,.int .i64 0,.int .i64 0] 28))
 have hy:=(Blk.new (w.alloc (.cells #[.slice A n c,.int .i64 root,.int .i64 lone] 28)) 28 #[.slice none 0 0,.int .i64 0,.int .i64 0])
 rw [show (w.alloc (.cells #[.slice A n c,.int .i64 root,.int .i64 lone] 28)).heap.size=w.heap.size+1 by simp] at hy
 have HY:=Lib.hid hy
 have HB0:=Lib.hid hb0
 have HINF:=Lib.hid info_rmap
 have GPH:=Lib.hid GP0
 have k5:(k:Int) < 5:=by omega
 have k5b:decide ((k:Int) < 5)=true:=decide_eq_true k5
 have k10:¬ (10:Int) < (k:Int):=by omega
 have k10b:decide ((10:Int) < (k:Int))=false:=decide_eq_false k10
 clear hb0 hy GP0 hk
 go_enter Tryz.func9,Tryz.ntmps9
 go_upto_region 1 with fail
 generalize hw3:(w.alloc (.cells #[.slice A n c,.int .i64 root,.int .i64 lone] 28)).alloc (.cells #[.slice none 0 0,.int .i64 0,.int .i64 0] 28)=w3 at *
 have hs3:w3.heap.size=w.heap.size+2:=by rw [← hw3];simp
 have SK:Hid (∀ W,Below w3.heap.size w3 W→W.cell? ⟨w.heap.size,0,none⟩=some (.slice A n c)∧W.cell? ⟨w.heap.size,1,none⟩=some (.int .i64 root)∧W.cell? ⟨w.heap.size,2,none⟩=some (.int .i64 lone)):=fun W q=>⟨(HX.out.below q).cell 0,(HX.out.below q).cell 1,(HX.out.below q).cell 2⟩
 obtain ⟨x0,x1,x2⟩:=SK.out _ (Below.refl _ _)
 have Z3:=Lib.hid (Below.refl w3.heap.size w3)
 clear hw3 HX
 have GP:Hid (∀ W,Below w3.heap.size w3 W→Calls Tryz.prog 26 #[.agg #[.slice A n c,.int .i64 root,.int .i64 lone],.int .i64 (k:Int),.int .i64 d,.int .i64 e] W (GrowD k l b root lone d e W)):=fun W q=>GPH.out W (HB0.out.trans (q.mono HB0.out.size))
 clear GPH
 go_wp2_with fail
 refine (GP.out _ Z3.out).mono ?_
 rintro en w9 ⟨A9,n9,c9,rfl,b9,hD⟩
 obtain ⟨X,hX⟩:∃ X,X=growE k l d e:=⟨_,rfl⟩
 rw [← hX]
 have HXX:=Lib.hid hX
 have Z9:=Lib.hid (Z3.out.trans (b9.mono (Nat.le_refl _)))
 have HD:=Lib.hid hD
 have hs9:=Z9.out.size
 have HYr:=Lib.hid (HY.out.below Z9.out)
 have q0:=HYr.out.cell 0
 have q1:=HYr.out.cell 1
 have q2:=HYr.out.cell 2
 have f0:=HYr.out.frozen 0
 have f1:=HYr.out.frozen 1
 have f2:=HYr.out.frozen 2
 simp at q0 q1 q2
 have MM:=Lib.hid (box_mod w9 (w.heap.size+1) (.slice A9 n9 c9) (.int .i64 root) (.int .i64 lone))
 have hblk:Hid (Blk (((w9.setCell ⟨w.heap.size+1,0,none⟩ (.slice A9 n9 c9)).setCell ⟨w.heap.size+1,1,none⟩ (.int .i64 root)).setCell ⟨w.heap.size+1,2,none⟩ (.int .i64 lone)) (w.heap.size+1) 28 #[.slice A9 n9 c9,.int .i64 root,.int .i64 lone]):=by
  show Blk _ _ _ _
  have:=((HYr.out.set_ 0 (.slice A9 n9 c9)).set_ 1 (.int .i64 root)).set_ 2 (.int .i64 lone)
  simpa using this
 clear b9 hD hX x0 x1 x2
 go_wp2_with fail
 refine bodyPost_ret (results_cell_tmp_row rfl _ _ (w.heap.size+1) 28 _ (0,0) _ rfl hblk.out Tryz.underlying28 rfl HINF.out) rfl ?_
 refine ⟨A9,n9,c9,by rw [← HXX.out];rfl,(HB0.out.trans (Z9.out.mono HB0.out.size)).trans (MM.out.belowB (by omega) fun i hi q=>by omega),fun h0=>?_⟩
 obtain ⟨z1,z2,z3,z4⟩:=HD.out h0
 refine ⟨z1,z2,z3,(own_mod z4 MM.out (fun i hi hf=>?_)).base_le' (by omega)⟩
 have h1:=(z4.lt i hi).1
 omega
set_option maxHeartbeats 16000000 in
theorem rk_9 (A:Option Addr) (n c:Nat) (root lone:Int) (m:Nat) (o:List Nat) (RT LF:Int) (d h mt0:Nat) (nd nm:Int) (e:Int) (w:World) (hd:d < n) (hh:h=d / 2) (hn:n≤200000) (hm:mt0 < n) (NM0:∀ W,Below w.heap.size w W→Calls Tryz.prog 31 #[.slice A n c] W fun en w'=>∃ gN c9,en=.returned (.slice (some ⟨gN,0,none⟩) n c9)∧(∀ W',Below w'.heap.size w' W'→W'.cell? ⟨gN,d,none⟩=some (.int .i64 nd)∧W'.cell? ⟨gN,mt0,none⟩=some (.int .i64 nm))∧Below W.heap.size W w') (MT0:∀ W,Calls Tryz.prog 32 #[.int .i64 (d:Int)] W fun en w'=>en=.returned (.int .i64 (mt0:Int))∧W=w') (hne:nd≠nm) (hon:o.length=m) (CP0:∀ W,Below w.heap.size w W→Calls Tryz.prog 33 #[.agg #[.slice A n c,.int .i64 root,.int .i64 lone],.int .i64 (h:Int)] W fun en w'=>∃ A9 c9,en=.returned (.agg #[.slice A9 m c9,.int .i64 RT,.int .i64 LF])∧m≤c9∧c9≤maxLen∧w'.ownsRow W.heap.size 3 1 (.slice A9 m c9) m (I64 (ofN o))∧Below W.heap.size W w') :
  Calls Tryz.prog 9 #[.agg #[.slice A n c,.int .i64 root,.int .i64 lone],.int .i64 9,.int .i64 (d:Int),.int .i64 e] w (DoOK w o RT LF):=by
 have hb0:=((Below.refl w.heap.size w).alloc (Nat.le_refl _) (.cells #[.slice A n c,.int .i64 root,.int .i64 lone] 28)).alloc (by simp) (.cells #[.slice none 0 0,.int .i64 0,.int .i64 0] 28)
 have HX:=Lib.hid ((Blk.new w 28 #[.slice A n c,.int .i64 root,.int .i64 lone]).alloc (.cells #[.slice none 0 0,.int .i64 0,.int .i64 0] 28))
 have hy:=(Blk.new (w.alloc (.cells #[.slice A n c,.int .i64 root,.int .i64 lone] 28)) 28 #[.slice none 0 0,.int .i64 0,.int .i64 0])
 rw [show (w.alloc (.cells #[.slice A n c,.int .i64 root,.int .i64 lone] 28)).heap.size=w.heap.size+1 by simp] at hy
 have HY:=Lib.hid hy
 have HB0:=Lib.hid hb0
 have HINF:=Lib.hid info_rmap
 have HLN:Hid (o.length=m):=hon
 have CPH:=Lib.hid CP0
 have dI:(d:Int) < (n:Int):=by omega
 have nI:¬ (n:Int)≤(d:Int):=by omega
 have nIb:decide ((n:Int)≤(d:Int))=false:=decide_eq_false nI
 have h2:(d:Int) / 2=(h:Int):=by omega
 have h2t:(d:Int).tdiv 2=(h:Int):=by rw [Int.tdiv_eq_ediv_of_nonneg (by omega)];exact h2
 have wh2:IntKind.i64.wrap (h:Int)=(h:Int):=by simp [IntKind.wrap,IntKind.signed,IntKind.bits];omega
 have NMP:=Lib.hid NM0
 have MTP:Hid (∀ W,Calls Tryz.prog 32 #[.int .i64 (d:Int)] W fun en w'=>en=.returned (.int .i64 (mt0:Int))∧W=w'):=MT0
 have neb:(nd == nm)=false:=by rw [beq_eq_false_iff_ne];exact hne
 have ned:decide (nd=nm)=false:=decide_eq_false hne
 clear hb0 hy hon CP0 hh NM0 MT0
 go_enter Tryz.func9,Tryz.ntmps9
 go_upto_region 1 with fail
 generalize hw3:(w.alloc (.cells #[.slice A n c,.int .i64 root,.int .i64 lone] 28)).alloc (.cells #[.slice none 0 0,.int .i64 0,.int .i64 0] 28)=w3 at *
 have hs3:w3.heap.size=w.heap.size+2:=by rw [← hw3];simp
 have SK:Hid (∀ W,Below w3.heap.size w3 W→W.cell? ⟨w.heap.size,0,none⟩=some (.slice A n c)∧W.cell? ⟨w.heap.size,1,none⟩=some (.int .i64 root)∧W.cell? ⟨w.heap.size,2,none⟩=some (.int .i64 lone)):=fun W q=>⟨(HX.out.below q).cell 0,(HX.out.below q).cell 1,(HX.out.below q).cell 2⟩
 obtain ⟨x0,x1,x2⟩:=SK.out _ (Below.refl _ _)
 have Z3:=Lib.hid (Below.refl w3.heap.size w3)
 clear hw3 HX
 have CP:Hid (∀ W,Below w3.heap.size w3 W→Calls Tryz.prog 33 #[.agg #[.slice A n c,.int .i64 root,.int .i64 lone],.int .i64 (h:Int)] W fun en w'=>∃ A9 c9,en=.returned (.agg #[.slice A9 m c9,.int .i64 RT,.int .i64 LF])∧m≤c9∧c9≤maxLen∧w'.ownsRow W.heap.size 3 1 (.slice A9 m c9) m (I64 (ofN o))∧Below W.heap.size W w'):=fun W q=>CPH.out W (HB0.out.trans (q.mono HB0.out.size))
 clear CPH
 have mI:(mt0:Int) < (n:Int):=by omega
 go_wp2_with fail
 refine (NMP.out _ (HB0.out.trans (Z3.out.mono HB0.out.size))).mono ?_
 rintro en w4 ⟨gN,c9,rfl,hcN,b4⟩
 have Z4:=Lib.hid (Z3.out.trans (b4.mono (Nat.le_refl _)))
 have hs4:=Z4.out.size
 have CN:Hid (∀ W,Below w4.heap.size w4 W→Below w4.heap.size w4 W∧W.cell? ⟨gN,d,none⟩=some (.int .i64 nd)∧W.cell? ⟨gN,mt0,none⟩=some (.int .i64 nm)):=fun W q=>⟨q,hcN W q⟩
 have MTB:Hid (∀ W,Below w4.heap.size w4 W→Calls Tryz.prog 32 #[.int .i64 (d:Int)] W fun en w'=>en=.returned (.int .i64 (mt0:Int))∧Below w4.heap.size w4 w'):=fun W q=>(MTP.out W).mono fun en w' ⟨q1,q2⟩=>⟨q1,q2 ▸ q⟩
 have a0:=Below.refl w4.heap.size w4
 have a1:=a0.drew
 obtain ⟨-,y0,y1⟩:=CN.out _ a0
 obtain ⟨-,v0,v1⟩:=CN.out _ a1
 clear b4 hcN NMP MTP x0 x1 x2
 go_upto_region 21 with fail
 go_cut [98] from 89 to 99 (fun v wx=>v=.bool false∧Below w4.heap.size w4 wx)
 case first =>
  go_region_held3 (fun W=>Below w4.heap.size w4 W∧W.cell? ⟨gN,d,none⟩=some (.int .i64 nd)∧W.cell? ⟨gN,mt0,none⟩=some (.int .i64 nm)) (exact CN.out _ (by assumption)) (first
   | (go_at_call 32;(with_reducible refine (MTB.out _ (by assumption)).mono ?_);rintro en wb ⟨rfl,hbb⟩))
  all_goals (go_wp2_with fail)
  all_goals (go_meet)
  all_goals (exact ⟨rfl,by assumption⟩)
 case rest =>
 obtain ⟨rfl,bc⟩:=hcut
 have Z3':=Lib.hid (Z4.out.trans (bc.mono hs4))
 obtain ⟨x0,x1,x2⟩:=SK.out _ Z3'.out
 have hsc:=Z3'.out.size
 clear bc a0 a1 y0 y1 v0 v1 CN MTB
 go_wp2_with fail
 refine (CP.out _ Z3'.out).mono ?_
 rintro en w9 ⟨A9,c9,rfl,hc9,hm9,hown9,b9⟩
 have Z9:=Lib.hid (Z3'.out.trans (b9.mono Z3'.out.size))
 have HO9:=Lib.hid hown9
 have HYr:=Lib.hid (HY.out.below Z9.out)
 have q0:=HYr.out.cell 0
 have q1:=HYr.out.cell 1
 have q2:=HYr.out.cell 2
 have f0:=HYr.out.frozen 0
 have f1:=HYr.out.frozen 1
 have f2:=HYr.out.frozen 2
 simp at q0 q1 q2
 clear b9 hown9 x0 x1 x2
 go_wp2_with fail
 obtain ⟨k1,k2,k3⟩:=box_ret (w:=w) (g:=w.heap.size+1) (RT:=RT) (LF:=LF) (by omega) (HB0.out.trans (Z9.out.mono HB0.out.size)) HYr.out HO9.out
 refine bodyPost_ret (results_cell_tmp_row rfl _ _ (w.heap.size+1) 28 _ (0,0) _ rfl k1 Tryz.underlying28 rfl HINF.out) rfl ?_
 have hmo:=HLN.out
 subst hmo
 exact ⟨A9,c9,rfl,hc9,hm9,k2.base_le' (by omega),k3⟩
set_option maxHeartbeats 16000000 in
theorem rk_9loop (A:Option Addr) (n c:Nat) (root lone:Int) (d h mt0:Nat) (nd nm:Int) (e:Int) (w:World) (hd:d < n) (hh:h=d / 2) (hn:n≤200000) (hm:mt0 < n) (NM0:∀ W,Below w.heap.size w W→Calls Tryz.prog 31 #[.slice A n c] W fun en w'=>∃ gN c9,en=.returned (.slice (some ⟨gN,0,none⟩) n c9)∧(∀ W',Below w'.heap.size w' W'→W'.cell? ⟨gN,d,none⟩=some (.int .i64 nd)∧W'.cell? ⟨gN,mt0,none⟩=some (.int .i64 nm))∧Below W.heap.size W w') (MT0:∀ W,Calls Tryz.prog 32 #[.int .i64 (d:Int)] W fun en w'=>en=.returned (.int .i64 (mt0:Int))∧W=w') (hne:nd=nm) :
  Calls Tryz.prog 9 #[.agg #[.slice A n c,.int .i64 root,.int .i64 lone],.int .i64 9,.int .i64 (d:Int),.int .i64 e] w (DoNo w A n c root lone 8):=by
 have hb0:=((Below.refl w.heap.size w).alloc (Nat.le_refl _) (.cells #[.slice A n c,.int .i64 root,.int .i64 lone] 28)).alloc (by simp) (.cells #[.slice none 0 0,.int .i64 0,.int .i64 0] 28)
 have HX:=Lib.hid ((Blk.new w 28 #[.slice A n c,.int .i64 root,.int .i64 lone]).alloc (.cells #[.slice none 0 0,.int .i64 0,.int .i64 0] 28))
 have hy:=(Blk.new (w.alloc (.cells #[.slice A n c,.int .i64 root,.int .i64 lone] 28)) 28 #[.slice none 0 0,.int .i64 0,.int .i64 0])
 rw [show (w.alloc (.cells #[.slice A n c,.int .i64 root,.int .i64 lone] 28)).heap.size=w.heap.size+1 by simp] at hy
 have HY:=Lib.hid hy
 have HB0:=Lib.hid hb0
 have HINF:=Lib.hid info_rmap
 have dI:(d:Int) < (n:Int):=by omega
 have nI:¬ (n:Int)≤(d:Int):=by omega
 have nIb:decide ((n:Int)≤(d:Int))=false:=decide_eq_false nI
 have h2:(d:Int) / 2=(h:Int):=by omega
 have h2t:(d:Int).tdiv 2=(h:Int):=by rw [Int.tdiv_eq_ediv_of_nonneg (by omega)];exact h2
 have wh2:IntKind.i64.wrap (h:Int)=(h:Int):=by simp [IntKind.wrap,IntKind.signed,IntKind.bits];omega
 have NMP:=Lib.hid NM0
 have MTP:Hid (∀ W,Calls Tryz.prog 32 #[.int .i64 (d:Int)] W fun en w'=>en=.returned (.int .i64 (mt0:Int))∧W=w'):=MT0
 subst hne
 clear hb0 hy hh NM0 MT0
 go_enter Tryz.func9,Tryz.ntmps9
 go_upto_region 1 with fail
 generalize hw3:(w.alloc (.cells #[.slice A n c,.int .i64 root,.int .i64 lone] 28)).alloc (.cells #[.slice none 0 0,.int .i64 0,.int .i64 0] 28)=w3 at *
 have hs3:w3.heap.size=w.heap.size+2:=by rw [← hw3];simp
 have SK:Hid (∀ W,Below w3.heap.size w3 W→W.cell? ⟨w.heap.size,0,none⟩=some (.slice A n c)∧W.cell? ⟨w.heap.size,1,none⟩=some (.int .i64 root)∧W.cell? ⟨w.heap.size,2,none⟩=some (.int .i64 lone)):=fun W q=>⟨(HX.out.below q).cell 0,(HX.out.below q).cell 1,(HX.out.below q).cell 2⟩
 obtain ⟨x0,x1,x2⟩:=SK.out _ (Below.refl _ _)
 have Z3:=Lib.hid (Below.refl w3.heap.size w3)
 clear hw3 HX
 have mI:(mt0:Int) < (n:Int):=by omega
 go_wp2_with fail
 refine (NMP.out _ (HB0.out.trans (Z3.out.mono HB0.out.size))).mono ?_
 rintro en w4 ⟨gN,c9,rfl,hcN,b4⟩
 have Z4:=Lib.hid (Z3.out.trans (b4.mono (Nat.le_refl _)))
 have hs4:=Z4.out.size
 have CN:Hid (∀ W,Below w4.heap.size w4 W→Below w4.heap.size w4 W∧W.cell? ⟨gN,d,none⟩=some (.int .i64 nd)∧W.cell? ⟨gN,mt0,none⟩=some (.int .i64 nd)):=fun W q=>⟨q,hcN W q⟩
 have MTB:Hid (∀ W,Below w4.heap.size w4 W→Calls Tryz.prog 32 #[.int .i64 (d:Int)] W fun en w'=>en=.returned (.int .i64 (mt0:Int))∧Below w4.heap.size w4 w'):=fun W q=>(MTP.out W).mono fun en w' ⟨q1,q2⟩=>⟨q1,q2 ▸ q⟩
 have a0:=Below.refl w4.heap.size w4
 have a1:=a0.drew
 obtain ⟨-,y0,y1⟩:=CN.out _ a0
 obtain ⟨-,v0,v1⟩:=CN.out _ a1
 clear b4 hcN NMP MTP x0 x1 x2
 go_upto_region 21 with fail
 go_cut [98] from 89 to 99 (fun v wx=>v=.bool true∧Below w4.heap.size w4 wx)
 case first =>
  go_region_held3 (fun W=>Below w4.heap.size w4 W∧W.cell? ⟨gN,d,none⟩=some (.int .i64 nd)∧W.cell? ⟨gN,mt0,none⟩=some (.int .i64 nd)) (exact CN.out _ (by assumption)) (first
   | (go_at_call 32;(with_reducible refine (MTB.out _ (by assumption)).mono ?_);rintro en wb ⟨rfl,hbb⟩))
  all_goals (go_wp2_with fail)
  all_goals (go_meet)
  all_goals (exact ⟨rfl,by assumption⟩)
 case rest =>
 obtain ⟨rfl,bc⟩:=hcut
 have Z3':=Lib.hid (Z4.out.trans (bc.mono hs4))
 obtain ⟨x0,x1,x2⟩:=SK.out _ Z3'.out
 have hsc:=Z3'.out.size
 clear bc a0 a1 y0 y1 v0 v1 CN MTB
 have HYr:=Lib.hid (HY.out.below Z3'.out)
 have q0:=HYr.out.cell 0
 have q1:=HYr.out.cell 1
 have q2:=HYr.out.cell 2
 have f0:=HYr.out.frozen 0
 have f1:=HYr.out.frozen 1
 have f2:=HYr.out.frozen 2
 simp at q0 q1 q2
 have MM:=Lib.hid (box_mod wc (w.heap.size+1) (.slice A n c) (.int .i64 (root)) (.int .i64 lone))
 have hblk:Hid (Blk (((wc.setCell ⟨w.heap.size+1,0,none⟩ (.slice A n c)).setCell ⟨w.heap.size+1,1,none⟩ (.int .i64 (root))).setCell ⟨w.heap.size+1,2,none⟩ (.int .i64 lone)) (w.heap.size+1) 28 #[.slice A n c,.int .i64 (root),.int .i64 lone]):=by
  show Blk _ _ _ _
  have:=((HYr.out.set_ 0 (.slice A n c)).set_ 1 (.int .i64 (root))).set_ 2 (.int .i64 lone)
  simpa using this
 go_wp2_with fail
 refine bodyPost_ret (results_cell_tmp_row rfl _ _ (w.heap.size+1) 28 _ (0,0) _ rfl hblk.out Tryz.underlying28 rfl HINF.out) rfl ?_
 exact ⟨rfl,(HB0.out.trans (Z3'.out.mono HB0.out.size)).trans (MM.out.belowB (by omega) fun i hi q=>by omega)⟩
def ActD (k:Int) (l b:List Nat) (root lone d e:Int) (w:World) (en:Ending) (w':World):Prop :=
 ∃ A n c rt ln,en=.returned (.tuple #[.agg #[.slice A n c,.int .i64 rt,.int .i64 ln],.int .i64 (actE k l d e)])∧Below w.heap.size w w'∧(actE k l d e=0 →
  n=(actL k l b root d e).length∧n≤c∧c≤maxLen∧Rd w' w'.heap.size A n (I64 (ofN (actL k l b root d e)))∧rt=actT k l b root d∧ln=actN k l lone d)
section
variable {k root lone d e:Int} {l b:List Nat} {w w':World} {en:Ending}
theorem DoNo.act {A:Option Addr} {n c:Nat} {x:Int} (h:DoNo w A n c root lone x en w') (hx:actE k l d e=x) (h0:x≠0):ActD k l b root lone d e w en w':=by
 obtain ⟨rfl,q⟩:=h
 exact ⟨A,n,c,root,lone,by rw [hx],q,fun z=>absurd (hx.symm.trans z) h0⟩
theorem DoOK.act {o:List Nat} {rt ln:Int} (h:DoOK w o rt ln en w') (hx:actE k l d e=0) (ho:o=actL k l b root d e) (hr:rt=actT k l b root d) (hl:ln=actN k l lone d):ActD k l b root lone d e w en w':=by
 obtain ⟨A,c,rfl,q1,q2,q3,q4⟩:=h
 exact ⟨A,o.length,c,rt,ln,by rw [hx],q4,fun _=>⟨by rw [ho],q1,q2,by rw [← ho];exact Rd.ofOwn q3,hr,hl⟩⟩
end
theorem rdo24_a (k d e:Int) (A:Option Addr) (c:Nat) (l b:List Nat) (root lone:Int) (w:World) (h:Rd w w.heap.size A l.length (I64 (ofN l))) (hi:Inv l b) (hev:l.length%2=0) (hn:l.length≤1000) (hr:RootOk root l.length) (hl0:0≤lone) (hl1:lone≤60000) (hc:l.length≤c) (hc2:c≤maxLen) :
  Calls Tryz.prog 9 #[.agg #[.slice A l.length c,.int .i64 root,.int .i64 lone],.int .i64 k,.int .i64 d,.int .i64 e] w (ActD k l b root lone d e w):=by
 have up:∀ W,Below w.heap.size w W→Rd W W.heap.size A l.length (I64 (ofN l)):=fun W m=>(h.below m).up m.size
 by_cases hk:0≤k∧k≤10
 ·by_cases hk5:k < 5
  ·obtain ⟨kn,rfl⟩:∃ kn:Nat,k=(kn:Int):=⟨k.toNat,by omega⟩
   have cc:0≤(kn:Int)∧(kn:Int) < 5:=by omega
   have e1:actE (kn:Int) l d e=growE kn l d e:=by unfold actE;rw [if_pos cc];rfl
   have e2:actL (kn:Int) l b root d e=(growO kn l b d.toNat e.toNat).1:=by unfold actL;rw [if_pos cc];rfl
   have e3:actT (kn:Int) l b root d=root:=by unfold actT;rw [if_neg (by omega),if_neg (by omega),if_neg (by omega)]
   have e4:actN (kn:Int) l lone d=lone:=by unfold actN;rw [if_neg (by omega),if_neg (by omega)]
   refine (rk_grow A l.length c root lone kn l b d e w (by omega) (fun W m=>rdo23_a kn (by omega) A c l b root lone d e W (up W m) hi hev (by omega))).mono ?_
   rintro en w' ⟨A9,n9,c9,rfl,q1,q2⟩
   refine ⟨A9,n9,c9,root,lone,by rw [e1],q1,fun h0=>?_⟩
   rw [e1] at h0
   obtain ⟨z1,z2,z3,z4⟩:=q2 h0
   rw [e2,e3,e4]
   exact ⟨z1,z2,z3,Rd.ofOwn z4,rfl,rfl⟩
  ·have hkk:k=5∨k=6∨k=7∨k=8∨k=9∨k=10:=by omega
   rcases hkk with rfl | rfl | rfl | rfl | rfl | rfl
   ·by_cases c1:d < 0∨(l.length:Int)≤d
    ·exact (rk_5out A l.length c root lone d e w c1).mono fun en w' q=>q.act (by unfold actE;rw [if_neg (by omega),if_pos rfl,if_pos c1]) (by omega)
    ·refine (rk_5in A l.length c root lone d e w (by omega) (by omega)).mono ?_
     rintro en w' ⟨rfl,q⟩
     have e1:actE 5 l d e=0:=by unfold actE;rw [if_neg (by omega),if_pos rfl,if_neg c1]
     refine ⟨A,l.length,c,d,lone,by rw [e1],q,fun _=>?_⟩
     have e2:actL 5 l b root d e=l:=by unfold actL;rw [if_neg (by omega),if_neg (by omega),if_neg (by omega),if_neg (by omega),if_neg (by omega),if_neg (by omega)]
     rw [e2]
     exact ⟨rfl,hc,hc2,(h.below q).up q.size,by unfold actT;rw [if_pos rfl],by unfold actN;rw [if_neg (by omega),if_neg (by omega)]⟩
   ·exact (rk_6 A l.length c root lone l.length (phiL l) root lone d e w (phiL_len l) (fun W m=>by
     refine (rdualO_p A c l b root lone W (up W m) hi hev (by omega)).mono ?_
     rintro en w' ⟨A9,c9,rfl,q1,q2,q3,q4⟩
     rw [phiL_len] at q1 q3 ⊢
     exact ⟨A9,c9,rfl,q1,q2,q3,q4⟩)).mono fun en w' q=>q.act (by unfold actE;rw [if_neg (by omega),if_neg (by omega),if_pos (by omega)]) rfl rfl rfl
   ·exact (rk_7 A l.length c root lone l.length b root lone d e w hi.len (fun W m=>by
     refine (rmirrorO_p A c l b root lone W (up W m) hi hev (by omega)).mono ?_
     rintro en w' ⟨A9,c9,rfl,q1,q2,q3,q4⟩
     rw [hi.len] at q1 q3 ⊢
     exact ⟨A9,c9,rfl,q1,q2,q3,q4⟩)).mono fun en w' q=>q.act (by unfold actE;rw [if_neg (by omega),if_neg (by omega),if_pos (by omega)]) rfl rfl rfl
   ·by_cases c1:d < 0∨(l.length:Int)≤d
    ·exact (rk_8out A l.length c root lone d e w c1).mono fun en w' q=>q.act (by unfold actE;rw [if_neg (by omega),if_neg (by omega),if_neg (by omega),if_pos (by omega),if_pos c1]) (by omega)
    ·obtain ⟨dn,rfl⟩:∃ dn:Nat,d=(dn:Int):=⟨d.toNat,by omega⟩
     have hrt:root=((root.toNat:Nat):Int)∧root.toNat < l.length:=by rcases hr with ⟨r1,r2⟩ | ⟨r1,r2,r3⟩ <;> omega
     refine (rk_8 A l.length c root lone (woN l l (dn / 2)).length (woN l l (dn / 2)) _ _ dn (dn / 2) e w (by omega) rfl (by omega) rfl (fun W m=>?_)).mono fun en w' q=>q.act (by unfold actE;rw [if_neg (by omega),if_neg (by omega),if_neg (by omega),if_pos (by omega),if_neg c1,if_neg (by omega)]) rfl rfl rfl
     have:=rcut_p A c l b root.toNat lone (dn / 2) W (up W m) hi hev (by omega) hrt.2 (by omega) hl0 hl1
     rw [← hrt.1] at this
     refine this.mono ?_
     rintro en w' ⟨A9,c9,rfl,q1,q2,q3,q4⟩
     exact ⟨A9,c9,rfl,q1,q2,q3,q4⟩
   ·by_cases c1:d < 0∨(l.length:Int)≤d
    ·exact (rk_9out A l.length c root lone d e w c1).mono fun en w' q=>q.act (by unfold actE;rw [if_neg (by omega),if_neg (by omega),if_neg (by omega),if_pos (by omega),if_pos c1]) (by omega)
    ·obtain ⟨dn,rfl⟩:∃ dn:Nat,d=(dn:Int):=⟨d.toNat,by omega⟩
     have hrt:root=((root.toNat:Nat):Int)∧root.toNat < l.length:=by rcases hr with ⟨r1,r2⟩ | ⟨r1,r2,r3⟩ <;> omega
     have hd:dn < l.length:=by omega
     have hm:=mateN_in hev hd
     have NM:∀ W,Below w.heap.size w W→Calls Tryz.prog 31 #[.slice A l.length c] W fun en w'=>∃ gN c9,en=.returned (.slice (some ⟨gN,0,none⟩) l.length c9)∧(∀ W',Below w'.heap.size w' W'→W'.cell? ⟨gN,dn,none⟩=some (.int .i64 ((nameOf l dn:Nat):Int))∧W'.cell? ⟨gN,mateN dn,none⟩=some (.int .i64 ((nameOf l (mateN dn):Nat):Int)))∧Below W.heap.size W w':=fun W m=>by
      refine (rnames_p A c _ l b W (up W m) hi (by omega)).mono ?_
      rintro en w' ⟨A9,c9,rfl,q1,q2,q3,q4⟩
      rw [ofN_len,names_len] at q1 q3 ⊢
      obtain ⟨gN,rfl,_,_⟩:=own_some q3 (by omega)
      refine ⟨gN,c9,rfl,fun W' m'=>?_,q4⟩
      have z:=own_below q3 m'
      have z1:=own_cellI z dn hd
      have z2:=own_cellI z (mateN dn) hm
      rw [ofN_get,names_get _ _ hd] at z1
      rw [ofN_get,names_get _ _ hm] at z2
      exact ⟨z1,z2⟩
     have hsame:nameOf l (2*(dn / 2))=nameOf l (2*(dn / 2)+1)↔nameOf l dn=nameOf l (mateN dn):=by
      rw [mateN_eq]
      by_cases hp:dn%2=0
      ·rw [if_pos hp,show 2*(dn / 2)=dn by omega]
      ·rw [if_neg hp,show 2*(dn / 2)=dn - 1 by omega,show dn - 1+1=dn by omega]
       exact ⟨Eq.symm,Eq.symm⟩
     by_cases hnm:nameOf l dn=nameOf l (mateN dn)
     ·exact (rk_9loop A l.length c root lone dn (dn / 2) (mateN dn) _ _ e w hd rfl (by omega) hm NM (fun W=>rmate_p dn W (by omega)) (by rw [hnm])).mono fun en w' q=>q.act (by unfold actE;rw [if_neg (by omega),if_neg (by omega),if_neg (by omega),if_pos (by omega),if_neg c1,if_pos ⟨rfl,hsame.2 hnm⟩]) (by omega)
     ·refine (rk_9 A l.length c root lone (woN l (phiL l) (dn / 2)).length (woN l (phiL l) (dn / 2)) _ _ dn (dn / 2) (mateN dn) _ _ e w hd rfl (by omega) hm NM (fun W=>rmate_p dn W (by omega)) (by omega) rfl (fun W m=>?_)).mono fun en w' q=>q.act (by unfold actE;rw [if_neg (by omega),if_neg (by omega),if_neg (by omega),if_pos (by omega),if_neg c1,if_neg (fun q=>hnm (hsame.1 q.2))]) rfl rfl rfl
      have:=rshrink_p A c l b root.toNat lone (dn / 2) W (up W m) hi hev (by omega) hrt.2 (by omega) hl0 hl1 (fun q=>hnm (hsame.1 q))
      rw [← hrt.1] at this
      refine this.mono ?_
      rintro en w' ⟨A9,c9,rfl,q1,q2,q3,q4⟩
      exact ⟨A9,c9,rfl,q1,q2,q3,q4⟩
   ·exact (rk_10 A l.length c root lone l.length (cjL (canP l root) (canQ l root) l) (reRoot (canP l root) root) lone d e w (cjL_len _ _ _) (fun W m=>by
     refine (rcanon_p A c l b root lone _ _ W (up W m) hi hev hn hr (canPQ hi hev hr)).mono ?_
     rintro en w' ⟨A9,c9,rfl,q1,q2,q3,q4⟩
     exact ⟨A9,c9,rfl,q1,q2,q3,q4⟩)).mono fun en w' q=>q.act (by unfold actE;rw [if_neg (by omega),if_neg (by omega),if_pos (by omega)]) rfl rfl rfl
 ·exact (rk_none A l.length c root lone k d e w (by omega)).mono fun en w' q=>q.act (by unfold actE;rw [if_neg (by omega),if_neg (by omega),if_neg (by omega),if_neg (by omega)]) (by omega)
end Go.Proofs.YtdinmjciippchaaGreat
