/- The deeds of the program's script: functions that answer functions. -/
import Derived.Test.YtdinmjciippchaaGreatZg2
import Derived.Deep.RegionHeld3
import Derived.Test.YtdinmjciippchaaGreatZg9
import Derived.Test.YtdinmjciippchaaGreatZg29
import Derived.Test.YtdinmjciippchaaGreatZUCut
open Go.RowKit
set_option linter.unusedVariables false
set_option linter.unusedSimpArgs false
namespace Go.Proofs.YtdinmjciippchaaGreat
set_option maxRecDepth 100000
def TwoR (R:Option Addr→Int→World→Prop) (en:Ending) (w':World):Prop:=∃ p x,en=.returned (.tuple #[.pointer p,.int .i64 x])∧R p x w'
def edgeI (d:Int):Int:=if d < 0 then -1 else d / 2
set_option maxHeartbeats 4000000 in
theorem edgeOf_p (d:Int) (w:World) (hd:d < 2 ^ 63):Calls Tryz.prog 92 #[.int .i64 d] w fun en w'=>en=.returned (.int .i64 (edgeI d))∧w=w':=by
 by_cases h:d < 0
 ·have hb:decide (d < 0)=true:=decide_eq_true h
  have he:edgeI d=-1:=by unfold edgeI;rw [if_pos h]
  rw [he]
  go_enter Tryz.func92,Tryz.ntmps92
  go_wp2_with fail
  go_ret
  exact ⟨rfl,rfl⟩
 ·have hb:decide (d < 0)=false:=decide_eq_false h
  obtain ⟨q,hq⟩:∃ q,q=d / 2:=⟨_,rfl⟩
  have he:edgeI d=q:=by unfold edgeI;rw [if_neg h,hq]
  have e1:d / 2=q:=hq.symm
  have e2:d.tdiv 2=q:=by rw [Int.tdiv_eq_ediv_of_nonneg (by omega)];exact e1
  have wq:IntKind.i64.wrap q=q:=by simp [IntKind.wrap,IntKind.signed,IntKind.bits];omega
  rw [he]
  clear hq
  go_enter Tryz.func92,Tryz.ntmps92
  go_wp2_with fail
  go_ret
  exact ⟨rfl,rfl⟩
set_option maxHeartbeats 4000000 in
theorem dart1_p (F:Nat) (v:Option Addr) (k d e:Int) (g:Nat) (w:World) (R:Option Addr→Int→World→Prop) (hF:∀ (args:Array Value) (w:World),Sem.run Tryz.prog (callFunc F args) w=.ok (.enter F args) w)
  (hc:w.cell? ⟨g,0,none⟩=some (.func (.func F) #[] #[])) (H:∀ W,Below w.heap.size w W→Calls Tryz.prog F #[.pointer v,.int .i64 d] W (TwoR R)) :
  Calls Tryz.prog 73 #[.pointer v,.agg #[.int .i64 k,.int .i64 d,.int .i64 e],.pointer (some ⟨g,0,none⟩)] w (TwoR R):=by
 have hal:=(Below.refl w.heap.size w).alloc (Nat.le_refl _) (.cells #[.int .i64 k,.int .i64 d,.int .i64 e] 24)
 have hX:=Blk.new w 24 #[.int .i64 k,.int .i64 d,.int .i64 e]
 have HH:=Lib.hid (H _ hal)
 have x1:(w.alloc (.cells #[.int .i64 k,.int .i64 d,.int .i64 e] 24)).cell? ⟨w.heap.size,1,none⟩=some (.int .i64 d):=hX.cell 1
 have hg:g < w.heap.size:=World.block_lt_of_cell? w ⟨g,0,none⟩ hc
 have c1:=(hal.cell (p:=⟨g,0,none⟩) hg).trans hc
 have HF:=Lib.hid hF
 clear H hc hX hal hF
 go_enter Tryz.func73,Tryz.ntmps73
 go_upto_region 1 with fail
 generalize w.alloc (.cells #[.int .i64 k,.int .i64 d,.int .i64 e] 24)=w1 at *
 have hF:=fun args=>HF.out args w1
 go_wp2_with fail
 refine HH.out.mono ?_
 rintro en w2 ⟨p,x,rfl,q⟩
 have HQ:=Lib.hid q
 clear q hF
 go_wp2_with fail
 go_ret2
 exact ⟨p,x,rfl,HQ.out⟩
set_option maxHeartbeats 4000000 in
theorem whole1_p (F:Nat) (v:Option Addr) (k d e:Int) (g:Nat) (w:World) (R:Option Addr→Int→World→Prop) (hF:∀ (args:Array Value) (w:World),Sem.run Tryz.prog (callFunc F args) w=.ok (.enter F args) w)
  (hc:w.cell? ⟨g,0,none⟩=some (.func (.func F) #[] #[])) (H:∀ W,Below w.heap.size w W→Calls Tryz.prog F #[.pointer v] W fun en w'=>∃ p,en=.returned (.pointer p)∧R p 0 w') :
  Calls Tryz.prog 88 #[.pointer v,.agg #[.int .i64 k,.int .i64 d,.int .i64 e],.pointer (some ⟨g,0,none⟩)] w (TwoR R):=by
 have hal:=(Below.refl w.heap.size w).alloc (Nat.le_refl _) (.cells #[.int .i64 k,.int .i64 d,.int .i64 e] 24)
 have HH:=Lib.hid (H _ hal)
 have hg:g < w.heap.size:=World.block_lt_of_cell? w ⟨g,0,none⟩ hc
 have c1:=(hal.cell (p:=⟨g,0,none⟩) hg).trans hc
 have HF:=Lib.hid hF
 clear H hc hal hF
 go_enter Tryz.func88,Tryz.ntmps88
 go_upto_region 1 with fail
 generalize w.alloc (.cells #[.int .i64 k,.int .i64 d,.int .i64 e] 24)=w1 at *
 have hF:=fun args=>HF.out args w1
 go_wp2_with fail
 refine HH.out.mono ?_
 rintro en w2 ⟨p,rfl,q⟩
 have HQ:=Lib.hid q
 clear q hF
 go_wp2_with fail
 go_ret2
 exact ⟨p,0,rfl,HQ.out⟩
set_option maxHeartbeats 4000000 in
theorem edge1_p (F:Nat) (v:Option Addr) (k d e:Int) (g:Nat) (w:World) (R:Option Addr→Int→World→Prop) (hd:d < 2 ^ 63) (hF:∀ (args:Array Value) (w:World),Sem.run Tryz.prog (callFunc F args) w=.ok (.enter F args) w)
  (hc:w.cell? ⟨g,0,none⟩=some (.func (.func F) #[] #[])) (H:∀ W,Below w.heap.size w W→Calls Tryz.prog F #[.pointer v,.int .i64 (edgeI d)] W fun en w'=>∃ p x,en=.returned (.tuple #[.pointer p,.int .i64 x])∧R p x w'∧Below W.heap.size W w') :
  Calls Tryz.prog 91 #[.pointer v,.agg #[.int .i64 k,.int .i64 d,.int .i64 e],.pointer (some ⟨g,0,none⟩)] w (TwoR R):=by
 have hal:=(Below.refl w.heap.size w).alloc (Nat.le_refl _) (.cells #[.int .i64 k,.int .i64 d,.int .i64 e] 24)
 have hX:=Blk.new w 24 #[.int .i64 k,.int .i64 d,.int .i64 e]
 have HH:Hid (∀ W,Below (w.alloc (.cells #[.int .i64 k,.int .i64 d,.int .i64 e] 24)).heap.size (w.alloc (.cells #[.int .i64 k,.int .i64 d,.int .i64 e] 24)) W→Calls Tryz.prog F #[.pointer v,.int .i64 (edgeI d)] W fun en w'=>∃ p x,en=.returned (.tuple #[.pointer p,.int .i64 x])∧Hid (R p x w')∧Below (w.alloc (.cells #[.int .i64 k,.int .i64 d,.int .i64 e] 24)).heap.size (w.alloc (.cells #[.int .i64 k,.int .i64 d,.int .i64 e] 24)) w'):=fun W m=>(H W (hal.trans (m.mono hal.size))).mono fun en w' ⟨p,x,q1,q2,q3⟩=>⟨p,x,q1,q2,m.trans (q3.mono m.size)⟩
 have x1:(w.alloc (.cells #[.int .i64 k,.int .i64 d,.int .i64 e] 24)).cell? ⟨w.heap.size,1,none⟩=some (.int .i64 d):=hX.cell 1
 have hg:g < w.heap.size:=World.block_lt_of_cell? w ⟨g,0,none⟩ hc
 have c1:=(hal.cell (p:=⟨g,0,none⟩) hg).trans hc
 have HF:=Lib.hid hF
 have EO:=Lib.hid (fun W=>edgeOf_p d W hd)
 have hs:w.heap.size < (w.alloc (.cells #[.int .i64 k,.int .i64 d,.int .i64 e] 24)).heap.size:=by simp
 clear H hc hX hal hF hd
 go_enter Tryz.func91,Tryz.ntmps91
 go_upto_region 1 with fail
 generalize w.alloc (.cells #[.int .i64 k,.int .i64 d,.int .i64 e] 24)=w1 at *
 have KH:Hid (∀ W,Below w1.heap.size w1 W→Below w1.heap.size w1 W∧W.cell? ⟨g,0,none⟩=some (.func (.func F) #[] #[])∧W.cell? ⟨w.heap.size,1,none⟩=some (.int .i64 d)):=fun W m=>⟨m,(m.cell (p:=⟨g,0,none⟩) (by show g < _;omega)).trans c1,(m.cell (p:=⟨w.heap.size,1,none⟩) hs).trans x1⟩
 have hF:∀ (args:Array Value) (W:World),Sem.run Tryz.prog (callFunc F args) W=.ok (.enter F args) W:=HF.out
 have EOB:Hid (∀ W,Below w1.heap.size w1 W→Calls Tryz.prog 92 #[.int .i64 d] W fun en w'=>en=.returned (.int .i64 (edgeI d))∧Below w1.heap.size w1 w'):=fun W m=>(EO.out W).mono fun en w' ⟨q1,q2⟩=>⟨q1,q2 ▸ m⟩
 have a0:=Below.refl w1.heap.size w1
 have a1:=a0.drew
 obtain ⟨-,y0,y1⟩:=KH.out _ a0
 obtain ⟨-,v0,v1⟩:=KH.out _ a1
 clear EO
 go_region_held3 (fun W=>Below w1.heap.size w1 W∧W.cell? ⟨g,0,none⟩=some (.func (.func F) #[] #[])∧W.cell? ⟨w.heap.size,1,none⟩=some (.int .i64 d)) (exact KH.out _ (by assumption)) (first
  | (go_at_call 92;(with_reducible refine (EOB.out _ (by assumption)).mono ?_);rintro en we ⟨rfl,hbe⟩)
  | ((with_reducible refine (HH.out _ (by assumption)).mono ?_);rintro en w2 ⟨p,x,rfl,HQ,hbq⟩))
 all_goals (go_wp2_with fail)
 all_goals (go_ret2)
 all_goals (exact ⟨_,_,rfl,HQ.out⟩)
set_option maxHeartbeats 4000000 in
theorem chord1_p (v:Option Addr) (k d e:Int) (w:World) (R:Option Addr→Int→World→Prop)
  (H:∀ W,Below w.heap.size w W→Calls Tryz.prog 48 #[.pointer v,.int .i64 d,.int .i64 e] W (TwoR R)) :
  Calls Tryz.prog 47 #[.pointer v,.agg #[.int .i64 k,.int .i64 d,.int .i64 e]] w (TwoR R):=by
 have hal:=(Below.refl w.heap.size w).alloc (Nat.le_refl _) (.cells #[.int .i64 k,.int .i64 d,.int .i64 e] 24)
 have hX:=Blk.new w 24 #[.int .i64 k,.int .i64 d,.int .i64 e]
 have HH:=Lib.hid (H _ hal)
 have x1:(w.alloc (.cells #[.int .i64 k,.int .i64 d,.int .i64 e] 24)).cell? ⟨w.heap.size,1,none⟩=some (.int .i64 d):=hX.cell 1
 have x2:(w.alloc (.cells #[.int .i64 k,.int .i64 d,.int .i64 e] 24)).cell? ⟨w.heap.size,2,none⟩=some (.int .i64 e):=hX.cell 2
 clear H hX hal
 go_enter Tryz.func47,Tryz.ntmps47
 go_upto_region 1 with fail
 generalize w.alloc (.cells #[.int .i64 k,.int .i64 d,.int .i64 e] 24)=w1 at *
 go_wp2_with fail
 refine HH.out.mono ?_
 rintro en w2 ⟨p,x,rfl,q⟩
 have HQ:=Lib.hid q
 clear q
 go_wp2_with fail
 go_ret2
 exact ⟨p,x,rfl,HQ.out⟩
set_option maxHeartbeats 4000000 in
theorem named1_p (v:Option Addr) (k d e:Int) (w:World) (R:Option Addr→Int→World→Prop)
  (H:∀ W,Below w.heap.size w W→Calls Tryz.prog 97 #[.pointer v] W fun en w'=>∃ p q x,en=.returned (.tuple #[.pointer p,.pointer q,.int .i64 x])∧R p x w') :
  Calls Tryz.prog 59 #[.pointer v,.agg #[.int .i64 k,.int .i64 d,.int .i64 e]] w (TwoR R):=by
 have hal:=(Below.refl w.heap.size w).alloc (Nat.le_refl _) (.cells #[.int .i64 k,.int .i64 d,.int .i64 e] 24)
 have HH:=Lib.hid (H _ hal)
 clear H hal
 go_enter Tryz.func59,Tryz.ntmps59
 go_upto_region 1 with fail
 generalize w.alloc (.cells #[.int .i64 k,.int .i64 d,.int .i64 e] 24)=w1 at *
 go_wp2_with fail
 refine HH.out.mono ?_
 rintro en w2 ⟨p,y,x,rfl,q⟩
 have HQ:=Lib.hid q
 clear q
 go_wp2_with fail
 go_ret2
 exact ⟨p,x,rfl,HQ.out⟩
set_option maxHeartbeats 4000000 in
theorem atDart_p (F:Nat) (w:World):Calls Tryz.prog 45 #[.func (.func F) #[] #[]] w fun en w'=>en=.returned (.func (.func 73) #[] #[.pointer (some ⟨w.heap.size,0,none⟩)])∧w'.cell? ⟨w.heap.size,0,none⟩=some (.func (.func F) #[] #[])∧Below w.heap.size w w':=by
 have hmf:∀ (fn:Fn) (first cap:Array Value) (w:World),(Instr.makeFunc fn first cap).run Tryz.prog w=.ok (.func fn first cap) w:=fun _ _ _ _=>rfl
 have H:=Lib.hid (And.intro ((Blk.new w 72 #[.func (.func F) #[] #[]]).cell 0) ((Below.refl w.heap.size w).alloc (Nat.le_refl _) (.cells #[.func (.func F) #[] #[]] 72)))
 go_enter Tryz.func45,Tryz.ntmps45
 go_wp2_with fail
 go_ret
 exact ⟨rfl,H.out.1,H.out.2⟩
set_option maxHeartbeats 4000000 in
theorem atEdge_p (F:Nat) (w:World):Calls Tryz.prog 56 #[.func (.func F) #[] #[]] w fun en w'=>en=.returned (.func (.func 91) #[] #[.pointer (some ⟨w.heap.size,0,none⟩)])∧w'.cell? ⟨w.heap.size,0,none⟩=some (.func (.func F) #[] #[])∧Below w.heap.size w w':=by
 have hmf:∀ (fn:Fn) (first cap:Array Value) (w:World),(Instr.makeFunc fn first cap).run Tryz.prog w=.ok (.func fn first cap) w:=fun _ _ _ _=>rfl
 have H:=Lib.hid (And.intro ((Blk.new w 72 #[.func (.func F) #[] #[]]).cell 0) ((Below.refl w.heap.size w).alloc (Nat.le_refl _) (.cells #[.func (.func F) #[] #[]] 72)))
 go_enter Tryz.func56,Tryz.ntmps56
 go_wp2_with fail
 go_ret
 exact ⟨rfl,H.out.1,H.out.2⟩
set_option maxHeartbeats 4000000 in
theorem asWhole_p (F:Nat) (w:World):Calls Tryz.prog 53 #[.func (.func F) #[] #[]] w fun en w'=>en=.returned (.func (.func 88) #[] #[.pointer (some ⟨w.heap.size,0,none⟩)])∧w'.cell? ⟨w.heap.size,0,none⟩=some (.func (.func F) #[] #[])∧Below w.heap.size w w':=by
 have hmf:∀ (fn:Fn) (first cap:Array Value) (w:World),(Instr.makeFunc fn first cap).run Tryz.prog w=.ok (.func fn first cap) w:=fun _ _ _ _=>rfl
 have H:=Lib.hid (And.intro ((Blk.new w 76 #[.func (.func F) #[] #[]]).cell 0) ((Below.refl w.heap.size w).alloc (Nat.le_refl _) (.cells #[.func (.func F) #[] #[]] 76)))
 go_enter Tryz.func53,Tryz.ntmps53
 go_wp2_with fail
 go_ret
 exact ⟨rfl,H.out.1,H.out.2⟩
set_option maxHeartbeats 4000000 in
theorem deed_0 (w:World):Calls Tryz.prog 25 #[.int .i64 0] w fun en w'=>en=.returned (.func (.func 73) #[] #[.pointer (some ⟨w.heap.size,0,none⟩)])∧w'.cell? ⟨w.heap.size,0,none⟩=some (.func (.func 46) #[] #[])∧Below w.heap.size w w':=by
 have AP:=Lib.hid (atDart_p 46 w)
 go_enter Tryz.func25,Tryz.ntmps25
 go_wp2_with fail
 refine AP.out.mono ?_
 rintro en w1 ⟨rfl,q1,q2⟩
 have HQ:=Lib.hid (And.intro q1 q2)
 clear q1 q2
 go_wp2_with fail
 go_ret
 exact ⟨rfl,HQ.out.1,HQ.out.2⟩
set_option maxHeartbeats 4000000 in
theorem deed_2 (w:World):Calls Tryz.prog 25 #[.int .i64 2] w fun en w'=>en=.returned (.func (.func 73) #[] #[.pointer (some ⟨w.heap.size,0,none⟩)])∧w'.cell? ⟨w.heap.size,0,none⟩=some (.func (.func 49) #[] #[])∧Below w.heap.size w w':=by
 have AP:=Lib.hid (atDart_p 49 w)
 go_enter Tryz.func25,Tryz.ntmps25
 go_wp2_with fail
 refine AP.out.mono ?_
 rintro en w1 ⟨rfl,q1,q2⟩
 have HQ:=Lib.hid (And.intro q1 q2)
 clear q1 q2
 go_wp2_with fail
 go_ret
 exact ⟨rfl,HQ.out.1,HQ.out.2⟩
set_option maxHeartbeats 4000000 in
theorem deed_3 (w:World):Calls Tryz.prog 25 #[.int .i64 3] w fun en w'=>en=.returned (.func (.func 73) #[] #[.pointer (some ⟨w.heap.size,0,none⟩)])∧w'.cell? ⟨w.heap.size,0,none⟩=some (.func (.func 50) #[] #[])∧Below w.heap.size w w':=by
 have AP:=Lib.hid (atDart_p 50 w)
 go_enter Tryz.func25,Tryz.ntmps25
 go_wp2_with fail
 refine AP.out.mono ?_
 rintro en w1 ⟨rfl,q1,q2⟩
 have HQ:=Lib.hid (And.intro q1 q2)
 clear q1 q2
 go_wp2_with fail
 go_ret
 exact ⟨rfl,HQ.out.1,HQ.out.2⟩
set_option maxHeartbeats 4000000 in
theorem deed_4 (w:World):Calls Tryz.prog 25 #[.int .i64 4] w fun en w'=>en=.returned (.func (.func 73) #[] #[.pointer (some ⟨w.heap.size,0,none⟩)])∧w'.cell? ⟨w.heap.size,0,none⟩=some (.func (.func 51) #[] #[])∧Below w.heap.size w w':=by
 have AP:=Lib.hid (atDart_p 51 w)
 go_enter Tryz.func25,Tryz.ntmps25
 go_wp2_with fail
 refine AP.out.mono ?_
 rintro en w1 ⟨rfl,q1,q2⟩
 have HQ:=Lib.hid (And.intro q1 q2)
 clear q1 q2
 go_wp2_with fail
 go_ret
 exact ⟨rfl,HQ.out.1,HQ.out.2⟩
set_option maxHeartbeats 4000000 in
theorem deed_5 (w:World):Calls Tryz.prog 25 #[.int .i64 5] w fun en w'=>en=.returned (.func (.func 73) #[] #[.pointer (some ⟨w.heap.size,0,none⟩)])∧w'.cell? ⟨w.heap.size,0,none⟩=some (.func (.func 52) #[] #[])∧Below w.heap.size w w':=by
 have AP:=Lib.hid (atDart_p 52 w)
 go_enter Tryz.func25,Tryz.ntmps25
 go_wp2_with fail
 refine AP.out.mono ?_
 rintro en w1 ⟨rfl,q1,q2⟩
 have HQ:=Lib.hid (And.intro q1 q2)
 clear q1 q2
 go_wp2_with fail
 go_ret
 exact ⟨rfl,HQ.out.1,HQ.out.2⟩
set_option maxHeartbeats 4000000 in
theorem deed_6 (w:World):Calls Tryz.prog 25 #[.int .i64 6] w fun en w'=>en=.returned (.func (.func 88) #[] #[.pointer (some ⟨w.heap.size,0,none⟩)])∧w'.cell? ⟨w.heap.size,0,none⟩=some (.func (.func 54) #[] #[])∧Below w.heap.size w w':=by
 have AP:=Lib.hid (asWhole_p 54 w)
 go_enter Tryz.func25,Tryz.ntmps25
 go_wp2_with fail
 refine AP.out.mono ?_
 rintro en w1 ⟨rfl,q1,q2⟩
 have HQ:=Lib.hid (And.intro q1 q2)
 clear q1 q2
 go_wp2_with fail
 go_ret
 exact ⟨rfl,HQ.out.1,HQ.out.2⟩
set_option maxHeartbeats 4000000 in
theorem deed_7 (w:World):Calls Tryz.prog 25 #[.int .i64 7] w fun en w'=>en=.returned (.func (.func 88) #[] #[.pointer (some ⟨w.heap.size,0,none⟩)])∧w'.cell? ⟨w.heap.size,0,none⟩=some (.func (.func 55) #[] #[])∧Below w.heap.size w w':=by
 have AP:=Lib.hid (asWhole_p 55 w)
 go_enter Tryz.func25,Tryz.ntmps25
 go_wp2_with fail
 refine AP.out.mono ?_
 rintro en w1 ⟨rfl,q1,q2⟩
 have HQ:=Lib.hid (And.intro q1 q2)
 clear q1 q2
 go_wp2_with fail
 go_ret
 exact ⟨rfl,HQ.out.1,HQ.out.2⟩
set_option maxHeartbeats 4000000 in
theorem deed_8 (w:World):Calls Tryz.prog 25 #[.int .i64 8] w fun en w'=>en=.returned (.func (.func 91) #[] #[.pointer (some ⟨w.heap.size,0,none⟩)])∧w'.cell? ⟨w.heap.size,0,none⟩=some (.func (.func 57) #[] #[])∧Below w.heap.size w w':=by
 have AP:=Lib.hid (atEdge_p 57 w)
 go_enter Tryz.func25,Tryz.ntmps25
 go_wp2_with fail
 refine AP.out.mono ?_
 rintro en w1 ⟨rfl,q1,q2⟩
 have HQ:=Lib.hid (And.intro q1 q2)
 clear q1 q2
 go_wp2_with fail
 go_ret
 exact ⟨rfl,HQ.out.1,HQ.out.2⟩
set_option maxHeartbeats 4000000 in
theorem deed_9 (w:World):Calls Tryz.prog 25 #[.int .i64 9] w fun en w'=>en=.returned (.func (.func 91) #[] #[.pointer (some ⟨w.heap.size,0,none⟩)])∧w'.cell? ⟨w.heap.size,0,none⟩=some (.func (.func 58) #[] #[])∧Below w.heap.size w w':=by
 have AP:=Lib.hid (atEdge_p 58 w)
 go_enter Tryz.func25,Tryz.ntmps25
 go_wp2_with fail
 refine AP.out.mono ?_
 rintro en w1 ⟨rfl,q1,q2⟩
 have HQ:=Lib.hid (And.intro q1 q2)
 clear q1 q2
 go_wp2_with fail
 go_ret
 exact ⟨rfl,HQ.out.1,HQ.out.2⟩
set_option maxHeartbeats 4000000 in
theorem deed_1 (w:World):Calls Tryz.prog 25 #[.int .i64 1] w fun en w'=>en=.returned (.func (.func 47) #[] #[])∧w=w':=by
 go_enter Tryz.func25,Tryz.ntmps25
 go_wp2_with fail
 go_ret
 exact ⟨rfl,rfl⟩
set_option maxHeartbeats 4000000 in
theorem deed_10 (w:World):Calls Tryz.prog 25 #[.int .i64 10] w fun en w'=>en=.returned (.func (.func 59) #[] #[])∧w=w':=by
 go_enter Tryz.func25,Tryz.ntmps25
 go_wp2_with fail
 go_ret
 exact ⟨rfl,rfl⟩
set_option maxHeartbeats 8000000 in
theorem deed_none (k:Int) (w:World) (hk:k < 0∨10 < k):Calls Tryz.prog 25 #[.int .i64 k] w fun en w'=>en=.returned .nilFunc∧w=w':=by
 have n0:¬ k=0:=by omega
 have n1:¬ k=1:=by omega
 have n2:¬ k=2:=by omega
 have n3:¬ k=3:=by omega
 have n4:¬ k=4:=by omega
 have n5:¬ k=5:=by omega
 have n6:¬ k=6:=by omega
 have n7:¬ k=7:=by omega
 have n8:¬ k=8:=by omega
 have n9:¬ k=9:=by omega
 have n10:¬ k=10:=by omega
 clear hk
 go_enter Tryz.func25,Tryz.ntmps25
 go_wp2_with fail
 go_ret
 exact ⟨rfl,rfl⟩
set_option maxHeartbeats 8000000 in
theorem sdo_1 (gm fn:Nat) (k d e:Int) (w:World) (R:Option Addr→Int→World→Prop) (hfn:∀ (args:Array Value) (w:World),Sem.run Tryz.prog (callFunc fn args) w=.ok (.enter fn args) w)
  (DP:∀ W,Below w.heap.size w W→Calls Tryz.prog 25 #[.int .i64 k] W fun en w'=>∃ g2,en=.returned (.func (.func fn) #[] #[.pointer (some ⟨g2,0,none⟩)])∧Below W.heap.size W w'∧Calls Tryz.prog fn #[.pointer (some ⟨gm,0,none⟩),.agg #[.int .i64 k,.int .i64 d,.int .i64 e],.pointer (some ⟨g2,0,none⟩)] w' (TwoR R)) :
  Calls Tryz.prog 8 #[.pointer (some ⟨gm,0,none⟩),.agg #[.int .i64 k,.int .i64 d,.int .i64 e]] w (TwoR R):=by
 have hal:=(Below.refl w.heap.size w).alloc (Nat.le_refl _) (.cells #[.int .i64 k,.int .i64 d,.int .i64 e] 24)
 have HX:=Lib.hid (Blk.new w 24 #[.int .i64 k,.int .i64 d,.int .i64 e])
 have HD:=Lib.hid (DP _ hal)
 have x0:(w.alloc (.cells #[.int .i64 k,.int .i64 d,.int .i64 e] 24)).cell? ⟨w.heap.size,0,none⟩=some (.int .i64 k):=HX.out.cell 0
 have HF:=Lib.hid hfn
 clear DP hal hfn
 go_enter Tryz.func8,Tryz.ntmps8
 go_upto_region 1 with fail
 generalize w.alloc (.cells #[.int .i64 k,.int .i64 d,.int .i64 e] 24)=w1 at *
 go_wp2_with fail
 refine HD.out.mono ?_
 rintro en w2 ⟨g2,rfl,b2,hcall⟩
 have HC:=Lib.hid hcall
 have HX2:=Lib.hid (HX.out.below b2)
 have y0:w2.cell? ⟨w.heap.size,0,none⟩=some (.int .i64 k):=HX2.out.cell 0
 have y1:w2.cell? ⟨w.heap.size,1,none⟩=some (.int .i64 d):=HX2.out.cell 1
 have y2:w2.cell? ⟨w.heap.size,2,none⟩=some (.int .i64 e):=HX2.out.cell 2
 have hF:=fun args=>HF.out args w2
 have hne:Sem.run Tryz.prog (binOp BinOp.eql 57 (.func (.func fn) #[] #[.pointer (some ⟨g2,0,none⟩)]) Value.nilFunc) w2=.ok (.bool false) w2:=by first | rfl | simp [binOp]
 clear hcall b2 x0 HD
 go_wp2_with fail
 refine HC.out.mono ?_
 rintro en w3 ⟨p,x,rfl,q⟩
 have HQ:=Lib.hid q
 clear q hF hne y0 y1 y2
 go_wp2_with fail
 go_ret2
 exact ⟨p,x,rfl,HQ.out⟩
set_option maxHeartbeats 8000000 in
theorem sdo_0 (gm fn:Nat) (k d e:Int) (w:World) (R:Option Addr→Int→World→Prop) (hfn:∀ (args:Array Value) (w:World),Sem.run Tryz.prog (callFunc fn args) w=.ok (.enter fn args) w)
  (DP:∀ W,Below w.heap.size w W→Calls Tryz.prog 25 #[.int .i64 k] W fun en w'=>en=.returned (.func (.func fn) #[] #[])∧Below W.heap.size W w'∧Calls Tryz.prog fn #[.pointer (some ⟨gm,0,none⟩),.agg #[.int .i64 k,.int .i64 d,.int .i64 e]] w' (TwoR R)) :
  Calls Tryz.prog 8 #[.pointer (some ⟨gm,0,none⟩),.agg #[.int .i64 k,.int .i64 d,.int .i64 e]] w (TwoR R):=by
 have hal:=(Below.refl w.heap.size w).alloc (Nat.le_refl _) (.cells #[.int .i64 k,.int .i64 d,.int .i64 e] 24)
 have HX:=Lib.hid (Blk.new w 24 #[.int .i64 k,.int .i64 d,.int .i64 e])
 have HD:=Lib.hid (DP _ hal)
 have x0:(w.alloc (.cells #[.int .i64 k,.int .i64 d,.int .i64 e] 24)).cell? ⟨w.heap.size,0,none⟩=some (.int .i64 k):=HX.out.cell 0
 have HF:=Lib.hid hfn
 clear DP hal hfn
 go_enter Tryz.func8,Tryz.ntmps8
 go_upto_region 1 with fail
 generalize w.alloc (.cells #[.int .i64 k,.int .i64 d,.int .i64 e] 24)=w1 at *
 go_wp2_with fail
 refine HD.out.mono ?_
 rintro en w2 ⟨rfl,b2,hcall⟩
 have HC:=Lib.hid hcall
 have HX2:=Lib.hid (HX.out.below b2)
 have y0:w2.cell? ⟨w.heap.size,0,none⟩=some (.int .i64 k):=HX2.out.cell 0
 have y1:w2.cell? ⟨w.heap.size,1,none⟩=some (.int .i64 d):=HX2.out.cell 1
 have y2:w2.cell? ⟨w.heap.size,2,none⟩=some (.int .i64 e):=HX2.out.cell 2
 have hF:=fun args=>HF.out args w2
 have hne:Sem.run Tryz.prog (binOp BinOp.eql 57 (.func (.func fn) #[] #[]) Value.nilFunc) w2=.ok (.bool false) w2:=by first | rfl | simp [binOp]
 clear hcall b2 x0 HD
 go_wp2_with fail
 refine HC.out.mono ?_
 rintro en w3 ⟨p,x,rfl,q⟩
 have HQ:=Lib.hid q
 clear q hF hne y0 y1 y2
 go_wp2_with fail
 go_ret2
 exact ⟨p,x,rfl,HQ.out⟩
set_option maxHeartbeats 8000000 in
theorem sdo_none (gm:Nat) (k d e:Int) (w:World) (hk:k < 0∨10 < k) :
  Calls Tryz.prog 8 #[.pointer (some ⟨gm,0,none⟩),.agg #[.int .i64 k,.int .i64 d,.int .i64 e]] w fun en w'=>en=.returned (.tuple #[.pointer none,.int .i64 15])∧Below w.heap.size w w':=by
 have HB:=Lib.hid ((Below.refl w.heap.size w).alloc (Nat.le_refl _) (.cells #[.int .i64 k,.int .i64 d,.int .i64 e] 24))
 have x0:(w.alloc (.cells #[.int .i64 k,.int .i64 d,.int .i64 e] 24)).cell? ⟨w.heap.size,0,none⟩=some (.int .i64 k):=(Blk.new w 24 #[.int .i64 k,.int .i64 d,.int .i64 e]).cell 0
 have HD:=Lib.hid (fun W=>deed_none k W hk)
 clear hk
 go_enter Tryz.func8,Tryz.ntmps8
 go_upto_region 1 with fail
 generalize w.alloc (.cells #[.int .i64 k,.int .i64 d,.int .i64 e] 24)=w1 at *
 go_wp2_with fail
 refine (HD.out _).mono ?_
 rintro en w2 ⟨rfl,rfl⟩
 have hne:Sem.run Tryz.prog (binOp BinOp.eql 57 Value.nilFunc Value.nilFunc) w1=.ok (.bool true) w1:=by first | rfl | simp [binOp]
 go_wp2_with fail
 go_ret2
 exact ⟨rfl,HB.out⟩
theorem sdo_k0 (gm:Nat) (d e:Int) (w:World) (R:Option Addr→Int→World→Prop) (H:∀ W,Below w.heap.size w W→Calls Tryz.prog 46 #[.pointer (some ⟨gm,0,none⟩),.int .i64 d] W (TwoR R)) :
  Calls Tryz.prog 8 #[.pointer (some ⟨gm,0,none⟩),.agg #[.int .i64 0,.int .i64 d,.int .i64 e]] w (TwoR R) :=
 sdo_1 gm 73 0 d e w R (fun _ _=>rfl) fun W m=>(deed_0 W).mono fun en w' ⟨q1,q2,q3⟩=>⟨_,q1,q3,dart1_p 46 _ 0 d e _ w' R (fun _ _=>rfl) q2 fun W' m'=>H W' (m.trans ((q3.trans (m'.mono q3.size)).mono m.size))⟩
theorem sdo_k2 (gm:Nat) (d e:Int) (w:World) (R:Option Addr→Int→World→Prop) (H:∀ W,Below w.heap.size w W→Calls Tryz.prog 49 #[.pointer (some ⟨gm,0,none⟩),.int .i64 d] W (TwoR R)) :
  Calls Tryz.prog 8 #[.pointer (some ⟨gm,0,none⟩),.agg #[.int .i64 2,.int .i64 d,.int .i64 e]] w (TwoR R) :=
 sdo_1 gm 73 2 d e w R (fun _ _=>rfl) fun W m=>(deed_2 W).mono fun en w' ⟨q1,q2,q3⟩=>⟨_,q1,q3,dart1_p 49 _ 2 d e _ w' R (fun _ _=>rfl) q2 fun W' m'=>H W' (m.trans ((q3.trans (m'.mono q3.size)).mono m.size))⟩
theorem sdo_k3 (gm:Nat) (d e:Int) (w:World) (R:Option Addr→Int→World→Prop) (H:∀ W,Below w.heap.size w W→Calls Tryz.prog 50 #[.pointer (some ⟨gm,0,none⟩),.int .i64 d] W (TwoR R)) :
  Calls Tryz.prog 8 #[.pointer (some ⟨gm,0,none⟩),.agg #[.int .i64 3,.int .i64 d,.int .i64 e]] w (TwoR R) :=
 sdo_1 gm 73 3 d e w R (fun _ _=>rfl) fun W m=>(deed_3 W).mono fun en w' ⟨q1,q2,q3⟩=>⟨_,q1,q3,dart1_p 50 _ 3 d e _ w' R (fun _ _=>rfl) q2 fun W' m'=>H W' (m.trans ((q3.trans (m'.mono q3.size)).mono m.size))⟩
theorem sdo_k4 (gm:Nat) (d e:Int) (w:World) (R:Option Addr→Int→World→Prop) (H:∀ W,Below w.heap.size w W→Calls Tryz.prog 51 #[.pointer (some ⟨gm,0,none⟩),.int .i64 d] W (TwoR R)) :
  Calls Tryz.prog 8 #[.pointer (some ⟨gm,0,none⟩),.agg #[.int .i64 4,.int .i64 d,.int .i64 e]] w (TwoR R) :=
 sdo_1 gm 73 4 d e w R (fun _ _=>rfl) fun W m=>(deed_4 W).mono fun en w' ⟨q1,q2,q3⟩=>⟨_,q1,q3,dart1_p 51 _ 4 d e _ w' R (fun _ _=>rfl) q2 fun W' m'=>H W' (m.trans ((q3.trans (m'.mono q3.size)).mono m.size))⟩
theorem sdo_k5 (gm:Nat) (d e:Int) (w:World) (R:Option Addr→Int→World→Prop) (H:∀ W,Below w.heap.size w W→Calls Tryz.prog 52 #[.pointer (some ⟨gm,0,none⟩),.int .i64 d] W (TwoR R)) :
  Calls Tryz.prog 8 #[.pointer (some ⟨gm,0,none⟩),.agg #[.int .i64 5,.int .i64 d,.int .i64 e]] w (TwoR R) :=
 sdo_1 gm 73 5 d e w R (fun _ _=>rfl) fun W m=>(deed_5 W).mono fun en w' ⟨q1,q2,q3⟩=>⟨_,q1,q3,dart1_p 52 _ 5 d e _ w' R (fun _ _=>rfl) q2 fun W' m'=>H W' (m.trans ((q3.trans (m'.mono q3.size)).mono m.size))⟩
theorem sdo_k6 (gm:Nat) (d e:Int) (w:World) (R:Option Addr→Int→World→Prop) (H:∀ W,Below w.heap.size w W→Calls Tryz.prog 54 #[.pointer (some ⟨gm,0,none⟩)] W fun en w'=>∃ p,en=.returned (.pointer p)∧R p 0 w') :
  Calls Tryz.prog 8 #[.pointer (some ⟨gm,0,none⟩),.agg #[.int .i64 6,.int .i64 d,.int .i64 e]] w (TwoR R) :=
 sdo_1 gm 88 6 d e w R (fun _ _=>rfl) fun W m=>(deed_6 W).mono fun en w' ⟨q1,q2,q3⟩=>⟨_,q1,q3,whole1_p 54 _ 6 d e _ w' R (fun _ _=>rfl) q2 fun W' m'=>H W' (m.trans ((q3.trans (m'.mono q3.size)).mono m.size))⟩
theorem sdo_k7 (gm:Nat) (d e:Int) (w:World) (R:Option Addr→Int→World→Prop) (H:∀ W,Below w.heap.size w W→Calls Tryz.prog 55 #[.pointer (some ⟨gm,0,none⟩)] W fun en w'=>∃ p,en=.returned (.pointer p)∧R p 0 w') :
  Calls Tryz.prog 8 #[.pointer (some ⟨gm,0,none⟩),.agg #[.int .i64 7,.int .i64 d,.int .i64 e]] w (TwoR R) :=
 sdo_1 gm 88 7 d e w R (fun _ _=>rfl) fun W m=>(deed_7 W).mono fun en w' ⟨q1,q2,q3⟩=>⟨_,q1,q3,whole1_p 55 _ 7 d e _ w' R (fun _ _=>rfl) q2 fun W' m'=>H W' (m.trans ((q3.trans (m'.mono q3.size)).mono m.size))⟩
theorem sdo_k8 (gm:Nat) (d e:Int) (w:World) (R:Option Addr→Int→World→Prop) (hd:d < 2 ^ 63) (H:∀ W,Below w.heap.size w W→Calls Tryz.prog 57 #[.pointer (some ⟨gm,0,none⟩),.int .i64 (edgeI d)] W fun en w'=>∃ p x,en=.returned (.tuple #[.pointer p,.int .i64 x])∧R p x w'∧Below W.heap.size W w') :
  Calls Tryz.prog 8 #[.pointer (some ⟨gm,0,none⟩),.agg #[.int .i64 8,.int .i64 d,.int .i64 e]] w (TwoR R) :=
 sdo_1 gm 91 8 d e w R (fun _ _=>rfl) fun W m=>(deed_8 W).mono fun en w' ⟨q1,q2,q3⟩=>⟨_,q1,q3,edge1_p 57 _ 8 d e _ w' R hd (fun _ _=>rfl) q2 fun W' m'=>H W' (m.trans ((q3.trans (m'.mono q3.size)).mono m.size))⟩
theorem sdo_k9 (gm:Nat) (d e:Int) (w:World) (R:Option Addr→Int→World→Prop) (hd:d < 2 ^ 63) (H:∀ W,Below w.heap.size w W→Calls Tryz.prog 58 #[.pointer (some ⟨gm,0,none⟩),.int .i64 (edgeI d)] W fun en w'=>∃ p x,en=.returned (.tuple #[.pointer p,.int .i64 x])∧R p x w'∧Below W.heap.size W w') :
  Calls Tryz.prog 8 #[.pointer (some ⟨gm,0,none⟩),.agg #[.int .i64 9,.int .i64 d,.int .i64 e]] w (TwoR R) :=
 sdo_1 gm 91 9 d e w R (fun _ _=>rfl) fun W m=>(deed_9 W).mono fun en w' ⟨q1,q2,q3⟩=>⟨_,q1,q3,edge1_p 58 _ 9 d e _ w' R hd (fun _ _=>rfl) q2 fun W' m'=>H W' (m.trans ((q3.trans (m'.mono q3.size)).mono m.size))⟩
theorem sdo_k1 (gm:Nat) (d e:Int) (w:World) (R:Option Addr→Int→World→Prop) (H:∀ W,Below w.heap.size w W→Calls Tryz.prog 48 #[.pointer (some ⟨gm,0,none⟩),.int .i64 d,.int .i64 e] W (TwoR R)) :
  Calls Tryz.prog 8 #[.pointer (some ⟨gm,0,none⟩),.agg #[.int .i64 1,.int .i64 d,.int .i64 e]] w (TwoR R) :=
 sdo_0 gm 47 1 d e w R (fun _ _=>rfl) fun W m=>(deed_1 W).mono fun en w' ⟨q1,q2⟩=>⟨q1,q2 ▸ Below.refl _ _,chord1_p _ 1 d e w' R fun W' m'=>H W' (m.trans ((q2 ▸ m').mono m.size))⟩
theorem sdo_k10 (gm:Nat) (d e:Int) (w:World) (R:Option Addr→Int→World→Prop) (H:∀ W,Below w.heap.size w W→Calls Tryz.prog 97 #[.pointer (some ⟨gm,0,none⟩)] W fun en w'=>∃ p q x,en=.returned (.tuple #[.pointer p,.pointer q,.int .i64 x])∧R p x w') :
  Calls Tryz.prog 8 #[.pointer (some ⟨gm,0,none⟩),.agg #[.int .i64 10,.int .i64 d,.int .i64 e]] w (TwoR R) :=
 sdo_0 gm 59 10 d e w R (fun _ _=>rfl) fun W m=>(deed_10 W).mono fun en w' ⟨q1,q2⟩=>⟨q1,q2 ▸ Below.refl _ _,named1_p _ 10 d e w' R fun W' m'=>H W' (m.trans ((q2 ▸ m').mono m.size))⟩
open Classical in
noncomputable def canP (l:List Nat) (root:Int):List Nat:=if h:∃ P Q,CanO l root P Q then h.choose else []
open Classical in
noncomputable def canQ (l:List Nat) (root:Int):List Nat:=if h:∃ P Q,CanO l root P Q then h.choose_spec.choose else []
theorem canPQ {l b:List Nat} {root:Int} (hi:Inv l b) (he:l.length%2=0) (hr:RootOk root l.length):CanO l root (canP l root) (canQ l root):=by
 have h:=canO_is hi he hr
 unfold canP canQ
 rw [dif_pos h,dif_pos h]
 exact h.choose_spec.choose_spec
noncomputable def actE (k:Int) (l:List Nat) (d e:Int):Int :=
 if 0≤k∧k < 5 then growE k.toNat l d e
 else if k=5 then (if d < 0∨(l.length:Int)≤d then 5 else 0)
 else if k=6∨k=7∨k=10 then 0
 else if k=8∨k=9 then (if d < 0∨(l.length:Int)≤d then 1 else if k=9∧nameOf l (2*(d.toNat / 2))=nameOf l (2*(d.toNat / 2)+1) then 8 else 0)
 else 15
noncomputable def actL (k:Int) (l b:List Nat) (root d e:Int):List Nat :=
 if 0≤k∧k < 5 then (growO k.toNat l b d.toNat e.toNat).1
 else if k=6 then phiL l else if k=7 then b
 else if k=8 then woN l l (d.toNat / 2) else if k=9 then woN l (phiL l) (d.toNat / 2)
 else if k=10 then cjL (canP l root) (canQ l root) l else l
noncomputable def actT (k:Int) (l b:List Nat) (root d:Int):Int :=
 if k=5 then d else if k=8∨k=9 then heirN l b root.toNat (d.toNat / 2) else if k=10 then reRoot (canP l root) root else root
noncomputable def actN (k:Int) (l:List Nat) (lone d:Int):Int :=
 if k=8 then lone+(zerTo (besN l lone (d.toNat / 2)) (besN l lone (d.toNat / 2)).length:Nat)
 else if k=9 then lone+(if degOf l lone (nameOf l (2*(d.toNat / 2)):Nat)+degOf l lone (nameOf l (2*(d.toNat / 2)+1):Nat)=2 then 1 else 0)
 else lone
def ActR (k:Int) (l b:List Nat) (root lone d e:Int) (w:World) (p:Option Addr) (x:Int) (w':World):Prop :=
 x=actE k l d e∧Below w.heap.size w w'∧((x=0∧∃ g' b',p=some ⟨g',0,none⟩∧Inv (actL k l b root d e) b'∧MapAt w' g' (actL k l b root d e) b' (actT k l b root d) (actN k l lone d))∨(x≠0∧p=none))
section
variable {g:Nat} {l b:List Nat} {root lone d e:Int} {w:World}
theorem ActR.ofGrow {j:Nat} {k:Int} (hj:j < 5) (hk:k=(j:Int)) (hi:Inv l b) (hev:l.length%2=0) {W w':World} (m:Below w.heap.size w W) {p:Option Addr} {x:Int} (h:GrowR j l b root lone d e W p x w'):ActR k l b root lone d e w p x w':=by
 subst hk
 obtain ⟨q1,q2,q3⟩:=h
 have c:0≤(j:Int)∧(j:Int) < 5:=by omega
 have n5:¬ (j:Int)=5:=by omega
 have n8:¬ (j:Int)=8:=by omega
 have n9:¬ (j:Int)=9:=by omega
 have n10:¬ (j:Int)=10:=by omega
 refine ⟨by unfold actE;rw [if_pos c];exact q1,m.trans (q2.mono m.size),?_⟩
 rcases q3 with ⟨h0,g',z1,z2⟩ | z
 ·refine .inl ⟨h0,g',(growO j l b d.toNat e.toNat).2,z1,?_,?_⟩
  ·have:=(growO_inv hi hev hj (q1.symm.trans h0)).1
   unfold actL;rw [if_pos c];exact this
  ·have e1:actL (j:Int) l b root d e=(growO j l b d.toNat e.toNat).1:=by unfold actL;rw [if_pos c];rfl
   have e2:actT (j:Int) l b root d=root:=by unfold actT;rw [if_neg n5,if_neg (by omega),if_neg n10]
   have e3:actN (j:Int) l lone d=lone:=by unfold actN;rw [if_neg n8,if_neg n9]
   rw [e1,e2,e3];exact z2
 ·exact .inr z
theorem sdo_a (k:Int) (hd:d < 2 ^ 63) (h:MapAt w g l b root lone) (hi:Inv l b) (hr:RootOk root l.length) (hn:l.length≤30000) (hl1:lone≤60000) :
  Calls Tryz.prog 8 #[.pointer (some ⟨g,0,none⟩),.agg #[.int .i64 k,.int .i64 d,.int .i64 e]] w (TwoR (ActR k l b root lone d e w)):=by
 have hev:=h.1.1
 have hl0:=h.1.2.1
 have keep:∀ {P:Prop} {w':World} {W:World},Below w.heap.size w W→Below W.heap.size W w'→Below w.heap.size w w':=fun m q=>m.trans (q.mono m.size)
 by_cases hk:0≤k∧k≤10
 ·have hkk:k=0∨k=1∨k=2∨k=3∨k=4∨k=5∨k=6∨k=7∨k=8∨k=9∨k=10:=by omega
  have edge:¬ (d < 0∨(l.length:Int)≤d)→edgeI d=((d.toNat / 2:Nat):Int)∧d.toNat / 2 < l.length / 2∧root=((root.toNat:Nat):Int)∧root.toNat < l.length:=fun c=>by
   unfold edgeI
   rw [if_neg (by omega)]
   rcases hr with ⟨r1,r2⟩ | ⟨r1,r2,r3⟩
   ·omega
   ·exact ⟨by omega,by omega,by omega,by omega⟩
  have edgo:(d < 0∨(l.length:Int)≤d)→edgeI d < 0∨((l.length / 2:Nat):Int)≤edgeI d:=fun c=>by
   unfold edgeI
   split <;> omega
  rcases hkk with rfl | rfl | rfl | rfl | rfl | rfl | rfl | rfl | rfl | rfl | rfl
  ·exact sdo_k0 g d e w _ fun W m=>(leaf_a (e:=e) (h.below m) hi hr hn).mono fun en w' ⟨p,x,q1,q2⟩=>⟨p,x,q1,ActR.ofGrow (j:=0) (by omega) rfl hi hev m q2⟩
  ·exact sdo_k1 g d e w _ fun W m=>(chord_a (h.below m) hi hr hn).mono fun en w' ⟨p,x,q1,q2⟩=>⟨p,x,q1,ActR.ofGrow (j:=1) (by omega) rfl hi hev m q2⟩
  ·exact sdo_k2 g d e w _ fun W m=>(split_a (e:=e) (h.below m) hi hr hn).mono fun en w' ⟨p,x,q1,q2⟩=>⟨p,x,q1,ActR.ofGrow (j:=2) (by omega) rfl hi hev m q2⟩
  ·exact sdo_k3 g d e w _ fun W m=>(star_a (e:=e) (h.below m) hi hr hn).mono fun en w' ⟨p,x,q1,q2⟩=>⟨p,x,q1,ActR.ofGrow (j:=3) (by omega) rfl hi hev m q2⟩
  ·exact sdo_k4 g d e w _ fun W m=>(flip_a (e:=e) (h.below m) hi hr hn).mono fun en w' ⟨p,x,q1,q2⟩=>⟨p,x,q1,ActR.ofGrow (j:=4) (by omega) rfl hi hev m q2⟩
  ·refine sdo_k5 g d e w _ fun W m=>?_
   by_cases c:d < 0∨(l.length:Int)≤d
   ·refine (rooted_out g l b root lone d W (h.below m) c).mono fun en w' ⟨q1,q2⟩=>⟨none,5,q1,?_,m.trans (q2.mono m.size),.inr ⟨by omega,rfl⟩⟩
    unfold actE;rw [if_neg (by omega),if_pos rfl,if_pos c]
   ·obtain ⟨dn,rfl⟩:∃ dn:Nat,d=(dn:Int):=⟨d.toNat,by omega⟩
    refine (rooted_in g l b root lone dn W (h.below m) (by omega)).mono fun en w' ⟨g',q1,q2,q3⟩=>⟨_,0,q1,?_,m.trans (q3.mono m.size),.inl ⟨rfl,g',b,rfl,hi,q2⟩⟩
    unfold actE;rw [if_neg (by omega),if_pos rfl,if_neg c]
  ·refine sdo_k6 g d e w _ fun W m=>(dual_p g l b root lone W (h.below m) hi hr).mono fun en w' ⟨g',q1,q2,q3⟩=>⟨_,q1,?_,m.trans (q3.mono m.size),.inl ⟨rfl,g',_,rfl,phi_inv hi hev,q2⟩⟩
   unfold actE;rw [if_neg (by omega),if_neg (by omega),if_pos (by omega)]
  ·refine sdo_k7 g d e w _ fun W m=>(mirror_p g l b root lone W (h.below m) hi hr).mono fun en w' ⟨g',q1,q2,q3⟩=>⟨_,q1,?_,m.trans (q3.mono m.size),.inl ⟨rfl,g',_,rfl,hi.symm,q2⟩⟩
   unfold actE;rw [if_neg (by omega),if_neg (by omega),if_pos (by omega)]
  ·refine sdo_k8 g d e w _ hd fun W m=>?_
   by_cases c:d < 0∨(l.length:Int)≤d
   ·refine (cut_out g l b root lone (edgeI d) W (h.below m) (edgo c)).mono fun en w' ⟨q1,q2⟩=>⟨none,1,q1,⟨?_,m.trans (q2.mono m.size),.inr ⟨by omega,rfl⟩⟩,q2⟩
    unfold actE;rw [if_neg (by omega),if_neg (by omega),if_neg (by omega),if_pos (by omega),if_pos c]
   ·obtain ⟨e1,e2,e3,e4⟩:=edge c
    have hm:=h.below m
    rw [e3] at hm
    rw [e1]
    refine (cut_p g l b root.toNat (d.toNat / 2) lone W hm hi e4 e2 hl0 hl1).mono fun en w' ⟨b',q0,g',q1,q2,q3,q4⟩=>⟨_,0,q1,⟨?_,m.trans (q3.mono m.size),.inl ⟨rfl,g',b',rfl,q0,q2⟩⟩,q3⟩
    unfold actE;rw [if_neg (by omega),if_neg (by omega),if_neg (by omega),if_pos (by omega),if_neg c,if_neg (by omega)]
  ·refine sdo_k9 g d e w _ hd fun W m=>?_
   by_cases c:d < 0∨(l.length:Int)≤d
   ·refine (shrink_out g l b root lone (edgeI d) W (h.below m) (edgo c)).mono fun en w' ⟨q1,q2⟩=>⟨none,1,q1,⟨?_,m.trans (q2.mono m.size),.inr ⟨by omega,rfl⟩⟩,q2⟩
    unfold actE;rw [if_neg (by omega),if_neg (by omega),if_neg (by omega),if_pos (by omega),if_pos c]
   ·obtain ⟨e1,e2,e3,e4⟩:=edge c
    rw [e1]
    by_cases hnm:nameOf l (2*(d.toNat / 2))=nameOf l (2*(d.toNat / 2)+1)
    ·refine (shrink_loop g l b root lone (d.toNat / 2) W (h.below m) e2 hnm).mono fun en w' ⟨q1,q2⟩=>⟨none,8,q1,⟨?_,m.trans (q2.mono m.size),.inr ⟨by omega,rfl⟩⟩,q2⟩
     unfold actE;rw [if_neg (by omega),if_neg (by omega),if_neg (by omega),if_pos (by omega),if_neg c,if_pos ⟨rfl,hnm⟩]
    ·have hm:=h.below m
     rw [e3] at hm
     refine (shrink_p g l b root.toNat (d.toNat / 2) lone W hm hi e4 e2 hl0 hl1 hnm).mono fun en w' ⟨b',q0,g',q1,q2,q3,q4⟩=>⟨_,0,q1,⟨?_,m.trans (q3.mono m.size),.inl ⟨rfl,g',b',rfl,q0,q2⟩⟩,q3⟩
     unfold actE;rw [if_neg (by omega),if_neg (by omega),if_neg (by omega),if_pos (by omega),if_neg c,if_neg (fun q=>hnm q.2)]
  ·have hC:=canPQ hi hev hr
   refine sdo_k10 g d e w _ fun W m=>(canon_any g l b root lone _ _ W (h.below m) hi hC).mono fun en w' ⟨g',gp,q1,q2,q3,q4⟩=>⟨_,_,0,q1,?_,m.trans (q4.mono m.size),.inl ⟨rfl,g',_,rfl,cj_inv (CanO.nam (b:=b) hC) hi,q2⟩⟩
   unfold actE;rw [if_neg (by omega),if_neg (by omega),if_pos (by omega)]
 ·have hE:actE k l d e=15:=by unfold actE;rw [if_neg (by omega),if_neg (by omega),if_neg (by omega),if_neg (by omega)]
  exact (sdo_none g k d e w (by omega)).mono fun en w' ⟨q1,q2⟩=>⟨none,15,q1,hE.symm,q2,.inr ⟨by omega,rfl⟩⟩
end
end Go.Proofs.YtdinmjciippchaaGreat
