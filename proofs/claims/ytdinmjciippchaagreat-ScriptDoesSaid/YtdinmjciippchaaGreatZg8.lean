/- Leaf, Chord, Split, Flip, Star, Seed of the program. -/
import Derived.Test.YtdinmjciippchaaGreatZg7
import Derived.Test.YtdinmjciippchaaGreatZg3
open Go.RowKit
set_option linter.unusedVariables false
namespace Go.Proofs.YtdinmjciippchaaGreat
set_option maxRecDepth 100000
def leafL (l:List Nat) (d:Nat):List Nat:=putL (edgL l) l.length d
def leafB (l b:List Nat) (d:Nat):List Nat:=putB (edgL l) (edgL b) l.length d
def chordL (l:List Nat) (d e:Nat):List Nat:=putL (leafL l d) (l.length+1) (if d=e then l.length else e)
def chordB (l b:List Nat) (d e:Nat):List Nat:=putB (leafL l d) (leafB l b d) (l.length+1) (if d=e then l.length else e)
def spl1 (l:List Nat) (d:Nat):List Nat:=putL (edgL l) (l.length+1) (mateN d)
def spl1B (l b:List Nat) (d:Nat):List Nat:=putB (edgL l) (edgL b) (l.length+1) (mateN d)
def spl2 (l b:List Nat) (d:Nat):List Nat:=takL (spl1 l d) (spl1B l b d) (mateN d)
def spl2B (l b:List Nat) (d:Nat):List Nat:=takB (spl1 l d) (spl1B l b d) (mateN d)
def splitL (l b:List Nat) (d:Nat):List Nat:=putL (spl2 l b d) (mateN d) l.length
def splitB (l b:List Nat) (d:Nat):List Nat:=putB (spl2 l b d) (spl2B l b d) (mateN d) l.length
section
variable {l b:List Nat}
theorem leaf_inv (h:Inv l b) {d:Nat} (hd:d < l.length):Inv (leafL l d) (leafB l b d)∧(leafL l d).length=l.length+2:=by
 refine ⟨put_inv (edg_inv h) (by rw [edg_len];omega) (by rw [edg_len];omega) (edg_new l (Nat.le_refl _) (by omega)),?_⟩
 unfold leafL;rw [put_len,edg_len]
theorem leaf_odd (h:Inv l b) {d:Nat} (hd:d < l.length):sgL (leafL l d) (l.length+1)=l.length+1:=by
 unfold leafL
 rw [put_other (edg_inv h) (by rw [edg_len];omega) (by rw [edg_len];omega) (edg_new l (Nat.le_refl _) (by omega)) (by omega) (by omega)]
 exact edg_new l (by omega) (by omega)
theorem chord_inv (h:Inv l b) {d e:Nat} (hd:d < l.length) (he:e < l.length):Inv (chordL l d e) (chordB l b d e)∧(chordL l d e).length=l.length+2:=by
 obtain ⟨h1,h2⟩:=leaf_inv h hd
 refine ⟨put_inv h1 (by omega) (by rw [h2];split <;> omega) (leaf_odd h hd),?_⟩
 unfold chordL;rw [put_len,h2]
theorem mateN_in (he:l.length%2=0) {d:Nat} (hd:d < l.length):mateN d < l.length:=mateN_lt he hd
theorem spl1_inv (h:Inv l b) (he:l.length%2=0) {d:Nat} (hd:d < l.length):Inv (spl1 l d) (spl1B l b d)∧(spl1 l d).length=l.length+2:=by
 have hm:=mateN_in he hd
 refine ⟨put_inv (edg_inv h) (by rw [edg_len];omega) (by rw [edg_len];omega) (edg_new l (by omega) (by omega)),?_⟩
 unfold spl1;rw [put_len,edg_len]
theorem spl2_inv (h:Inv l b) (he:l.length%2=0) {d:Nat} (hd:d < l.length):Inv (spl2 l b d) (spl2B l b d)∧(spl2 l b d).length=l.length+2:=by
 obtain ⟨h1,h2⟩:=spl1_inv h he hd
 have hm:=mateN_in he hd
 refine ⟨tak_inv h1 (by omega),?_⟩
 unfold spl2;rw [tak_len,h2]
theorem split_inv (h:Inv l b) (he:l.length%2=0) {d:Nat} (hd:d < l.length):Inv (splitL l b d) (splitB l b d)∧(splitL l b d).length=l.length+2:=by
 obtain ⟨h1,h2⟩:=spl2_inv h he hd
 obtain ⟨q1,q2⟩:=spl1_inv h he hd
 have hm:=mateN_in he hd
 refine ⟨put_inv h1 (by omega) (by omega) (tak_one q1 (by omega)),?_⟩
 unfold splitL;rw [put_len,h2]
end
theorem rdy_one {n d:Nat} (hd:d < n):rdyN n [(d:Int)]=0:=by
 unfold rdyN;rw [if_pos];intro x hx;simp at hx;omega
theorem rdy_out {n:Nat} {d:Int} (hd:d < 0∨(n:Int)≤d):rdyN n [d]=1:=by
 unfold rdyN;rw [if_neg];intro H;have:=H d (by simp);omega
theorem root_more {root:Int} {n m:Nat} (h:RootOk root n) (hn:0 < n) (hm:n≤m):RootOk root m:=by
 rcases h with ⟨q,_⟩ | ⟨q,q1,q2⟩
 ·omega
 ·exact .inr ⟨by omega,q1,by omega⟩
set_option maxHeartbeats 4000000 in
theorem leaf_out (g:Nat) (l b:List Nat) (root lone d:Int) (w:World) (h:MapAt w g l b root lone) (hd:d < 0∨(l.length:Int)≤d) :
  Calls Tryz.prog 46 #[.pointer (some ⟨g,0,none⟩),.int .i64 d] w fun en w'=>en=.returned (.tuple #[.pointer none,.int .i64 1])∧Below w.heap.size w w':=by
 have hal:=(Below.refl w.heap.size w).alloc (Nat.le_refl _) (.cells #[.int .i64 d] 3)
 have RP:Hid (Calls Tryz.prog 74 #[.pointer (some ⟨g,0,none⟩),.slice (some ⟨w.heap.size,0,none⟩) 1 1] (w.alloc (.cells #[.int .i64 d] 3)) fun en w'=>en=.returned (.int .i64 1)∧Below w.heap.size w w'):=by
  have:=gready_p g l b root lone (some ⟨w.heap.size,0,none⟩) 1 1 [d] (w.alloc (.cells #[.int .i64 d] 3)) (h.below hal) ((Rd.new w 3 #[.int .i64 d] 1 (I64 [d]) (by simp [I64]) (by simp)).up (by simp)) (by omega)
  rw [rdy_out hd] at this
  exact this.mono fun en w' ⟨q1,q2⟩=>⟨q1,hal.trans (q2.mono (by simp))⟩
 clear h hal
 go_enter Tryz.func46,Tryz.ntmps46
 go_wp2_with fail
 refine RP.out.mono ?_
 rintro en w1 ⟨rfl,b1⟩
 have B1:=Lib.hid b1
 clear b1
 go_wp2_with fail
 go_ret2
 exact ⟨rfl,B1.out⟩
set_option maxHeartbeats 4000000 in
theorem split_out (g:Nat) (l b:List Nat) (root lone d:Int) (w:World) (h:MapAt w g l b root lone) (hd:d < 0∨(l.length:Int)≤d) :
  Calls Tryz.prog 49 #[.pointer (some ⟨g,0,none⟩),.int .i64 d] w fun en w'=>en=.returned (.tuple #[.pointer none,.int .i64 1])∧Below w.heap.size w w':=by
 have hal:=(Below.refl w.heap.size w).alloc (Nat.le_refl _) (.cells #[.int .i64 d] 3)
 have RP:Hid (Calls Tryz.prog 74 #[.pointer (some ⟨g,0,none⟩),.slice (some ⟨w.heap.size,0,none⟩) 1 1] (w.alloc (.cells #[.int .i64 d] 3)) fun en w'=>en=.returned (.int .i64 1)∧Below w.heap.size w w'):=by
  have:=gready_p g l b root lone (some ⟨w.heap.size,0,none⟩) 1 1 [d] (w.alloc (.cells #[.int .i64 d] 3)) (h.below hal) ((Rd.new w 3 #[.int .i64 d] 1 (I64 [d]) (by simp [I64]) (by simp)).up (by simp)) (by omega)
  rw [rdy_out hd] at this
  exact this.mono fun en w' ⟨q1,q2⟩=>⟨q1,hal.trans (q2.mono (by simp))⟩
 clear h hal
 go_enter Tryz.func49,Tryz.ntmps49
 go_wp2_with fail
 refine RP.out.mono ?_
 rintro en w1 ⟨rfl,b1⟩
 have B1:=Lib.hid b1
 clear b1
 go_wp2_with fail
 go_ret2
 exact ⟨rfl,B1.out⟩
set_option maxHeartbeats 4000000 in
theorem star_out (g:Nat) (l b:List Nat) (root lone d:Int) (w:World) (h:MapAt w g l b root lone) (hd:d < 0∨(l.length:Int)≤d) :
  Calls Tryz.prog 50 #[.pointer (some ⟨g,0,none⟩),.int .i64 d] w fun en w'=>en=.returned (.tuple #[.pointer none,.int .i64 1])∧Below w.heap.size w w':=by
 have hal:=(Below.refl w.heap.size w).alloc (Nat.le_refl _) (.cells #[.int .i64 d] 3)
 have RP:Hid (Calls Tryz.prog 74 #[.pointer (some ⟨g,0,none⟩),.slice (some ⟨w.heap.size,0,none⟩) 1 1] (w.alloc (.cells #[.int .i64 d] 3)) fun en w'=>en=.returned (.int .i64 1)∧Below w.heap.size w w'):=by
  have:=gready_p g l b root lone (some ⟨w.heap.size,0,none⟩) 1 1 [d] (w.alloc (.cells #[.int .i64 d] 3)) (h.below hal) ((Rd.new w 3 #[.int .i64 d] 1 (I64 [d]) (by simp [I64]) (by simp)).up (by simp)) (by omega)
  rw [rdy_out hd] at this
  exact this.mono fun en w' ⟨q1,q2⟩=>⟨q1,hal.trans (q2.mono (by simp))⟩
 clear h hal
 go_enter Tryz.func50,Tryz.ntmps50
 go_wp2_with fail
 refine RP.out.mono ?_
 rintro en w1 ⟨rfl,b1⟩
 have B1:=Lib.hid b1
 clear b1
 go_wp2_with fail
 go_ret2
 exact ⟨rfl,B1.out⟩
set_option maxHeartbeats 4000000 in
theorem flip_out (g:Nat) (l b:List Nat) (root lone d:Int) (w:World) (h:MapAt w g l b root lone) (hd:d < 0∨(l.length:Int)≤d) :
  Calls Tryz.prog 51 #[.pointer (some ⟨g,0,none⟩),.int .i64 d] w fun en w'=>en=.returned (.tuple #[.pointer none,.int .i64 1])∧Below w.heap.size w w':=by
 have hal:=(Below.refl w.heap.size w).alloc (Nat.le_refl _) (.cells #[.int .i64 d] 3)
 have RP:Hid (Calls Tryz.prog 74 #[.pointer (some ⟨g,0,none⟩),.slice (some ⟨w.heap.size,0,none⟩) 1 1] (w.alloc (.cells #[.int .i64 d] 3)) fun en w'=>en=.returned (.int .i64 1)∧Below w.heap.size w w'):=by
  have:=gready_p g l b root lone (some ⟨w.heap.size,0,none⟩) 1 1 [d] (w.alloc (.cells #[.int .i64 d] 3)) (h.below hal) ((Rd.new w 3 #[.int .i64 d] 1 (I64 [d]) (by simp [I64]) (by simp)).up (by simp)) (by omega)
  rw [rdy_out hd] at this
  exact this.mono fun en w' ⟨q1,q2⟩=>⟨q1,hal.trans (q2.mono (by simp))⟩
 clear h hal
 go_enter Tryz.func51,Tryz.ntmps51
 go_wp2_with fail
 refine RP.out.mono ?_
 rintro en w1 ⟨rfl,b1⟩
 have B1:=Lib.hid b1
 clear b1
 go_wp2_with fail
 go_ret2
 exact ⟨rfl,B1.out⟩
set_option maxHeartbeats 4000000 in
theorem leaf_in (g:Nat) (l b:List Nat) (root lone:Int) (d:Nat) (w:World) (h:MapAt w g l b root lone) (hi:Inv l b) (hr:RootOk root l.length) (hd:d < l.length) (hn:l.length≤60000) :
  Calls Tryz.prog 46 #[.pointer (some ⟨g,0,none⟩),.int .i64 (d:Int)] w fun en w'=>∃ g',en=.returned (.tuple #[.pointer (some ⟨g',0,none⟩),.int .i64 0])∧MapAt w' g' (leafL l d) (leafB l b d) root lone∧Below w.heap.size w w':=by
 have hn2:=h.2.1
 have hal:=(Below.refl w.heap.size w).alloc (Nat.le_refl _) (.cells #[.int .i64 (d:Int)] 3)
 have RP:Hid (Calls Tryz.prog 74 #[.pointer (some ⟨g,0,none⟩),.slice (some ⟨w.heap.size,0,none⟩) 1 1] (w.alloc (.cells #[.int .i64 (d:Int)] 3)) fun en w'=>en=.returned (.int .i64 0)∧Below w.heap.size w w'):=by
  have:=gready_p g l b root lone (some ⟨w.heap.size,0,none⟩) 1 1 [(d:Int)] (w.alloc (.cells #[.int .i64 (d:Int)] 3)) (h.below hal) ((Rd.new w 3 #[.int .i64 (d:Int)] 1 (I64 [(d:Int)]) (by simp [I64]) (by simp)).up (by simp)) (by omega)
  rw [rdy_one hd] at this
  exact this.mono fun en w' ⟨q1,q2⟩=>⟨q1,hal.trans (q2.mono (by simp))⟩
 have TP:Hid (∀ W,Below w.heap.size w W→Calls Tryz.prog 75 #[.pointer (some ⟨g,0,none⟩)] W fun en w'=>∃ gx,en=.returned (.pointer (some ⟨gx,0,none⟩))∧TurnsAt w' W.heap.size gx l b∧Below W.heap.size W w'):=fun W m=>turnsOf_p g l b root lone W (h.below m) hi
 obtain ⟨n,hnn⟩:∃ n,n=l.length:=⟨_,rfl⟩
 obtain ⟨n1,hn1⟩:∃ n1,n1=l.length+1:=⟨_,rfl⟩
 have HN:Hid (n=l.length∧n1=l.length+1):=⟨hnn,hn1⟩
 have HV:=Lib.hid (leaf_inv hi hd)
 have hev:=h.1.1
 have EP:Hid (∀ W base gx,TurnsAt W base gx (l) (b)→base≤W.heap.size→Calls Tryz.prog 76 #[.pointer (some ⟨gx,0,none⟩)] W fun e w'=>e=.returned (.tuple #[.int .i64 (n:Int),.int .i64 (n1:Int)])∧TurnsAt w' base gx (edgL (l)) (edgL (b))∧Below base W w'):=fun W base gx ht hb=>by
  have:=gedge_p base gx (l) (b) W ht (by omega) hb
  rw [← HN.out.2,← HN.out.1] at this
  exact this
 have PP:Hid (∀ W base gx,TurnsAt W base gx (edgL l) (edgL b)→base≤W.heap.size→Calls Tryz.prog 77 #[.pointer (some ⟨gx,0,none⟩),.int .i64 (n:Int),.int .i64 (d:Int)] W fun e w'=>e=.returned (.tuple #[])∧TurnsAt w' base gx (leafL l d) (leafB l b d)∧Below base W w'):=fun W base gx ht hb=>by
  have:=gput_p base gx (edgL l) (edgL b) (l.length) (d) W ht (edg_inv hi) (by rw [edg_len];omega) (by rw [edg_len];omega) (by rw [edg_len];omega) hb
  rw [← HN.out.1] at this
  unfold leafL leafB
  rw [← HN.out.1]
  exact this
 have DR:Hid (∀ W base gx,TurnsAt W base gx (leafL l d) (leafB l b d)→Below w.heap.size w W→Calls Tryz.prog 78 #[.pointer (some ⟨gx,0,none⟩),.pointer (some ⟨g,0,none⟩)] W (NewMap W (leafL l d) (leafB l b d) root lone)):=fun W base gx ht m=>drawn_p base gx g (leafL l d) (leafB l b d) l b root lone W ht (h.below m) HV.out.1 (by rw [HV.out.2];omega) (by rw [HV.out.2];omega) (by rw [HV.out.2];exact root_more hr (by omega) (by omega))
 clear h hal hi hnn hn1 hr hn2 hev
 go_enter Tryz.func46,Tryz.ntmps46
 go_wp2_with fail
 refine RP.out.mono ?_
 rintro en w1 ⟨rfl,b1⟩
 have B1:=Lib.hid b1
 clear b1 RP
 go_wp2_with fail
 refine (TP.out _ B1.out).mono ?_
 rintro en w2 ⟨gx,rfl,t2,b2⟩
 obtain ⟨base,hbase⟩:∃ base,base=w1.heap.size:=⟨_,rfl⟩
 rw [← hbase] at t2 b2
 have hw1:w.heap.size≤base:=by rw [hbase];exact B1.out.size
 have B2:=B1.out.trans (b2.mono hw1)
 have s2:base≤w2.heap.size:=by rw [hbase];exact b2.size
 clear b2 B1 TP hbase
 go_wp2_with fail
 refine (EP.out _ _ _ t2 s2).mono ?_
 rintro en w3 ⟨rfl,t3,b3⟩
 have B3:=B2.trans (b3.mono hw1)
 have s3:base≤w3.heap.size:=Nat.le_trans s2 b3.size
 clear b3 t2 B2
 go_wp2_with fail
 refine (PP.out _ _ _ t3 s3).mono ?_
 rintro en w4 ⟨rfl,t4,b4⟩
 have B4:=B3.trans (b4.mono hw1)
 have s4:base≤w4.heap.size:=Nat.le_trans s3 b4.size
 clear b4 t3 B3
 go_wp2_with fail
 refine (DR.out _ _ _ t4 B4).mono ?_
 rintro en w99 ⟨g9,rfl,m9,b9,lo9⟩
 have F:=Lib.hid (And.intro m9 (And.intro (B4.trans (b9.mono B4.size)) lo9))
 clear m9 b9 lo9 t4
 go_wp2_with fail
 go_ret2
 exact ⟨g9,rfl,F.out.1,F.out.2.1⟩
set_option maxHeartbeats 4000000 in
theorem split_in (g:Nat) (l b:List Nat) (root lone:Int) (d:Nat) (w:World) (h:MapAt w g l b root lone) (hi:Inv l b) (hr:RootOk root l.length) (hd:d < l.length) (hn:l.length≤60000) :
  Calls Tryz.prog 49 #[.pointer (some ⟨g,0,none⟩),.int .i64 (d:Int)] w fun en w'=>∃ g',en=.returned (.tuple #[.pointer (some ⟨g',0,none⟩),.int .i64 0])∧MapAt w' g' (splitL l b d) (splitB l b d) root lone∧Below w.heap.size w w':=by
 have hn2:=h.2.1
 have hal:=(Below.refl w.heap.size w).alloc (Nat.le_refl _) (.cells #[.int .i64 (d:Int)] 3)
 have RP:Hid (Calls Tryz.prog 74 #[.pointer (some ⟨g,0,none⟩),.slice (some ⟨w.heap.size,0,none⟩) 1 1] (w.alloc (.cells #[.int .i64 (d:Int)] 3)) fun en w'=>en=.returned (.int .i64 0)∧Below w.heap.size w w'):=by
  have:=gready_p g l b root lone (some ⟨w.heap.size,0,none⟩) 1 1 [(d:Int)] (w.alloc (.cells #[.int .i64 (d:Int)] 3)) (h.below hal) ((Rd.new w 3 #[.int .i64 (d:Int)] 1 (I64 [(d:Int)]) (by simp [I64]) (by simp)).up (by simp)) (by omega)
  rw [rdy_one hd] at this
  exact this.mono fun en w' ⟨q1,q2⟩=>⟨q1,hal.trans (q2.mono (by simp))⟩
 have TP:Hid (∀ W,Below w.heap.size w W→Calls Tryz.prog 75 #[.pointer (some ⟨g,0,none⟩)] W fun en w'=>∃ gx,en=.returned (.pointer (some ⟨gx,0,none⟩))∧TurnsAt w' W.heap.size gx l b∧Below W.heap.size W w'):=fun W m=>turnsOf_p g l b root lone W (h.below m) hi
 obtain ⟨n,hnn⟩:∃ n,n=l.length:=⟨_,rfl⟩
 obtain ⟨n1,hn1⟩:∃ n1,n1=l.length+1:=⟨_,rfl⟩
 have HN:Hid (n=l.length∧n1=l.length+1):=⟨hnn,hn1⟩
 have hev:=h.1.1
 have HV:=Lib.hid (split_inv hi hev hd)
 have v1:=spl1_inv hi hev hd
 have v2:=spl2_inv hi hev hd
 obtain ⟨md,hmd⟩:∃ md,md=mateN d:=⟨_,rfl⟩
 have HMD:Hid (md=mateN d):=hmd
 have hml:=mateN_in hev hd
 have MP:Hid (∀ W,Below w.heap.size w W→Calls Tryz.prog 80 #[.pointer (some ⟨g,0,none⟩),.int .i64 (d:Int)] W fun e w'=>e=.returned (.int .i64 (md:Int))∧Below W.heap.size W w'):=fun W m=>by rw [hmd];exact mate_in g l b root lone d W (h.below m) hd
 have EP:Hid (∀ W base gx,TurnsAt W base gx (l) (b)→base≤W.heap.size→Calls Tryz.prog 76 #[.pointer (some ⟨gx,0,none⟩)] W fun e w'=>e=.returned (.tuple #[.int .i64 (n:Int),.int .i64 (n1:Int)])∧TurnsAt w' base gx (edgL (l)) (edgL (b))∧Below base W w'):=fun W base gx ht hb=>by
  have:=gedge_p base gx (l) (b) W ht (by omega) hb
  rw [← HN.out.2,← HN.out.1] at this
  exact this
 have P1:Hid (∀ W base gx,TurnsAt W base gx (edgL l) (edgL b)→base≤W.heap.size→Calls Tryz.prog 77 #[.pointer (some ⟨gx,0,none⟩),.int .i64 (n1:Int),.int .i64 (md:Int)] W fun e w'=>e=.returned (.tuple #[])∧TurnsAt w' base gx (spl1 l d) (spl1B l b d)∧Below base W w'):=fun W base gx ht hb=>by
  have:=gput_p base gx (edgL l) (edgL b) (l.length+1) (mateN d) W ht (edg_inv hi) (by rw [edg_len];omega) (by rw [edg_len];omega) (by rw [edg_len];omega) hb
  rw [← HN.out.2,← HMD.out] at this
  unfold spl1 spl1B
  rw [← HN.out.2,← HMD.out]
  exact this
 have T1:Hid (∀ W base gx,TurnsAt W base gx (spl1 l d) (spl1B l b d)→base≤W.heap.size→Calls Tryz.prog 81 #[.pointer (some ⟨gx,0,none⟩),.int .i64 (md:Int)] W fun e w'=>e=.returned (.tuple #[])∧TurnsAt w' base gx (spl2 l b d) (spl2B l b d)∧Below base W w'):=fun W base gx ht hb=>by
  have:=gtake_p base gx (spl1 l d) (spl1B l b d) (mateN d) W ht v1.1 (by omega) (by omega) hb
  rw [← HMD.out] at this
  unfold spl2 spl2B
  rw [← HMD.out]
  exact this
 have P2:Hid (∀ W base gx,TurnsAt W base gx (spl2 l b d) (spl2B l b d)→base≤W.heap.size→Calls Tryz.prog 77 #[.pointer (some ⟨gx,0,none⟩),.int .i64 (md:Int),.int .i64 (n:Int)] W fun e w'=>e=.returned (.tuple #[])∧TurnsAt w' base gx (splitL l b d) (splitB l b d)∧Below base W w'):=fun W base gx ht hb=>by
  have:=gput_p base gx (spl2 l b d) (spl2B l b d) (mateN d) (l.length) W ht v2.1 (by omega) (by omega) (by omega) hb
  rw [← HN.out.1,← HMD.out] at this
  unfold splitL splitB
  rw [← HN.out.1,← HMD.out]
  exact this
 have DR:Hid (∀ W base gx,TurnsAt W base gx (splitL l b d) (splitB l b d)→Below w.heap.size w W→Calls Tryz.prog 78 #[.pointer (some ⟨gx,0,none⟩),.pointer (some ⟨g,0,none⟩)] W (NewMap W (splitL l b d) (splitB l b d) root lone)):=fun W base gx ht m=>drawn_p base gx g (splitL l b d) (splitB l b d) l b root lone W ht (h.below m) HV.out.1 (by rw [HV.out.2];omega) (by rw [HV.out.2];omega) (by rw [HV.out.2];exact root_more hr (by omega) (by omega))
 clear h hal hi hnn hn1 hr hn2 hev hmd v1 v2 hml
 go_enter Tryz.func49,Tryz.ntmps49
 go_wp2_with fail
 refine RP.out.mono ?_
 rintro en w1 ⟨rfl,b1⟩
 have B1:=Lib.hid b1
 clear b1 RP
 go_wp2_with fail
 refine (TP.out _ B1.out).mono ?_
 rintro en w2 ⟨gx,rfl,t2,b2⟩
 obtain ⟨base,hbase⟩:∃ base,base=w1.heap.size:=⟨_,rfl⟩
 rw [← hbase] at t2 b2
 have hw1:w.heap.size≤base:=by rw [hbase];exact B1.out.size
 have B2:=B1.out.trans (b2.mono hw1)
 have s2:base≤w2.heap.size:=by rw [hbase];exact b2.size
 clear b2 B1 TP hbase
 go_wp2_with fail
 refine (MP.out _ B2).mono ?_
 rintro en w3 ⟨rfl,z⟩
 have t3:=t2.below z
 have B3:=B2.trans (z.mono B2.size)
 have s3:base≤w3.heap.size:=Nat.le_trans s2 z.size
 clear z t2 B2 MP
 go_wp2_with fail
 refine (EP.out _ _ _ t3 s3).mono ?_
 rintro en w4 ⟨rfl,t4,b4⟩
 have B4:=B3.trans (b4.mono hw1)
 have s4:base≤w4.heap.size:=Nat.le_trans s3 b4.size
 clear b4 t3 B3
 go_wp2_with fail
 refine (P1.out _ _ _ t4 s4).mono ?_
 rintro en w5 ⟨rfl,t5,b5⟩
 have B5:=B4.trans (b5.mono hw1)
 have s5:base≤w5.heap.size:=Nat.le_trans s4 b5.size
 clear b5 t4 B4
 go_wp2_with fail
 refine (T1.out _ _ _ t5 s5).mono ?_
 rintro en w6 ⟨rfl,t6,b6⟩
 have B6:=B5.trans (b6.mono hw1)
 have s6:base≤w6.heap.size:=Nat.le_trans s5 b6.size
 clear b6 t5 B5
 go_wp2_with fail
 refine (P2.out _ _ _ t6 s6).mono ?_
 rintro en w7 ⟨rfl,t7,b7⟩
 have B7:=B6.trans (b7.mono hw1)
 have s7:base≤w7.heap.size:=Nat.le_trans s6 b7.size
 clear b7 t6 B6
 go_wp2_with fail
 refine (DR.out _ _ _ t7 B7).mono ?_
 rintro en w99 ⟨g9,rfl,m9,b9,lo9⟩
 have F:=Lib.hid (And.intro m9 (And.intro (B7.trans (b9.mono B7.size)) lo9))
 clear m9 b9 lo9 t7
 go_wp2_with fail
 go_ret2
 exact ⟨g9,rfl,F.out.1,F.out.2.1⟩
def oppN (l:List Nat) (d:Nat):Nat:=(phiL l).getD ((phiL l).getD d 0) 0
def flp (l b:List Nat) (d:Nat):Nat:=b.getD (oppN l d) 0
def fl1 (l b:List Nat) (d:Nat):List Nat:=takL l b d
def fl1B (l b:List Nat) (d:Nat):List Nat:=takB l b d
def fl2 (l b:List Nat) (d:Nat):List Nat:=takL (fl1 l b d) (fl1B l b d) (mateN d)
def fl2B (l b:List Nat) (d:Nat):List Nat:=takB (fl1 l b d) (fl1B l b d) (mateN d)
def fl3 (l b:List Nat) (d:Nat):List Nat:=putL (fl2 l b d) d (flp l b d)
def fl3B (l b:List Nat) (d:Nat):List Nat:=putB (fl2 l b d) (fl2B l b d) d (flp l b d)
def flipL (l b:List Nat) (d:Nat):List Nat:=putL (fl3 l b d) (mateN d) (flp l b (mateN d))
def flipB (l b:List Nat) (d:Nat):List Nat:=putB (fl3 l b d) (fl3B l b d) (mateN d) (flp l b (mateN d))
def TriD (l:List Nat) (d:Nat):Prop:=(orb (phiL l) d).length=3
def Flips (l:List Nat) (d:Nat):Prop:=TriD l d∧TriD l (mateN d)∧nameOf (phiL l) d≠nameOf (phiL l) (mateN d)
section
variable {l b:List Nat}
theorem flp_lt (h:Inv l b) (he:l.length%2=0) {d:Nat} (hd:d < l.length):flp l b d < l.length∧oppN l d < l.length:=by
 have hp:=(phi_inv h he).lt
 rw [phiL_len] at hp
 have h2:oppN l d < l.length:=hp _ (hp d hd)
 exact ⟨h.lt' _ h2,h2⟩
theorem mateN_ne (d:Nat):mateN d≠d:=by rw [mateN_eq];split <;> omega
theorem tri_ne (h:Inv l b) (he:l.length%2=0) {d:Nat} (hd:d < l.length) (ht:TriD l d):sgL (phiL l) d≠d:=fun c=>by
 have hp:=phi_inv h he
 have hdp:d < (phiL l).length:=by rw [phiL_len];exact hd
 have h1:=per_is hp hdp
 have h2:(orb (phiL l) d).length=per (phiL l) d:=by unfold orb;exact way_len _ _ _
 have h3:=h1.2.2 1 (by omega)
 unfold TriD at ht
 exact h3 (by omega) c
theorem flp_ne (h:Inv l b) (he:l.length%2=0) {d:Nat} (hd:d < l.length) (ht:TriD l d):flp l b d≠mateN d:=fun c=>by
 have hp:=(phi_inv h he).lt
 rw [phiL_len] at hp
 have hlt:=flp_lt h he hd
 have h1:=h.bl _ hlt.2
 rw [show b.getD (oppN l d) 0=mateN d from c] at h1
 have h2:sgL (phiL l) d=sgL l (mt d):=phi_at l hd
 rw [← mt_mateN] at h2
 have h3:sgL (phiL l) (sgL (phiL l) d)=sgL (phiL l) d:=by
  show oppN l d=_
  rw [← h1,h2];rfl
 have hq:=(phi_inv h he).inj
 rw [phiL_len] at hq
 exact tri_ne h he hd ht (hq _ _ (hp d hd) hd h3)
theorem fl1_inv (h:Inv l b) {d:Nat} (hd:d < l.length):Inv (fl1 l b d) (fl1B l b d)∧(fl1 l b d).length=l.length :=
 ⟨tak_inv h hd,tak_len _ _ _⟩
theorem fl2_inv (h:Inv l b) (he:l.length%2=0) {d:Nat} (hd:d < l.length):Inv (fl2 l b d) (fl2B l b d)∧(fl2 l b d).length=l.length:=by
 obtain ⟨h1,h2⟩:=fl1_inv h hd
 have hm:=mateN_in he hd
 exact ⟨tak_inv h1 (by omega),by unfold fl2;rw [tak_len,h2]⟩
theorem fl2_d (h:Inv l b) (he:l.length%2=0) {d:Nat} (hd:d < l.length):sgL (fl2 l b d) d=d:=by
 obtain ⟨h1,h2⟩:=fl1_inv h hd
 have hm:=mateN_in he hd
 have hm1:mateN d < (fl1 l b d).length:=by omega
 unfold fl2
 rw [tak_other h1 hm1 (Ne.symm (mateN_ne d)) (fun c=>?_)]
 ·exact tak_one h hd
 ·have h3:=h1.bl _ hm1
  rw [show (fl1B l b d).getD (mateN d) 0=d from c.symm] at h3
  have h4:(fl1 l b d).getD d 0=d:=tak_one h hd
  rw [h4] at h3
  exact mateN_ne d h3.symm
theorem fl2_m (h:Inv l b) (he:l.length%2=0) {d:Nat} (hd:d < l.length):sgL (fl2 l b d) (mateN d)=mateN d:=by
 obtain ⟨h1,h2⟩:=fl1_inv h hd
 exact tak_one h1 (by rw [h2];exact mateN_in he hd)
theorem fl3_inv (h:Inv l b) (he:l.length%2=0) {d:Nat} (hd:d < l.length):Inv (fl3 l b d) (fl3B l b d)∧(fl3 l b d).length=l.length:=by
 obtain ⟨h1,h2⟩:=fl2_inv h he hd
 have hp:=flp_lt h he hd
 exact ⟨put_inv h1 (by omega) (by omega) (fl2_d h he hd),by unfold fl3;rw [put_len,h2]⟩
theorem fl3_m (h:Inv l b) (he:l.length%2=0) {d:Nat} (hd:d < l.length) (ht:TriD l d):sgL (fl3 l b d) (mateN d)=mateN d:=by
 obtain ⟨h1,h2⟩:=fl2_inv h he hd
 have hp:=flp_lt h he hd
 unfold fl3
 rw [put_other h1 (by omega) (by omega) (fl2_d h he hd) (mateN_ne d) (Ne.symm (flp_ne h he hd ht))]
 exact fl2_m h he hd
theorem flip_inv (h:Inv l b) (he:l.length%2=0) {d:Nat} (hd:d < l.length) (ht:TriD l d):Inv (flipL l b d) (flipB l b d)∧(flipL l b d).length=l.length:=by
 obtain ⟨h1,h2⟩:=fl3_inv h he hd
 have hm:=mateN_in he hd
 have hp:=flp_lt h he hm
 exact ⟨put_inv h1 (by omega) (by omega) (fl3_m h he hd ht),by unfold flipL;rw [put_len,h2]⟩
theorem rdy_two {n d e:Nat} (hd:d < n) (he:e < n):rdyN n [(d:Int),(e:Int)]=0:=by
 unfold rdyN;rw [if_pos];intro x hx;simp at hx;omega
theorem rdy_two_out {n:Nat} {d e:Int} (hd:(d < 0∨(n:Int)≤d)∨e < 0∨(n:Int)≤e):rdyN n [d,e]=1:=by
 unfold rdyN;rw [if_neg];intro H;have h1:=H d (by simp);have h2:=H e (by simp);omega
end
set_option maxHeartbeats 4000000 in
theorem isTri_p (g:Nat) (l b:List Nat) (root lone:Int) (d:Nat) (w:World) (h:MapAt w g l b root lone) (hd:d < l.length) :
  Calls Tryz.prog 85 #[.pointer (some ⟨g,0,none⟩),.int .i64 (d:Int)] w fun en w'=>(∃ x:Bool,en=.returned (.bool x)∧(x=true↔TriD l d))∧Below w.heap.size w w':=by
 have BP:=Lib.hid (border_in g l b root lone d w h hd)
 obtain ⟨k,hk⟩:∃ k,k=(orb (phiL l) d).length:=⟨_,rfl⟩
 have HK:Hid (TriD l d↔k=3):=by unfold TriD;rw [← hk];exact Iff.rfl
 have HL:Hid ((ofN (orb (phiL l) d)).length=k):=by show _=_;rw [ofN_len,hk]
 clear h hk
 go_enter Tryz.func85,Tryz.ntmps85
 go_wp2_with fail
 refine BP.out.mono ?_
 rintro en w1 ⟨A1,c1,rfl,hc1,hm1,hown1,b1⟩
 rw [HL.out] at hc1 hown1 ⊢
 have B:=Lib.hid b1
 clear b1 hown1 BP
 by_cases c:k=3
 ·have HT:=Lib.hid (HK.out.2 c)
  clear HK
  subst c
  go_wp2_with fail
  go_ret
  exact ⟨⟨true,rfl,⟨fun _=>HT.out,fun _=>rfl⟩⟩,B.out⟩
 ·have hd1:decide (k=3)=false:=decide_eq_false c
  have hd2:((k:Int) == 3)=false:=by simp;omega
  have hd3:(k == 3)=false:=by simp [c]
  go_wp2_with fail
  go_ret
  exact ⟨⟨false,rfl,⟨fun q=>(by cases q),fun q=>absurd (HK.out.1 q) c⟩⟩,B.out⟩
set_option maxHeartbeats 4000000 in
theorem opp_p (g:Nat) (l b:List Nat) (root lone:Int) (d:Nat) (w:World) (h:MapAt w g l b root lone) (hd:d < l.length) (hp:(phiL l).getD d 0 < l.length) :
  Calls Tryz.prog 87 #[.pointer (some ⟨g,0,none⟩),.int .i64 (d:Int)] w fun en w'=>en=.returned (.int .i64 ((oppN l d:Nat):Int))∧Below w.heap.size w w':=by
 have P1:=Lib.hid (phi_in g l b root lone d w h hd)
 have P2:Hid (∀ W,Below w.heap.size w W→Calls Tryz.prog 90 #[.pointer (some ⟨g,0,none⟩),.int .i64 (((phiL l).getD d 0:Nat):Int)] W fun e w'=>e=.returned (.int .i64 ((oppN l d:Nat):Int))∧Below W.heap.size W w'):=fun W m=>phi_in g l b root lone _ W (h.below m) hp
 clear h
 generalize (phiL l).getD d 0=q at *
 generalize oppN l d=o at *
 go_enter Tryz.func87,Tryz.ntmps87
 go_wp2_with fail
 refine P1.out.mono ?_
 rintro en w1 ⟨rfl,b1⟩
 have B1:=Lib.hid b1
 clear b1
 go_wp2_with fail
 refine (P2.out _ B1.out).mono ?_
 rintro en w2 ⟨rfl,b2⟩
 have B2:=Lib.hid (B1.out.trans (b2.mono B1.out.size))
 clear b2
 go_wp2_with fail
 go_ret
 exact ⟨rfl,B2.out⟩
set_option maxHeartbeats 4000000 in
theorem corner_p (g:Nat) (l b:List Nat) (root lone:Int) (d:Nat) (w:World) (h:MapAt w g l b root lone) (hd:d < l.length) (hp:l.getD d 0 < l.length) :
  Calls Tryz.prog 79 #[.pointer (some ⟨g,0,none⟩),.int .i64 (d:Int)] w fun en w'=>en=.returned (.int .i64 ((nameOf (phiL l) (l.getD d 0):Nat):Int))∧Below w.heap.size w w':=by
 have P1:=Lib.hid (sigma_in g l b root lone d w h hd)
 have P2:Hid (∀ W,Below w.heap.size w W→Calls Tryz.prog 86 #[.pointer (some ⟨g,0,none⟩),.int .i64 ((l.getD d 0:Nat):Int)] W fun e w'=>e=.returned (.int .i64 ((nameOf (phiL l) (l.getD d 0):Nat):Int))∧Below W.heap.size W w'):=fun W m=>face_in g l b root lone _ W (h.below m) hp
 clear h
 generalize nameOf (phiL l) (l.getD d 0)=o at *
 generalize l.getD d 0=q at *
 go_enter Tryz.func79,Tryz.ntmps79
 go_wp2_with fail
 refine P1.out.mono ?_
 rintro en w1 ⟨rfl,b1⟩
 have B1:=Lib.hid b1
 clear b1
 go_wp2_with fail
 refine (P2.out _ B1.out).mono ?_
 rintro en w2 ⟨rfl,b2⟩
 have B2:=Lib.hid (B1.out.trans (b2.mono B1.out.size))
 clear b2
 go_wp2_with fail
 go_ret
 exact ⟨rfl,B2.out⟩
set_option maxHeartbeats 4000000 in
theorem chord_two (g:Nat) (l b:List Nat) (root lone:Int) (d e:Nat) (w:World) (h:MapAt w g l b root lone) (hi:Inv l b) (hr:RootOk root l.length) (hd:d < l.length) (he:e < l.length) (hn:l.length≤60000) (hf:nameOf (phiL l) (l.getD d 0)≠nameOf (phiL l) (l.getD e 0)) :
  Calls Tryz.prog 48 #[.pointer (some ⟨g,0,none⟩),.int .i64 (d:Int),.int .i64 (e:Int)] w fun en w'=>en=.returned (.tuple #[.pointer none,.int .i64 8])∧Below w.heap.size w w':=by
 have hn2:=h.2.1
 have hal:=(Below.refl w.heap.size w).alloc (Nat.le_refl _) (.cells #[.int .i64 (d:Int),.int .i64 (e:Int)] 3)
 have RP:Hid (Calls Tryz.prog 74 #[.pointer (some ⟨g,0,none⟩),.slice (some ⟨w.heap.size,0,none⟩) 2 2] (w.alloc (.cells #[.int .i64 (d:Int),.int .i64 (e:Int)] 3)) fun en w'=>en=.returned (.int .i64 0)∧Below w.heap.size w w'):=by
  have:=gready_p g l b root lone (some ⟨w.heap.size,0,none⟩) 2 2 [(d:Int),(e:Int)] (w.alloc (.cells #[.int .i64 (d:Int),.int .i64 (e:Int)] 3)) (h.below hal) ((Rd.new w 3 #[.int .i64 (d:Int),.int .i64 (e:Int)] 2 (I64 [(d:Int),(e:Int)]) (by simp [I64]) (by simp)).up (by simp)) (by omega)
  rw [rdy_two hd he] at this
  exact this.mono fun en w' ⟨q1,q2⟩=>⟨q1,hal.trans (q2.mono (by simp))⟩
 have C1:Hid (∀ W,Below w.heap.size w W→Calls Tryz.prog 79 #[.pointer (some ⟨g,0,none⟩),.int .i64 (d:Int)] W fun e w'=>e=.returned (.int .i64 ((nameOf (phiL l) (l.getD d 0):Nat):Int))∧Below W.heap.size W w'):=fun W m=>corner_p g l b root lone d W (h.below m) hd (hi.lt d hd)
 have C2:Hid (∀ W,Below w.heap.size w W→Calls Tryz.prog 79 #[.pointer (some ⟨g,0,none⟩),.int .i64 (e:Int)] W fun e' w'=>e'=.returned (.int .i64 ((nameOf (phiL l) (l.getD e 0):Nat):Int))∧Below W.heap.size W w'):=fun W m=>corner_p g l b root lone e W (h.below m) he (hi.lt e he)
 clear h hal hi hr hn2
 generalize nameOf (phiL l) (l.getD d 0)=f1 at *
 generalize nameOf (phiL l) (l.getD e 0)=f2 at *
 have hf1:(f1 != f2)=true:=by simp [hf]
 have hf2:((f1:Int) != (f2:Int))=true:=by simp;omega
 have hf3:decide (f1=f2)=false:=decide_eq_false hf
 go_enter Tryz.func48,Tryz.ntmps48
 go_wp2_with fail
 refine RP.out.mono ?_
 rintro en w1 ⟨rfl,b1⟩
 have B1:=Lib.hid b1
 clear b1 RP
 go_wp2_with fail
 refine (C1.out _ B1.out).mono ?_
 rintro en w2 ⟨rfl,z⟩
 have Bw2:=Lib.hid (B1.out.trans (z.mono B1.out.size))
 clear z
 go_wp2_with fail
 refine (C2.out _ Bw2.out).mono ?_
 rintro en w3 ⟨rfl,z⟩
 have Bw3:=Lib.hid (Bw2.out.trans (z.mono Bw2.out.size))
 clear z
 go_wp2_with fail
 go_ret2
 exact ⟨rfl,Bw3.out⟩
set_option maxHeartbeats 4000000 in
theorem chord_in (g:Nat) (l b:List Nat) (root lone:Int) (d e:Nat) (w:World) (h:MapAt w g l b root lone) (hi:Inv l b) (hr:RootOk root l.length) (hd:d < l.length) (he:e < l.length) (hn:l.length≤60000) (hf:nameOf (phiL l) (l.getD d 0)=nameOf (phiL l) (l.getD e 0)) :
  Calls Tryz.prog 48 #[.pointer (some ⟨g,0,none⟩),.int .i64 (d:Int),.int .i64 (e:Int)] w fun en w'=>∃ g',en=.returned (.tuple #[.pointer (some ⟨g',0,none⟩),.int .i64 0])∧MapAt w' g' (chordL l d e) (chordB l b d e) root lone∧Below w.heap.size w w':=by
 have hn2:=h.2.1
 have hal:=(Below.refl w.heap.size w).alloc (Nat.le_refl _) (.cells #[.int .i64 (d:Int),.int .i64 (e:Int)] 3)
 have RP:Hid (Calls Tryz.prog 74 #[.pointer (some ⟨g,0,none⟩),.slice (some ⟨w.heap.size,0,none⟩) 2 2] (w.alloc (.cells #[.int .i64 (d:Int),.int .i64 (e:Int)] 3)) fun en w'=>en=.returned (.int .i64 0)∧Below w.heap.size w w'):=by
  have:=gready_p g l b root lone (some ⟨w.heap.size,0,none⟩) 2 2 [(d:Int),(e:Int)] (w.alloc (.cells #[.int .i64 (d:Int),.int .i64 (e:Int)] 3)) (h.below hal) ((Rd.new w 3 #[.int .i64 (d:Int),.int .i64 (e:Int)] 2 (I64 [(d:Int),(e:Int)]) (by simp [I64]) (by simp)).up (by simp)) (by omega)
  rw [rdy_two hd he] at this
  exact this.mono fun en w' ⟨q1,q2⟩=>⟨q1,hal.trans (q2.mono (by simp))⟩
 have C1:Hid (∀ W,Below w.heap.size w W→Calls Tryz.prog 79 #[.pointer (some ⟨g,0,none⟩),.int .i64 (d:Int)] W fun e w'=>e=.returned (.int .i64 ((nameOf (phiL l) (l.getD d 0):Nat):Int))∧Below W.heap.size W w'):=fun W m=>corner_p g l b root lone d W (h.below m) hd (hi.lt d hd)
 have C2:Hid (∀ W,Below w.heap.size w W→Calls Tryz.prog 79 #[.pointer (some ⟨g,0,none⟩),.int .i64 (e:Int)] W fun e' w'=>e'=.returned (.int .i64 ((nameOf (phiL l) (l.getD e 0):Nat):Int))∧Below W.heap.size W w'):=fun W m=>corner_p g l b root lone e W (h.below m) he (hi.lt e he)
 have TP:Hid (∀ W,Below w.heap.size w W→Calls Tryz.prog 75 #[.pointer (some ⟨g,0,none⟩)] W fun en w'=>∃ gx,en=.returned (.pointer (some ⟨gx,0,none⟩))∧TurnsAt w' W.heap.size gx l b∧Below W.heap.size W w'):=fun W m=>turnsOf_p g l b root lone W (h.below m) hi
 obtain ⟨n,hnn⟩:∃ n,n=l.length:=⟨_,rfl⟩
 obtain ⟨n1,hn1⟩:∃ n1,n1=l.length+1:=⟨_,rfl⟩
 have HN:Hid (n=l.length∧n1=l.length+1):=⟨hnn,hn1⟩
 have HV:=Lib.hid (chord_inv hi hd he)
 have hev:=h.1.1
 have lv:=leaf_inv hi hd
 have EP:Hid (∀ W base gx,TurnsAt W base gx (l) (b)→base≤W.heap.size→Calls Tryz.prog 76 #[.pointer (some ⟨gx,0,none⟩)] W fun en w'=>en=.returned (.tuple #[.int .i64 (n:Int),.int .i64 (n1:Int)])∧TurnsAt w' base gx (edgL (l)) (edgL (b))∧Below base W w'):=fun W base gx ht hb=>by
  have:=gedge_p base gx (l) (b) W ht (by omega) hb
  rw [← HN.out.2,← HN.out.1] at this
  exact this
 have P1:Hid (∀ W base gx,TurnsAt W base gx (edgL l) (edgL b)→base≤W.heap.size→Calls Tryz.prog 77 #[.pointer (some ⟨gx,0,none⟩),.int .i64 (n:Int),.int .i64 (d:Int)] W fun en w'=>en=.returned (.tuple #[])∧TurnsAt w' base gx (leafL l d) (leafB l b d)∧Below base W w'):=fun W base gx ht hb=>by
  have:=gput_p base gx (edgL l) (edgL b) (l.length) (d) W ht (edg_inv hi) (by rw [edg_len];omega) (by rw [edg_len];omega) (by rw [edg_len];omega) hb
  rw [← HN.out.1] at this
  unfold leafL leafB
  rw [← HN.out.1]
  exact this
 obtain ⟨a,ha⟩:∃ a,a=if d=e then l.length else e:=⟨_,rfl⟩
 have HA:Hid (a=if d=e then n else e):=by show _=_;rw [ha,hnn]
 have hal2:a < (leafL l d).length:=by rw [lv.2,ha];split <;> omega
 have P2:Hid (∀ W base gx,TurnsAt W base gx (leafL l d) (leafB l b d)→base≤W.heap.size→Calls Tryz.prog 77 #[.pointer (some ⟨gx,0,none⟩),.int .i64 (n1:Int),.int .i64 (a:Int)] W fun en w'=>en=.returned (.tuple #[])∧TurnsAt w' base gx (chordL l d e) (chordB l b d e)∧Below base W w'):=fun W base gx ht hb=>by
  have:=gput_p base gx (leafL l d) (leafB l b d) (l.length+1) (a) W ht lv.1 (by rw [lv.2];omega) hal2 (by rw [lv.2];omega) hb
  rw [← HN.out.2] at this
  unfold chordL chordB
  rw [← HN.out.2,← ha]
  exact this
 have DR:Hid (∀ W base gx,TurnsAt W base gx (chordL l d e) (chordB l b d e)→Below w.heap.size w W→Calls Tryz.prog 78 #[.pointer (some ⟨gx,0,none⟩),.pointer (some ⟨g,0,none⟩)] W (NewMap W (chordL l d e) (chordB l b d e) root lone)):=fun W base gx ht m=>drawn_p base gx g (chordL l d e) (chordB l b d e) l b root lone W ht (h.below m) HV.out.1 (by rw [HV.out.2];omega) (by rw [HV.out.2];omega) (by rw [HV.out.2];exact root_more hr (by omega) (by omega))
 clear h hal hi hnn hn1 hr hn2 hev lv ha hal2
 rw [hf] at C1
 generalize nameOf (phiL l) (l.getD e 0)=f2 at *
 clear hf
 have hf2:((f2:Int) != (f2:Int))=false:=by simp
 go_enter Tryz.func48,Tryz.ntmps48
 go_wp2_with fail
 refine RP.out.mono ?_
 rintro en w1 ⟨rfl,b1⟩
 have B1:=Lib.hid b1
 clear b1 RP
 go_wp2_with fail
 refine (C1.out _ B1.out).mono ?_
 rintro en wa ⟨rfl,z⟩
 have Bwa:=Lib.hid (B1.out.trans (z.mono B1.out.size))
 clear z
 go_wp2_with fail
 refine (C2.out _ Bwa.out).mono ?_
 rintro en wb ⟨rfl,z⟩
 have Bwb:=Lib.hid (Bwa.out.trans (z.mono Bwa.out.size))
 clear z
 go_wp2_with fail
 refine (TP.out _ Bwb.out).mono ?_
 rintro en w2 ⟨gx,rfl,t2,b2⟩
 obtain ⟨base,hbase⟩:∃ base,base=wb.heap.size:=⟨_,rfl⟩
 rw [← hbase] at t2 b2
 have hw1:w.heap.size≤base:=by rw [hbase];exact Bwb.out.size
 have B2:=Bwb.out.trans (b2.mono hw1)
 have s2:base≤w2.heap.size:=by rw [hbase];exact b2.size
 clear b2 Bwb TP hbase
 go_wp2_with fail
 refine (EP.out _ _ _ t2 s2).mono ?_
 rintro en w3 ⟨rfl,t3,b3⟩
 have B3:=B2.trans (b3.mono hw1)
 have s3:base≤w3.heap.size:=Nat.le_trans s2 b3.size
 clear b3 t2 B2
 go_wp2_with fail
 refine (P1.out _ _ _ t3 s3).mono ?_
 rintro en w4 ⟨rfl,t4,b4⟩
 have B4:=B3.trans (b4.mono hw1)
 have s4:base≤w4.heap.size:=Nat.le_trans s3 b4.size
 clear b4 t3 B3
 by_cases hde:d=e
 ·have HA2:Hid (a=n):=by show _=_;rw [HA.out,if_pos hde]
  rw [HA2.out] at P2
  have hd1:decide (d=e)=true:=decide_eq_true hde
  clear HA HA2
  subst hde
  go_wp2_with fail
  refine (P2.out _ _ _ t4 s4).mono ?_
  rintro en w5 ⟨rfl,t5,b5⟩
  have B5:=B4.trans (b5.mono hw1)
  have s5:base≤w5.heap.size:=Nat.le_trans s4 b5.size
  clear b5 t4 B4
  go_wp2_with fail
  refine (DR.out _ _ _ t5 B5).mono ?_
  rintro en w99 ⟨g9,rfl,m9,b9,lo9⟩
  have F:=Lib.hid (And.intro m9 (And.intro (B5.trans (b9.mono B5.size)) lo9))
  clear m9 b9 lo9 t5
  go_wp2_with fail
  go_ret2
  exact ⟨g9,rfl,F.out.1,F.out.2.1⟩
 ·have HA2:Hid (a=e):=by show _=_;rw [HA.out,if_neg hde]
  rw [HA2.out] at P2
  have hd1:decide (d=e)=false:=decide_eq_false hde
  have hd2:((d:Int) == (e:Int))=false:=by simp;omega
  clear HA HA2
  go_wp2_with fail
  refine (P2.out _ _ _ t4 s4).mono ?_
  rintro en w5 ⟨rfl,t5,b5⟩
  have B5:=B4.trans (b5.mono hw1)
  have s5:base≤w5.heap.size:=Nat.le_trans s4 b5.size
  clear b5 t4 B4
  go_wp2_with fail
  refine (DR.out _ _ _ t5 B5).mono ?_
  rintro en w99 ⟨g9,rfl,m9,b9,lo9⟩
  have F:=Lib.hid (And.intro m9 (And.intro (B5.trans (b9.mono B5.size)) lo9))
  clear m9 b9 lo9 t5
  go_wp2_with fail
  go_ret2
  exact ⟨g9,rfl,F.out.1,F.out.2.1⟩
set_option maxHeartbeats 4000000 in
theorem chord_out (g:Nat) (l b:List Nat) (root lone:Int) (d e:Int) (w:World) (h:MapAt w g l b root lone) (hd:(d < 0∨(l.length:Int)≤d)∨e < 0∨(l.length:Int)≤e) :
  Calls Tryz.prog 48 #[.pointer (some ⟨g,0,none⟩),.int .i64 d,.int .i64 e] w fun en w'=>en=.returned (.tuple #[.pointer none,.int .i64 1])∧Below w.heap.size w w':=by
 have hn2:=h.2.1
 have hal:=(Below.refl w.heap.size w).alloc (Nat.le_refl _) (.cells #[.int .i64 d,.int .i64 e] 3)
 have RP:Hid (Calls Tryz.prog 74 #[.pointer (some ⟨g,0,none⟩),.slice (some ⟨w.heap.size,0,none⟩) 2 2] (w.alloc (.cells #[.int .i64 d,.int .i64 e] 3)) fun en w'=>en=.returned (.int .i64 1)∧Below w.heap.size w w'):=by
  have:=gready_p g l b root lone (some ⟨w.heap.size,0,none⟩) 2 2 [d,e] (w.alloc (.cells #[.int .i64 d,.int .i64 e] 3)) (h.below hal) ((Rd.new w 3 #[.int .i64 d,.int .i64 e] 2 (I64 [d,e]) (by simp [I64]) (by simp)).up (by simp)) (by omega)
  rw [rdy_two_out hd] at this
  exact this.mono fun en w' ⟨q1,q2⟩=>⟨q1,hal.trans (q2.mono (by simp))⟩
 clear h hal hn2
 go_enter Tryz.func48,Tryz.ntmps48
 go_wp2_with fail
 refine RP.out.mono ?_
 rintro en w1 ⟨rfl,b1⟩
 have B1:=Lib.hid b1
 clear b1 RP
 go_wp2_with fail
 go_ret2
 exact ⟨rfl,B1.out⟩
set_option maxHeartbeats 4000000 in
theorem flip_no (g:Nat) (l b:List Nat) (root lone:Int) (d:Nat) (w:World) (h:MapAt w g l b root lone) (hd:d < l.length) (hno:¬ Flips l d) :
  Calls Tryz.prog 51 #[.pointer (some ⟨g,0,none⟩),.int .i64 (d:Int)] w fun en w'=>en=.returned (.tuple #[.pointer none,.int .i64 8])∧Below w.heap.size w w':=by
 have hn2:=h.2.1
 have hal:=(Below.refl w.heap.size w).alloc (Nat.le_refl _) (.cells #[.int .i64 (d:Int)] 3)
 have RP:Hid (Calls Tryz.prog 74 #[.pointer (some ⟨g,0,none⟩),.slice (some ⟨w.heap.size,0,none⟩) 1 1] (w.alloc (.cells #[.int .i64 (d:Int)] 3)) fun en w'=>en=.returned (.int .i64 0)∧Below w.heap.size w w'):=by
  have:=gready_p g l b root lone (some ⟨w.heap.size,0,none⟩) 1 1 [(d:Int)] (w.alloc (.cells #[.int .i64 (d:Int)] 3)) (h.below hal) ((Rd.new w 3 #[.int .i64 (d:Int)] 1 (I64 [(d:Int)]) (by simp [I64]) (by simp)).up (by simp)) (by omega)
  rw [rdy_one hd] at this
  exact this.mono fun en w' ⟨q1,q2⟩=>⟨q1,hal.trans (q2.mono (by simp))⟩
 have hev:=h.1.1
 obtain ⟨md,hmd⟩:∃ md,md=mateN d:=⟨_,rfl⟩
 have HMD:Hid (md=mateN d):=hmd
 have hml:md < l.length:=by rw [hmd];exact mateN_in hev hd
 have MP:Hid (∀ W,Below w.heap.size w W→Calls Tryz.prog 80 #[.pointer (some ⟨g,0,none⟩),.int .i64 (d:Int)] W fun e w'=>e=.returned (.int .i64 (md:Int))∧Below W.heap.size W w'):=fun W m=>by rw [hmd];exact mate_in g l b root lone d W (h.below m) hd
 have T1:Hid (∀ W,Below w.heap.size w W→Calls Tryz.prog 85 #[.pointer (some ⟨g,0,none⟩),.int .i64 (d:Int)] W fun en w'=>(∃ x:Bool,en=.returned (.bool x)∧(x=true↔TriD l d))∧Below W.heap.size W w'):=fun W m=>isTri_p g l b root lone d W (h.below m) hd
 have T2:Hid (∀ W,Below w.heap.size w W→Calls Tryz.prog 85 #[.pointer (some ⟨g,0,none⟩),.int .i64 (md:Int)] W fun en w'=>(∃ x:Bool,en=.returned (.bool x)∧(x=true↔TriD l md))∧Below W.heap.size W w'):=fun W m=>isTri_p g l b root lone md W (h.below m) hml
 have F1:Hid (∀ W,Below w.heap.size w W→Calls Tryz.prog 86 #[.pointer (some ⟨g,0,none⟩),.int .i64 (d:Int)] W fun e w'=>e=.returned (.int .i64 ((nameOf (phiL l) d:Nat):Int))∧Below W.heap.size W w'):=fun W m=>face_in g l b root lone d W (h.below m) hd
 have F2:Hid (∀ W,Below w.heap.size w W→Calls Tryz.prog 86 #[.pointer (some ⟨g,0,none⟩),.int .i64 (md:Int)] W fun e w'=>e=.returned (.int .i64 ((nameOf (phiL l) md:Nat):Int))∧Below W.heap.size W w'):=fun W m=>face_in g l b root lone md W (h.below m) hml
 have HNO:Hid (¬ (TriD l d∧TriD l md∧nameOf (phiL l) d≠nameOf (phiL l) md)):=by show ¬ _;rw [hmd];exact hno
 clear h hal hn2 hmd hno hml
 generalize nameOf (phiL l) d=f1 at *
 generalize nameOf (phiL l) md=f2 at *
 go_enter Tryz.func51,Tryz.ntmps51
 go_wp2_with fail
 refine RP.out.mono ?_
 rintro en w1 ⟨rfl,b1⟩
 have B1:=Lib.hid b1
 clear b1 RP
 go_wp2_with fail
 refine (MP.out _ B1.out).mono ?_
 rintro en w2 ⟨rfl,z⟩
 have Bw2:=Lib.hid (B1.out.trans (z.mono B1.out.size))
 clear z
 by_cases t1:TriD l d
 ·have H1:=Lib.hid t1
  clear t1
  go_wp2_with fail
  refine (T1.out _ Bw2.out).mono ?_
  rintro en w3 ⟨⟨xw3,rfl,hxw3⟩,z⟩
  have Bw3:=Lib.hid (Bw2.out.trans (z.mono Bw2.out.size))
  have hyw3:xw3=true:=hxw3.2 H1.out
  clear z hxw3
  subst hyw3
  by_cases t2:TriD l md
  ·have H2:=Lib.hid t2
   clear t2
   go_wp2_with fail
   refine (T2.out _ Bw3.out).mono ?_
   rintro en w4 ⟨⟨xw4,rfl,hxw4⟩,z⟩
   have Bw4:=Lib.hid (Bw3.out.trans (z.mono Bw3.out.size))
   have hyw4:xw4=true:=hxw4.2 H2.out
   clear z hxw4
   subst hyw4
   have hf:f1=f2:=Classical.byContradiction fun c=>HNO.out ⟨H1.out,H2.out,c⟩
   subst hf
   have hf2:((f1:Int) == (f1:Int))=true:=by simp
   go_wp2_with fail
   refine (F1.out _ Bw4.out).mono ?_
   rintro en w5 ⟨rfl,z⟩
   have Bw5:=Lib.hid (Bw4.out.trans (z.mono Bw4.out.size))
   clear z
   go_wp2_with fail
   refine (F2.out _ Bw5.out).mono ?_
   rintro en w6 ⟨rfl,z⟩
   have Bw6:=Lib.hid (Bw5.out.trans (z.mono Bw5.out.size))
   clear z
   go_wp2_with fail
   go_ret2
   exact ⟨rfl,Bw6.out⟩
  ·have H2:=Lib.hid t2
   clear t2
   go_wp2_with fail
   refine (T2.out _ Bw3.out).mono ?_
   rintro en w4 ⟨⟨xw4,rfl,hxw4⟩,z⟩
   have Bw4:=Lib.hid (Bw3.out.trans (z.mono Bw3.out.size))
   have hyw4:xw4=false:=by cases xw4;rfl;exact absurd (hxw4.1 rfl) H2.out
   clear z hxw4
   subst hyw4
   go_wp2_with fail
   go_ret2
   exact ⟨rfl,Bw4.out⟩
 ·have H1:=Lib.hid t1
  clear t1
  go_wp2_with fail
  refine (T1.out _ Bw2.out).mono ?_
  rintro en w3 ⟨⟨xw3,rfl,hxw3⟩,z⟩
  have Bw3:=Lib.hid (Bw2.out.trans (z.mono Bw2.out.size))
  have hyw3:xw3=false:=by cases xw3;rfl;exact absurd (hxw3.1 rfl) H1.out
  clear z hxw3
  subst hyw3
  go_wp2_with fail
  go_ret2
  exact ⟨rfl,Bw3.out⟩
set_option maxHeartbeats 4000000 in
theorem flip_in (g:Nat) (l b:List Nat) (root lone:Int) (d:Nat) (w:World) (h:MapAt w g l b root lone) (hi:Inv l b) (hr:RootOk root l.length) (hd:d < l.length) (hn:l.length≤60000) (hfl:Flips l d) :
  Calls Tryz.prog 51 #[.pointer (some ⟨g,0,none⟩),.int .i64 (d:Int)] w fun en w'=>∃ g',en=.returned (.tuple #[.pointer (some ⟨g',0,none⟩),.int .i64 0])∧MapAt w' g' (flipL l b d) (flipB l b d) root lone∧Below w.heap.size w w':=by
 have hn2:=h.2.1
 have hal:=(Below.refl w.heap.size w).alloc (Nat.le_refl _) (.cells #[.int .i64 (d:Int)] 3)
 have RP:Hid (Calls Tryz.prog 74 #[.pointer (some ⟨g,0,none⟩),.slice (some ⟨w.heap.size,0,none⟩) 1 1] (w.alloc (.cells #[.int .i64 (d:Int)] 3)) fun en w'=>en=.returned (.int .i64 0)∧Below w.heap.size w w'):=by
  have:=gready_p g l b root lone (some ⟨w.heap.size,0,none⟩) 1 1 [(d:Int)] (w.alloc (.cells #[.int .i64 (d:Int)] 3)) (h.below hal) ((Rd.new w 3 #[.int .i64 (d:Int)] 1 (I64 [(d:Int)]) (by simp [I64]) (by simp)).up (by simp)) (by omega)
  rw [rdy_one hd] at this
  exact this.mono fun en w' ⟨q1,q2⟩=>⟨q1,hal.trans (q2.mono (by simp))⟩
 have hev:=h.1.1
 obtain ⟨md,hmd⟩:∃ md,md=mateN d:=⟨_,rfl⟩
 have HMD:Hid (md=mateN d):=hmd
 have hml:md < l.length:=by rw [hmd];exact mateN_in hev hd
 have MP:Hid (∀ W,Below w.heap.size w W→Calls Tryz.prog 80 #[.pointer (some ⟨g,0,none⟩),.int .i64 (d:Int)] W fun e w'=>e=.returned (.int .i64 (md:Int))∧Below W.heap.size W w'):=fun W m=>by rw [hmd];exact mate_in g l b root lone d W (h.below m) hd
 have T1:Hid (∀ W,Below w.heap.size w W→Calls Tryz.prog 85 #[.pointer (some ⟨g,0,none⟩),.int .i64 (d:Int)] W fun en w'=>(∃ x:Bool,en=.returned (.bool x)∧(x=true↔TriD l d))∧Below W.heap.size W w'):=fun W m=>isTri_p g l b root lone d W (h.below m) hd
 have T2:Hid (∀ W,Below w.heap.size w W→Calls Tryz.prog 85 #[.pointer (some ⟨g,0,none⟩),.int .i64 (md:Int)] W fun en w'=>(∃ x:Bool,en=.returned (.bool x)∧(x=true↔TriD l md))∧Below W.heap.size W w'):=fun W m=>isTri_p g l b root lone md W (h.below m) hml
 have F1:Hid (∀ W,Below w.heap.size w W→Calls Tryz.prog 86 #[.pointer (some ⟨g,0,none⟩),.int .i64 (d:Int)] W fun e w'=>e=.returned (.int .i64 ((nameOf (phiL l) d:Nat):Int))∧Below W.heap.size W w'):=fun W m=>face_in g l b root lone d W (h.below m) hd
 have F2:Hid (∀ W,Below w.heap.size w W→Calls Tryz.prog 86 #[.pointer (some ⟨g,0,none⟩),.int .i64 (md:Int)] W fun e w'=>e=.returned (.int .i64 ((nameOf (phiL l) md:Nat):Int))∧Below W.heap.size W w'):=fun W m=>face_in g l b root lone md W (h.below m) hml
 have TP:Hid (∀ W,Below w.heap.size w W→Calls Tryz.prog 75 #[.pointer (some ⟨g,0,none⟩)] W fun en w'=>∃ gx,en=.returned (.pointer (some ⟨gx,0,none⟩))∧TurnsAt w' W.heap.size gx l b∧Below W.heap.size W w'):=fun W m=>turnsOf_p g l b root lone W (h.below m) hi
 have HV:=Lib.hid (flip_inv hi hev hd hfl.1)
 have v1:=fl1_inv hi hd
 have v2:=fl2_inv hi hev hd
 have v3:=fl3_inv hi hev hd
 have hq1:=flp_lt hi hev hd
 have hq2:=flp_lt hi hev hml
 have hpl:=(phi_inv hi hev).lt
 rw [phiL_len] at hpl
 have O1:Hid (∀ W,Below w.heap.size w W→Calls Tryz.prog 87 #[.pointer (some ⟨g,0,none⟩),.int .i64 (d:Int)] W fun e w'=>e=.returned (.int .i64 ((oppN l d:Nat):Int))∧Below W.heap.size W w'):=fun W m=>opp_p g l b root lone d W (h.below m) hd (hpl d hd)
 have O2:Hid (∀ W,Below w.heap.size w W→Calls Tryz.prog 87 #[.pointer (some ⟨g,0,none⟩),.int .i64 (md:Int)] W fun e w'=>e=.returned (.int .i64 ((oppN l md:Nat):Int))∧Below W.heap.size W w'):=fun W m=>opp_p g l b root lone md W (h.below m) hml (hpl md hml)
 have K1:Hid (∀ W,Below w.heap.size w W→Calls Tryz.prog 84 #[.pointer (some ⟨g,0,none⟩),.int .i64 ((oppN l d:Nat):Int)] W fun e w'=>e=.returned (.int .i64 ((flp l b d:Nat):Int))∧Below W.heap.size W w'):=fun W m=>mback_in g l b root lone _ W (h.below m) hq1.2
 have K2:Hid (∀ W,Below w.heap.size w W→Calls Tryz.prog 84 #[.pointer (some ⟨g,0,none⟩),.int .i64 ((oppN l md:Nat):Int)] W fun e w'=>e=.returned (.int .i64 ((flp l b md:Nat):Int))∧Below W.heap.size W w'):=fun W m=>mback_in g l b root lone _ W (h.below m) hq2.2
 have K3:Hid (∀ W base gx,TurnsAt W base gx (l) (b)→base≤W.heap.size→Calls Tryz.prog 81 #[.pointer (some ⟨gx,0,none⟩),.int .i64 (d:Int)] W fun en w'=>en=.returned (.tuple #[])∧TurnsAt w' base gx (fl1 l b d) (fl1B l b d)∧Below base W w'):=fun W base gx ht hb=>by
  have:=gtake_p base gx (l) (b) (d) W ht hi hd (by omega) hb
  exact this
 have K4:Hid (∀ W base gx,TurnsAt W base gx (fl1 l b d) (fl1B l b d)→base≤W.heap.size→Calls Tryz.prog 81 #[.pointer (some ⟨gx,0,none⟩),.int .i64 (md:Int)] W fun en w'=>en=.returned (.tuple #[])∧TurnsAt w' base gx (fl2 l b d) (fl2B l b d)∧Below base W w'):=fun W base gx ht hb=>by
  have:=gtake_p base gx (fl1 l b d) (fl1B l b d) (mateN d) W ht v1.1 (by rw [v1.2,← hmd];exact hml) (by rw [v1.2];omega) hb
  rw [← HMD.out] at this
  unfold fl2 fl2B
  rw [← HMD.out]
  exact this
 have K5:Hid (∀ W base gx,TurnsAt W base gx (fl2 l b d) (fl2B l b d)→base≤W.heap.size→Calls Tryz.prog 77 #[.pointer (some ⟨gx,0,none⟩),.int .i64 (d:Int),.int .i64 ((flp l b d:Nat):Int)] W fun en w'=>en=.returned (.tuple #[])∧TurnsAt w' base gx (fl3 l b d) (fl3B l b d)∧Below base W w'):=fun W base gx ht hb=>by
  have:=gput_p base gx (fl2 l b d) (fl2B l b d) (d) (flp l b d) W ht v2.1 (by rw [v2.2];exact hd) (by rw [v2.2];exact hq1.1) (by rw [v2.2];omega) hb
  exact this
 have K6:Hid (∀ W base gx,TurnsAt W base gx (fl3 l b d) (fl3B l b d)→base≤W.heap.size→Calls Tryz.prog 77 #[.pointer (some ⟨gx,0,none⟩),.int .i64 (md:Int),.int .i64 ((flp l b md:Nat):Int)] W fun en w'=>en=.returned (.tuple #[])∧TurnsAt w' base gx (flipL l b d) (flipB l b d)∧Below base W w'):=fun W base gx ht hb=>by
  have:=gput_p base gx (fl3 l b d) (fl3B l b d) (mateN d) (flp l b (mateN d)) W ht v3.1 (by rw [v3.2,← hmd];exact hml) (by rw [v3.2,← hmd];exact hq2.1) (by rw [v3.2];omega) hb
  rw [← HMD.out] at this
  unfold flipL flipB
  rw [← HMD.out]
  exact this
 have DR:Hid (∀ W base gx,TurnsAt W base gx (flipL l b d) (flipB l b d)→Below w.heap.size w W→Calls Tryz.prog 78 #[.pointer (some ⟨gx,0,none⟩),.pointer (some ⟨g,0,none⟩)] W (NewMap W (flipL l b d) (flipB l b d) root lone)):=fun W base gx ht m=>drawn_p base gx g (flipL l b d) (flipB l b d) l b root lone W ht (h.below m) HV.out.1 (by rw [HV.out.2];omega) (by rw [HV.out.2];omega) (by rw [HV.out.2];exact root_more hr (by omega) (by omega))
 have HF:Hid (TriD l d∧TriD l md∧nameOf (phiL l) d≠nameOf (phiL l) md):=by rw [hmd];exact hfl
 have hfne:=HF.out.2.2
 clear h hal hi hr hn2 hev hmd v1 v2 v3 hml hq1 hq2 hpl hfl
 generalize nameOf (phiL l) d=f1 at *
 generalize nameOf (phiL l) md=f2 at *
 have hf1:decide (f1=f2)=false:=decide_eq_false hfne
 have hf2:((f1:Int) == (f2:Int))=false:=by simp;omega
 generalize oppN l d=o1 at *
 generalize oppN l md=o2 at *
 generalize hp1:flp l b d=p1 at *
 generalize flp l b md=p2 at *
 clear hp1
 go_enter Tryz.func51,Tryz.ntmps51
 go_wp2_with fail
 refine RP.out.mono ?_
 rintro en w1 ⟨rfl,b1⟩
 have B1:=Lib.hid b1
 clear b1 RP
 go_wp2_with fail
 refine (MP.out _ B1.out).mono ?_
 rintro en wa ⟨rfl,z⟩
 have Bwa:=Lib.hid (B1.out.trans (z.mono B1.out.size))
 clear z
 go_wp2_with fail
 refine (T1.out _ Bwa.out).mono ?_
 rintro en wb ⟨⟨xwb,rfl,hxwb⟩,z⟩
 have Bwb:=Lib.hid (Bwa.out.trans (z.mono Bwa.out.size))
 have hywb:xwb=true:=hxwb.2 HF.out.1
 clear z hxwb
 subst hywb
 go_wp2_with fail
 refine (T2.out _ Bwb.out).mono ?_
 rintro en wc ⟨⟨xwc,rfl,hxwc⟩,z⟩
 have Bwc:=Lib.hid (Bwb.out.trans (z.mono Bwb.out.size))
 have hywc:xwc=true:=hxwc.2 HF.out.2.1
 clear z hxwc
 subst hywc
 go_wp2_with fail
 refine (F1.out _ Bwc.out).mono ?_
 rintro en wd ⟨rfl,z⟩
 have Bwd:=Lib.hid (Bwc.out.trans (z.mono Bwc.out.size))
 clear z
 go_wp2_with fail
 refine (F2.out _ Bwd.out).mono ?_
 rintro en we ⟨rfl,z⟩
 have Bwe:=Lib.hid (Bwd.out.trans (z.mono Bwd.out.size))
 clear z
 go_wp2_with fail
 refine (TP.out _ Bwe.out).mono ?_
 rintro en w2 ⟨gx,rfl,t2,b2⟩
 obtain ⟨base,hbase⟩:∃ base,base=we.heap.size:=⟨_,rfl⟩
 rw [← hbase] at t2 b2
 have hw1:w.heap.size≤base:=by rw [hbase];exact Bwe.out.size
 have B2:=Bwe.out.trans (b2.mono hw1)
 have s2:base≤w2.heap.size:=by rw [hbase];exact b2.size
 clear b2 Bwe TP hbase
 go_wp2_with fail
 refine (K3.out _ _ _ t2 s2).mono ?_
 rintro en w3 ⟨rfl,t3,b3⟩
 have B3:=B2.trans (b3.mono hw1)
 have s3:base≤w3.heap.size:=Nat.le_trans s2 b3.size
 clear b3 t2 B2
 go_wp2_with fail
 refine (K4.out _ _ _ t3 s3).mono ?_
 rintro en w4 ⟨rfl,t4,b4⟩
 have B4:=B3.trans (b4.mono hw1)
 have s4:base≤w4.heap.size:=Nat.le_trans s3 b4.size
 clear b4 t3 B3
 go_wp2_with fail
 refine (O1.out _ B4).mono ?_
 rintro en w5 ⟨rfl,z⟩
 have t5:=t4.below z
 have B5:=B4.trans (z.mono B4.size)
 have s5:base≤w5.heap.size:=Nat.le_trans s4 z.size
 clear z t4 B4
 go_wp2_with fail
 refine (K1.out _ B5).mono ?_
 rintro en w6 ⟨rfl,z⟩
 have t6:=t5.below z
 have B6:=B5.trans (z.mono B5.size)
 have s6:base≤w6.heap.size:=Nat.le_trans s5 z.size
 clear z t5 B5
 go_wp2_with fail
 refine (K5.out _ _ _ t6 s6).mono ?_
 rintro en w7 ⟨rfl,t7,b7⟩
 have B7:=B6.trans (b7.mono hw1)
 have s7:base≤w7.heap.size:=Nat.le_trans s6 b7.size
 clear b7 t6 B6
 go_wp2_with fail
 refine (O2.out _ B7).mono ?_
 rintro en w8 ⟨rfl,z⟩
 have t8:=t7.below z
 have B8:=B7.trans (z.mono B7.size)
 have s8:base≤w8.heap.size:=Nat.le_trans s7 z.size
 clear z t7 B7
 go_wp2_with fail
 refine (K2.out _ B8).mono ?_
 rintro en w9 ⟨rfl,z⟩
 have t9:=t8.below z
 have B9:=B8.trans (z.mono B8.size)
 have s9:base≤w9.heap.size:=Nat.le_trans s8 z.size
 clear z t8 B8
 go_wp2_with fail
 refine (K6.out _ _ _ t9 s9).mono ?_
 rintro en w10 ⟨rfl,t10,b10⟩
 have B10:=B9.trans (b10.mono hw1)
 have s10:base≤w10.heap.size:=Nat.le_trans s9 b10.size
 clear b10 t9 B9
 go_wp2_with fail
 refine (DR.out _ _ _ t10 B10).mono ?_
 rintro en w99 ⟨g9,rfl,m9,b9,lo9⟩
 have F:=Lib.hid (And.intro m9 (And.intro (B10.trans (b9.mono B10.size)) lo9))
 clear m9 b9 lo9 t10
 go_wp2_with fail
 go_ret2
 exact ⟨g9,rfl,F.out.1,F.out.2.1⟩
end Go.Proofs.YtdinmjciippchaaGreat
