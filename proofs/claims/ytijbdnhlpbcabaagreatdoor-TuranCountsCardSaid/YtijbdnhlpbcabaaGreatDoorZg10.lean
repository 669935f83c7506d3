/- What a store elsewhere leaves of an index. -/
import Derived.Test.YtijbdnhlpbcabaaGreatDoorZg7
import Derived.Test.YtijbdnhlpbcabaaGreatDoorZg9
import Derived.Test.YtijbdnhlpbcabaaGreatDoorZg8
open Go.RowKit
set_option linter.unusedVariables false
namespace Go.Proofs.YtijbdnhlpbcabaaGreatDoor
theorem blk_ty {w:World} {i:Nat} {T U:TypeId} {cs ds:Array Value} (h:Blk w i T cs) (k:Blk w i U ds):T=U:=by
 unfold Blk at h k
 rw [h] at k
 simp at k
 exact k.2
theorem IdxAt.off {w w':World} {S:Nat→Prop} {g V n q:Nat} {d:Bool} (h:IdxAt w g V n d q) (m:Mod S w w') (hS:∀ i,S i→∃ T cs,Blk w i T cs∧T≠171∧T≠139∧T≠157):IdxAt w' g V n d q:=by
 obtain ⟨h1,h2,A,c,H,h3,h4,h5⟩:=h
 refine ⟨h1,h2,A,c,H,h3.mod m fun hx=>?_,own_mod h4 m fun k hk hx=>?_,?_⟩
 ·obtain ⟨T,cs,hb,e1,_,_⟩:=hS g hx
  exact e1 (blk_ty hb h3)
 ·obtain ⟨T,cs,hb,_,e2,_⟩:=hS k hx
  exact own_ne h4 hb (Ne.symm e2) hk
 ·cases d with
  | false=>exact h5
  | true =>
    obtain ⟨S',c',e,ho⟩:=h5
    exact ⟨S',c',e,own_mod ho m fun k hk hx=>by
     obtain ⟨T,cs,hb,_,_,e3⟩:=hS k hx
     exact own_ne ho hb (Ne.symm e3) hk⟩
theorem own_blk {w:World} {base n:Nat} {e:TypeId} {v:Value} {xs:List Value} (h:w.ownsRow base e 1 v n xs) {k:Nat} (hk:v.ownBlock=some k):∃ cs,Blk w k e cs:=by
 rcases h.2 with ⟨rfl,_⟩ | ⟨g,cap,cur,rfl,_,hg,_⟩
 ·simp [Value.ownBlock] at hk
 ·have:k=g:=by simpa [Value.ownBlock] using hk.symm
  subst this
  exact ⟨cur,hg⟩
set_option maxRecDepth 20000
def exc (V i:Nat):Int:=2*((pop V i:Nat):Int) - (i:Int)
theorem exc_next (V i:Nat):exc V (i+1)=exc V i+(2*((V / 2 ^ i%2:Nat):Int) - 1):=by
 unfold exc
 have h:pop V (i+1)=pop V i+V / 2 ^ i%2:=by
  rw [pop_add]
  congr 1
  simp [pop,numL,List.range_succ]
 omega
theorem exc_Exc (V:Nat):Exc (exc V):=⟨by unfold exc;simp [pop,numL],fun i=>by have:=exc_next V i;omega⟩
def TDir (w:World) (p V n:Nat) (d:Bool) (H:Value):Prop :=
 match d with
 | false=>H=.slice none 0 0
 | true=>∃ S M K T,p < S∧H=.slice (some ⟨S,0,none⟩) M M∧Blk w S 227 (ndArr T M)∧TreeOK (exc V) n K (fun x=>T (x - 1))∧M+1=2*2 ^ K∧Lvs ((n+511) / 512) K
def PAt (w:World) (p g V n:Nat) (d:Bool) (q:Nat):Prop :=
 g < p∧(∃ r k,k≤q∧IdxAt w g V n r k)∧∃ H,Blk w p 192 #[.pointer (some ⟨g,0,none⟩),.int .u32 (b01 d),.int .i32 0,.int .u32 0,H,.int .i64 (b01 d)]∧TDir w p V n d H
theorem TDir.mod {w w':World} {S:Nat→Prop} {p V n:Nat} {d:Bool} {H:Value} (h:TDir w p V n d H) (m:Mod S w w') (hs:∀ i,S i→i≤p):TDir w' p V n d H:=by
 cases d with
 | false=>exact h
 | true =>
   obtain ⟨S',M,K,T,h1,h2,h3,h4⟩:=h
   exact ⟨S',M,K,T,h1,h2,h3.mod m fun hx=>by have:=hs S' hx;omega,h4⟩
theorem PAt.below {w w':World} {p g V n q:Nat} {d:Bool} (h:PAt w p g V n d q) (m:Below w.heap.size w w'):PAt w' p g V n d q:=by
 obtain ⟨h1,⟨r,k,hk,hx⟩,H,hb,ht⟩:=h
 exact ⟨h1,⟨r,k,hk,hx.below m⟩,H,hb.below m,ht.mod (Mod.none_ m (fun _=>False)) fun _ h=>h.elim⟩
theorem PAt.ask {w w':World} {p g V n q k:Nat} {d r:Bool} (h:PAt w p g V n d q) (hx:IdxAt w' g V n r (k+1)) (hk:k≤q) (m:Mod (fun i=>i=g) w w'):PAt w' p g V n d (q+1):=by
 obtain ⟨h1,_,H,hb,ht⟩:=h
 exact ⟨h1,⟨r,k+1,by omega,hx⟩,H,hb.mod m (by omega),ht.mod m fun i hi=>by omega⟩
theorem PAt.le {w:World} {p g V n q q':Nat} {d:Bool} (h:PAt w p g V n d q) (hq:q≤q'):PAt w p g V n d q':=by
 obtain ⟨h1,⟨r,k,hk,hx⟩,h2⟩:=h
 exact ⟨h1,⟨r,k,by omega,hx⟩,h2⟩
theorem PAt.idx {w:World} {p g V n q:Nat} {d:Bool} (h:PAt w p g V n d q):w.cell? ⟨p,0,none⟩=some (.pointer (some ⟨g,0,none⟩)):=by
 obtain ⟨_,_,H,hb,_⟩:=h
 exact hb.cell 0
theorem PAt.lt {w:World} {p g V n q:Nat} {d:Bool} (h:PAt w p g V n d q):p < w.heap.size:=by
 obtain ⟨_,_,H,hb,_⟩:=h
 exact hb.lt
theorem PAt.n9 {w:World} {p g V n q:Nat} {d:Bool} (h:PAt w p g V n d q):n≤1000000:=by
 obtain ⟨_,⟨r,k,hk,hx⟩,_⟩:=h
 exact hx.2.1
def PIx (w:World) (p g V n q:Nat):Prop:=g < p∧(∃ r k,k≤q∧IdxAt w g V n r k)∧w.cell? ⟨p,0,none⟩=some (.pointer (some ⟨g,0,none⟩))
theorem PAt.ix {w:World} {p g V n q:Nat} {d:Bool} (h:PAt w p g V n d q):PIx w p g V n q:=⟨h.1,h.2.1,h.idx⟩
theorem PIx.idx {w:World} {p g V n q:Nat} (h:PIx w p g V n q):w.cell? ⟨p,0,none⟩=some (.pointer (some ⟨g,0,none⟩)):=h.2.2
theorem PIx.n9 {w:World} {p g V n q:Nat} (h:PIx w p g V n q):n≤1000000:=by
 obtain ⟨_,⟨r,k,hk,hx⟩,_⟩:=h
 exact hx.2.1
theorem PIx.below {w w':World} {p g V n q:Nat} (h:PIx w p g V n q) (m:Below w.heap.size w w'):PIx w' p g V n q:=by
 obtain ⟨h1,⟨r,k,hk,hx⟩,h3⟩:=h
 exact ⟨h1,⟨r,k,hk,hx.below m⟩,(m.cell (p:=⟨p,0,none⟩) (World.block_lt_of_cell? _ _ h3)).trans h3⟩
section
variable (p g V n q:Nat) (d:Bool) (w:World)
theorem plen_p (h:PIx w p g V n q):Calls Tryz.prog 145 #[.pointer (some ⟨p,0,none⟩)] w fun e w'=>e=.returned (.int .i64 (n:Int))∧w=w':=by
 have c0:=h.idx
 obtain ⟨_,⟨r,k,hk,hx⟩,_⟩:=h
 have XL:=Lib.hid (xlen_p g V n k r w hx)
 clear hx
 go_enter Tryz.func145,Tryz.ntmps145
 go_wp2_with fail
 refine XL.out.mono ?_
 rintro e w' ⟨rfl,rfl⟩
 go_wp2
 go_ret
 exact ⟨rfl,rfl⟩
theorem popen_in (i:Nat) (h:PIx w p g V n q) (hi:i < n):Calls Tryz.prog 126 #[.pointer (some ⟨p,0,none⟩),.int .i64 (i:Int)] w fun e w'=>e=.returned (.bool (decide (V / 2 ^ i%2=1)))∧w=w':=by
 have c0:=h.idx
 obtain ⟨_,⟨r,k,hk,hx⟩,_⟩:=h
 have XA:=Lib.hid (xat_in g V n k i r w hx hi)
 have hb:V / 2 ^ i%2=0∨V / 2 ^ i%2=1:=by omega
 clear hx
 rcases hb with hb | hb
 ·rw [hb] at XA ⊢
  go_enter Tryz.func126,Tryz.ntmps126
  go_wp2_with fail
  refine XA.out.mono ?_
  rintro e w' ⟨rfl,rfl⟩
  go_wp2
  go_ret
  exact ⟨rfl,rfl⟩
 ·rw [hb] at XA ⊢
  go_enter Tryz.func126,Tryz.ntmps126
  go_wp2_with fail
  refine XA.out.mono ?_
  rintro e w' ⟨rfl,rfl⟩
  go_wp2
  go_ret
  exact ⟨rfl,rfl⟩
theorem change_f (i:Nat) (h:PIx w p g V n q) (hi:i < n):Calls Tryz.prog 146 #[.pointer (some ⟨p,0,none⟩),.int .i64 (i:Int),.int .i64 1] w fun e w'=>e=.returned (.int .i64 (exc V (i+1) - exc V i))∧w=w':=by
 have OP:=Lib.hid (popen_in p g V n q w i h hi)
 have BO:=Lib.hid (bitOn_f w (i:Int))
 have hx:=exc_next V i
 have hb:V / 2 ^ i%2=0∨V / 2 ^ i%2=1:=by omega
 clear h
 rcases hb with hb | hb
 ·rw [hb] at OP hx
  rw [show exc V (i+1) - exc V i=-1 by omega]
  clear hx
  go_enter Tryz.func146,Tryz.ntmps146
  go_wp2_with (first
   | (go_at_call 159;refine BO.out.mono ?_;rintro e w' ⟨rfl,rfl⟩)
   | (go_at_call 126;refine OP.out.mono ?_;rintro e w' ⟨rfl,rfl⟩))
  go_ret
  exact ⟨rfl,rfl⟩
 ·rw [hb] at OP hx
  rw [show exc V (i+1) - exc V i=1 by omega]
  clear hx
  go_enter Tryz.func146,Tryz.ntmps146
  go_wp2_with (first
   | (go_at_call 159;refine BO.out.mono ?_;rintro e w' ⟨rfl,rfl⟩)
   | (go_at_call 126;refine OP.out.mono ?_;rintro e w' ⟨rfl,rfl⟩))
  go_ret
  exact ⟨rfl,rfl⟩
theorem change_b (i:Nat) (h:PIx w p g V n q) (hi:i < n):Calls Tryz.prog 146 #[.pointer (some ⟨p,0,none⟩),.int .i64 ((i:Int)+1),.int .i64 (-1)] w fun e w'=>e=.returned (.int .i64 (exc V i - exc V (i+1)))∧w=w':=by
 have OP:=Lib.hid (popen_in p g V n q w i h hi)
 have hn:=h.n9
 have BO:=Lib.hid (bitOn_b w ((i:Int)+1) (by omega) (by omega))
 rw [show (i:Int)+1 - 1=(i:Int) by omega] at BO
 have hx:=exc_next V i
 have hb:V / 2 ^ i%2=0∨V / 2 ^ i%2=1:=by omega
 clear h
 rcases hb with hb | hb
 ·rw [hb] at OP hx
  rw [show exc V i - exc V (i+1)=1 by omega]
  clear hx
  go_enter Tryz.func146,Tryz.ntmps146
  go_wp2_with (first
   | (go_at_call 159;refine BO.out.mono ?_;rintro e w' ⟨rfl,rfl⟩)
   | (go_at_call 126;refine OP.out.mono ?_;rintro e w' ⟨rfl,rfl⟩))
  go_ret
  exact ⟨rfl,rfl⟩
 ·rw [hb] at OP hx
  rw [show exc V i - exc V (i+1)=-1 by omega]
  clear hx
  go_enter Tryz.func146,Tryz.ntmps146
  go_wp2_with (first
   | (go_at_call 159;refine BO.out.mono ?_;rintro e w' ⟨rfl,rfl⟩)
   | (go_at_call 126;refine OP.out.mono ?_;rintro e w' ⟨rfl,rfl⟩))
  go_ret
  exact ⟨rfl,rfl⟩
theorem pexc_yes (i:Nat) (h:PAt w p g V n d q) (hi:i≤n) (hq:q≤1000000):Calls Tryz.prog 185 #[.pointer (some ⟨p,0,none⟩),.int .i64 (i:Int)] w fun e w'=>e=.returned (.tuple #[.int .i64 (exc V i),.int .i64 0])∧PAt w' p g V n d (q+1)∧Mod (fun i=>i=g) w w':=by
 have c0:=h.idx
 have hn:=h.n9
 have HP:=Lib.hid h
 obtain ⟨_,⟨r,k,hk,hx⟩,_⟩:=h
 have RK:=Lib.hid (rank_yes g V n k i r 1 w hx (by omega) (.inr rfl) hi)
 have hcb:cb 1 V i=pop V i:=by unfold cb;rw [if_neg (by decide)]
 rw [hcb] at RK
 have hle:=pop_le V i
 have HX:Hid (((pop V i:Nat):Int) - ((i:Int) - ((pop V i:Nat):Int))=exc V i):=by show _=_;unfold exc;omega
 clear hx hcb
 generalize pop V i=u at *
 go_enter Tryz.func185,Tryz.ntmps185
 go_wp2_with fail
 refine RK.out.mono ?_
 rintro e w2 ⟨rfl,h2,m2⟩
 have H2:=Lib.hid (HP.out.ask h2 hk m2)
 have M2:=Lib.hid m2
 clear h2 m2 RK
 go_wp2
 go_ret2
 exact ⟨by rw [← HX.out];rfl,H2.out,M2.out⟩
theorem excess_p (i:Nat) (h:PAt w p g V n d q) (hi:i≤n) (hq:q≤1000000):Calls Tryz.prog 174 #[.pointer (some ⟨p,0,none⟩),.int .i64 (i:Int)] w fun e w'=>e=.returned (.int .i64 (exc V i))∧PAt w' p g V n d (q+1)∧Mod (fun i=>i=g) w w':=by
 have PX:=Lib.hid (pexc_yes p g V n q d w i h hi hq)
 clear h
 go_enter Tryz.func174,Tryz.ntmps174
 go_wp2_with fail
 refine PX.out.mono ?_
 rintro e w2 ⟨rfl,h2,m2⟩
 have H2:=Lib.hid h2
 have M2:=Lib.hid m2
 clear h2 m2 PX
 go_wp2
 go_ret
 exact ⟨rfl,H2.out,M2.out⟩
end
end Go.Proofs.YtijbdnhlpbcabaaGreatDoor
namespace Go.Proofs.YtijbdnhlpbcabaaGreatDoor
set_option maxRecDepth 20000
theorem min_two (a b:Nat) (ha:a≤2000000) (hb:b≤2000000):∀ w,(Builtin.min_ #[3,3] 3 #[.int .i64 (a:Int),.int .i64 (b:Int)]).run Tryz.prog w=.ok (.int .i64 ((min a b:Nat):Int)) w:=fun w=>by
 simp [Builtin.min_,Builtin.min2]
 repeat' split
 all_goals omega
theorem mn_bound {E:Nat→Int} (hE:Exc E) {n:Nat} (hn:n≤1000000) (a k:Nat) (h:a+k≤n):-1000000≤mn E a k∧mn E a k≤1000000:=by
 obtain ⟨i,h1,h2,h3⟩:=mn_at E a k
 have:=hE.bound i
 omega
set_option maxHeartbeats 4000000 in
theorem measure_p (p g V n q b:Nat) (w:World) (h:PIx w p g V n q) (hb:512*b < n) :
  Calls Tryz.prog 196 #[.pointer (some ⟨p,0,none⟩),.int .i64 (b:Int)] w fun e w'=>e=.returned (ndv (nd (exc V) n b (b+1)))∧Below w.heap.size w w':=by
 have hn:=h.n9
 have hE:=exc_Exc V
 obtain ⟨L,hL⟩:∃ L,min (512*(b+1)) n=L:=⟨_,rfl⟩
 have hL1:512*b < L:=by omega
 have hL2:L≤n:=by omega
 have PL:=Lib.hid fun w' (b':Below w.heap.size w w')=>plen_p p g V n q w' (h.below b')
 have PC:=Lib.hid fun w' (b':Below w.heap.size w w') i (hi:i < n)=>change_f p g V n q w' i (h.below b') hi
 have HE:=Lib.hid hE
 have HN:Hid (nd (exc V) n b (b+1)=(exc V L - exc V (512*b),mn (exc V) (512*b) (L - 512*b) - exc V (512*b))):=by show _=_;rw [nd_real hb (by omega),hL]
 have MT:=min_two (512*(b+1)) n (by omega) (by omega)
 rw [hL] at MT
 rw [show ((512*(b+1):Nat):Int)=((b:Int)+1)*512 by omega] at MT
 have hx0:=hE.bound (512*b)
 have HINF:=Lib.hid info_node
 have e0:(b:Int)*512=((512*b:Nat):Int):=by omega
 obtain ⟨o,ho⟩:∃ o,512*b=o:=⟨_,rfl⟩
 rw [ho] at HN hL1 hx0 e0
 generalize hx:exc V o=x at *
 have HX:=Lib.hid hx
 have ho9:o≤n:=by omega
 clear h hE hL ho hx hb
 go_enter Tryz.func196,Tryz.ntmps196
 go_wp2_with fail
 have hb5:=Blk.new (w.alloc (.cells #[.int .i32 0,.int .i32 0] 227)) 227 #[.int .i32 0,.int .i32 0]
 rw [World.size_alloc] at hb5
 have HB5:=Lib.hid hb5
 have HB4:Hid (Blk ((w.alloc (.cells #[.int .i32 0,.int .i32 0] 227)).alloc (.cells #[.int .i32 0,.int .i32 0] 227)) w.heap.size 227 #[.int .i32 0,.int .i32 0]):=(Blk.new w _ _).alloc _
 clear hb5
 go_loopw [6] (fun v wr=>∃ (i:Nat) (s l:Int),o≤i∧i≤L∧v=.int .i64 (i:Int)∧-2000000≤s∧s≤2000000∧-2000000≤l∧l≤0∧Hid (s=exc V i - x)∧Hid (l=mn (exc V) o (i - o) - x)∧Hid (Blk wr (w.heap.size+1) 227 #[.int .i32 s,.int .i32 l])∧Hid (Blk wr w.heap.size 227 #[.int .i32 0,.int .i32 0])∧Hid (Below w.heap.size w wr)) (fun v _=>L - (intOf v).toNat)
 case atStart=>exact ⟨o,0,0,by omega,by omega,by first | rfl | exact congrArg (Value.int .i64) e0,by omega,by omega,by omega,by omega,by show _=_;rw [HX.out];omega,by show _=_;rw [Nat.sub_self];show _=exc V o - x;rw [HX.out];omega,HB5.out,HB4.out,((Below.refl _ _).alloc (Nat.le_refl _) _).alloc (by simp) _⟩
 case round =>
  clear HB5 HB4
  obtain ⟨i,s,l,hoi,hiL,rfl,hs1,hs2,hl1,hl2,hs,hl,hblk,hres,hbel⟩:=hrel
  by_cases hlt:i < L
  ·have c0:wr.cell? ⟨w.heap.size+1,0,none⟩=some (.int .i32 s):=hblk.out.cell 0
   have c1:wr.cell? ⟨w.heap.size+1,1,none⟩=some (.int .i32 l):=hblk.out.cell 1
   have f0:=hblk.out.frozen 0
   have f1:=hblk.out.frozen 1
   have hz:w.heap.size+1 < wr.heap.size:=hblk.out.lt
   obtain ⟨y,hy⟩:∃ y,exc V (i+1) - exc V i=y:=⟨_,rfl⟩
   have hy1:-1≤y∧y≤1:=by have:=HE.out.step i;omega
   have C1:=Lib.hid fun w' b'=>PC.out w' b' i (by omega)
   rw [hy] at C1
   have NS:Hid (s+y=exc V (i+1) - x):=by show _=_;have:=hs.out;omega
   have NM:Hid ((if s+y < l then s+y else l)=mn (exc V) o (i+1 - o) - x):=by
    show _=_
    rw [show i+1 - o=(i - o)+1 by omega]
    show _=min (mn (exc V) o (i - o)) (exc V (o+(i - o)+1)) - x
    rw [show o+(i - o)+1=i+1 by omega]
    have:=hl.out
    have:=NS.out
    split <;> omega
   have hb9:=HE.out.bound (i+1)
   have hm9:=mn_bound HE.out hn o (i+1 - o) (by omega)
   have hns:-2000000≤s+y∧s+y≤2000000:=by have:=NS.out;omega
   have hnm:-2000000≤(if s+y < l then s+y else l)∧(if s+y < l then s+y else l)≤0:=by split <;> omega
   have HNM:=Lib.hid hnm
   clear hnm
   clear hy hs hl hb9 hm9
   go_wp2_with (first
    | (go_at_call 145;refine (PL.out _ hbel.out).mono ?_;rintro e w' ⟨rfl,rfl⟩))
   go_region_with (first
    | (go_at_call 146;refine (C1.out _ (below_draws hbel.out 1)).mono ?_;rintro e w9 ⟨rfl,rfl⟩))
   all_goals (
    go_wp2_with fail
    generalize hu:(if s+y < l then s+y else l)=u at *
    have nb:Blk (((wr.drewN 1).setCell ⟨w.heap.size+1,0,none⟩ (.int .i32 (s+y))).setCell ⟨w.heap.size+1,1,none⟩ (.int .i32 u)) (w.heap.size+1) 227 #[.int .i32 (s+y),.int .i32 u]:=by
     have:=((hblk.out.drewN 1).set_ 0 (.int .i32 (s+y))).set_ 1 (.int .i32 u)
     simpa using this
    have nr:Blk (((wr.drewN 1).setCell ⟨w.heap.size+1,0,none⟩ (.int .i32 (s+y))).setCell ⟨w.heap.size+1,1,none⟩ (.int .i32 u)) w.heap.size 227 #[.int .i32 0,.int .i32 0] :=
     (hres.out.drewN 1).mod (S:=fun i=>i=w.heap.size+1) (Mod.setCell (p:=⟨w.heap.size+1,1,none⟩) (Mod.setCell (p:=⟨w.heap.size+1,0,none⟩) (Mod.refl (fun i=>i=w.heap.size+1) (wr.drewN 1)) (fun _=>rfl) _) (fun _=>rfl) _) (by omega)
    have nd':Below w.heap.size w (((wr.drewN 1).setCell ⟨w.heap.size+1,0,none⟩ (.int .i32 (s+y))).setCell ⟨w.heap.size+1,1,none⟩ (.int .i32 u)):=((below_draws hbel.out 1).setCell (by simp) _).setCell (by simp) _
    go_roundw
    case rel=>exact ⟨i+1,s+y,u,by omega,by omega,by go_num,by omega,by omega,HNM.out.1,HNM.out.2,NS.out,NM.out,nb,nr,nd'⟩
    case measure=>simp [intOf];omega)
  ·obtain rfl:i=L:=by omega
   have c0:wr.cell? ⟨w.heap.size+1,0,none⟩=some (.int .i32 s):=hblk.out.cell 0
   have c1:wr.cell? ⟨w.heap.size+1,1,none⟩=some (.int .i32 l):=hblk.out.cell 1
   have r0:wr.cell? ⟨w.heap.size,0,none⟩=some (.int .i32 0):=hres.out.cell 0
   have r1:wr.cell? ⟨w.heap.size,1,none⟩=some (.int .i32 0):=hres.out.cell 1
   have f0:=hres.out.frozen 0
   have f1:=hres.out.frozen 1
   have hz:w.heap.size+1 < wr.heap.size:=hblk.out.lt
   go_wp2_with (first
    | (go_at_call 145;refine (PL.out _ hbel.out).mono ?_;rintro e w' ⟨rfl,rfl⟩))
   have nb:Blk ((wr.setCell ⟨w.heap.size,0,none⟩ (.int .i32 s)).setCell ⟨w.heap.size,1,none⟩ (.int .i32 l)) w.heap.size 227 #[.int .i32 s,.int .i32 l]:=by
    have:=(hres.out.set_ 0 (.int .i32 s)).set_ 1 (.int .i32 l)
    simpa using this
   refine bodyPost_ret (results_cell_row rfl _ _ w.heap.size 227 _ (0,0) _ rfl nb Tryz.underlying227 rfl HINF.out) rfl ?_
   refine ⟨?_,(hbel.out.setCell (Nat.le_refl _) _).setCell (Nat.le_refl _) _⟩
   rw [HN.out]
   show Ending.returned (Value.agg #[.int .i32 s,.int .i32 l])=Ending.returned (Value.agg #[.int .i32 _,.int .i32 _])
   rw [hs.out,hl.out]
set_option maxHeartbeats 4000000 in
theorem pbuild1_p (p g V n pb q:Nat) (x1 x2 x3:Value) (w:World) (hN:Nul w) (hx:PIx w p g V n q)
  (hb:Blk w p 192 #[.pointer (some ⟨g,0,none⟩),x1,x2,x3,.slice none 0 0,.int .i64 0]) (hp:Blk w pb 134 #[.pointer (some ⟨p,0,none⟩)]) :
  Calls Tryz.prog 194 #[.pointer (some ⟨pb,0,none⟩)] w fun e w'=>e=.returned (.tuple #[])∧∃ H,
   Blk w' p 192 #[.pointer (some ⟨g,0,none⟩),x1,x2,x3,H,.int .i64 1]∧TDir w' p V n true H∧Mod (fun i=>i=p) w w':=by
 have hn:=hx.n9
 obtain ⟨B,hB⟩:∃ B,B=(n+511) / 512:=⟨_,rfl⟩
 have hB9:B≤2000:=by omega
 have hgp:pb≠p:=fun e=>by
  subst e
  unfold Blk at hb hp
  rw [hb] at hp
  simp at hp
 have hpl:=hb.lt
 have hbl:=hp.lt
 have p0:w.cell? ⟨pb,0,none⟩=some (.pointer (some ⟨p,0,none⟩)):=hp.cell 0
 have PL:=Lib.hid (plen_p p g V n q w hx)
 have BF:=Lib.hid (blocksFor_p w n (by omega))
 rw [← hB] at BF
 have MS:=Lib.hid fun w' (b':Below w.heap.size w w') b hb=>measure_p p g V n q b w' (hx.below b') hb
 have MK:=run_make_nodes 189 (by kernel_rfl) B (by omega) w
 have hbn:=Blk.new w 227 (ndArr (fun _=>(0,0)) B)
 have HT:=Lib.hid hbn
 have HB:=Lib.hid hb
 have HPB:=Lib.hid hp
 have HBB:=Lib.hid hB
 have HN:=Lib.hid hN
 have HE:=Lib.hid (exc_Exc V)
 clear hN hx hb hp hbn hB
 go_enter Tryz.func194,Tryz.ntmps194
 go_wp2_with (first
  | (go_at_call 145;refine PL.out.mono ?_;rintro e w' ⟨rfl,rfl⟩)
  | (go_at_call 195;refine BF.out.mono ?_;rintro e w' ⟨rfl,rfl⟩))
 obtain ⟨S,hS⟩:∃ S,w.heap.size=S:=⟨_,rfl⟩
 rw [hS] at HT MS ⊢
 go_loopw [9] (fun v wr=>∃ (k:Nat) (U:Nat→Int × Int),k≤B∧v=.int .i64 (k:Int)∧Hid (Blk wr S 227 (ndArr U B))∧Hid (∀ j,j < k→U j=nd (exc V) n j (j+1))∧Hid (Below S w wr)) (fun v _=>B - (intOf v).toNat)
 case atStart=>exact ⟨0,_,by omega,rfl,HT.out,fun j hj=>by omega,(Below.refl _ _).alloc (by omega) _⟩
 case round =>
  clear HT MK
  obtain ⟨k,U,hk,rfl,hblk,hU,hbel⟩:=hrel
  have pw:wr.cell? ⟨pb,0,none⟩=some (.pointer (some ⟨p,0,none⟩)):=(hbel.out.cell (p:=⟨pb,0,none⟩) (by show pb < S;omega)).trans p0
  by_cases hlt:k < B
  ·have M1:=Lib.hid (MS.out wr hbel.out k (by have:=HBB.out;omega))
   clear p0
   go_wp2_with fail
   refine M1.out.mono ?_
   rintro e w2 ⟨rfl,b2⟩
   have hb2:=Lib.hid (hblk.out.below b2)
   have hbe2:Hid (Below S w w2):=hbel.out.trans (b2.mono (by have:=hblk.out.lt;omega))
   have f1:=hb2.out.frozen (k*2)
   have f2:=hb2.out.frozen (k*2+1)
   have d1:w2.cell? ⟨S,k*2,none⟩=some (.int .i32 (U k).1):=by rw [hb2.out.cell];exact (ndArr_get U B k hlt).1
   have d2:w2.cell? ⟨S,k*2+1,none⟩=some (.int .i32 (U k).2):=by rw [hb2.out.cell];exact (ndArr_get U B k hlt).2
   obtain ⟨u,hu⟩:∃ u,nd (exc V) n k (k+1)=u:=⟨_,rfl⟩
   rw [hu]
   have HU:=Lib.hid hu
   clear b2 M1 hu
   obtain ⟨s,l⟩:=u
   unfold ndv
   go_wp2_with fail
   have NB:Hid (Blk ((w2.setCell ⟨S,k*2,none⟩ (.int .i32 s)).setCell ⟨S,k*2+1,none⟩ (.int .i32 l)) S 227 (ndArr (upd U k (s,l)) B)):=by
    have h1:=(hb2.out.set_ (k*2) (.int .i32 s)).set_ (k*2+1) (.int .i32 l)
    have h2:=ndArr_set U B k (s,l) hlt
    exact h2 ▸ h1
   have NU:Hid (∀ j,j < k+1→upd U k (s,l) j=nd (exc V) n j (j+1)):=fun j hj=>by
    unfold upd
    by_cases e:j=k
    ·rw [if_pos e,e,HU.out]
    ·rw [if_neg e];exact hU.out j (by omega)
   have ND:Hid (Below S w ((w2.setCell ⟨S,k*2,none⟩ (.int .i32 s)).setCell ⟨S,k*2+1,none⟩ (.int .i32 l))):=(hbe2.out.setCell (Nat.le_refl _) _).setCell (Nat.le_refl _) _
   clear f1 f2 d1 d2
   go_roundw
   case rel=>exact ⟨k+1,_,by omega,by go_num,NB.out,NU.out,ND.out⟩
   case measure=>simp [intOf];omega
  ·obtain rfl:k=B:=by omega
   have TO:=Lib.hid fun w' (b':Below wr.heap.size wr w')=>treeOf_p (exc V) HE.out S k k n w' (HN.out.below (by have:=HN.out.lt;show 1 < S;omega) (hbel.out.trans (b'.mono (by have:=hblk.out.lt;omega)))) hn HBB.out
    (by have:=hblk.out.below b';rw [ndArr_congr hU.out] at this;exact this)
   have HBW:Hid (Blk wr p 192 #[.pointer (some ⟨g,0,none⟩),x1,x2,x3,.slice none 0 0,.int .i64 0]):=HB.out.mod (Mod.ofBelow hbel.out) (by omega)
   have hpw:pb < wr.heap.size:=by have:=hblk.out.lt;omega
   have hppw:p < wr.heap.size:=by have:=hblk.out.lt;omega
   have hSw:S < wr.heap.size:=hblk.out.lt
   clear p0
   go_wp2_with fail
   go_region_with (first
    | (go_at_call 197
       refine (TO.out _ (Below.refl _ _).drew).mono ?_
       rintro e w3 ⟨t,K,M,T,rfl,hM,hlv,htl,hbt,hok,bt⟩
       have p3:w3.cell? ⟨pb,0,none⟩=some (.pointer (some ⟨p,0,none⟩)):=(bt.cell (p:=⟨pb,0,none⟩) hpw).trans pw
       have hb3:Blk w3 p 192 #[.pointer (some ⟨g,0,none⟩),x1,x2,x3,.slice none 0 0,.int .i64 0]:=(HBW.out.drewN 1).below bt
       have q4:w3.cell? ⟨p,4,none⟩=some (.slice none 0 0):=hb3.cell 4
       have f4:=hb3.frozen 4
       have HB3:=Lib.hid hb3
       have HTR:Hid (M+1=2*2 ^ K∧Lvs k K∧wr.heap.size≤t∧Blk w3 t 227 (ndArr T M)∧TreeOK (exc V) n K (fun x=>T (x - 1))∧Below wr.heap.size wr w3):=⟨hM,hlv,htl,hbt,hok,(Below.refl _ _).drew.trans bt⟩
       clear hM hlv htl hbt hok bt hb3))
   all_goals (
    have HB4:Hid (Blk (w3.setCell ⟨p,4,none⟩ (.slice (some ⟨t,0,none⟩) M M)) p 192 #[.pointer (some ⟨g,0,none⟩),x1,x2,x3,.slice (some ⟨t,0,none⟩) M M,.int .i64 0]):=by
     have:=HB3.out.set_ 4 (.slice (some ⟨t,0,none⟩) M M)
     show Blk _ _ _ _
     simpa using this
    have d5:(w3.setCell ⟨p,4,none⟩ (.slice (some ⟨t,0,none⟩) M M)).cell? ⟨p,5,none⟩=some (.int .i64 0):=HB4.out.cell 5
    have g5:=HB4.out.frozen 5
    have AD:=Lib.hid (add64 ⟨p,5,none⟩ 0 _ d5 g5 (by omega) (by omega))
    go_wp2_with fail
    refine AD.out.mono ?_
    rintro e w9 ⟨rfl,rfl⟩
    go_wp2_with fail
    have m4:Mod (fun i=>i=p) w3 ((w3.setCell ⟨p,4,none⟩ (.slice (some ⟨t,0,none⟩) M M)).setCell ⟨p,5,none⟩ (.int .i64 (0+1))):=Mod.setCell (p:=⟨p,5,none⟩) (Mod.setCell (p:=⟨p,4,none⟩) (Mod.refl (fun i=>i=p) w3) (fun _=>rfl) _) (fun _=>rfl) _
    obtain ⟨hM,hlv,htl,hbt,hok,bt⟩:=HTR.out
    have m3:Mod (fun i=>i=p) w w3:=(Mod.ofBelow (hbel.out.trans (bt.mono (by omega)))).mono fun i hi h=>by omega
    refine bodyPost_end (results_none rfl _ _ _) rfl ⟨rfl,.slice (some ⟨t,0,none⟩) M M,?_,⟨t,M,K,T,by omega,rfl,hbt.mod m4 (by omega),hok,hM,by rw [← HBB.out];exact hlv⟩,m3.trans m4 fun _ _ h=>h⟩
    have:=HB4.out.set_ 5 (.int .i64 (0+1))
    simpa using this)
set_option maxRecDepth 100000
theorem idx_off {w w':World} {p g V n k:Nat} {r:Bool} {cs:Array Value} (h:IdxAt w g V n r k) (hb:Blk w p 192 cs) (m:Mod (fun i=>i=p) w w'):IdxAt w' g V n r k :=
 h.off m fun i hi=>by subst hi;exact ⟨_,_,hb,by decide,by decide,by decide⟩
set_option maxHeartbeats 1600000 in
theorem pslow_p (p g V n pb q:Nat) (w:World) (hN:Nul w) (h:PAt w p g V n false q) (hp:Blk w pb 134 #[.pointer (some ⟨p,0,none⟩)]) (hpn:p≠1) :
  Calls Tryz.prog 183 #[.pointer (some ⟨p,1,none⟩),.func (.func 194) #[] #[.pointer (some ⟨pb,0,none⟩)]] w fun e w'=>e=.returned (.tuple #[])∧PAt w' p g V n true q∧Mod (fun i=>i=p) w w':=by
 have hix:=h.ix
 obtain ⟨hgp',⟨r,k,hk,hx⟩,H,hb,hd⟩:=h
 have hH:H=.slice none 0 0:=hd
 subst hH
 have hgp:pb≠p:=fun e=>by
  subst e
  unfold Blk at hb hp
  rw [hb] at hp
  simp at hp
 have c3:w.cell? ⟨p,1,none⟩=some (.int .u32 0):=hb.cell 1
 have c4:w.cell? ⟨p,2,none⟩=some (.int .i32 0):=hb.cell 2
 have f4:=hb.frozen 2
 have LK:=Lib.hid (lock_free ⟨p,2,none⟩ w c4 f4)
 have hb1:Blk (w.setCell ⟨p,2,none⟩ (.int .i32 1)) p 192 #[.pointer (some ⟨g,0,none⟩),.int .u32 0,.int .i32 1,.int .u32 0,.slice none 0 0,.int .i64 0]:=by
  have:=hb.set_ 2 (.int .i32 1)
  simpa [b01] using this
 have m1:Mod (fun i=>i=p) w (w.setCell ⟨p,2,none⟩ (.int .i32 1)):=Mod.setCell (p:=⟨p,2,none⟩) (Mod.refl (fun i=>i=p) w) (fun _=>rfl) _
 have hx1:PIx (w.setCell ⟨p,2,none⟩ (.int .i32 1)) p g V n q:=⟨hgp',⟨r,k,hk,idx_off hx hb m1⟩,hb1.cell 0⟩
 have hN1:Nul (w.setCell ⟨p,2,none⟩ (.int .i32 1)):=hN.mod m1 (Ne.symm hpn)
 have BD:=Lib.hid (pbuild1_p p g V n pb q (.int .u32 0) (.int .i32 1) (.int .u32 0) _ hN1 hx1 hb1 (hp.mod m1 hgp))
 have d3:(w.setCell ⟨p,2,none⟩ (.int .i32 1)).cell? ⟨p,1,none⟩=some (.int .u32 0):=hb1.cell 1
 have hl:=run_call_load (P:=Tryz.prog) Tryz.func190 (by kernel_rfl) (by kernel_rfl) (by kernel_rfl) .u32 (by kernel_rfl) d3
 have hnot:∀ (x:Bool) (w:World),(Op.unary .not (.bool x)).run Tryz.prog w=.ok (.bool (!x)) w:=fun _ _=>rfl
 have HX:=Lib.hid hx
 have HB:=Lib.hid hb
 have HM1:=Lib.hid m1
 clear hb hp hb1 m1 hx1 hix hN1 hN hd hx c4 f4
 generalize w.setCell ⟨p,2,none⟩ (.int .i32 1)=w1 at *
 go_enter_defers Tryz.func183,Tryz.ntmps183
 go_wp2_with fail
 refine LK.out.mono ?_
 rintro e w' ⟨rfl,rfl⟩
 go_wp2_with (first | (go_at_call 182;go_in))
 refine BD.out.mono ?_
 rintro e w2 ⟨rfl,H2,hb2,ht2,m2⟩
 have FIN:Hid (PAt ((w2.drew.setCell ⟨p,1,none⟩ (.int .u32 1)).setCell ⟨p,2,none⟩ (.int .i32 0)) p g V n true q∧Mod (fun i=>i=p) w ((w2.drew.setCell ⟨p,1,none⟩ (.int .u32 1)).setCell ⟨p,2,none⟩ (.int .i32 0))):=by
  have m3:Mod (fun i=>i=p) w2 ((w2.drew.setCell ⟨p,1,none⟩ (.int .u32 1)).setCell ⟨p,2,none⟩ (.int .i32 0)):=Mod.setCell (p:=⟨p,2,none⟩) (Mod.setCell (p:=⟨p,1,none⟩) (Mod.drew (Mod.refl (fun i=>i=p) w2)) (fun _=>rfl) _) (fun _=>rfl) _
  have hm:Mod (fun i=>i=p) w ((w2.drew.setCell ⟨p,1,none⟩ (.int .u32 1)).setCell ⟨p,2,none⟩ (.int .i32 0)):=(HM1.out.trans m2 fun _ _ h=>h).trans m3 fun _ _ h=>h
  refine ⟨⟨hgp',⟨r,k,hk,idx_off HX.out HB.out hm⟩,H2,?_,ht2.mod m3 fun i hi=>by omega⟩,hm⟩
  have:=((hb2.below (Below.refl _ _).drew).set_ 1 (.int .u32 1)).set_ 2 (.int .i32 0)
  simpa [b01] using this
 have e3:w2.cell? ⟨p,1,none⟩=some (.int .u32 0):=hb2.cell 1
 have e4:w2.cell? ⟨p,2,none⟩=some (.int .i32 1):=hb2.cell 2
 have g3:=hb2.frozen 1
 have g4:=hb2.frozen 2
 have HB2:=Lib.hid hb2
 clear hb2 ht2 m2 d3 hl
 go_wp2_with fail
 refine leaves_cons (f:=193) (args:=#[.pointer (some ⟨p,1,none⟩),.bool true]) (by simp) (by simp [go_sem]) ?_
 refine (store_deferred ⟨p,1,none⟩ (.int .u32 0) .returning _ e3 g3).mono ?_
 rintro e u' w'' ⟨rfl,rfl,rfl⟩
 refine leaves_cons (f:=192) (args:=#[.pointer (some ⟨p,2,none⟩)]) (by simp [settle]) (by simp [go_sem]) ?_
 refine (unlock_deferred ⟨p,2,none⟩ _ _ ?_ ?_).mono ?_
 ·exact (World.cell?_setCell_other _ ⟨p,1,none⟩ ⟨p,2,none⟩ _ (by simp)).trans e4
 ·exact ((HB2.out.below (Below.refl _ _).drew).set_ 1 (.int .u32 1)).frozen 2
 rintro e u' w'' ⟨rfl,rfl,rfl⟩
 have F:=FIN.out
 simp [Leaves,settle,results,Tryz.results183]
 exact F
set_option maxHeartbeats 1600000 in
theorem pdo_first (p g V n pb q:Nat) (w:World) (hN:Nul w) (h:PAt w p g V n false q) (hp:Blk w pb 134 #[.pointer (some ⟨p,0,none⟩)]) (hpn:p≠1) :
  Calls Tryz.prog 170 #[.pointer (some ⟨p,1,none⟩),.func (.func 194) #[] #[.pointer (some ⟨pb,0,none⟩)]] w fun e w'=>e=.returned (.tuple #[])∧PAt w' p g V n true q∧Mod (fun i=>i=p) w w':=by
 have SL:=Lib.hid (pslow_p p g V n pb q w hN h hp hpn)
 obtain ⟨_,_,H,hb,hd⟩:=h
 have c3:w.cell? ⟨p,1,none⟩=some (.int .u32 0):=hb.cell 1
 have hl:=run_call_load (P:=Tryz.prog) Tryz.func190 (by kernel_rfl) (by kernel_rfl) (by kernel_rfl) .u32 (by kernel_rfl) c3
 have hnot:∀ (x:Bool) (w:World),(Op.unary .not (.bool x)).run Tryz.prog w=.ok (.bool (!x)) w:=fun _ _=>rfl
 clear hb hd hp hN
 go_enter Tryz.func170,Tryz.ntmps170
 go_wp2_with (first | (go_at_call 182;go_in))
 refine SL.out.mono ?_
 rintro e w2 ⟨rfl,h2⟩
 have H2:=Lib.hid h2
 clear h2
 go_wp2_with fail
 exact bodyPost_end (results_none rfl _ _ _) rfl ⟨rfl,H2.out⟩
theorem pbuild_p (p g V n q:Nat) (d:Bool) (w:World) (hN:Nul w) (h:PAt w p g V n d q) (hpn:p≠1) :
  Calls Tryz.prog 184 #[.pointer (some ⟨p,0,none⟩)] w fun e w'=>e=.returned (.tuple #[])∧PAt w' p g V n true q∧Mod (fun i=>i=p) w w':=by
 have hmf:∀ (fn:Fn) (first cap:Array Value) (w:World),(Instr.makeFunc fn first cap).run Tryz.prog w=.ok (.func fn first cap) w:=fun _ _ _ _=>rfl
 have hbx:=(Below.refl w.heap.size w).alloc (Nat.le_refl _) (.cells #[.pointer (some ⟨p,0,none⟩)] 134)
 have h1:=h.below hbx
 have n1:=hN.bel hbx
 have m0:Mod (fun i=>i=p) w (w.alloc (.cells #[.pointer (some ⟨p,0,none⟩)] 134)):=Mod.alloc (Mod.refl _ w) _
 have hgl:=h.lt
 cases d with
 | false =>
   have DF:=Lib.hid (pdo_first p g V n w.heap.size q _ n1 h1 (Blk.new w _ _) hpn)
   have M0:=Lib.hid m0
   clear h h1 hbx m0 hN n1
   go_enter Tryz.func184,Tryz.ntmps184
   go_wp2_with fail
   refine DF.out.mono ?_
   rintro e w2 ⟨rfl,h2,m2⟩
   have H2:=Lib.hid h2
   have M2:Hid (Mod (fun i=>i=p) w w2):=M0.out.trans m2 fun _ _ h=>h
   clear h2 m2
   go_wp2_with fail
   exact bodyPost_end (results_none rfl _ _ _) rfl ⟨rfl,H2.out,M2.out⟩
 | true =>
   have c3:(w.alloc (.cells #[.pointer (some ⟨p,0,none⟩)] 134)).cell? ⟨p,1,none⟩=some (.int .u32 1):=by
    obtain ⟨_,_,H,hb,_⟩:=h1
    exact hb.cell 1
   have DD:=Lib.hid (fun fv=>do_done ⟨p,1,none⟩ fv _ c3)
   have M0:=Lib.hid m0
   have H1:=Lib.hid h1
   clear h h1 hbx m0 c3 hN n1
   go_enter Tryz.func184,Tryz.ntmps184
   go_wp2_with fail
   refine (DD.out _).mono ?_
   rintro e w2 ⟨rfl,rfl⟩
   go_wp2_with fail
   exact bodyPost_end (results_none rfl _ _ _) rfl ⟨rfl,H1.out,M0.out⟩
theorem ready_ok (p g V n q:Nat) (d:Bool) (a b l:Int) (w:World) (hN:Nul w) (h:PAt w p g V n d q) (hpn:p≠1) (h1:0≤a) (h2:a≤b) (h3:b≤l) :
  Calls Tryz.prog 173 #[.pointer (some ⟨p,0,none⟩),.int .i64 a,.int .i64 b,.int .i64 l] w fun e w'=>e=.returned (.int .i64 0)∧PAt w' p g V n true q∧Mod (fun i=>i=p) w w':=by
 have BP:=Lib.hid (pbuild_p p g V n q d w hN h hpn)
 have d1:decide (a < 0)=false:=decide_eq_false (by omega)
 have d2:decide (b < a)=false:=decide_eq_false (by omega)
 have d3:decide (l < b)=false:=decide_eq_false (by omega)
 clear h hN
 go_enter Tryz.func173,Tryz.ntmps173
 go_wp2_with fail
 refine BP.out.mono ?_
 rintro e w2 ⟨rfl,h2,m2⟩
 have H2:=Lib.hid h2
 have M2:=Lib.hid m2
 clear h2 m2 BP
 go_wp2_with fail
 go_ret
 exact ⟨rfl,H2.out,M2.out⟩
def ScanF (w:World) (p g V n q:Nat) (d:Bool) (i:Nat) (m:Int) (e:Ending) (w':World):Prop :=
 PAt w' p g V n d (q+1)∧Mod (fun i=>i=g) w w'∧∃ j:Nat,
  (e=.returned (.tuple #[.int .i64 (j:Int),.bool true])∧Fwd (exc V) i n m j) ∨
  (e=.returned (.tuple #[.int .i64 (j:Int),.bool false])∧j=512*(i / 512+1)∧j < n∧∀ k,i < k→k≤j→m < exc V k)
def ScanB (w:World) (p g V n q:Nat) (d:Bool) (a:Nat) (m:Int) (e:Ending) (w':World):Prop :=
 PAt w' p g V n d (q+1)∧Mod (fun i=>i=g) w w'∧∃ j:Nat,
  (e=.returned (.tuple #[.int .i64 (j:Int),.bool true])∧Bwd (exc V) a m j) ∨
  (e=.returned (.tuple #[.int .i64 (j:Int),.bool false])∧j=512*((a - 1) / 512)∧0 < j∧∀ k,j≤k→k < a→m < exc V k)
section
variable (p g V n q:Nat) (d:Bool) (w:World)
set_option maxHeartbeats 4000000 in
theorem scan_f (i:Nat) (m:Int) (h:PAt w p g V n d q) (hB:Bal (exc V) n) (hi:i < n) (hm:0≤m) (hq:q≤1000000) :
  Calls Tryz.prog 186 #[.pointer (some ⟨p,0,none⟩),.int .i64 (i:Int),.int .i64 1,.int .i64 m] w (ScanF w p g V n q d i m):=by
 have hn:=h.n9
 have EX:=Lib.hid (excess_p p g V n q d w i h (by omega) hq)
 have HB:=Lib.hid hB
 have HE:=Lib.hid (exc_Exc V)
 have BO:=Lib.hid fun w' (j:Nat)=>bitOn_f w' (j:Int)
 obtain ⟨b,hb,hb2⟩:∃ b:Nat,(i:Int) / 512=(b:Int)∧b=i / 512:=⟨i / 512,by omega,rfl⟩
 have HB2:=Lib.hid hb2
 have hbi:512*b≤i∧i < 512*(b+1):=by omega
 clear h hB hb2
 go_enter Tryz.func186,Tryz.ntmps186
 go_wp2_with (go_at_call 159;refine (BO.out _ _).mono ?_;rintro e w' ⟨rfl,rfl⟩)
 refine EX.out.mono ?_
 rintro e w2 ⟨rfl,h2,m2⟩
 have H2:=Lib.hid h2
 have M2:=Lib.hid m2
 have hbd:=HE.out.bound i
 obtain ⟨y0,hy0⟩:∃ y0,exc V i=y0:=⟨_,rfl⟩
 rw [hy0] at hbd ⊢
 have HY0:=Lib.hid hy0
 clear h2 m2 EX hy0
 go_wp2_with fail
 have HBQ:=Lib.hid hb
 clear hb
 go_loop [1,11] (fun v z=>∃ (j:Nat) (y:Int),v=.int .i64 (j:Int)∧z=.int .i64 y∧i≤j∧j < n∧j≤512*(b+1)∧-1000000≤y∧y≤1000000∧Hid (exc V j=y)∧Hid (∀ k,i < k→k≤j→m < exc V k)) (fun v _=>n - (intOf v).toNat)
 case atStart=>exact ⟨i,y0,rfl,rfl,by omega,by omega,by omega,by omega,by omega,HY0.out,fun k h1 h2=>by omega⟩
 case round =>
  clear hbd HY0
  obtain ⟨j,y,rfl,rfl,hij,hjn,hjb,hy1,hy2,hy,hab⟩:=hrel
  by_cases hin:j < 512*(b+1)
  ·have e1:(j:Int) / 512=(b:Int):=by omega
   have CH:=Lib.hid (change_f p g V n (q+1) w2 j H2.out.ix hjn)
   obtain ⟨s,hs⟩:∃ s,exc V (j+1) - exc V j=s:=⟨_,rfl⟩
   rw [hs] at CH
   have hst:=HE.out.step j
   have hs1:-1≤s∧s≤1:=by omega
   have HS:Hid (exc V (j+1)=y+s):=by show _=_;have:=hy.out;omega
   have hbd:=HE.out.bound (j+1)
   rw [HS.out] at hbd
   clear hs hst
   by_cases hle:y+s≤m
   ·have FW:Hid (Fwd (exc V) i n m (j+1)):=⟨by omega,by omega,by rw [HS.out];exact hle,fun k h1 h2=>hab.out k h1 (by omega)⟩
    go_wp2_with (first
     | (go_at_call 159;refine (BO.out _ _).mono ?_;rintro e w' ⟨rfl,rfl⟩)
     | (go_at_call 146;refine CH.out.mono ?_;rintro e w' ⟨rfl,rfl⟩))
    go_ret2
    exact ⟨H2.out,M2.out,j+1,.inl ⟨by rfl,FW.out⟩⟩
   ·have HAB:Hid (∀ k,i < k→k≤j+1→m < exc V k):=fun k h1 h2=>by
     by_cases e:k=j+1
     ·rw [e,HS.out];omega
     ·exact hab.out k h1 (by omega)
    have hjn2:j+1 < n:=by
     rcases Nat.lt_or_ge (j+1) n with g | g
     ·exact g
     ·exfalso
      have e:j+1=n:=by omega
      have h0:=HB.out.2
      rw [← e,HS.out] at h0
      omega
    have hdec:decide (y+s≤m)=false:=decide_eq_false hle
    clear hle
    go_wp2_with (first
     | (go_at_call 159;refine (BO.out _ _).mono ?_;rintro e w' ⟨rfl,rfl⟩)
     | (go_at_call 146;refine CH.out.mono ?_;rintro e w' ⟨rfl,rfl⟩))
    go_round
    case rel=>exact ⟨j+1,y+s,by go_num,rfl,by omega,by omega,by omega,by omega,by omega,HS.out,HAB.out⟩
    case measure=>simp [intOf];omega
  ·have hjj:j=512*(b+1):=by omega
   have e1:(j:Int) / 512=(b:Int)+1:=by omega
   have e2:((b:Int)+1 == (b:Int))=false:=by rw [beq_eq_false_iff_ne];omega
   have HJJ:=Lib.hid hjj
   clear hjj hin
   go_wp2_with (go_at_call 159;refine (BO.out _ _).mono ?_;rintro e w' ⟨rfl,rfl⟩)
   go_ret2
   exact ⟨H2.out,M2.out,j,.inr ⟨by rfl,by rw [← HB2.out,HJJ.out],by omega,hab.out⟩⟩
set_option maxHeartbeats 4000000 in
theorem scan_b (a:Nat) (m:Int) (h:PAt w p g V n d q) (ha:0 < a) (han:a≤n) (hm:0≤m) (hq:q≤1000000) :
  Calls Tryz.prog 186 #[.pointer (some ⟨p,0,none⟩),.int .i64 (a:Int),.int .i64 (-1),.int .i64 m] w (ScanB w p g V n q d a m):=by
 have hn:=h.n9
 have EX:=Lib.hid (excess_p p g V n q d w a h (by omega) hq)
 have HE:=Lib.hid (exc_Exc V)
 obtain ⟨i,rfl⟩:∃ i,a=i+1:=⟨a - 1,by omega⟩
 have BO:=Lib.hid fun w' (j:Nat) (hj:j≤1000000)=>bitOn_b w' ((j:Int)+1) (by omega) (by omega)
 obtain ⟨b,hb,hb2⟩:∃ b:Nat,(i:Int) / 512=(b:Int)∧b=i / 512:=⟨i / 512,by omega,rfl⟩
 have HB2:=Lib.hid hb2
 have hbi:512*b≤i∧i < 512*(b+1):=by omega
 have ei:∀ j:Nat,(j:Int)+1 - 1=(j:Int):=fun j=>by omega
 rw [show ((i+1:Nat):Int)=(i:Int)+1 by omega] at EX ⊢
 have B1:=Lib.hid fun w'=>BO.out w' i (by omega)
 rw [ei] at B1
 clear h hb2 ei
 go_enter Tryz.func186,Tryz.ntmps186
 go_wp2_with (go_at_call 159;refine (B1.out _).mono ?_;rintro e w' ⟨rfl,rfl⟩)
 refine EX.out.mono ?_
 rintro e w2 ⟨rfl,h2,m2⟩
 have H2:=Lib.hid h2
 have M2:=Lib.hid m2
 have hbd:=HE.out.bound (i+1)
 obtain ⟨y0,hy0⟩:∃ y0,exc V (i+1)=y0:=⟨_,rfl⟩
 rw [hy0] at hbd ⊢
 have HY0:=Lib.hid hy0
 clear h2 m2 EX hy0
 go_wp2_with fail
 have HBQ:=Lib.hid hb
 clear hb
 go_loop [1,11] (fun v z=>∃ (j:Nat) (y:Int),v=.int .i64 ((j:Int)+1)∧z=.int .i64 y∧j≤i∧512*b≤j+1∧-1000000≤y∧y≤1000000∧Hid (exc V (j+1)=y)∧Hid (∀ k,j+1≤k→k < i+1→m < exc V k)) (fun v _=>(intOf v).toNat)
 case atStart=>exact ⟨i,y0,rfl,rfl,by omega,by omega,by omega,by omega,HY0.out,fun k h1 h2=>by omega⟩
 case round =>
  clear hbd HY0 B1
  obtain ⟨j,y,rfl,rfl,hij,hjb,hy1,hy2,hy,hab⟩:=hrel
  have B2:=Lib.hid fun w'=>BO.out w' j (by omega)
  rw [show (j:Int)+1 - 1=(j:Int) by omega] at B2
  by_cases hin:512*b≤j
  ·have e1:(j:Int) / 512=(b:Int):=by omega
   have CH:=Lib.hid (change_b p g V n (q+1) w2 j H2.out.ix (by omega))
   obtain ⟨s,hs⟩:∃ s,exc V j - exc V (j+1)=s:=⟨_,rfl⟩
   rw [hs] at CH
   have hst:=HE.out.step j
   have hs1:-1≤s∧s≤1:=by omega
   have HS:Hid (exc V j=y+s):=by show _=_;have:=hy.out;omega
   have hbd:=HE.out.bound j
   rw [HS.out] at hbd
   have ej:(j:Int)+1+-1=(j:Int):=by omega
   clear hs hst
   by_cases hle:y+s≤m
   ·have FW:Hid (Bwd (exc V) (i+1) m j):=⟨by omega,by rw [HS.out];exact hle,fun k h1 h2=>hab.out k (by omega) h2⟩
    go_wp2_with (first
     | (go_at_call 159;refine (B2.out _).mono ?_;rintro e w' ⟨rfl,rfl⟩)
     | (go_at_call 146;refine CH.out.mono ?_;rintro e w' ⟨rfl,rfl⟩))
    go_ret2
    exact ⟨H2.out,M2.out,j,.inl ⟨by rfl,FW.out⟩⟩
   ·have HAB:Hid (∀ k,j≤k→k < i+1→m < exc V k):=fun k h1 h2=>by
     by_cases e:k=j
     ·rw [e,HS.out];omega
     ·exact hab.out k (by omega) h2
    have hj0:0 < j:=by
     rcases Nat.eq_zero_or_pos j with g | g
     ·exfalso
      have h0:=HE.out.zero
      rw [← g,HS.out] at h0
      omega
     ·exact g
    obtain ⟨j',rfl⟩:∃ j',j=j'+1:=⟨j - 1,by omega⟩
    have hdec:decide (y+s≤m)=false:=decide_eq_false hle
    clear hle
    go_wp2_with (first
     | (go_at_call 159;refine (B2.out _).mono ?_;rintro e w' ⟨rfl,rfl⟩)
     | (go_at_call 146;refine CH.out.mono ?_;rintro e w' ⟨rfl,rfl⟩))
    go_round
    case rel=>exact ⟨j',y+s,congrArg (Value.int .i64) (by omega),rfl,by omega,by omega,by omega,by omega,HS.out,HAB.out⟩
    case measure=>simp [intOf];omega
  ·have hj1:j+1=512*b:=by omega
   obtain ⟨b',rfl⟩:∃ b',b=b'+1:=⟨b - 1,by omega⟩
   have e1:(j:Int) / 512=(b':Int):=by omega
   have e2:((b':Int) == (b':Int)+1)=false:=by rw [beq_eq_false_iff_ne];omega
   have HJ1:=Lib.hid hj1
   clear hj1
   go_wp2_with (go_at_call 159;refine (B2.out _).mono ?_;rintro e w' ⟨rfl,rfl⟩)
   go_ret2
   exact ⟨H2.out,M2.out,j+1,.inr ⟨by rfl,by rw [HJ1.out,HB2.out];rfl,by omega,hab.out⟩⟩
end
end Go.Proofs.YtijbdnhlpbcabaaGreatDoor
