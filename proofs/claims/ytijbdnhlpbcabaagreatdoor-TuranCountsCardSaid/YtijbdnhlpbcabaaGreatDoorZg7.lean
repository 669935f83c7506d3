/- Read, and what a reader answers. -/
import Derived.Test.YtijbdnhlpbcabaaGreatDoorZg6
import Derived.Deep.RegionWith
import Derived.Deep.RegionLaw
import Derived.Test.YtijbdnhlpbcabaaGreatDoorZg5
import Derived.Laws.BitsAllLaws
import Derived.Laws.Bits128
import Derived.Laws.LoneSync
import Derived.Laws.Pointers
import Derived.Defers
import Derived.RegionCalls
import Derived.ChangeAlike
import Derived.Deep.AppendLies
import Derived.Deep.DeepCutAuto
open Go.RowKit
set_option linter.unusedVariables false
namespace Go.Proofs.YtijbdnhlpbcabaaGreatDoor
def ReadAt (w:World) (B r V n p:Nat):Prop :=
 p≤n∧B≤r∧∃ g A,g≠r∧A≠some ⟨r,0,none⟩∧B≤g∧VecB w B g V n A∧Blk w r 207 #[.pointer (some ⟨g,0,none⟩),.int .i64 (p:Int)]
set_option maxHeartbeats 1000000 in
theorem read_p (g V n B:Nat) (A:Option Addr) (w:World) (h:VecB w B g V n A) :
  Calls Tryz.prog 141 #[.pointer (some ⟨g,0,none⟩)] w fun e w'=>∃ r,e=.returned (.pointer (some ⟨r,0,none⟩))∧ReadAt w' w.heap.size r V n 0∧Below w.heap.size w w':=by
 obtain ⟨hV,hn,c,hb,ho⟩:=h
 obtain ⟨q,hq⟩:∃ q,q=(n+63) / 64:=⟨_,rfl⟩
 have HQ:=Lib.hid hq
 rw [← hq] at hb ho
 have s0:w.cell? ⟨g,0,none⟩=some (.slice A q c):=hb.cell 0
 have s1:w.cell? ⟨g,1,none⟩=some (.int .i64 (n:Int)):=hb.cell 1
 have hgl:=hb.lt
 have CL:Hid (Calls Tryz.prog 158 #[.slice A q c] w.drew (NewU64 w.drew (words V q))) :=
  cloneU A q c _ _ _ ((Rd.ofOwn ho).drewN 1) (by omega)
 clear hb ho hq
 go_enter Tryz.func141,Tryz.ntmps141
 go_wp2_with fail
 go_region_with (first
  | (go_at_call 158;refine CL.out.mono ?_;rintro e w9 ⟨A9,c9,rfl,hc9,hm9,hown9,hb9⟩;rw [words_len] at hown9 ⊢;have hx9:w9.cell? ⟨g,1,none⟩=some (.int .i64 (n:Int)):=(hb9.cell (p:=⟨g,1,none⟩) hgl).trans s1;have HO9:=Lib.hid hown9;have HB9:=Lib.hid hb9;clear hown9 hb9))
 all_goals (
  go_wp2_with fail
  go_ret
  clear s0 s1 hx9
  have hs9:=HB9.out.size
  refine ⟨w9.heap.size+1,rfl,⟨Nat.zero_le _,?_,w9.heap.size,A9,by omega,?_,?_,⟨hV,hn,c9,?_,?_⟩,?_⟩,?_⟩
  ·exact Nat.le_trans hs9 (Nat.le_succ _)
  ·intro e
   obtain ⟨b,hb1,hb2⟩:∃ b,A9=some ⟨b,0,none⟩∧b < w9.heap.size:=by
    rcases HO9.out.2 with ⟨h2,_⟩ | ⟨g',cap,cur,hv,_,hg',_⟩
    ·simp only [Value.slice.injEq] at h2
     rw [h2.1] at e;cases e
    ·simp only [Value.slice.injEq] at hv
     exact ⟨g',hv.1,(Array.getElem?_eq_some_iff.1 hg').1⟩
   rw [hb1] at e
   have e2:b=w9.heap.size+1:=(Addr.mk.inj (Option.some.inj e)).1
   omega
  ·exact hs9
  ·rw [← HQ.out]
   exact (Blk.new w9 _ _).alloc _
  ·rw [← HQ.out]
   exact (HO9.out.alloc _).alloc _
  ·have:=Blk.new (w9.alloc (.cells #[.slice A9 q c9,.int .i64 (n:Int)] 104)) 207 #[.pointer (some ⟨w9.heap.size,0,none⟩),.int .i64 0]
   simpa using this
  ·exact (((Below.refl _ _).drew.trans HB9.out).alloc hs9 _).alloc (Nat.le_trans hs9 (by simp)) _)
theorem left_p (B r V n p:Nat) (w:World) (h:ReadAt w B r V n p) :
  Calls Tryz.prog 142 #[.pointer (some ⟨r,0,none⟩)] w fun e w'=>e=.returned (.int .i64 ((n - p:Nat):Int))∧∃ j,w'=w.drewN j:=by
 obtain ⟨hp,_,g,A,_,_,_,hv,hb⟩:=h
 have hn:=hv.2.1
 have LP:Hid (∀ j,Calls Tryz.prog 23 #[.pointer (some ⟨g,0,none⟩)] (w.drewN j) fun e w'=>e=.returned (.int .i64 (n:Int))∧w.drewN j=w'):=fun j=>blen_p g V n A _ (hv.drewN j)
 have s0:w.cell? ⟨r,0,none⟩=some (.pointer (some ⟨g,0,none⟩)):=hb.cell 0
 have s1:w.cell? ⟨r,1,none⟩=some (.int .i64 (p:Int)):=hb.cell 1
 have he:Hid ((n:Int) - (p:Int)=((n - p:Nat):Int)):=by show _=_;omega
 clear hv hb
 go_enter Tryz.func142,Tryz.ntmps142
 go_wp2_with fail
 go_quiet ((go_at_call 23;exact Calls.quiet_of_same ((LP.out _).mono fun e w' ⟨he,hw⟩=>⟨he,hw.symm⟩)))
 go_wp2
 go_ret
 exact ⟨by rw [← he.out];rfl,nq,rfl⟩
def ReadG (w:World) (B r V n p g:Nat) (A:Option Addr):Prop :=
 p≤n∧B≤r∧g≠r∧A≠some ⟨r,0,none⟩∧B≤g∧VecB w B g V n A∧Blk w r 207 #[.pointer (some ⟨g,0,none⟩),.int .i64 (p:Int)]
theorem ReadG.toAt {w:World} {B r V n p g:Nat} {A:Option Addr} (h:ReadG w B r V n p g A):ReadAt w B r V n p:=by
 obtain ⟨h1,h2,h3,h4,h5,h6,h7⟩:=h
 exact ⟨h1,h2,g,A,h3,h4,h5,h6,h7⟩
theorem ReadAt.toG {w:World} {B r V n p:Nat} (h:ReadAt w B r V n p):∃ g A,ReadG w B r V n p g A:=by
 obtain ⟨h1,h2,g,A,h3,h4,h5,h6,h7⟩:=h
 exact ⟨g,A,h1,h2,h3,h4,h5,h6,h7⟩
theorem ReadG.below {w w':World} {B r V n p g:Nat} {A:Option Addr} (h:ReadG w B r V n p g A) (m:Below w.heap.size w w'):ReadG w' B r V n p g A:=by
 obtain ⟨h1,h2,h3,h4,h5,h6,h7⟩:=h
 exact ⟨h1,h2,h3,h4,h5,h6.below m,h7.below m⟩
theorem ReadG.mod {w w':World} {S:Nat→Prop} {B r V n p g:Nat} {A:Option Addr} (h:ReadG w B r V n p g A) (m:Mod S w w') (hr:¬ S r) (hs:∀ i,foot g A i→¬ S i):ReadG w' B r V n p g A:=by
 obtain ⟨h1,h2,h3,h4,h5,h6,h7⟩:=h
 exact ⟨h1,h2,h3,h4,h5,h6.mod m hs,h7.mod m hr⟩
set_option maxRecDepth 20000 in
set_option maxHeartbeats 1000000 in
theorem rnum_g (B r V n p g:Nat) (A:Option Addr) (k:Int) (w:World) (h:ReadG w B r V n p g A) (hk:-9223372036854775808≤k∧k≤9223372036854775807) (hyes:cnt64 k≤n - p) :
  Calls Tryz.prog 143 #[.pointer (some ⟨r,0,none⟩),.int .i64 k] w fun e w'=>e=.returned (.tuple #[.int .u64 ((V / 2 ^ p%2 ^ cnt64 k:Nat):Int),.int .i64 0])∧ReadG w' B r V n (p+cnt64 k) g A∧Mod (fun i=>i=r) w w':=by
 have C:=Lib.hid (count_p k w hk)
 have L:=Lib.hid (left_p B r V n p w h.toAt)
 have hk64:cnt64 k≤64:=by unfold cnt64;split <;> (try split) <;> omega
 generalize cnt64 k=kk at *
 have hc:¬ ((n - p:Nat):Int) < (kk:Int):=by omega
 have H:=Lib.hid h
 obtain ⟨hp,hBr,hgr,hAr,hBg,hv,hb⟩:=h
 have hn:=hv.2.1
 rcases Nat.eq_zero_or_pos kk with h0 | h0
 ·subst h0
  clear hc hv hb
  generalize n - p=m at *
  go_enter Tryz.func143,Tryz.ntmps143
  go_wp2_with fail
  refine C.out.mono ?_
  rintro e w' ⟨rfl,rfl⟩
  go_wp2_with fail
  refine L.out.mono ?_
  rintro e w' ⟨rfl,j,rfl⟩
  go_wp2_with fail
  go_ret2
  refine ⟨by simp [Nat.mod_one],H.out.below (below_draws (Below.refl _ _) j),(Mod.refl _ w).drewN j⟩
 ·have hk0:¬ kk=0:=by omega
  have HP:=Lib.hid hyes
  have hpk:p+kk≤n:=by omega
  have GP:Hid (∀ j,Calls Tryz.prog 132 #[.pointer (some ⟨g,0,none⟩),.int .i64 (p:Int),.int .i64 (kk:Int)] (w.drewN j) fun e w'=>e=.returned (.int .u64 ((V / 2 ^ p%2 ^ kk:Nat):Int))∧w.drewN j=w') :=
   fun j=>get_p g V n p kk A _ (hv.drewN j) h0 hk64 hpk
  have s0:w.cell? ⟨r,0,none⟩=some (.pointer (some ⟨g,0,none⟩)):=hb.cell 0
  have s1:w.cell? ⟨r,1,none⟩=some (.int .i64 (p:Int)):=hb.cell 1
  have f1:=hb.frozen 1
  have HV:=Lib.hid hv
  have HB:=Lib.hid hb
  clear hv hb
  generalize V / 2 ^ p%2 ^ kk=x at *
  generalize n - p=m at *
  go_enter Tryz.func143,Tryz.ntmps143
  go_wp2_with fail
  refine C.out.mono ?_
  rintro e w' ⟨rfl,rfl⟩
  go_wp2_with fail
  refine L.out.mono ?_
  rintro e w' ⟨rfl,j,rfl⟩
  go_wp2_with fail
  go_quiet ((go_at_call 132;exact (GP.out _).mono fun e w' h=>⟨h.1,_,h.2.symm⟩))
  go_wp2
  go_ret2
  have mm:Mod (fun i=>i=r) (w.drewN (j+nq)) ((w.drewN (j+nq)).setCell ⟨r,1,none⟩ (.int .i64 ((p:Int)+(kk:Int)))) :=
   Mod.setCell (p:=⟨r,1,none⟩) (Mod.refl (fun i=>i=r) _) (fun _=>rfl) _
  refine ⟨rfl,⟨hpk,hBr,hgr,hAr,hBg,(HV.out.drewN _).mod mm ?_,?_⟩,Mod.setCell (p:=⟨r,1,none⟩) ((Mod.refl (fun i=>i=r) w).drewN _) (fun _=>rfl) _⟩
  ·rintro i (rfl | ⟨b,rfl,rfl⟩) hi
   ·exact hgr hi
   ·exact hAr (by rw [hi])
  ·have:=(HB.out.drewN (j+nq)).set_ 1 (.int .i64 ((p:Int)+(kk:Int)))
   simpa using this
set_option maxRecDepth 20000 in
set_option maxHeartbeats 1000000 in
theorem onesCount_p (x:Nat) (w:World) (hx:x < 2 ^ 64) :
  Calls Tryz.prog 157 #[.int .u64 (x:Int)] w fun e w'=>e=.returned (.int .i64 ((pop x 64:Nat):Int))∧w=w':=by
 obtain ⟨X1,X2,X3,X4,X5,X6,e1,e2,e3,e4,e5,e6,e7,e8,e9⟩:=swar x hx
 obtain ⟨A1,hA1⟩:∃ A1,A1=x / 2 &&& 6148914691236517205:=⟨_,rfl⟩
 obtain ⟨A2,hA2⟩:∃ A2,A2=x &&& 6148914691236517205:=⟨_,rfl⟩
 obtain ⟨B1,hB1⟩:∃ B1,B1=X1 / 4 &&& 3689348814741910323:=⟨_,rfl⟩
 obtain ⟨B2,hB2⟩:∃ B2,B2=X1 &&& 3689348814741910323:=⟨_,rfl⟩
 have a1:A1≤6148914691236517205:=by rw [hA1];exact Nat.and_le_right
 have a2:A2≤6148914691236517205:=by rw [hA2];exact Nat.and_le_right
 have b1:B1≤3689348814741910323:=by rw [hB1];exact Nat.and_le_right
 have b2:B2≤3689348814741910323:=by rw [hB2];exact Nat.and_le_right
 rw [← hA1,← hA2] at e1
 rw [← hB1,← hB2] at e2
 have g1:bits .and .u64 ((x:Int) / 2) 6148914691236517205=(A1:Int):=by
  rw [hA1,show ((x:Int) / 2)=((x / 2:Nat):Int) by omega];exact u64_and_nat (x / 2) 6148914691236517205 (by omega) (by decide)
 have g2:bits .and .u64 (x:Int) 6148914691236517205=(A2:Int):=by rw [hA2];exact u64_and_nat x 6148914691236517205 hx (by decide)
 have g3:(A1:Int)+(A2:Int)=(X1:Int):=by omega
 have g4:bits .and .u64 ((X1:Int) / 4) 3689348814741910323=(B1:Int):=by
  rw [hB1,show ((X1:Int) / 4)=((X1 / 4:Nat):Int) by omega];exact u64_and_nat (X1 / 4) 3689348814741910323 (by omega) (by decide)
 have g5:bits .and .u64 (X1:Int) 3689348814741910323=(B2:Int):=by rw [hB2];exact u64_and_nat X1 3689348814741910323 (by omega) (by decide)
 have g6:(B1:Int)+(B2:Int)=(X2:Int):=by omega
 have g7:bits .and .u64 ((X2:Int) / 16+(X2:Int)) 1085102592571150095=(X3:Int):=by
  rw [e3,show ((X2:Int) / 16+(X2:Int))=((X2 / 16+X2:Nat):Int) by omega];exact u64_and_nat (X2 / 16+X2) 1085102592571150095 (by omega) (by decide)
 have g8:(X3:Int)+(X3:Int) / 256=(X4:Int):=by omega
 have g9:(X4:Int)+(X4:Int) / 65536=(X5:Int):=by omega
 have g10:(X5:Int)+(X5:Int) / 4294967296=(X6:Int):=by omega
 have hx2:X2≤7378697629483820646:=by omega
 have hx4:X4≤1100000000000000000:=by omega
 have hx5:X5≤1110000000000000000:=by omega
 have g11:bits .and .i64 (X6:Int) 127=((pop x 64:Nat):Int):=by rw [i64_and127,← e7];omega
 have hx':x < 18446744073709551616:=hx
 have e9':X6 < 2305843009213693952:=e9
 generalize pop x 64=r at *
 clear e1 e2 e3 e4 e5 e6 e7 hA1 hA2 hB1 hB2 e9 hx
 go_enter Tryz.func157,Tryz.ntmps157
 go_wp2
 go_ret
 exact ⟨rfl,rfl⟩
theorem pop_le (x k:Nat):pop x k≤k:=by
 induction k with
 | zero=>exact Nat.le_refl _
 | succ k ih =>
   rw [pop_add]
   have:pop (x / 2 ^ k) 1≤1:=by
    simp only [pop,numL,List.range_succ,List.range_zero,List.nil_append,List.map_cons,List.map_nil,List.sum_cons,List.sum_nil]
    omega
   omega
theorem pop_words (V k:Nat):pop V (64*(k+1))=pop V (64*k)+pop (wd V k) 64:=by
 rw [Nat.mul_add,Nat.mul_one,pop_add]
 unfold wd
 rw [pop_mod]
theorem pop_all {V n m:Nat} (h:V < 2 ^ n) (hn:n≤m):pop V m=pop V n:=by
 obtain ⟨d,rfl⟩:=Nat.exists_eq_add_of_le hn
 rw [pop_add,Nat.div_eq_of_lt h,pop_zero,Nat.add_zero]
theorem pop_val {l:List Nat} (h:Bin l):pop (val l) l.length=l.sum:=by
 unfold pop
 rw [numL_val h _ (Nat.le_refl _),List.take_of_length_le (Nat.le_refl _)]
set_option maxRecDepth 20000 in
set_option maxHeartbeats 1000000 in
theorem ones_p (g V n B:Nat) (A:Option Addr) (w:World) (h:VecB w B g V n A) :
  Calls Tryz.prog 140 #[.pointer (some ⟨g,0,none⟩)] w fun e w'=>e=.returned (.int .i64 ((pop V n:Nat):Int))∧w=w':=by
 obtain ⟨hV,hn,c,hb,ho⟩:=h
 obtain ⟨m,hm⟩:∃ m,m=(n+63) / 64:=⟨_,rfl⟩
 have hm1:m≤1000000:=by omega
 have hall:=pop_all hV (show n≤64*m by omega)
 rw [← hm] at hb ho
 rw [← hall]
 have s0:w.cell? ⟨g,0,none⟩=some (.slice A m c):=hb.cell 0
 have R:=Lib.hid (Rd.ofOwn ho)
 clear hb ho hm hV hall
 go_enter Tryz.func140,Tryz.ntmps140
 go_wp2_with fail
 go_loopw [3,13] (fun x i wr=>∃ k q:Nat,k≤m∧i=.int .i64 (k:Int)∧Hid (q=pop V (64*k))∧q≤64*k∧x=.int .i64 (q:Int)∧wr=w) (fun _ i _=>m - (intOf i).toNat)
 case atStart=>exact ⟨0,0,by omega,rfl,rfl,by omega,rfl,rfl⟩
 case round =>
  obtain ⟨k,q,hk,rfl,hq,hqk,rfl,rfl⟩:=hrel
  by_cases hlt:k < m
  ·obtain ⟨b,o,rfl,_,k1⟩:=R.out.u64 (by omega)
   have t1:=k1 k hlt
   rw [words_get _ _ _ hlt] at t1
   have OC:=Lib.hid (onesCount_p (wd V k) wr (wd_lt V k))
   have hp:=pop_le (wd V k) 64
   have hq2:Hid (q+pop (wd V k) 64=pop V (64*(k+1))):=by show _=_;rw [pop_words,← hq.out]
   clear k1
   generalize pop (wd V k) 64=y at *
   generalize wd V k=x at *
   go_wp2_with fail
   refine OC.out.mono ?_
   rintro e w2 ⟨rfl,rfl⟩
   go_wp2_with fail
   go_roundw
   case rel=>exact ⟨k+1,q+y,by omega,by go_num,hq2,by omega,by go_num,trivial⟩
   case measure=>simp [intOf];omega
  ·obtain rfl:k=m:=by omega
   go_wp2_with fail
   go_ret
   exact ⟨by rw [← hq.out];rfl,rfl⟩
def U32 (z:List Nat):List Value:=z.map fun (x:Nat)=>Value.int .u32 (x:Int)
theorem U32_append (l m:List Nat):U32 (l++m)=U32 l++U32 m:=by simp [U32]
theorem U32_get (z:List Nat) (k:Nat) (hk:k < z.length):(U32 z)[k]?=some (.int .u32 ((z.getD k 0:Nat):Int)):=by
 simp [U32,List.getD_eq_getElem?_getD,List.getElem?_eq_getElem hk]
def blk (n:Nat):Nat:=(n+511) / 512
def aheadL (V k:Nat):List Nat:=(List.range k).map fun j=>pop V (512*j)
theorem aheadL_len (V k:Nat):(aheadL V k).length=k:=by simp [aheadL]
theorem aheadL_get (V k j:Nat) (h:j < k):(aheadL V k).getD j 0=pop V (512*j):=by simp [aheadL,List.getD_eq_getElem?_getD,h]
theorem aheadL_next (V k:Nat):aheadL V (k+1)=aheadL V k++[pop V (512*k)]:=by simp [aheadL,List.range_succ]
def b01 (d:Bool):Int:=if d then 1 else 0
def DirAt (w:World) (g V n:Nat) (d:Bool) (H:Value):Prop :=
 match d with
 | false=>H=.slice none 0 0
 | true=>∃ S c,H=.slice S (blk n+1) c∧w.ownsRow (g+1) 157 1 (.slice S (blk n+1) c) (blk n+1) (U32 (aheadL V (blk n+1)))
def IdxAt (w:World) (g V n:Nat) (d:Bool) (q:Nat):Prop :=
 V < 2 ^ n∧n≤1000000∧∃ A c H,Blk w g 171 #[.slice A ((n+63) / 64) c,.int .i64 (n:Int),.int .i64 ((pop V n:Nat):Int),.int .u32 (b01 d),.int .i32 0,.int .u32 0,H,.int .i64 (b01 d),.int .i64 (q:Int)] ∧
  w.ownsRow (g+1) 139 1 (.slice A ((n+63) / 64) c) ((n+63) / 64) (U64 (words V ((n+63) / 64)))∧DirAt w g V n d H
theorem DirAt.below {w w':World} {g V n:Nat} {d:Bool} {H:Value} (h:DirAt w g V n d H) (m:Below w.heap.size w w'):DirAt w' g V n d H:=by
 cases d with
 | false=>exact h
 | true=>obtain ⟨S,c,e,ho⟩:=h;exact ⟨S,c,e,own_below ho m⟩
theorem IdxAt.below {w w':World} {g V n q:Nat} {d:Bool} (h:IdxAt w g V n d q) (m:Below w.heap.size w w'):IdxAt w' g V n d q:=by
 obtain ⟨h1,h2,A,c,H,h3,h4,h5⟩:=h
 exact ⟨h1,h2,A,c,H,h3.below m,own_below h4 m,h5.below m⟩
theorem IdxAt.lt {w:World} {g V n q:Nat} {d:Bool} (h:IdxAt w g V n d q):g < w.heap.size:=by
 obtain ⟨_,_,A,c,H,h3,_⟩:=h
 exact h3.lt
theorem IdxAt.mod {w w':World} {S:Nat→Prop} {g V n q:Nat} {d:Bool} (h:IdxAt w g V n d q) (m:Mod S w w') (hs:∀ i,S i→i < g):IdxAt w' g V n d q:=by
 obtain ⟨h1,h2,A,c,H,h3,h4,h5⟩:=h
 refine ⟨h1,h2,A,c,H,h3.mod m fun hx=>by have:=hs g hx;omega,own_mod h4 m fun k hk hx=>by have:=(h4.lt k hk).1;have:=hs k hx;omega,?_⟩
 cases d with
 | false=>exact h5
 | true =>
   obtain ⟨S',c',e,ho⟩:=h5
   exact ⟨S',c',e,own_mod ho m fun k hk hx=>by have:=(ho.lt k hk).1;have:=hs k hx;omega⟩
/-! ### sync/atomic -/
theorem add64 (a:Addr) (x:Int) (w:World) (hc:w.cell? a=some (.int .i64 x)) (hz:w.frozen? a=false) (h0:0≤x) (h1:x≤1000000000) :
  Calls Tryz.prog 160 #[.pointer (some a),.int .i64 1] w fun e w'=>e=.returned (.int .i64 (x+1))∧w'=w.setCell a (.int .i64 (x+1)):=by
 have hadd:=run_call_add (P:=Tryz.prog) Tryz.func169 (by kernel_rfl) (by kernel_rfl) (by kernel_rfl) .i64 (by kernel_rfl) (y:=1) (s:=x+1) hc hz (by simp [go_sem];rw [IntKind.wrap_i64];omega)
 go_enter Tryz.func160,Tryz.ntmps160
 go_wp2
 go_ret
 exact ⟨rfl,rfl⟩
/-! ### what the index answers without its directory -/
section
variable (g V n q:Nat) (d:Bool) (w:World)
theorem xlen_p (h:IdxAt w g V n d q):Calls Tryz.prog 99 #[.pointer (some ⟨g,0,none⟩)] w fun e w'=>e=.returned (.int .i64 (n:Int))∧w=w':=by
 obtain ⟨_,_,A,c,H,hb,_⟩:=h
 have c1:w.cell? ⟨g,1,none⟩=some (.int .i64 (n:Int)):=hb.cell 1
 clear hb
 go_enter Tryz.func99,Tryz.ntmps99
 go_wp2
 go_ret
 exact ⟨rfl,rfl⟩
theorem xblocks_p (h:IdxAt w g V n d q):Calls Tryz.prog 172 #[.pointer (some ⟨g,0,none⟩)] w fun e w'=>e=.returned (.int .i64 ((blk n:Nat):Int))∧w=w':=by
 obtain ⟨_,hn,A,c,H,hb,_⟩:=h
 obtain ⟨m,hm⟩:∃ m,m=(n+63) / 64:=⟨_,rfl⟩
 rw [← hm] at hb
 have c1:w.cell? ⟨g,0,none⟩=some (.slice A m c):=hb.cell 0
 have e1:((m:Int)+8 - 1) / 8=((blk n:Nat):Int):=by unfold blk;omega
 have hm9:m≤1000000:=by omega
 clear hb hm
 generalize blk n=r at *
 have E1:=Lib.hid e1
 clear e1
 go_enter Tryz.func172,Tryz.ntmps172
 go_wp2
 go_ret
 exact ⟨congrArg (fun z=>Ending.returned (.int .i64 z)) E1.out,rfl⟩
end
end Go.Proofs.YtijbdnhlpbcabaaGreatDoor
namespace Go.Proofs.YtijbdnhlpbcabaaGreatDoor
theorem rdisable (w:World):(callFunc 210 #[]).run Tryz.prog w=.ok (.value (.tuple #[])) w:=run_call_mark0 Tryz.func210 (by kernel_rfl) (by kernel_rfl) (by kernel_rfl) .disable (by kernel_rfl) w
theorem renable (w:World):(callFunc 212 #[]).run Tryz.prog w=.ok (.value (.tuple #[])) w:=run_call_mark0 Tryz.func212 (by kernel_rfl) (by kernel_rfl) (by kernel_rfl) .enable (by kernel_rfl) w
theorem racquire (a:Addr) (w:World):(callFunc 213 #[.pointer (some a)]).run Tryz.prog w=.ok (.value (.tuple #[])) w:=run_call_marked Tryz.func213 (by kernel_rfl) (by kernel_rfl) (by kernel_rfl) .acquire (by kernel_rfl) a w
theorem rrelease (a:Addr) (w:World):(callFunc 215 #[.pointer (some a)]).run Tryz.prog w=.ok (.value (.tuple #[])) w:=run_call_marked Tryz.func215 (by kernel_rfl) (by kernel_rfl) (by kernel_rfl) .releaseMerge (by kernel_rfl) a w
theorem store_deferred (a:Addr) (x:Value) (u:FrameMode) (w:World) (hc:w.cell? a=some x) (hz:w.frozen? a=false) :
  CallsD Tryz.prog 193 #[.pointer (some a),.bool true] u w fun e u' w'=>u'=u∧(e=.returned (.tuple #[])∧w'=w.drew.setCell a (.int .u32 1)):=by
 have hc':w.drew.cell? a=some x:=by go_simp
 have hz':w.drew.frozen? a=false:=by go_simp
 have hst:=run_call_store (P:=Tryz.prog) Tryz.func202 (by kernel_rfl) (by kernel_rfl) (by kernel_rfl) (by kernel_rfl) (k:=.u32) (y:=1) hc' hz'
 go_enter_d Tryz.func193,Tryz.ntmps193
 go_wp2
 go_region_calls
 all_goals (go_end0;exact ⟨rfl,rfl⟩)
set_option maxRecDepth 100000 in
set_option maxHeartbeats 1600000 in
theorem unlock_deferred (a:Addr) (u:FrameMode) (w:World) (hc:w.cell? a=some (.int .i32 1)) (hz:w.frozen? a=false) :
  CallsD Tryz.prog 192 #[.pointer (some a)] u w fun e u' w'=>u'=u∧(e=.returned (.tuple #[])∧w'=w.setCell a (.int .i32 0)):=by
 have hd:=rdisable
 have he:=renable
 have hr:=rrelease
 have hadd:=run_call_add (P:=Tryz.prog) Tryz.func216 (by kernel_rfl) (by kernel_rfl) (by kernel_rfl) .i32 (by kernel_rfl) (y:=-1) (s:=0) hc hz (by simp [go_sem];rfl)
 have hcv:=run_convert_to_unsafe (P:=Tryz.prog) (src:=237) (dst:=241) Tryz.underlying237 Tryz.underlying241 (by kernel_rfl) hc
 go_enter_d Tryz.func192,Tryz.ntmps192
 go_wp2
 go_end0
 go_wp2
 go_end0
 exact ⟨rfl,rfl⟩
set_option maxRecDepth 100000 in
set_option maxHeartbeats 1600000 in
theorem lock_free (a:Addr) (w:World) (hc:w.cell? a=some (.int .i32 0)) (hz:w.frozen? a=false) :
  Calls Tryz.prog 191 #[.pointer (some a)] w fun e w'=>e=.returned (.tuple #[])∧w'=w.setCell a (.int .i32 1):=by
 have hd:=rdisable
 have he:=renable
 have ha:=racquire
 have hcas:=run_call_cas_hit (P:=Tryz.prog) Tryz.func211 (by kernel_rfl) (by kernel_rfl) (by kernel_rfl) .i32 (by kernel_rfl) (y:=1) hc hz
 have hc':(w.setCell a (.int .i32 1)).cell? a=some (.int .i32 1):=World.cell?_setCell_same w a _ hc
 have hcv:=run_convert_to_unsafe (P:=Tryz.prog) (src:=237) (dst:=241) Tryz.underlying237 Tryz.underlying241 (by kernel_rfl) hc'
 go_enter Tryz.func191,Tryz.ntmps191
 go_wp2
 first | go_end0 | (simp only [Exit.inBlock,Exit.then];refine bodyPost_ret (results_none rfl _ _ _) rfl ?_) | refine bodyPost_ret (results_none rfl _ _ _) rfl ?_
 go_wp2
 go_end0
 exact ⟨rfl,rfl⟩
theorem do_done (a:Addr) (fv:Value) (w:World) (h0:w.cell? a=some (.int .u32 1)) :
  Calls Tryz.prog 170 #[.pointer (some a),fv] w fun e w'=>e=.returned (.tuple #[])∧w'=w:=by
 have hl:=run_call_load (P:=Tryz.prog) Tryz.func190 (by kernel_rfl) (by kernel_rfl) (by kernel_rfl) .u32 (by kernel_rfl) h0
 have hnot:∀ (x:Bool) (w:World),(Op.unary .not (.bool x)).run Tryz.prog w=.ok (.bool (!x)) w:=fun _ _=>rfl
 go_enter Tryz.func170,Tryz.ntmps170
 go_wp2
 go_end0
 exact ⟨rfl,rfl⟩
theorem xblocks_c (g m c:Nat) (A:Option Addr) (w:World) (c1:w.cell? ⟨g,0,none⟩=some (.slice A m c)) (hm9:m≤1000000) :
  Calls Tryz.prog 172 #[.pointer (some ⟨g,0,none⟩)] w fun e w'=>e=.returned (.int .i64 (((m+7) / 8:Nat):Int))∧w=w':=by
 have e1:((m:Int)+8 - 1) / 8=(((m+7) / 8:Nat):Int):=by omega
 generalize (m+7) / 8=r at *
 have E1:=Lib.hid e1
 clear e1
 go_enter Tryz.func172,Tryz.ntmps172
 go_wp2
 go_ret
 exact ⟨congrArg (fun z=>Ending.returned (.int .i64 z)) E1.out,rfl⟩
theorem info_u32:(Tryz.prog.info? 157).map (fun i=>(i.zero,i.size,i.bytes))=some (some (.int .u32 0),1,4):=by kernel_rfl
theorem run_make_room (k:Nat) (hk:k≤1000000) (w:World) :
  (Instr.makeSlice 166 (.int .i64 0) (.int .i64 (k:Int))).run Tryz.prog w=.ok (.slice (some ⟨w.heap.size,0,none⟩) 0 k) (w.alloc (.cells (List.replicate k (.int .u32 0)).toArray 157)):=by
 obtain ⟨i0,hi0,hz0,hz1,hz2⟩:=info_parts info_u32
 have hr:=run_make (P:=Tryz.prog) w 166 157 i0 (.int .u32 0) Tryz.underlying166 hi0 hz0 .i64 .i64 0 (k:Int) (by omega) (by omega) (by rw [hz2];omega) (by omega)
 simp only [Int.toNat_natCast,hz1,Nat.mul_one,show (Value.int .u32 0).cells=#[.int .u32 0] from rfl] at hr
 have hz:madeCells #[Value.int .u32 0] k=(List.replicate k (Value.int .u32 0)).toArray:=Array.toList_inj.1 (by rw [toList_madeCells_one])
 rw [hz] at hr
 exact hr
theorem pop_block {V n:Nat} (h:V < 2 ^ n):pop V (512*blk n)=pop V n:=pop_all h (by unfold blk;omega)
set_option maxRecDepth 20000 in
set_option maxHeartbeats 4000000 in
theorem build1_p (g V n pb c:Nat) (A:Option Addr) (x3 x4 x5 qv:Value) (w:World) (hV:V < 2 ^ n) (hn:n≤1000000)
  (hb:Blk w g 171 #[.slice A ((n+63) / 64) c,.int .i64 (n:Int),.int .i64 ((pop V n:Nat):Int),x3,x4,x5,.slice none 0 0,.int .i64 0,qv])
  (ho:w.ownsRow (g+1) 139 1 (.slice A ((n+63) / 64) c) ((n+63) / 64) (U64 (words V ((n+63) / 64)))) (hp:Blk w pb 133 #[.pointer (some ⟨g,0,none⟩)]) :
  Calls Tryz.prog 171 #[.pointer (some ⟨pb,0,none⟩)] w fun e w'=>e=.returned (.tuple #[])∧∃ S d,
   Blk w' g 171 #[.slice A ((n+63) / 64) c,.int .i64 (n:Int),.int .i64 ((pop V n:Nat):Int),x3,x4,x5,.slice S (blk n+1) d,.int .i64 1,qv] ∧
   w'.ownsRow (g+1) 157 1 (.slice S (blk n+1) d) (blk n+1) (U32 (aheadL V (blk n+1)))∧Mod (fun i=>i=g) w w':=by
 obtain ⟨i0,hi0,hz0,hz1,hz2⟩:=info_parts info_u32
 obtain ⟨m,hm⟩:∃ m,m=(n+63) / 64:=⟨_,rfl⟩
 have hbm:blk n=(m+7) / 8:=by unfold blk;omega
 have HBM:=Lib.hid hbm
 have hm9:m≤20000:=by omega
 have hb9:blk n≤3000:=by omega
 rw [← hm] at hb ho ⊢
 have hgp:pb≠g:=fun e=>by
  subst e
  unfold Blk at hb hp
  rw [hb] at hp
  simp at hp
 have c0:w.cell? ⟨g,0,none⟩=some (.slice A m c):=hb.cell 0
 have c6:w.cell? ⟨g,6,none⟩=some (.slice none 0 0):=hb.cell 6
 have f6:=hb.frozen 6
 have hgl:=hb.lt
 have hpl:=hp.lt
 have p0:w.cell? ⟨pb,0,none⟩=some (.pointer (some ⟨g,0,none⟩)):=hp.cell 0
 have XB:=Lib.hid (fun w' h=>xblocks_c g m c A w' h (by omega))
 rw [← hbm] at XB
 have hmk:=run_make_room (blk n+1) (by omega)
 have hcast:((blk n+1:Nat):Int)=((blk n:Nat):Int)+1:=by omega
 rw [hcast] at hmk
 have HB:=Lib.hid hb
 have HO:=Lib.hid ho
 have HP:=Lib.hid hp
 have HV:=Lib.hid hV
 have HM:=Lib.hid hm
 have PB:=Lib.hid (pop_block hV)
 clear hb ho hp hV hm hbm hcast
 generalize blk n=nb at *
 go_enter Tryz.func171,Tryz.ntmps171
 have FIN:Hid (Blk ((w.setCell ⟨g,6,none⟩ (.slice (some ⟨w.heap.size,0,none⟩) 0 (nb+1))).alloc (.cells (Array.replicate (nb+1) (.int .u32 0)) 157)).drew g 171 #[.slice A m c,.int .i64 (n:Int),.int .i64 ((pop V n:Nat):Int),x3,x4,x5,.slice (some ⟨w.heap.size,0,none⟩) 0 (nb+1),.int .i64 0,qv] ∧
   ((w.setCell ⟨g,6,none⟩ (.slice (some ⟨w.heap.size,0,none⟩) 0 (nb+1))).alloc (.cells (Array.replicate (nb+1) (.int .u32 0)) 157)).drew.ownsRow w.heap.size 157 1 (.slice (some ⟨w.heap.size,0,none⟩) 0 (nb+1)) 0 (U32 (aheadL V 0)) ∧
   Mod (fun i=>i=g) w ((w.setCell ⟨g,6,none⟩ (.slice (some ⟨w.heap.size,0,none⟩) 0 (nb+1))).alloc (.cells (Array.replicate (nb+1) (.int .u32 0)) 157)).drew):=by
  refine ⟨?_,?_,Mod.drew (Mod.alloc (Mod.setCell (p:=⟨g,6,none⟩) (Mod.refl (fun i=>i=g) w) (fun _=>rfl) _) _)⟩
  ·have:=HB.out.set_ 6 (.slice (some ⟨w.heap.size,0,none⟩) 0 (nb+1))
   exact ((Blk.alloc (by simpa using this) _).drewN 1)
  ·have hs:(w.setCell ⟨g,6,none⟩ (.slice (some ⟨w.heap.size,0,none⟩) 0 (nb+1))).heap.size=w.heap.size:=by simp [World.setCell]
   have:=World.ownsRow_made (base:=w.heap.size) (e:=157) (size:=1) (w.setCell ⟨g,6,none⟩ (.slice (some ⟨w.heap.size,0,none⟩) 0 (nb+1))) (Array.replicate (nb+1) (.int .u32 0)) (nb+1) (by rw [hs];exact Nat.le_refl _) (by simp only [maxLen];omega) (by simp)
   rw [hs] at this
   exact own_below this (Below.refl _ _).drew
 have HGW:Hid (g+1≤w.heap.size):=hgl
 have wnb:IntKind.i64.wrap ((nb:Int)+1)=(nb:Int)+1:=by rw [IntKind.wrap_i64];omega
 go_upto_region 0 with fail
 go_cut [0] from 4 to 10 (fun s wx=>s=.pointer (some ⟨pb,0,none⟩)∧∃ S,Hid (Blk wx g 171 #[.slice A m c,.int .i64 (n:Int),.int .i64 ((pop V n:Nat):Int),x3,x4,x5,.slice S 0 (nb+1),.int .i64 0,qv])∧Hid (wx.ownsRow w.heap.size 157 1 (.slice S 0 (nb+1)) 0 (U32 (aheadL V 0)))∧Hid (Mod (fun i=>i=g) w wx))
 case first =>
  go_region_with (first
   | (go_at_call 172;refine (XB.out w.drew c0).mono ?_;rintro e w9 ⟨rfl,rfl⟩))
  all_goals (
   go_wp2_with fail
   go_meet
   exact ⟨rfl,_,FIN.out.1,FIN.out.2.1,FIN.out.2.2⟩)
 case rest =>
  obtain ⟨rfl,S0,hb1,ho1,hm1⟩:=hcut
  clear wnb FIN
  have hp1:=HP.out.mod hm1.out hgp
  have p1:wc.cell? ⟨pb,0,none⟩=some (.pointer (some ⟨g,0,none⟩)):=hp1.cell 0
  have b0:wc.cell? ⟨g,0,none⟩=some (.slice A m c):=hb1.out.cell 0
  have HP1:=Lib.hid hp1
  have HW:Hid (∀ w',Mod (fun i=>i=g) w w'→w'.ownsRow (g+1) 139 1 (.slice A m c) m (U64 (words V m))):=fun w' hmm=>own_mod HO.out hmm fun k hk hx=>by
   have:=(HO.out.lt k hk).1
   omega
  clear hp1 c0 c6 f6 p0 hgl hpl HO hmk XB
  have hq0:(0+7) / 8=0:=rfl
  go_wp2_with fail
  go_loopw [1,16] (fun s i wr=>∃ (k q r d:Nat) (S:Option Addr),k≤m∧i=.int .i64 (k:Int)∧s=.int .i64 (r:Int)∧r≤64*k∧Hid (r=pop V (64*k))∧Hid (q=(k+7) / 8)∧Hid (Blk wr g 171 #[.slice A m c,.int .i64 (n:Int),.int .i64 ((pop V n:Nat):Int),x3,x4,x5,.slice S q d,.int .i64 0,qv]) ∧
   Hid (wr.ownsRow w.heap.size 157 1 (.slice S q d) q (U32 (aheadL V q)))∧Hid (Mod (fun i=>i=g) w wr)) (fun _ i _=>m - (intOf i).toNat)
  case atStart=>exact ⟨0,0,0,nb+1,S0,by omega,rfl,rfl,by omega,rfl,rfl,hb1.out,ho1.out,hm1.out⟩
  case round =>
   clear hb1 ho1 hm1 p1 b0 HP1 hq0
   obtain ⟨k,q,r,d,S,hk,rfl,rfl,hr,hrp,hqk,hbk,hok,hmk⟩:=hrel
   have hpk:=HP.out.mod hmk.out hgp
   have p0:wr.cell? ⟨pb,0,none⟩=some (.pointer (some ⟨g,0,none⟩)):=hpk.cell 0
   have c6:wr.cell? ⟨g,6,none⟩=some (.slice S q d):=hbk.out.cell 6
   have f6:=hbk.out.frozen 6
   have hgl:=hbk.out.lt
   have hpl:=hpk.lt
   have hq9:q≤3000:=by have:=hqk.out;omega
   by_cases hlt:k < m
   ·have hwk:=HW.out wr hmk.out
    obtain ⟨bw,ow,rfl,hbw,k1⟩:=(Rd.ofOwn hwk).u64 (by omega)
    have t1:=k1 k hlt
    rw [words_get _ _ _ hlt] at t1
    obtain ⟨x,hx⟩:∃ x,x=wd V k:=⟨_,rfl⟩
    have hx64:x < 2 ^ 64:=by rw [hx];exact wd_lt V k
    have hpn:=pop_words V k
    rw [← hx,← hrp.out] at hpn
    rw [← hx] at t1
    have OC:=Lib.hid (fun w'=>onesCount_p x w' hx64)
    have hpx:=pop_le x 64
    generalize pop x 64=px at *
    have HPN:=Lib.hid hpn
    have HPK:=Lib.hid hpk
    clear hwk k1 hx hpn hpk hx64
    by_cases h8:k%8=0
    ·have h8':(k:Int)%8=0:=by omega
     have hq1:Hid (q+1=(k+1+7) / 8):=by show _=_;have:=hqk.out;omega
     have NX:Hid (U32 (aheadL V q)++[Value.int .u32 (r:Int)]=U32 (aheadL V (q+1))):=by
      show _=_
      have:=hqk.out
      rw [aheadL_next,U32_append,show 512*q=64*k by omega,← hrp.out];rfl
     have w32:IntKind.u32.wrap (r:Int)=(r:Int):=by simp [IntKind.wrap,IntKind.signed,IntKind.bits];omega
     have e1:q+1≤maxLen:=by simp only [maxLen];omega
     have e2:(q+1)*4≤140737488355328:=by omega
     have hws:w.heap.size≤wr.heap.size:=hmk.out.size
     have hgo:Hid ((Value.slice S q d).ownBlock≠some g):=own_ne hok.out hbk.out (by decide)
     have hpo:Hid ((Value.slice S q d).ownBlock≠some pb):=own_ne hok.out HPK.out (by decide)
     go_wp2_with fail
     go_region_law
      (first
        | (refine step_append_lies _ (by rfl) _ _ _ (by rfl) w.heap.size 157 i0 _ 1 4 Tryz.underlying166 hi0 hz0 hz1 hz2 rfl (by omega) (.slice S q d) q (U32 (aheadL V q)) (by rfl) ((hok.out.alloc _).drew)
            ⟨wr.heap.size,0,none⟩ 1 1 [.int .u32 (r:Int)] (by rfl) (by rfl) (World.news_of_block (cs:=#[.int .u32 (r:Int)]) (t:=157) (fr:=(0,0)) (heap_alloc_new wr _)) (by simp [Value.oneCell'])
            (by omega) e1 e2 (by simp;omega) (wr.heap.size+1) (by simp) ?_;intro gg cap w3 hown1 hgrow hat hlt3
           have hgm:=Mod.ofGrown hgrow
           have b3:=((hbk.out.alloc (.cells #[.int .u32 (r:Int)] 157)).drewN 1).mod hgm (fun e=>hgo.out e.symm)
           have q3:=((HPK.out.alloc (.cells #[.int .u32 (r:Int)] 157)).drewN 1).mod hgm (fun e=>hpo.out e.symm)
           have e6:w3.cell? ⟨g,6,none⟩=some (.slice S q d):=b3.cell 6
           have g6:=b3.frozen 6
           have e0:w3.cell? ⟨pb,0,none⟩=some (.pointer (some ⟨g,0,none⟩)):=q3.cell 0
           have HGM:=Lib.hid hgm
           have HOW:=Lib.hid hown1
           have B3:=Lib.hid b3
           clear hgm hgrow hown1 hat b3 q3))
     all_goals (
      have HB4:Hid (Blk (w3.setCell ⟨g,6,none⟩ (.slice (some ⟨gg,0,none⟩) (q+1) cap)) g 171 #[.slice (some ⟨bw,ow,none⟩) m c,.int .i64 (n:Int),.int .i64 ((pop V n:Nat):Int),x3,x4,x5,.slice (some ⟨gg,0,none⟩) (q+1) cap,.int .i64 0,qv]):=by
       have:=B3.out.set_ 6 (.slice (some ⟨gg,0,none⟩) (q+1) cap)
       show Blk _ _ _ _
       simpa using this
      have HO4:Hid ((w3.setCell ⟨g,6,none⟩ (.slice (some ⟨gg,0,none⟩) (q+1) cap)).ownsRow w.heap.size 157 1 (.slice (some ⟨gg,0,none⟩) (q+1) cap) (q+1) (U32 (aheadL V (q+1)))):=by
       rw [← NX.out]
       exact own_mod HOW.out (Mod.setCell (p:=⟨g,6,none⟩) (Mod.refl (fun i=>i=g) w3) (fun _=>rfl) _) (fun i hi hx=>by have:=(HOW.out.lt i hi).1;have:=HGW.out;omega)
      have HM4:Hid (Mod (fun i=>i=g) w (w3.setCell ⟨g,6,none⟩ (.slice (some ⟨gg,0,none⟩) (q+1) cap))) :=
       Mod.setCell (p:=⟨g,6,none⟩) (((hmk.out.alloc _).drew).trans HGM.out (fun i hi hx=>by have:=(hok.out.lt i hx.symm).1;omega)) (fun _=>rfl) _
      clear B3 HGM HOW
      go_wp2_with fail
      refine (OC.out _).mono ?_
      rintro e w9 ⟨rfl,rfl⟩
      go_wp2_with fail
      go_roundw
      case rel=>exact ⟨k+1,q+1,r+px,cap,some ⟨gg,0,none⟩,by omega,by go_num,by go_num,by omega,HPN.out.symm,hq1.out,HB4.out,HO4.out,HM4.out⟩
      case measure=>simp [intOf];omega)
    ·have h8':((k:Int)%8 == 0)=false:=by rw [beq_eq_false_iff_ne];omega
     have hq1:Hid (q=(k+1+7) / 8):=by show _=_;have:=hqk.out;omega
     go_wp2_with fail
     refine (OC.out _).mono ?_
     rintro e w9 ⟨rfl,rfl⟩
     go_wp2_with fail
     go_roundw
     case rel=>exact ⟨k+1,q,r+px,d,S,by omega,by go_num,by go_num,by omega,HPN.out.symm,hq1.out,hbk.out,hok.out,hmk.out⟩
     case measure=>simp [intOf];omega
   ·obtain rfl:m=k:=by omega
    have HPK:=Lib.hid hpk
    have NX:Hid (U32 (aheadL V q)++[Value.int .u32 (r:Int)]=U32 (aheadL V (q+1))):=by
     show _=_
     have h1:=hqk.out
     have h2:=HBM.out
     rw [aheadL_next,U32_append,show q=nb by omega,PB.out,hrp.out,pop_all HV.out (by have:=HM.out;omega)];rfl
    have hqn:Hid (q=nb):=by show _=_;rw [hqk.out,HBM.out]
    have w32:IntKind.u32.wrap (r:Int)=(r:Int):=by simp [IntKind.wrap,IntKind.signed,IntKind.bits];omega
    have e1:q+1≤maxLen:=by simp only [maxLen];omega
    have e2:(q+1)*4≤140737488355328:=by omega
    have hws:w.heap.size≤wr.heap.size:=hmk.out.size
    have hgo:Hid ((Value.slice S q d).ownBlock≠some g):=own_ne hok.out hbk.out (by decide)
    have hpo:Hid ((Value.slice S q d).ownBlock≠some pb):=own_ne hok.out HPK.out (by decide)
    clear hpk
    go_wp2_with fail
    go_region_law
     (first
       | (refine step_append_lies _ (by rfl) _ _ _ (by rfl) w.heap.size 157 i0 _ 1 4 Tryz.underlying166 hi0 hz0 hz1 hz2 rfl (by omega) (.slice S q d) q (U32 (aheadL V q)) (by rfl) ((hok.out.alloc _).drew)
           ⟨wr.heap.size,0,none⟩ 1 1 [.int .u32 (r:Int)] (by rfl) (by rfl) (World.news_of_block (cs:=#[.int .u32 (r:Int)]) (t:=157) (fr:=(0,0)) (heap_alloc_new wr _)) (by simp [Value.oneCell'])
           (by omega) e1 e2 (by simp;omega) (wr.heap.size+1) (by simp) ?_;intro gg cap w3 hown1 hgrow hat hlt3
          have hgm:=Mod.ofGrown hgrow
          have b3:=((hbk.out.alloc (.cells #[.int .u32 (r:Int)] 157)).drewN 1).mod hgm (fun e=>hgo.out e.symm)
          have q3:=((HPK.out.alloc (.cells #[.int .u32 (r:Int)] 157)).drewN 1).mod hgm (fun e=>hpo.out e.symm)
          have e6:w3.cell? ⟨g,6,none⟩=some (.slice S q d):=b3.cell 6
          have g6:=b3.frozen 6
          have e0:w3.cell? ⟨pb,0,none⟩=some (.pointer (some ⟨g,0,none⟩)):=q3.cell 0
          have HGM:=Lib.hid hgm
          have HOW:=Lib.hid hown1
          have B3:=Lib.hid b3
          clear hgm hgrow hown1 hat b3 q3))
    all_goals (
      have HB4:Hid (Blk (w3.setCell ⟨g,6,none⟩ (.slice (some ⟨gg,0,none⟩) (q+1) cap)) g 171 #[.slice A m c,.int .i64 (n:Int),.int .i64 ((pop V n:Nat):Int),x3,x4,x5,.slice (some ⟨gg,0,none⟩) (q+1) cap,.int .i64 0,qv]):=by
       have:=B3.out.set_ 6 (.slice (some ⟨gg,0,none⟩) (q+1) cap)
       show Blk _ _ _ _
       simpa using this
      have HO4:Hid ((w3.setCell ⟨g,6,none⟩ (.slice (some ⟨gg,0,none⟩) (q+1) cap)).ownsRow w.heap.size 157 1 (.slice (some ⟨gg,0,none⟩) (q+1) cap) (q+1) (U32 (aheadL V (q+1)))):=by
       rw [← NX.out]
       exact own_mod HOW.out (Mod.setCell (p:=⟨g,6,none⟩) (Mod.refl (fun i=>i=g) w3) (fun _=>rfl) _) (fun i hi hx=>by have:=(HOW.out.lt i hi).1;have:=HGW.out;omega)
      have HM4:Hid (Mod (fun i=>i=g) w (w3.setCell ⟨g,6,none⟩ (.slice (some ⟨gg,0,none⟩) (q+1) cap))) :=
       Mod.setCell (p:=⟨g,6,none⟩) (((hmk.out.alloc _).drew).trans HGM.out (fun i hi hx=>by have:=(hok.out.lt i hx.symm).1;omega)) (fun _=>rfl) _
      clear B3 HGM HOW
      have d7:(w3.setCell ⟨g,6,none⟩ (.slice (some ⟨gg,0,none⟩) (q+1) cap)).cell? ⟨g,7,none⟩=some (.int .i64 0):=HB4.out.cell 7
      have g7:=HB4.out.frozen 7
      have AD:=Lib.hid (add64 ⟨g,7,none⟩ 0 _ d7 g7 (by omega) (by omega))
      go_wp2_with fail
      refine AD.out.mono ?_
      rintro e w9 ⟨rfl,rfl⟩
      go_wp2_with fail
      refine bodyPost_end (results_none rfl _ _ _) rfl ⟨rfl,some ⟨gg,0,none⟩,cap,?_,?_,?_⟩
      ·rw [← hqn.out]
       have:=HB4.out.set_ 7 (.int .i64 1)
       simpa using this
      ·rw [← hqn.out]
       exact own_mod (HO4.out.base_le' HGW.out) (Mod.setCell (p:=⟨g,7,none⟩) (Mod.refl (fun i=>i=g) _) (fun _=>rfl) _) (fun i hi hx=>by have:=(HO4.out.lt i hi).1;have:=HGW.out;omega)
      ·exact Mod.setCell (p:=⟨g,7,none⟩) HM4.out (fun _=>rfl) _)
set_option maxRecDepth 100000 in
set_option maxHeartbeats 1600000 in
theorem slow_p (g V n pb q:Nat) (w:World) (h:IdxAt w g V n false q) (hp:Blk w pb 133 #[.pointer (some ⟨g,0,none⟩)]) :
  Calls Tryz.prog 183 #[.pointer (some ⟨g,3,none⟩),.func (.func 171) #[] #[.pointer (some ⟨pb,0,none⟩)]] w fun e w'=>e=.returned (.tuple #[])∧IdxAt w' g V n true q∧Mod (fun i=>i=g) w w':=by
 obtain ⟨hV,hn,A,c,H,hb,ho,hd⟩:=h
 have hH:H=.slice none 0 0:=hd
 subst hH
 have hgp:pb≠g:=fun e=>by
  subst e
  unfold Blk at hb hp
  rw [hb] at hp
  simp at hp
 have c3:w.cell? ⟨g,3,none⟩=some (.int .u32 0):=hb.cell 3
 have c4:w.cell? ⟨g,4,none⟩=some (.int .i32 0):=hb.cell 4
 have f4:=hb.frozen 4
 have LK:=Lib.hid (lock_free ⟨g,4,none⟩ w c4 f4)
 have hb1:Blk (w.setCell ⟨g,4,none⟩ (.int .i32 1)) g 171 #[.slice A ((n+63) / 64) c,.int .i64 (n:Int),.int .i64 ((pop V n:Nat):Int),.int .u32 0,.int .i32 1,.int .u32 0,.slice none 0 0,.int .i64 0,.int .i64 (q:Int)]:=by
  have:=hb.set_ 4 (.int .i32 1)
  simpa [b01] using this
 have m1:Mod (fun i=>i=g) w (w.setCell ⟨g,4,none⟩ (.int .i32 1)):=Mod.setCell (p:=⟨g,4,none⟩) (Mod.refl (fun i=>i=g) w) (fun _=>rfl) _
 have ho1:(w.setCell ⟨g,4,none⟩ (.int .i32 1)).ownsRow (g+1) 139 1 (.slice A ((n+63) / 64) c) ((n+63) / 64) (U64 (words V ((n+63) / 64))):=own_mod ho m1 fun k hk hx=>by
  have:=(ho.lt k hk).1;omega
 have BD:=Lib.hid (build1_p g V n pb c A (.int .u32 0) (.int .i32 1) (.int .u32 0) (.int .i64 (q:Int)) _ hV hn hb1 ho1 (hp.mod m1 hgp))
 have d3:(w.setCell ⟨g,4,none⟩ (.int .i32 1)).cell? ⟨g,3,none⟩=some (.int .u32 0):=hb1.cell 3
 have hl:=run_call_load (P:=Tryz.prog) Tryz.func190 (by kernel_rfl) (by kernel_rfl) (by kernel_rfl) .u32 (by kernel_rfl) d3
 have hnot:∀ (x:Bool) (w:World),(Op.unary .not (.bool x)).run Tryz.prog w=.ok (.bool (!x)) w:=fun _ _=>rfl
 have HO:=Lib.hid ho1
 have HM1:=Lib.hid m1
 have HV:=Lib.hid (And.intro hV hn)
 clear hb hp hb1 m1 ho1 ho hd hgp hV c4 f4
 generalize w.setCell ⟨g,4,none⟩ (.int .i32 1)=w1 at *
 go_enter_defers Tryz.func183,Tryz.ntmps183
 go_wp2_with fail
 refine LK.out.mono ?_
 rintro e w' ⟨rfl,rfl⟩
 go_wp2_with (first | (go_at_call 182;go_in))
 refine BD.out.mono ?_
 rintro e w2 ⟨rfl,S,d,hb2,ho2,m2⟩
 have FIN:Hid (IdxAt ((w2.drew.setCell ⟨g,3,none⟩ (.int .u32 1)).setCell ⟨g,4,none⟩ (.int .i32 0)) g V n true q∧Mod (fun i=>i=g) w ((w2.drew.setCell ⟨g,3,none⟩ (.int .u32 1)).setCell ⟨g,4,none⟩ (.int .i32 0))):=by
  have m3:Mod (fun i=>i=g) w2 ((w2.drew.setCell ⟨g,3,none⟩ (.int .u32 1)).setCell ⟨g,4,none⟩ (.int .i32 0)):=Mod.setCell (p:=⟨g,4,none⟩) (Mod.setCell (p:=⟨g,3,none⟩) (Mod.drew (Mod.refl (fun i=>i=g) w2)) (fun _=>rfl) _) (fun _=>rfl) _
  have hm:Mod (fun i=>i=g) w ((w2.drew.setCell ⟨g,3,none⟩ (.int .u32 1)).setCell ⟨g,4,none⟩ (.int .i32 0)):=(HM1.out.trans m2 fun _ _ h=>h).trans m3 fun _ _ h=>h
  refine ⟨⟨HV.out.1,HV.out.2,A,c,.slice S (blk n+1) d,?_,?_,S,d,rfl,?_⟩,hm⟩
  ·have:=((hb2.below (Below.refl _ _).drew).set_ 3 (.int .u32 1)).set_ 4 (.int .i32 0)
   simpa [b01] using this
  ·exact own_mod (own_mod HO.out m2 fun k hk hx=>by have:=(HO.out.lt k hk).1;omega) m3 fun k hk hx=>by
    have:=(HO.out.lt k hk).1;omega
  ·exact own_mod ho2 m3 fun k hk hx=>by have:=(ho2.lt k hk).1;omega
 have e3:w2.cell? ⟨g,3,none⟩=some (.int .u32 0):=hb2.cell 3
 have e4:w2.cell? ⟨g,4,none⟩=some (.int .i32 1):=hb2.cell 4
 have g3:=hb2.frozen 3
 have g4:=hb2.frozen 4
 have HB2:=Lib.hid hb2
 clear hb2 ho2 m2 d3 hl
 go_wp2_with fail
 refine leaves_cons (f:=193) (args:=#[.pointer (some ⟨g,3,none⟩),.bool true]) (by simp) (by simp [go_sem]) ?_
 refine (store_deferred ⟨g,3,none⟩ (.int .u32 0) .returning _ e3 g3).mono ?_
 rintro e u' w'' ⟨rfl,rfl,rfl⟩
 refine leaves_cons (f:=192) (args:=#[.pointer (some ⟨g,4,none⟩)]) (by simp [settle]) (by simp [go_sem]) ?_
 refine (unlock_deferred ⟨g,4,none⟩ _ _ ?_ ?_).mono ?_
 ·exact (World.cell?_setCell_other _ ⟨g,3,none⟩ ⟨g,4,none⟩ _ (by simp)).trans e4
 ·exact ((HB2.out.below (Below.refl _ _).drew).set_ 3 (.int .u32 1)).frozen 4
 rintro e u' w'' ⟨rfl,rfl,rfl⟩
 have F:=FIN.out
 simp [Leaves,settle,results,Tryz.results183]
 exact F
set_option maxRecDepth 100000 in
set_option maxHeartbeats 1600000 in
theorem do_first (g V n pb q:Nat) (w:World) (h:IdxAt w g V n false q) (hp:Blk w pb 133 #[.pointer (some ⟨g,0,none⟩)]) :
  Calls Tryz.prog 170 #[.pointer (some ⟨g,3,none⟩),.func (.func 171) #[] #[.pointer (some ⟨pb,0,none⟩)]] w fun e w'=>e=.returned (.tuple #[])∧IdxAt w' g V n true q∧Mod (fun i=>i=g) w w':=by
 have SL:=Lib.hid (slow_p g V n pb q w h hp)
 obtain ⟨hV,hn,A,c,H,hb,ho,hd⟩:=h
 have c3:w.cell? ⟨g,3,none⟩=some (.int .u32 0):=hb.cell 3
 have hl:=run_call_load (P:=Tryz.prog) Tryz.func190 (by kernel_rfl) (by kernel_rfl) (by kernel_rfl) .u32 (by kernel_rfl) c3
 have hnot:∀ (x:Bool) (w:World),(Op.unary .not (.bool x)).run Tryz.prog w=.ok (.bool (!x)) w:=fun _ _=>rfl
 clear hb ho hd hp
 go_enter Tryz.func170,Tryz.ntmps170
 go_wp2_with (first | (go_at_call 182;go_in))
 refine SL.out.mono ?_
 rintro e w2 ⟨rfl,h2⟩
 have H2:=Lib.hid h2
 clear h2
 go_wp2_with fail
 exact bodyPost_end (results_none rfl _ _ _) rfl ⟨rfl,H2.out⟩
theorem build_p (g V n q:Nat) (d:Bool) (w:World) (h:IdxAt w g V n d q) :
  Calls Tryz.prog 162 #[.pointer (some ⟨g,0,none⟩)] w fun e w'=>e=.returned (.tuple #[])∧IdxAt w' g V n true q∧Mod (fun i=>i=g) w w':=by
 have hmf:∀ (fn:Fn) (first cap:Array Value) (w:World),(Instr.makeFunc fn first cap).run Tryz.prog w=.ok (.func fn first cap) w:=fun _ _ _ _=>rfl
 have hbx:=(Below.refl w.heap.size w).alloc (Nat.le_refl _) (.cells #[.pointer (some ⟨g,0,none⟩)] 133)
 have h1:=h.below hbx
 have m0:Mod (fun i=>i=g) w (w.alloc (.cells #[.pointer (some ⟨g,0,none⟩)] 133)):=Mod.alloc (Mod.refl _ w) _
 have hgl:=h.lt
 cases d with
 | false =>
   have DF:=Lib.hid (do_first g V n w.heap.size q _ h1 (Blk.new w _ _))
   have M0:=Lib.hid m0
   clear h h1 hbx m0
   go_enter Tryz.func162,Tryz.ntmps162
   go_wp2_with fail
   refine DF.out.mono ?_
   rintro e w2 ⟨rfl,h2,m2⟩
   have H2:=Lib.hid h2
   have M2:Hid (Mod (fun i=>i=g) w w2):=M0.out.trans m2 fun _ _ h=>h
   clear h2 m2
   go_wp2_with fail
   exact bodyPost_end (results_none rfl _ _ _) rfl ⟨rfl,H2.out,M2.out⟩
 | true =>
   have c3:(w.alloc (.cells #[.pointer (some ⟨g,0,none⟩)] 133)).cell? ⟨g,3,none⟩=some (.int .u32 1):=by
    obtain ⟨_,_,A,c,H,hb,_⟩:=h1
    exact hb.cell 3
   have DD:=Lib.hid (fun fv=>do_done ⟨g,3,none⟩ fv _ c3)
   have M0:=Lib.hid m0
   have H1:=Lib.hid h1
   clear h h1 hbx m0 c3
   go_enter Tryz.func162,Tryz.ntmps162
   go_wp2_with fail
   refine (DD.out _).mono ?_
   rintro e w2 ⟨rfl,rfl⟩
   go_wp2_with fail
   exact bodyPost_end (results_none rfl _ _ _) rfl ⟨rfl,H1.out,M0.out⟩
end Go.Proofs.YtijbdnhlpbcabaaGreatDoor
