/- The library's Clone and Equal of bytes. -/
import Derived.Test.YtajjgpkahljjmaaGreatDoorZg11
import Derived.Laws.BytesArg
import Derived.ArgAppend
import Derived.RegionTactic
import Derived.Deep.QuietTactic
import Derived.BigQuiet
import Derived.Test.YtajjgpkahljjmaaGreatDoorZg6
import Derived.Test.YtajjgpkahljjmaaGreatDoorZg5
import Derived.Deep.RegionWith
open Go.RowKit
set_option linter.unusedVariables false
namespace Go.Proofs.YtajjgpkahljjmaaGreatDoor
def NewU8 (w:World) (bs:List Nat) (e:Ending) (w':World):Prop :=
 ∃ A c,e=.returned (.slice A bs.length c)∧bs.length≤c∧c≤maxLen∧w'.ownsRow w.heap.size 5 1 (.slice A bs.length c) bs.length (U8 bs)∧Below w.heap.size w w'
theorem NewU8.mk {w w':World} {bs:List Nat} {e:Ending} {v:Value} (he:e=.returned v) (h:w'.ownsRow w.heap.size 5 1 v bs.length (U8 bs)) (hb:Below w.heap.size w w'):NewU8 w bs e w':=by
 obtain ⟨A,c,rfl,h1,h2⟩:=own_form h
 exact ⟨A,c,he,h1,h2,h,hb⟩
theorem conv_bytes (A:Option Addr) (n c B:Nat) (bs:List Nat) (w:World) (h:Rd w B A n (U8 bs)) :
  (convert 23 9 (.slice A n c)).run Tryz.prog w=.ok (.string (strOfNums (bs.map fun (b:Nat)=>(b:Int)))) w:=by
 have hl:bs.length=n:=by rw [← h.len,U8_len]
 rcases Nat.eq_zero_or_pos n with h0 | h0
 ·subst h0
  obtain rfl:bs=[]:=List.eq_nil_of_length_eq_zero hl
  rw [run_convert_bytes_string w 23 9 5 _ 0 c Tryz.underlying23 Tryz.underlying5 Tryz.underlying9]
  cases A <;> simp [Conv.bytesToString,loadCells,loadCellsFrom,strOfNums] <;> rfl
 ·obtain ⟨b,o,rfl,_,hc⟩:=h.at_ h0
  refine run_convert_bytes_arg (P:=Tryz.prog) w 23 5 Tryz.underlying23 Tryz.underlying5 b o n c _ (by simpa using hl) (fun i hi=>?_) 9 Tryz.underlying9
  rw [hc i (by rw [U8_len];omega),U8_get]
  simp [List.getD_eq_getElem?_getD,List.getElem?_eq_getElem (show i < bs.length by omega)]
theorem fill_next (X:List Nat) (k m:Nat) (hX:X.length=m) (hk:k < m) :
  ((U8 (X.take k++List.replicate (m - k) 0)).toArray).setIfInBounds k (.int .u8 ((X.getD k 0:Nat):Int))=(U8 (X.take (k+1)++List.replicate (m - (k+1)) 0)).toArray:=by
 rw [show X.getD k 0=X[k] by simp [List.getD_eq_getElem?_getD,List.getElem?_eq_getElem (show k < X.length by omega)]]
 apply Array.toList_inj.1
 rw [Array.toList_setIfInBounds]
 show (U8 (X.take k++List.replicate (m - k) 0)).set k _=U8 _
 have e1:List.replicate (m - k) 0=0 :: List.replicate (m - (k+1)) 0:=by
  rw [show m - k=(m - (k+1))+1 by omega,List.replicate_succ]
 rw [e1,U8_append,← List.take_append_getElem (by omega:k < X.length),List.append_assoc,U8_append,List.set_append_right _ _ (by rw [U8_len,List.length_take];omega)]
 have e2:k - (U8 (X.take k)).length=0:=by rw [U8_len,List.length_take];omega
 rw [e2]
 rfl
theorem at_p (g V n i B:Nat) (A:Option Addr) (w:World) (h:VecB w B g V n A) (hi:i < n) :
  Calls Tryz.prog 105 #[.pointer (some ⟨g,0,none⟩),.int .i64 (i:Int)] w fun e w'=>e=.returned (.int .i64 ((V / 2 ^ i%2:Nat):Int))∧w=w':=by
 have L:=Lib.hid (blen_p g V n A w h)
 have G:=Lib.hid (get_p g V n i 1 A w h (by omega) (by omega) (by omega))
 have hn:=h.2.1
 have hlt:¬ (n:Int)≤(i:Int):=by omega
 have hb:V / 2 ^ i%2 ^ 1 < 2:=Nat.mod_lt _ (by decide)
 rw [show V / 2 ^ i%2=V / 2 ^ i%2 ^ 1 by rw [Nat.pow_one]]
 generalize V / 2 ^ i%2 ^ 1=x at *
 clear h
 go_enter Tryz.func105,Tryz.ntmps105
 go_wp2_with (first
  | (go_at_call 23;refine L.out.mono ?_;rintro e w' ⟨rfl,rfl⟩)
  | (go_at_call 132;refine G.out.mono ?_;rintro e w' ⟨rfl,rfl⟩))
 go_ret
 exact ⟨rfl,rfl⟩
set_option maxRecDepth 20000
def wv:List Nat→Nat
 | []=>0
 | k :: ks=>k%4+4*wv ks
theorem wv_snoc (k:Nat):∀ ks:List Nat,wv (ks++[k])=put (wv ks) (2*ks.length) k 2
 | []=>by simp [wv,put]
 | x :: ks=>by
   show x%4+4*wv (ks++[k])=_
   rw [wv_snoc k ks]
   unfold put
   show _=(x%4+4*wv ks)+_
   rw [List.length_cons,show 2*(ks.length+1)=2*ks.length+2 by omega,Nat.pow_add,show (2:Nat) ^ 2=4 from rfl,← Nat.mul_assoc]
   generalize k%4*2 ^ (2*ks.length)=q
   omega
theorem wv_at:∀ (ks:List Nat) (i:Nat),i < ks.length→wv ks / 2 ^ (2*i)%2+2*(wv ks / 2 ^ (2*i+1)%2)=ks.getD i 0%4
 | [],i,h=>absurd h (by simp)
 | x :: ks,0,h=>by
   show (x%4+4*wv ks) / 2 ^ 0%2+2*((x%4+4*wv ks) / 2 ^ 1%2)=x%4
   rw [Nat.pow_zero,Nat.pow_one];omega
 | x :: ks,i+1,h=>by
   have ih:=wv_at ks i (by simpa using h)
   show (x%4+4*wv ks) / 2 ^ (2*(i+1))%2+2*((x%4+4*wv ks) / 2 ^ (2*(i+1)+1)%2)=ks.getD i 0%4
   have e:∀ j,(x%4+4*wv ks) / 2 ^ (j+2)=wv ks / 2 ^ j:=fun j=>by
    rw [Nat.pow_add,show (2:Nat) ^ 2=4 from rfl,Nat.mul_comm (2 ^ j) 4,← Nat.div_div_eq_div_mul]
    congr 1;omega
   rw [show 2*(i+1)=2*i+2 by omega,show 2*i+2+1=2*i+1+2 by omega,e,e]
   exact ih
theorem wv_lo (ks:List Nat) (i:Nat) (h:i < ks.length):wv ks / 2 ^ (2*i)%2=ks.getD i 0%2:=by have:=wv_at ks i h;omega
theorem wv_hi (ks:List Nat) (i:Nat) (h:i < ks.length):wv ks / 2 ^ (2*i+1)%2=ks.getD i 0 / 2%2:=by have:=wv_at ks i h;omega
def WordAt (w:World) (B g:Nat) (ks:List Nat):Prop :=
 (∀ x∈ks,x < 4)∧B≤g∧∃ gv A,B≤gv∧Blk w g 100 #[.pointer (some ⟨gv,0,none⟩)]∧VecAt w gv (wv ks) (2*ks.length) A
theorem WordAt.below {w w':World} {B g:Nat} {ks:List Nat} (h:WordAt w B g ks) (z:Below w.heap.size w w'):WordAt w' B g ks:=by
 obtain ⟨h1,h2,gv,A,h3,h4,h5⟩:=h
 exact ⟨h1,h2,gv,A,h3,h4.below z,h5.below z⟩
theorem WordAt.base {w:World} {B B' g:Nat} {ks:List Nat} (h:WordAt w B g ks) (z:B'≤B):WordAt w B' g ks:=by
 obtain ⟨h1,h2,gv,A,h3,h4,h5⟩:=h
 exact ⟨h1,by omega,gv,A,by omega,h4,h5⟩
theorem mnew_p (w:World):Calls Tryz.prog 69 #[] w fun e w'=>∃ g,e=.returned (.pointer (some ⟨g,0,none⟩))∧WordAt w' w.heap.size g []∧Below w.heap.size w w':=by
 have NP:=Lib.hid (bnew_p w)
 go_enter Tryz.func69,Tryz.ntmps69
 go_wp2_with fail
 refine NP.out.mono ?_
 rintro e w1 ⟨rfl,hv,z⟩
 go_wp2_with fail
 go_ret
 refine ⟨_,rfl,⟨by simp,z.size,w.heap.size,none,Nat.le_refl _,Blk.new w1 _ _,?_⟩,z.alloc z.size _⟩
 exact hv.below ((Below.refl _ _).alloc (Nat.le_refl _) _)
theorem foot_word {w:World} {B g gv V n:Nat} {A:Option Addr} {cs:Array Value} (h:Blk w g 100 cs) (hv:VecB w B gv V n A):¬ foot gv A g:=by
 obtain ⟨h1,h2,c,h3,h4⟩:=hv
 rintro (e | ⟨b,e,rfl⟩)
 ·subst e
  unfold Blk at h h3
  rw [h] at h3
  simp at h3
 ·exact own_ne h4 h (by decide) (by rw [e];rfl)
set_option maxHeartbeats 1000000 in
theorem mput_p (B g:Nat) (ks:List Nat) (k:Nat) (w:World) (h:WordAt w B g ks) (hk:k < 4) (hn:ks.length≤400000) :
  Calls Tryz.prog 84 #[.pointer (some ⟨g,0,none⟩),.int .i64 (k:Int)] w fun e w'=>e=.returned (.tuple #[])∧WordAt w' B g (ks++[k])∧Below B w w':=by
 obtain ⟨h1,h2,gv,A,h3,h4,h5⟩:=h
 have np:=num_p gv (wv ks) (2*ks.length) k 2 A w h5 (by omega) (by omega) (by omega)
 rw [show cnt64 2=2 by decide] at np
 have NP:=Lib.hid np
 clear np
 have c0:w.cell? ⟨g,0,none⟩=some (.pointer (some ⟨gv,0,none⟩)):=h4.cell 0
 have hw:IntKind.u64.wrap (k:Int)=(k:Int):=by simp [IntKind.wrap,IntKind.signed,IntKind.bits];omega
 have H4:=Lib.hid h4
 have H5:=Lib.hid h5
 have H1:=Lib.hid h1
 clear h4 h5 h1
 go_enter Tryz.func84,Tryz.ntmps84
 go_wp2_with fail
 refine NP.out.mono ?_
 intro e w1 hp
 have hb:=NumPost.below hp H5.out
 obtain ⟨rfl,A',hv,hm,ha⟩:=hp
 have W1:Hid (WordAt w1 B g (ks++[k])):=by
  refine ⟨fun x hx=>?_,h2,gv,A',h3,H4.out.mod hm (foot_word H4.out H5.out),?_⟩
  ·rcases List.mem_append.1 hx with y | y
   ·exact H1.out x y
   ·simp at y;omega
  ·rw [wv_snoc,List.length_append,List.length_singleton,show 2*(ks.length+1)=2*ks.length+2 by omega]
   exact hv
 have Z1:=Lib.hid (hb.mono h3)
 clear hb hv hm ha NP
 go_wp2_with fail
 refine bodyPost_end (results_none rfl _ _ _) rfl ⟨rfl,W1.out,Z1.out⟩
def WordS (w:World) (B g:Nat) (ks:List Nat) (S:Nat→Prop):Prop :=
 (∀ x∈ks,x < 4)∧B≤g∧∃ gv A,B≤gv∧Blk w g 100 #[.pointer (some ⟨gv,0,none⟩)]∧VecAt w gv (wv ks) (2*ks.length) A∧∀ i,foot gv A i→¬ S i
theorem WordS.at_ {w:World} {B g:Nat} {ks:List Nat} {S:Nat→Prop} (h:WordS w B g ks S):WordAt w B g ks:=by
 obtain ⟨h1,h2,gv,A,h3,h4,h5,_⟩:=h
 exact ⟨h1,h2,gv,A,h3,h4,h5⟩
theorem WordAt.sep {w:World} {B g:Nat} {ks:List Nat} (h:WordAt w B g ks) {S:Nat→Prop} (hS:∀ i,S i→∃ cs,Blk w i 3 cs):WordS w B g ks S:=by
 obtain ⟨h1,h2,gv,A,h3,h4,h5⟩:=h
 refine ⟨h1,h2,gv,A,h3,h4,h5,fun i hi hs=>?_⟩
 obtain ⟨cs,hb⟩:=hS i hs
 obtain ⟨_,_,c,b1,b2⟩:=h5
 rcases hi with e | ⟨b,e,rfl⟩
 ·subst e
  unfold Blk at hb b1
  rw [hb] at b1
  simp at b1
 ·exact own_ne b2 hb (by decide) (by rw [e];rfl)
set_option maxHeartbeats 1000000 in
theorem mput_s (B g:Nat) (ks:List Nat) (k:Nat) (w:World) (S:Nat→Prop) (h:WordS w B g ks S) (hk:k < 4) (hn:ks.length≤400000) (hS:∀ i,S i→i < w.heap.size) :
  Calls Tryz.prog 84 #[.pointer (some ⟨g,0,none⟩),.int .i64 (k:Int)] w fun e w'=>e=.returned (.tuple #[])∧WordS w' B g (ks++[k]) S∧Below B w w'∧Mod (fun i=>¬ S i) w w':=by
 obtain ⟨h1,h2,gv,A,h3,h4,h5,h6⟩:=h
 have np:=num_p gv (wv ks) (2*ks.length) k 2 A w h5 (by omega) (by omega) (by omega)
 rw [show cnt64 2=2 by decide] at np
 have NP:=Lib.hid np
 clear np
 have c0:w.cell? ⟨g,0,none⟩=some (.pointer (some ⟨gv,0,none⟩)):=h4.cell 0
 have hw:IntKind.u64.wrap (k:Int)=(k:Int):=by simp [IntKind.wrap,IntKind.signed,IntKind.bits];omega
 have H4:=Lib.hid h4
 have H5:=Lib.hid h5
 have H1:=Lib.hid h1
 have H6:=Lib.hid h6
 clear h4 h5 h1 h6
 go_enter Tryz.func84,Tryz.ntmps84
 go_wp2_with fail
 refine NP.out.mono ?_
 intro e w1 hp
 have hb:=NumPost.below hp H5.out
 obtain ⟨rfl,A',hv,hm,ha⟩:=hp
 have W1:Hid (WordS w1 B g (ks++[k]) S):=by
  refine ⟨fun x hx=>?_,h2,gv,A',h3,H4.out.mod hm (foot_word H4.out H5.out),?_,fun i hi hs=>?_⟩
  ·rcases List.mem_append.1 hx with y | y
   ·exact H1.out x y
   ·simp at y;omega
  ·rw [wv_snoc,List.length_append,List.length_singleton,show 2*(ks.length+1)=2*ks.length+2 by omega]
   exact hv
  ·rcases ha with rfl | ⟨b,rfl,hb⟩
   ·exact H6.out i hi hs
   ·rcases hi with e | ⟨b',e,e2⟩
    ·exact H6.out i (.inl e) hs
    ·have:=hS i hs
     have e3:b=b':=(Addr.mk.inj (Option.some.inj e)).1
     omega
 have Z1:=Lib.hid (hb.mono h3)
 have M1:Hid (Mod (fun i=>¬ S i) w w1):=hm.mono fun i _ hi hs=>H6.out i hi hs
 clear hb hv hm ha NP
 go_wp2_with fail
 refine bodyPost_end (results_none rfl _ _ _) rfl ⟨rfl,W1.out,Z1.out,M1.out⟩
theorem mlen_p (B g:Nat) (ks:List Nat) (w:World) (h:WordAt w B g ks):Calls Tryz.prog 20 #[.pointer (some ⟨g,0,none⟩)] w fun e w'=>e=.returned (.int .i64 (ks.length:Int))∧w=w':=by
 obtain ⟨h1,h2,gv,A,h3,h4,h5⟩:=h
 have LP:=Lib.hid (blen_p gv _ _ A w h5)
 have hl:=h5.2.1
 have c0:w.cell? ⟨g,0,none⟩=some (.pointer (some ⟨gv,0,none⟩)):=h4.cell 0
 obtain ⟨n2,hn2⟩:∃ n2,n2=2*ks.length:=⟨_,rfl⟩
 rw [← hn2] at LP
 have e1:(n2:Int) / 2=(ks.length:Int):=by omega
 have e2:(n2:Int).tdiv 2=(ks.length:Int):=by rw [Int.tdiv_eq_ediv_of_nonneg (by omega)];exact e1
 have ew:IntKind.i64.wrap (ks.length:Int)=(ks.length:Int):=by simp [IntKind.wrap,IntKind.signed,IntKind.bits];omega
 clear hn2 h4 h5 hl
 go_enter Tryz.func20,Tryz.ntmps20
 go_wp2_with fail
 refine LP.out.mono ?_
 rintro e w1 ⟨rfl,rfl⟩
 go_wp2_with fail
 go_ret
 exact ⟨by first | rfl | simp [ew],rfl⟩
set_option maxHeartbeats 4000000 in
theorem mat_p (B g:Nat) (ks:List Nat) (i:Nat) (w:World) (h:WordAt w B g ks) (hi:i < ks.length) (hn:ks.length≤400000):Calls Tryz.prog 65 #[.pointer (some ⟨g,0,none⟩),.int .i64 (i:Int)] w fun e w'=>e=.returned (.int .i64 ((ks.getD i 0:Nat):Int))∧∃ j,w'=w.drewN j:=by
 have LP:=Lib.hid (mlen_p B g ks w h)
 obtain ⟨h1,h2,gv,A,h3,h4,h5⟩:=h
 obtain ⟨a,ha⟩:∃ a,a=2*i:=⟨_,rfl⟩
 obtain ⟨a1,ha1⟩:∃ a1,a1=2*i+1:=⟨_,rfl⟩
 obtain ⟨bt,hbt⟩:∃ bt:Nat→Nat,∀ p,bt p=wv ks / 2 ^ p%2:=⟨_,fun _=>rfl⟩
 have AT:Hid (∀ (j p:Nat),p < 2*ks.length→Calls Tryz.prog 105 #[.pointer (some ⟨gv,0,none⟩),.int .i64 (p:Int)] (w.drewN j) fun e w'=>e=.returned (.int .i64 ((bt p:Nat):Int))∧w.drewN j=w'):=fun j p hp=>by
  rw [hbt];exact at_p gv _ _ p (gv+1) A (w.drewN j) (VecB.below h5 (below_draws (Below.refl _ _) j)) hp
 have hx:bt a=ks.getD i 0%2:=by rw [hbt,ha];exact wv_lo ks i hi
 have hy:bt a1=ks.getD i 0 / 2%2:=by rw [hbt,ha1];exact wv_hi ks i hi
 have hal:a < 2*ks.length:=by omega
 have ha1l:a1 < 2*ks.length:=by omega
 have AT0:=Lib.hid (fun j=>AT.out j a hal)
 have AT1:=Lib.hid (fun j=>AT.out j a1 ha1l)
 have c0:w.cell? ⟨g,0,none⟩=some (.pointer (some ⟨gv,0,none⟩)):=h4.cell 0
 have hk4:ks.getD i 0 < 4:=h1 _ (by rw [List.getD_eq_getElem?_getD,List.getElem?_eq_getElem hi];exact List.getElem_mem hi)
 generalize ks.getD i 0=k at *
 have f1:2*(i:Int)=(a:Int):=by omega
 have f2:(a:Int)+1=(a1:Int):=by omega
 have g1:IntKind.i64.wrap (a:Int)=(a:Int):=by simp [IntKind.wrap,IntKind.signed,IntKind.bits];omega
 have g2:IntKind.i64.wrap (a1:Int)=(a1:Int):=by simp [IntKind.wrap,IntKind.signed,IntKind.bits];omega
 obtain ⟨y2,hy2⟩:∃ y2,y2=2*bt a1:=⟨_,rfl⟩
 have f3:2*((bt a1:Nat):Int)=(y2:Int):=by omega
 have g3:IntKind.i64.wrap (y2:Int)=(y2:Int):=by simp [IntKind.wrap,IntKind.signed,IntKind.bits];omega
 have f4:((bt a:Nat):Int)+(y2:Int)=(k:Int):=by omega
 have g4:IntKind.i64.wrap (k:Int)=(k:Int):=by simp [IntKind.wrap,IntKind.signed,IntKind.bits];omega
 have hlt:¬ (ks.length:Int)≤(i:Int):=by omega
 have hlt2:decide ((ks.length:Int)≤(i:Int))=false:=by rw [decide_eq_false_iff_not];exact hlt
 clear h4 h5 ha ha1 hx hy hy2 h1 hbt hal ha1l AT
 have AT:Hid (∀ (j p:Nat),(p=a∨p=a1)→Calls Tryz.prog 105 #[.pointer (some ⟨gv,0,none⟩),.int .i64 (p:Int)] (w.drewN j) fun e w'=>e=.returned (.int .i64 ((bt p:Nat):Int))∧w.drewN j=w'):=fun j p hp=>by
  rcases hp with rfl | rfl
  ·exact AT0.out j
  ·exact AT1.out j
 clear AT0 AT1
 go_enter Tryz.func65,Tryz.ntmps65
 go_wp2_with fail
 refine LP.out.mono ?_
 rintro e w' ⟨rfl,rfl⟩
 go_wp2_with fail
 go_quiet ((go_at_call 105;exact (AT.out _ _ (by first | exact .inl rfl | exact .inr rfl)).mono fun e w' h=>⟨h.1,_,h.2.symm⟩))
 go_wp2_with fail
 go_ret
 exact ⟨rfl,_,rfl⟩
def signN (k:Nat):Nat:=[40,41,91,93].getD k 0
def textM (ks:List Nat):ByteArray:=strOfNums (ks.map fun k=>((signN k:Nat):Int))
set_option maxHeartbeats 4000000 in
theorem mtext_p (B g:Nat) (ks:List Nat) (w:World) (h:WordAt w B g ks) (hn:ks.length≤400000) :
  Calls Tryz.prog 18 #[.pointer (some ⟨g,0,none⟩)] w fun e w'=>e=.returned (.string (textM ks))∧Below w.heap.size w w':=by
 have LP:=Lib.hid (mlen_p B g ks w h)
 obtain ⟨n,hnn⟩:∃ n,n=ks.length:=⟨_,rfl⟩
 rw [← hnn] at LP hn
 obtain ⟨X,hX⟩:∃ X,X=ks.map signN:=⟨_,rfl⟩
 have HX:Hid (X.length=n):=by show _=_;rw [hX,List.length_map,hnn]
 have HT:Hid (textM ks=strOfNums (X.map fun (b:Nat)=>(b:Int))):=by
  show _=_
  rw [hX,textM,List.map_map];rfl
 have H4:=Lib.hid h.1
 have XG:Hid (∀ i,i < n→∃ k,k < 4∧ks.getD i 0=k∧X.getD i 0=signN k):=fun i hi=>by
  have hil:i < ks.length:=by omega
  refine ⟨ks.getD i 0,H4.out _ (by rw [List.getD_eq_getElem?_getD,List.getElem?_eq_getElem hil];exact List.getElem_mem hil),rfl,?_⟩
  rw [hX];simp [List.getD_eq_getElem?_getD,hil]
 have AP:Hid (∀ (i:Nat) (W:World),i < n→Below w.heap.size w W→Calls Tryz.prog 65 #[.pointer (some ⟨g,0,none⟩),.int .i64 (i:Int)] W fun e w'=>e=.returned (.int .i64 ((ks.getD i 0:Nat):Int))∧Below W.heap.size W w'):=fun i W hi z =>
  (mat_p B g ks i W (h.below z) (by omega) (by omega)).mono fun e w' ⟨h1,j,h2⟩=>⟨h1,by rw [h2];exact below_draws (Below.refl _ _) j⟩
 obtain ⟨i0,hi0,hz0,hz1,hz2⟩:=info_parts info_u8
 have hmk:=run_make_one (P:=Tryz.prog) 23 5 i0 (.int .u8 0) 1 Tryz.underlying23 hi0 hz0 hz1 hz2 rfl .i64 .i64 n (by omega) (by omega)
 clear h hX hnn H4
 go_enter Tryz.func18,Tryz.ntmps18
 go_wp2_with fail
 refine LP.out.mono ?_
 rintro e w' ⟨rfl,rfl⟩
 go_wp2_with fail
 go_loopw [10] (fun i wr=>∃ k:Nat,k≤n∧i=.int .i64 k∧Blk wr w.heap.size 5 (U8 (X.take k++List.replicate (n - k) 0)).toArray∧Below w.heap.size w wr) (fun i _=>n - (intOf i).toNat)
 case atStart =>
  refine ⟨0,by omega,rfl,?_,(Below.refl _ _).alloc (Nat.le_refl _) _⟩
  have:=Blk.new w 5 (Array.replicate n (.int .u8 0))
  simpa [U8] using this
 case round =>
  obtain ⟨k,hk,rfl,hbk,hbl⟩:=hrel
  by_cases hlt:k < n
  ·obtain ⟨q,hq4,hq,hxq⟩:=XG.out k hlt
   have AT:=Lib.hid (AP.out k wr hlt hbl)
   rw [hq] at AT
   have hf:=fill_next X k n HX.out hlt
   rw [hxq] at hf
   have HFX:=Lib.hid hf
   have hqI:(q:Int)=0∨(q:Int)=1∨(q:Int)=2∨(q:Int)=3:=by omega
   have hsg:∀ W:World,(Instr.index 9 (.string { data:=#[40,41,91,93] }) (.int .i64 (q:Int))).run Tryz.prog W=.ok (.int .u8 ((signN q:Nat):Int)) W:=fun W=>by
    rcases (show q=0∨q=1∨q=2∨q=3 by omega) with rfl | rfl | rfl | rfl <;> rfl
   have hs256:signN q < 256:=by
    rcases (show q=0∨q=1∨q=2∨q=3 by omega) with rfl | rfl | rfl | rfl <;> decide
   generalize signN q=y at *
   clear hf hq hxq hqI hq4
   obtain ⟨z,hz⟩:∃ z,(U8 (X.take k++List.replicate (n - k) 0)).toArray[k]?=some z:=⟨_,Array.getElem?_eq_getElem (by simp [U8_len];have:=HX.out;omega)⟩
   have HBK:=Lib.hid hbk
   have HBL:=Lib.hid hbl
   have HZ:=Lib.hid hz
   clear hbk hbl hz
   go_wp2_with fail
   refine AT.out.mono ?_
   rintro e w2 ⟨rfl,z2⟩
   have hbk2:=HBK.out.below z2
   have tz:w2.cell? ⟨w.heap.size,k,none⟩=some z:=(hbk2.cell k).trans HZ.out
   have fz:w2.frozen? ⟨w.heap.size,k,none⟩=false:=hbk2.frozen k
   have NB:=Lib.hid (hbk2.set_ k (.int .u8 (y:Int)))
   have ZB:=Lib.hid ((HBL.out.trans (z2.mono HBL.out.size)).setCell (p:=⟨w.heap.size,k,none⟩) (Nat.le_refl _) (.int .u8 (y:Int)))
   clear hbk2 z2 HBK HBL AT
   go_wp2_with fail
   go_roundw
   case rel =>
    refine ⟨k+1,by omega,by go_num,?_,ZB.out⟩
    have:=NB.out
    rw [HFX.out] at this
    exact this
   case measure=>simp [intOf];omega
  ·obtain rfl:k=n:=by omega
   rw [Nat.sub_self,List.replicate_zero,List.append_nil,List.take_of_length_le (by rw [HX.out];exact Nat.le_refl _)] at hbk
   have hend:Rd wr (w.heap.size+1) (some ⟨w.heap.size,0,none⟩) k (U8 X) :=
    ⟨by rw [U8_len,HX.out],fun _=>⟨_,_,rfl,Nat.lt_succ_self _,fun j hj=>by rw [Nat.zero_add,hbk.cell];simp at hj ⊢⟩⟩
   have hcv:=conv_bytes (some ⟨w.heap.size,0,none⟩) k k _ X wr hend
   go_wp2_with fail
   go_ret
   exact ⟨by rw [HT.out];rfl,hbl⟩
def Kd (x:Int):Prop:=0≤x∧x < 4
instance (x:Int):Decidable (Kd x):=by unfold Kd;exact inferInstance
theorem isKind_p (x:Int) (w:World):Calls Tryz.prog 83 #[.int .i64 x] w fun e w'=>e=.returned (.bool (decide (Kd x)))∧w=w':=by
 by_cases h0:0≤x
 ·by_cases h1:x≤3
  ·have hk:decide (Kd x)=true:=decide_eq_true ⟨h0,by omega⟩
   rw [hk]
   go_enter Tryz.func83,Tryz.ntmps83
   go_wp2_with fail
   go_ret
   exact ⟨rfl,rfl⟩
  ·have hk:decide (Kd x)=false:=decide_eq_false fun h=>h1 (by have:=h.2;omega)
   rw [hk]
   have h2:decide (x≤3)=false:=by rw [decide_eq_false_iff_not];exact h1
   go_enter Tryz.func83,Tryz.ntmps83
   go_wp2_with fail
   go_ret
   exact ⟨rfl,rfl⟩
 ·have hk:decide (Kd x)=false:=decide_eq_false fun h=>h0 h.1
  rw [hk]
  have h2:decide (0≤x)=false:=by rw [decide_eq_false_iff_not];exact h0
  go_enter Tryz.func83,Tryz.ntmps83
  go_wp2_with fail
  go_ret
  exact ⟨rfl,rfl⟩
theorem noKind_p (x:Int) (w:World):Calls Tryz.prog 108 #[.int .i64 x] w fun e w'=>e=.returned (.bool (!decide (Kd x)))∧w=w':=by
 have KP:=Lib.hid (isKind_p x w)
 generalize decide (Kd x)=q at *
 go_enter Tryz.func108,Tryz.ntmps108
 go_wp2_with fail
 refine KP.out.mono ?_
 rintro e w' ⟨rfl,rfl⟩
 go_wp2_with fail
 go_ret
 exact ⟨rfl,rfl⟩
theorem indexKind_p (A:Option Addr) (n c B:Nat) (z:List Int) (w:World) (h:Rd w B A n (I64 z)) (hn:n≤1000000) :
  Calls Tryz.prog 135 #[.slice A n c,.func (.func 108) #[] #[]] w fun e w'=>∃ q:Int,e=.returned (.int .i64 q)∧w=w'∧(0≤q↔¬ ∀ x∈z,Kd x):=by
 have hl:z.length=n:=by rw [← h.len,I64_len]
 have NK:Hid (∀ (x:Int) (W:World),Calls Tryz.prog 108 #[.int .i64 x] W fun e w'=>e=.returned (.bool (!decide (Kd x)))∧W=w'):=fun x W=>noKind_p x W
 have HZ:=Lib.hid h
 have HL:=Lib.hid hl
 clear h hl
 go_enter Tryz.func135,Tryz.ntmps135
 go_wp2_with fail
 go_loopw [8] (fun i wr=>∃ k:Nat,k≤n∧i=.int .i64 k∧Hid (∀ j,j < k→Kd (z.getD j 0))∧wr=w) (fun i _=>n - (intOf i).toNat)
 case atStart=>exact ⟨0,by omega,rfl,fun j hj=>absurd hj (by omega),rfl⟩
 case round =>
  obtain ⟨k,hk,rfl,hy,rfl⟩:=hrel
  by_cases hlt:k < n
  ·obtain ⟨bb,o,rfl,_,kk⟩:=HZ.out.i64 (by omega)
   have x0:=kk k hlt
   have hmem:z.getD k 0∈z:=by
    have:k < z.length:=by rw [HL.out];exact hlt
    rw [List.getD_eq_getElem?_getD,List.getElem?_eq_getElem this];exact List.getElem_mem this
   have HME:=Lib.hid hmem
   have NX:Hid (Kd (z.getD k 0)→∀ j,j < k+1→Kd (z.getD j 0)):=fun q j hj=>by
    rcases Nat.lt_or_ge j k with c | c
    ·exact hy.out j c
    ·rw [show j=k by omega];exact q
   clear kk hmem
   generalize z.getD k 0=x at *
   have N1:=Lib.hid (NK.out x wr)
   by_cases q:Kd x
   ·rw [decide_eq_true q] at N1
    have HQ:=Lib.hid q
    clear q
    go_wp2_with fail
    refine N1.out.mono ?_
    rintro e w' ⟨rfl,rfl⟩
    go_wp2_with fail
    go_roundw
    case rel=>exact ⟨k+1,by omega,by go_num,NX.out HQ.out,trivial⟩
    case measure=>simp [intOf];omega
   ·rw [decide_eq_false q] at N1
    have HQ:=Lib.hid q
    clear q
    go_wp2_with fail
    refine N1.out.mono ?_
    rintro e w' ⟨rfl,rfl⟩
    go_wp2_with fail
    go_ret
    exact ⟨k,rfl,rfl,⟨fun _ H=>HQ.out (H _ HME.out),fun _=>by omega⟩⟩
  ·obtain rfl:k=n:=by omega
   go_wp2_with fail
   go_ret
   refine ⟨-1,rfl,rfl,⟨fun h=>absurd h (by omega),fun H=>absurd (fun x hx=>?_) H⟩⟩
   obtain ⟨j,hj,rfl⟩:=List.getElem_of_mem hx
   have:=hy.out j (by rw [← HL.out];exact hj)
   rwa [List.getD_eq_getElem?_getD,List.getElem?_eq_getElem hj] at this
theorem containsKind_p (A:Option Addr) (n c B:Nat) (z:List Int) (w:World) (h:Rd w B A n (I64 z)) (hn:n≤1000000) :
  Calls Tryz.prog 107 #[.slice A n c,.func (.func 108) #[] #[]] w fun e w'=>e=.returned (.bool (!decide (∀ x∈z,Kd x)))∧w=w':=by
 have ip:=indexKind_p A n c B z w h hn
 clear h
 by_cases h:∀ x∈z,Kd x
 ·have IP:Hid (Calls Tryz.prog 135 #[.slice A n c,.func (.func 108) #[] #[]] w fun e w'=>∃ q:Int,e=.returned (.int .i64 q)∧w=w'∧q < 0) :=
   ip.mono fun e w' ⟨q,h1,h2,h3⟩=>⟨q,h1,h2,by rcases Int.lt_or_le q 0 with c | c;exact c;exact absurd h (h3.1 c)⟩
  rw [decide_eq_true h]
  clear ip h
  go_enter Tryz.func107,Tryz.ntmps107
  go_wp2_with fail
  refine IP.out.mono ?_
  rintro e w' ⟨q,rfl,rfl,hq⟩
  have hd:decide (0≤q)=false:=by rw [decide_eq_false_iff_not];omega
  go_wp2_with fail
  go_ret
  exact ⟨by first | rfl | simp,rfl⟩
 ·have IP:Hid (Calls Tryz.prog 135 #[.slice A n c,.func (.func 108) #[] #[]] w fun e w'=>∃ q:Int,e=.returned (.int .i64 q)∧w=w'∧0≤q) :=
   ip.mono fun e w' ⟨q,h1,h2,h3⟩=>⟨q,h1,h2,h3.2 h⟩
  rw [decide_eq_false h]
  clear ip h
  go_enter Tryz.func107,Tryz.ntmps107
  go_wp2_with fail
  refine IP.out.mono ?_
  rintro e w' ⟨q,rfl,rfl,hq⟩
  have hd:decide (0≤q)=true:=by rw [decide_eq_true_iff];exact hq
  go_wp2_with fail
  go_ret
  exact ⟨by first | rfl | simp,rfl⟩
def toN (z:List Int):List Nat:=z.map Int.toNat
theorem toN_len (z:List Int):(toN z).length=z.length:=by simp [toN]
theorem toN_next (z:List Int) (k:Nat) (h:k < z.length):(toN z).take (k+1)=(toN z).take k++[(z.getD k 0).toNat]:=by
 rw [List.take_add_one,List.getElem?_eq_getElem (by rw [toN_len];exact h)]
 simp [toN,List.getD_eq_getElem?_getD,h]
set_option maxHeartbeats 4000000 in
theorem madd_p (B g:Nat) (ks:List Nat) (A:Option Addr) (n c:Nat) (z:List Int) (w:World) (h:WordS w B g ks (inBlk A)) (hz:Rd w w.heap.size A n (I64 z)) (hA:∀ i,inBlk A i→i < w.heap.size) (hn:ks.length+n≤400000) :
  Calls Tryz.prog 70 #[.pointer (some ⟨g,0,none⟩),.slice A n c] w fun e w'=>e=.returned (.int .i64 (if ∀ x∈z,Kd x then 0 else 1))∧WordAt w' B g (if ∀ x∈z,Kd x then ks++toN z else ks)∧Below B w w':=by
 have CP:=Lib.hid (containsKind_p A n c _ z w hz (by omega))
 have hl:z.length=n:=by rw [← hz.len,I64_len]
 by_cases hg:∀ x∈z,Kd x
 ·rw [decide_eq_true hg] at CP
  rw [if_pos hg,if_pos hg]
  have HG:Hid (∀ k,k < n→∃ q:Nat,q < 4∧z.getD k 0=(q:Int)):=fun k hk=>by
   have hk':k < z.length:=by omega
   have:=hg (z.getD k 0) (by rw [List.getD_eq_getElem?_getD,List.getElem?_eq_getElem hk'];exact List.getElem_mem hk')
   have h1:=this.1
   have h2:=this.2
   exact ⟨(z.getD k 0).toNat,by omega,by omega⟩
  have HA:=Lib.hid hA
  have PP:Hid (∀ (ls:List Nat) (k:Nat) (W:World),WordS W B g ls (inBlk A)→w.heap.size≤W.heap.size→k < 4→ls.length≤400000→Calls Tryz.prog 84 #[.pointer (some ⟨g,0,none⟩),.int .i64 (k:Int)] W fun e w'=>e=.returned (.tuple #[])∧WordS w' B g (ls++[k]) (inBlk A)∧Below B W w'∧Mod (fun i=>¬ inBlk A i) W w'):=fun ls k W h hs hk hl=>mput_s B g ls k W _ h hk hl (fun i hi=>Nat.lt_of_lt_of_le (HA.out i hi) hs)
  have HZ:=Lib.hid hz
  have HL:=Lib.hid hl
  have HW:=Lib.hid h
  clear hz h hg hl
  go_enter Tryz.func70,Tryz.ntmps70
  go_wp2_with fail
  refine CP.out.mono ?_
  rintro e w' ⟨rfl,rfl⟩
  clear CP
  go_wp2_with fail
  go_loopw [13] (fun i wr=>∃ k:Nat,k≤n∧i=.int .i64 k∧Hid (WordS wr B g (ks++(toN z).take k) (inBlk A))∧Hid (Below B w wr)∧Hid (Mod (fun i=>¬ inBlk A i) w wr)) (fun i _=>n - (intOf i).toNat)
  case atStart=>exact ⟨0,by omega,rfl,by show WordS _ _ _ _ _;rw [List.take_zero,List.append_nil];exact HW.out,Below.refl _ _,Mod.refl _ _⟩
  case round =>
   obtain ⟨k,hk,rfl,HS,HB,HM⟩:=hrel
   by_cases hlt:k < n
   ·have hr:=HZ.out.mod HM.out (Nat.le_refl _) (fun _ i hi hs=>hs hi)
    obtain ⟨bb,o,rfl,_,kk⟩:=hr.i64 (by omega)
    have x0:=kk k hlt
    obtain ⟨q,hq4,hq⟩:=HG.out k hlt
    have hnx:=toN_next z k (by rw [HL.out];exact hlt)
    rw [hq,Int.toNat_natCast] at hnx
    rw [hq] at x0
    have HNX:=Lib.hid hnx
    have P1:=Lib.hid (PP.out _ q wr HS.out HM.out.size hq4 (by rw [List.length_append,List.length_take];omega))
    clear kk hr hq hnx hq4 HS
    go_wp2_with fail
    refine P1.out.mono ?_
    rintro e w2 ⟨rfl,hw2,z2,m2⟩
    have HW2:=Lib.hid hw2
    have HB2:=Lib.hid (HB.out.trans z2)
    have HM2:=Lib.hid (HM.out.trans m2 (fun i _ hi=>hi))
    clear hw2 z2 m2 P1 HB HM
    go_wp2_with fail
    go_roundw
    case rel=>exact ⟨k+1,by omega,by go_num,by show WordS _ _ _ _ _;rw [HNX.out,← List.append_assoc];exact HW2.out,HB2.out,HM2.out⟩
    case measure=>simp [intOf];omega
   ·obtain rfl:k=n:=by omega
    go_wp2_with fail
    go_ret
    have:=HS.out
    rw [List.take_of_length_le (by rw [toN_len,HL.out];exact Nat.le_refl _)] at this
    exact ⟨rfl,this.at_,HB.out⟩
 ·rw [decide_eq_false hg] at CP
  rw [if_neg hg,if_neg hg]
  have HW:=Lib.hid h
  clear hz h hg hl
  go_enter Tryz.func70,Tryz.ntmps70
  go_wp2_with fail
  refine CP.out.mono ?_
  rintro e w' ⟨rfl,rfl⟩
  go_wp2_with fail
  go_ret
  exact ⟨rfl,HW.out.at_,Below.refl _ _⟩
section
variable {w0 w:World} {m gx p0 g0 p1 g1 q:Nat} {ks:List Nat}
theorem Mx.c0 (h:Mx w0 w m gx p0 g0 p1 g1 ks q):w.cell? ⟨m,0,none⟩=some (.pointer (some ⟨gx,0,none⟩)):=h.blk.cell 0
theorem Mx.c1 (h:Mx w0 w m gx p0 g0 p1 g1 ks q):w.cell? ⟨m,1,none⟩=some (.pointer (some ⟨p0,0,none⟩)):=h.blk.cell 1
theorem Mx.c2 (h:Mx w0 w m gx p0 g0 p1 g1 ks q):w.cell? ⟨m,2,none⟩=some (.pointer (some ⟨p1,0,none⟩)):=h.blk.cell 2
theorem ilen_p (h:Mx w0 w m gx p0 g0 p1 g1 ks q):Calls Tryz.prog 61 #[.pointer (some ⟨m,0,none⟩)] w fun e w'=>e=.returned (.int .i64 (ks.length:Int))∧w=w':=by
 obtain ⟨d,k,_,hx⟩:=h.ix
 have XL:=Lib.hid (xlen_p gx _ _ k d w hx)
 have c0:=h.c0
 clear h hx
 go_enter Tryz.func61,Tryz.ntmps61
 go_wp2_with fail
 refine XL.out.mono ?_
 rintro e w' ⟨rfl,rfl⟩
 go_wp2_with fail
 go_ret
 exact ⟨rfl,rfl⟩
theorem ready4_ok (a:Addr) (i l:Int) (w:World) (h1:0≤i) (h2:i≤l):Calls Tryz.prog 148 #[.pointer (some a),.int .i64 i,.int .i64 l] w fun e w'=>e=.returned (.int .i64 0)∧w=w':=by
 have h3:¬ i < 0:=by omega
 have h4:¬ l < i:=by omega
 go_enter Tryz.func148,Tryz.ntmps148
 go_wp2_with fail
 go_ret
 exact ⟨rfl,rfl⟩
theorem ahead_p (h:Mx w0 w m gx p0 g0 p1 g1 ks q) (s i:Nat) (hs:s < 2) (hi:i≤ks.length) (hq:q≤1000000) :
  Calls Tryz.prog 127 #[.pointer (some ⟨m,0,none⟩),.int .i64 (s:Int),.int .i64 (i:Int)] w (MxP w0 w m gx p0 g0 p1 g1 ks (q+1) (.returned (.int .i64 ((ah s ks i:Nat):Int)))):=by
 obtain ⟨d,k,hk,hx⟩:=h.ix
 have RK:=Lib.hid (rank_yes gx _ _ k i d (s:Int) w hx (by omega) (by omega) hi)
 rw [cb_ah h.kd s hs i hi] at RK
 have c0:=h.c0
 have H:=Lib.hid h
 clear h hx
 go_enter Tryz.func127,Tryz.ntmps127
 go_wp2_with fail
 refine RK.out.mono ?_
 rintro e w' ⟨rfl,hx,md⟩
 have HX:=Lib.hid hx
 have HM:=Lib.hid md
 clear hx md RK
 go_wp2_with fail
 go_ret
 exact ⟨rfl,H.out.askX HX.out hk HM.out,HM.out.mono fun i _ hi=>.inl hi⟩
theorem place_q (h:Mx w0 w m gx p0 g0 p1 g1 ks q) (s y:Nat) (hs:s < 2) (hy:y < (ownL s ks).length) (hq:q≤1000000) :
  Calls Tryz.prog 150 #[.pointer (some ⟨m,0,none⟩),.int .i64 (s:Int),.int .i64 (y:Int)] w fun e w'=>∃ p,p < ks.length∧ks.getD p 0 / 2=s∧ah s ks p=y∧MxP w0 w m gx p0 g0 p1 g1 ks (q+1) (.returned (.int .i64 (p:Int))) e w':=by
 obtain ⟨d,k,hk,hx⟩:=h.ix
 have hcb:y < cb (s:Int) (val (shp ks)) ks.length:=by rw [cb_ah h.kd s hs _ (Nat.le_refl _),ah_all];exact hy
 have hgt:2 < gx:=Nat.lt_of_lt_of_le h.tab.2 h.lo.2.1
 have SY:=Lib.hid (sel_yes gx _ _ k y d (s:Int) w hx h.tabw (by omega) (by omega) hcb hgt)
 have c0:=h.c0
 have H:=Lib.hid h
 clear h hx hcb hgt
 go_enter Tryz.func150,Tryz.ntmps150
 go_wp2_with fail
 refine SY.out.mono ?_
 rintro e w' ⟨p,rfl,hp,hb,hc,hx,md⟩
 have HP:Hid (p < ks.length∧ks.getD p 0 / 2=s∧ah s ks p=y):=⟨hp,(isB_shp H.out.kd s hs p).1 hb,by rw [← cb_ah H.out.kd s hs p (by omega)];exact hc⟩
 have HX:=Lib.hid hx
 have HM:=Lib.hid md
 clear hx md SY hp hb hc
 go_wp2_with fail
 go_ret
 exact ⟨p,HP.out.1,HP.out.2.1,HP.out.2.2,rfl,H.out.askX HX.out hk HM.out,HM.out.mono fun i _ hi=>.inl hi⟩
theorem imate_p (h:Mx w0 w m gx p0 g0 p1 g1 ks q) (s y:Nat) (hs:s < 2) (hy:y < (ownL s ks).length) (hq:q≤900000) :
  Calls Tryz.prog 155 #[.pointer (some ⟨m,0,none⟩),.int .i64 (s:Int),.int .i64 (y:Int)] w fun e w'=>∃ z:Nat,z < (ownL s ks).length∧MateOK (exc (val (ownL s ks))) y (z:Int)∧MxP w0 w m gx p0 g0 p1 g1 ks (q+4) (.returned (.int .i64 (z:Int))) e w':=by
 have lt:∀ (l:List Nat) (x:Int),Bal (exc (val l)) l.length→∀ y,y < l.length→MateOK (exc (val l)) y x→∃ z:Nat,x=(z:Int)∧z < l.length:=fun l x hB y hy hm=>by
  obtain ⟨z,rfl,hp⟩:=hm
  refine ⟨z,rfl,?_⟩
  rcases hp with hp | hp
  ·have hj:=fwd_ex hB hy (m:=exc (val l) y) (hB.1 y (by omega))
   obtain ⟨j,hj⟩:=hj
   have:=(hj.pair (exc_Exc _) (hp.opens (exc_Exc _))).uniq hp
   have:=hj.le
   have:=hj.lt
   omega
  ·have:=hp.lt;omega
 have c1:=h.c1
 have c2:=h.c2
 have H:=Lib.hid h
 rcases (by omega:s=0∨s=1) with rfl | rfl
 ·obtain ⟨d,ha⟩:=h.pa
  have MY:=Lib.hid (mate_yes p0 g0 _ _ q d w y h.nulw h.hp0 ha h.b0 hy (by omega))
  clear h ha c2
  go_enter Tryz.func155,Tryz.ntmps155
  go_wp2_with fail
  refine MY.out.mono ?_
  rintro e w' ⟨hp,md,x,rfl,hm,_,_⟩
  obtain ⟨z,rfl,hz⟩:=lt _ _ H.out.b0 y hy hm
  have HX:=Lib.hid hp
  have HM:=Lib.hid md
  have HT:=Lib.hid hm
  clear hp md hm MY lt
  go_wp2_with fail
  go_ret
  exact ⟨z,hz,HT.out,rfl,H.out.askA HX.out (by omega) HM.out,two_mx0 HM.out⟩
 ·obtain ⟨d,ha⟩:=h.pb
  have MY:=Lib.hid (mate_yes p1 g1 _ _ q d w y h.nulw h.hp1 ha h.b1 hy (by omega))
  clear h ha c1
  go_enter Tryz.func155,Tryz.ntmps155
  go_wp2_with fail
  refine MY.out.mono ?_
  rintro e w' ⟨hp,md,x,rfl,hm,_,_⟩
  obtain ⟨z,rfl,hz⟩:=lt _ _ H.out.b1 y hy hm
  have HX:=Lib.hid hp
  have HM:=Lib.hid md
  have HT:=Lib.hid hm
  clear hp md hm MY lt
  go_wp2_with fail
  go_ret
  exact ⟨z,hz,HT.out,rfl,H.out.askB HX.out (by omega) HM.out,two_mx1 HM.out⟩
def MateAt (ks:List Nat) (i p:Nat):Prop:=p < ks.length∧ks.getD p 0 / 2=ks.getD i 0 / 2∧MateOK (exc (val (ownL (ks.getD i 0 / 2) ks))) (ah (ks.getD i 0 / 2) ks i) ((ah (ks.getD i 0 / 2) ks p:Nat):Int)
theorem Mx.shape (h:Mx w0 w m gx p0 g0 p1 g1 ks q) (i:Nat) (hi:i < ks.length):Calls Tryz.prog 124 #[.pointer (some ⟨gx,0,none⟩),.int .i64 (i:Int)] w fun e w'=>e=.returned (.int .i64 ((ks.getD i 0 / 2:Nat):Int))∧w=w':=by
 obtain ⟨d,k,_,hx⟩:=h.ix
 have h1:=xat_in gx _ _ k i d w hx hi
 rwa [shp_bit h.kd] at h1
set_option maxHeartbeats 1000000 in
theorem mateI_p (h:Mx w0 w m gx p0 g0 p1 g1 ks q) (i:Nat) (hi:i < ks.length) (hq:q≤800000) :
  Calls Tryz.prog 136 #[.pointer (some ⟨m,0,none⟩),.int .i64 (i:Int)] w fun e w'=>∃ p:Nat,MateAt ks i p∧MxP w0 w m gx p0 g0 p1 g1 ks (q+6) (.returned (.tuple #[.int .i64 (p:Int),.int .i64 0])) e w':=by
 have LN:=Lib.hid (ilen_p h)
 have hn9:=h.n9
 have RD:=Lib.hid (ready4_ok ⟨m,0,none⟩ (i:Int) ((ks.length:Int) - 1) w (by omega) (by omega))
 have SH:=Lib.hid (h.shape i hi)
 have hk4:=h.kd.getD i
 have AHL:=Lib.hid (ah_lt (ks.getD i 0 / 2) ks i hi rfl)
 obtain ⟨s,hs⟩:∃ s,s=ks.getD i 0 / 2:=⟨_,rfl⟩
 have HS:=Lib.hid hs
 have hs2:s < 2:=by omega
 rw [← hs] at SH AHL
 have AP:=Lib.hid (ahead_p h s i hs2 (by omega) (by omega))
 have c0:=h.c0
 have H:=Lib.hid h
 clear h hs hk4
 obtain ⟨y,hy⟩:∃ y,y=ah s ks i:=⟨_,rfl⟩
 have HY:=Lib.hid hy
 rw [← hy] at AP AHL
 clear hy
 go_enter Tryz.func136,Tryz.ntmps136
 go_wp2_with fail
 refine LN.out.mono ?_
 rintro e w1 ⟨rfl,rfl⟩
 go_wp2_with fail
 refine RD.out.mono ?_
 rintro e w1 ⟨rfl,rfl⟩
 go_wp2_with fail
 refine SH.out.mono ?_
 rintro e w1 ⟨rfl,rfl⟩
 go_wp2_with fail
 refine AP.out.mono ?_
 rintro e w1 ⟨rfl,h1,m1⟩
 have MP:=Lib.hid (imate_p h1 s y hs2 AHL.out (by omega))
 have M1:=Lib.hid m1
 clear h1 m1 AP SH RD LN c0 H
 go_wp2_with fail
 refine MP.out.mono ?_
 rintro e w2 ⟨z,hz,hmo,rfl,h2,m2⟩
 have PP:=Lib.hid (place_q h2 s z hs2 hz (by omega))
 have M2:=Lib.hid (M1.out.trans m2 fun _ _ h=>h)
 have HMO:=Lib.hid hmo
 clear h2 m2 M1 MP hmo
 go_wp2_with fail
 refine PP.out.mono ?_
 rintro e w3 ⟨p,hp,hps,hpa,rfl,h3,m3⟩
 have H3:=Lib.hid h3
 have M3:=Lib.hid (M2.out.trans m3 fun _ _ h=>h)
 have HPS:=Lib.hid hps
 have HPA:=Lib.hid hpa
 clear h3 m3 M2 PP hps hpa
 go_wp2_with fail
 go_ret2
 refine ⟨p,⟨hp,?_,?_⟩,rfl,H3.out,M3.out⟩
 ·rw [← HS.out];exact HPS.out
 ·rw [← HS.out,← HY.out,HPA.out];exact HMO.out
theorem kindOf_p (s b:Nat) (w:World) (hs:s < 2):Calls Tryz.prog 125 #[.int .i64 (s:Int),.bool (decide (b=1))] w fun e w'=>e=.returned (.int .i64 ((2*s+(if b=1 then 0 else 1):Nat):Int))∧w=w':=by
 by_cases hb:b=1
 ·rw [decide_eq_true hb,if_pos hb]
  go_enter Tryz.func125,Tryz.ntmps125
  go_wp2_with fail
  go_ret
  exact ⟨by first | rfl | (simp;omega),rfl⟩
 ·rw [decide_eq_false hb,if_neg hb]
  go_enter Tryz.func125,Tryz.ntmps125
  go_wp2_with fail
  go_ret
  exact ⟨by first | rfl | (simp;omega),rfl⟩
theorem Mx.open_ (h:Mx w0 w m gx p0 g0 p1 g1 ks q) (i:Nat) (hi:i < (ownL 0 ks).length):Calls Tryz.prog 126 #[.pointer (some ⟨p0,0,none⟩),.int .i64 (i:Int)] w fun e w'=>e=.returned (.bool (decide ((ownL 0 ks).getD i 0=1)))∧w=w':=by
 obtain ⟨d,ha⟩:=h.pa
 have h1:=popen_in p0 g0 _ _ q w i ha.ix hi
 rwa [val_bit (ownL_bin 0 ks)] at h1
theorem Mx.openB (h:Mx w0 w m gx p0 g0 p1 g1 ks q) (i:Nat) (hi:i < (ownL 1 ks).length):Calls Tryz.prog 126 #[.pointer (some ⟨p1,0,none⟩),.int .i64 (i:Int)] w fun e w'=>e=.returned (.bool (decide ((ownL 1 ks).getD i 0=1)))∧w=w':=by
 obtain ⟨d,ha⟩:=h.pb
 have h1:=popen_in p1 g1 _ _ q w i ha.ix hi
 rwa [val_bit (ownL_bin 1 ks)] at h1
set_option maxHeartbeats 1000000 in
theorem iat_p (h:Mx w0 w m gx p0 g0 p1 g1 ks q) (i:Nat) (hi:i < ks.length) (hq:q≤1000000) :
  Calls Tryz.prog 97 #[.pointer (some ⟨m,0,none⟩),.int .i64 (i:Int)] w (MxP w0 w m gx p0 g0 p1 g1 ks (q+1) (.returned (.int .i64 ((ks.getD i 0:Nat):Int)))):=by
 have LN:=Lib.hid (ilen_p h)
 have SH:=Lib.hid (h.shape i hi)
 have hk4:=h.kd.getD i
 have AHL:=Lib.hid (ah_lt (ks.getD i 0 / 2) ks i hi rfl)
 have OG:=Lib.hid (ownL_get (ks.getD i 0 / 2) ks i hi rfl)
 obtain ⟨s,hs⟩:∃ s,s=ks.getD i 0 / 2:=⟨_,rfl⟩
 have hs2:s < 2:=by omega
 rw [← hs] at SH AHL OG
 have AP:=Lib.hid (ahead_p h s i hs2 (by omega) hq)
 have c0:=h.c0
 have c1:=h.c1
 have c2:=h.c2
 obtain ⟨y,hy⟩:∃ y,y=ah s ks i:=⟨_,rfl⟩
 rw [← hy] at AP AHL OG
 have HYY:=Lib.hid hy
 have hni:¬ (ks.length:Int)≤(i:Int):=by omega
 have KK:Hid (2*s+(if (1 - ks.getD i 0%2)=1 then 0 else 1)=ks.getD i 0):=by
  show _=_
  split <;> omega
 obtain ⟨b,hb⟩:∃ b,b=1 - ks.getD i 0%2:=⟨_,rfl⟩
 rw [← hb] at KK OG
 generalize ks.getD i 0=kk at *
 clear hy hb hs hk4
 have KO:=Lib.hid (fun W=>kindOf_p s b W hs2)
 rw [KK.out] at KO
 have AP2:Hid (Calls Tryz.prog 127 #[.pointer (some ⟨m,0,none⟩),.int .i64 (s:Int),.int .i64 (i:Int)] w.drew (MxP w0 w.drew m gx p0 g0 p1 g1 ks (q+1) (.returned (.int .i64 (y:Int))))):=by
  have hd:=ahead_p (h.below ((Below.refl w.heap.size w).drew)) s i hs2 (by omega) hq
  rw [← HYY.out] at hd;exact hd
 rcases (by omega:s=0∨s=1) with rfl | rfl
 ·have H:=Lib.hid h
  have AP3:Hid (Calls Tryz.prog 127 #[.pointer (some ⟨m,0,none⟩),.int .i64 0,.int .i64 (i:Int)] w.drew (MxP w0 w.drew m gx p0 g0 p1 g1 ks (q+1) (.returned (.int .i64 (y:Int))))):=AP2
  have KO3:Hid (∀ W,Calls Tryz.prog 125 #[.int .i64 0,.bool (decide (b=1))] W fun e w'=>e=.returned (.int .i64 (kk:Int))∧W=w'):=KO
  clear h c2 AP AP2 KO
  go_enter Tryz.func97,Tryz.ntmps97
  go_wp2_with fail
  refine LN.out.mono ?_
  rintro e w1 ⟨rfl,rfl⟩
  go_wp2_with fail
  refine SH.out.mono ?_
  rintro e w1 ⟨rfl,rfl⟩
  go_wp2_with fail
  clear LN SH
  go_region_with (first
   | (go_at_call 127;(with_reducible refine AP3.out.mono ?_);rintro e wa ⟨rfl,ha,ma⟩;have k1:=ha.c1;have OP:=ha.open_ y AHL.out;rw [OG.out] at OP;have HA:=Lib.hid ha;have MA:=Lib.hid ma;have HOP:=Lib.hid OP;clear ha ma OP)
   | (go_at_call 126;(with_reducible refine HOP.out.mono ?_);rintro e wb ⟨rfl,rfl⟩)
   | (go_at_call 125;(with_reducible refine (KO3.out _).mono ?_);rintro e wb ⟨rfl,rfl⟩))
  all_goals (
   go_wp2_with fail
   go_ret
   exact ⟨rfl,HA.out,(Mod.refl (MxS gx p0 g0 p1 g1) w).drew.trans MA.out fun _ _ h=>h⟩)
 ·have H:=Lib.hid h
  have AP3:Hid (Calls Tryz.prog 127 #[.pointer (some ⟨m,0,none⟩),.int .i64 1,.int .i64 (i:Int)] w.drew (MxP w0 w.drew m gx p0 g0 p1 g1 ks (q+1) (.returned (.int .i64 (y:Int))))):=AP2
  have KO3:Hid (∀ W,Calls Tryz.prog 125 #[.int .i64 1,.bool (decide (b=1))] W fun e w'=>e=.returned (.int .i64 (kk:Int))∧W=w'):=KO
  clear h c1 AP AP2 KO
  go_enter Tryz.func97,Tryz.ntmps97
  go_wp2_with fail
  refine LN.out.mono ?_
  rintro e w1 ⟨rfl,rfl⟩
  go_wp2_with fail
  refine SH.out.mono ?_
  rintro e w1 ⟨rfl,rfl⟩
  go_wp2_with fail
  clear LN SH
  go_region_with (first
   | (go_at_call 127;(with_reducible refine AP3.out.mono ?_);rintro e wa ⟨rfl,ha,ma⟩;have k1:=ha.c2;have OP:=ha.openB y AHL.out;rw [OG.out] at OP;have HA:=Lib.hid ha;have MA:=Lib.hid ma;have HOP:=Lib.hid OP;clear ha ma OP)
   | (go_at_call 126;(with_reducible refine HOP.out.mono ?_);rintro e wb ⟨rfl,rfl⟩)
   | (go_at_call 125;(with_reducible refine (KO3.out _).mono ?_);rintro e wb ⟨rfl,rfl⟩))
  all_goals (
   go_wp2_with fail
   go_ret
   exact ⟨rfl,HA.out,(Mod.refl (MxS gx p0 g0 p1 g1) w).drew.trans MA.out fun _ _ h=>h⟩)
end
end Go.Proofs.YtajjgpkahljjmaaGreatDoor
