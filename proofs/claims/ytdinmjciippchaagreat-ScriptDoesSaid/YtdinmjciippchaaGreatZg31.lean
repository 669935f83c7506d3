/- The document's Names: its map of names, the parts' first darts. -/
import Derived.Test.YtdinmjciippchaaGreatZg29
import Derived.Test.YtdinmjciippchaaGreatZg30
import Derived.Test.YtdinmjciippchaaGreatZg18
import Derived.Test.YtdinmjciippchaaGreatZg4
import Derived.Test.YtdinmjciippchaaGreatZg3
import Derived.Laws.ResultCell
import Derived.Deep.RegionHeld3
import Derived.Deep.RegionWith
set_option linter.unusedVariables false
set_option linter.unusedSimpArgs false
open Go.RowKit
namespace Go.Proofs.YtdinmjciippchaaGreat
set_option maxRecDepth 20000
open Go.RowKit Go.Maps
structure MFz (D:DataW Unit) (K:List Int) (nx:Nat):Prop where
 mf:MF D K
 size_:Maps.size D=nx
theorem MFz.zero (m:Nat):MFz (.map []) (List.replicate m (-1)) 0:=⟨MF.zero m,rfl⟩
theorem MFz.put {D:DataW Unit} {K:List Int} {nx:Nat} (h:MFz D K nx) {e:Nat} (he:e < K.length) (hk:K.getD e 0=-1) (v:Int) (hv:v≠-1):MFz (D.put (kI e) (.lit (.int .i64 v))) (K.set e v) (nx+1) :=
 ⟨h.mf.put he v hv,by
  rw [size_put h.mf.tidy,h.mf.has_ e he,h.size_,hk]
  simp⟩
theorem look_fv {w:World} {g n:Nat} {D:DataW Unit} {K:List Int} (h:OwnM w g n D) (hm:MF D K) (e:Nat) (he:e < K.length) (hj:e≤1000000) :
  (Instr.lookup 104 (.map (some g)) (.int .i64 (e:Int)) false).run Tryz.prog w=.ok (.int .i64 (if K.getD e 0=-1 then 0 else K.getD e 0)) w:=by
 obtain ⟨c,hrun,hat,_⟩:=World.ownsMap.lookup_int h mlaw Tryz.underlying104 Tryz.underlying3 (mzero _) (mkey e hj)
 rw [hm.at_ e he] at hat
 simp only [DataW.lit.injEq,Lit.int.injEq,true_and] at hat
 rw [hat];exact hrun
theorem len_z {w:World} {g n nx:Nat} {D:DataW Unit} {K:List Int} (h:OwnM w g n D) (hm:MFz D K nx):∀ ty,(Builtin.len_ #[104] ty #[.map (some g)]).run Tryz.prog w=.ok (.int .i64 (nx:Int)) w:=fun ty=>by
 have:=World.ownsMap.len h Tryz.underlying104 ty
 rwa [hm.size_] at this
theorem own_map_set {w:World} {g n:Nat} {D:DataW Unit} (h:OwnM w g n D) {p:Addr} (hp:p.block≠g) (v:Value):OwnM (w.setCell p v) g n D:=by
 have hlt:=h.lt
 obtain ⟨es,clock,hb,F,hs,hD⟩:=h
 exact ⟨es,clock,((Mod.setCell (p:=p) (Mod.refl (fun i=>i=p.block) w) (fun _=>rfl) v).block g hlt fun e=>hp e.symm).trans hb,F,hs,hD⟩
theorem LK.le {n:Nat} {y:List Int} {nx:Nat} {z:List Nat} (h:LK n y nx z):nx≤n:=by
 rw [← h.zl]
 refine nodup_le ?_ fun x hx=>?_
 ·rw [List.Nodup,List.pairwise_iff_getElem]
  intro i j hi hj hij e
  have h1:=h.yz i (by rw [← h.zl];exact hi)
  have h2:=h.yz j (by rw [← h.zl];exact hj)
  rw [List.getD_eq_getElem?_getD (l:=z),List.getElem?_eq_getElem hi] at h1
  rw [List.getD_eq_getElem?_getD (l:=z),List.getElem?_eq_getElem hj] at h2
  simp only [Option.getD_some] at h1 h2
  rw [e] at h1
  omega
 ·obtain ⟨i,hi,e⟩:=List.getElem_of_mem hx
  have:=h.zlt i (by rw [← h.zl];exact hi)
  rw [List.getD_eq_getElem?_getD,List.getElem?_eq_getElem hi] at this
  rw [← e];exact this
theorem look_le {n:Nat} (he:n%2=0) (ds:List Nat) (hds:∀ d∈ds,d < n) {y:List Int} {nx:Nat} (h:lookL n ds=(y,nx)):nx≤n∧y.length=n∧∀ d,d < n→y.getD d 0=-1→y.getD (mt d) 0=-1:=by
 obtain ⟨z,hz⟩:=LK.look he ds hds
 rw [h] at hz
 exact ⟨hz.le,hz.len,fun d hd c=>hz.mate he hd c⟩
theorem wdl_map (sg nm:Nat→Nat) (m V r:Nat):∀ j,wdl sg nm m V r j=(List.range j).map fun j=>(((wrun sg nm m V r j).d:Nat):Int)
 | 0=>rfl
 | j+1=>by rw [wdl,wdl_map sg nm m V r j,List.range_succ,List.map_append];rfl
theorem wdl_wlk (l:List Nat) (r:Nat):wdl (sgL l) (nameOf l) (l.length / 2) (orbits l).length r (wN (sgL l) (nameOf l) (l.length / 2) (orbits l).length r)=ofN (wlk l r):=by
 rw [wdl_map]
 unfold wlk ofN
 rw [List.map_map]
 rfl
theorem wlk_length (l:List Nat) (r:Nat):(wlk l r).length=wN (sgL l) (nameOf l) (l.length / 2) (orbits l).length r:=by simp [wlk]
open Classical in
noncomputable def stU (l:List Nat) (r k:Nat):List Nat:=r :: (List.range k).filter fun d=>decide (Least (part l) d∧¬ part l r d)
theorem stU_zero (l:List Nat) (r:Nat):stU l r 0=[r]:=rfl
open Classical in
theorem stU_in {l:List Nat} {r k:Nat} (h:Least (part l) k∧¬ part l r k):stU l r (k+1)=stU l r k++[k]:=by
 unfold stU
 rw [List.range_succ,List.filter_append]
 simp [h]
open Classical in
theorem stU_out {l:List Nat} {r k:Nat} (h:¬ (Least (part l) k∧¬ part l r k)):stU l r (k+1)=stU l r k:=by
 unfold stU
 rw [List.range_succ,List.filter_append]
 simp only [List.filter_cons,List.filter_nil]
 rw [if_neg (by rw [decide_eq_true_eq];exact h)]
 simp
set_option maxRecDepth 100000
open Go.RowKit Go.Maps
def NmSt (n g:Nat) (ds:List Nat) (W:World):Prop:=∃ D y nx,OwnM W g nx D∧MFz D y nx∧lookL n ds=(y,nx)
theorem NmSt.mod {n g:Nat} {ds:List Nat} {W W':World} (h:NmSt n g ds W) (m:Below W.heap.size W W'):NmSt n g ds W':=by
 obtain ⟨D,y,nx,h1,h2,h3⟩:=h
 exact ⟨D,y,nx,own_map_below h1 m,h2,h3⟩
set_option maxHeartbeats 16000000 in
theorem rcnames_r (A:Option Addr) (c:Nat) (l b:List Nat) (r:Nat) (lone:Int) (P Q:List Nat) (w:World) (h:Rd w w.heap.size A l.length (I64 (ofN l))) (hi:Inv l b) (he:l.length%2=0) (hn:l.length≤1000) (hr:r < l.length) (hC:CanA l r P Q) :
  Calls Tryz.prog 67 #[.agg #[.slice A l.length c,.int .i64 (r:Int),.int .i64 lone]] w (NewI64 w (ofN P)):=by
 obtain ⟨i0,hi0,hz0,hz1,hz2⟩:=info_parts info_int
 obtain ⟨n,hnn⟩:∃ n,n=l.length:=⟨_,rfl⟩
 have hmm:=@run_makeMap Tryz.prog
 have hb0:=(Below.refl w.heap.size w).alloc (Nat.le_refl _) (.cells #[.slice A n c,.int .i64 (r:Int),.int .i64 lone] 28)
 have XB:=Lib.hid ((Blk.new w 28 #[.slice A n c,.int .i64 (r:Int),.int .i64 lone]).alloc (.map #[] 0))
 have hb1:=hb0.alloc (by simp) (.map #[] 0)
 have hs1:((w.alloc (.cells #[.slice A n c,.int .i64 (r:Int),.int .i64 lone] 28)).alloc (.map #[] 0)).heap.size=w.heap.size+2:=by simp
 have OW:OwnM ((w.alloc (.cells #[.slice A n c,.int .i64 (r:Int),.int .i64 lone] 28)).alloc (.map #[] 0)) (w.heap.size+1) 0 (.map []):=by
  have:=World.ownsMap_made (H:=Unit) (w.alloc (.cells #[.slice A n c,.int .i64 (r:Int),.int .i64 lone] 28)) Tryz.prog 3 (plainElem Tryz.prog 3)
  simpa using this
 have ST:Hid (NmSt n (w.heap.size+1) [] ((w.alloc (.cells #[.slice A n c,.int .i64 (r:Int),.int .i64 lone] 28)).alloc (.map #[] 0))):=⟨_,_,0,OW,MFz.zero n,rfl⟩
 have NP:Hid (∀ W,Below w.heap.size w W→Calls Tryz.prog 98 #[.agg #[.slice A n c,.int .i64 (r:Int),.int .i64 lone]] W (NewI64 W (ofN (enames l)))):=fun W z=>by
  rw [hnn];exact renames_p A c l b r lone W ((h.below z).up z.size) hi he (by omega)
 have RW:Hid (∀ s,s < n→∀ W,Below w.heap.size w W→Calls Tryz.prog 99 #[.agg #[.slice A n c,.int .i64 (r:Int),.int .i64 lone],.int .i64 (s:Int)] W fun e w'=>∃ A1 c1 A2 c2,e=.returned (.tuple #[.slice A1 (wlk l s).length c1,.slice A2 (wlk l s).length c2])∧w'.ownsRow W.heap.size 3 1 (.slice A1 (wlk l s).length c1) (wlk l s).length (I64 (ofN (wlk l s)))∧Below W.heap.size W w'):=fun s hs W z=>by
  have h1:=rwalk_p A c l b (r:Int) lone s (l.length / 2) (orbits l).length W ((h.below z).up z.size) hi he (by omega) (by omega) rfl (by rw [sizes_len];omega) (by have:=sizes_le l;rw [sizes_len] at this;omega)
  rw [wdl_wlk,← wlk_length,← hnn] at h1
  refine h1.mono ?_
  rintro e w' ⟨A1,c1,A2,c2,h1,h2,h3,h4⟩
  exact ⟨A1,c1,A2,c2,h1,h2,h4⟩
 have HEN:Hid (∀ d,d < n→(enames l).getD d 0=pq l d):=fun d hd=>by unfold enames prts;rw [map_rangeN _ _ _ (by omega)];rfl
 have HPQ:Hid (∀ d e,d < n→e < n→(pq l d=pq l e↔part l e d)):=fun d e hd h2=>pq_part hi he (by omega) (by omega)
 have HWL:Hid (∀ s,s < n→∀ d∈wlk l s,d < n):=fun s hs d hd=>by rw [hnn];exact wlk_lt hi he (by omega) d hd
 have HSL:Hid (∀ s∈starts l r,s < n):=fun s hs=>by rw [hnn];exact starts_lt hr s hs
 have HSE:Hid (stU l r n=starts l r):=by rw [hnn];rfl
 have HFI:Hid ((lookL n ((starts l r).flatMap (wlk l))).1=ofN P∧P.length=n):=⟨by rw [hnn];exact hC.is,by rw [hnn];exact hC.nam.len⟩
 have HWM:Hid (∀ s,s < n→(wlk l s).length≤1000):=fun s hs=>Nat.le_trans (wlk_len hi he (by omega)) hn
 have HEV:Hid (n%2=0):=by show _=_;rw [hnn];exact he
 have hen:(ofN (enames l)).length=n:=by rw [ofN_len,enames_len,hnn]
 have HLE:=Lib.hid hen
 have hn8:n≤1000:=by omega
 have hrn:r < n:=by omega
 have hlen:Hid (n=l.length):=hnn
 have hmk:=run_make_one (P:=Tryz.prog) 26 3 i0 (.int .i64 0) 8 Tryz.underlying26 hi0 hz0 hz1 hz2 rfl .i64 .i64 n (by omega) (by omega)
 have HMK:=Lib.hid hmk
 rw [← hnn]
 clear h hi he hn hr hC hb0 OW hen hnn hmk
 go_enter Tryz.func67,Tryz.ntmps67
 have x0:=XB.out.cell 0
 have x1:=XB.out.cell 1
 have x2:=XB.out.cell 2
 simp at x0 x1 x2
 go_wp2_with fail
 generalize (w.alloc (.cells #[.slice A n c,.int .i64 (r:Int),.int .i64 lone] 28)).alloc (.map #[] 0)=w1 at *
 have HB1:=Lib.hid hb1
 have HGX:Hid (w.heap.size=w.heap.size):=rfl
 have N1:=Lib.hid (NP.out _ hb1)
 clear hb1 NP x0 x1 x2 hmm
 refine N1.out.mono ?_
 rintro e w2 ⟨AN,cN,rfl,_,_,oN,z⟩
 rw [HLE.out] at oN ⊢
 have ON:=Lib.hid oN
 have Z2:=Lib.hid z
 have B2:=Lib.hid (HB1.out.trans (z.mono HB1.out.size))
 have ST2:=Lib.hid (ST.out.mod z)
 have XB2:=Lib.hid (XB.out.below z)
 obtain ⟨gN,rfl,hgN,hgN2⟩:=own_some oN (by omega)
 clear z oN N1 ST HB1
 have x0:=XB2.out.cell 0
 have x1:=XB2.out.cell 1
 have x2:=XB2.out.cell 2
 simp at x0 x1 x2
 have hnp:(0:Int) < (n:Int):=by omega
 have hown3:=(World.ownsRow_nil w2 w2.heap.size 3 1).alloc (.cells #[.int .i64 (r:Int)] 3)
 have r3:=Rd.new w2 3 #[.int .i64 (r:Int)] 1 (I64 [(r:Int)]) (by simp [I64]) (by simp)
 have t1:0+1≤maxLen:=by simp only [maxLen];omega
 have t2:(0+1)*8≤140737488355328:=by omega
 have t3:w2.heap.size≤(w2.alloc (.cells #[.int .i64 (r:Int)] 3)).heap.size:=by simp
 go_wp2_with (first
  | (at_builtin;go_must (refine wpList_append_rd _ rfl _ _ 26 rfl w2.heap.size 3 i0 (.int .i64 0) 8 Tryz.underlying26 hi0 hz0 hz1 hz2 rfl (.slice none 0 0) 0 [] rfl hown3 (w2.heap.size+1) (some ⟨w2.heap.size,0,none⟩) 1 1 (I64 [(r:Int)]) rfl r3 (I64_one _) t1 t2 t3 ?_)))
 intro A6 c6 w6 hc6 hm6 hown6 hg6 hb6
 have ZB6:Hid (Below w2.heap.size w2 w6):=((Below.refl w2.heap.size w2).alloc (Nat.le_refl _) _).trans (Below.appended hown3 hg6 t3)
 have OR:Hid (w6.ownsRow w2.heap.size 3 1 (.slice A6 1 c6) 1 (I64 (ofN (stU l r 0)))):=by
  show World.ownsRow _ _ _ _ _ _ _
  have:=hown6
  simpa [stU_zero,I64,ofN] using this
 have HS0:Hid ((stU l r 0).length=1):=rfl
 clear hown3 r3 t1 t2 t3 hc6 hm6 hown6 hg6 hb6 x0 x1 x2
 go_wp2_with fail
 go_loopw [5,35] (fun s i wr=>∃ (k p cv:Nat) (Av:Option Addr),k≤n∧p≤k+1∧i=.int .i64 (k:Int)∧s=.slice Av p cv∧Hid ((stU l r k).length=p)∧Hid (wr.ownsRow w2.heap.size 3 1 (.slice Av p cv) p (I64 (ofN (stU l r k))))∧Hid (Below w2.heap.size w2 wr)) (fun _ i _=>n - (intOf i).toNat)
 case atStart=>exact ⟨0,1,c6,A6,by omega,by omega,rfl,rfl,HS0,OR,ZB6⟩
 case round =>
  clear OR ZB6 HS0
  obtain ⟨k,p,cv,Av,hk,hpk,rfl,rfl,HL,OR,HB⟩:=hrel
  by_cases hlt:k < n
  ·have hdk:decide (k < n)=true:=by rw [decide_eq_true_iff];exact hlt
   have ONr:=own_below ON.out HB.out
   have ck:=own_cellI ONr k hlt
   have cr:=own_cellI ONr r hrn
   rw [ofN_get,HEN.out k hlt] at ck
   rw [ofN_get,HEN.out r hrn] at cr
   have XBr:=XB2.out.below HB.out
   have x1:=XBr.cell 1
   simp at x1
   have hki:(k:Int) < (n:Int):=by omega
   have hri:(r:Int) < (n:Int):=by omega
   have HPK:Hid (∀ y,y < n→(pq l y=pq l k↔part l y k)):=fun y hy=>by rw [eq_comm];exact HPQ.out k y hlt hy
   have HPR:Hid (pq l k=pq l r↔part l r k):=HPQ.out k r hlt hrn
   obtain ⟨qk,hqk⟩:∃ qk,qk=pq l k:=⟨_,rfl⟩
   obtain ⟨qr,hqr⟩:∃ qr,qr=pq l r:=⟨_,rfl⟩
   rw [← hqk] at ck HPK HPR
   rw [← hqr] at cr HPR
   have hne:((qk:Int) != (qr:Int))=decide (qk≠qr):=by
    by_cases c:qk=qr
    ·simp [c]
    ·rw [decide_eq_true c,bne_iff_ne];omega
   obtain ⟨t0,ht0⟩:∃ t0:Bool,t0=decide (qk≠qr):=⟨_,rfl⟩
   rw [← ht0] at hne
   have HT0:Hid (t0=true↔¬ part l r k):=by show _↔_;rw [ht0,decide_eq_true_iff,Ne,HPR.out]
   clear hqk hqr ht0 XBr ONr
   go_wp2_with fail
   go_loopw [8,9] (fun s8 s9 wr'=>∃ (t:Bool) (x:Nat),x≤k∧s8=.bool t∧s9=.int .i64 (x:Int)∧Hid (t=true↔(¬ part l r k∧∀ y,y < x→¬ part l y k))∧wr'=wr) (fun _ s9 _=>k - (intOf s9).toNat)
   case atStart=>exact ⟨t0,0,by omega,rfl,rfl,HT0.out.trans ⟨fun h=>⟨h,fun y hy=>absurd hy (by omega)⟩,fun h=>h.1⟩,rfl⟩
   case round =>
    obtain ⟨t,x,hx,rfl,rfl,HT,rfl⟩:=hrel
    by_cases hxk:x < k
    ·have hdx:decide (x < k)=true:=by rw [decide_eq_true_iff];exact hxk
     cases t with
     | false =>
       go_wp2_with fail
       go_roundw
       case rel=>exact ⟨false,x+1,by omega,rfl,by go_num,⟨fun c=>(by cases c),fun c=>absurd (HT.out.2 ⟨c.1,fun y hy=>c.2 y (by omega)⟩) (by simp)⟩,trivial⟩
       case measure=>simp [intOf];omega
     | true =>
       have cx:=own_cellI (own_below ON.out HB.out) x (by omega)
       rw [ofN_get,HEN.out x (by omega)] at cx
       have HPX:=Lib.hid (HPK.out x (by omega))
       have hxi:(x:Int) < (n:Int):=by omega
       obtain ⟨qx,hqx⟩:∃ qx,qx=pq l x:=⟨_,rfl⟩
       rw [← hqx] at cx HPX
       clear hqx
       by_cases c:qx=qk
       ·have hb:((qx:Int) != (qk:Int))=false:=by rw [c];simp
        have hp:=HPX.out.1 c
        clear c
        go_wp2_with fail
        go_roundw
        case rel=>exact ⟨false,x+1,by omega,rfl,by go_num,⟨fun c=>(by cases c),fun c=>absurd hp (c.2 x (by omega))⟩,trivial⟩
        case measure=>simp [intOf];omega
       ·have hb:((qx:Int) != (qk:Int))=true:=by rw [bne_iff_ne];omega
        have hp:¬ part l x k:=fun h=>c (HPX.out.2 h)
        clear c
        go_wp2_with fail
        go_roundw
        case rel=>exact ⟨true,x+1,by omega,rfl,by go_num,⟨fun _=>⟨(HT.out.1 rfl).1,fun y hy=>by
         by_cases e:y=x
         ·rw [e];exact hp
         ·exact (HT.out.1 rfl).2 y (by omega)⟩,fun _=>rfl⟩,trivial⟩
        case measure=>simp [intOf];omega
    ·obtain rfl:x=k:=by omega
     have hdx:decide (x < x)=false:=by simp
     cases t with
     | false =>
       have HU:Hid ((stU l r (x+1))=stU l r x):=stU_out fun c=>absurd (HT.out.2 ⟨c.2,fun y hy=>c.1 y hy⟩) (by simp)
       go_wp2_with fail
       go_roundw
       case rel=>exact ⟨x+1,p,cv,Av,by omega,by omega,by go_num,rfl,by show _=_;rw [HU.out];exact HL.out,by show World.ownsRow _ _ _ _ _ _ _;rw [HU.out];exact OR.out,HB⟩
       case measure=>simp [intOf];omega
     | true =>
       have HU:Hid ((stU l r (x+1))=stU l r x++[x]):=stU_in ⟨fun y hy=>(HT.out.1 rfl).2 y hy,(HT.out.1 rfl).1⟩
       have hown3:=OR.out.alloc (.cells #[.int .i64 (x:Int)] 3)
       have r3:=Rd.new wr 3 #[.int .i64 (x:Int)] 1 (I64 [(x:Int)]) (by simp [I64]) (by simp)
       have t1:p+1≤maxLen:=by simp only [maxLen];omega
       have t2:(p+1)*8≤140737488355328:=by omega
       have hsw:=HB.out.size
       have t3:w2.heap.size≤(wr.alloc (.cells #[.int .i64 (x:Int)] 3)).heap.size:=by simp;omega
       have BLA:=Lib.hid (HB.out.alloc hsw (.cells #[.int .i64 (x:Int)] 3))
       clear hsw
       go_wp2_with (first
        | (at_builtin;go_must (refine wpList_append_rd _ rfl _ _ 26 rfl w2.heap.size 3 i0 (.int .i64 0) 8 Tryz.underlying26 hi0 hz0 hz1 hz2 rfl (.slice Av p cv) p (I64 (ofN (stU l r x))) rfl hown3 (wr.heap.size+1) (some ⟨wr.heap.size,0,none⟩) 1 1 (I64 [(x:Int)]) rfl r3 (I64_one _) t1 t2 t3 ?_)))
       intro A7 c7 w7 hc7 hm7 hown7 hg7 hb7
       have BL7:=Lib.hid (BLA.out.trans (Below.appended hown3 hg7 t3))
       have O7:Hid (w7.ownsRow w2.heap.size 3 1 (.slice A7 (p+1) c7) (p+1) (I64 (ofN (stU l r (x+1))))):=by
        show World.ownsRow _ _ _ _ _ _ _
        rw [← I64_append] at hown7
        rw [HU.out]
        simpa [ofN] using hown7
       clear hown3 r3 t1 t2 t3 hc7 hm7 hown7 hg7 hb7 BLA OR HB
       go_wp2_with fail
       go_roundw
       case rel=>exact ⟨x+1,p+1,c7,A7,by omega,by omega,by go_num,rfl,by show _=_;rw [HU.out,List.length_append,HL.out];rfl,O7,BL7⟩
       case measure=>simp [intOf];omega
  ·obtain rfl:k=n:=by omega
   have hdk:decide (k < k)=false:=by simp
   obtain ⟨S,hS⟩:∃ S,S=starts l r:=⟨_,rfl⟩
   rw [HSE.out,← hS] at OR HL
   rw [← hS] at HSL HFI
   have ST3:=Lib.hid (ST2.out.mod HB.out)
   have HPL:=Lib.hid HL.out
   obtain ⟨gS,rfl,hgS,hgS2⟩:=own_some OR.out (by
    have:=HL.out
    rw [hS] at this
    rw [← this]
    show 0 < (starts l r).length
    unfold starts;simp)
   have hgm:w.heap.size+1 < w2.heap.size:=by have:=Z2.out.size;omega
   have XB3:=Lib.hid (XB2.out.below HB.out)
   obtain ⟨w3,hw3⟩:∃ w3,w3=wr:=⟨_,rfl⟩
   have B3:=Lib.hid (B2.out.trans (HB.out.mono B2.out.size))
   have Z3:=Lib.hid HB.out
   have OS:=Lib.hid OR.out
   rw [← hw3] at ST3 XB3 B3 Z3 OS hgS2
   have MM0:Hid (Mod (fun i=>i=w.heap.size+1) w3 wr):=by rw [hw3];exact Mod.refl _ _
   have ST0:Hid (NmSt k (w.heap.size+1) ((S.take 0).flatMap (wlk l)) wr):=by show NmSt _ _ _ _;rw [← hw3];simpa using ST3.out
   clear hS hw3 HB OR HL ST3 ST2 hlt
   go_wp2_with fail
   go_loopw [69] (fun i wr=>∃ (j:Nat),j≤p∧i=.int .i64 (j:Int)∧Hid (NmSt k (w.heap.size+1) ((S.take j).flatMap (wlk l)) wr)∧Hid (Mod (fun i=>i=w.heap.size+1) w3 wr)) (fun i _=>p - (intOf i).toNat)
   case atStart=>exact ⟨0,by omega,rfl,ST0,MM0⟩
   case round =>
    clear ST0 MM0
    obtain ⟨j,hj,rfl,ST,MO⟩:=hrel
    have BW:=Lib.hid (B3.out.trans (MO.out.belowB (B:=w.heap.size) B3.out.size fun i hi e=>by have:=HGX.out;omega))
    have XBr:=Blk.mod XB3.out MO.out (by show ¬ w.heap.size=w.heap.size+1;omega)
    have x0:=XBr.cell 0
    have x1:=XBr.cell 1
    have x2:=XBr.cell 2
    simp at x0 x1 x2
    by_cases hjp:j < p
    ·have hdj:decide (j < p)=true:=by rw [decide_eq_true_iff];exact hjp
     have hji:(j:Int) < (p:Int):=by omega
     have hgm2:w.heap.size+1 < w3.heap.size:=Nat.lt_of_lt_of_le hgm Z3.out.size
     have cs:=(MO.out.cell (b:=gS) hgS2 (by omega) j).trans (own_cellI OS.out j hjp)
     rw [ofN_get] at cs
     have hsn:S.getD j 0 < k:=HSL.out _ (by
      rw [List.getD_eq_getElem?_getD,List.getElem?_eq_getElem (by rw [HPL.out];exact hjp)]
      exact List.getElem_mem _)
     have HTK:Hid (S.take (j+1)=S.take j++[S.getD j 0]):=take_getD S (by rw [HPL.out];exact hjp)
     have HDS:Hid (∀ d∈(S.take j).flatMap (wlk l),d < k):=fun d hd=>by
      obtain ⟨s',hs',hd'⟩:=List.mem_flatMap.1 hd
      exact HWL.out s' (HSL.out s' (List.mem_of_mem_take hs')) d hd'
     obtain ⟨s,hs⟩:∃ s,s=S.getD j 0:=⟨_,rfl⟩
     rw [← hs] at cs hsn HTK
     have W1:=Lib.hid (RW.out s hsn wr BW.out)
     have HWs:=Lib.hid (HWL.out s hsn)
     have hwm:=HWM.out s hsn
     obtain ⟨q,hq⟩:∃ q,q=(wlk l s).length:=⟨_,rfl⟩
     rw [← hq] at W1 hwm
     have HQ:=Lib.hid hq
     clear hs hq XBr
     go_wp2_with fail
     refine W1.out.mono ?_
     rintro e w4 ⟨A1,c1,A2,c2,rfl,o1,z⟩
     have O1:=Lib.hid o1
     have ST4:=Lib.hid (ST.out.mod z)
     have MO4:=Lib.hid (MO.out.trans (Mod.none_ z (fun i=>i=w.heap.size+1)) fun _ _ e=>e)
     have hwr:=z.size
     have hsm:=MO.out.size
     have hg4:w.heap.size+1 < wr.heap.size:=by omega
     have STi:Hid (NmSt k (w.heap.size+1) ((S.take j).flatMap (wlk l)++(wlk l s).take 0) w4):=by
      rw [List.take_zero,List.append_nil];exact ST4.out
     have MOi:Hid (Mod (fun i=>i=w.heap.size+1) w4 w4):=Mod.refl _ _
     clear o1 z W1 ST MO ST4 BW x0 x1 x2 cs
     go_wp2_with fail
     go_loopw [81] (fun i wr=>∃ (t:Nat),t≤q∧i=.int .i64 (t:Int)∧Hid (NmSt k (w.heap.size+1) ((S.take j).flatMap (wlk l)++(wlk l s).take t) wr)∧Hid (Mod (fun i=>i=w.heap.size+1) w4 wr)) (fun i _=>q - (intOf i).toNat)
     case atStart=>exact ⟨0,by omega,rfl,STi,MOi⟩
     case round =>
      clear STi MOi
      obtain ⟨t,ht,rfl,ST,MO⟩:=hrel
      by_cases htq:t < q
      ·have hdt:decide (t < q)=true:=by rw [decide_eq_true_iff];exact htq
       have hti:(t:Int) < (q:Int):=by omega
       obtain ⟨g1,rfl,hg1,hg12⟩:=own_some O1.out (by omega)
       have cd:=(MO.out.cell (b:=g1) hg12 (by omega) t).trans (own_cellI O1.out t htq)
       rw [ofN_get] at cd
       have hdn:(wlk l s).getD t 0 < k:=HWs.out _ (by
        rw [List.getD_eq_getElem?_getD,List.getElem?_eq_getElem (by rw [← HQ.out];exact htq)]
        exact List.getElem_mem _)
       have HTT:Hid ((wlk l s).take (t+1)=(wlk l s).take t++[(wlk l s).getD t 0]):=take_getD _ (by rw [← HQ.out];exact htq)
       obtain ⟨d,hd⟩:∃ d,d=(wlk l s).getD t 0:=⟨_,rfl⟩
       rw [← hd] at cd hdn HTT
       obtain ⟨D,y,nx,ow,mfz,hlk⟩:=ST.out
       obtain ⟨hnx,hyl,hmt⟩:=look_le HEV.out _ (fun x hx=>by
        rcases List.mem_append.1 hx with c | c
        ·exact HDS.out x c
        ·exact HWs.out x (List.mem_of_mem_take c)) hlk
       have STEP:Hid (lookL k ((S.take j).flatMap (wlk l)++(wlk l s).take (t+1))=lookS (y,nx) d):=by
        show _=_
        rw [HTT.out,← List.append_assoc,lookL_snoc,hlk]
       have lk:=look_f ow mfz.mf d (by omega) (by omega)
       have ln:=len_z ow mfz
       have hmn:=mt_in HEV.out hdn
       have hmd:=cmt_ne d
       have HOW:=Lib.hid ow
       have HMF:=Lib.hid mfz
       have MT:=Lib.hid (fun W=>rmate_p d W (by omega))
       have hmtd:=hmt d hdn
       rw [← mt_mateN] at hmn hmd hmtd
       have HMM:Hid (mateN d=mt d):=mt_mateN d
       obtain ⟨dm,hdm⟩:∃ dm,dm=mateN d:=⟨_,rfl⟩
       rw [← hdm] at MT hmn hmd hmtd HMM
       by_cases hv:y.getD d 0=-1
       ·have HS:Hid (lookL k ((S.take j).flatMap (wlk l)++(wlk l s).take (t+1))=((y.set d (nx:Int)).set dm ((nx:Int)+1),nx+2)):=by
         show _=_
         rw [STEP.out]
         unfold lookS
         rw [if_pos hv,HMM.out]
         have e1:((nx+1:Nat):Int)=(nx:Int)+1:=by omega
         rw [e1]
        have hmv:=hmtd hv
        rw [hv] at lk
        obtain ⟨u0,hrun0,ow0,gr0⟩:=put_m ow (by omega) d (by omega) (nx:Int) (by omega)
        have mf0:=mfz.put (by omega) hv (nx:Int) (by omega)
        obtain ⟨u1,hrun1,ow1,gr1⟩:=put_m ow0 (by omega) dm (by omega) ((nx:Int)+1) (by omega)
        have mf1:=mf0.put (e:=dm) (by rw [List.length_set];omega) (by rw [getDI_set _ _ _ _ (by omega),if_neg hmd];exact hmv) ((nx:Int)+1) (by omega)
        have STn:Hid (NmSt k (w.heap.size+1) ((S.take j).flatMap (wlk l)++(wlk l s).take (t+1)) u1):=⟨_,_,_,ow1,mf1,HS.out⟩
        have MOn:Hid (Mod (fun i=>i=w.heap.size+1) w4 u1):=(MO.out.trans (Mod.ofGrown gr0) (fun i _ e=>Option.some.inj e)).trans (Mod.ofGrown gr1) (fun i _ e=>Option.some.inj e)
        have lk':(Instr.lookup 104 (.map (some (w.heap.size+1))) (.int .i64 (d:Int)) true).run Tryz.prog wr=.ok (.tuple #[.int .i64 0,.bool false]) wr:=by simpa using lk
        clear hd hdm hmt hmtd hmv hlk ow mfz ow0 ow1 mf0 mf1 gr0 gr1 HOW HMF STEP ST MO lk hyl hv hmd HS
        go_wp2_with fail
        refine (MT.out _).mono ?_
        rintro e w' ⟨rfl,rfl⟩
        go_wp2_with fail
        go_roundw
        case rel=>exact ⟨t+1,by omega,by go_num,STn,MOn⟩
        case measure=>simp [intOf];omega
       ·have STn:Hid (NmSt k (w.heap.size+1) ((S.take j).flatMap (wlk l)++(wlk l s).take (t+1)) wr):=⟨D,y,nx,ow,mfz,by rw [STEP.out];unfold lookS;rw [if_neg hv]⟩
        obtain ⟨vv,lk'⟩:∃ vv:Int,(Instr.lookup 104 (.map (some (w.heap.size+1))) (.int .i64 (d:Int)) true).run Tryz.prog wr=.ok (.tuple #[.int .i64 vv,.bool true]) wr:=⟨_,by rw [decide_eq_true (show y.getD d 0≠-1 from hv)] at lk;exact lk⟩
        clear hd hdm hmt hmtd hlk ow mfz HOW HMF STEP ST lk hyl hv hmd ln
        go_wp2_with fail
        go_roundw
        case rel=>exact ⟨t+1,by omega,by go_num,STn,MO⟩
        case measure=>simp [intOf];omega
      ·obtain rfl:t=q:=by omega
       have hdt:decide (t < t)=false:=by simp
       have STn:Hid (NmSt k (w.heap.size+1) ((S.take (j+1)).flatMap (wlk l)) wr):=by
        have:=ST.out
        rw [HQ.out,List.take_length] at this
        show NmSt _ _ _ _
        rw [HTK.out,List.flatMap_append]
        simpa using this
       have MOn:=Lib.hid (MO4.out.trans MO.out fun _ _ e=>e)
       clear ST MO
       go_wp2_with fail
       go_roundw
       case rel=>exact ⟨j+1,by omega,by go_num,STn,MOn⟩
       case measure=>simp [intOf];omega
    ·obtain rfl:j=p:=by omega
     have hdj:decide (j < j)=false:=by simp
     have STF:=ST.out
     rw [← HPL.out,List.take_length] at STF
     obtain ⟨D,y,nx,ow,mfz,hlk⟩:=STF
     have hyP:y=ofN P:=by have:=HFI.out.1;rw [hlk] at this;exact this
     subst hyP
     have HOW:Hid ((wr.alloc (.cells (Array.replicate k (.int .i64 0)) 3)).ownsRow wr.heap.size 3 1 (.slice (some ⟨wr.heap.size,0,none⟩) k k) k (I64 (List.replicate k 0))):=by
      show World.ownsRow _ _ _ _ _ _ _
      have:=own_made wr 3 k (.int .i64 0) (by simp only [maxLen];omega)
      rw [List.toArray_replicate] at this
      rw [I64_replicate];exact this
     have HMP:=Lib.hid (And.intro ow mfz.mf)
     have hmk:=HMK.out
     have BWr:=Lib.hid BW.out
     have hPl:=HFI.out.2
     have hgw:=ow.lt
     clear ST MO XBr BW ow mfz hlk x1 x2 HSL HWL HWM HPL HPQ HEN OS ON XB XB2 XB3
     clear hjp
     go_wp2_with fail
     have Bv:Hid (Below w.heap.size w (wr.alloc (.cells (List.replicate k (.int .i64 0)).toArray 3))):=BWr.out.alloc BWr.out.size _
     have HMP2:Hid (OwnM (wr.alloc (.cells (List.replicate k (.int .i64 0)).toArray 3)) (w.heap.size+1) nx D∧MF D (ofN P)):=⟨World.ownsMap.alloc HMP.out.1 _,HMP.out.2⟩
     have hwb:=BWr.out.size
     obtain ⟨go,hgo⟩:∃ go,go=wr.heap.size:=⟨_,rfl⟩
     simp only [← hgo] at HOW ⊢
     have hgo2:w.heap.size+1 < go:=by rw [hgo];exact hgw
     have hgo3:w.heap.size≤go:=by rw [hgo];exact hwb
     simp only [List.toArray_replicate] at Bv HMP2
     generalize wr.alloc (.cells (Array.replicate k (.int .i64 0)) 3)=v at *
     clear HMP hmk x0 hgw hwb hgo
     go_loopw [111] (fun i wr=>∃ (t:Nat) (y:List Int),t≤k∧i=.int .i64 (t:Int)∧Hid (∀ d,d < t→y.getD d 0=((P.getD d 0:Nat):Int))∧Hid (wr.ownsRow go 3 1 (.slice (some ⟨go,0,none⟩) k k) k (I64 y))∧Hid (OwnM wr (w.heap.size+1) nx D∧MF D (ofN P))∧Hid (Below w.heap.size w wr)) (fun i _=>k - (intOf i).toNat)
     case atStart=>exact ⟨0,List.replicate k 0,by omega,rfl,fun d hd=>absurd hd (by omega),HOW,HMP2,Bv⟩
     case round =>
      clear HOW HMP2 Bv
      obtain ⟨t,y,ht,rfl,HY,HO,HM,HB⟩:=hrel
      by_cases htk:t < k
      ·have hdt:decide (t < k)=true:=by rw [decide_eq_true_iff];exact htk
       have hti:(t:Int) < (k:Int):=by omega
       have lk:=look_fv HM.out.1 HM.out.2 t (by rw [ofN_len];omega) (by omega)
       rw [ofN_get] at lk
       have lk':(Instr.lookup 104 (.map (some (w.heap.size+1))) (.int .i64 (t:Int)) false).run Tryz.prog wr=.ok (.int .i64 ((P.getD t 0:Nat):Int)) wr:=by
        rw [if_neg (by omega)] at lk;exact lk
       have hc:=own_cellI HO.out t htk
       have hf:=HO.out.frozenAt t
       have hyl:=own_lenI HO.out
       have HY1:Hid (∀ d,d < t+1→(y.set t ((P.getD t 0:Nat):Int)).getD d 0=((P.getD d 0:Nat):Int)):=fun d hd=>by
        rw [getDI_set _ _ _ _ (by omega)]
        by_cases e:d=t
        ·rw [if_pos e,e]
        ·rw [if_neg e];exact HY.out d (by omega)
       have HO1:=Lib.hid (own_setI HO.out t ((P.getD t 0:Nat):Int))
       have HB1:=Lib.hid (HB.out.setCell (p:=⟨go,t,none⟩) hgo3 (.int .i64 ((P.getD t 0:Nat):Int)))
       have HM1:Hid (OwnM (wr.setCell ⟨go,t,none⟩ (.int .i64 ((P.getD t 0:Nat):Int))) (w.heap.size+1) nx D∧MF D (ofN P)):=⟨own_map_set HM.out.1 (p:=⟨go,t,none⟩) (by show go≠w.heap.size+1;omega) _,HM.out.2⟩
       generalize y.getD t 0=yt at hc
       generalize P.getD t 0=pt at *
       clear lk hyl HO HM HB
       go_wp2_with fail
       go_roundw
       case rel=>exact ⟨t+1,_,by omega,by go_num,HY1.out,HO1,HM1,HB1⟩
       case measure=>simp [intOf];omega
      ·obtain rfl:t=k:=by omega
       have hdt:decide (t < t)=false:=by simp
       have hye:y=ofN P:=ofN_of (by rw [own_lenI HO.out];exact hPl.symm) fun i hi=>HY.out i (by omega)
       have hol:=HO.out.base_le' hgo3
       rw [hye] at hol
       have HOL:=Lib.hid hol
       clear hye hol HY HO HM
       go_wp2_with fail
       go_ret
       refine NewI64.mk rfl ?_ HB.out
       rw [ofN_len,hPl]
       exact HOL.out
open Go.RowKit Go.Maps
theorem nil_invC0:Inv [] []:=⟨rfl,fun i h=>absurd h (by simp),fun i h=>absurd h (by simp),fun i h=>absurd h (by simp),fun i h=>absurd h (by simp)⟩
set_option maxHeartbeats 8000000 in
theorem rcnames_0 (A:Option Addr) (c:Nat) (lone:Int) (w:World) (h:Rd w w.heap.size A 0 (I64 (ofN []))) :
  Calls Tryz.prog 67 #[.agg #[.slice A 0 c,.int .i64 (-1),.int .i64 lone]] w (NewI64 w (ofN [])):=by
 obtain ⟨i0,hi0,hz0,hz1,hz2⟩:=info_parts info_int
 obtain ⟨n,hn⟩:∃ n,n=0:=⟨_,rfl⟩
 have HN:=Lib.hid hn
 have hmm:=@run_makeMap Tryz.prog
 have hb0:=(Below.refl w.heap.size w).alloc (Nat.le_refl _) (.cells #[.slice A n c,.int .i64 (-1),.int .i64 lone] 28)
 have XB:=Lib.hid ((Blk.new w 28 #[.slice A n c,.int .i64 (-1),.int .i64 lone]).alloc (.map #[] 0))
 have hb1:=hb0.alloc (by simp) (.map #[] 0)
 have NP:Hid (∀ W,Below w.heap.size w W→Calls Tryz.prog 98 #[.agg #[.slice A n c,.int .i64 (-1),.int .i64 lone]] W (NewI64 W (ofN (enames [])))):=fun W z=>by
  rw [hn];exact renames_p A c [] [] (-1) lone W ((h.below z).up z.size) nil_invC0 rfl (by simp)
 have hen:(ofN (enames [])).length=n:=by rw [hn,ofN_len,enames_len];rfl
 have HLE:=Lib.hid hen
 have hmk:=run_make_one (P:=Tryz.prog) 26 3 i0 (.int .i64 0) 8 Tryz.underlying26 hi0 hz0 hz1 hz2 rfl .i64 .i64 n (by omega) (by omega)
 have HMK:=Lib.hid hmk
 have hnp:¬ (0:Int) < (n:Int):=by omega
 have hn0:¬ 0 < n:=by omega
 rw [show Value.slice A 0 c=Value.slice A n c by rw [hn]]
 clear h hb0 hen hmk hn
 go_enter Tryz.func67,Tryz.ntmps67
 have x0:=XB.out.cell 0
 have x1:=XB.out.cell 1
 have x2:=XB.out.cell 2
 simp at x0 x1 x2
 go_wp2_with fail
 generalize (w.alloc (.cells #[.slice A n c,.int .i64 (-1),.int .i64 lone] 28)).alloc (.map #[] 0)=w1 at *
 have HB1:=Lib.hid hb1
 have N1:=Lib.hid (NP.out _ hb1)
 clear hb1 NP x0 x1 x2 hmm
 refine N1.out.mono ?_
 rintro e w2 ⟨AN,cN,rfl,_,_,_,z⟩
 rw [HLE.out]
 have B2:=Lib.hid (HB1.out.trans (z.mono HB1.out.size))
 have XB2:=Lib.hid (XB.out.below z)
 clear z N1 HB1
 have x0:=XB2.out.cell 0
 have x1:=XB2.out.cell 1
 have x2:=XB2.out.cell 2
 simp at x0 x1 x2
 go_wp2_with fail
 go_loopw [5,35] (fun s i wr=>∃ k:Nat,k≤n∧s=.slice none 0 0∧i=.int .i64 (k:Int)∧wr=w2) (fun _ i _=>n - (intOf i).toNat)
 case atStart=>exact ⟨0,by omega,rfl,rfl,rfl⟩
 case round =>
  obtain ⟨k,hk,rfl,rfl,rfl⟩:=hrel
  obtain rfl:k=n:=by have:=HN.out;omega
  have hdk:decide (k < k)=false:=by simp
  go_wp2_with fail
  go_loopw [69] (fun i wr'=>i=.int .i64 0∧wr'=wr) (fun i _=>0)
  case atStart=>exact ⟨rfl,rfl⟩
  case round =>
   obtain ⟨rfl,rfl⟩:=hrel
   have hmk:=HMK.out
   go_wp2_with fail
   go_loopw [111] (fun i wr'=>∃ j:Nat,j≤k∧i=.int .i64 (j:Int)∧wr'=wr.alloc (.cells (Array.replicate k (.int .i64 0)) 3)) (fun i _=>k - (intOf i).toNat)
   case atStart=>exact ⟨0,by omega,rfl,rfl⟩
   case round =>
    obtain ⟨j,hj,rfl,rfl⟩:=hrel
    obtain rfl:j=k:=by have:=HN.out;omega
    have o1:=own_made wr 3 j (.int .i64 0) (by have:=HN.out;simp only [maxLen];omega)
    rw [List.toArray_replicate] at o1
    have O1:=Lib.hid (o1.base_le' B2.out.size)
    have B3:=Lib.hid (B2.out.alloc B2.out.size (.cells (Array.replicate j (.int .i64 0)) 3))
    have hdj:decide (j < j)=false:=by simp
    clear o1
    go_wp2_with fail
    go_ret
    have o2:=O1.out
    have b3:=B3.out
    have hj0:=HN.out
    subst hj0
    exact NewI64.mk rfl o2 b3
theorem rcnames_p (A:Option Addr) (c:Nat) (l b:List Nat) (root lone:Int) (P Q:List Nat) (w:World) (h:Rd w w.heap.size A l.length (I64 (ofN l))) (hi:Inv l b) (he:l.length%2=0) (hn:l.length≤1000) (hr:RootOk root l.length) (hC:CanO l root P Q) :
  Calls Tryz.prog 67 #[.agg #[.slice A l.length c,.int .i64 root,.int .i64 lone]] w (NewI64 w (ofN P)):=by
 rcases hC with ⟨h0,rfl,rfl,rfl⟩ | ⟨r,rfl,hrl,hC⟩
 ·have hl0:l=[]:=List.eq_nil_of_length_eq_zero h0
  subst hl0
  exact rcnames_0 A c lone w h
 ·exact rcnames_r A c l b r lone P Q w h hi he hn hrl hC
def RCPost (w:World) (n:Nat) (l P Q:List Nat) (root lone:Int) (e:Ending) (w':World):Prop :=
 ∃ A c,e=.returned (.agg #[.slice A n c,.int .i64 (reRoot P root),.int .i64 lone])∧n≤c∧c≤maxLen∧w'.ownsRow w.heap.size 3 1 (.slice A n c) n (I64 (ofN (cjL P Q l)))∧Below w.heap.size w w'
set_option maxHeartbeats 8000000 in
theorem rcanon_p (A:Option Addr) (c:Nat) (l b:List Nat) (root lone:Int) (L Q:List Nat) (w:World) (h:Rd w w.heap.size A l.length (I64 (ofN l))) (hinv:Inv l b) (hev:l.length%2=0) (hlen:l.length≤1000) (hroot:RootOk root l.length) (hC:CanO l root L Q) :
  Calls Tryz.prog 29 #[.agg #[.slice A l.length c,.int .i64 root,.int .i64 lone]] w (RCPost w l.length l L Q root lone):=by
 obtain ⟨i0,hi0,hz0,hz1,hz2⟩:=info_parts info_int
 have hb0:=((Below.refl w.heap.size w).alloc (Nat.le_refl _) (.cells #[.slice A l.length c,.int .i64 root,.int .i64 lone] 28)).alloc (by simp) (.cells #[.slice none 0 0,.int .i64 0,.int .i64 0] 28)
 have HX:=Lib.hid ((Blk.new w 28 #[.slice A l.length c,.int .i64 root,.int .i64 lone]).alloc (.cells #[.slice none 0 0,.int .i64 0,.int .i64 0] 28))
 have hy:=(Blk.new (w.alloc (.cells #[.slice A l.length c,.int .i64 root,.int .i64 lone] 28)) 28 #[.slice none 0 0,.int .i64 0,.int .i64 0])
 rw [show (w.alloc (.cells #[.slice A l.length c,.int .i64 root,.int .i64 lone] 28)).heap.size=w.heap.size+1 by simp] at hy
 have HY:=Lib.hid hy
 have HR:=Lib.hid (h.more hb0)
 have HB0:=Lib.hid hb0
 have HINF:=Lib.hid info_rmap
 have HI:=Lib.hid hinv
 have HRT:=Lib.hid hroot
 have HNAM0:Hid (Nam l.length L Q):=CanO.nam (b:=b) hC
 have NP:Hid (∀ W,Below w.heap.size w W→Calls Tryz.prog 67 #[.agg #[.slice A l.length c,.int .i64 root,.int .i64 lone]] W (NewI64 W (ofN L))):=fun W z=>rcnames_p A c l b root lone L Q W ((h.below z).up z.size) hinv hev hlen hroot hC
 obtain ⟨q,hN⟩:∃ q,q=l.length:=⟨_,rfl⟩
 have HNN:=Lib.hid hN
 have hq1000:q≤1000:=by omega
 rw [← hN] at HX HR HB0 HY NP HNAM0 ⊢
 clear h hb0 hinv hy hroot hev hlen hN hC
 go_enter Tryz.func29,Tryz.ntmps29
 go_upto_region 1 with fail
 generalize hw3:(w.alloc (.cells #[.slice A q c,.int .i64 root,.int .i64 lone] 28)).alloc (.cells #[.slice none 0 0,.int .i64 0,.int .i64 0] 28)=w3 at *
 have hs3:w3.heap.size=w.heap.size+2:=by rw [← hw3];simp
 have x0:w3.cell? ⟨w.heap.size,0,none⟩=some (.slice A q c):=HX.out.cell 0
 have x1:w3.cell? ⟨w.heap.size,1,none⟩=some (.int .i64 root):=HX.out.cell 1
 have x2:w3.cell? ⟨w.heap.size,2,none⟩=some (.int .i64 lone):=HX.out.cell 2
 clear hw3
 have c3':∀ W:World,Below w3.heap.size w3 W→∀ o,W.cell? ⟨w.heap.size,o,none⟩=w3.cell? ⟨w.heap.size,o,none⟩:=fun W m o=>m.cell (p:=⟨w.heap.size,o,none⟩) (show w.heap.size < w3.heap.size by omega)
 have SK:Hid (∀ W,Below w3.heap.size w3 W→W.cell? ⟨w.heap.size,0,none⟩=some (.slice A q c)∧W.cell? ⟨w.heap.size,1,none⟩=some (.int .i64 root)∧W.cell? ⟨w.heap.size,2,none⟩=some (.int .i64 lone)):=fun W m=>⟨(c3' W m 0).trans x0,(c3' W m 1).trans x1,(c3' W m 2).trans x2⟩
 have BK:Hid (∀ W,Below w3.heap.size w3 W→Below w.heap.size w W):=fun W m=>HB0.out.trans (m.mono HB0.out.size)
 clear c3'
 have N1:=Lib.hid (NP.out w3 HB0.out)
 clear NP
 go_wp2_with fail
 refine N1.out.mono ?_
 rintro e wr ⟨Av,cv,rfl,hqc,hcv,hO,z⟩
 have hPl:L.length=q:=HNAM0.out.len
 rw [ofN_len,hPl] at hO hqc ⊢
 have HNAM:Hid (Nam q L Q):=HNAM0
 have HLL:Hid (L.length=q):=hPl
 have B5:Hid (Below w3.heap.size w3 wr):=z
 have HOL:Hid (wr.ownsRow w3.heap.size 3 1 (.slice Av q cv) q (I64 (ofN L))):=hO
 have HFR:Hid (∀ W,Below wr.heap.size wr W→W.ownsRow w3.heap.size 3 1 (.slice Av q cv) q (I64 (ofN L))):=fun W m=>own_below HOL.out m
 clear hO z N1 hPl HNAM0 x0 x1 x2
 have hq1:q≤1000:=by omega
 have hmk:=run_make_one (P:=Tryz.prog) 26 3 i0 (.int .i64 0) 8 Tryz.underlying26 hi0 hz0 hz1 hz2 rfl .i64 .i64 q (by omega) (by omega)
 have hs5:=B5.out.size
 have Z0:=Below.refl wr.heap.size wr
 obtain ⟨z0,z1,z2⟩:=SK.out _ B5.out
 have SK1:∀ o1,(wr.alloc o1).cell? ⟨w.heap.size,0,none⟩=some (.slice A q c)∧(wr.alloc o1).cell? ⟨w.heap.size,1,none⟩=some (.int .i64 root)∧(wr.alloc o1).cell? ⟨w.heap.size,2,none⟩=some (.int .i64 lone):=fun o1=>SK.out _ (B5.out.trans ((Z0.alloc (Nat.le_refl _) o1).mono hs5))
 have SK2:∀ o1 o2,((wr.alloc o1).alloc o2).cell? ⟨w.heap.size,0,none⟩=some (.slice A q c)∧((wr.alloc o1).alloc o2).cell? ⟨w.heap.size,1,none⟩=some (.int .i64 root)∧((wr.alloc o1).alloc o2).cell? ⟨w.heap.size,2,none⟩=some (.int .i64 lone):=fun o1 o2=>SK.out _ (B5.out.trans (((Z0.alloc (Nat.le_refl _) o1).alloc (by simp) o2).mono hs5))
 obtain ⟨ma0,ma1,ma2⟩:=SK1 (.cells (Array.replicate q (.int .i64 0)) 3)
 obtain ⟨mb0,mb1,mb2⟩:=SK1 (.cells #[.slice none 0 0,.int .i64 0,.int .i64 0] 28)
 obtain ⟨mc0,mc1,mc2⟩:=SK2 (.cells (Array.replicate q (.int .i64 0)) 3) (.cells #[.slice none 0 0,.int .i64 0,.int .i64 0] 28)
 obtain ⟨md0,md1,md2⟩:=SK2 (.cells #[.slice none 0 0,.int .i64 0,.int .i64 0] 28) (.cells (Array.replicate q (.int .i64 0)) 3)
 clear SK1 SK2
 have FA:Hid (∃ g7 gS,(Value.pointer (some ⟨wr.heap.size+1,0,none⟩))=.pointer (some ⟨g7,0,none⟩)∧g7≠gS∧wr.heap.size≤g7∧wr.heap.size≤gS∧g7 < (((wr.alloc (.cells (Array.replicate q (.int .i64 0)) 3)).alloc (.cells #[.slice (some ⟨wr.heap.size,0,none⟩) q q,.int .i64 root,.int .i64 lone] 28)).drew).heap.size∧gS < (((wr.alloc (.cells (Array.replicate q (.int .i64 0)) 3)).alloc (.cells #[.slice (some ⟨wr.heap.size,0,none⟩) q q,.int .i64 root,.int .i64 lone] 28)).drew).heap.size∧Hid (Blk (((wr.alloc (.cells (Array.replicate q (.int .i64 0)) 3)).alloc (.cells #[.slice (some ⟨wr.heap.size,0,none⟩) q q,.int .i64 root,.int .i64 lone] 28)).drew) g7 28 #[.slice (some ⟨gS,0,none⟩) q q,.int .i64 root,.int .i64 lone])∧Hid ((((wr.alloc (.cells (Array.replicate q (.int .i64 0)) 3)).alloc (.cells #[.slice (some ⟨wr.heap.size,0,none⟩) q q,.int .i64 root,.int .i64 lone] 28)).drew).ownsRow wr.heap.size 3 1 (.slice (some ⟨gS,0,none⟩) q q) q (I64 (List.replicate q 0)))∧Hid (Below wr.heap.size wr (((wr.alloc (.cells (Array.replicate q (.int .i64 0)) 3)).alloc (.cells #[.slice (some ⟨wr.heap.size,0,none⟩) q q,.int .i64 root,.int .i64 lone] 28)).drew))):=by
  have o1:=own_made wr 3 q (.int .i64 0) (by simp only [maxLen];omega)
  rw [List.toArray_replicate] at o1
  have k1:=Blk.new (wr.alloc (.cells (Array.replicate q (.int .i64 0)) 3)) 28 #[.slice (some ⟨wr.heap.size,0,none⟩) q q,.int .i64 root,.int .i64 lone]
  have es:(wr.alloc (.cells (Array.replicate q (.int .i64 0)) 3)).heap.size=wr.heap.size+1:=by simp
  rw [es] at k1
  refine ⟨wr.heap.size+1,wr.heap.size,rfl,by omega,by omega,by omega,by simp,by simp;omega,k1.drewN 1,?_,?_⟩
  ·have o2:=own_below (o1.alloc (.cells #[.slice (some ⟨wr.heap.size,0,none⟩) q q,.int .i64 root,.int .i64 lone] 28)) (Below.refl _ _).drew
   rw [show I64 (List.replicate q 0)=List.replicate q (.int .i64 0) by simp [I64]]
   exact o2
  ·exact ((Z0.alloc (Nat.le_refl _) _).alloc (by simp) _).drew
 have FB:Hid (∃ g7 gS,(Value.pointer (some ⟨wr.heap.size,0,none⟩))=.pointer (some ⟨g7,0,none⟩)∧g7≠gS∧wr.heap.size≤g7∧wr.heap.size≤gS∧g7 < (((wr.alloc (.cells #[.slice (some ⟨wr.heap.size+1,0,none⟩) q q,.int .i64 root,.int .i64 lone] 28)).alloc (.cells (Array.replicate q (.int .i64 0)) 3)).drew).heap.size∧gS < (((wr.alloc (.cells #[.slice (some ⟨wr.heap.size+1,0,none⟩) q q,.int .i64 root,.int .i64 lone] 28)).alloc (.cells (Array.replicate q (.int .i64 0)) 3)).drew).heap.size∧Hid (Blk (((wr.alloc (.cells #[.slice (some ⟨wr.heap.size+1,0,none⟩) q q,.int .i64 root,.int .i64 lone] 28)).alloc (.cells (Array.replicate q (.int .i64 0)) 3)).drew) g7 28 #[.slice (some ⟨gS,0,none⟩) q q,.int .i64 root,.int .i64 lone])∧Hid ((((wr.alloc (.cells #[.slice (some ⟨wr.heap.size+1,0,none⟩) q q,.int .i64 root,.int .i64 lone] 28)).alloc (.cells (Array.replicate q (.int .i64 0)) 3)).drew).ownsRow wr.heap.size 3 1 (.slice (some ⟨gS,0,none⟩) q q) q (I64 (List.replicate q 0)))∧Hid (Below wr.heap.size wr (((wr.alloc (.cells #[.slice (some ⟨wr.heap.size+1,0,none⟩) q q,.int .i64 root,.int .i64 lone] 28)).alloc (.cells (Array.replicate q (.int .i64 0)) 3)).drew))):=by
  have o1:=own_made (wr.alloc (.cells #[.slice (some ⟨wr.heap.size+1,0,none⟩) q q,.int .i64 root,.int .i64 lone] 28)) 3 q (.int .i64 0) (by simp only [maxLen];omega)
  rw [List.toArray_replicate] at o1
  have k1:=(Blk.new wr 28 #[.slice (some ⟨wr.heap.size+1,0,none⟩) q q,.int .i64 root,.int .i64 lone]).alloc (.cells (Array.replicate q (.int .i64 0)) 3)
  have es:(wr.alloc (.cells #[.slice (some ⟨wr.heap.size+1,0,none⟩) q q,.int .i64 root,.int .i64 lone] 28)).heap.size=wr.heap.size+1:=by simp
  refine ⟨wr.heap.size,wr.heap.size+1,rfl,by omega,by omega,by omega,by simp;omega,by simp,k1.drewN 1,?_,?_⟩
  ·have o2:=(own_below o1 (Below.refl _ _).drew).base_le' (show wr.heap.size≤_ by rw [es];omega)
   rw [es] at o2
   rw [show I64 (List.replicate q 0)=List.replicate q (.int .i64 0) by simp [I64]]
   exact o2
  ·exact ((Z0.alloc (Nat.le_refl _) _).alloc (by simp) _).drew
 have wq:IntKind.i64.wrap (q:Int)=(q:Int):=by simp [IntKind.wrap,IntKind.signed,IntKind.bits];omega
 go_upto_region 2 with fail
 go_cut [4] from 9 to 17 (fun s wx=>∃ g7 gS,s=.pointer (some ⟨g7,0,none⟩)∧g7≠gS∧wr.heap.size≤g7∧wr.heap.size≤gS∧g7 < wx.heap.size∧gS < wx.heap.size∧Hid (Blk wx g7 28 #[.slice (some ⟨gS,0,none⟩) q q,.int .i64 root,.int .i64 lone])∧Hid (wx.ownsRow wr.heap.size 3 1 (.slice (some ⟨gS,0,none⟩) q q) q (I64 (List.replicate q 0)))∧Hid (Below wr.heap.size wr wx))
 case first =>
  clear ma0 mc0 md0
  go_region
  all_goals (go_wp2_with fail)
  all_goals (go_meet)
  all_goals (first | exact FA.out | exact FB.out)
 case rest =>
  obtain ⟨g7,gS,rfl,hne,h37,h3S,h7c,hSc,HB7,HOS,HBW⟩:=hcut
  clear FA FB hmk ma0 ma1 ma2 mb0 mb1 mb2 mc0 mc1 mc2 md0 md1 md2 Z0 z0 z1 z2
  have HNE:Hid (g7≠gS):=hne
  clear hne
  obtain ⟨x0,x1,x2⟩:=SK.out _ (B5.out.trans (HBW.out.mono hs5))
  obtain ⟨wr0,rfl⟩:∃ wr0:World,wr0=wr:=⟨_,rfl⟩
  go_wp2_with fail
  go_loopw [21] (fun i wx=>∃ (d:Nat) (y:List Int),d≤q∧i=.int .i64 (d:Int)∧Hid (y.length=q∧∀ j,j < d→y.getD (L.getD j 0) 0=((L.getD (l.getD j 0) 0:Nat):Int))∧Hid (Blk wx g7 28 #[.slice (some ⟨gS,0,none⟩) q q,.int .i64 root,.int .i64 lone])∧Hid (wx.ownsRow wr0.heap.size 3 1 (.slice (some ⟨gS,0,none⟩) q q) q (I64 y))∧Hid (Below wr0.heap.size wr0 wx)) (fun i _=>q - (intOf i).toNat)
  case atStart=>exact ⟨0,List.replicate q 0,by omega,rfl,⟨by simp,fun j hj=>by omega⟩,HB7,HOS,HBW⟩
  case round =>
   clear HB7 HOS HBW x0 x1 x2
   obtain ⟨d,y,hd,rfl,HYY,HB7,HOS,HBW⟩:=hrel
   have hba:=B5.out.trans (HBW.out.mono hs5)
   by_cases hlt:d < q
   ·obtain ⟨ba,oa,rfl,hbB,hcz⟩:=(HR.out.more hba).i64 (by omega)
    have ca:=hcz d hlt
    rw [ofN_get] at ca
    obtain ⟨gL,oL,rfl,hbL,hcL⟩:=(Rd.ofOwn (HFR.out _ HBW.out)).i64 (by omega)
    have hxl:l.getD d 0 < q:=by have:=HI.out.lt d (by rw [← HNN.out];exact hlt);rwa [← HNN.out] at this
    have c1:=hcL d hlt
    have c2:=hcL (l.getD d 0) hxl
    rw [ofN_get] at c1 c2
    have hyl:L.getD d 0 < q:=HNAM.out.lt hlt
    have r0:=HB7.out.cell 0
    simp at r0
    have hcS:=own_cellI HOS.out (L.getD d 0) hyl
    have hfS:=HOS.out.frozenAt (L.getD d 0)
    have hvl:L.getD (l.getD d 0) 0 < q:=HNAM.out.lt hxl
    have HZ:Hid ((y.set (L.getD d 0) ((L.getD (l.getD d 0) 0:Nat):Int)).length=q∧∀ j,j < d+1→(y.set (L.getD d 0) ((L.getD (l.getD d 0) 0:Nat):Int)).getD (L.getD j 0) 0=((L.getD (l.getD j 0) 0:Nat):Int)):=by
     obtain ⟨z1,z2⟩:=HYY.out
     refine ⟨by rw [List.length_set];exact z1,fun j hj=>?_⟩
     rw [getDI_set _ _ _ _ (by rw [z1];exact hyl)]
     by_cases e:j=d
     ·rw [e,if_pos rfl]
     ·rw [if_neg (fun e2=>e (HNAM.out.inv.inj j d (by rw [HNAM.out.len];omega) (by rw [HNAM.out.len];omega) e2))]
      exact z2 j (by omega)
    have HBN:Hid (∀ u,Blk (wr.setCell ⟨gS,L.getD d 0,none⟩ u) g7 28 #[.slice (some ⟨gS,0,none⟩) q q,.int .i64 root,.int .i64 lone]):=fun u =>
     HB7.out.mod (Mod.setCell (p:=⟨gS,L.getD d 0,none⟩) (Mod.refl (fun i=>i=gS) wr) (fun _=>rfl) _) HNE.out
    have HBW2:Hid (∀ u,Below wr0.heap.size wr0 (wr.setCell ⟨gS,L.getD d 0,none⟩ u)):=fun u=>HBW.out.setCell (p:=⟨gS,L.getD d 0,none⟩) h3S _
    have HO2:=Lib.hid (own_setI HOS.out (L.getD d 0) ((L.getD (l.getD d 0) 0:Nat):Int))
    have FIN:=Lib.hid (And.intro ((HBN.out (.int .i64 ((L.getD (l.getD d 0) 0:Nat):Int))).drewN 1) (And.intro (own_below HO2.out (Below.refl _ _).drew) ((HBW2.out (.int .i64 ((L.getD (l.getD d 0) 0:Nat):Int))).drew)))
    have hdi:(d:Int) < (q:Int):=by omega
    clear HBN HO2 HBW2 HB7 HOS hcz hcL HYY hba
    generalize L.getD (l.getD d 0) 0=v at *
    generalize L.getD d 0=xp at *
    generalize l.getD d 0=xl at *
    generalize y.getD xp 0=yo at *
    have hxi:(xl:Int) < (q:Int):=by omega
    have hpi:(xp:Int) < (q:Int):=by omega
    go_wp2_with fail
    go_region
    all_goals (
     go_wp2_with fail
     go_roundw
     case rel=>exact ⟨d+1,_,by omega,by go_num,HZ,FIN.out.1,FIN.out.2.1,FIN.out.2.2⟩
     case measure=>simp [intOf];omega)
   ·obtain rfl:d=q:=by omega
    have hyT:y=ofN (cjL L Q l):=by
     have hlq:l.length=d:=HNN.out.symm
     refine getDI_ext (by rw [HYY.out.1,ofN_len,cjL_len,hlq]) fun i hi=>?_
     rw [HYY.out.1] at hi
     have hj:=HNAM.out.lt' hi
     have h1:=HYY.out.2 (sgL Q i) hj
     have h2:L.getD (sgL Q i) 0=i:=HNAM.out.pq hi
     rw [h2] at h1
     rw [h1,ofN_get]
     have h3:sgL (cjL L Q l) i=sgL L (sgL l (sgL Q i)):=cjL_get L Q l (by rw [hlq];exact hi)
     exact congrArg _ h3.symm
    have HOT:Hid (wr.ownsRow wr0.heap.size 3 1 (.slice (some ⟨gS,0,none⟩) d d) d (I64 (ofN (cjL L Q l)))):=by
     show World.ownsRow _ _ _ _ _ _ _
     rw [← hyT];exact HOS.out
    clear hyT HYY HOS hlt
    have END:Hid (∀ wz AT cT RT,RT=reRoot L root→Below wr0.heap.size wr0 wz→d≤cT→cT≤maxLen→wz.ownsRow wr0.heap.size 3 1 (.slice AT d cT) d (I64 (ofN (cjL L Q l))) →
      Blk (((wz.setCell ⟨w.heap.size+1,0,none⟩ (.slice AT d cT)).setCell ⟨w.heap.size+1,1,none⟩ (.int .i64 RT)).setCell ⟨w.heap.size+1,2,none⟩ (.int .i64 lone)) (w.heap.size+1) 28 #[.slice AT d cT,.int .i64 RT,.int .i64 lone] ∧
      RCPost w d l L Q root lone (.returned (.agg #[.slice AT d cT,.int .i64 RT,.int .i64 lone])) (((wz.setCell ⟨w.heap.size+1,0,none⟩ (.slice AT d cT)).setCell ⟨w.heap.size+1,1,none⟩ (.int .i64 RT)).setCell ⟨w.heap.size+1,2,none⟩ (.int .i64 lone))):=fun wz AT cT RT hRT hbz hc1 hc2 hown=>by
     have hz3:=B5.out.trans (hbz.mono hs5)
     have hb3:=BK.out _ hz3
     obtain ⟨e1,e2,e3⟩:=box_ret (LF:=lone) (RT:=RT) (show w.heap.size≤w.heap.size+1 by omega) hb3 (HY.out.below hz3) hown
     exact ⟨e1,AT,cT,by rw [hRT],hc1,hc2,e2.base_le' (by have:=B5.out.size;omega),e3⟩
    have r0:=HB7.out.cell 0
    have r1:=HB7.out.cell 1
    have r2:=HB7.out.cell 2
    have f1:=HB7.out.frozen 1
    simp at r0 r1 r2
    obtain ⟨x0,x1,x2⟩:=SK.out _ hba
    have HYZ:=Lib.hid (HY.out.below hba)
    have q0:=HYZ.out.cell 0
    have q1:=HYZ.out.cell 1
    have q2:=HYZ.out.cell 2
    have g0:=HYZ.out.frozen 0
    have g1:=HYZ.out.frozen 1
    have g2:=HYZ.out.frozen 2
    simp at q0 q1 q2
    have hqm:d≤maxLen:=by simp only [maxLen];omega
    by_cases hd0:d=0
    ·subst hd0
     have hRT0:root=-1:=by
      have hq:=HNN.out
      rcases HRT.out with ⟨_,e⟩ | ⟨e,_⟩
      ·exact e
      ·omega
     have F:=Lib.hid (END.out wr (some ⟨gS,0,none⟩) 0 root (by rw [hRT0];rfl) HBW.out (Nat.le_refl _) hqm HOT.out)
     clear END hRT0
     go_wp2_with fail
     refine bodyPost_ret (results_cell_row rfl _ _ (w.heap.size+1) 28 _ (0,0) _ rfl F.out.1 Tryz.underlying28 rfl HINF.out) rfl ?_
     exact F.out.2
    ·obtain ⟨r,hr,hrd⟩:∃ r:Nat,root=(r:Int)∧r < d:=by
      have hq:=HNN.out
      rcases HRT.out with ⟨e,_⟩ | ⟨_,e1,e2⟩
      ·omega
      ·exact ⟨root.toNat,by omega,by omega⟩
     subst hr
     obtain ⟨gL,oL,rfl,hbL,hcL⟩:=(Rd.ofOwn (HFR.out _ HBW.out)).i64 (by omega)
     have cr:=hcL r hrd
     rw [ofN_get] at cr
     have hRT1:((L.getD r 0:Nat):Int)=reRoot L (r:Int):=by
      unfold reRoot
      rw [if_neg (by omega),Int.toNat_natCast]
     have HBN:Hid (Blk (wr.setCell ⟨g7,1,none⟩ (.int .i64 ((L.getD r 0:Nat):Int))) g7 28 #[.slice (some ⟨gS,0,none⟩) d d,.int .i64 ((L.getD r 0:Nat):Int),.int .i64 lone]):=by
      have:=HB7.out.set_ 1 (.int .i64 ((L.getD r 0:Nat):Int))
      show Blk _ _ _ _
      simpa using this
     have HOT2:=own_mod HOT.out (Mod.setCell (p:=⟨g7,1,none⟩) (Mod.refl (fun i=>i=g7) wr) (fun _=>rfl) (.int .i64 ((L.getD r 0:Nat):Int))) (fun q hq c=>by
      simp [Value.ownBlock] at hq;have:=HNE.out;omega)
     have F:=Lib.hid (END.out _ (some ⟨gS,0,none⟩) d _ hRT1 (HBW.out.setCell (p:=⟨g7,1,none⟩) h37 (.int .i64 ((L.getD r 0:Nat):Int))) (Nat.le_refl _) hqm HOT2)
     have b0:=HBN.out.cell 0
     have b1:=HBN.out.cell 1
     have b2:=HBN.out.cell 2
     simp at b0 b1 b2
     have hdp:decide (0 < d)=true:=decide_eq_true (by omega)
     have hdpi:(0:Int) < (d:Int):=by omega
     have hri:(r:Int) < (d:Int):=by omega
     clear END hRT1 HOT2 hcL
     generalize L.getD r 0=rv at *
     go_wp2_with fail
     refine bodyPost_ret (results_cell_row rfl _ _ (w.heap.size+1) 28 _ (0,0) _ rfl F.out.1 Tryz.underlying28 rfl HINF.out) rfl ?_
     exact F.out.2
end Go.Proofs.YtdinmjciippchaaGreat
