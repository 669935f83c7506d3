/- Genus, Planar, Connected of a map. made: a map of numbers, and the document's (layer 8). The document's names of parts, while they sink. The document's Names of parts. The document's count of orbits in a part. The document's Parts. The document's Parts: the walk. -/
import Derived.Test.YtdinmjciippchaaGreatZEParts
import Derived.Test.YtdinmjciippchaaGreatZg3
open Go.RowKit
set_option linter.unusedVariables false
namespace Go.Proofs.YtdinmjciippchaaGreat
set_option maxRecDepth 20000
section
variable {l b:List Nat}
end
structure NmOk (l N:List Nat):Prop where
 len:N.length=l.length
 le:∀ d,d < l.length→N.getD d 0≤d
 inp:∀ d,d < l.length→part l d (N.getD d 0)
def Shut (l N:List Nat) (d:Nat):Prop:=N.getD (l.getD d 0) 0=N.getD d 0∧N.getD (mateN d) 0=N.getD d 0
theorem getDN_set (y:List Nat) (k j v:Nat) (hk:k < y.length):(y.set k v).getD j 0=if j=k then v else y.getD j 0:=by
 rw [List.getD_eq_getElem?_getD,List.getD_eq_getElem?_getD,List.getElem?_set]
 by_cases h:k=j
 ·subst h;simp [hk]
 ·simp [h,Ne.symm h]
theorem sum_set:∀ (N:List Nat) (i v:Nat),i < N.length→(N.set i v).sum+N.getD i 0=N.sum+v
 | [],i,v,h=>by simp at h
 | a :: r,0,v,h=>by simp;omega
 | a :: r,i+1,v,h=>by
   have:=sum_set r i v (by simpa using h)
   simp at this ⊢
   omega
section
variable {l b N:List Nat}
theorem NmOk.start (h:Inv l b) (he:l.length%2=0):NmOk l (List.range l.length):=by
 have e:∀ d,d < l.length→(List.range l.length).getD d 0=d:=fun d hd=>by simp [List.getD_eq_getElem?_getD,List.getElem?_range hd]
 exact ⟨by simp,fun d hd=>by rw [e d hd];exact Nat.le_refl _,fun d hd=>by rw [e d hd];exact (part_eqv h he).refl d hd⟩
theorem NmOk.put (h:Inv l b) (he:l.length%2=0) (H:NmOk l N) {d x:Nat} (hd:d < l.length) (hx:x < l.length) (r:part l d x) (lt:N.getD x 0 < N.getD d 0) :
  NmOk l (N.set d (N.getD x 0))∧(N.set d (N.getD x 0)).sum < N.sum:=by
 have hq:=part_eqv h he
 have hl:=H.len
 refine ⟨⟨by simp [hl],fun y hy=>?_,fun y hy=>?_⟩,?_⟩
 ·rw [getDN_set _ _ _ _ (by omega)]
  by_cases e:y=d
  ·subst e;rw [if_pos rfl];have:=H.le y hy;omega
  ·rw [if_neg e];exact H.le y hy
 ·rw [getDN_set _ _ _ _ (by omega)]
  by_cases e:y=d
  ·subst e;rw [if_pos rfl]
   have h1:=H.le x hx
   exact hq.trans _ _ _ hd hx (by omega) r (H.inp x hx)
  ·rw [if_neg e];exact H.inp y hy
 ·have:=sum_set N d (N.getD x 0) (by omega)
  omega
theorem NmOk.done (h:Inv l b) (he:l.length%2=0) (H:NmOk l N) (hs:∀ d,d < l.length→Shut l N d) {d:Nat} (hd:d < l.length):N.getD d 0=rep (part l) d:=by
 have hpf:=sgL_pf h
 have hn:l.length=2*(l.length / 2):=by omega
 have hq:=part_eqv h he
 obtain ⟨h1,h2,h3⟩:=rep_is hq hd
 have hp:rep (part l) d < l.length:=by omega
 have key:=part_closed (S:=fun i=>N.getD i 0=N.getD (rep (part l) d) 0) hpf hn
  (fun i hi s=>by have:=(hs i hi).1;show N.getD (sgL l i) 0=_;unfold sgL;rw [this];exact s)
  (fun i hi s=>by have:=(hs i hi).2;rw [mt_mateN] at this;show N.getD (mt i) 0=_;rw [this];exact s) _ d hp hd h2
 rw [key.1 rfl]
 have a:=H.le _ hp
 have c:=H.inp _ hp
 by_cases e:N.getD (rep (part l) d) 0=rep (part l) d
 ·exact e
 ·exact absurd (hq.symm _ _ hp (by omega) c) (h3 _ (by omega))
end
def msum (wr:World) (gn n:Nat):Nat:=((rowOf wr gn n).map Int.toNat).sum
def bOf:Value→Nat
 | .bool true=>1
 | _=>0
theorem toNat_ofN (N:List Nat):(ofN N).map Int.toNat=N:=by
 unfold ofN
 rw [List.map_map]
 conv=>rhs;rw [← List.map_id N]
 apply List.map_congr_left
 intro x _
 simp
theorem msum_is {wr:World} {B gn n c:Nat} {N:List Nat} (h:wr.ownsRow B 3 1 (.slice (some ⟨gn,0,none⟩) n c) n (I64 (ofN N))):msum wr gn n=N.sum:=by
 unfold msum
 rw [rowOf_is h,toNat_ofN]
theorem ofN_setN (N:List Nat) (i v:Nat):(ofN N).set i (v:Int)=ofN (N.set i v):=by simp [ofN,List.map_set]
theorem own_setN {w:World} {base:Nat} {g n c:Nat} {y:List Nat} (h:w.ownsRow base 3 1 (.slice (some ⟨g,0,none⟩) n c) n (I64 (ofN y))) (k v:Nat) :
  (w.setCell ⟨g,k,none⟩ (.int .i64 (v:Int))).ownsRow base 3 1 (.slice (some ⟨g,0,none⟩) n c) n (I64 (ofN (y.set k v))):=by
 rw [← ofN_setN];exact own_setI h k _
theorem ofN_of {y:List Int} {N:List Nat} (hl:y.length=N.length) (h:∀ i,i < N.length→y.getD i 0=(N.getD i 0:Nat)):y=ofN N :=
 getDI_ext (by rw [hl,ofN_len]) fun i hi=>by rw [h i (by omega),ofN_get]
set_option maxHeartbeats 8000000 in
theorem renames_p (A:Option Addr) (c:Nat) (l b:List Nat) (root lone:Int) (w:World) (h:Rd w w.heap.size A l.length (I64 (ofN l))) (hinv:Inv l b) (he:l.length%2=0) (hn:l.length≤100000) :
  Calls Tryz.prog 98 #[.agg #[.slice A l.length c,.int .i64 root,.int .i64 lone]] w (NewI64 w (ofN (enames l))):=by
 obtain ⟨i0,hi0,hz0,hz1,hz2⟩:=info_parts info_int
 have hmk:=run_make_one (P:=Tryz.prog) 26 3 i0 (.int .i64 0) 8 Tryz.underlying26 hi0 hz0 hz1 hz2 rfl .i64 .i64 l.length (by omega) (by omega)
 have hb0:=(Below.refl w.heap.size w).alloc (Nat.le_refl _) (.cells #[.slice A l.length c,.int .i64 root,.int .i64 lone] 28)
 have H:=Lib.hid (h.below hb0)
 have HBX:=Lib.hid (Blk.new w 28 #[.slice A l.length c,.int .i64 root,.int .i64 lone])
 have HB0:=Lib.hid hb0
 have HE:=Lib.hid he
 have HI:=Lib.hid hinv
 have hx0:=HBX.out.cell 0
 simp at hx0
 have hw1s:(w.alloc (.cells #[.slice A l.length c,.int .i64 root,.int .i64 lone] 28)).heap.size=w.heap.size+1:=by simp
 have hown:=own_made (w.alloc (.cells #[.slice A l.length c,.int .i64 root,.int .i64 lone] 28)) 3 l.length (.int .i64 0) (by simp only [maxLen];omega)
 rw [← I64_replicate,hw1s] at hown
 have HOW:=Lib.hid hown
 clear h he hinv hb0 hown hw1s
 go_enter Tryz.func98,Tryz.ntmps98
 go_wp2_with fail
 generalize hw1:w.alloc (.cells #[.slice A l.length c,.int .i64 root,.int .i64 lone] 28)=w1 at *
 have hs1:w1.heap.size=w.heap.size+1:=by rw [← hw1];simp
 have HMK:=Lib.hid hmk
 clear hw1 hx0 hmk
 go_loopw [19] (fun i wr=>∃ (k:Nat) (y:List Int),k≤l.length∧i=.int .i64 (k:Int)∧Hid (∀ j,j < k→y.getD j 0=(j:Int))∧Hid (wr.ownsRow (w.heap.size+1) 3 1 (.slice (some ⟨w.heap.size+1,0,none⟩) l.length l.length) l.length (I64 y))∧Hid (Below (w.heap.size+1) w1 wr)) (fun i _=>l.length - (intOf i).toNat)
 case atStart=>exact ⟨0,List.replicate l.length 0,by omega,rfl,fun j h=>absurd h (by omega),Lib.hid (by simpa [I64] using HOW.out),(Below.refl _ _).alloc (by omega) _⟩
 case round =>
  obtain ⟨k,y,hk,rfl,HY,HO,HB⟩:=hrel
  by_cases hlt:k < l.length
  ·have hc:=own_cellI HO.out k hlt
   have hf:=HO.out.frozenAt k
   have hyl:=own_lenI HO.out
   have HY1:Hid (∀ j,j < k+1→(y.set k (k:Int)).getD j 0=(j:Int)):=fun j hj=>by
    rw [getDI_set _ _ _ _ (by omega)]
    by_cases e:j=k
    ·rw [if_pos e,e]
    ·rw [if_neg e];exact HY.out j (by omega)
   have HO1:=Lib.hid (own_setI HO.out k (k:Int))
   have HB1:=Lib.hid (HB.out.setCell (p:=⟨w.heap.size+1,k,none⟩) (Nat.le_refl _) (.int .i64 (k:Int)))
   generalize y.getD k 0=yk at hc
   clear hyl
   go_wp2_with fail
   go_roundw
   case rel=>exact ⟨k+1,y.set k (k:Int),by omega,by go_num,HY1.out,HO1.out,HB1.out⟩
   case measure=>simp [intOf];omega
  ·obtain rfl:k=l.length:=by omega
   have HO0:Hid (wr.ownsRow (w.heap.size+1) 3 1 (.slice (some ⟨w.heap.size+1,0,none⟩) l.length l.length) l.length (I64 (ofN (List.range l.length)))):=by
    rw [← ofN_of (y:=y) (by rw [own_lenI HO.out];simp) fun i hi=>by
     have hi:i < l.length:=by simpa using hi
     rw [HY.out i hi];simp [List.getD_eq_getElem?_getD,List.getElem?_range hi]]
    exact HO.out
   have HS0:=Lib.hid (NmOk.start HI.out HE.out)
   clear HO HY hlt hk HOW
   generalize List.range l.length=N0 at *
   go_wp2_with fail
   go_loopw [5] (fun s5 wr=>∃ (c:Bool) (N:List Nat),s5=.bool c∧Hid (NmOk l N)∧Hid (c=false→∀ d,d < l.length→Shut l N d)∧Hid (wr.ownsRow (w.heap.size+1) 3 1 (.slice (some ⟨w.heap.size+1,0,none⟩) l.length l.length) l.length (I64 (ofN N)))∧Hid (Below (w.heap.size+1) w1 wr)) (fun s5 wr=>msum wr (w.heap.size+1) l.length+bOf s5)
   case atStart=>exact ⟨true,N0,rfl,HS0,fun h=>(by cases h),HO0,HB⟩
   case round =>
    clear HS0 HO0 HB
    obtain ⟨ch,N,rfl,HN,HC,HO,HB⟩:=hrel
    have HMS:=Lib.hid (msum_is HO.out)
    cases ch with
    | true =>
      clear HC
      go_wp2_with fail
      go_loopw [5,30] (fun s5 i wr=>∃ (c:Bool) (k:Nat) (M:List Nat),s5=.bool c∧k≤l.length∧i=.int .i64 (k:Int)∧Hid (NmOk l M)∧Hid (M.sum≤N.sum)∧Hid (c=true→M.sum < N.sum)∧Hid (c=false→M=N∧∀ d,d < k→Shut l N d)∧Hid (wr.ownsRow (w.heap.size+1) 3 1 (.slice (some ⟨w.heap.size+1,0,none⟩) l.length l.length) l.length (I64 (ofN M)))∧Hid (Below (w.heap.size+1) w1 wr)) (fun _ i _=>l.length - (intOf i).toNat)
      case atStart=>exact ⟨false,0,N,rfl,by omega,rfl,HN,Nat.le_refl _,fun h=>(by cases h),fun _=>⟨rfl,fun d h=>absurd h (by omega)⟩,HO,HB⟩
      case round =>
       clear HO HB
       obtain ⟨ch,k,M,rfl,hk,rfl,HM,HM1,HM2,HM3,HO,HB⟩:=hrel
       by_cases hlt:k < l.length
       ·have hsw:=HB.out.size
        have hx0:wr.cell? ⟨w.heap.size,0,none⟩=some (.slice A l.length c):=Blk.cell ((HB.out.block w.heap.size (by omega)).trans HBX.out) 0
        have hr:=H.out.below (HB.out.mono (by omega))
        obtain ⟨b',o,rfl,hb'l,k1⟩:=hr.i64 (by omega)
        have t1:=k1 k hlt
        rw [ofN_get] at t1
        have MT:=Lib.hid (fun w'=>rmate_p k w' (by omega))
        have hml:=mateN_lt HE.out hlt
        have hll:=HI.out.lt k hlt
        have HSG:Hid (part l k (l.getD k 0)):=gk_sig (sgL_pf HI.out) k _
        have HMG:Hid (part l k (mateN k)):=by show part _ _ _;rw [mt_mateN];exact gk_mt (sgL_pf HI.out) (by have:=HE.out;omega) k hlt
        have HSH:Hid (∀ M:List Nat,Shut l M k↔(M.getD (l.getD k 0) 0=M.getD k 0∧M.getD (mateN k) 0=M.getD k 0)):=fun M=>Iff.rfl
        have hbw2:b' < wr.heap.size:=by omega
        clear hr k1
        generalize mateN k=mk at *
        generalize l.getD k 0=sk at *
        go_wp2_with fail
        go_region_with ((go_at_call 32;refine (MT.out _).mono ?_;rintro e w' ⟨rfl,rfl⟩))
        all_goals (
         have HOv:=Lib.hid ((HO.out.alloc (.cells #[.int .i64 (sk:Int),.int .i64 (mk:Int)] 3)).drew)
         have HBv:=Lib.hid ((HB.out.alloc (show w.heap.size+1≤wr.heap.size by omega) (.cells #[.int .i64 (sk:Int),.int .i64 (mk:Int)] 3)).drew)
         have HXv:=Lib.hid (Blk.drewN (Blk.new wr 3 #[.int .i64 (sk:Int),.int .i64 (mk:Int)]) 1)
         have hgx:w.heap.size+1 < wr.heap.size:=by have:=(own_block HO.out).2;omega
         obtain ⟨gx,hgxe⟩:∃ gx,gx=wr.heap.size:=⟨_,rfl⟩
         go_wp2_with fail
         have HXw:Hid (Blk (wr.alloc (.cells #[.int .i64 (sk:Int),.int .i64 (mk:Int)] 3)).drew wr.heap.size 3 #[.int .i64 (sk:Int),.int .i64 (mk:Int)]):=HXv.out
         generalize (wr.alloc (.cells #[.int .i64 (sk:Int),.int .i64 (mk:Int)] 3)).drew=v at *
         rw [← hgxe] at hgx HXw
         simp only [← hgxe]
         clear hgxe hsw hx0 t1 hbw2 HXv HO HB
         go_simp
         go_loopw [5,42] (fun s5 i wr=>∃ (ch:Bool) (j:Nat) (M:List Nat),s5=.bool ch∧j≤2∧i=.int .i64 (j:Int)∧Hid (NmOk l M)∧Hid (M.sum≤N.sum)∧Hid (ch=true→M.sum < N.sum)∧Hid (ch=false→M=N∧(∀ d,d < k→Shut l N d)∧(1≤j→N.getD sk 0=N.getD k 0)∧(2≤j→N.getD mk 0=N.getD k 0)) ∧
          Hid (wr.ownsRow (w.heap.size+1) 3 1 (.slice (some ⟨w.heap.size+1,0,none⟩) l.length l.length) l.length (I64 (ofN M)))∧Hid (Blk wr gx 3 #[.int .i64 (sk:Int),.int .i64 (mk:Int)])∧Hid (Below (w.heap.size+1) w1 wr)) (fun _ i _=>2 - (intOf i).toNat)
         case atStart=>exact ⟨ch,0,M,rfl,by omega,rfl,HM,HM1,HM2,fun h=>⟨(HM3.out h).1,(HM3.out h).2,fun h=>absurd h (by omega),fun h=>absurd h (by omega)⟩,HOv,HXw,HBv⟩
         case round =>
          clear HM HM1 HM2 HM3 HOv HXw HBv
          obtain ⟨ch,j,M,rfl,hj,rfl,HM,HM1,HM2,HM3,HO,HX,HB⟩:=hrel
          by_cases hj2:j < 2
          ·have hex:∃ x:Nat,wr.cell? ⟨gx,j,none⟩=some (.int .i64 (x:Int))∧x < l.length∧part l k x∧(j=0→x=sk)∧(j=1→x=mk):=by
            obtain rfl | rfl:j=0∨j=1:=by omega
            ·exact ⟨sk,HX.out.cell 0,hll,HSG.out,fun _=>rfl,fun h=>absurd h (by omega)⟩
            ·exact ⟨mk,HX.out.cell 1,hml,HMG.out,fun h=>absurd h (by omega),fun _=>rfl⟩
           obtain ⟨x,hcx0,hxl,hpx,hx0,hx1⟩:=hex
           have HPX:=Lib.hid hpx
           have HX0:=Lib.hid hx0
           have HX1:=Lib.hid hx1
           have ck:=own_cellI HO.out k hlt
           have cx:=own_cellI HO.out x hxl
           rw [ofN_get] at ck cx
           have fk:=HO.out.frozenAt k
           have fx:=HO.out.frozenAt x
           clear hpx hx0 hx1
           by_cases h1:M.getD x 0 < M.getD k 0
           ·obtain ⟨P1,P2⟩:=HM.out.put HI.out HE.out hlt hxl HPX.out h1
            have HP1:=Lib.hid P1
            have HP2:=Lib.hid P2
            have hne:x≠k:=fun e=>by rw [e] at h1;exact absurd h1 (Nat.lt_irrefl _)
            have hne':k≠x:=fun e=>hne e.symm
            obtain ⟨a,ha⟩:∃ a,a=M.getD k 0:=⟨_,rfl⟩
            obtain ⟨e,hee⟩:∃ e,e=M.getD x 0:=⟨_,rfl⟩
            rw [← ha] at ck h1
            rw [← hee] at cx h1 HP1 HP2
            have d1:decide (e < a)=true:=by rw [decide_eq_true_iff];exact h1
            have HA:=Lib.hid ha
            have HEE:=Lib.hid hee
            clear ha hee P1 P2
            go_wp2_with fail
            go_quiet (fail)
            have HOq:Hid ((wr.drewN nq).ownsRow (w.heap.size+1) 3 1 (.slice (some ⟨w.heap.size+1,0,none⟩) l.length l.length) l.length (I64 (ofN M))):=own_below HO.out (below_draws (Below.refl _ _) nq)
            have HXq:Hid (Blk (wr.drewN nq) gx 3 #[.int .i64 (sk:Int),.int .i64 (mk:Int)]):=HX.out.drewN nq
            have HBq:Hid (Below (w.heap.size+1) w1 (wr.drewN nq)):=below_draws HB.out nq
            clear ck cx fk fx hcx0 HO HX HB
            generalize wr.drewN nq=wx at *
            have ck:=own_cellI HOq.out k hlt
            have cx:=own_cellI HOq.out x hxl
            rw [ofN_get] at ck cx
            have fk:=HOq.out.frozenAt k
            have fx:=HOq.out.frozenAt x
            rw [← HA.out] at ck
            rw [← HEE.out] at cx
            have HO1:=Lib.hid (own_setN HOq.out k e)
            have HX2:=Lib.hid (HXq.out.mod (Mod.setCell (p:=⟨w.heap.size+1,k,none⟩) (Mod.refl (fun i=>i=w.heap.size+1) wx) (fun _=>rfl) (.int .i64 (e:Int))) (by omega))
            have HB1:=Lib.hid (HBq.out.setCell (p:=⟨w.heap.size+1,k,none⟩) (Nat.le_refl _) (.int .i64 (e:Int)))
            go_wp2_with fail
            go_quiet (fail)
            go_wp2_with fail
            go_roundw
            case rel=>exact ⟨true,j+1,M.set k e,rfl,by omega,by go_num,HP1.out,Nat.le_of_lt (Nat.lt_of_lt_of_le HP2.out HM1.out),fun _=>Nat.lt_of_lt_of_le HP2.out HM1.out,fun h=>(by cases h),own_below HO1.out (below_draws (Below.refl _ _) _),HX2.out.drewN _,below_draws HB1.out _⟩
            case measure=>simp [intOf];omega
           ·by_cases h2:M.getD k 0 < M.getD x 0
            ·obtain ⟨P1,P2⟩:=HM.out.put HI.out HE.out hxl hlt ((part_eqv HI.out HE.out).symm _ _ hlt hxl HPX.out) h2
             have HP1:=Lib.hid P1
             have HP2:=Lib.hid P2
             have hne:x≠k:=fun e=>by rw [e] at h2;exact absurd h2 (Nat.lt_irrefl _)
             have hne':k≠x:=fun e=>hne e.symm
             obtain ⟨a,ha⟩:∃ a,a=M.getD k 0:=⟨_,rfl⟩
             obtain ⟨e,hee⟩:∃ e,e=M.getD x 0:=⟨_,rfl⟩
             rw [← ha] at ck h1 h2 HP1 HP2
             rw [← hee] at cx h1 h2
             have d1:decide (e < a)=false:=by rw [decide_eq_false_iff_not];exact h1
             have d2:decide (a < e)=true:=by rw [decide_eq_true_iff];exact h2
             have HA:=Lib.hid ha
             have HEE:=Lib.hid hee
             clear ha hee P1 P2
             go_wp2_with fail
             go_quiet (fail)
             have HOq:Hid ((wr.drewN nq).ownsRow (w.heap.size+1) 3 1 (.slice (some ⟨w.heap.size+1,0,none⟩) l.length l.length) l.length (I64 (ofN M))):=own_below HO.out (below_draws (Below.refl _ _) nq)
             have HXq:Hid (Blk (wr.drewN nq) gx 3 #[.int .i64 (sk:Int),.int .i64 (mk:Int)]):=HX.out.drewN nq
             have HBq:Hid (Below (w.heap.size+1) w1 (wr.drewN nq)):=below_draws HB.out nq
             clear ck cx fk fx hcx0 HO HX HB
             generalize wr.drewN nq=wx at *
             have ck:=own_cellI HOq.out k hlt
             have cx:=own_cellI HOq.out x hxl
             rw [ofN_get] at ck cx
             have fk:=HOq.out.frozenAt k
             have fx:=HOq.out.frozenAt x
             rw [← HA.out] at ck
             rw [← HEE.out] at cx
             go_wp2_with fail
             go_quiet (fail)
             have HOr:Hid ((wx.drewN nq).ownsRow (w.heap.size+1) 3 1 (.slice (some ⟨w.heap.size+1,0,none⟩) l.length l.length) l.length (I64 (ofN M))):=own_below HOq.out (below_draws (Below.refl _ _) nq)
             have HXr:Hid (Blk (wx.drewN nq) gx 3 #[.int .i64 (sk:Int),.int .i64 (mk:Int)]):=HXq.out.drewN nq
             have HBr:Hid (Below (w.heap.size+1) w1 (wx.drewN nq)):=below_draws HBq.out nq
             clear ck cx fk fx HOq HXq HBq
             generalize wx.drewN nq=wy at *
             have ck:=own_cellI HOr.out k hlt
             have cx:=own_cellI HOr.out x hxl
             rw [ofN_get] at ck cx
             have fk:=HOr.out.frozenAt k
             have fx:=HOr.out.frozenAt x
             rw [← HA.out] at ck
             rw [← HEE.out] at cx
             have HO1:=Lib.hid (own_setN HOr.out x a)
             have HX2:=Lib.hid (HXr.out.mod (Mod.setCell (p:=⟨w.heap.size+1,x,none⟩) (Mod.refl (fun i=>i=w.heap.size+1) wy) (fun _=>rfl) (.int .i64 (a:Int))) (by omega))
             have HB1:=Lib.hid (HBr.out.setCell (p:=⟨w.heap.size+1,x,none⟩) (Nat.le_refl _) (.int .i64 (a:Int)))
             go_wp2_with fail
             go_roundw
             case rel=>exact ⟨true,j+1,M.set x a,rfl,by omega,by go_num,HP1.out,Nat.le_of_lt (Nat.lt_of_lt_of_le HP2.out HM1.out),fun _=>Nat.lt_of_lt_of_le HP2.out HM1.out,fun h=>(by cases h),HO1.out,HX2.out,HB1.out⟩
             case measure=>simp [intOf];omega
            ·have heq:M.getD x 0=M.getD k 0:=by omega
             have HEQ:=Lib.hid heq
             have HM3':Hid (ch=false→M=N∧(∀ d,d < k→Shut l N d)∧(1≤j+1→N.getD sk 0=N.getD k 0)∧(2≤j+1→N.getD mk 0=N.getD k 0)):=fun hc=>by
              obtain ⟨q1,q2,q3,q4⟩:=HM3.out hc
              refine ⟨q1,q2,fun _=>?_,fun hh=>?_⟩
              ·by_cases e0:j=0
               ·rw [← HX0.out e0,← q1];exact HEQ.out
               ·exact q3 (by omega)
              ·rw [← HX1.out (by omega),← q1];exact HEQ.out
             rw [heq] at cx
             obtain ⟨a,ha⟩:∃ a,a=M.getD k 0:=⟨_,rfl⟩
             rw [← ha] at ck cx
             have HA:=Lib.hid ha
             clear ha h1 h2 heq
             go_wp2_with fail
             go_quiet (fail)
             have HOq:Hid ((wr.drewN nq).ownsRow (w.heap.size+1) 3 1 (.slice (some ⟨w.heap.size+1,0,none⟩) l.length l.length) l.length (I64 (ofN M))):=own_below HO.out (below_draws (Below.refl _ _) nq)
             have HXq:Hid (Blk (wr.drewN nq) gx 3 #[.int .i64 (sk:Int),.int .i64 (mk:Int)]):=HX.out.drewN nq
             have HBq:Hid (Below (w.heap.size+1) w1 (wr.drewN nq)):=below_draws HB.out nq
             clear ck cx fk fx hcx0 HO HX HB
             generalize wr.drewN nq=wx at *
             have ck:=own_cellI HOq.out k hlt
             have cx:=own_cellI HOq.out x hxl
             rw [ofN_get] at ck cx
             have fk:=HOq.out.frozenAt k
             have fx:=HOq.out.frozenAt x
             rw [HEQ.out] at cx
             rw [← HA.out] at ck cx
             go_wp2_with fail
             go_quiet (fail)
             go_wp2_with fail
             go_roundw
             case rel=>exact ⟨ch,j+1,M,rfl,by omega,by go_num,HM.out,HM1.out,HM2.out,HM3'.out,own_below HOq.out (below_draws (Below.refl _ _) _),HXq.out.drewN _,below_draws HBq.out _⟩
             case measure=>simp [intOf];omega
          ·obtain rfl:j=2:=by omega
           have HM4:Hid (ch=false→M=N∧∀ d,d < k+1→Shut l N d):=fun hc=>by
            obtain ⟨q1,q2,q3,q4⟩:=HM3.out hc
            refine ⟨q1,fun d hd=>?_⟩
            by_cases e:d=k
            ·subst e;exact (HSH.out N).2 ⟨q3 (by omega),q4 (by omega)⟩
            ·exact q2 d (by omega)
           clear hj hj2
           go_wp2_with fail
           go_roundw
           case rel=>exact ⟨ch,k+1,M,rfl,by omega,by go_num,HM.out,HM1.out,HM2.out,HM4.out,HO.out,HB.out⟩
           case measure=>simp [intOf];omega)
       ·obtain rfl:k=l.length:=by omega
        have HM4:Hid (ch=false→∀ d,d < l.length→Shut l M d):=fun hc=>by
         obtain ⟨q1,q2⟩:=HM3.out hc
         rw [q1];exact q2
        have HMS2:=Lib.hid (msum_is HO.out)
        clear hk hlt
        go_wp2_with fail
        go_roundw
        case rel=>exact ⟨ch,M,rfl,HM.out,HM4.out,HO.out,HB.out⟩
        case measure =>
         rw [HMS.out,HMS2.out]
         cases ch with
         | true=>have:=HM2.out rfl;simp [bOf];omega
         | false=>have:=HM1.out;simp [bOf];omega
    | false =>
      have HREP:Hid (∀ d,d < l.length→N.getD d 0=rep (part l) d):=fun d hd=>HN.out.done HI.out HE.out (HC.out rfl) hd
      have HNO:Hid (∀ d,d < l.length→rep (part l) d≤d∧rep (part l) (rep (part l) d)=rep (part l) d):=fun d hd=>by
       obtain ⟨h1,h2,h3⟩:=rep_is (part_eqv HI.out HE.out) hd
       exact ⟨h1,(rep_least (part_eqv HI.out HE.out) (by omega)).1 h3⟩
      have hmk2:=HMK.out
      have hown:=own_made wr 3 l.length (.int .i64 0) (by simp only [maxLen];omega)
      have HOU:Hid ((wr.alloc (.cells (List.replicate l.length (.int .i64 0)).toArray 3)).ownsRow (w.heap.size+1) 3 1 (.slice (some ⟨wr.heap.size,0,none⟩) l.length l.length) l.length (I64 (List.replicate l.length 0))):=by
       rw [I64_replicate];exact hown.base_le' (by have:=HB.out.size;omega)
      have HBA:=Lib.hid (HB.out.alloc (show w.heap.size+1≤wr.heap.size by have:=HB.out.size;omega) (.cells (List.replicate l.length (.int .i64 0)).toArray 3))
      have HON:=Lib.hid (HO.out.alloc (.cells (List.replicate l.length (.int .i64 0)).toArray 3))
      have hgo:w.heap.size+1 < wr.heap.size:=by have:=(own_block HO.out).2;omega
      clear hown HC HMS HN HO HB
      go_wp2_with fail
      generalize hgx:wr.heap.size=gx at *
      clear hgx hmk2
      go_loopw [10,85] (fun s10 i wr=>∃ (k p:Nat) (y:List Int),k≤l.length∧p≤k∧s10=.int .i64 (p:Int)∧i=.int .i64 (k:Int)∧Hid (p=pn (part l) k)∧Hid (∀ x,x < k→y.getD x 0=(prt (part l) x:Nat)) ∧
       Hid (wr.ownsRow (w.heap.size+1) 3 1 (.slice (some ⟨gx,0,none⟩) l.length l.length) l.length (I64 y))∧Hid (wr.ownsRow (w.heap.size+1) 3 1 (.slice (some ⟨w.heap.size+1,0,none⟩) l.length l.length) l.length (I64 (ofN N)))∧Hid (Below (w.heap.size+1) w1 wr)) (fun _ i _=>l.length - (intOf i).toNat)
      case atStart =>
       refine ⟨0,0,List.replicate l.length 0,by omega,by omega,rfl,rfl,?_,fun x h=>absurd h (by omega),Lib.hid (by simpa [I64] using HOU.out),Lib.hid (by simpa using HON.out),Lib.hid (by simpa using HBA.out)⟩
       have:=pn_le (part l) 0
       show _=_;omega
      case round =>
       clear HOU HON HBA
       obtain ⟨k,p,y,hk,hpk,rfl,rfl,HP,HY,HO,HON,HB⟩:=hrel
       by_cases hlt:k < l.length
       ·have ck:=own_cellI HON.out k hlt
        rw [ofN_get,HREP.out k hlt] at ck
        have co:=own_cellI HO.out k hlt
        have fo:=HO.out.frozenAt k
        have hyl:=own_lenI HO.out
        have HYL:=Lib.hid hyl
        obtain ⟨hr1,hr2⟩:=HNO.out k hlt
        have HQ:=Lib.hid (part_eqv HI.out HE.out)
        have HMD:Hid (∀ u:Value,Mod (fun i=>i=gx) wr (wr.setCell ⟨gx,k,none⟩ u)):=fun u=>Mod.setCell (p:=⟨gx,k,none⟩) (Mod.refl (fun i=>i=gx) wr) (fun _=>rfl) _
        have HN1:Hid (∀ v:Int,(wr.setCell ⟨gx,k,none⟩ (.int .i64 v)).ownsRow (w.heap.size+1) 3 1 (.slice (some ⟨w.heap.size+1,0,none⟩) l.length l.length) l.length (I64 (ofN N))):=fun v=>own_mod HON.out (HMD.out _) (fun i hi e=>by simp [Value.ownBlock] at hi;omega)
        have HO1:Hid (∀ v:Int,(wr.setCell ⟨gx,k,none⟩ (.int .i64 v)).ownsRow (w.heap.size+1) 3 1 (.slice (some ⟨gx,0,none⟩) l.length l.length) l.length (I64 (y.set k v))):=fun v=>own_setI HO.out k v
        have HB1:Hid (∀ v:Int,Below (w.heap.size+1) w1 (wr.setCell ⟨gx,k,none⟩ (.int .i64 v))):=fun v=>HB.out.setCell (p:=⟨gx,k,none⟩) (Nat.le_of_lt hgo) _
        have HY1:Hid (∀ x,x < k+1→(y.set k ((prt (part l) k:Nat):Int)).getD x 0=(prt (part l) x:Nat)):=fun x hx=>by
         rw [getDI_set _ _ _ _ (by rw [HYL.out];exact hlt)]
         by_cases e:x=k
         ·rw [if_pos e,e]
         ·rw [if_neg e];exact HY.out x (by omega)
        clear hyl
        by_cases hL:rep (part l) k=k
        ·have hle2:=(rep_least HQ.out hlt).2 hL
         have e1:prt (part l) k=p:=by rw [prt_least HQ.out hlt hle2,HP.out]
         have HPN:Hid (p+1=pn (part l) (k+1)):=by show _=_;rw [(pn_next _ _).1 hle2,HP.out]
         rw [e1] at HY1
         rw [hL] at ck
         have hkg:((w.heap.size+1:Nat))≠gx:=by omega
         clear hle2 e1 hL hr1 hr2
         go_wp2_with fail
         go_roundw
         case rel=>exact ⟨k+1,p+1,y.set k (p:Int),by omega,by omega,by go_num,by go_num,HPN.out,HY1.out,HO1.out _,HN1.out _,HB1.out _⟩
         case measure=>simp [intOf];omega
        ·have hlr:rep (part l) k < k:=by omega
         have HPN:Hid (p=pn (part l) (k+1)):=by show _=_;rw [(pn_next _ _).2 (fun h=>hL ((rep_least HQ.out hlt).1 h)),HP.out]
         have cr:=own_cellI HO.out (rep (part l) k) (by omega)
         rw [HY.out _ hlr,show prt (part l) (rep (part l) k)=prt (part l) k by unfold prt;rw [hr2]] at cr
         obtain ⟨v,hv⟩:∃ v,v=prt (part l) k:=⟨_,rfl⟩
         rw [← hv] at cr HY1
         obtain ⟨r,hrr⟩:∃ r,r=rep (part l) k:=⟨_,rfl⟩
         rw [← hrr] at cr ck hlr
         have hb:((r:Int) == (k:Int))=false:=by rw [beq_eq_false_iff_ne];omega
         have hrl:r < l.length:=by omega
         clear hv hrr hL hr1 hr2
         go_wp2_with fail
         go_roundw
         case rel=>exact ⟨k+1,p,y.set k (v:Int),by omega,by omega,rfl,by go_num,HPN.out,HY1.out,HO1.out _,HN1.out _,HB1.out _⟩
         case measure=>simp [intOf];omega
       ·obtain rfl:k=l.length:=by omega
        have HYE:Hid (y=ofN (enames l)):=ofN_of (by rw [own_lenI HO.out,enames_len]) fun i hi=>by
         rw [enames_len] at hi
         rw [HY.out i hi]
         unfold enames prts
         rw [map_rangeN _ _ _ hi]
        go_wp2_with fail
        go_ret
        have ho:=HO.out.base_le' (show w.heap.size≤w.heap.size+1 by omega)
        rw [HYE.out] at ho
        refine .mk rfl ?_ (HB0.out.trans (HB.out.mono (by omega)))
        rw [ofN_len,enames_len];exact ho
theorem leads_orb {l b:List Nat} (h:Inv l b) {k:Nat} (hk:k < l.length):Leads l k↔∀ x,x∈orb l k→k≤x:=by
 rw [leads_least h (Nat.le_of_lt hk)]
 have hq:=(sgL_pf h).eqv
 constructor
 ·intro H x hx
  have hxl:=orb_lt h hk hx
  obtain ⟨t,e⟩:=(mem_orb h hk).1 hx
  rcases Nat.lt_or_ge x k with c | c
  ·exact absurd (hq.symm _ _ hk hxl ⟨t,by rw [sgL_it];exact e⟩) (H x c)
  ·exact c
 ·intro H j hj o
  obtain ⟨t,e⟩:=hq.symm _ _ (by omega) hk o
  have:=H j ((mem_orb h hk).2 ⟨t,by rw [← sgL_it];exact e⟩)
  omega
section
variable {l b:List Nat}
theorem pq_mate (h:Inv l b) (he:l.length%2=0) {e:Nat} (hE:2*e+1 < l.length):pq l (2*e+1)=pq l (2*e):=by
 have hpf:=sgL_pf h
 unfold pq
 rw [prt_iff (part_eqv h he) hE (by omega)]
 exact (part_eqv h he).symm _ _ (by omega) hE (gk_edge hpf e _ (by omega))
theorem num_two (h:Inv l b) (he:l.length%2=0) (j:Nat):num (fun d=>pq l d=j) l.length=2*pE l j l.length:=by
 have key:∀ k,k≤l.length / 2→num (fun d=>pq l d=j) (2*k)=2*pE l j (2*k):=fun k=>by
  induction k with
  | zero=>intro _;simp [num,pE]
  | succ k ih =>
    intro hk
    have ih':=ih (by omega)
    have hm:=pq_mate h he (show 2*k+1 < l.length by omega)
    rw [show 2*(k+1)=2*k+1+1 by omega]
    have n1:pE l j (2*k+1+1)=pE l j (2*k+1):=pE_else (.inl (by omega))
    rw [n1]
    by_cases e:pq l (2*k)=j
    ·have a1:=(num_next (fun d=>pq l d=j) (2*k)).1 e
     have a2:=(num_next (fun d=>pq l d=j) (2*k+1)).1 (by rw [hm];exact e)
     have a3:=pE_yes (l:=l) (k:=2*k) (by omega)
     rw [e] at a3
     omega
    ·have a1:=(num_next (fun d=>pq l d=j) (2*k)).2 e
     have a2:=(num_next (fun d=>pq l d=j) (2*k+1)).2 (by rw [hm];exact e)
     have a3:pE l j (2*k+1)=pE l j (2*k):=pE_else (.inr e)
     omega
 have:=key (l.length / 2) (Nat.le_refl _)
 rwa [show 2*(l.length / 2)=l.length by omega] at this
theorem enames_get (l:List Nat) {d:Nat} (hd:d < l.length):(enames l).getD d 0=pq l d:=by unfold enames prts;rw [map_rangeN _ _ _ hd];rfl
end
end Go.Proofs.YtdinmjciippchaaGreat
