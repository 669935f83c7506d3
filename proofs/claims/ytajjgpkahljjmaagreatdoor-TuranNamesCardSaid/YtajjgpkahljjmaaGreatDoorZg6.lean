/- Num: the bits go over the last word's end. -/
import Derived.Test.YtajjgpkahljjmaaGreatDoorZg5
import Derived.Deep.RegionLaw
import Derived.Deep.AppendLies
import Derived.Test.YtajjgpkahljjmaaGreatDoorZg1
import Derived.Laws.BytesArg
import Derived.ArgAppend
import Derived.RegionTactic
import Derived.Deep.QuietTactic
import Derived.BigQuiet
import Derived.Deep.RegionWith
import Derived.Laws.BitsAllLaws
import Derived.Laws.Bits128
import Derived.Laws.LoneSync
import Derived.Laws.Pointers
import Derived.Defers
import Derived.RegionCalls
import Derived.ChangeAlike
open Go.RowKit
set_option linter.unusedVariables false
namespace Go.Proofs.YtajjgpkahljjmaaGreatDoor
set_option maxRecDepth 20000 in
set_option maxHeartbeats 2000000 in
theorem num_over (g V n x kk:Nat) (k:Int) (A:Option Addr) (w:World) (h:VecAt w g V n A) (hx:x < 2 ^ 64) (hk:-9223372036854775808≤k∧k≤9223372036854775807) (hkk:cnt64 k=kk) (hk1:1≤kk) (hk64:kk≤64) (hn:n+64≤1000000) (s:Nat) (hs:n%64=s) (hs0:0 < s) (hsk:64 < s+kk) :
  Calls Tryz.prog 106 #[.pointer (some ⟨g,0,none⟩),.int .u64 (x:Int),.int .i64 k] w fun e w'=>e=.returned (.tuple #[]) ∧
   ∃ A',VecAt w' g (put V n x kk) (n+kk) A'∧Mod (fun i=>i=g∨(∃ b,A=some ⟨b,0,none⟩∧i=b)) w w'∧(A'=A∨∃ b,A'=some ⟨b,0,none⟩∧w.heap.size≤b)∧OldK w' A V (put V n x kk) n:=by
 have C:=Lib.hid (count_p k w hk)
 rw [hkk] at C
 have L:=Lib.hid (low_p kk w hk64)
 obtain ⟨hV,hn1,c,hb,ho⟩:=h
 obtain ⟨q,hq⟩:∃ q,q=n / 64:=⟨_,rfl⟩
 have hm:(n+63) / 64=q+1:=by omega
 have hnq:n=64*q+s:=by omega
 rw [hm] at hb ho
 obtain ⟨b,rfl,hb1,hb2⟩:=own_some ho (by omega)
 have c0:w.cell? ⟨g,0,none⟩=some (.slice (some ⟨b,0,none⟩) (q+1) c):=hb.cell 0
 have c1:w.cell? ⟨g,1,none⟩=some (.int .i64 (n:Int)):=hb.cell 1
 have cq:w.cell? ⟨b,q,none⟩=some (.int .u64 ((wd V q:Nat):Int)):=by
  rw [ho.cellAt q (by omega),U64_get _ _ (by rw [words_len];omega),words_get _ _ _ (by omega)]
 have fq:=ho.frozenAt q
 have f1:=hb.frozen 1
 obtain ⟨X,hX⟩:∃ X,X=x%2 ^ kk:=⟨_,rfl⟩
 have hand:bits .and .u64 (x:Int) ((2 ^ kk - 1:Nat):Int)=((X:Nat):Int):=by
  rw [u64_and_nat _ _ hx (Nat.lt_of_lt_of_le (Nat.sub_lt (Nat.two_pow_pos kk) Nat.one_pos) (Nat.pow_le_pow_right (by omega) hk64)),Nat.and_two_pow_sub_one_eq_mod,hX]
 have hr:(n:Int)%64=(s:Int):=by omega
 have HOR:Hid (bits .or .u64 ((wd V q:Nat):Int) (IntKind.u64.wrap ((X:Int)*2 ^ s))=((wd (put V n x kk) q:Nat):Int)):=by
  show _=_
  rw [wrap_u64,u64_or_nat _ _ (wd_lt V q) (Nat.mod_lt _ (by decide)),wd_put_last x kk q s hV hnq (by omega),hX]
 have hgl:=hb.lt
 have HB:=Lib.hid hb
 have HO:=Lib.hid ho
 have HNQ:=Lib.hid hnq
 have hk0:¬ kk=0:=by omega
 have hs64:s < 64:=by omega
 have hq2:q≤1000000:=by omega
 have hsk2:(64:Int) < (s:Int)+(kk:Int):=by omega
 have HXX:Hid (X=x%2 ^ kk):=hX
 obtain ⟨i0,hi0,hz0,hz1,hz2⟩:=info_parts info_u64
 clear hb ho hX hm hkk hs hq hnq
 generalize hP:2 ^ kk - 1=PP at *
 clear hP
 generalize hW:wd V q=W at *
 clear hW
 go_enter Tryz.func106,Tryz.ntmps106
 go_wp2_with fail
 refine C.out.mono ?_
 rintro e w' ⟨rfl,rfl⟩
 go_wp2_with fail
 refine L.out.mono ?_
 rintro e w' ⟨rfl,rfl⟩
 go_wp2_with fail
 go_region
 go_wp2_with fail
 rw [HOR.out]
 have m1:Mod (fun i=>i=b) w ((w.setCell ⟨b,q,none⟩ (.int .u64 ((wd (put V n x kk) q:Nat):Int))).drew) :=
  Mod.drew (Mod.setCell (p:=⟨b,q,none⟩) (Mod.refl (fun i=>i=b) w) (fun _=>rfl) _)
 have b1:=HB.out.mod m1 (show ¬ g=b by omega)
 have o1:=own_below (HO.out.stored q (.int .u64 ((wd (put V n x kk) q:Nat):Int))).1 (Below.refl _ _).drew
 generalize (w.setCell ⟨b,q,none⟩ (.int .u64 ((wd (put V n x kk) q:Nat):Int))).drew=w1 at *
 have hs1:=m1.size
 have d0:w1.cell? ⟨g,0,none⟩=some (.slice (some ⟨b,0,none⟩) (q+1) c):=b1.cell 0
 have hgl1:g < w1.heap.size:=by omega
 have hgb:g≠b:=by omega
 have hn1':q+1+1≤maxLen:=by simp only [maxLen];omega
 have hn2:(q+1+1)*8≤140737488355328:=by omega
 have B1:=Lib.hid b1
 have M1:=Lib.hid m1
 have O1:=Lib.hid o1
 clear b1 m1 cq c0 c1 fq f1
 obtain ⟨t,ht⟩:∃ t,t=64 - s:=⟨_,rfl⟩
 have hwt:IntKind.i64.wrap (64 - (s:Int))=(t:Int):=by rw [show (64 - (s:Int))=(t:Int) by omega];rw [IntKind.wrap_i64];omega
 have ht64:t < 64:=by omega
 have HT:=Lib.hid ht
 clear ht
 generalize hxs:(U64 (words V (q+1))).set q (.int .u64 ((wd (put V n x kk) q:Nat):Int))=xs at *
 have HXS:=Lib.hid hxs
 clear hxs
 have f0:=B1.out.frozen 0
 have fz:∀ o,(w1.alloc o).drew.frozen? ⟨g,0,none⟩=false:=fun o=>((B1.out.alloc o).drewN 1).frozen 0
 have hgo:(Value.slice (some ⟨b,0,none⟩) (q+1) c).ownBlock≠some g:=by simp [Value.ownBlock];omega
 go_region_law
  ((refine step_append_keep _ (by rfl) _ _ _ (by rfl) (g+1) 139 i0 _ 1 8 Tryz.underlying102 hi0 hz0 hz1 hz2 rfl (by omega) (.slice (some ⟨b,0,none⟩) (q+1) c) (q+1) xs (by rfl) ((O1.out.alloc _).drew)
     ⟨w1.heap.size,0,none⟩ 1 1 [.int .u64 ((X:Int) / 2 ^ t)] (by rfl) (by rfl) (World.news_of_block (cs:=#[.int .u64 ((X:Int) / 2 ^ t)]) (t:=139) (fr:=(0,0)) (heap_alloc_new w1 _)) (by simp [Value.oneCell'])
     (by omega) hn1' hn2 (by simp;omega) (w1.heap.size+1) (by simp) ?_;intro gg cap w3 hown1 hgrow hat hlt hkp
    have hgm:=Mod.ofGrown hgrow
    have b3:Blk w3 g 104 #[.slice (some ⟨b,0,none⟩) (q+1) c,.int .i64 (n:Int)]:=((B1.out.alloc _).drewN 1).mod hgm (fun e=>hgo e.symm)
    have e1:w3.cell? ⟨g,1,none⟩=some (.int .i64 (n:Int)):=b3.cell 1
    have g1:=b3.frozen 1
    have e0:w3.cell? ⟨g,0,none⟩=some (.slice (some ⟨b,0,none⟩) (q+1) c):=b3.cell 0
    have g0:=b3.frozen 0
    have HGM:=Lib.hid hgm
    have HOW:=Lib.hid hown1
    have HAT:=Lib.hid hat
    have HKP:=Lib.hid hkp
    have B3:=Lib.hid b3
    clear hgm hgrow hown1 hat b3 hkp))
 all_goals go_wp2
 all_goals (
  clear e0 e1 g0 g1 f0 fz
  refine bodyPost_end (results_none rfl _ _ _) rfl ⟨rfl,some ⟨gg,0,none⟩,?_,?_,?_,?_⟩
  ·have hn64:=HNQ.out
   have hm1:(n+kk+63) / 64=q+1+1:=by omega
   refine ⟨put_lt x kk hV,by omega,cap,?_,?_⟩
   ·rw [hm1]
    have:=(B3.out.set_ 0 (.slice (some ⟨gg,0,none⟩) (q+1+1) cap)).set_ 1 (.int .i64 ((n:Int)+(kk:Int)))
    simpa using this
   ·rw [hm1]
    have hw:xs++[Value.int .u64 ((X:Int) / 2 ^ t)]=U64 (words (put V n x kk) (q+1+1)):=by
     have e1:(X:Int) / 2 ^ t=((x%2 ^ kk / 2 ^ (64 - s):Nat):Int):=by rw [HXX.out,HT.out];simp
     rw [words_next,U64_append,← HXS.out,← U64_set,words_next V q,words_next _ q,List.set_append_right _ _ (by rw [words_len];exact Nat.le_refl _),words_len,Nat.sub_self,e1,wd_put_next x kk q s hV hn64 hs64 hs0 hk64]
     refine congrArg (·++_) (congrArg U64 (congrArg (·++_) (List.map_congr_left fun i hi=>?_)))
     rw [List.mem_range] at hi
     exact (wd_put_low x kk i hV (by omega)).symm
    rw [← hw]
    have mm:Mod (fun i=>i=g) w3 ((w3.setCell ⟨g,0,none⟩ (.slice (some ⟨gg,0,none⟩) (q+1+1) cap)).setCell ⟨g,1,none⟩ (.int .i64 ((n:Int)+(kk:Int)))) :=
     Mod.setCell (p:=⟨g,1,none⟩) (Mod.setCell (p:=⟨g,0,none⟩) (Mod.refl (fun i=>i=g) w3) (fun _=>rfl) _) (fun _=>rfl) _
    exact own_mod HOW.out mm (fun r hr2 hx2=>by have:=(HOW.out.lt r hr2).1;omega)
  ·have ha:∀ i,some i=(Value.slice (some ⟨b,0,none⟩) (q+1) c).ownBlock→i=g∨∃ b',some (⟨b,0,none⟩:Addr)=some ⟨b',0,none⟩∧i=b':=fun i hi=>by
    simp [Value.ownBlock] at hi
    exact .inr ⟨b,rfl,hi⟩
   have m1:Mod (fun i=>i=g∨∃ b',some (⟨b,0,none⟩:Addr)=some ⟨b',0,none⟩∧i=b') w w1:=M1.out.mono fun i _ hi=>.inr ⟨b,rfl,hi⟩
   exact ((((m1.alloc _).drew).trans HGM.out (fun i _ hi=>ha i hi)).setCell (p:=⟨g,0,none⟩) (fun _=>.inl rfl) _).setCell (p:=⟨g,1,none⟩) (fun _=>.inl rfl) _
  ·rcases HAT.out with h1 | h1
   ·left
    simp [Value.ownBlock] at h1
    rw [h1]
   ·right
    exact ⟨gg,rfl,by omega⟩
  ·intro b' hb' i hi
   have hbb:b=b':=(Addr.mk.inj (Option.some.inj hb')).1
   subst hbb
   have hn64:=HNQ.out
   have hi2:i < q+1:=by omega
   have far:∀ u,w3.cell? ⟨b,i,none⟩=some u→((w3.setCell ⟨g,0,none⟩ (.slice (some ⟨gg,0,none⟩) (q+1+1) cap)).setCell ⟨g,1,none⟩ (.int .i64 ((n:Int)+(kk:Int)))).cell? ⟨b,i,none⟩=some u:=fun u hu=>by
    have h2:(⟨b,i,none⟩:Addr)≠⟨g,0,none⟩:=fun e=>by have:=congrArg Addr.block e;simp at this;omega
    have h3:(⟨b,i,none⟩:Addr)≠⟨g,1,none⟩:=fun e=>by have:=congrArg Addr.block e;simp at this;omega
    rw [World.cell?_setCell_other _ _ _ _ h3.symm,World.cell?_setCell_other _ _ _ _ h2.symm]
    exact hu
   have hl:(U64 (words V (q+1))).length=q+1:=by rw [U64_len,words_len]
   by_cases hiq:i=q
   ·right
    subst hiq
    refine far _ (HKP.out b c rfl i _ ?_)
    rw [← HXS.out,List.getElem?_set_self (by rw [hl];exact hi2)]
   ·left
    refine far _ (HKP.out b c rfl i _ ?_)
    rw [← HXS.out,List.getElem?_set_ne (fun e=>hiq e.symm),U64_get _ _ (by rw [words_len];exact hi2),words_get _ _ _ hi2])
theorem VecB.hlt {w:World} {B g V n:Nat} {A:Option Addr} (h:VecB w B g V n A):g < w.heap.size:=h.foot_lt (.inl rfl)
def NumPost (w:World) (g V' n':Nat) (A:Option Addr) (e:Ending) (w':World):Prop :=
 e=.returned (.tuple #[])∧∃ A',VecAt w' g V' n' A'∧Mod (foot g A) w w'∧(A'=A∨∃ b,A'=some ⟨b,0,none⟩∧w.heap.size≤b)
theorem put_zero (V n x:Nat):put V n x 0=V:=by simp [put,Nat.mod_one]
def NumPostK (w:World) (g V V' n n':Nat) (A:Option Addr) (e:Ending) (w':World):Prop :=
 e=.returned (.tuple #[])∧∃ A',VecAt w' g V' n' A'∧Mod (foot g A) w w'∧(A'=A∨∃ b,A'=some ⟨b,0,none⟩∧w.heap.size≤b)∧OldK w' A V V' n
theorem num_pk (g V n x:Nat) (k:Int) (A:Option Addr) (w:World) (h:VecAt w g V n A) (hx:x < 2 ^ 64) (hk:-9223372036854775808≤k∧k≤9223372036854775807) (hn:n+64≤1000000) :
  Calls Tryz.prog 106 #[.pointer (some ⟨g,0,none⟩),.int .u64 (x:Int),.int .i64 k] w (NumPostK w g V (put V n x (cnt64 k)) n (n+cnt64 k) A):=by
 by_cases h0:k≤0
 ·refine (num_zeroB g x k w ⟨hk.1,h0⟩).mono fun e w' ⟨he,hw⟩=>?_
  subst hw
  have hc:cnt64 k=0:=by unfold cnt64;rw [if_pos h0]
  rw [hc,put_zero]
  exact ⟨he,A,h,Mod.refl _ _,.inl rfl,OldK.same h (Nat.le_refl _)⟩
 ·have hc1:1≤cnt64 k:=by unfold cnt64;rw [if_neg h0];split <;> omega
  have hc2:cnt64 k≤64:=by unfold cnt64;rw [if_neg h0];split <;> omega
  rcases Nat.eq_zero_or_pos (n%64) with hs | hs
  ·exact num_new g V n x _ k A w h hx hk rfl hc1 hc2 hn hs
  ·by_cases hsk:n%64+cnt64 k≤64
   ·exact num_last g V n x _ k A w h hx hk rfl hc1 hc2 hn _ rfl hs hsk
   ·exact num_over g V n x _ k A w h hx hk rfl hc1 hc2 hn _ rfl hs (by omega)
theorem num_p (g V n x:Nat) (k:Int) (A:Option Addr) (w:World) (h:VecAt w g V n A) (hx:x < 2 ^ 64) (hk:-9223372036854775808≤k∧k≤9223372036854775807) (hn:n+64≤1000000) :
  Calls Tryz.prog 106 #[.pointer (some ⟨g,0,none⟩),.int .u64 (x:Int),.int .i64 k] w (NumPost w g (put V n x (cnt64 k)) (n+cnt64 k) A) :=
 (num_pk g V n x k A w h hx hk hn).mono fun e w' ⟨he,A',h1,h2,h3,_⟩=>⟨he,A',h1,h2,h3⟩
def Sep (g:Nat) (A:Option Addr) (h:Nat) (C:Option Addr):Prop:=∀ i,foot g A i→¬ foot h C i
theorem Sep.symm {g h:Nat} {A C:Option Addr} (s:Sep g A h C):Sep h C g A:=fun i hi hj=>s i hj hi
theorem Sep.next {w:World} {B g h U m:Nat} {A A' C:Option Addr} (s:Sep g A h C) (hc:VecB w B h U m C) (ha:A'=A∨∃ b,A'=some ⟨b,0,none⟩∧w.heap.size≤b):Sep g A' h C:=by
 rcases ha with rfl | ⟨b,rfl,hb⟩
 ·exact s
 ·rintro i (rfl | ⟨b',e,rfl⟩) hj
  ·exact s i (.inl rfl) hj
  ·have:=hc.foot_lt hj
   have e2:b=i:=(Addr.mk.inj (Option.some.inj e)).1
   omega
theorem Sep.new {w:World} {B g V n:Nat} {A:Option Addr} (h:VecB w B g V n A) (k:Nat) (hk:w.heap.size≤k):Sep g A k none:=by
 rintro i hi (rfl | ⟨b,e,_⟩)
 ·have:=h.foot_lt hi;omega
 ·cases e
theorem NumPost.below {w w':World} {g V' n':Nat} {A:Option Addr} {e:Ending} {V n:Nat} (p:NumPost w g V' n' A e w') (h:VecAt w g V n A):Below g w w':=by
 obtain ⟨_,A',h1,m,_⟩:=p
 obtain ⟨_,_,c,hb,ho⟩:=h
 exact m.belowB (Nat.le_of_lt hb.lt) fun i hi hf=>by
  rcases hf with rfl | ⟨b,rfl,rfl⟩
  ·omega
  ·have:g+1≤i:=(ho.lt i rfl).1
   omega
def Two (w:World) (L g V n:Nat) (A:Option Addr) (h U m:Nat) (C:Option Addr):Prop:=VecAt w g V n A∧VecAt w h U m C∧Sep g A h C∧L≤g∧L≤h
theorem Two.below {w w':World} {L g V n:Nat} {A:Option Addr} {h U m:Nat} {C:Option Addr} (t:Two w L g V n A h U m C) (b:Below w.heap.size w w'):Two w' L g V n A h U m C :=
 ⟨t.1.below b,t.2.1.below b,t.2.2⟩
theorem Two.swap {w:World} {L g V n:Nat} {A:Option Addr} {h U m:Nat} {C:Option Addr} (t:Two w L g V n A h U m C):Two w L h U m C g V n A :=
 ⟨t.2.1,t.1,t.2.2.1.symm,t.2.2.2.2,t.2.2.2.1⟩
theorem Two.left {w w':World} {L g V n:Nat} {A:Option Addr} {h U m:Nat} {C:Option Addr} (t:Two w L g V n A h U m C) {V' n':Nat} {e:Ending} (p:NumPost w g V' n' A e w') :
  e=.returned (.tuple #[])∧Below L w w'∧∃ A',Two w' L g V' n' A' h U m C:=by
 have hb:=p.below t.1
 obtain ⟨he,A',h1,hm,ha⟩:=p
 obtain ⟨t1,t2,t3,t4,t5⟩:=t
 refine ⟨he,hb.mono t4,A',h1,VecB.mod t2 hm fun i hi hj=>t3 i hj hi,Sep.next t3 t2 ha,t4,t5⟩
theorem Two.right {w w':World} {L g V n:Nat} {A:Option Addr} {h U m:Nat} {C:Option Addr} (t:Two w L g V n A h U m C) {U' m':Nat} {e:Ending} (p:NumPost w h U' m' C e w') :
  e=.returned (.tuple #[])∧Below L w w'∧∃ C',Two w' L g V n A h U' m' C':=by
 obtain ⟨a,b,C',c⟩:=t.swap.left p
 exact ⟨a,b,C',c.swap⟩
theorem cnt64_nat {s:Nat} (h:s≤64):cnt64 (s:Int)=s:=by unfold cnt64;split <;> (try split) <;> omega
theorem U64_one (z:List Nat):∀ u∈U64 z,u.oneCell'=true:=by
 intro u hu
 simp only [U64,List.mem_map] at hu
 obtain ⟨b,_,rfl⟩:=hu
 rfl
theorem Rd.u64 {w:World} {B n:Nat} {A:Option Addr} {z:List Nat} (h:Rd w B A n (U64 z)) (h0:0 < n) :
  ∃ b o,A=some ⟨b,o,none⟩∧b < B∧∀ k,k < n→w.cell? ⟨b,o+k,none⟩=some (.int .u64 ((z.getD k 0:Nat):Int)):=by
 obtain ⟨b,o,e,hb,hc⟩:=h.at_ h0
 refine ⟨b,o,e,hb,fun k hk=>?_⟩
 have hl:z.length=n:=by rw [← h.len,U64_len]
 rw [hc k (by rw [U64_len];omega)]
 have:=U64_get z k (by omega)
 rwa [List.getElem?_eq_getElem (by rw [U64_len];omega)] at this
def NewU64 (w:World) (z:List Nat) (e:Ending) (w':World):Prop :=
 ∃ A c,e=.returned (.slice A z.length c)∧z.length≤c∧c≤maxLen∧w'.ownsRow w.heap.size 139 1 (.slice A z.length c) z.length (U64 z)∧Below w.heap.size w w'
theorem NewU64.mk {w w':World} {z:List Nat} {e:Ending} {v:Value} (he:e=.returned v) (h:w'.ownsRow w.heap.size 139 1 v z.length (U64 z)) (hb:Below w.heap.size w w'):NewU64 w z e w':=by
 obtain ⟨A,c,rfl,h1,h2⟩:=own_form h
 exact ⟨A,c,he,h1,h2,h,hb⟩
set_option maxHeartbeats 400000 in
theorem cloneU (A:Option Addr) (n c B:Nat) (z:List Nat) (w:World) (h:Rd w B A n (U64 z)) (hn:n≤17592186044416) :
  Calls Tryz.prog 158 #[.slice A n c] w (NewU64 w z):=by
 have hl:z.length=n:=by rw [← h.len,U64_len]
 obtain ⟨i0,hi0,hz0,hz1,hz2⟩:=info_parts info_u64
 have hq:=fun W a n c=>Lib.run_eql_slice_nil (P:=Tryz.prog) W 102 139 a n c 0 0 Tryz.underlying102
 cases A with
 | none =>
   obtain rfl:n=0:=h.none_
   obtain rfl:z=[]:=List.eq_nil_of_length_eq_zero hl
   go_enter Tryz.func158,Tryz.ntmps158
   go_wp2
   go_ret
   exact .mk rfl (World.ownsRow_nil _ _ _ _) (Below.refl _ _)
 | some ad =>
   have hown:(w.alloc (.cells #[] 139)).ownsRow w.heap.size 139 1 (.slice (some ⟨w.heap.size,0,none⟩) 0 0) 0 [] :=
    World.ownsRow_made w #[] 0 (Nat.le_refl _) (by simp [maxLen]) rfl
   have hrd:=h.alloc (.cells #[] 139)
   have s1:0+n≤maxLen:=by simp only [maxLen];omega
   have s2:(0+n)*8≤140737488355328:=by omega
   have s3:w.heap.size≤(w.alloc (.cells #[] 139)).heap.size:=by simp
   go_enter Tryz.func158,Tryz.ntmps158
   go_wp2_with (first
    | (at_builtin;refine wpList_append_rd _ rfl _ _ 102 rfl w.heap.size 139 i0 (.int .u64 0) 8 Tryz.underlying102 hi0 hz0 hz1 hz2 rfl _ 0 [] rfl hown B (some ad) n c (U64 z) rfl hrd (U64_one _) s1 s2 s3 ?_))
   intro A' c' w' _ _ hown' hg hat
   go_wp2
   go_ret
   refine .mk rfl (by simpa [hl] using hown') ?_
   exact ((Below.refl _ _).alloc (Nat.le_refl _) _).trans (Below.appended hown hg (by simp))
def U8 (l:List Nat):List Value:=l.map fun (b:Nat)=>Value.int .u8 (b:Int)
theorem U8_len (l:List Nat):(U8 l).length=l.length:=by simp [U8]
theorem U8_get (l:List Nat) (j:Nat) (h:j < (U8 l).length):(U8 l)[j]=.int .u8 ((l[j]'(by simpa [U8] using h):Nat):Int):=by simp [U8]
theorem U8_append (l m:List Nat):U8 (l++m)=U8 l++U8 m:=by simp [U8]
theorem info_u8:(Tryz.prog.info? 5).map (fun i=>(i.zero,i.size,i.bytes))=some (some (.int .u8 0),1,1):=by kernel_rfl
theorem Rd.u8 {w:World} {B n:Nat} {A:Option Addr} {bs:List Nat} (h:Rd w B A n (U8 bs)) (h0:0 < n) :
  ∃ b o,A=some ⟨b,o,none⟩∧b < B∧∀ k,k < n→w.cell? ⟨b,o+k,none⟩=some (.int .u8 ((bs.getD k 0:Nat):Int)):=by
 obtain ⟨b,o,e,hb,hc⟩:=h.at_ h0
 refine ⟨b,o,e,hb,fun k hk=>?_⟩
 have hl:bs.length=n:=by rw [← h.len,U8_len]
 rw [hc k (by rw [U8_len];omega),U8_get]
 simp [List.getD_eq_getElem?_getD,List.getElem?_eq_getElem (show k < bs.length by omega)]
theorem wf_i64 {x:Int} (h:(Lit.int .i64 x).wf=true):-9223372036854775808≤x∧x≤9223372036854775807:=by
 simp [Lit.wf,IntKind.min,IntKind.max,IntKind.bits,IntKind.signed] at h
 omega
theorem VecB.drewN {w:World} {B g V n:Nat} {A:Option Addr} (h:VecB w B g V n A) (k:Nat):VecB (w.drewN k) B g V n A:=h.below (below_draws (Below.refl _ _) k)
theorem NumPost.trans {w w1 w2:World} {g V2 n2:Nat} {A A1:Option Addr} {e':Ending} (m:Mod (foot g A) w w1) (ha:A1=A∨∃ b,A1=some ⟨b,0,none⟩∧w.heap.size≤b)
  (p:NumPost w1 g V2 n2 A1 e' w2):NumPost w g V2 n2 A e' w2:=by
 obtain ⟨he,A2,h1,m2,h2⟩:=p
 refine ⟨he,A2,h1,m.trans m2 fun i hi hf=>?_,?_⟩
 ·rcases hf with rfl | ⟨b,rfl,rfl⟩
  ·exact .inl rfl
  ·rcases ha with rfl | ⟨b',e,hb⟩
   ·exact .inr ⟨_,rfl,rfl⟩
   ·have:i=b':=(Addr.mk.inj (Option.some.inj e)).1
    omega
 ·rcases h2 with rfl | ⟨b,rfl,hb⟩
  ·exact ha
  ·exact .inr ⟨b,rfl,Nat.le_trans m.size hb⟩
theorem take_next {α:Type} [Inhabited α] (l:List Int) (k:Nat) (h:k < l.length):l.take (k+1)=l.take k++[l.getD k 0]:=by
 rw [← List.take_append_getElem h,List.getD_eq_getElem?_getD,List.getElem?_eq_getElem h];rfl
theorem bits_next (l:List Nat) (z:List Int) (k:Nat) (h:k < z.length):l++(z.take (k+1)).map bit1=(l++(z.take k).map bit1)++[bit1 (z.getD k 0)]:=by
 rw [take_next (α:=Nat) z k h,List.map_append,List.append_assoc];rfl
set_option maxRecDepth 20000 in
set_option maxHeartbeats 1000000 in
theorem add_p0 (g:Nat) (l:List Nat) (A As:Option Addr) (n c:Nat) (z:List Int) (w:World) (hv:VecAt w g (val l) l.length A) (h:Rd w w.heap.size As n (I64 z))
  (hs:0 < n→∀ i,inBlk As i→¬ foot g A i) (hn:l.length+n+64≤1000000) :
  Calls Tryz.prog 144 #[.pointer (some ⟨g,0,none⟩),.slice As n c] w (NumPost w g (val (l++z.map bit1)) (l++z.map bit1).length A):=by
 have hz:z.length=n:=by rw [← h.len,I64_len]
 have HZ:=Lib.hid hz
 have H:=Lib.hid h
 have HS:=Lib.hid hs
 have HV:=Lib.hid hv
 have hn9:n≤1000000:=by omega
 clear h hz hs hv
 go_enter Tryz.func144,Tryz.ntmps144
 go_wp2
 go_loopw [8] (fun i wr=>∃ (k:Nat) (Ak:Option Addr),k≤n∧i=.int .i64 (k:Int)∧VecAt wr g (val (l++(z.take k).map bit1)) (l++(z.take k).map bit1).length Ak∧Mod (foot g A) w wr∧(Ak=A∨∃ b,Ak=some ⟨b,0,none⟩∧w.heap.size≤b)) (fun i _=>n - (intOf i).toNat)
 case atStart=>exact ⟨0,A,by omega,rfl,by simpa using HV.out,Mod.refl _ _,.inl rfl⟩
 case round =>
  obtain ⟨k,Ak,hk,rfl,hvk,hm,ha⟩:=hrel
  by_cases hlt:k < n
  ·have hr:=H.out.mod hm (Nat.le_refl _) (fun h0 i hi=>HS.out h0 i hi)
   obtain ⟨b,o,rfl,_,k1⟩:=hr.i64 (by omega)
   have t1:=k1 k hlt
   have hll:(l++(z.take k).map bit1).length+64≤1000000:=by simp only [List.length_append,List.length_map,List.length_take];omega
   have hc1:cnt64 1=1:=by decide
   have NX:Hid (l++(z.take (k+1)).map bit1=(l++(z.take k).map bit1)++[bit1 (z.getD k 0)]):=bits_next l z k (by rw [HZ.out];exact hlt)
   have HVK:=Lib.hid hvk
   have HMK:=Lib.hid hm
   have HAK:=Lib.hid ha
   clear hr k1 hvk hm ha
   generalize hL:l++(z.take k).map bit1=L at *
   generalize hx:z.getD k 0=x at *
   by_cases hx0:x=0
   ·have NM:=Lib.hid (num_p g (val L) L.length 0 1 Ak wr HVK.out (by decide) (by omega) hll)
    have hb1:(0:Nat)=bit1 x:=by rw [hx0];rfl
    rw [hc1,hb1,put_one,← hb1] at NM
    subst hx0
    clear hb1
    go_wp2_with fail
    refine NM.out.mono ?_
    rintro e w2 hp
    obtain ⟨rfl,A2,hv2,hm2,ha2⟩:=NumPost.trans HMK.out HAK.out hp
    go_wp2_with fail
    go_roundw
    case rel=>exact ⟨k+1,A2,by omega,by go_num,by rw [NX.out,List.length_append];exact hv2,hm2,ha2⟩
    case measure=>simp [intOf];omega
   ·have NM:=Lib.hid (num_p g (val L) L.length 1 1 Ak wr HVK.out (by decide) (by omega) hll)
    have hb1:(1:Nat)=bit1 x:=by unfold bit1;rw [if_neg hx0]
    have hbe:(x == 0)=false:=by simpa using hx0
    have e1:put (val L) L.length 1 1=val (L++[bit1 x]):=by have:=put_one L x;rw [← hb1] at this ⊢;exact this
    rw [hc1,e1] at NM
    clear hb1 e1 hx0
    go_wp2_with fail
    refine NM.out.mono ?_
    rintro e w2 hp
    obtain ⟨rfl,A2,hv2,hm2,ha2⟩:=NumPost.trans HMK.out HAK.out hp
    go_wp2_with fail
    go_roundw
    case rel=>exact ⟨k+1,A2,by omega,by go_num,by rw [NX.out,List.length_append];exact hv2,hm2,ha2⟩
    case measure=>simp [intOf];omega
  ·obtain rfl:k=n:=by omega
   have e1:z.take k=z:=List.take_of_length_le (by rw [HZ.out];exact Nat.le_refl _)
   rw [e1] at hvk
   have HVK:=Lib.hid hvk
   have HMK:=Lib.hid hm
   have HAK:=Lib.hid ha
   clear hvk hm ha e1
   go_wp2_with fail
   exact bodyPost_end (results_none rfl _ _ _) rfl ⟨rfl,Ak,HVK.out,HMK.out,HAK.out⟩
theorem add_p (g:Nat) (l:List Nat) (A As:Option Addr) (n c:Nat) (z:List Int) (w:World) (hv:VecAt w g (val l) l.length A) (h:Rd w w.heap.size As n (I64 z))
  (hs:∀ i,inBlk As i→¬ foot g A i) (hn:l.length+n+64≤1000000) :
  Calls Tryz.prog 144 #[.pointer (some ⟨g,0,none⟩),.slice As n c] w (NumPost w g (val (l++z.map bit1)) (l++z.map bit1).length A) :=
 add_p0 g l A As n c z w hv h (fun _=>hs) hn
def ReadAt (w:World) (B r V n p:Nat):Prop :=
 p≤n∧B≤r∧∃ g A,g≠r∧A≠some ⟨r,0,none⟩∧B≤g∧VecB w B g V n A∧Blk w r 207 #[.pointer (some ⟨g,0,none⟩),.int .i64 (p:Int)]
theorem ReadAt.below {w w':World} {B r V n p:Nat} (h:ReadAt w B r V n p) (m:Below w.heap.size w w'):ReadAt w' B r V n p:=by
 obtain ⟨h1,h2,g,A,h3,h4,h5,h6,h7⟩:=h
 exact ⟨h1,h2,g,A,h3,h4,h5,h6.below m,h7.below m⟩
theorem ReadAt.mod {w w':World} {S:Nat→Prop} {B r V n p:Nat} (h:ReadAt w B r V n p) (m:Mod S w w') (hs:∀ i,B≤i→i < w.heap.size→¬ S i):ReadAt w' B r V n p:=by
 obtain ⟨h1,h2,g,A,h3,h4,h5,h6,h7⟩:=h
 refine ⟨h1,h2,g,A,h3,h4,h5,h6.mod m fun i hi=>?_,h7.mod m (hs r h2 h7.lt)⟩
 have hl:=h6.foot_lt hi
 rcases h6.foot_le hi with rfl | h
 ·exact hs _ h5 hl
 ·exact hs _ h hl
set_option maxHeartbeats 1000000 in
theorem read_p (g V n B:Nat) (A:Option Addr) (w:World) (h:VecB w B g V n A) :
  Calls Tryz.prog 141 #[.pointer (some ⟨g,0,none⟩)] w fun e w'=>∃ r,e=.returned (.pointer (some ⟨r,0,none⟩))∧ReadAt w' w.heap.size r V n 0∧Below w.heap.size w w':=by
 obtain ⟨hV,hn,c,hb,ho⟩:=h
 obtain ⟨q,hq⟩:∃ q,q=(n+63) / 64:=⟨_,rfl⟩
 have HQ:=Lib.hid hq
 rw [← hq] at hb ho
 have s0:w.cell? ⟨g,0,none⟩=some (.slice A q c):=hb.cell 0
 have s1:w.cell? ⟨g,1,none⟩=some (.int .i64 (n:Int)):=hb.cell 1
 have hgl:=hb.lt
 have CL:Hid (Calls Tryz.prog 158 #[.slice A q c] w.drew (NewU64 w.drew (words V q))) :=
  cloneU A q c _ _ _ ((Rd.ofOwn ho).drewN 1) (by omega)
 clear hb ho hq
 go_enter Tryz.func141,Tryz.ntmps141
 go_wp2_with fail
 go_region_with (first
  | (go_at_call 158;refine CL.out.mono ?_;rintro e w9 ⟨A9,c9,rfl,hc9,hm9,hown9,hb9⟩;rw [words_len] at hown9 ⊢;have hx9:w9.cell? ⟨g,1,none⟩=some (.int .i64 (n:Int)):=(hb9.cell (p:=⟨g,1,none⟩) hgl).trans s1;have HO9:=Lib.hid hown9;have HB9:=Lib.hid hb9;clear hown9 hb9))
 all_goals (
  go_wp2_with fail
  go_ret
  clear s0 s1 hx9
  have hs9:=HB9.out.size
  refine ⟨w9.heap.size+1,rfl,⟨Nat.zero_le _,?_,w9.heap.size,A9,by omega,?_,?_,⟨hV,hn,c9,?_,?_⟩,?_⟩,?_⟩
  ·exact Nat.le_trans hs9 (Nat.le_succ _)
  ·intro e
   obtain ⟨b,hb1,hb2⟩:∃ b,A9=some ⟨b,0,none⟩∧b < w9.heap.size:=by
    rcases HO9.out.2 with ⟨h2,_⟩ | ⟨g',cap,cur,hv,_,hg',_⟩
    ·simp only [Value.slice.injEq] at h2
     rw [h2.1] at e;cases e
    ·simp only [Value.slice.injEq] at hv
     exact ⟨g',hv.1,(Array.getElem?_eq_some_iff.1 hg').1⟩
   rw [hb1] at e
   have e2:b=w9.heap.size+1:=(Addr.mk.inj (Option.some.inj e)).1
   omega
  ·exact hs9
  ·rw [← HQ.out]
   exact (Blk.new w9 _ _).alloc _
  ·rw [← HQ.out]
   exact (HO9.out.alloc _).alloc _
  ·have:=Blk.new (w9.alloc (.cells #[.slice A9 q c9,.int .i64 (n:Int)] 104)) 207 #[.pointer (some ⟨w9.heap.size,0,none⟩),.int .i64 0]
   simpa using this
  ·exact (((Below.refl _ _).drew.trans HB9.out).alloc hs9 _).alloc (Nat.le_trans hs9 (by simp)) _)
theorem left_p (B r V n p:Nat) (w:World) (h:ReadAt w B r V n p) :
  Calls Tryz.prog 142 #[.pointer (some ⟨r,0,none⟩)] w fun e w'=>e=.returned (.int .i64 ((n - p:Nat):Int))∧∃ j,w'=w.drewN j:=by
 obtain ⟨hp,_,g,A,_,_,_,hv,hb⟩:=h
 have hn:=hv.2.1
 have LP:Hid (∀ j,Calls Tryz.prog 23 #[.pointer (some ⟨g,0,none⟩)] (w.drewN j) fun e w'=>e=.returned (.int .i64 (n:Int))∧w.drewN j=w'):=fun j=>blen_p g V n A _ (hv.drewN j)
 have s0:w.cell? ⟨r,0,none⟩=some (.pointer (some ⟨g,0,none⟩)):=hb.cell 0
 have s1:w.cell? ⟨r,1,none⟩=some (.int .i64 (p:Int)):=hb.cell 1
 have he:Hid ((n:Int) - (p:Int)=((n - p:Nat):Int)):=by show _=_;omega
 clear hv hb
 go_enter Tryz.func142,Tryz.ntmps142
 go_wp2_with fail
 go_quiet ((go_at_call 23;exact Calls.quiet_of_same ((LP.out _).mono fun e w' ⟨he,hw⟩=>⟨he,hw.symm⟩)))
 go_wp2
 go_ret
 exact ⟨by rw [← he.out];rfl,nq,rfl⟩
def ReadG (w:World) (B r V n p g:Nat) (A:Option Addr):Prop :=
 p≤n∧B≤r∧g≠r∧A≠some ⟨r,0,none⟩∧B≤g∧VecB w B g V n A∧Blk w r 207 #[.pointer (some ⟨g,0,none⟩),.int .i64 (p:Int)]
theorem ReadG.toAt {w:World} {B r V n p g:Nat} {A:Option Addr} (h:ReadG w B r V n p g A):ReadAt w B r V n p:=by
 obtain ⟨h1,h2,h3,h4,h5,h6,h7⟩:=h
 exact ⟨h1,h2,g,A,h3,h4,h5,h6,h7⟩
theorem ReadAt.toG {w:World} {B r V n p:Nat} (h:ReadAt w B r V n p):∃ g A,ReadG w B r V n p g A:=by
 obtain ⟨h1,h2,g,A,h3,h4,h5,h6,h7⟩:=h
 exact ⟨g,A,h1,h2,h3,h4,h5,h6,h7⟩
theorem ReadG.below {w w':World} {B r V n p g:Nat} {A:Option Addr} (h:ReadG w B r V n p g A) (m:Below w.heap.size w w'):ReadG w' B r V n p g A:=by
 obtain ⟨h1,h2,h3,h4,h5,h6,h7⟩:=h
 exact ⟨h1,h2,h3,h4,h5,h6.below m,h7.below m⟩
theorem ReadG.mod {w w':World} {S:Nat→Prop} {B r V n p g:Nat} {A:Option Addr} (h:ReadG w B r V n p g A) (m:Mod S w w') (hr:¬ S r) (hs:∀ i,foot g A i→¬ S i):ReadG w' B r V n p g A:=by
 obtain ⟨h1,h2,h3,h4,h5,h6,h7⟩:=h
 exact ⟨h1,h2,h3,h4,h5,h6.mod m hs,h7.mod m hr⟩
set_option maxRecDepth 20000 in
set_option maxHeartbeats 1000000 in
theorem rnum_g (B r V n p g:Nat) (A:Option Addr) (k:Int) (w:World) (h:ReadG w B r V n p g A) (hk:-9223372036854775808≤k∧k≤9223372036854775807) (hyes:cnt64 k≤n - p) :
  Calls Tryz.prog 143 #[.pointer (some ⟨r,0,none⟩),.int .i64 k] w fun e w'=>e=.returned (.tuple #[.int .u64 ((V / 2 ^ p%2 ^ cnt64 k:Nat):Int),.int .i64 0])∧ReadG w' B r V n (p+cnt64 k) g A∧Mod (fun i=>i=r) w w':=by
 have C:=Lib.hid (count_p k w hk)
 have L:=Lib.hid (left_p B r V n p w h.toAt)
 have hk64:cnt64 k≤64:=by unfold cnt64;split <;> (try split) <;> omega
 generalize cnt64 k=kk at *
 have hc:¬ ((n - p:Nat):Int) < (kk:Int):=by omega
 have H:=Lib.hid h
 obtain ⟨hp,hBr,hgr,hAr,hBg,hv,hb⟩:=h
 have hn:=hv.2.1
 rcases Nat.eq_zero_or_pos kk with h0 | h0
 ·subst h0
  clear hc hv hb
  generalize n - p=m at *
  go_enter Tryz.func143,Tryz.ntmps143
  go_wp2_with fail
  refine C.out.mono ?_
  rintro e w' ⟨rfl,rfl⟩
  go_wp2_with fail
  refine L.out.mono ?_
  rintro e w' ⟨rfl,j,rfl⟩
  go_wp2_with fail
  go_ret2
  refine ⟨by simp [Nat.mod_one],H.out.below (below_draws (Below.refl _ _) j),(Mod.refl _ w).drewN j⟩
 ·have hk0:¬ kk=0:=by omega
  have HP:=Lib.hid hyes
  have hpk:p+kk≤n:=by omega
  have GP:Hid (∀ j,Calls Tryz.prog 132 #[.pointer (some ⟨g,0,none⟩),.int .i64 (p:Int),.int .i64 (kk:Int)] (w.drewN j) fun e w'=>e=.returned (.int .u64 ((V / 2 ^ p%2 ^ kk:Nat):Int))∧w.drewN j=w') :=
   fun j=>get_p g V n p kk A _ (hv.drewN j) h0 hk64 hpk
  have s0:w.cell? ⟨r,0,none⟩=some (.pointer (some ⟨g,0,none⟩)):=hb.cell 0
  have s1:w.cell? ⟨r,1,none⟩=some (.int .i64 (p:Int)):=hb.cell 1
  have f1:=hb.frozen 1
  have HV:=Lib.hid hv
  have HB:=Lib.hid hb
  clear hv hb
  generalize V / 2 ^ p%2 ^ kk=x at *
  generalize n - p=m at *
  go_enter Tryz.func143,Tryz.ntmps143
  go_wp2_with fail
  refine C.out.mono ?_
  rintro e w' ⟨rfl,rfl⟩
  go_wp2_with fail
  refine L.out.mono ?_
  rintro e w' ⟨rfl,j,rfl⟩
  go_wp2_with fail
  go_quiet ((go_at_call 132;exact (GP.out _).mono fun e w' h=>⟨h.1,_,h.2.symm⟩))
  go_wp2
  go_ret2
  have mm:Mod (fun i=>i=r) (w.drewN (j+nq)) ((w.drewN (j+nq)).setCell ⟨r,1,none⟩ (.int .i64 ((p:Int)+(kk:Int)))) :=
   Mod.setCell (p:=⟨r,1,none⟩) (Mod.refl (fun i=>i=r) _) (fun _=>rfl) _
  refine ⟨rfl,⟨hpk,hBr,hgr,hAr,hBg,(HV.out.drewN _).mod mm ?_,?_⟩,Mod.setCell (p:=⟨r,1,none⟩) ((Mod.refl (fun i=>i=r) w).drewN _) (fun _=>rfl) _⟩
  ·rintro i (rfl | ⟨b,rfl,rfl⟩) hi
   ·exact hgr hi
   ·exact hAr (by rw [hi])
  ·have:=(HB.out.drewN (j+nq)).set_ 1 (.int .i64 ((p:Int)+(kk:Int)))
   simpa using this
set_option maxRecDepth 20000 in
set_option maxHeartbeats 1000000 in
theorem onesCount_p (x:Nat) (w:World) (hx:x < 2 ^ 64) :
  Calls Tryz.prog 157 #[.int .u64 (x:Int)] w fun e w'=>e=.returned (.int .i64 ((pop x 64:Nat):Int))∧w=w':=by
 obtain ⟨X1,X2,X3,X4,X5,X6,e1,e2,e3,e4,e5,e6,e7,e8,e9⟩:=swar x hx
 obtain ⟨A1,hA1⟩:∃ A1,A1=x / 2 &&& 6148914691236517205:=⟨_,rfl⟩
 obtain ⟨A2,hA2⟩:∃ A2,A2=x &&& 6148914691236517205:=⟨_,rfl⟩
 obtain ⟨B1,hB1⟩:∃ B1,B1=X1 / 4 &&& 3689348814741910323:=⟨_,rfl⟩
 obtain ⟨B2,hB2⟩:∃ B2,B2=X1 &&& 3689348814741910323:=⟨_,rfl⟩
 have a1:A1≤6148914691236517205:=by rw [hA1];exact Nat.and_le_right
 have a2:A2≤6148914691236517205:=by rw [hA2];exact Nat.and_le_right
 have b1:B1≤3689348814741910323:=by rw [hB1];exact Nat.and_le_right
 have b2:B2≤3689348814741910323:=by rw [hB2];exact Nat.and_le_right
 rw [← hA1,← hA2] at e1
 rw [← hB1,← hB2] at e2
 have g1:bits .and .u64 ((x:Int) / 2) 6148914691236517205=(A1:Int):=by
  rw [hA1,show ((x:Int) / 2)=((x / 2:Nat):Int) by omega];exact u64_and_nat (x / 2) 6148914691236517205 (by omega) (by decide)
 have g2:bits .and .u64 (x:Int) 6148914691236517205=(A2:Int):=by rw [hA2];exact u64_and_nat x 6148914691236517205 hx (by decide)
 have g3:(A1:Int)+(A2:Int)=(X1:Int):=by omega
 have g4:bits .and .u64 ((X1:Int) / 4) 3689348814741910323=(B1:Int):=by
  rw [hB1,show ((X1:Int) / 4)=((X1 / 4:Nat):Int) by omega];exact u64_and_nat (X1 / 4) 3689348814741910323 (by omega) (by decide)
 have g5:bits .and .u64 (X1:Int) 3689348814741910323=(B2:Int):=by rw [hB2];exact u64_and_nat X1 3689348814741910323 (by omega) (by decide)
 have g6:(B1:Int)+(B2:Int)=(X2:Int):=by omega
 have g7:bits .and .u64 ((X2:Int) / 16+(X2:Int)) 1085102592571150095=(X3:Int):=by
  rw [e3,show ((X2:Int) / 16+(X2:Int))=((X2 / 16+X2:Nat):Int) by omega];exact u64_and_nat (X2 / 16+X2) 1085102592571150095 (by omega) (by decide)
 have g8:(X3:Int)+(X3:Int) / 256=(X4:Int):=by omega
 have g9:(X4:Int)+(X4:Int) / 65536=(X5:Int):=by omega
 have g10:(X5:Int)+(X5:Int) / 4294967296=(X6:Int):=by omega
 have hx2:X2≤7378697629483820646:=by omega
 have hx4:X4≤1100000000000000000:=by omega
 have hx5:X5≤1110000000000000000:=by omega
 have g11:bits .and .i64 (X6:Int) 127=((pop x 64:Nat):Int):=by rw [i64_and127,← e7];omega
 have hx':x < 18446744073709551616:=hx
 have e9':X6 < 2305843009213693952:=e9
 generalize pop x 64=r at *
 clear e1 e2 e3 e4 e5 e6 e7 hA1 hA2 hB1 hB2 e9 hx
 go_enter Tryz.func157,Tryz.ntmps157
 go_wp2
 go_ret
 exact ⟨rfl,rfl⟩
theorem pop_le (x k:Nat):pop x k≤k:=by
 induction k with
 | zero=>exact Nat.le_refl _
 | succ k ih =>
   rw [pop_add]
   have:pop (x / 2 ^ k) 1≤1:=by
    simp only [pop,numL,List.range_succ,List.range_zero,List.nil_append,List.map_cons,List.map_nil,List.sum_cons,List.sum_nil]
    omega
   omega
theorem pop_words (V k:Nat):pop V (64*(k+1))=pop V (64*k)+pop (wd V k) 64:=by
 rw [Nat.mul_add,Nat.mul_one,pop_add]
 unfold wd
 rw [pop_mod]
theorem pop_all {V n m:Nat} (h:V < 2 ^ n) (hn:n≤m):pop V m=pop V n:=by
 obtain ⟨d,rfl⟩:=Nat.exists_eq_add_of_le hn
 rw [pop_add,Nat.div_eq_of_lt h,pop_zero,Nat.add_zero]
theorem pop_val {l:List Nat} (h:Bin l):pop (val l) l.length=l.sum:=by
 unfold pop
 rw [numL_val h _ (Nat.le_refl _),List.take_of_length_le (Nat.le_refl _)]
set_option maxRecDepth 20000 in
set_option maxHeartbeats 1000000 in
theorem ones_p (g V n B:Nat) (A:Option Addr) (w:World) (h:VecB w B g V n A) :
  Calls Tryz.prog 140 #[.pointer (some ⟨g,0,none⟩)] w fun e w'=>e=.returned (.int .i64 ((pop V n:Nat):Int))∧w=w':=by
 obtain ⟨hV,hn,c,hb,ho⟩:=h
 obtain ⟨m,hm⟩:∃ m,m=(n+63) / 64:=⟨_,rfl⟩
 have hm1:m≤1000000:=by omega
 have hall:=pop_all hV (show n≤64*m by omega)
 rw [← hm] at hb ho
 rw [← hall]
 have s0:w.cell? ⟨g,0,none⟩=some (.slice A m c):=hb.cell 0
 have R:=Lib.hid (Rd.ofOwn ho)
 clear hb ho hm hV hall
 go_enter Tryz.func140,Tryz.ntmps140
 go_wp2_with fail
 go_loopw [3,13] (fun x i wr=>∃ k q:Nat,k≤m∧i=.int .i64 (k:Int)∧Hid (q=pop V (64*k))∧q≤64*k∧x=.int .i64 (q:Int)∧wr=w) (fun _ i _=>m - (intOf i).toNat)
 case atStart=>exact ⟨0,0,by omega,rfl,rfl,by omega,rfl,rfl⟩
 case round =>
  obtain ⟨k,q,hk,rfl,hq,hqk,rfl,rfl⟩:=hrel
  by_cases hlt:k < m
  ·obtain ⟨b,o,rfl,_,k1⟩:=R.out.u64 (by omega)
   have t1:=k1 k hlt
   rw [words_get _ _ _ hlt] at t1
   have OC:=Lib.hid (onesCount_p (wd V k) wr (wd_lt V k))
   have hp:=pop_le (wd V k) 64
   have hq2:Hid (q+pop (wd V k) 64=pop V (64*(k+1))):=by show _=_;rw [pop_words,← hq.out]
   clear k1
   generalize pop (wd V k) 64=y at *
   generalize wd V k=x at *
   go_wp2_with fail
   refine OC.out.mono ?_
   rintro e w2 ⟨rfl,rfl⟩
   go_wp2_with fail
   go_roundw
   case rel=>exact ⟨k+1,q+y,by omega,by go_num,hq2,by omega,by go_num,trivial⟩
   case measure=>simp [intOf];omega
  ·obtain rfl:k=m:=by omega
   go_wp2_with fail
   go_ret
   exact ⟨by rw [← hq.out];rfl,rfl⟩
def U32 (z:List Nat):List Value:=z.map fun (x:Nat)=>Value.int .u32 (x:Int)
theorem U32_append (l m:List Nat):U32 (l++m)=U32 l++U32 m:=by simp [U32]
theorem U32_get (z:List Nat) (k:Nat) (hk:k < z.length):(U32 z)[k]?=some (.int .u32 ((z.getD k 0:Nat):Int)):=by
 simp [U32,List.getD_eq_getElem?_getD,List.getElem?_eq_getElem hk]
def blk (n:Nat):Nat:=(n+511) / 512
def aheadL (V k:Nat):List Nat:=(List.range k).map fun j=>pop V (512*j)
theorem aheadL_len (V k:Nat):(aheadL V k).length=k:=by simp [aheadL]
theorem aheadL_get (V k j:Nat) (h:j < k):(aheadL V k).getD j 0=pop V (512*j):=by simp [aheadL,List.getD_eq_getElem?_getD,h]
theorem aheadL_next (V k:Nat):aheadL V (k+1)=aheadL V k++[pop V (512*k)]:=by simp [aheadL,List.range_succ]
def b01 (d:Bool):Int:=if d then 1 else 0
def DirAt (w:World) (g V n:Nat) (d:Bool) (H:Value):Prop :=
 match d with
 | false=>H=.slice none 0 0
 | true=>∃ S c,H=.slice S (blk n+1) c∧w.ownsRow (g+1) 157 1 (.slice S (blk n+1) c) (blk n+1) (U32 (aheadL V (blk n+1)))
def IdxAt (w:World) (g V n:Nat) (d:Bool) (q:Nat):Prop :=
 V < 2 ^ n∧n≤1000000∧∃ A c H,Blk w g 171 #[.slice A ((n+63) / 64) c,.int .i64 (n:Int),.int .i64 ((pop V n:Nat):Int),.int .u32 (b01 d),.int .i32 0,.int .u32 0,H,.int .i64 (b01 d),.int .i64 (q:Int)] ∧
  w.ownsRow (g+1) 139 1 (.slice A ((n+63) / 64) c) ((n+63) / 64) (U64 (words V ((n+63) / 64)))∧DirAt w g V n d H
theorem DirAt.below {w w':World} {g V n:Nat} {d:Bool} {H:Value} (h:DirAt w g V n d H) (m:Below w.heap.size w w'):DirAt w' g V n d H:=by
 cases d with
 | false=>exact h
 | true=>obtain ⟨S,c,e,ho⟩:=h;exact ⟨S,c,e,own_below ho m⟩
theorem IdxAt.below {w w':World} {g V n q:Nat} {d:Bool} (h:IdxAt w g V n d q) (m:Below w.heap.size w w'):IdxAt w' g V n d q:=by
 obtain ⟨h1,h2,A,c,H,h3,h4,h5⟩:=h
 exact ⟨h1,h2,A,c,H,h3.below m,own_below h4 m,h5.below m⟩
theorem IdxAt.lt {w:World} {g V n q:Nat} {d:Bool} (h:IdxAt w g V n d q):g < w.heap.size:=by
 obtain ⟨_,_,A,c,H,h3,_⟩:=h
 exact h3.lt
theorem IdxAt.mod {w w':World} {S:Nat→Prop} {g V n q:Nat} {d:Bool} (h:IdxAt w g V n d q) (m:Mod S w w') (hs:∀ i,S i→i < g):IdxAt w' g V n d q:=by
 obtain ⟨h1,h2,A,c,H,h3,h4,h5⟩:=h
 refine ⟨h1,h2,A,c,H,h3.mod m fun hx=>by have:=hs g hx;omega,own_mod h4 m fun k hk hx=>by have:=(h4.lt k hk).1;have:=hs k hx;omega,?_⟩
 cases d with
 | false=>exact h5
 | true =>
   obtain ⟨S',c',e,ho⟩:=h5
   exact ⟨S',c',e,own_mod ho m fun k hk hx=>by have:=(ho.lt k hk).1;have:=hs k hx;omega⟩
/-! ### sync/atomic -/
theorem add64 (a:Addr) (x:Int) (w:World) (hc:w.cell? a=some (.int .i64 x)) (hz:w.frozen? a=false) (h0:0≤x) (h1:x≤1000000000) :
  Calls Tryz.prog 160 #[.pointer (some a),.int .i64 1] w fun e w'=>e=.returned (.int .i64 (x+1))∧w'=w.setCell a (.int .i64 (x+1)):=by
 have hadd:=run_call_add (P:=Tryz.prog) Tryz.func169 (by kernel_rfl) (by kernel_rfl) (by kernel_rfl) .i64 (by kernel_rfl) (y:=1) (s:=x+1) hc hz (by simp [go_sem];rw [IntKind.wrap_i64];omega)
 go_enter Tryz.func160,Tryz.ntmps160
 go_wp2
 go_ret
 exact ⟨rfl,rfl⟩
/-! ### what the index answers without its directory -/
section
variable (g V n q:Nat) (d:Bool) (w:World)
theorem xlen_p (h:IdxAt w g V n d q):Calls Tryz.prog 99 #[.pointer (some ⟨g,0,none⟩)] w fun e w'=>e=.returned (.int .i64 (n:Int))∧w=w':=by
 obtain ⟨_,_,A,c,H,hb,_⟩:=h
 have c1:w.cell? ⟨g,1,none⟩=some (.int .i64 (n:Int)):=hb.cell 1
 clear hb
 go_enter Tryz.func99,Tryz.ntmps99
 go_wp2
 go_ret
 exact ⟨rfl,rfl⟩
theorem xblocks_p (h:IdxAt w g V n d q):Calls Tryz.prog 172 #[.pointer (some ⟨g,0,none⟩)] w fun e w'=>e=.returned (.int .i64 ((blk n:Nat):Int))∧w=w':=by
 obtain ⟨_,hn,A,c,H,hb,_⟩:=h
 obtain ⟨m,hm⟩:∃ m,m=(n+63) / 64:=⟨_,rfl⟩
 rw [← hm] at hb
 have c1:w.cell? ⟨g,0,none⟩=some (.slice A m c):=hb.cell 0
 have e1:((m:Int)+8 - 1) / 8=((blk n:Nat):Int):=by unfold blk;omega
 have hm9:m≤1000000:=by omega
 clear hb hm
 generalize blk n=r at *
 have E1:=Lib.hid e1
 clear e1
 go_enter Tryz.func172,Tryz.ntmps172
 go_wp2
 go_ret
 exact ⟨congrArg (fun z=>Ending.returned (.int .i64 z)) E1.out,rfl⟩
end
end Go.Proofs.YtajjgpkahljjmaaGreatDoor
namespace Go.Proofs.YtajjgpkahljjmaaGreatDoor
theorem rdisable (w:World):(callFunc 210 #[]).run Tryz.prog w=.ok (.value (.tuple #[])) w:=run_call_mark0 Tryz.func210 (by kernel_rfl) (by kernel_rfl) (by kernel_rfl) .disable (by kernel_rfl) w
theorem renable (w:World):(callFunc 212 #[]).run Tryz.prog w=.ok (.value (.tuple #[])) w:=run_call_mark0 Tryz.func212 (by kernel_rfl) (by kernel_rfl) (by kernel_rfl) .enable (by kernel_rfl) w
theorem racquire (a:Addr) (w:World):(callFunc 213 #[.pointer (some a)]).run Tryz.prog w=.ok (.value (.tuple #[])) w:=run_call_marked Tryz.func213 (by kernel_rfl) (by kernel_rfl) (by kernel_rfl) .acquire (by kernel_rfl) a w
theorem rrelease (a:Addr) (w:World):(callFunc 215 #[.pointer (some a)]).run Tryz.prog w=.ok (.value (.tuple #[])) w:=run_call_marked Tryz.func215 (by kernel_rfl) (by kernel_rfl) (by kernel_rfl) .releaseMerge (by kernel_rfl) a w
theorem store_deferred (a:Addr) (x:Value) (u:FrameMode) (w:World) (hc:w.cell? a=some x) (hz:w.frozen? a=false) :
  CallsD Tryz.prog 193 #[.pointer (some a),.bool true] u w fun e u' w'=>u'=u∧(e=.returned (.tuple #[])∧w'=w.drew.setCell a (.int .u32 1)):=by
 have hc':w.drew.cell? a=some x:=by go_simp
 have hz':w.drew.frozen? a=false:=by go_simp
 have hst:=run_call_store (P:=Tryz.prog) Tryz.func202 (by kernel_rfl) (by kernel_rfl) (by kernel_rfl) (by kernel_rfl) (k:=.u32) (y:=1) hc' hz'
 go_enter_d Tryz.func193,Tryz.ntmps193
 go_wp2
 go_region_calls
 all_goals (go_end0;exact ⟨rfl,rfl⟩)
set_option maxRecDepth 100000 in
set_option maxHeartbeats 1600000 in
theorem unlock_deferred (a:Addr) (u:FrameMode) (w:World) (hc:w.cell? a=some (.int .i32 1)) (hz:w.frozen? a=false) :
  CallsD Tryz.prog 192 #[.pointer (some a)] u w fun e u' w'=>u'=u∧(e=.returned (.tuple #[])∧w'=w.setCell a (.int .i32 0)):=by
 have hd:=rdisable
 have he:=renable
 have hr:=rrelease
 have hadd:=run_call_add (P:=Tryz.prog) Tryz.func216 (by kernel_rfl) (by kernel_rfl) (by kernel_rfl) .i32 (by kernel_rfl) (y:=-1) (s:=0) hc hz (by simp [go_sem];rfl)
 have hcv:=run_convert_to_unsafe (P:=Tryz.prog) (src:=237) (dst:=241) Tryz.underlying237 Tryz.underlying241 (by kernel_rfl) hc
 go_enter_d Tryz.func192,Tryz.ntmps192
 go_wp2
 go_end0
 go_wp2
 go_end0
 exact ⟨rfl,rfl⟩
set_option maxRecDepth 100000 in
set_option maxHeartbeats 1600000 in
theorem lock_free (a:Addr) (w:World) (hc:w.cell? a=some (.int .i32 0)) (hz:w.frozen? a=false) :
  Calls Tryz.prog 191 #[.pointer (some a)] w fun e w'=>e=.returned (.tuple #[])∧w'=w.setCell a (.int .i32 1):=by
 have hd:=rdisable
 have he:=renable
 have ha:=racquire
 have hcas:=run_call_cas_hit (P:=Tryz.prog) Tryz.func211 (by kernel_rfl) (by kernel_rfl) (by kernel_rfl) .i32 (by kernel_rfl) (y:=1) hc hz
 have hc':(w.setCell a (.int .i32 1)).cell? a=some (.int .i32 1):=World.cell?_setCell_same w a _ hc
 have hcv:=run_convert_to_unsafe (P:=Tryz.prog) (src:=237) (dst:=241) Tryz.underlying237 Tryz.underlying241 (by kernel_rfl) hc'
 go_enter Tryz.func191,Tryz.ntmps191
 go_wp2
 first | go_end0 | (simp only [Exit.inBlock,Exit.then];refine bodyPost_ret (results_none rfl _ _ _) rfl ?_) | refine bodyPost_ret (results_none rfl _ _ _) rfl ?_
 go_wp2
 go_end0
 exact ⟨rfl,rfl⟩
theorem do_done (a:Addr) (fv:Value) (w:World) (h0:w.cell? a=some (.int .u32 1)) :
  Calls Tryz.prog 170 #[.pointer (some a),fv] w fun e w'=>e=.returned (.tuple #[])∧w'=w:=by
 have hl:=run_call_load (P:=Tryz.prog) Tryz.func190 (by kernel_rfl) (by kernel_rfl) (by kernel_rfl) .u32 (by kernel_rfl) h0
 have hnot:∀ (x:Bool) (w:World),(Op.unary .not (.bool x)).run Tryz.prog w=.ok (.bool (!x)) w:=fun _ _=>rfl
 go_enter Tryz.func170,Tryz.ntmps170
 go_wp2
 go_end0
 exact ⟨rfl,rfl⟩
end Go.Proofs.YtajjgpkahljjmaaGreatDoor
