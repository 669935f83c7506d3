/- Rank: what stands ahead of a place. -/
import Derived.Test.YtijbdnhlpbcabaaGreatDoorZg7
import Derived.Deep.QuietTactic
import Derived.BigQuiet
import Derived.Shelf.Spec.TrailingZeros
open Go.RowKit
set_option linter.unusedVariables false
namespace Go.Proofs.YtijbdnhlpbcabaaGreatDoor
theorem pop_le_mod (x r:Nat) (h:r≤64):pop (x%2 ^ 64) r=pop x r:=by
 rw [← pop_mod (x%2 ^ 64) r,← pop_mod x r,Nat.mod_mod_of_dvd _ (Nat.pow_dvd_pow 2 h)]
theorem pop_part (V a r:Nat) (h:r≤64):pop V (64*a+r)=pop V (64*a)+pop (wd V a) r:=by
 rw [pop_add]
 unfold wd
 rw [pop_le_mod _ _ h]
theorem pop_shl (x s:Nat) (h:s≤64):pop (x*2 ^ s%2 ^ 64) 64=pop x (64 - s):=by
 rw [pop_mod]
 have:pop (x*2 ^ s) (s+(64 - s))=pop (x*2 ^ s) s+pop (x*2 ^ s / 2 ^ s) (64 - s):=pop_add _ _ _
 rw [show s+(64 - s)=64 by omega] at this
 rw [this,Nat.mul_div_cancel _ (Nat.two_pow_pos s),← pop_mod (x*2 ^ s) s,Nat.mul_mod_left,pop_zero,Nat.zero_add]
def cb (bit:Int) (V i:Nat):Nat:=if bit=0 then i - pop V i else pop V i
theorem isBit_p (b:Int) (w:World) :
  Calls Tryz.prog 161 #[.int .i64 b] w fun e w'=>e=.returned (.bool (decide (b=0∨b=1)))∧w=w':=by
 by_cases h0:b=0
 ·have hd:decide (b=0∨b=1)=true:=decide_eq_true (.inl h0)
  rw [hd]
  have g0:(b == 0)=true:=by rw [beq_iff_eq];exact h0
  clear hd h0
  go_enter Tryz.func161,Tryz.ntmps161
  go_wp2
  go_ret
  exact ⟨rfl,rfl⟩
 ·have g0:(b == 0)=false:=by rw [beq_eq_false_iff_ne];exact h0
  by_cases h1:b=1
  ·have hd:decide (b=0∨b=1)=true:=decide_eq_true (.inr h1)
   rw [hd]
   have g1:(b == 1)=true:=by rw [beq_iff_eq];exact h1
   clear hd h0 h1
   go_enter Tryz.func161,Tryz.ntmps161
   go_wp2
   go_ret
   exact ⟨rfl,rfl⟩
  ·have hd:decide (b=0∨b=1)=false:=decide_eq_false (by omega)
   rw [hd]
   have g1:(b == 1)=false:=by rw [beq_eq_false_iff_ne];exact h1
   clear hd h0 h1
   go_enter Tryz.func161,Tryz.ntmps161
   go_wp2
   go_ret
   exact ⟨rfl,rfl⟩
theorem IdxAt.dir {w:World} {g V n q:Nat} (h:IdxAt w g V n true q):∃ b c,w.cell? ⟨g,6,none⟩=some (.slice (some ⟨b,0,none⟩) (blk n+1) c)∧b < w.heap.size∧∀ j,j≤blk n→w.cell? ⟨b,j,none⟩=some (.int .u32 ((pop V (512*j):Nat):Int)):=by
 obtain ⟨_,_,A,c,H,hb,_,S,d,rfl,ho⟩:=h
 obtain ⟨b,rfl,_,hbl⟩:=own_some ho (by omega)
 refine ⟨b,d,hb.cell 6,hbl,fun j hj=>?_⟩
 rw [ho.cellAt j (by omega),U32_get _ _ (by rw [aheadL_len];omega),aheadL_get _ _ _ (by omega)]
theorem IdxAt.word {w:World} {g V n q:Nat} {d:Bool} (h:IdxAt w g V n d q) (h0:0 < n):∃ b c,w.cell? ⟨g,0,none⟩=some (.slice (some ⟨b,0,none⟩) ((n+63) / 64) c)∧(n+63) / 64≤c∧c≤maxLen∧∀ j,j < (n+63) / 64→w.cell? ⟨b,j,none⟩=some (.int .u64 ((wd V j:Nat):Int)):=by
 obtain ⟨_,_,A,c,H,hb,ho,_⟩:=h
 obtain ⟨b,rfl,_,hbl⟩:=own_some ho (by omega)
 obtain ⟨A',c',e,h1,h2⟩:=own_form ho
 simp only [Value.slice.injEq] at e
 obtain ⟨_,_,rfl⟩:=e
 refine ⟨b,c,hb.cell 0,h1,h2,fun j hj=>?_⟩
 rw [ho.cellAt j (by omega),U64_get _ _ (by rw [words_len];omega),words_get _ _ _ hj]
set_option maxRecDepth 20000 in
set_option maxHeartbeats 2000000 in
theorem onesAhead_p (g V n q i:Nat) (w:World) (h:IdxAt w g V n true q) (hi:i≤n) :
  Calls Tryz.prog 163 #[.pointer (some ⟨g,0,none⟩),.int .i64 (i:Int)] w fun e w'=>e=.returned (.int .i64 ((pop V i:Nat):Int))∧w=w':=by
 have hn:=h.2.1
 obtain ⟨bd,cd,c6,_,kd⟩:=h.dir
 obtain ⟨s,hs⟩:∃ s,s=i / 512:=⟨_,rfl⟩
 obtain ⟨a,ha⟩:∃ a,a=i / 64:=⟨_,rfl⟩
 obtain ⟨r,hr⟩:∃ r,r=i%64:=⟨_,rfl⟩
 have hsb:s≤blk n:=by unfold blk;omega
 have td:=kd s hsb
 have q1:(i:Int) / 512=(s:Int):=by omega
 have q2:(i:Int) / 64=(a:Int):=by omega
 have q3:(i:Int)%64=(r:Int):=by omega
 have h8a:8*s≤a:=by omega
 have hi64:i=64*a+r:=by omega
 have hr64:r < 64:=by omega
 have hbn:blk n≤3000:=by unfold blk;omega
 have hp1:pop V (512*s)≤1000000:=by have:=pop_le V (512*s);omega
 have P1:Hid (pop V (512*s)=pop V (64*(8*s))):=by show _=_;rw [show 512*s=64*(8*s) by omega]
 have hsI:(s:Int) < ((blk n:Nat):Int)+1:=by omega
 have HA:=Lib.hid (And.intro hs (And.intro ha hr))
 have HI:=Lib.hid hi64
 clear kd hs ha hr hi64
 generalize pop V (512*s)=p0 at *
 generalize hblk:blk n=bn at *
 clear hblk
 rcases Nat.eq_zero_or_pos n with hn0 | hn0
 ·have h0:i=0∧a=0∧r=0∧s=0:=by have:=HI.out;omega
  obtain ⟨rfl,rfl,rfl,rfl⟩:=h0
  obtain ⟨_,_,A,c,H,hb,ho,_⟩:=h
  have c0:w.cell? ⟨g,0,none⟩=some (.slice A ((n+63) / 64) c):=hb.cell 0
  subst hn0
  have hA:A=none∨∃ b,A=some ⟨b,0,none⟩:=by
   rcases ho.2 with ⟨e,_⟩ | ⟨g',cap,cur,e,_⟩
   ·simp only [Value.slice.injEq] at e;exact .inl e.1
   ·simp only [Value.slice.injEq] at e;exact .inr ⟨g',e.1⟩
  have hc:c≤maxLen:=by obtain ⟨_,_,e,_,h2⟩:=own_form ho;simp only [Value.slice.injEq] at e;omega
  have hp0:p0=0:=by have:=P1.out;rw [this];rfl
  subst hp0
  have PZ:Hid (pop V 0=0):=rfl
  clear hb ho
  unfold maxLen at hc
  rcases hA with rfl | ⟨b,rfl⟩
  all_goals (
   go_enter Tryz.func163,Tryz.ntmps163
   go_wp2_with fail
   refine wp_loop_rounds 1 ?_
   rw [rounds_succ]
   go_wp2_with fail
   go_ret
   exact ⟨by rw [PZ.out];rfl,rfl⟩)
 ·obtain ⟨b,c,c0,hmc,hcm,kw⟩:=h.word hn0
  obtain ⟨m,hm⟩:∃ m,m=(n+63) / 64:=⟨_,rfl⟩
  rw [← hm] at c0 hmc kw
  have ham:a≤m:=by have:=HI.out;omega
  have hm9:m≤20000:=by omega
  unfold maxLen at hcm
  have hp8:p0≤64*(s*8+0):=by have:=P1.out;have:=pop_le V (64*(8*s));omega
  have KW:=Lib.hid kw
  have HM:=Lib.hid hm
  clear kw hm h
  go_enter Tryz.func163,Tryz.ntmps163
  go_wp2_with fail
  all_goals (
   go_loop [6,30] (fun v j=>∃ k r0:Nat,k≤a - s*8∧j=.int .i64 (k:Int)∧v=.int .i64 (r0:Int)∧r0≤64*(s*8+k)∧Hid (r0=pop V (64*(s*8+k)))) (fun _ j=>a - s*8 - (intOf j).toNat)
   case atStart=>exact ⟨0,p0,by omega,rfl,rfl,hp8,by show _=_;rw [P1.out,show 64*(s*8+0)=64*(8*s) by omega]⟩
   case round =>
    obtain ⟨k,r0,hk,rfl,rfl,hr0,hrp⟩:=hrel
    by_cases hlt:k < a - s*8
    ·first
      | (exfalso;omega)
      | (have t1:=KW.out (s*8+k) (by omega)
         have hpn:=pop_words V (s*8+k)
         rw [← hrp.out] at hpn
         have OC:=Lib.hid (fun w'=>onesCount_p (wd V (s*8+k)) w' (wd_lt _ _))
         have hpx:=pop_le (wd V (s*8+k)) 64
         generalize pop (wd V (s*8+k)) 64=px at *
         generalize wd V (s*8+k)=x at *
         have HPN:=Lib.hid hpn
         clear hpn
         go_wp2_with fail
         refine (OC.out _).mono ?_
         rintro e w9 ⟨rfl,rfl⟩
         go_wp2_with fail
         go_round
         case rel=>exact ⟨k+1,r0+px,by omega,by go_num,by go_num,by omega,HPN.out.symm⟩
         case measure=>simp [intOf];omega)
    ·have hka:s*8+k=a:=by omega
     rw [hka] at hrp hr0
     by_cases hr0z:r=0
     ·have hrb:(r:Int)=0:=by omega
      have hE:Hid (r0=pop V i):=by show _=_;rw [hrp.out,HI.out,hr0z,Nat.add_zero]
      have hrz:((r:Int) != 0)=false:=by simp [hr0z]
      clear hr0z hrb hka
      go_wp2_with fail
      go_ret
      exact ⟨by rw [← hE.out];rfl,rfl⟩
     ·have ham2:a < m:=by have:=HI.out;have:=HM.out;omega
      first
      | (exfalso;omega)
      | (have t1:=KW.out a ham2
         obtain ⟨tt,htt⟩:∃ tt,tt=64 - r:=⟨_,rfl⟩
         have htI:(64:Int) - (r:Int)=(tt:Int):=by omega
         have ht64:tt≤64:=by omega
         have hpx:=pop_part V a r (by omega)
         have hsh:=pop_shl (wd V a) tt ht64
         rw [show 64 - tt=r by omega] at hsh
         rw [← HI.out,← hrp.out,← hsh] at hpx
         have hwr:=wrap_u64 (wd V a) tt
         have OC:=Lib.hid (fun w'=>onesCount_p (wd V a*2 ^ tt%2 ^ 64) w' (Nat.mod_lt _ (by decide)))
         have hpl:=pop_le (wd V a*2 ^ tt%2 ^ 64) 64
         have hrz:((r:Int) != 0)=true:=by rw [bne_iff_ne];omega
         generalize wd V a*2 ^ tt%2 ^ 64=yy at *
         generalize pop yy 64=py at *
         generalize wd V a=x at *
         have HPX:=Lib.hid hpx
         clear hpx hsh htt hr0z hka
         go_wp2_with fail
         refine (OC.out _).mono ?_
         rintro e w9 ⟨rfl,rfl⟩
         go_wp2_with fail
         go_ret
         exact ⟨by rw [HPX.out];go_num,rfl⟩))
theorem cb_le (bit:Int) (V i:Nat):cb bit V i≤i:=by
 unfold cb
 split
 ·omega
 ·exact pop_le V i
theorem min_len (a n:Nat) (ha:a≤2000000) (hn:n≤1000000):∀ w,(Builtin.min_ #[3,3] 3 #[.int .i64 (a:Int),.int .i64 (n:Int)]).run Tryz.prog w=.ok (.int .i64 ((min a n:Nat):Int)) w:=fun w=>by
 simp [Builtin.min_,Builtin.min2]
 repeat' split
 all_goals omega
theorem xat_in (g V n q i:Nat) (d:Bool) (w:World) (h:IdxAt w g V n d q) (hi:i < n) :
  Calls Tryz.prog 124 #[.pointer (some ⟨g,0,none⟩),.int .i64 (i:Int)] w fun e w'=>e=.returned (.int .i64 ((V / 2 ^ i%2:Nat):Int))∧w=w':=by
 have XL:=Lib.hid (xlen_p g V n q d w h)
 have hn:=h.2.1
 obtain ⟨b,c,c0,hmc,hcm,kw⟩:=h.word (by omega)
 obtain ⟨m,hm⟩:∃ m,m=(n+63) / 64:=⟨_,rfl⟩
 rw [← hm] at c0 hmc kw
 obtain ⟨a,ha⟩:∃ a,a=i / 64:=⟨_,rfl⟩
 obtain ⟨r,hr⟩:∃ r,r=i%64:=⟨_,rfl⟩
 have t1:=kw a (by omega)
 have q2:(i:Int) / 64=(a:Int):=by omega
 have q3:(i:Int)%64=(r:Int):=by omega
 have hr64:r < 64:=by omega
 have ham:(a:Int) < (m:Int):=by omega
 have hlt:¬ (n:Int)≤(i:Int):=by omega
 have hG:=get_one V a r 1 (by omega)
 rw [show 64*a+r=i by omega,Nat.pow_one] at hG
 have hm9:m≤20000:=by omega
 have hx64:=wd_lt V a
 have hand:bits .and .u64 ((wd V a:Int) / 2 ^ r) 1=((V / 2 ^ i%2:Nat):Int):=by
  have e:((wd V a:Int) / 2 ^ r)=((wd V a / 2 ^ r:Nat):Int):=by simp
  rw [e,← hG]
  have:=u64_and_nat (wd V a / 2 ^ r) 1 (Nat.lt_of_le_of_lt (Nat.div_le_self _ _) hx64) (by decide)
  rw [show ((1:Nat):Int)=1 from rfl] at this
  rw [this,show (1:Nat)=2 ^ 1 - 1 by rfl,Nat.and_two_pow_sub_one_eq_mod]
 have hv2:V / 2 ^ i%2 < 2:=Nat.mod_lt _ (by decide)
 generalize V / 2 ^ i%2=v at *
 generalize wd V a=x at *
 clear kw hm ha hr hG h hcm
 go_enter Tryz.func124,Tryz.ntmps124
 go_wp2_with fail
 refine XL.out.mono ?_
 rintro e w' ⟨rfl,rfl⟩
 go_wp2_with fail
 go_ret
 exact ⟨rfl,rfl⟩
/-! ### Rank -/
theorem asked_next {w:World} {g V n q:Nat} {d:Bool} (h:IdxAt w g V n d q):IdxAt (w.setCell ⟨g,8,none⟩ (.int .i64 ((q:Int)+1))) g V n d (q+1)∧Mod (fun i=>i=g) w (w.setCell ⟨g,8,none⟩ (.int .i64 ((q:Int)+1))):=by
 have m1:Mod (fun i=>i=g) w (w.setCell ⟨g,8,none⟩ (.int .i64 ((q:Int)+1))):=Mod.setCell (p:=⟨g,8,none⟩) (Mod.refl (fun i=>i=g) w) (fun _=>rfl) _
 obtain ⟨hV,hn,A,c,H,hb,ho,hd⟩:=h
 refine ⟨⟨hV,hn,A,c,H,?_,own_mod ho m1 fun k hk hx=>by have:=(ho.lt k hk).1;omega,?_⟩,m1⟩
 ·have:=hb.set_ 8 (.int .i64 ((q:Int)+1))
  rw [show ((q:Int)+1)=((q+1:Nat):Int) by omega] at this ⊢
  simpa using this
 ·cases d with
  | false=>exact hd
  | true =>
    obtain ⟨S,d,e,h1⟩:=hd
    exact ⟨S,d,e,own_mod h1 m1 fun k hk hx=>by have:=(h1.lt k hk).1;omega⟩
theorem ask_p (g V n q:Nat) (d:Bool) (w:World) (h:IdxAt w g V n d q) (hq:q≤1000000) :
  Calls Tryz.prog 160 #[.pointer (some ⟨g,8,none⟩),.int .i64 1] w fun e w'=>e=.returned (.int .i64 ((q:Int)+1))∧IdxAt w' g V n d (q+1)∧Mod (fun i=>i=g) w w':=by
 obtain ⟨h1,h2⟩:=asked_next h
 obtain ⟨hV,hn,A,c,H,hb,ho,hd⟩:=h
 exact (add64 ⟨g,8,none⟩ (q:Int) w (hb.cell 8) (hb.frozen 8) (by omega) (by omega)).mono fun e w' ⟨he,hw⟩=>by subst hw;exact ⟨he,h1,h2⟩
theorem rank_yes (g V n q i:Nat) (d:Bool) (bit:Int) (w:World) (h:IdxAt w g V n d q) (hq:q≤1000000) (hb:bit=0∨bit=1) (hi:i≤n) :
  Calls Tryz.prog 147 #[.pointer (some ⟨g,0,none⟩),.int .i64 bit,.int .i64 (i:Int)] w fun e w'=>e=.returned (.tuple #[.int .i64 ((cb bit V i:Nat):Int),.int .i64 0])∧IdxAt w' g V n true (q+1)∧Mod (fun i=>i=g) w w':=by
 have hn:=h.2.1
 have AK:=Lib.hid (ask_p g V n q d w h hq)
 have IB:=Lib.hid (fun w'=>isBit_p bit w')
 rw [decide_eq_true hb] at IB
 have hni:¬ (n:Int) < (i:Int):=by omega
 have hpi:=pop_le V i
 have HCB:Hid (((cb bit V i:Nat):Int)=if bit=0 then (i:Int) - ((pop V i:Nat):Int) else ((pop V i:Nat):Int)):=by
  show _=_
  unfold cb;split <;> omega
 rw [HCB.out]
 have BP:=Lib.hid (fun w' h'=>build_p g V n (q+1) d w' h')
 have OA:=Lib.hid (fun w' h'=>onesAhead_p g V n (q+1) i w' h' hi)
 clear h hi HCB
 generalize pop V i=p at *
 rcases hb with rfl | rfl
 ·rw [if_pos rfl]
  go_enter Tryz.func147,Tryz.ntmps147
  go_wp2_with fail
  refine AK.out.mono ?_
  rintro e w1 ⟨rfl,h1,m1⟩
  have c1:w1.cell? ⟨g,1,none⟩=some (.int .i64 (n:Int)):=by obtain ⟨_,_,A,c,H,hb,_⟩:=h1;exact hb.cell 1
  have H1:=Lib.hid h1
  have M1:=Lib.hid m1
  clear h1 m1
  go_wp2_with fail
  refine (IB.out _).mono ?_
  rintro e w' ⟨rfl,rfl⟩
  go_wp2_with fail
  refine (BP.out _ H1.out).mono ?_
  rintro e w2 ⟨rfl,h2,m2⟩
  have H2:=Lib.hid h2
  have M2:Hid (Mod (fun i=>i=g) w w2):=M1.out.trans m2 fun _ _ h=>h
  clear h2 m2 c1
  go_wp2_with fail
  refine (OA.out _ H2.out).mono ?_
  rintro e w' ⟨rfl,rfl⟩
  go_wp2_with fail
  go_ret2
  exact ⟨rfl,H2.out,M2.out⟩
 ·rw [if_neg (by decide)]
  go_enter Tryz.func147,Tryz.ntmps147
  go_wp2_with fail
  refine AK.out.mono ?_
  rintro e w1 ⟨rfl,h1,m1⟩
  have c1:w1.cell? ⟨g,1,none⟩=some (.int .i64 (n:Int)):=by obtain ⟨_,_,A,c,H,hb,_⟩:=h1;exact hb.cell 1
  have H1:=Lib.hid h1
  have M1:=Lib.hid m1
  clear h1 m1
  go_wp2_with fail
  refine (IB.out _).mono ?_
  rintro e w' ⟨rfl,rfl⟩
  go_wp2_with fail
  refine (BP.out _ H1.out).mono ?_
  rintro e w2 ⟨rfl,h2,m2⟩
  have H2:=Lib.hid h2
  have M2:Hid (Mod (fun i=>i=g) w w2):=M1.out.trans m2 fun _ _ h=>h
  clear h2 m2 c1
  go_wp2_with fail
  refine (OA.out _ H2.out).mono ?_
  rintro e w' ⟨rfl,rfl⟩
  go_wp2_with fail
  go_ret2
  exact ⟨rfl,H2.out,M2.out⟩
theorem pop_next (x i:Nat):pop x (i+1)=pop x i+x / 2 ^ i%2:=by
 rw [pop_add]
 congr 1
 simp [pop,numL,List.range_succ]
theorem pop_bit1 {x i:Nat} (h:x.testBit i=true):pop x (i+1)=pop x i+1:=by
 rw [pop_next]
 rw [Nat.testBit_eq_decide_div_mod_eq,decide_eq_true_iff] at h
 rw [h]
theorem pop_mono (x:Nat) {a b:Nat} (h:a≤b):pop x a≤pop x b:=by
 obtain ⟨d,rfl⟩:∃ d,b=a+d:=⟨b - a,by omega⟩
 rw [pop_add];omega
theorem one_at (x j:Nat):∀ c,j < pop x c→∃ i,i < c∧x.testBit i=true∧pop x i=j:=by
 intro c
 induction c with
 | zero=>intro h;simp [pop,numL] at h
 | succ c ih =>
   intro h
   by_cases hb:x.testBit c=true
   ·rw [pop_bit1 hb] at h
    by_cases he:pop x c=j
    ·exact ⟨c,by omega,hb,he⟩
    ·obtain ⟨i,h1,h2,h3⟩:=ih (by omega)
     exact ⟨i,by omega,h2,h3⟩
   ·have:pop x (c+1)=pop x c:=by
     rw [pop_next]
     rw [Nat.testBit_eq_decide_div_mod_eq,decide_eq_true_iff] at hb
     omega
    rw [this] at h
    obtain ⟨i,h1,h2,h3⟩:=ih h
    exact ⟨i,by omega,h2,h3⟩
theorem one_unique {x i c:Nat} (hi:x.testBit i=true) (hc:x.testBit c=true) (he:pop x i=pop x c):i=c:=by
 rcases Nat.lt_trichotomy i c with h | h | h
 ·have h1:=pop_mono x (show i+1≤c by omega)
  rw [pop_bit1 hi] at h1;omega
 ·exact h
 ·have h1:=pop_mono x (show c+1≤i by omega)
  rw [pop_bit1 hc] at h1;omega
theorem clr_bit {y c m:Nat} (h:y=2 ^ c*(2*m+1)) (i:Nat):(y &&& (y - 1)).testBit i=(y.testBit i && decide (i≠c)):=by
 have h1:y - 1=2 ^ c*(2*m)+(2 ^ c - 1):=by
  have:=Nat.two_pow_pos c
  rw [h,Nat.mul_add,Nat.mul_one];omega
 have h2:y=2 ^ c*(2*m+1)+0:=by rw [h];rfl
 have hlt:2 ^ c - 1 < 2 ^ c:=by have:=Nat.two_pow_pos c;omega
 rw [Nat.testBit_and,h1,Nat.testBit_two_pow_mul_add _ hlt]
 rw [h2,Nat.testBit_two_pow_mul_add _ (Nat.two_pow_pos c)]
 by_cases hic:i < c
 ·simp [hic]
 ·by_cases he:i=c
  ·subst he;simp
  ·obtain ⟨k,hk⟩:∃ k,i - c=k+1:=⟨i - c - 1,by omega⟩
   simp only [hic,if_false,hk,Nat.testBit_succ]
   rw [show (2*m+1) / 2=m by omega,show 2*m / 2=m by omega]
   simp [he]
def Cleared (x j y:Nat):Prop:=y < 2 ^ 64∧∀ i,y.testBit i=(x.testBit i && decide (j≤pop x i))
theorem Cleared.start {x:Nat} (h:x < 2 ^ 64):Cleared x 0 x:=⟨h,fun i=>by simp⟩
theorem Cleared.low {x j k y:Nat} (h:Cleared x j y) (hjk:j≤k) (hk:k < pop x 64):y≠0:=by
 obtain ⟨i,_,h2,h3⟩:=one_at x k 64 hk
 intro e
 have:=h.2 i
 rw [e,h2,h3,decide_eq_true hjk] at this
 simp at this
theorem Cleared.first {x j y:Nat} (h:Cleared x j y) (h0:y≠0):∃ m,y=2 ^ Lib.ctz 64 y*(2*m+1)∧Lib.ctz 64 y < 64∧x.testBit (Lib.ctz 64 y)=true∧pop x (Lib.ctz 64 y)=j:=by
 obtain ⟨m,hm,hc⟩:=Lib.ctzFrom_spec 64 y (by omega) h.1
 have e:Lib.ctz 64 y=Lib.ctzFrom 64 y:=by simp [Lib.ctz,h0]
 rw [e]
 generalize Lib.ctzFrom 64 y=c at *
 have hb:∀ i,y.testBit i=if i < c then false else (2*m+1).testBit (i - c):=fun i=>by
  rw [show y=2 ^ c*(2*m+1)+0 by rw [hm];rfl,Nat.testBit_two_pow_mul_add _ (Nat.two_pow_pos c)]
  simp
 have hyc:y.testBit c=true:=by rw [hb c];simp
 have hxc:=h.2 c
 rw [hyc] at hxc
 have hx2:=Bool.and_eq_true_iff.1 hxc.symm
 have hjc:j≤pop x c:=of_decide_eq_true hx2.2
 refine ⟨m,hm,hc,hx2.1,?_⟩
 by_cases he:pop x c=j
 ·exact he
 ·obtain ⟨i,h1,h2,h3⟩:=one_at x j c (by omega)
  have:=h.2 i
  rw [hb i,if_pos h1,h2,h3,decide_eq_true (Nat.le_refl j)] at this
  simp at this
theorem Cleared.next {x j y:Nat} (h:Cleared x j y) (h0:y≠0):Cleared x (j+1) (y &&& (y - 1)):=by
 obtain ⟨m,hm,hc,hxc,hpc⟩:=h.first h0
 refine ⟨Nat.lt_of_le_of_lt Nat.and_le_left h.1,fun i=>?_⟩
 rw [clr_bit hm i,h.2 i]
 generalize Lib.ctz 64 y=c at *
 by_cases hx:x.testBit i=true
 ·rw [hx]
  by_cases hi:i=c
  ·subst hi
   rw [hpc];simp
  ·have hne:pop x i≠j:=fun e=>hi (one_unique hx hxc (by rw [e,hpc]))
   simp [hi]
   omega
 ·simp only [Bool.not_eq_true] at hx
  rw [hx];simp
structure Tab (w:World):Prop where
 at_:TabAt 2 Lib.deBruijn64tab w
theorem Tab.below {w w':World} {B:Nat} (h:Tab w) (hB:2 < B) (m:Below B w w'):Tab w':=⟨fun j hj=>(m.cell (p:=⟨2,j,none⟩) hB).trans (h.at_ j hj)⟩
set_option maxHeartbeats 1000000 in
theorem tz_core (x k idx:Nat) (w:World) (hx0:((x:Int) == 0)=false)
  (key:IntKind.u64.wrap (bits BinOp.and IntKind.u64 (x:Int) (IntKind.u64.wrap (-(x:Int)))*285870213051353865) / 288230376151711744=(idx:Int))
  (hi:idx < 64) (hk:k < 64) (hcell:w.cell? ⟨2,idx,none⟩=some (.int .u8 (k:Int))) :
  Calls Tryz.prog 199 #[.int .u64 (x:Int)] w fun e w'=>e=.returned (.int .i64 (k:Int))∧w=w':=by
 go_enter Tryz.func199,Tryz.ntmps199
 go_wp2_with (simp only [key])
 go_ret
 exact ⟨rfl,rfl⟩
theorem tz_p (x:Nat) (hx:x < 18446744073709551616) (hx0:x≠0) (w:World) (hT:Tab w) :
  Calls Tryz.prog 199 #[.int .u64 (x:Int)] w fun e w'=>e=.returned (.int .i64 ((Lib.ctz 64 x:Nat):Int))∧w=w':=by
 obtain ⟨hlow,hk⟩:=Lib.lowest_bit 64 x hx0 hx
 obtain ⟨hi,htab⟩:=Lib.deBruijn64_at _ hk
 have hcell:=hT.at_ _ hi
 rw [htab] at hcell
 exact tz_core x _ _ w (by simp;omega) (tz64_key x _ hx hx0 hlow) hi hk hcell
set_option maxHeartbeats 1000000 in
theorem within_p (x k:Nat) (hx:x < 2 ^ 64) (hk:k < pop x 64) (w:World) (hT:Tab w) :
  Calls Tryz.prog 188 #[.int .u64 (x:Int),.int .i64 (k:Int)] w fun e w'=>∃ p:Nat,e=.returned (.int .i64 (p:Int))∧p < 64∧x.testBit p=true∧pop x p=k∧w=w':=by
 have hk64:k < 64:=Nat.lt_of_lt_of_le hk (pop_le x 64)
 have HK:=Lib.hid hk
 have HT:=Lib.hid hT
 have HS:=Lib.hid (Cleared.start hx)
 clear hT hk
 go_enter Tryz.func188,Tryz.ntmps188
 go_wp2_with fail
 go_loop [0,6] (fun v i=>∃ j y:Nat,j≤k∧i=.int .i64 (j:Int)∧v=.int .u64 (y:Int)∧Hid (Cleared x j y)) (fun _ i=>k - (intOf i).toNat)
 case atStart=>exact ⟨0,x,by omega,rfl,rfl,HS.out⟩
 case round =>
  obtain ⟨j,y,hj,rfl,rfl,hc⟩:=hrel
  have hy0:y≠0:=hc.out.low hj HK.out
  have hy1:1≤y:=by omega
  have hy64:y < 18446744073709551616:=hc.out.1
  by_cases hlt:j < k
  ·have hand:bits .and .u64 (y:Int) ((y:Int) - 1)=((y &&& (y - 1):Nat):Int):=by
    rw [show (y:Int) - 1=((y - 1:Nat):Int) by omega];exact u64_and_nat y (y - 1) hc.out.1 (by omega)
   have NX:=Lib.hid (hc.out.next hy0)
   clear hc hy0
   generalize y &&& (y - 1)=y2 at *
   go_wp2_with fail
   go_round
   case rel=>exact ⟨j+1,y2,by omega,by go_num,rfl,NX.out⟩
   case measure=>simp [intOf];omega
  ·obtain rfl:j=k:=by omega
   obtain ⟨c,TZ,HF⟩:∃ c:Nat,Hid (∀ w',Tab w'→Calls Tryz.prog 199 #[.int .u64 (y:Int)] w' fun e w''=>e=.returned (.int .i64 (c:Int))∧w'=w'')∧Hid (c < 64∧x.testBit c=true∧pop x c=j):=by
    obtain ⟨m,_,h1,h2,h3⟩:=hc.out.first hy0
    exact ⟨_,fun w' hw'=>tz_p y hy64 hy0 w' hw',h1,h2,h3⟩
   clear hc hy0
   go_wp2_with fail
   refine (TZ.out _ HT.out).mono ?_
   rintro e w' ⟨rfl,rfl⟩
   go_wp2_with fail
   go_ret
   exact ⟨c,rfl,HF.out.1,HF.out.2.1,HF.out.2.2,rfl⟩
section
variable (g V n q:Nat) (d:Bool) (w:World)
end
end Go.Proofs.YtijbdnhlpbcabaaGreatDoor
namespace Go.Proofs.YtijbdnhlpbcabaaGreatDoor
theorem aheadOf_p (g V n q j:Nat) (bit:Int) (w:World) (h:IdxAt w g V n true q) (hj:j≤blk n) :
  Calls Tryz.prog 179 #[.pointer (some ⟨g,0,none⟩),.int .i64 bit,.int .i64 (j:Int)] w fun e w'=>e=.returned (.int .i64 ((cb bit V (min (512*j) n):Nat):Int))∧w=w':=by
 have hn:=h.2.1
 obtain ⟨bd,cd,c6,_,kd⟩:=h.dir
 have td:=kd j hj
 have c1:w.cell? ⟨g,1,none⟩=some (.int .i64 (n:Int)):=by obtain ⟨_,_,A,c,H,hb,_⟩:=h;exact hb.cell 1
 have hbn:blk n≤3000:=by unfold blk;omega
 have hjI:(j:Int) < ((blk n:Nat):Int)+1:=by omega
 have hp1:=pop_le V (512*j)
 have hpm:Hid (pop V (min (512*j) n)=pop V (512*j)):=by
  show _=_
  by_cases hc:512*j≤n
  ·rw [Nat.min_eq_left hc]
  ·rw [Nat.min_eq_right (by omega)]
   exact (pop_all h.1 (by omega)).symm
 have hple:=pop_le V (min (512*j) n)
 rw [hpm.out] at hple
 have hmm9:min (512*j) n≤1000000:=by omega
 by_cases h0:bit=0
 ·have hc:Hid (((cb bit V (min (512*j) n):Nat):Int)=((min (512*j) n:Nat):Int) - ((pop V (512*j):Nat):Int)):=by
   show _=_
   unfold cb
   rw [if_pos h0,hpm.out]
   generalize min (512*j) n=mm at *
   omega
  have g0:(bit == 0)=true:=by rw [beq_iff_eq];exact h0
  have hmin:=min_len (j*512) n (by have h5:=hj;unfold blk at h5;omega) hn
  rw [Nat.mul_comm j 512] at hmin
  have hmul:((512*j:Nat):Int)=(j:Int)*512:=by omega
  rw [hmul] at hmin
  clear kd h h0 hmul
  rw [hc.out]
  generalize pop V (512*j)=p0 at *
  generalize min (512*j) n=mm at *
  go_enter Tryz.func179,Tryz.ntmps179
  go_wp2_with fail
  go_ret
  exact ⟨rfl,rfl⟩
 ·have hc:Hid (cb bit V (min (512*j) n)=pop V (512*j)):=by show _=_;unfold cb;rw [if_neg h0,hpm.out]
  have g0:(bit == 0)=false:=by rw [beq_eq_false_iff_ne];exact h0
  clear kd h h0
  rw [hc.out]
  generalize pop V (512*j)=p0 at *
  go_enter Tryz.func179,Tryz.ntmps179
  go_wp2_with fail
  go_ret
  exact ⟨rfl,rfl⟩
theorem count_q (g V n q:Nat) (d:Bool) (bit:Int) (w:World) (h:IdxAt w g V n d q) :
  Calls Tryz.prog 176 #[.pointer (some ⟨g,0,none⟩),.int .i64 bit] w fun e w'=>e=.returned (.int .i64 ((cb bit V n:Nat):Int))∧∃ j,w'=w.drewN j:=by
 have hn:=h.2.1
 obtain ⟨_,_,A,c,H,hb,_⟩:=h
 have c1:w.cell? ⟨g,1,none⟩=some (.int .i64 (n:Int)):=hb.cell 1
 have c2:w.cell? ⟨g,2,none⟩=some (.int .i64 ((pop V n:Nat):Int)):=hb.cell 2
 have hp1:=pop_le V n
 clear hb
 by_cases h0:bit=0
 ·have hc:Hid (((cb bit V n:Nat):Int)=(n:Int) - ((pop V n:Nat):Int)):=by show _=_;unfold cb;rw [if_pos h0];omega
  have g0:(bit == 0)=true:=by rw [beq_iff_eq];exact h0
  rw [hc.out]
  clear h0 hc
  generalize pop V n=p0 at *
  go_enter Tryz.func176,Tryz.ntmps176
  go_wp2_with fail
  go_quiet (fail)
  go_wp2
  go_ret
  exact ⟨rfl,nq,rfl⟩
 ·have hc:Hid (cb bit V n=pop V n):=by show _=_;unfold cb;rw [if_neg h0]
  have g0:(bit == 0)=false:=by rw [beq_eq_false_iff_ne];exact h0
  rw [hc.out]
  clear h0 hc
  generalize pop V n=p0 at *
  go_enter Tryz.func176,Tryz.ntmps176
  go_wp2_with fail
  go_ret
  exact ⟨rfl,0,rfl⟩
def wdb (bit:Int) (V a:Nat):Nat:=if bit=0 then 2 ^ 64 - (wd V a+1) else wd V a
def IsB (bit:Int) (V p:Nat):Prop:=V.testBit p=decide (bit≠0)
theorem wdb_lt (bit:Int) (V a:Nat):wdb bit V a < 2 ^ 64:=by
 unfold wdb
 split
 ·exact Nat.sub_lt (Nat.two_pow_pos _) (Nat.succ_pos _)
 ·exact wd_lt V a
theorem wdb_bit (bit:Int) (V a r:Nat) (hr:r < 64):(wdb bit V a).testBit r=true↔IsB bit V (64*a+r):=by
 unfold wdb IsB
 by_cases h:bit=0
 ·rw [if_pos h,Nat.testBit_two_pow_sub_succ (wd_lt V a),wd_bit]
  simp [hr,h]
 ·rw [if_neg h,wd_bit]
  simp [hr,h]
theorem pop_compl {x:Nat} (hx:x < 2 ^ 64):∀ r,r≤64→pop (2 ^ 64 - (x+1)) r+pop x r=r:=by
 intro r
 induction r with
 | zero=>intro _;rfl
 | succ r ih =>
   intro hr
   have ih:=ih (by omega)
   rw [pop_next,pop_next]
   have h1:=Nat.testBit_two_pow_sub_succ hx r
   rw [Nat.testBit_eq_decide_div_mod_eq,Nat.testBit_eq_decide_div_mod_eq] at h1
   have h2:(2 ^ 64 - (x+1)) / 2 ^ r%2 < 2:=Nat.mod_lt _ (by decide)
   have h3:x / 2 ^ r%2 < 2:=Nat.mod_lt _ (by decide)
   rw [decide_eq_true (show r < 64 by omega),Bool.true_and] at h1
   generalize (2 ^ 64 - (x+1)) / 2 ^ r%2=u at *
   generalize x / 2 ^ r%2=v at *
   by_cases hv:v=1
   ·rw [decide_eq_true hv] at h1
    have:¬ u=1:=fun e=>by rw [decide_eq_true e] at h1;cases h1
    omega
   ·rw [decide_eq_false hv] at h1
    have:u=1:=of_decide_eq_true h1
    omega
theorem cb_part (bit:Int) (V a r:Nat) (hr:r≤64):cb bit V (64*a+r)=cb bit V (64*a)+pop (wdb bit V a) r:=by
 have h1:=pop_part V a r hr
 have h2:=pop_le V (64*a)
 unfold cb wdb
 by_cases h:bit=0
 ·simp only [if_pos h]
  have h3:=pop_compl (wd_lt V a) r hr
  have h4:=pop_le (wd V a) r
  omega
 ·simp only [if_neg h]
  exact h1
theorem cb_mono (bit:Int) (V:Nat) {a b:Nat} (h:a≤b):cb bit V a≤cb bit V b:=by
 obtain ⟨d,rfl⟩:∃ d,b=a+d:=⟨b - a,by omega⟩
 unfold cb
 have h1:=pop_add V a d
 have h2:=pop_le (V / 2 ^ a) d
 have h3:=pop_le V a
 split <;> omega
theorem cb_next {bit:Int} {V p:Nat} (h:IsB bit V p):cb bit V (p+1)=cb bit V p+1:=by
 unfold IsB at h
 have h3:=pop_le V p
 unfold cb
 by_cases hb:bit=0
 ·have h2:pop V (p+1)=pop V p:=by
   rw [pop_next]
   rw [Nat.testBit_eq_decide_div_mod_eq] at h
   simp [hb] at h
   omega
  simp only [if_pos hb]
  omega
 ·simp only [if_neg hb]
  exact pop_bit1 (by rw [h];simp [hb])
theorem cb_unique {bit:Int} {V p r:Nat} (hp:IsB bit V p) (hr:IsB bit V r) (he:cb bit V p=cb bit V r):p=r:=by
 rcases Nat.lt_trichotomy p r with h | h | h
 ·have h1:=cb_mono bit V (show p+1≤r by omega)
  rw [cb_next hp] at h1;omega
 ·exact h
 ·have h1:=cb_mono bit V (show r+1≤p by omega)
  rw [cb_next hr] at h1;omega
theorem xor_ones (b:Nat) (hb:b < 2 ^ 64):(2 ^ 64 - 1) ^^^ b=2 ^ 64 - (b+1):=by
 apply Nat.eq_of_testBit_eq
 intro i
 rw [Nat.testBit_xor,Nat.testBit_two_pow_sub_one,Nat.testBit_two_pow_sub_succ hb]
 by_cases hi:i < 64
 ·simp [hi]
 ·have:b.testBit i=false:=Nat.testBit_lt_two_pow (Nat.lt_of_lt_of_le hb (Nat.pow_le_pow_right (by decide) (by omega)))
  simp [hi,this]
theorem not_u64 (x:Nat) (hx:x < 2 ^ 64):bits .xor .u64 IntKind.u64.max (x:Int)=((2 ^ 64 - (x+1):Nat):Int):=by
 have e2:IntKind.u64.max=((2 ^ 64 - 1:Nat):Int):=by decide
 rw [e2,bits_xor_u64_nat _ _ (by decide) (by omega),xor_ones x hx]
set_option maxHeartbeats 2000000 in
theorem place_p (g V n q a0 k0 K p:Nat) (d:Bool) (bit:Int) (w:World) (h:IdxAt w g V n d q) (hT:Tab w) (hb:bit=0∨bit=1) (hK:cb bit V (64*a0)+k0=K) (hKn:K < cb bit V n) (hp:IsB bit V p) (hcp:cb bit V p=K) :
  Calls Tryz.prog 180 #[.pointer (some ⟨g,0,none⟩),.int .i64 bit,.int .i64 (a0:Int),.int .i64 (k0:Int)] w fun e w'=>e=.returned (.int .i64 (p:Int))∧w=w':=by
 have hn:=h.2.1
 have hn0:0 < n:=by
  rcases Nat.eq_zero_or_pos n with h0 | h0
  ·subst h0
   have:=cb_le bit V 0;omega
  ·exact h0
 obtain ⟨b,c,c0,hmc,hcm,kw⟩:=h.word hn0
 obtain ⟨m,hm⟩:∃ m,m=(n+63) / 64:=⟨_,rfl⟩
 rw [← hm] at c0 hmc kw
 have hm9:m≤20000:=by omega
 have am:Hid (∀ a,cb bit V (64*a)≤K→a < m):=fun a ha=>by
  rcases Nat.lt_or_ge a m with h1 | h1
  ·exact h1
  ·have:=cb_mono bit V (show n≤64*a by omega)
   omega
 have hK9:K≤1000000:=by have:=cb_le bit V n;omega
 have KW:=Lib.hid kw
 have HT:=Lib.hid hT
 have HK:=Lib.hid hK
 have HP:=Lib.hid (And.intro hp hcp)
 clear kw hT hK hp hcp h hm
 unfold maxLen at hcm
 go_enter Tryz.func180,Tryz.ntmps180
 go_wp2_with fail
 go_loop [2,3] (fun x y=>∃ a k:Nat,a≤m∧x=.int .i64 (a:Int)∧y=.int .i64 (k:Int)∧Hid (cb bit V (64*a)+k=K)) (fun x _=>m - (intOf x).toNat)
 case atStart=>exact ⟨a0,k0,by have:=am.out a0 (by have:=HK.out;omega);omega,rfl,rfl,HK.out⟩
 case round =>
  obtain ⟨a,k,ha,rfl,rfl,hk⟩:=hrel
  have ham:=am.out a (by have:=hk.out;omega)
  have hk9:k≤1000000:=by have:=hk.out;omega
  have t1:=KW.out a ham
  have hx64:=wd_lt V a
  have CP:=Lib.hid (fun r hr=>cb_part bit V a r hr)
  have WB:=Lib.hid (fun r hr=>wdb_bit bit V a r hr)
  obtain ⟨y,hy⟩:∃ y,y=wdb bit V a:=⟨_,rfl⟩
  have hy64:y < 2 ^ 64:=by rw [hy];exact wdb_lt bit V a
  rw [← hy] at CP WB
  have OC:=Lib.hid (fun w'=>onesCount_p y w' hy64)
  have hpl:=pop_le y 64
  have WI:Hid (∀ w',Tab w'→k < pop y 64→Calls Tryz.prog 188 #[.int .u64 (y:Int),.int .i64 (k:Int)] w' fun e w''=>∃ p:Nat,e=.returned (.int .i64 (p:Int))∧p < 64∧y.testBit p=true∧pop y p=k∧w'=w''):=fun w' hw' hlt=>within_p y k hy64 hlt w' hw'
  have C64:=CP.out 64 (Nat.le_refl _)
  have hnot:=not_u64 (wd V a) hx64
  have HY:Hid (y=wdb bit V a):=hy
  have DEC:Hid (∀ r,r < 64→y.testBit r=true→pop y r=k→64*a+r=p):=fun r hr ht he=>by
   have h1:=CP.out r (by omega)
   have h2:=(WB.out r hr).1 ht
   exact cb_unique h2 HP.out.1 (by have:=HP.out.2;have:=hk.out;omega)
  unfold wdb at hy
  have HC:=Lib.hid C64
  clear C64
  rcases hb with rfl | rfl
  ·rw [if_pos rfl] at hy
   rw [← hy] at hnot
   clear hy hx64 hy64
   generalize wd V a=x at *
   generalize pop y 64=o at *
   go_wp2_with fail
   refine (OC.out _).mono ?_
   rintro e w' ⟨rfl,rfl⟩
   by_cases hlt:k < o
   ·go_wp2_with fail
    refine (WI.out _ HT.out hlt).mono ?_
    rintro e w' ⟨r,rfl,hr,htr,hpr,rfl⟩
    have hfin:=DEC.out r hr htr hpr
    clear htr hpr
    go_wp2_with fail
    go_ret
    subst hfin
    exact ⟨by go_num,rfl⟩
   ·have hnx:Hid (cb 0 V (64*(a+1))+(k - o)=K):=by
     show _=_
     have h1:=HC.out
     have h2:=hk.out
     rw [show 64*(a+1)=64*a+64 by omega,h1];omega
    go_wp2_with fail
    go_round
    case rel=>exact ⟨a+1,k - o,by omega,by go_num,by go_num,hnx.out⟩
    case measure=>simp [intOf];omega
  ·rw [if_neg (by decide)] at hy
   rw [← hy] at t1
   clear hy hx64 hy64 hnot
   generalize pop y 64=o at *
   go_wp2_with fail
   refine (OC.out _).mono ?_
   rintro e w' ⟨rfl,rfl⟩
   by_cases hlt:k < o
   ·go_wp2_with fail
    refine (WI.out _ HT.out hlt).mono ?_
    rintro e w' ⟨r,rfl,hr,htr,hpr,rfl⟩
    have hfin:=DEC.out r hr htr hpr
    clear htr hpr
    go_wp2_with fail
    go_ret
    subst hfin
    exact ⟨by go_num,rfl⟩
   ·have hnx:Hid (cb 1 V (64*(a+1))+(k - o)=K):=by
     show _=_
     have h1:=HC.out
     have h2:=hk.out
     rw [show 64*(a+1)=64*a+64 by omega,h1];omega
    go_wp2_with fail
    go_round
    case rel=>exact ⟨a+1,k - o,by omega,by go_num,by go_num,hnx.out⟩
    case measure=>simp [intOf];omega
def Pst (bit:Int) (V n k j:Nat):Bool:=decide (k < cb bit V (min (512*(j+1)) n))
theorem pst_mono {bit:Int} {V n k i j:Nat} (h:i≤j) (hi:Pst bit V n k i=true):Pst bit V n k j=true:=by
 unfold Pst at *
 rw [decide_eq_true_eq] at *
 have:=cb_mono bit V (show min (512*(i+1)) n≤min (512*(j+1)) n by omega)
 omega
structure Caps (w:World) (g:Nat) (k:Int) (b:Nat) (bit:Int):Prop where
 c0:w.cell? ⟨b,0,none⟩=some (.pointer (some ⟨g,0,none⟩))
 c1:w.cell? ⟨b+1,0,none⟩=some (.int .i64 bit)
 c2:w.cell? ⟨b+2,0,none⟩=some (.int .i64 k)
theorem Caps.drewN {w:World} {g b:Nat} {k bit:Int} (h:Caps w g k b bit) (n:Nat):Caps (w.drewN n) g k b bit:=⟨h.c0,h.c1,h.c2⟩
theorem IdxAt.drewN {w:World} {g V n q:Nat} {d:Bool} (h:IdxAt w g V n d q) (m:Nat):IdxAt (w.drewN m) g V n d q:=h.below (below_draws (Below.refl _ _) m)
theorem pst_p (g V n q k b j:Nat) (bit:Int) (w:World) (h:IdxAt w g V n true q) (hc:Caps w g k b bit) (hj:j < blk n) :
  Calls Tryz.prog 178 #[.int .i64 (j:Int),.pointer (some ⟨b,0,none⟩),.pointer (some ⟨b+1,0,none⟩),.pointer (some ⟨b+2,0,none⟩)] w fun e w'=>e=.returned (.bool (Pst bit V n k j))∧∃ m,w'=w.drewN m:=by
 have AO:=Lib.hid (fun m=>aheadOf_p g V n q (j+1) bit (w.drewN m) (h.drewN m) (by omega))
 obtain ⟨c0,c1,c2⟩:=hc
 have hn:n≤1000000:=h.2.1
 have hj9:j≤1000000:=by unfold blk at hj;omega
 unfold Pst
 have hcl:=cb_le bit V (min (512*(j+1)) n)
 clear h hj
 have hc9:cb bit V (min (512*(j+1)) n)≤1000000:=by omega
 clear hcl
 generalize cb bit V (min (512*(j+1)) n)=s at *
 go_enter Tryz.func178,Tryz.ntmps178
 go_wp2_with fail
 go_quiet ((go_at_call 179;exact Calls.quiet_of_same ((AO.out _).mono fun e w' ⟨he,hw⟩=>⟨he,hw.symm⟩)))
 go_wp2
 go_ret
 exact ⟨rfl,_,rfl⟩
theorem search_p (g V n q k b:Nat) (bit:Int) (w:World) (h:IdxAt w g V n true q) (hc:Caps w g k b bit) :
  Calls Tryz.prog 177 #[.int .i64 ((blk n:Nat):Int),.func (.func 178) #[] #[.pointer (some ⟨b,0,none⟩),.pointer (some ⟨b+1,0,none⟩),.pointer (some ⟨b+2,0,none⟩)]] w
   fun e w'=>∃ r m:Nat,e=.returned (.int .i64 (r:Int))∧r≤blk n∧(∀ x,x < r→Pst bit V n k x=false)∧(∀ x,r≤x→x < blk n→Pst bit V n k x=true)∧w'=w.drewN m:=by
 have PP:Hid (∀ j m,j < blk n→Calls Tryz.prog 178 #[.int .i64 (j:Int),.pointer (some ⟨b,0,none⟩),.pointer (some ⟨b+1,0,none⟩),.pointer (some ⟨b+2,0,none⟩)] (w.drewN m) fun e w'=>e=.returned (.bool (Pst bit V n k j))∧∃ m',w'=w.drewN m'):=fun j m hj =>
  (pst_p g V n q k b j bit (w.drewN m) (h.drewN m) (hc.drewN m) hj).mono fun e w' ⟨he,m',hw⟩=>⟨he,m+m',by rw [hw];exact World.drewN_drewN _ _ _⟩
 have hn:n≤1000000:=h.2.1
 obtain ⟨s,hs⟩:∃ s,s=blk n:=⟨_,rfl⟩
 have hs9:s≤1000000:=by unfold blk at hs;omega
 rw [← hs] at PP ⊢
 clear h hc hs
 go_enter Tryz.func177,Tryz.ntmps177
 go_wp2_with fail
 go_loopw [5,6] (fun i j wr=>∃ a c m:Nat,a≤c∧c≤s∧i=.int .i64 (a:Int)∧j=.int .i64 (c:Int)∧Hid (∀ x,x < a→Pst bit V n k x=false)∧Hid (∀ x,c≤x→x < s→Pst bit V n k x=true)∧wr=w.drewN m) (fun i j _=>(intOf j).toNat - (intOf i).toNat)
 case atStart=>exact ⟨0,s,0,by omega,by omega,rfl,rfl,fun x hx=>absurd hx (by omega),fun x h1 h2=>absurd h1 (by omega),rfl⟩
 case round =>
  obtain ⟨a,c,m,hac,hcs,rfl,rfl,hlo,hhi,rfl⟩:=hrel
  by_cases hlt:a < c
  ·obtain ⟨t,ht,hat,htc⟩:∃ t:Nat,((a:Int)+(c:Int)) / 2=(t:Int)∧a≤t∧t < c:=⟨(a+c) / 2,by omega,by omega,by omega⟩
   have PT:=Lib.hid (PP.out t m (by omega))
   have MN:Hid (∀ x y,x≤y→Pst bit V n k x=true→Pst bit V n k y=true):=fun x y h1 h2=>pst_mono h1 h2
   cases hpt:Pst bit V n k t with
   | true =>
     rw [hpt] at PT
     have NH:Hid (∀ x,t≤x→x < s→Pst bit V n k x=true):=fun x h1 _=>MN.out t x h1 hpt
     clear hpt
     go_wp2_with fail
     refine PT.out.mono ?_
     rintro e w2 ⟨rfl,m2,rfl⟩
     go_wp2_with fail
     go_roundw
     case rel=>exact ⟨a,t,m2,hat,by omega,rfl,rfl,hlo.out,NH.out,rfl⟩
     case measure=>simp [intOf];omega
   | false =>
     rw [hpt] at PT
     have NL:Hid (∀ x,x < t+1→Pst bit V n k x=false):=fun x hx=>by
      cases hx2:Pst bit V n k x with
      | false=>rfl
      | true=>rw [MN.out x t (by omega) hx2] at hpt;cases hpt
     clear hpt
     go_wp2_with fail
     refine PT.out.mono ?_
     rintro e w2 ⟨rfl,m2,rfl⟩
     go_wp2_with fail
     go_roundw
     case rel=>exact ⟨t+1,c,m2,by omega,hcs,by go_num,rfl,NL.out,hhi.out,rfl⟩
     case measure=>simp [intOf];omega
  ·obtain rfl:a=c:=by omega
   go_wp2_with fail
   go_ret
   exact ⟨a,m,rfl,hcs,hlo.out,hhi.out,rfl⟩
abbrev boxed (w:World) (g:Nat) (k bit:Int):World :=
 ((w.alloc (.cells #[.pointer (some ⟨g,0,none⟩)] 133)).alloc (.cells #[.int .i64 bit] 3)).alloc (.cells #[.int .i64 k] 3)
theorem boxed_caps (w:World) (g:Nat) (k bit:Int):Caps (boxed w g k bit) g k w.heap.size bit:=by
 have b0:=((Blk.new w 133 #[.pointer (some ⟨g,0,none⟩)]).alloc (.cells #[.int .i64 bit] 3)).alloc (.cells #[.int .i64 k] 3)
 have b1:=(Blk.new (w.alloc (.cells #[.pointer (some ⟨g,0,none⟩)] 133)) 3 #[.int .i64 bit]).alloc (.cells #[.int .i64 k] 3)
 have b2:=Blk.new ((w.alloc (.cells #[.pointer (some ⟨g,0,none⟩)] 133)).alloc (.cells #[.int .i64 bit] 3)) 3 #[.int .i64 k]
 exact ⟨b0.cell 0,by simpa using b1.cell 0,by simpa using b2.cell 0⟩
theorem boxed_mod (w:World) (g:Nat) (k bit:Int):Mod (fun i=>i=g) w (boxed w g k bit):=(((Mod.refl _ w).alloc _).alloc _).alloc _
theorem boxed_idx {w:World} {g V n q:Nat} {d:Bool} (h:IdxAt w g V n d q) (k bit:Int):IdxAt (boxed w g k bit) g V n d q :=
 h.below ((((Below.refl w.heap.size w).alloc (Nat.le_refl _) _).alloc (by simp) _).alloc (by simp;omega) _)
theorem boxed_size (w:World) (g:Nat) (k bit:Int):(boxed w g k bit).heap.size=w.heap.size+3:=by simp
theorem Caps.mod {w w':World} {g b:Nat} {k bit:Int} (h:Caps w g k b bit) (m:Mod (fun i=>i=g) w w') (hg:g < b) (hb:b+3≤w.heap.size):Caps w' g k b bit :=
 ⟨(m.cell (b:=b) (by omega) (by omega) 0).trans h.c0,(m.cell (b:=b+1) (by omega) (by omega) 0).trans h.c1,(m.cell (b:=b+2) (by omega) (by omega) 0).trans h.c2⟩
theorem cb_stay {bit:Int} {V p:Nat} (h:¬ IsB bit V p):cb bit V (p+1)=cb bit V p:=by
 unfold IsB at h
 have h3:=pop_le V p
 unfold cb
 by_cases hb:bit=0
 ·have h2:pop V (p+1)=pop V p+1:=pop_bit1 (by simpa [hb] using h)
  simp only [if_pos hb]
  omega
 ·simp only [if_neg hb]
  rw [pop_next]
  rw [Nat.testBit_eq_decide_div_mod_eq] at h
  simp [hb] at h
  omega
theorem cb_zero (bit:Int) (V:Nat):cb bit V 0=0:=by have:=cb_le bit V 0;omega
theorem cb_find (bit:Int) (V k:Nat):∀ n,k < cb bit V n→∃ p,p < n∧IsB bit V p∧cb bit V p=k:=by
 intro n
 induction n with
 | zero=>intro h;rw [cb_zero] at h;omega
 | succ n ih =>
   intro h
   by_cases h1:k < cb bit V n
   ·obtain ⟨p,h2,h3⟩:=ih h1
    exact ⟨p,by omega,h3⟩
   ·by_cases hI:IsB bit V n
    ·rw [cb_next hI] at h
     exact ⟨n,by omega,hI,by omega⟩
    ·rw [cb_stay hI] at h
     omega
theorem found_blk {bit:Int} {V n k r:Nat} (hk:k < cb bit V n) (hr:r≤blk n) (hlo:∀ x,x < r→Pst bit V n k x=false):r < blk n∧min (512*r) n=512*r∧cb bit V (512*r)≤k:=by
 have hn:0 < n:=by
  rcases Nat.eq_zero_or_pos n with h0 | h0
  ·subst h0
   rw [cb_zero] at hk;omega
  ·exact h0
 have hb:0 < blk n:=by unfold blk;omega
 have h1:r < blk n:=by
  rcases Nat.lt_or_ge r (blk n) with h1 | h1
  ·exact h1
  ·have:=hlo (blk n - 1) (by omega)
   unfold Pst at this
   rw [show min (512*(blk n - 1+1)) n=n by unfold blk;omega,decide_eq_true hk] at this
   cases this
 have h2:min (512*r) n=512*r:=by unfold blk at h1;omega
 refine ⟨h1,h2,?_⟩
 rcases Nat.eq_zero_or_pos r with h0 | h0
 ·subst h0
  rw [Nat.mul_zero,cb_zero];omega
 ·have:=hlo (r - 1) (by omega)
  unfold Pst at this
  rw [show r - 1+1=r by omega,h2] at this
  exact Nat.le_of_not_lt (of_decide_eq_false this)
theorem Tab.mod {w w':World} {S:Nat→Prop} (h:Tab w) (m:Mod S w w') (hs:¬ S 2) (hl:2 < w.heap.size):Tab w' :=
 ⟨fun j hj=>(m.cell (b:=2) hl hs j).trans (h.at_ j hj)⟩
theorem Tab.drewN {w:World} (h:Tab w) (m:Nat):Tab (w.drewN m):=⟨h.at_⟩
theorem sel_yes (g V n q k:Nat) (d:Bool) (bit:Int) (w:World) (h:IdxAt w g V n d q) (hT:Tab w) (hq:q≤1000000) (hb:bit=0∨bit=1) (hk:k < cb bit V n) (hg:2 < g) :
  Calls Tryz.prog 165 #[.pointer (some ⟨g,0,none⟩),.int .i64 bit,.int .i64 (k:Int)] w fun e w'=>∃ p:Nat,e=.returned (.tuple #[.int .i64 (p:Int),.int .i64 0])∧p < n∧IsB bit V p∧cb bit V p=k∧IdxAt w' g V n true (q+1)∧Mod (fun i=>i=g) w w':=by
 have AK:=Lib.hid (ask_p g V n q d _ (boxed_idx h k bit) hq)
 have M0:=Lib.hid (boxed_mod w g k bit)
 have C0:=Lib.hid (boxed_caps w g k bit)
 have Z0:=Lib.hid (boxed_size w g k bit)
 have GL:=Lib.hid h.lt
 obtain ⟨c0,c1,c2⟩:=boxed_caps w g k bit
 have IB:=Lib.hid (fun w'=>isBit_p bit w')
 rw [decide_eq_true hb] at IB
 have CQ:=Lib.hid (fun w' h'=>count_q g V n (q+1) d bit w' h')
 have BP:=Lib.hid (fun w' h'=>build_p g V n (q+1) d w' h')
 have XB:=Lib.hid (fun w' h'=>xblocks_p g V n (q+1) true w' h')
 have SP:=Lib.hid (fun w' h' hc=>search_p g V n (q+1) k w.heap.size bit w' h' hc)
 have hmf:∀ (fn:Fn) (first cap:Array Value) (w:World),(Instr.makeFunc fn first cap).run Tryz.prog w=.ok (.func fn first cap) w:=fun _ _ _ _=>rfl
 have hn:=h.2.1
 have hcl:=cb_le bit V n
 have HT:=Lib.hid hT
 have HB:=Lib.hid hb
 have HK:=Lib.hid hk
 clear h hT
 have hk9:k≤1000000:=by omega
 obtain ⟨s,hs⟩:∃ s,s=cb bit V n:=⟨_,rfl⟩
 rw [← hs] at CQ
 have hks:k < s:=by omega
 have hs9:s≤1000000:=by omega
 clear hcl hs hk hb
 go_enter Tryz.func165,Tryz.ntmps165
 go_wp2_with fail
 refine AK.out.mono ?_
 rintro e w1 ⟨rfl,h1,m1⟩
 obtain ⟨c0',c1',c2'⟩:=C0.out.mod m1 GL.out (by have:=Z0.out;omega)
 have H1:=Lib.hid (And.intro h1 (M0.out.trans m1 fun _ _ h=>h))
 have C1:=Lib.hid (C0.out.mod m1 GL.out (by have:=Z0.out;omega))
 have Z1:Hid (w.heap.size+3≤w1.heap.size):=by show _≤_;have:=Z0.out;have:=m1.size;omega
 clear h1 m1 c0 c1 c2
 go_wp2_with fail
 go_quiet ((first
  | (go_at_call 161;exact Calls.quiet_of_same ((IB.out _).mono fun e w' ⟨he,hw⟩=>⟨he,hw.symm⟩))
  | (go_at_call 176;exact Calls.quiet_of (CQ.out _ (H1.out.1.drewN _)))))
 go_wp2_with fail
 refine (BP.out _ (H1.out.1.drewN _)).mono ?_
 rintro e w2 ⟨rfl,h2,m2⟩
 have hgs:g < w.heap.size:=GL.out
 have hz1:w.heap.size+3≤w1.heap.size:=Z1.out
 have CC:=C1.out.drewN nq |>.mod m2 (by omega) (by show _≤w1.heap.size;omega)
 have C2:=Lib.hid CC
 obtain ⟨c0,c1,c2⟩:=CC
 have H2:=Lib.hid h2
 have M2:Hid (Mod (fun i=>i=g) w w2):=(H1.out.2.drewN nq).trans m2 fun _ _ h=>h
 clear h2 m2 c0' c1' c2' hgs hz1
 go_wp2_with fail
 refine (XB.out _ H2.out).mono ?_
 rintro e w' ⟨rfl,rfl⟩
 go_wp2_with fail
 refine (SP.out _ H2.out C2.out).mono ?_
 rintro e w' ⟨r,m,rfl,hr,hlo,hhi,rfl⟩
 have d0:(w2.drewN m).cell? ⟨w.heap.size,0,none⟩=some (.pointer (some ⟨g,0,none⟩)):=c0
 have d1:(w2.drewN m).cell? ⟨w.heap.size+1,0,none⟩=some (.int .i64 bit):=c1
 have d2:(w2.drewN m).cell? ⟨w.heap.size+2,0,none⟩=some (.int .i64 (k:Int)):=c2
 have H3:=Lib.hid (And.intro (H2.out.drewN m) (And.intro (M2.out.drewN m) (show Tab (w2.drewN m) from (HT.out.mod M2.out (by omega) (by have:=GL.out;omega)).drewN m)))
 clear c0 c1 c2
 generalize w2.drewN m=w3 at *
 obtain ⟨hrb,hmin,hcr⟩:=found_blk HK.out hr hlo
 have AO:=Lib.hid (fun x=>aheadOf_p g V n (q+1) r bit (w3.drewN x) (H3.out.1.drewN x) hr)
 rw [hmin] at AO
 obtain ⟨p,hpn,hpI,hpk⟩:=cb_find bit V k n HK.out
 have hr9:r≤1000000:=by unfold blk at hrb;omega
 obtain ⟨z,hz⟩:∃ z,z=cb bit V (512*r):=⟨_,rfl⟩
 rw [← hz] at AO hcr
 have PL:=Lib.hid (fun x=>place_p g V n (q+1) (r*8) (k - z) k p true bit (w3.drewN x) (H3.out.1.drewN x) (H3.out.2.2.drewN x) HB.out (by rw [show 64*(r*8)=512*r by omega,← hz];omega) HK.out hpI hpk)
 have FIN:=Lib.hid (And.intro hpn (And.intro hpI hpk))
 have e1:((r*8:Nat):Int)=(r:Int)*8:=by omega
 have e2:((k - z:Nat):Int)=(k:Int) - (z:Int):=by omega
 rw [e1,e2] at PL
 have hz9:z≤1000000:=by omega
 clear hlo hhi hpn hpI hpk hz e1 e2 hmin hr
 go_wp2_with fail
 go_quiet ((first
  | (go_at_call 179;exact Calls.quiet_of_same ((AO.out _).mono fun e w' ⟨he,hw⟩=>⟨he,hw.symm⟩))
  | (go_at_call 180;exact Calls.quiet_of_same ((PL.out _).mono fun e w' ⟨he,hw⟩=>⟨he,hw.symm⟩))))
 go_wp2
 go_ret2
 exact ⟨p,rfl,FIN.out.1,FIN.out.2.1,FIN.out.2.2,H3.out.1.drewN _,H3.out.2.1.drewN _⟩
end Go.Proofs.YtijbdnhlpbcabaaGreatDoor
