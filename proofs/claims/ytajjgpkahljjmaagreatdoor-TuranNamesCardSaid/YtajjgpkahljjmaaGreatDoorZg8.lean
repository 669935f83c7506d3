/- place: where the bit stands that has so many ahead of it. -/
import Derived.Test.YtajjgpkahljjmaaGreatDoorZg7
import Derived.Lib.Hide
open Go.RowKit
set_option linter.unusedVariables false
namespace Go.Proofs.YtajjgpkahljjmaaGreatDoor
def wdb (bit:Int) (V a:Nat):Nat:=if bit=0 then 2 ^ 64 - (wd V a+1) else wd V a
def IsB (bit:Int) (V p:Nat):Prop:=V.testBit p=decide (bit≠0)
theorem wdb_lt (bit:Int) (V a:Nat):wdb bit V a < 2 ^ 64:=by
 unfold wdb
 split
 ·exact Nat.sub_lt (Nat.two_pow_pos _) (Nat.succ_pos _)
 ·exact wd_lt V a
theorem wdb_bit (bit:Int) (V a r:Nat) (hr:r < 64):(wdb bit V a).testBit r=true↔IsB bit V (64*a+r):=by
 unfold wdb IsB
 by_cases h:bit=0
 ·rw [if_pos h,Nat.testBit_two_pow_sub_succ (wd_lt V a),wd_bit]
  simp [hr,h]
 ·rw [if_neg h,wd_bit]
  simp [hr,h]
theorem pop_compl {x:Nat} (hx:x < 2 ^ 64):∀ r,r≤64→pop (2 ^ 64 - (x+1)) r+pop x r=r:=by
 intro r
 induction r with
 | zero=>intro _;rfl
 | succ r ih =>
   intro hr
   have ih:=ih (by omega)
   rw [pop_next,pop_next]
   have h1:=Nat.testBit_two_pow_sub_succ hx r
   rw [Nat.testBit_eq_decide_div_mod_eq,Nat.testBit_eq_decide_div_mod_eq] at h1
   have h2:(2 ^ 64 - (x+1)) / 2 ^ r%2 < 2:=Nat.mod_lt _ (by decide)
   have h3:x / 2 ^ r%2 < 2:=Nat.mod_lt _ (by decide)
   rw [decide_eq_true (show r < 64 by omega),Bool.true_and] at h1
   generalize (2 ^ 64 - (x+1)) / 2 ^ r%2=u at *
   generalize x / 2 ^ r%2=v at *
   by_cases hv:v=1
   ·rw [decide_eq_true hv] at h1
    have:¬ u=1:=fun e=>by rw [decide_eq_true e] at h1;cases h1
    omega
   ·rw [decide_eq_false hv] at h1
    have:u=1:=of_decide_eq_true h1
    omega
theorem cb_part (bit:Int) (V a r:Nat) (hr:r≤64):cb bit V (64*a+r)=cb bit V (64*a)+pop (wdb bit V a) r:=by
 have h1:=pop_part V a r hr
 have h2:=pop_le V (64*a)
 unfold cb wdb
 by_cases h:bit=0
 ·simp only [if_pos h]
  have h3:=pop_compl (wd_lt V a) r hr
  have h4:=pop_le (wd V a) r
  omega
 ·simp only [if_neg h]
  exact h1
theorem cb_mono (bit:Int) (V:Nat) {a b:Nat} (h:a≤b):cb bit V a≤cb bit V b:=by
 obtain ⟨d,rfl⟩:∃ d,b=a+d:=⟨b - a,by omega⟩
 unfold cb
 have h1:=pop_add V a d
 have h2:=pop_le (V / 2 ^ a) d
 have h3:=pop_le V a
 split <;> omega
theorem cb_next {bit:Int} {V p:Nat} (h:IsB bit V p):cb bit V (p+1)=cb bit V p+1:=by
 unfold IsB at h
 have h3:=pop_le V p
 unfold cb
 by_cases hb:bit=0
 ·have h2:pop V (p+1)=pop V p:=by
   rw [pop_next]
   rw [Nat.testBit_eq_decide_div_mod_eq] at h
   simp [hb] at h
   omega
  simp only [if_pos hb]
  omega
 ·simp only [if_neg hb]
  exact pop_bit1 (by rw [h];simp [hb])
theorem cb_unique {bit:Int} {V p r:Nat} (hp:IsB bit V p) (hr:IsB bit V r) (he:cb bit V p=cb bit V r):p=r:=by
 rcases Nat.lt_trichotomy p r with h | h | h
 ·have h1:=cb_mono bit V (show p+1≤r by omega)
  rw [cb_next hp] at h1;omega
 ·exact h
 ·have h1:=cb_mono bit V (show r+1≤p by omega)
  rw [cb_next hr] at h1;omega
theorem xor_ones (b:Nat) (hb:b < 2 ^ 64):(2 ^ 64 - 1) ^^^ b=2 ^ 64 - (b+1):=by
 apply Nat.eq_of_testBit_eq
 intro i
 rw [Nat.testBit_xor,Nat.testBit_two_pow_sub_one,Nat.testBit_two_pow_sub_succ hb]
 by_cases hi:i < 64
 ·simp [hi]
 ·have:b.testBit i=false:=Nat.testBit_lt_two_pow (Nat.lt_of_lt_of_le hb (Nat.pow_le_pow_right (by decide) (by omega)))
  simp [hi,this]
theorem not_u64 (x:Nat) (hx:x < 2 ^ 64):bits .xor .u64 IntKind.u64.max (x:Int)=((2 ^ 64 - (x+1):Nat):Int):=by
 have e2:IntKind.u64.max=((2 ^ 64 - 1:Nat):Int):=by decide
 rw [e2,bits_xor_u64_nat _ _ (by decide) (by omega),xor_ones x hx]
set_option maxHeartbeats 2000000 in
theorem place_p (g V n q a0 k0 K p:Nat) (d:Bool) (bit:Int) (w:World) (h:IdxAt w g V n d q) (hT:Tab w) (hb:bit=0∨bit=1) (hK:cb bit V (64*a0)+k0=K) (hKn:K < cb bit V n) (hp:IsB bit V p) (hcp:cb bit V p=K) :
  Calls Tryz.prog 180 #[.pointer (some ⟨g,0,none⟩),.int .i64 bit,.int .i64 (a0:Int),.int .i64 (k0:Int)] w fun e w'=>e=.returned (.int .i64 (p:Int))∧w=w':=by
 have hn:=h.2.1
 have hn0:0 < n:=by
  rcases Nat.eq_zero_or_pos n with h0 | h0
  ·subst h0
   have:=cb_le bit V 0;omega
  ·exact h0
 obtain ⟨b,c,c0,hmc,hcm,kw⟩:=h.word hn0
 obtain ⟨m,hm⟩:∃ m,m=(n+63) / 64:=⟨_,rfl⟩
 rw [← hm] at c0 hmc kw
 have hm9:m≤20000:=by omega
 have am:Hid (∀ a,cb bit V (64*a)≤K→a < m):=fun a ha=>by
  rcases Nat.lt_or_ge a m with h1 | h1
  ·exact h1
  ·have:=cb_mono bit V (show n≤64*a by omega)
   omega
 have hK9:K≤1000000:=by have:=cb_le bit V n;omega
 have KW:=Lib.hid kw
 have HT:=Lib.hid hT
 have HK:=Lib.hid hK
 have HP:=Lib.hid (And.intro hp hcp)
 clear kw hT hK hp hcp h hm
 unfold maxLen at hcm
 go_enter Tryz.func180,Tryz.ntmps180
 go_wp2_with fail
 go_loop [2,3] (fun x y=>∃ a k:Nat,a≤m∧x=.int .i64 (a:Int)∧y=.int .i64 (k:Int)∧Hid (cb bit V (64*a)+k=K)) (fun x _=>m - (intOf x).toNat)
 case atStart=>exact ⟨a0,k0,by have:=am.out a0 (by have:=HK.out;omega);omega,rfl,rfl,HK.out⟩
 case round =>
  obtain ⟨a,k,ha,rfl,rfl,hk⟩:=hrel
  have ham:=am.out a (by have:=hk.out;omega)
  have hk9:k≤1000000:=by have:=hk.out;omega
  have t1:=KW.out a ham
  have hx64:=wd_lt V a
  have CP:=Lib.hid (fun r hr=>cb_part bit V a r hr)
  have WB:=Lib.hid (fun r hr=>wdb_bit bit V a r hr)
  obtain ⟨y,hy⟩:∃ y,y=wdb bit V a:=⟨_,rfl⟩
  have hy64:y < 2 ^ 64:=by rw [hy];exact wdb_lt bit V a
  rw [← hy] at CP WB
  have OC:=Lib.hid (fun w'=>onesCount_p y w' hy64)
  have hpl:=pop_le y 64
  have WI:Hid (∀ w',Tab w'→k < pop y 64→Calls Tryz.prog 188 #[.int .u64 (y:Int),.int .i64 (k:Int)] w' fun e w''=>∃ p:Nat,e=.returned (.int .i64 (p:Int))∧p < 64∧y.testBit p=true∧pop y p=k∧w'=w''):=fun w' hw' hlt=>within_p y k hy64 hlt w' hw'
  have C64:=CP.out 64 (Nat.le_refl _)
  have hnot:=not_u64 (wd V a) hx64
  have HY:Hid (y=wdb bit V a):=hy
  have DEC:Hid (∀ r,r < 64→y.testBit r=true→pop y r=k→64*a+r=p):=fun r hr ht he=>by
   have h1:=CP.out r (by omega)
   have h2:=(WB.out r hr).1 ht
   exact cb_unique h2 HP.out.1 (by have:=HP.out.2;have:=hk.out;omega)
  unfold wdb at hy
  have HC:=Lib.hid C64
  clear C64
  rcases hb with rfl | rfl
  ·rw [if_pos rfl] at hy
   rw [← hy] at hnot
   clear hy hx64 hy64
   generalize wd V a=x at *
   generalize pop y 64=o at *
   go_wp2_with fail
   refine (OC.out _).mono ?_
   rintro e w' ⟨rfl,rfl⟩
   by_cases hlt:k < o
   ·go_wp2_with fail
    refine (WI.out _ HT.out hlt).mono ?_
    rintro e w' ⟨r,rfl,hr,htr,hpr,rfl⟩
    have hfin:=DEC.out r hr htr hpr
    clear htr hpr
    go_wp2_with fail
    go_ret
    subst hfin
    exact ⟨by go_num,rfl⟩
   ·have hnx:Hid (cb 0 V (64*(a+1))+(k - o)=K):=by
     show _=_
     have h1:=HC.out
     have h2:=hk.out
     rw [show 64*(a+1)=64*a+64 by omega,h1];omega
    go_wp2_with fail
    go_round
    case rel=>exact ⟨a+1,k - o,by omega,by go_num,by go_num,hnx.out⟩
    case measure=>simp [intOf];omega
  ·rw [if_neg (by decide)] at hy
   rw [← hy] at t1
   clear hy hx64 hy64 hnot
   generalize pop y 64=o at *
   go_wp2_with fail
   refine (OC.out _).mono ?_
   rintro e w' ⟨rfl,rfl⟩
   by_cases hlt:k < o
   ·go_wp2_with fail
    refine (WI.out _ HT.out hlt).mono ?_
    rintro e w' ⟨r,rfl,hr,htr,hpr,rfl⟩
    have hfin:=DEC.out r hr htr hpr
    clear htr hpr
    go_wp2_with fail
    go_ret
    subst hfin
    exact ⟨by go_num,rfl⟩
   ·have hnx:Hid (cb 1 V (64*(a+1))+(k - o)=K):=by
     show _=_
     have h1:=HC.out
     have h2:=hk.out
     rw [show 64*(a+1)=64*a+64 by omega,h1];omega
    go_wp2_with fail
    go_round
    case rel=>exact ⟨a+1,k - o,by omega,by go_num,by go_num,hnx.out⟩
    case measure=>simp [intOf];omega
def Pst (bit:Int) (V n k j:Nat):Bool:=decide (k < cb bit V (min (512*(j+1)) n))
theorem pst_mono {bit:Int} {V n k i j:Nat} (h:i≤j) (hi:Pst bit V n k i=true):Pst bit V n k j=true:=by
 unfold Pst at *
 rw [decide_eq_true_eq] at *
 have:=cb_mono bit V (show min (512*(i+1)) n≤min (512*(j+1)) n by omega)
 omega
structure Caps (w:World) (g:Nat) (k:Int) (b:Nat) (bit:Int):Prop where
 c0:w.cell? ⟨b,0,none⟩=some (.pointer (some ⟨g,0,none⟩))
 c1:w.cell? ⟨b+1,0,none⟩=some (.int .i64 bit)
 c2:w.cell? ⟨b+2,0,none⟩=some (.int .i64 k)
theorem Caps.drewN {w:World} {g b:Nat} {k bit:Int} (h:Caps w g k b bit) (n:Nat):Caps (w.drewN n) g k b bit:=⟨h.c0,h.c1,h.c2⟩
theorem IdxAt.drewN {w:World} {g V n q:Nat} {d:Bool} (h:IdxAt w g V n d q) (m:Nat):IdxAt (w.drewN m) g V n d q:=h.below (below_draws (Below.refl _ _) m)
theorem pst_p (g V n q k b j:Nat) (bit:Int) (w:World) (h:IdxAt w g V n true q) (hc:Caps w g k b bit) (hj:j < blk n) :
  Calls Tryz.prog 178 #[.int .i64 (j:Int),.pointer (some ⟨b,0,none⟩),.pointer (some ⟨b+1,0,none⟩),.pointer (some ⟨b+2,0,none⟩)] w fun e w'=>e=.returned (.bool (Pst bit V n k j))∧∃ m,w'=w.drewN m:=by
 have AO:=Lib.hid (fun m=>aheadOf_p g V n q (j+1) bit (w.drewN m) (h.drewN m) (by omega))
 obtain ⟨c0,c1,c2⟩:=hc
 have hn:n≤1000000:=h.2.1
 have hj9:j≤1000000:=by unfold blk at hj;omega
 unfold Pst
 have hcl:=cb_le bit V (min (512*(j+1)) n)
 clear h hj
 have hc9:cb bit V (min (512*(j+1)) n)≤1000000:=by omega
 clear hcl
 generalize cb bit V (min (512*(j+1)) n)=s at *
 go_enter Tryz.func178,Tryz.ntmps178
 go_wp2_with fail
 go_quiet ((go_at_call 179;exact Calls.quiet_of_same ((AO.out _).mono fun e w' ⟨he,hw⟩=>⟨he,hw.symm⟩)))
 go_wp2
 go_ret
 exact ⟨rfl,_,rfl⟩
theorem search_p (g V n q k b:Nat) (bit:Int) (w:World) (h:IdxAt w g V n true q) (hc:Caps w g k b bit) :
  Calls Tryz.prog 177 #[.int .i64 ((blk n:Nat):Int),.func (.func 178) #[] #[.pointer (some ⟨b,0,none⟩),.pointer (some ⟨b+1,0,none⟩),.pointer (some ⟨b+2,0,none⟩)]] w
   fun e w'=>∃ r m:Nat,e=.returned (.int .i64 (r:Int))∧r≤blk n∧(∀ x,x < r→Pst bit V n k x=false)∧(∀ x,r≤x→x < blk n→Pst bit V n k x=true)∧w'=w.drewN m:=by
 have PP:Hid (∀ j m,j < blk n→Calls Tryz.prog 178 #[.int .i64 (j:Int),.pointer (some ⟨b,0,none⟩),.pointer (some ⟨b+1,0,none⟩),.pointer (some ⟨b+2,0,none⟩)] (w.drewN m) fun e w'=>e=.returned (.bool (Pst bit V n k j))∧∃ m',w'=w.drewN m'):=fun j m hj =>
  (pst_p g V n q k b j bit (w.drewN m) (h.drewN m) (hc.drewN m) hj).mono fun e w' ⟨he,m',hw⟩=>⟨he,m+m',by rw [hw];exact World.drewN_drewN _ _ _⟩
 have hn:n≤1000000:=h.2.1
 obtain ⟨s,hs⟩:∃ s,s=blk n:=⟨_,rfl⟩
 have hs9:s≤1000000:=by unfold blk at hs;omega
 rw [← hs] at PP ⊢
 clear h hc hs
 go_enter Tryz.func177,Tryz.ntmps177
 go_wp2_with fail
 go_loopw [5,6] (fun i j wr=>∃ a c m:Nat,a≤c∧c≤s∧i=.int .i64 (a:Int)∧j=.int .i64 (c:Int)∧Hid (∀ x,x < a→Pst bit V n k x=false)∧Hid (∀ x,c≤x→x < s→Pst bit V n k x=true)∧wr=w.drewN m) (fun i j _=>(intOf j).toNat - (intOf i).toNat)
 case atStart=>exact ⟨0,s,0,by omega,by omega,rfl,rfl,fun x hx=>absurd hx (by omega),fun x h1 h2=>absurd h1 (by omega),rfl⟩
 case round =>
  obtain ⟨a,c,m,hac,hcs,rfl,rfl,hlo,hhi,rfl⟩:=hrel
  by_cases hlt:a < c
  ·obtain ⟨t,ht,hat,htc⟩:∃ t:Nat,((a:Int)+(c:Int)) / 2=(t:Int)∧a≤t∧t < c:=⟨(a+c) / 2,by omega,by omega,by omega⟩
   have PT:=Lib.hid (PP.out t m (by omega))
   have MN:Hid (∀ x y,x≤y→Pst bit V n k x=true→Pst bit V n k y=true):=fun x y h1 h2=>pst_mono h1 h2
   cases hpt:Pst bit V n k t with
   | true =>
     rw [hpt] at PT
     have NH:Hid (∀ x,t≤x→x < s→Pst bit V n k x=true):=fun x h1 _=>MN.out t x h1 hpt
     clear hpt
     go_wp2_with fail
     refine PT.out.mono ?_
     rintro e w2 ⟨rfl,m2,rfl⟩
     go_wp2_with fail
     go_roundw
     case rel=>exact ⟨a,t,m2,hat,by omega,rfl,rfl,hlo.out,NH.out,rfl⟩
     case measure=>simp [intOf];omega
   | false =>
     rw [hpt] at PT
     have NL:Hid (∀ x,x < t+1→Pst bit V n k x=false):=fun x hx=>by
      cases hx2:Pst bit V n k x with
      | false=>rfl
      | true=>rw [MN.out x t (by omega) hx2] at hpt;cases hpt
     clear hpt
     go_wp2_with fail
     refine PT.out.mono ?_
     rintro e w2 ⟨rfl,m2,rfl⟩
     go_wp2_with fail
     go_roundw
     case rel=>exact ⟨t+1,c,m2,by omega,hcs,by go_num,rfl,NL.out,hhi.out,rfl⟩
     case measure=>simp [intOf];omega
  ·obtain rfl:a=c:=by omega
   go_wp2_with fail
   go_ret
   exact ⟨a,m,rfl,hcs,hlo.out,hhi.out,rfl⟩
abbrev boxed (w:World) (g:Nat) (k bit:Int):World :=
 ((w.alloc (.cells #[.pointer (some ⟨g,0,none⟩)] 133)).alloc (.cells #[.int .i64 bit] 3)).alloc (.cells #[.int .i64 k] 3)
theorem boxed_caps (w:World) (g:Nat) (k bit:Int):Caps (boxed w g k bit) g k w.heap.size bit:=by
 have b0:=((Blk.new w 133 #[.pointer (some ⟨g,0,none⟩)]).alloc (.cells #[.int .i64 bit] 3)).alloc (.cells #[.int .i64 k] 3)
 have b1:=(Blk.new (w.alloc (.cells #[.pointer (some ⟨g,0,none⟩)] 133)) 3 #[.int .i64 bit]).alloc (.cells #[.int .i64 k] 3)
 have b2:=Blk.new ((w.alloc (.cells #[.pointer (some ⟨g,0,none⟩)] 133)).alloc (.cells #[.int .i64 bit] 3)) 3 #[.int .i64 k]
 exact ⟨b0.cell 0,by simpa using b1.cell 0,by simpa using b2.cell 0⟩
theorem boxed_mod (w:World) (g:Nat) (k bit:Int):Mod (fun i=>i=g) w (boxed w g k bit):=(((Mod.refl _ w).alloc _).alloc _).alloc _
theorem boxed_idx {w:World} {g V n q:Nat} {d:Bool} (h:IdxAt w g V n d q) (k bit:Int):IdxAt (boxed w g k bit) g V n d q :=
 h.below ((((Below.refl w.heap.size w).alloc (Nat.le_refl _) _).alloc (by simp) _).alloc (by simp;omega) _)
theorem boxed_size (w:World) (g:Nat) (k bit:Int):(boxed w g k bit).heap.size=w.heap.size+3:=by simp
theorem Caps.mod {w w':World} {g b:Nat} {k bit:Int} (h:Caps w g k b bit) (m:Mod (fun i=>i=g) w w') (hg:g < b) (hb:b+3≤w.heap.size):Caps w' g k b bit :=
 ⟨(m.cell (b:=b) (by omega) (by omega) 0).trans h.c0,(m.cell (b:=b+1) (by omega) (by omega) 0).trans h.c1,(m.cell (b:=b+2) (by omega) (by omega) 0).trans h.c2⟩
theorem cb_stay {bit:Int} {V p:Nat} (h:¬ IsB bit V p):cb bit V (p+1)=cb bit V p:=by
 unfold IsB at h
 have h3:=pop_le V p
 unfold cb
 by_cases hb:bit=0
 ·have h2:pop V (p+1)=pop V p+1:=pop_bit1 (by simpa [hb] using h)
  simp only [if_pos hb]
  omega
 ·simp only [if_neg hb]
  rw [pop_next]
  rw [Nat.testBit_eq_decide_div_mod_eq] at h
  simp [hb] at h
  omega
theorem cb_zero (bit:Int) (V:Nat):cb bit V 0=0:=by have:=cb_le bit V 0;omega
theorem cb_find (bit:Int) (V k:Nat):∀ n,k < cb bit V n→∃ p,p < n∧IsB bit V p∧cb bit V p=k:=by
 intro n
 induction n with
 | zero=>intro h;rw [cb_zero] at h;omega
 | succ n ih =>
   intro h
   by_cases h1:k < cb bit V n
   ·obtain ⟨p,h2,h3⟩:=ih h1
    exact ⟨p,by omega,h3⟩
   ·by_cases hI:IsB bit V n
    ·rw [cb_next hI] at h
     exact ⟨n,by omega,hI,by omega⟩
    ·rw [cb_stay hI] at h
     omega
theorem found_blk {bit:Int} {V n k r:Nat} (hk:k < cb bit V n) (hr:r≤blk n) (hlo:∀ x,x < r→Pst bit V n k x=false):r < blk n∧min (512*r) n=512*r∧cb bit V (512*r)≤k:=by
 have hn:0 < n:=by
  rcases Nat.eq_zero_or_pos n with h0 | h0
  ·subst h0
   rw [cb_zero] at hk;omega
  ·exact h0
 have hb:0 < blk n:=by unfold blk;omega
 have h1:r < blk n:=by
  rcases Nat.lt_or_ge r (blk n) with h1 | h1
  ·exact h1
  ·have:=hlo (blk n - 1) (by omega)
   unfold Pst at this
   rw [show min (512*(blk n - 1+1)) n=n by unfold blk;omega,decide_eq_true hk] at this
   cases this
 have h2:min (512*r) n=512*r:=by unfold blk at h1;omega
 refine ⟨h1,h2,?_⟩
 rcases Nat.eq_zero_or_pos r with h0 | h0
 ·subst h0
  rw [Nat.mul_zero,cb_zero];omega
 ·have:=hlo (r - 1) (by omega)
  unfold Pst at this
  rw [show r - 1+1=r by omega,h2] at this
  exact Nat.le_of_not_lt (of_decide_eq_false this)
theorem Tab.mod {w w':World} {S:Nat→Prop} (h:Tab w) (m:Mod S w w') (hs:¬ S 2) (hl:2 < w.heap.size):Tab w' :=
 ⟨fun j hj=>(m.cell (b:=2) hl hs j).trans (h.at_ j hj)⟩
theorem Tab.drewN {w:World} (h:Tab w) (m:Nat):Tab (w.drewN m):=⟨h.at_⟩
theorem sel_yes (g V n q k:Nat) (d:Bool) (bit:Int) (w:World) (h:IdxAt w g V n d q) (hT:Tab w) (hq:q≤1000000) (hb:bit=0∨bit=1) (hk:k < cb bit V n) (hg:2 < g) :
  Calls Tryz.prog 165 #[.pointer (some ⟨g,0,none⟩),.int .i64 bit,.int .i64 (k:Int)] w fun e w'=>∃ p:Nat,e=.returned (.tuple #[.int .i64 (p:Int),.int .i64 0])∧p < n∧IsB bit V p∧cb bit V p=k∧IdxAt w' g V n true (q+1)∧Mod (fun i=>i=g) w w':=by
 have AK:=Lib.hid (ask_p g V n q d _ (boxed_idx h k bit) hq)
 have M0:=Lib.hid (boxed_mod w g k bit)
 have C0:=Lib.hid (boxed_caps w g k bit)
 have Z0:=Lib.hid (boxed_size w g k bit)
 have GL:=Lib.hid h.lt
 obtain ⟨c0,c1,c2⟩:=boxed_caps w g k bit
 have IB:=Lib.hid (fun w'=>isBit_p bit w')
 rw [decide_eq_true hb] at IB
 have CQ:=Lib.hid (fun w' h'=>count_q g V n (q+1) d bit w' h')
 have BP:=Lib.hid (fun w' h'=>build_p g V n (q+1) d w' h')
 have XB:=Lib.hid (fun w' h'=>xblocks_p g V n (q+1) true w' h')
 have SP:=Lib.hid (fun w' h' hc=>search_p g V n (q+1) k w.heap.size bit w' h' hc)
 have hmf:∀ (fn:Fn) (first cap:Array Value) (w:World),(Instr.makeFunc fn first cap).run Tryz.prog w=.ok (.func fn first cap) w:=fun _ _ _ _=>rfl
 have hn:=h.2.1
 have hcl:=cb_le bit V n
 have HT:=Lib.hid hT
 have HB:=Lib.hid hb
 have HK:=Lib.hid hk
 clear h hT
 have hk9:k≤1000000:=by omega
 obtain ⟨s,hs⟩:∃ s,s=cb bit V n:=⟨_,rfl⟩
 rw [← hs] at CQ
 have hks:k < s:=by omega
 have hs9:s≤1000000:=by omega
 clear hcl hs hk hb
 go_enter Tryz.func165,Tryz.ntmps165
 go_wp2_with fail
 refine AK.out.mono ?_
 rintro e w1 ⟨rfl,h1,m1⟩
 obtain ⟨c0',c1',c2'⟩:=C0.out.mod m1 GL.out (by have:=Z0.out;omega)
 have H1:=Lib.hid (And.intro h1 (M0.out.trans m1 fun _ _ h=>h))
 have C1:=Lib.hid (C0.out.mod m1 GL.out (by have:=Z0.out;omega))
 have Z1:Hid (w.heap.size+3≤w1.heap.size):=by show _≤_;have:=Z0.out;have:=m1.size;omega
 clear h1 m1 c0 c1 c2
 go_wp2_with fail
 go_quiet ((first
  | (go_at_call 161;exact Calls.quiet_of_same ((IB.out _).mono fun e w' ⟨he,hw⟩=>⟨he,hw.symm⟩))
  | (go_at_call 176;exact Calls.quiet_of (CQ.out _ (H1.out.1.drewN _)))))
 go_wp2_with fail
 refine (BP.out _ (H1.out.1.drewN _)).mono ?_
 rintro e w2 ⟨rfl,h2,m2⟩
 have hgs:g < w.heap.size:=GL.out
 have hz1:w.heap.size+3≤w1.heap.size:=Z1.out
 have CC:=C1.out.drewN nq |>.mod m2 (by omega) (by show _≤w1.heap.size;omega)
 have C2:=Lib.hid CC
 obtain ⟨c0,c1,c2⟩:=CC
 have H2:=Lib.hid h2
 have M2:Hid (Mod (fun i=>i=g) w w2):=(H1.out.2.drewN nq).trans m2 fun _ _ h=>h
 clear h2 m2 c0' c1' c2' hgs hz1
 go_wp2_with fail
 refine (XB.out _ H2.out).mono ?_
 rintro e w' ⟨rfl,rfl⟩
 go_wp2_with fail
 refine (SP.out _ H2.out C2.out).mono ?_
 rintro e w' ⟨r,m,rfl,hr,hlo,hhi,rfl⟩
 have d0:(w2.drewN m).cell? ⟨w.heap.size,0,none⟩=some (.pointer (some ⟨g,0,none⟩)):=c0
 have d1:(w2.drewN m).cell? ⟨w.heap.size+1,0,none⟩=some (.int .i64 bit):=c1
 have d2:(w2.drewN m).cell? ⟨w.heap.size+2,0,none⟩=some (.int .i64 (k:Int)):=c2
 have H3:=Lib.hid (And.intro (H2.out.drewN m) (And.intro (M2.out.drewN m) (show Tab (w2.drewN m) from (HT.out.mod M2.out (by omega) (by have:=GL.out;omega)).drewN m)))
 clear c0 c1 c2
 generalize w2.drewN m=w3 at *
 obtain ⟨hrb,hmin,hcr⟩:=found_blk HK.out hr hlo
 have AO:=Lib.hid (fun x=>aheadOf_p g V n (q+1) r bit (w3.drewN x) (H3.out.1.drewN x) hr)
 rw [hmin] at AO
 obtain ⟨p,hpn,hpI,hpk⟩:=cb_find bit V k n HK.out
 have hr9:r≤1000000:=by unfold blk at hrb;omega
 obtain ⟨z,hz⟩:∃ z,z=cb bit V (512*r):=⟨_,rfl⟩
 rw [← hz] at AO hcr
 have PL:=Lib.hid (fun x=>place_p g V n (q+1) (r*8) (k - z) k p true bit (w3.drewN x) (H3.out.1.drewN x) (H3.out.2.2.drewN x) HB.out (by rw [show 64*(r*8)=512*r by omega,← hz];omega) HK.out hpI hpk)
 have FIN:=Lib.hid (And.intro hpn (And.intro hpI hpk))
 have e1:((r*8:Nat):Int)=(r:Int)*8:=by omega
 have e2:((k - z:Nat):Int)=(k:Int) - (z:Int):=by omega
 rw [e1,e2] at PL
 have hz9:z≤1000000:=by omega
 clear hlo hhi hpn hpI hpk hz e1 e2 hmin hr
 go_wp2_with fail
 go_quiet ((first
  | (go_at_call 179;exact Calls.quiet_of_same ((AO.out _).mono fun e w' ⟨he,hw⟩=>⟨he,hw.symm⟩))
  | (go_at_call 180;exact Calls.quiet_of_same ((PL.out _).mono fun e w' ⟨he,hw⟩=>⟨he,hw.symm⟩))))
 go_wp2
 go_ret2
 exact ⟨p,rfl,FIN.out.1,FIN.out.2.1,FIN.out.2.2,H3.out.1.drewN _,H3.out.2.1.drewN _⟩
structure Exc (E:Nat→Int):Prop where
 zero:E 0=0
 step:∀ i,E (i+1)=E i+1∨E (i+1)=E i - 1
theorem Exc.bound {E:Nat→Int} (h:Exc E) (i:Nat):-(i:Int)≤E i∧E i≤(i:Int):=by
 induction i with
 | zero=>rw [h.zero];exact ⟨by omega,by omega⟩
 | succ i ih=>have:=h.step i;omega
def mn (E:Nat→Int) (a:Nat):Nat→Int
 | 0=>E a
 | k+1=>min (mn E a k) (E (a+k+1))
theorem mn_le (E:Nat→Int) (a:Nat):∀ k i,a≤i→i≤a+k→mn E a k≤E i
 | 0,i,h1,h2=>by obtain rfl:a=i:=by omega
                 exact Int.le_refl _
 | k+1,i,h1,h2=>by
   unfold mn
   by_cases h:i=a+k+1
   ·subst h;omega
   ·have:=mn_le E a k i h1 (by omega);omega
theorem mn_at (E:Nat→Int) (a:Nat):∀ k,∃ i,a≤i∧i≤a+k∧mn E a k=E i
 | 0=>⟨a,by omega,by omega,rfl⟩
 | k+1=>by
   obtain ⟨i,h1,h2,h3⟩:=mn_at E a k
   unfold mn
   by_cases h:mn E a k≤E (a+k+1)
   ·exact ⟨i,h1,by omega,by omega⟩
   ·exact ⟨a+k+1,by omega,by omega,by omega⟩
theorem mn_iff (E:Nat→Int) (a k:Nat) (m:Int):mn E a k≤m↔∃ i,a≤i∧i≤a+k∧E i≤m :=
 ⟨fun h=>by obtain ⟨i,h1,h2,h3⟩:=mn_at E a k;exact ⟨i,h1,h2,by omega⟩,
  fun ⟨i,h1,h2,h3⟩=>by have:=mn_le E a k i h1 h2;omega⟩
theorem mn_join (E:Nat→Int) (a j:Nat):∀ k,mn E a (j+k)=min (mn E a j) (mn E (a+j) k)
 | 0=>by
   have:=mn_le E a j (a+j) (by omega) (by omega)
   show mn E a j=min (mn E a j) (E (a+j))
   omega
 | k+1=>by
   have ih:=mn_join E a j k
   show min (mn E a (j+k)) (E (a+(j+k)+1))=min (mn E a j) (min (mn E (a+j) k) (E (a+j+k+1)))
   rw [ih,show a+(j+k)+1=a+j+k+1 by omega]
   omega
def nul:Int × Int:=(0,2147483647)
def nd (E:Nat→Int) (n a b:Nat):Int × Int :=
 if n≤512*a∨b≤a then nul else (E (min (512*b) n) - E (512*a),mn E (512*a) (min (512*b) n - 512*a) - E (512*a))
def joinN (a b:Int × Int):Int × Int:=if b=nul then a else (a.1+b.1,min a.2 (a.1+b.2))
theorem nd_nul {E:Nat→Int} {n a b:Nat} (h:n≤512*a∨b≤a):nd E n a b=nul:=by unfold nd;rw [if_pos h]
theorem nd_real {E:Nat→Int} {n a b:Nat} (h1:512*a < n) (h2:a < b):nd E n a b=(E (min (512*b) n) - E (512*a),mn E (512*a) (min (512*b) n - 512*a) - E (512*a)):=by
 unfold nd;rw [if_neg (by omega)]
theorem nd_low {E:Nat→Int} {n a b:Nat} (h1:512*a < n) (h2:a < b):(nd E n a b).2≤0:=by
 rw [nd_real h1 h2]
 have:=mn_le E (512*a) (min (512*b) n - 512*a) (512*a) (by omega) (by omega)
 show _ - _≤(0:Int)
 omega
theorem nd_ne {E:Nat→Int} {n a b:Nat} (h1:512*a < n) (h2:a < b):nd E n a b≠nul:=fun e=>by
 have:=nd_low (E:=E) h1 h2
 rw [e] at this
 exact absurd this (by decide)
theorem nd_join (E:Nat→Int) (n a b c:Nat) (hab:a≤b) (hbc:b≤c):joinN (nd E n a b) (nd E n b c)=nd E n a c:=by
 by_cases h1:n≤512*b∨c≤b
 ·rw [nd_nul h1]
  unfold joinN
  rw [if_pos rfl]
  by_cases h2:n≤512*a∨b≤a
  ·rw [nd_nul h2]
   by_cases h3:n≤512*a∨c≤a
   ·rw [nd_nul h3]
   ·exfalso;omega
  ·rw [nd_real (by omega) (by omega),nd_real (by omega) (by omega)]
   have e:min (512*b) n=min (512*c) n:=by omega
   rw [e]
 ·have hne:=nd_ne (E:=E) (n:=n) (a:=b) (b:=c) (by omega) (by omega)
  unfold joinN
  rw [if_neg hne]
  by_cases h2:b≤a
  ·obtain rfl:a=b:=by omega
   have hl:=nd_low (E:=E) (n:=n) (a:=a) (b:=c) (by omega) (by omega)
   rw [nd_nul (E:=E) (n:=n) (a:=a) (b:=a) (.inr (Nat.le_refl _))]
   have e1:(nul.1+(nd E n a c).1)=(nd E n a c).1:=by show (0:Int)+_=_;omega
   have e2:min nul.2 (nul.1+(nd E n a c).2)=(nd E n a c).2:=by show min (2147483647:Int) ((0:Int)+_)=_;omega
   rw [e1,e2]
  ·rw [nd_real (a:=a) (b:=b) (by omega) (by omega),nd_real (a:=b) (b:=c) (by omega) (by omega),nd_real (a:=a) (b:=c) (by omega) (by omega)]
   have e:min (512*b) n=512*b:=by omega
   rw [e]
   have hj:=mn_join E (512*a) (512*b - 512*a) (min (512*c) n - 512*b)
   rw [show 512*b - 512*a+(min (512*c) n - 512*b)=min (512*c) n - 512*a by omega,show 512*a+(512*b - 512*a)=512*b by omega] at hj
   simp only [Prod.mk.injEq]
   exact ⟨by omega,by omega⟩
theorem nd_bound {E:Nat→Int} (h:Exc E) {n:Nat} (hn:n≤1000000) (a b:Nat):-2000000≤(nd E n a b).1∧(nd E n a b).1≤2000000∧-2000000≤(nd E n a b).2∧(nd E n a b).2≤2147483647:=by
 by_cases h1:n≤512*a∨b≤a
 ·rw [nd_nul h1];unfold nul;exact ⟨by decide,by decide,by decide,by decide⟩
 ·have hl:=nd_low (E:=E) (n:=n) (a:=a) (b:=b) (by omega) (by omega)
  rw [nd_real (by omega) (by omega)] at hl ⊢
  obtain ⟨i,i1,i2,i3⟩:=mn_at E (512*a) (min (512*b) n - 512*a)
  have b1:=h.bound (min (512*b) n)
  have b2:=h.bound (512*a)
  have b3:=h.bound i
  simp only at hl ⊢
  exact ⟨by omega,by omega,by omega,by omega⟩
def Has (E:Nat→Int) (n a b:Nat) (m:Int):Prop:=∃ i,512*a≤i∧i≤min (512*b) n∧E i≤m
theorem has_iff {E:Nat→Int} {n a b:Nat} (h1:512*a < n) (h2:a < b) (m:Int):E (512*a)+(nd E n a b).2≤m↔Has E n a b m:=by
 rw [nd_real h1 h2]
 show E (512*a)+(mn E (512*a) _ - E (512*a))≤m↔_
 rw [show E (512*a)+(mn E (512*a) (min (512*b) n - 512*a) - E (512*a))=mn E (512*a) (min (512*b) n - 512*a) by omega,mn_iff]
 unfold Has
 exact ⟨fun ⟨i,x,y,z⟩=>⟨i,x,by omega,z⟩,fun ⟨i,x,y,z⟩=>⟨i,x,by omega,z⟩⟩
theorem has_back {E:Nat→Int} {n a b:Nat} (h1:512*a < n) (h2:a < b) (m:Int):E (min (512*b) n) - (nd E n a b).1+(nd E n a b).2≤m↔Has E n a b m:=by
 rw [← has_iff h1 h2]
 rw [nd_real h1 h2]
 show E (min (512*b) n) - (E (min (512*b) n) - E (512*a))+_≤m↔_
 rw [show E (min (512*b) n) - (E (min (512*b) n) - E (512*a))=E (512*a) by omega]
theorem nd_end {E:Nat→Int} {n a b:Nat} (h1:512*a < n) (h2:a < b):E (512*a)+(nd E n a b).1=E (min (512*b) n):=by
 rw [nd_real h1 h2]
 show E (512*a)+(E (min (512*b) n) - E (512*a))=_
 omega
def TreeOK (E:Nat→Int) (n H:Nat) (T:Nat→Int × Int):Prop:=∀ x h a,h≤H→x*2 ^ h=2 ^ H+a→a < 2 ^ H→T x=nd E n a (a+2 ^ h)
theorem pow_up (h:Nat):2 ^ (h+1)=2*2 ^ h:=by rw [Nat.pow_succ];omega
theorem node_kids {H h x a:Nat} (hh:h+1≤H) (hx:x*2 ^ (h+1)=2 ^ H+a) (ha:a < 2 ^ H) :
  (2*x)*2 ^ h=2 ^ H+a∧(2*x+1)*2 ^ h=2 ^ H+(a+2 ^ h)∧a+2 ^ h < 2 ^ H:=by
 have e:(2*x)*2 ^ h=x*2 ^ (h+1):=by rw [pow_up,← Nat.mul_assoc,Nat.mul_comm 2 x]
 refine ⟨by rw [e,hx],by rw [Nat.add_mul,e,hx];omega,?_⟩
 obtain ⟨d,rfl⟩:∃ d,H=h+1+d:=⟨H - (h+1),by omega⟩
 have e2:2 ^ (h+1+d)=2 ^ d*2 ^ (h+1):=by rw [Nat.pow_add,Nat.mul_comm]
 rw [e2] at hx ha ⊢
 have hp:0 < 2 ^ h:=Nat.two_pow_pos h
 rw [pow_up] at *
 generalize 2 ^ h=P at *
 generalize 2 ^ d=D at *
 have h1:x*(2*P) < 2*(D*(2*P)):=by omega
 have h2:x < 2*D:=by
  rcases Nat.lt_or_ge x (2*D) with h | h
  ·exact h
  ·have:=Nat.mul_le_mul_right (2*P) h
   rw [Nat.mul_assoc] at this;omega
 have h3:(x+1)*(2*P)≤2*D*(2*P):=Nat.mul_le_mul_right _ h2
 rw [Nat.add_mul,Nat.mul_assoc] at h3
 omega
theorem node_end {H h x a:Nat} (hh:h≤H) (hx:x*2 ^ h=2 ^ H+a) (ha:a < 2 ^ H):a+2 ^ h≤2 ^ H∧1≤x∧x < 2*2 ^ H:=by
 cases h with
 | zero=>simp at hx ⊢;omega
 | succ h =>
   have k:=node_kids hh hx ha
   have hp:0 < 2 ^ h:=Nat.two_pow_pos h
   have h1:x*1≤x*2 ^ (h+1):=Nat.mul_le_mul_left _ (Nat.two_pow_pos _)
   refine ⟨?_,?_,by omega⟩
   ·have hd:2 ^ (h+1)=2*2 ^ h:=pow_up h
    obtain ⟨d,rfl⟩:∃ d,H=h+1+d:=⟨H - (h+1),by omega⟩
    have e2:2 ^ (h+1+d)=2 ^ d*2 ^ (h+1):=by rw [Nat.pow_add,Nat.mul_comm]
    rw [e2,hd] at hx ha ⊢
    generalize 2 ^ h=P at *
    generalize 2 ^ d=D at *
    have h2:x < 2*D:=by
     rcases Nat.lt_or_ge x (2*D) with h | h
     ·exact h
     ·have:=Nat.mul_le_mul_right (2*P) h
      rw [Nat.mul_assoc] at this;omega
    have h3:(x+1)*(2*P)≤2*D*(2*P):=Nat.mul_le_mul_right _ h2
    rw [Nat.add_mul,Nat.mul_assoc] at h3
    omega
   ·rcases Nat.eq_zero_or_pos x with h0 | h0
    ·subst h0;have:=Nat.two_pow_pos H;omega
    ·exact h0
theorem node_ex (H:Nat):∀ x,1≤x→x < 2*2 ^ H→∃ h a,h≤H∧x*2 ^ h=2 ^ H+a∧a < 2 ^ H:=by
 induction H with
 | zero=>intro x h1 h2;obtain rfl:x=1:=by simp at h2;omega
         exact ⟨0,0,Nat.le_refl _,rfl,by decide⟩
 | succ H ih =>
   intro x h1 h2
   have hd:=pow_up H
   rcases Nat.lt_or_ge x (2*2 ^ H) with h | h
   ·obtain ⟨k,a,p1,p2,p3⟩:=ih x h1 h
    refine ⟨k+1,2*a,by omega,?_,by omega⟩
    rw [pow_up,Nat.mul_left_comm,p2];omega
   ·exact ⟨0,x - 2 ^ (H+1),by omega,by rw [Nat.pow_zero];omega,by omega⟩
theorem up_forth {H h x a:Nat} (hx:x*2 ^ h=2 ^ H+a) (ha:a < 2 ^ H) (hh:h≤H) (ho:x%2=1) (he:a+2 ^ h < 2 ^ H) :
  ∃ a',(x / 2)*2 ^ (h+1)=2 ^ H+a'∧a'+2 ^ (h+1)=a+2 ^ h∧h+1≤H∧a' < 2 ^ H:=by
 have hp:0 < 2 ^ h:=Nat.two_pow_pos h
 have e:x=2*(x / 2)+1:=by omega
 have hd:=pow_up h
 have hlt:h < H:=by
  rcases Nat.lt_or_ge h H with k | k
  ·exact k
  ·obtain rfl:h=H:=by omega
   omega
 obtain ⟨d,rfl⟩:∃ d,H=h+1+d:=⟨H - (h+1),by omega⟩
 have e2:2 ^ (h+1+d)=2 ^ d*(2*2 ^ h):=by rw [Nat.pow_add,Nat.mul_comm,hd]
 rw [e2] at hx ha he ⊢
 rw [hd]
 generalize 2 ^ h=P at *
 have hdp:0 < 2 ^ d:=Nat.two_pow_pos d
 generalize 2 ^ d=D at *
 generalize x / 2=y at *
 rw [e,Nat.add_mul,Nat.mul_right_comm,Nat.one_mul] at hx
 have e4:y*(2*P)=2*P*y:=Nat.mul_comm _ _
 rw [Nat.mul_comm (2*P) y] at *
 have hy:D≤y:=by
  rcases Nat.lt_or_ge y D with k | k
  ·have:=Nat.mul_le_mul_right (2*P) (show y+1≤D by omega)
   rw [Nat.add_mul] at this;omega
  ·exact k
 have h3:=Nat.mul_le_mul_right (2*P) hy
 exact ⟨y*(2*P) - D*(2*P),by omega,by omega,by omega,by omega⟩
theorem up_back {H h x a:Nat} (hx:x*2 ^ h=2 ^ H+a) (ha:a < 2 ^ H) (hh:h≤H) (ho:x%2=0) (he:0 < a) :
  (x / 2)*2 ^ (h+1)=2 ^ H+a∧h+1≤H:=by
 have e:x=2*(x / 2):=by omega
 have hd:=pow_up h
 constructor
 ·rw [hd,← Nat.mul_assoc,Nat.mul_comm _ 2,← e,hx]
 ·rcases Nat.lt_or_ge h H with k | k
  ·omega
  ·obtain rfl:h=H:=by omega
   exfalso
   have hp:0 < 2 ^ h:=Nat.two_pow_pos h
   generalize x / 2=y at *
   subst e
   generalize 2 ^ h=P at *
   rw [Nat.mul_right_comm] at hx
   have:y=0∨1≤y:=by omega
   rcases this with rfl | hy
   ·simp at hx;omega
   ·have:=Nat.mul_le_mul_right (2*P) hy
    rw [Nat.mul_comm y (2*P)] at this
    omega
def Bal (E:Nat→Int) (n:Nat):Prop:=(∀ i,i≤n→0≤E i)∧E n=0
structure Fwd (E:Nat→Int) (a n:Nat) (m:Int) (j:Nat):Prop where
 lt:a < j
 le:j≤n
 at_:E j≤m
 above:∀ k,a < k→k < j→m < E k
structure Bwd (E:Nat→Int) (a:Nat) (m:Int) (j:Nat):Prop where
 lt:j < a
 at_:E j≤m
 above:∀ k,j < k→k < a→m < E k
theorem Fwd.uniq {E:Nat→Int} {a n:Nat} {m:Int} {i j:Nat} (h:Fwd E a n m i) (k:Fwd E a n m j):i=j:=by
 rcases Nat.lt_trichotomy i j with x | x | x
 ·have:=k.above i h.lt x;have:=h.at_;omega
 ·exact x
 ·have:=h.above j k.lt x;have:=k.at_;omega
theorem Bwd.uniq {E:Nat→Int} {a:Nat} {m:Int} {i j:Nat} (h:Bwd E a m i) (k:Bwd E a m j):i=j:=by
 rcases Nat.lt_trichotomy i j with x | x | x
 ·have:=h.above j x k.lt;have:=k.at_;omega
 ·exact x
 ·have:=k.above i x h.lt;have:=h.at_;omega
theorem Fwd.on {E:Nat→Int} {a b n:Nat} {m:Int} {j:Nat} (h:Fwd E b n m j) (hab:a≤b) (hb:∀ k,a < k→k≤b→m < E k):Fwd E a n m j :=
 ⟨by have:=h.lt;omega,h.le,h.at_,fun k h1 h2=>by
  rcases Nat.lt_or_ge b k with x | x
  ·exact h.above k x h2
  ·exact hb k h1 x⟩
theorem Bwd.on {E:Nat→Int} {a b:Nat} {m:Int} {j:Nat} (h:Bwd E b m j) (hab:b≤a) (hb:∀ k,b≤k→k < a→m < E k):Bwd E a m j :=
 ⟨by have:=h.lt;omega,h.at_,fun k h1 h2=>by
  rcases Nat.lt_or_ge k b with x | x
  ·exact h.above k h1 x
  ·exact hb k x h2⟩
theorem first_ex (P:Nat→Prop) (a:Nat):∀ d,P (a+1+d)→∃ j,a < j∧j≤a+1+d∧P j∧∀ k,a < k→k < j→¬ P k
 | 0,h=>⟨a+1,by omega,by omega,h,fun k h1 h2=>by omega⟩
 | d+1,h=>by
   by_cases hx:∃ i,a < i∧i≤a+1+d∧P i
   ·obtain ⟨i,h1,h2,h3⟩:=hx
    have:=first_ex P a (i - a - 1) (by rw [show a+1+(i - a - 1)=i by omega];exact h3)
    obtain ⟨j,p1,p2,p3,p4⟩:=this
    exact ⟨j,p1,by omega,p3,p4⟩
   ·refine ⟨a+1+(d+1),by omega,by omega,h,fun k h1 h2 hk=>hx ⟨k,h1,by omega,hk⟩⟩
termination_by d=>d
decreasing_by omega
theorem fwd_ex {E:Nat→Int} {a n:Nat} (h:Bal E n) (ha:a < n) {m:Int} (hm:0≤m):∃ j,Fwd E a n m j:=by
 obtain ⟨j,h1,h2,h3,h4⟩:=first_ex (fun i=>E i≤m) a (n - a - 1) (by show E _≤m;rw [show a+1+(n - a - 1)=n by omega,h.2];exact hm)
 exact ⟨j,h1,by omega,h3,fun k p q=>by have:=h4 k p q;omega⟩
theorem bwd_ex {E:Nat→Int} (hE:Exc E) {a:Nat} (ha:0 < a) {m:Int} (hm:0≤m):∃ j,Bwd E a m j:=by
 have:∀ d a,0 < a→d=a→∃ j,Bwd E a m j:=by
  intro d
  induction d with
  | zero=>intro a h1 h2;omega
  | succ d ih =>
    intro a h1 h2
    by_cases hx:E (a - 1)≤m
    ·exact ⟨a - 1,by omega,hx,fun k p q=>by omega⟩
    ·have h0:a≠1:=fun e=>by subst e;apply hx;rw [show 1 - 1=0 from rfl,hE.zero];exact hm
     obtain ⟨j,hj⟩:=ih (a - 1) (by omega) (by omega)
     exact ⟨j,hj.on (by omega) fun k p q=>by obtain rfl:k=a - 1:=by omega
                                             omega⟩
 exact this a a ha rfl
structure Pair (E:Nat→Int) (o i:Nat):Prop where
 lt:o < i
 same:E (i+1)=E o
 above:∀ k,o < k→k≤i→E o < E k
theorem Pair.uniq {E:Nat→Int} {o i j:Nat} (h:Pair E o i) (k:Pair E o j):i=j:=by
 rcases Nat.lt_trichotomy i j with x | x | x
 ·have:=k.above (i+1) (by have:=h.lt;omega) x;have:=h.same;omega
 ·exact x
 ·have:=h.above (j+1) (by have:=k.lt;omega) x;have:=k.same;omega
theorem Pair.uniq' {E:Nat→Int} {o p i:Nat} (h:Pair E o i) (k:Pair E p i):o=p:=by
 rcases Nat.lt_trichotomy o p with x | x | x
 ·have:=h.above p x (by have:=k.lt;omega);have:=h.same;have:=k.same;omega
 ·exact x
 ·have:=k.above o x (by have:=h.lt;omega);have:=h.same;have:=k.same;omega
theorem Pair.opens {E:Nat→Int} (hE:Exc E) {o i:Nat} (h:Pair E o i):E (o+1)=E o+1:=by
 have:=h.above (o+1) (by omega) (by have:=h.lt;omega)
 rcases hE.step o with x | x <;> omega
theorem Pair.closes {E:Nat→Int} (hE:Exc E) {o i:Nat} (h:Pair E o i):E (i+1)=E i - 1:=by
 have:=h.above i h.lt (Nat.le_refl _)
 have:=h.same
 rcases hE.step i with x | x <;> omega
theorem Fwd.pair {E:Nat→Int} (hE:Exc E) {n i j:Nat} (ho:E (i+1)=E i+1) (h:Fwd E i n (E i) j):Pair E i (j - 1):=by
 have h1:=h.lt
 have hne:j≠i+1:=fun e=>by have:=h.at_;rw [e] at this;omega
 refine ⟨by omega,?_,fun k p q=>h.above k p (by omega)⟩
 rw [show j - 1+1=j by omega]
 have h2:=h.above (j - 1) (by omega) (by omega)
 have h3:=h.at_
 have h4:=hE.step (j - 1)
 rw [show j - 1+1=j by omega] at h4
 omega
theorem Bwd.pair {E:Nat→Int} (hE:Exc E) {i j:Nat} (ho:E (i+1)=E i - 1) (h:Bwd E (i+1) (E (i+1)) j):Pair E j i:=by
 have h1:=h.lt
 have hne:j≠i:=fun e=>by have:=h.at_;rw [e] at this;omega
 have h2:=h.above (j+1) (by omega) (by omega)
 have h3:=h.at_
 have h4:=hE.step j
 refine ⟨by omega,by omega,fun k p q=>by have:=h.above k p (by omega);omega⟩
theorem Bwd.le {E:Nat→Int} (hE:Exc E) {a j:Nat} {m:Int} (h:Bwd E a m j) (hm:m < E a):E j=m:=by
 have h1:=h.lt
 have h3:=h.at_
 have h4:=hE.step j
 by_cases e:j+1=a
 ·rw [e] at h4;omega
 ·have:=h.above (j+1) (by omega) (by omega);omega
def RoundOK (E:Nat→Int) (i:Nat) (z:Int):Prop :=
 ∀ a,(E (i+1)=E i+1∧a=i∨E (i+1)=E i - 1∧a=i+1)→if E a=0 then z=-1 else ∃ j:Nat,z=(j:Int)∧Bwd E a (E a - 1) j
theorem RoundOK.uniq {E:Nat→Int} (hE:Exc E) {i:Nat} {y z:Int} (h:RoundOK E i y) (k:RoundOK E i z):y=z:=by
 have:∃ a,E (i+1)=E i+1∧a=i∨E (i+1)=E i - 1∧a=i+1:=by
  rcases hE.step i with x | x
  ·exact ⟨i,.inl ⟨x,rfl⟩⟩
  ·exact ⟨i+1,.inr ⟨x,rfl⟩⟩
 obtain ⟨a,ha⟩:=this
 have h1:=h a ha
 have k1:=k a ha
 by_cases e:E a=0
 ·rw [if_pos e] at h1 k1;omega
 ·rw [if_neg e] at h1 k1
  obtain ⟨p,rfl,hp⟩:=h1
  obtain ⟨q,rfl,hq⟩:=k1
  rw [hp.uniq hq]
def Stack (E:Nat→Int) (i:Nat) (s:List Nat):Prop:=(s.length:Int)=E i∧∀ j,j < s.length→s.getD j 0 < i∧E (s.getD j 0)=(j:Int)∧∀ k,s.getD j 0 < k→k≤i→(j:Int) < E k
theorem Stack.nil {E:Nat→Int} (hE:Exc E):Stack E 0 []:=⟨by rw [hE.zero];rfl,fun j hj=>by simp at hj⟩
theorem getD_snoc (s:List Nat) (x j:Nat):(s++[x]).getD j 0=if j < s.length then s.getD j 0 else if j=s.length then x else 0:=by
 by_cases h:j < s.length
 ·rw [if_pos h,List.getD_eq_getElem?_getD,List.getElem?_append_left h,← List.getD_eq_getElem?_getD]
 ·rw [if_neg h,List.getD_eq_getElem?_getD,List.getElem?_append_right (by omega)]
  by_cases e:j=s.length
  ·rw [if_pos e,e,Nat.sub_self];rfl
  ·rw [if_neg e,List.getElem?_eq_none (by simp;omega)];rfl
theorem Stack.push {E:Nat→Int} {i:Nat} {s:List Nat} (h:Stack E i s) (ho:E (i+1)=E i+1):Stack E (i+1) (s++[i]):=by
 refine ⟨by have:=h.1;simp;omega,fun j hj=>?_⟩
 rw [getD_snoc]
 simp only [List.length_append,List.length_cons,List.length_nil] at hj
 by_cases hlt:j < s.length
 ·rw [if_pos hlt]
  obtain ⟨h1,h2,h3⟩:=h.2 j hlt
  refine ⟨by omega,h2,fun k p q=>?_⟩
  by_cases e:k=i+1
  ·have:=h.1;rw [e];omega
  ·exact h3 k p (by omega)
 ·rw [if_neg hlt,if_pos (by omega)]
  have h1:=h.1
  refine ⟨by omega,by omega,fun k p q=>?_⟩
  obtain rfl:k=i+1:=by omega
  omega
theorem Stack.pop {E:Nat→Int} {i:Nat} {s:List Nat} (h:Stack E i s) (ho:E (i+1)=E i - 1) (h0:0 < s.length):Stack E (i+1) (s.take (s.length - 1))∧Pair E (s.getD (s.length - 1) 0) i:=by
 have hl:=h.1
 constructor
 ·refine ⟨by rw [List.length_take];omega,fun j hj=>?_⟩
  rw [List.length_take] at hj
  have e:(s.take (s.length - 1)).getD j 0=s.getD j 0:=by
   rw [List.getD_eq_getElem?_getD,List.getElem?_take,if_pos (by omega),← List.getD_eq_getElem?_getD]
  rw [e]
  obtain ⟨h1,h2,h3⟩:=h.2 j (by omega)
  refine ⟨by omega,h2,fun k p q=>?_⟩
  by_cases e:k=i+1
  ·rw [e];omega
  ·exact h3 k p (by omega)
 ·obtain ⟨h1,h2,h3⟩:=h.2 (s.length - 1) (by omega)
  refine ⟨h1,by omega,fun k p q=>by have:=h3 k p q;omega⟩
structure KnownP (E:Nat→Int) (i:Nat) (y z:Nat→Int):Prop where
 close:∀ p,p < i→E (p+1)=E p - 1→∃ o:Nat,y p=(o:Int)∧Pair E o p
 open_:∀ p,p < i→∀ q,q < i→Pair E p q→y p=(q:Int)
 round:∀ p,p < i→RoundOK E p (z p)
theorem KnownP.zero (E:Nat→Int) (y z:Nat→Int):KnownP E 0 y z:=⟨fun p h=>by omega,fun p h=>by omega,fun p h=>by omega⟩
theorem KnownP.push {E:Nat→Int} (hE:Exc E) {i:Nat} {y z z':Nat→Int} {s:List Nat} (h:KnownP E i y z) (hs:Stack E i s) (ho:E (i+1)=E i+1)
  (hz:∀ p,p≠i→z' p=z p) (hi:if s.length=0 then z' i=-1 else z' i=((s.getD (s.length - 1) 0:Nat):Int)):KnownP E (i+1) y z':=by
 refine ⟨fun p hp hc=>?_,fun p hp q hq hpq=>?_,fun p hp=>?_⟩
 ·have:p≠i:=fun e=>by subst e;omega
  exact h.close p (by omega) hc
 ·have h1:q≠i:=fun e=>by subst e;have:=hpq.closes hE;omega
  have h2:=hpq.lt
  exact h.open_ p (by omega) q (by omega) hpq
 ·by_cases e:p=i
  ·subst e
   intro a ha
   obtain rfl:a=p:=by rcases ha with x | x <;> omega
   have hl:=hs.1
   by_cases h0:s.length=0
   ·rw [if_pos h0] at hi
    rw [if_pos (by omega)]
    exact hi
   ·rw [if_neg h0] at hi
    rw [if_neg (by omega)]
    obtain ⟨h1,h2,h3⟩:=hs.2 (s.length - 1) (by omega)
    exact ⟨_,hi,h1,by omega,fun k p q=>by have:=h3 k p (by omega);omega⟩
  ·rw [hz p e];exact h.round p (by omega)
theorem KnownP.pop {E:Nat→Int} (hE:Exc E) {i o:Nat} {y z y' z':Nat→Int} (h:KnownP E i y z) (hp:Pair E o i)
  (hy:∀ p,p≠i→p≠o→y' p=y p) (hyi:y' i=(o:Int)) (hyo:y' o=(i:Int)) (hz:∀ p,p≠i→z' p=z p) (hzi:z' i=z o):KnownP E (i+1) y' z':=by
 have hc:=hp.closes hE
 have hop:=hp.opens hE
 have hlt:=hp.lt
 refine ⟨fun p hp' hc'=>?_,fun p hp' q hq hpq=>?_,fun p hp'=>?_⟩
 ·by_cases e:p=i
  ·subst e;exact ⟨o,hyi,hp⟩
  ·have:p≠o:=fun e=>by subst e;omega
   rw [hy p e this];exact h.close p (by omega) hc'
 ·by_cases e:p=o
  ·subst e
   rw [hyo,hp.uniq hpq]
  ·have h1:q≠i:=fun e'=>by subst e';exact e (hpq.uniq' hp)
   have h2:p≠i:=fun e'=>by subst e';have:=hpq.opens hE;omega
   have h3:=hpq.lt
   rw [hy p h2 e];exact h.open_ p (by omega) q (by omega) hpq
 ·by_cases e:p=i
  ·subst e
   intro a ha
   obtain rfl:a=p+1:=by rcases ha with x | x <;> omega
   rw [hzi,hp.same]
   have hr:=h.round o hlt o (.inl ⟨hop,rfl⟩)
   by_cases h0:E o=0
   ·rw [if_pos h0] at hr ⊢;exact hr
   ·rw [if_neg h0] at hr ⊢
    obtain ⟨j,hj,hb⟩:=hr
    exact ⟨j,hj,hb.on (by omega) fun k h1 h2=>by
     by_cases e:k=o
     ·rw [e];omega
     ·have:=hp.above k (by omega) (by omega);omega⟩
  ·rw [hz p e];exact h.round p (by omega)
def MateOK (E:Nat→Int) (i:Nat) (y:Int):Prop:=∃ q:Nat,y=(q:Int)∧(Pair E i q∨Pair E q i)
theorem MateOK.uniq {E:Nat→Int} (hE:Exc E) {i:Nat} {y z:Int} (h:MateOK E i y) (k:MateOK E i z):y=z:=by
 obtain ⟨p,rfl,hp⟩:=h
 obtain ⟨q,rfl,hq⟩:=k
 rcases hp with hp | hp <;> rcases hq with hq | hq
 ·rw [hp.uniq hq]
 ·have:=hp.opens hE;have:=hq.closes hE;omega
 ·have:=hp.closes hE;have:=hq.opens hE;omega
 ·rw [hp.uniq' hq]
theorem MateOK.back {E:Nat→Int} {i q:Nat} (h:MateOK E i (q:Int)):MateOK E q (i:Int):=by
 obtain ⟨p,hp,h⟩:=h
 obtain rfl:q=p:=by omega
 exact ⟨i,rfl,h.symm⟩
theorem KnownP.done {E:Nat→Int} (hE:Exc E) {n:Nat} {y z:Nat→Int} (h:KnownP E n y z) (hb:Bal E n) (i:Nat) (hi:i < n):MateOK E i (y i)∧RoundOK E i (z i):=by
 refine ⟨?_,h.round i hi⟩
 rcases hE.step i with x | x
 ·obtain ⟨j,hj⟩:=fwd_ex hb hi (hb.1 i (by omega))
  have hp:=hj.pair hE x
  have h1:=hj.le
  have h2:=hj.lt
  exact ⟨j - 1,h.open_ i hi (j - 1) (by omega) hp,.inl hp⟩
 ·obtain ⟨o,ho,hp⟩:=h.close i hi x
  exact ⟨o,ho,.inr hp⟩
end Go.Proofs.YtajjgpkahljjmaaGreatDoor
