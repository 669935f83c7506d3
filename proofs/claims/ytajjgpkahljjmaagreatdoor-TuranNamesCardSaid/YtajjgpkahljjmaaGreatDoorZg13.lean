/- Owner of a mixed index. -/
import Derived.Test.YtajjgpkahljjmaaGreatDoorZg12
import Derived.Test.YtajjgpkahljjmaaGreatDoorZg7
import Derived.Test.YtajjgpkahljjmaaGreatDoorZg11
import Derived.Test.YtajjgpkahljjmaaGreatDoorZg6
import Derived.Deep.QuietTactic
import Derived.BigQuiet
import Derived.Test.YtajjgpkahljjmaaGreatDoorZg5
import Derived.Test.YtajjgpkahljjmaaGreatDoorZg1
import Derived.Test.YtajjgpkahljjmaaGreatDoorZg9
open Go.RowKit
set_option linter.unusedVariables false
namespace Go.Proofs.YtajjgpkahljjmaaGreatDoor
set_option maxRecDepth 20000
def OwnZ (ks:List Nat) (i:Nat) (z:Int):Prop :=
 if ks.getD i 0=1 then MateOK (exc (val (ownL 0 ks))) (ah 0 ks i) z
 else if ah 0 ks i=0 then z=-1
 else if (ownL 0 ks).getD (ah 0 ks i - 1) 0=1 then z=((ah 0 ks i - 1:Nat):Int)
 else RoundOK (exc (val (ownL 0 ks))) (ah 0 ks i - 1) z
def OwnAt (ks:List Nat) (i:Nat) (r:Int):Prop:=∃ z,OwnZ ks i z∧((z=-1∧r=-1)∨∃ p:Nat,r=(p:Int)∧p < ks.length∧ks.getD p 0 / 2=0∧z=((ah 0 ks p:Nat):Int))
section
variable {w0 w:World} {m gx p0 g0 p1 g1 q:Nat} {ks:List Nat}
set_option maxHeartbeats 8000000 in
theorem owner_q (h:Mx w0 w m gx p0 g0 p1 g1 ks q) (i:Nat) (hi:i < ks.length) (hq:q≤800000) :
  Calls Tryz.prog 149 #[.pointer (some ⟨m,0,none⟩),.int .i64 (i:Int)] w fun e w'=>∃ z:Int,OwnZ ks i z∧(z=-1∨∃ y:Nat,z=(y:Int)∧y < (ownL 0 ks).length)∧MxP w0 w m gx p0 g0 p1 g1 ks (q+6) (.returned (.int .i64 z)) e w':=by
 have AP:=Lib.hid (ahead_p h 0 i (by decide) (by omega) (by omega))
 have AE:=Lib.hid (ah_end 0 ks i (by omega))
 have hy9:ah 0 ks i≤1000000:=by have h1:=ah_le 0 ks i (by omega);have h2:=h.n9;omega
 have AL:=Lib.hid (fun (hs:ks.getD i 0 / 2=0)=>ah_lt 0 ks i hi hs)
 have hk4:=h.kd.getD i
 have c1:=h.c1
 have OZ:Hid (∀ z,OwnZ ks i z↔(if ks.getD i 0=1 then MateOK (exc (val (ownL 0 ks))) (ah 0 ks i) z
   else if ah 0 ks i=0 then z=-1
   else if (ownL 0 ks).getD (ah 0 ks i - 1) 0=1 then z=((ah 0 ks i - 1:Nat):Int)
   else RoundOK (exc (val (ownL 0 ks))) (ah 0 ks i - 1) z)):=fun z=>Iff.rfl
 obtain ⟨y,hy⟩:∃ y,y=ah 0 ks i:=⟨_,rfl⟩
 rw [← hy] at AP AE AL OZ hy9
 obtain ⟨k,hk⟩:∃ k,k=ks.getD i 0:=⟨_,rfl⟩
 rw [← hk] at OZ AL hk4
 have IAT:Hid (∀ {w1:World} {q1:Nat},Mx w0 w1 m gx p0 g0 p1 g1 ks q1→q1≤1000000→Calls Tryz.prog 97 #[.pointer (some ⟨m,0,none⟩),.int .i64 (i:Int)] w1 (MxP w0 w1 m gx p0 g0 p1 g1 ks (q1+1) (.returned (.int .i64 (k:Int))))):=fun h1 hq1=>by
  rw [hk];exact iat_p h1 i hi hq1
 clear h hy hk
 go_enter Tryz.func149,Tryz.ntmps149
 go_wp2_with fail
 refine AP.out.mono ?_
 rintro e w1 ⟨rfl,h1,m1⟩
 have IA:=Lib.hid (IAT.out h1 (by omega))
 have M1:=Lib.hid m1
 have c3:=h1.c1
 clear h1 m1 AP IAT c1
 go_wp2_with fail
 refine IA.out.mono ?_
 rintro e w2 ⟨rfl,h2,m2⟩
 have H2:=Lib.hid h2
 have M2:=Lib.hid (M1.out.trans m2 fun _ _ h=>h)
 have c1:=h2.c1
 clear h2 m2 IA M1 c3
 by_cases hk1:k=1
 ·have ym:=AL.out (by omega)
  have MP:=Lib.hid (imate_p H2.out 0 y (by decide) ym (by omega))
  have OZ1:Hid (∀ z,MateOK (exc (val (ownL 0 ks))) y z→OwnZ ks i z):=fun z hz=>(OZ.out _).2 (by rw [if_pos hk1];exact hz)
  subst hk1
  clear AL AE ym hk4 OZ
  go_wp2_with fail
  refine MP.out.mono ?_
  rintro e w3 ⟨z,hz,hmo,rfl,h3,m3⟩
  have H3:=Lib.hid h3
  have M3:=Lib.hid (M2.out.trans m3 fun _ _ h=>h)
  have HMO:=Lib.hid hmo
  clear h3 m3 M2 MP hmo
  go_wp2_with fail
  go_ret
  exact ⟨(z:Int),OZ1.out _ HMO.out,.inr ⟨z,rfl,hz⟩,rfl,H3.out.le (by omega),M3.out⟩
 ·have hkb:((k:Int) == 1)=false:=by rw [beq_eq_false_iff_ne];omega
  have hki:¬ (k:Int)=1:=by omega
  by_cases hy0:y=0
  ·subst hy0
   have OZ2:Hid (OwnZ ks i (-1)):=(OZ.out _).2 (by rw [if_neg hk1,if_pos rfl])
   clear hk1 AL AE OZ
   go_wp2_with fail
   go_ret
   exact ⟨-1,OZ2.out,.inl rfl,rfl,H2.out.le (by omega),M2.out⟩
  ·obtain ⟨x,rfl⟩:∃ x,y=x+1:=⟨y - 1,by omega⟩
   have hxl:x < (ownL 0 ks).length:=by have:=AE.out;omega
   have hsub:(x:Int)+1 - 1=(x:Int):=by omega
   have hyb:(((x:Int)+1) == 0)=false:=by rw [beq_eq_false_iff_ne];omega
   have hyi:¬ ((x:Int)+1)=0:=by omega
   have OP:=Lib.hid (H2.out.open_ x hxl)
   rw [show x+1 - 1=x by omega] at OZ
   by_cases ho:(ownL 0 ks).getD x 0=1
   ·have OZ2:Hid (OwnZ ks i (x:Int)):=(OZ.out _).2 (by rw [if_neg hk1,if_neg hy0,if_pos ho])
    rw [decide_eq_true ho] at OP
    have HXL:=Lib.hid hxl
    clear hk1 hy0 AL AE OZ ho hxl
    go_wp2_with fail
    refine OP.out.mono ?_
    rintro e w3 ⟨rfl,rfl⟩
    go_wp2_with fail
    go_ret
    exact ⟨(x:Int),OZ2.out,.inr ⟨x,rfl,HXL.out⟩,rfl,H2.out.le (by omega),M2.out⟩
   ·obtain ⟨d,ha⟩:=H2.out.pa
    have RY:=Lib.hid (round_yes p0 g0 _ _ (q+1+1) d w2 x H2.out.nulw H2.out.hp0 ha H2.out.b0 hxl (by omega))
    have OZ2:Hid (∀ z,RoundOK (exc (val (ownL 0 ks))) x z→OwnZ ks i z):=fun z hz=>(OZ.out _).2 (by rw [if_neg hk1,if_neg hy0,if_neg ho];exact hz)
    rw [decide_eq_false ho] at OP
    have HXL:=Lib.hid hxl
    clear hk1 hy0 AL AE OZ ho hxl ha
    go_wp2_with fail
    refine OP.out.mono ?_
    rintro e w3 ⟨rfl,rfl⟩
    go_wp2_with fail
    refine RY.out.mono ?_
    rintro e w3 ⟨hp,md,z,rfl,hz,_,_⟩
    have H3:=Lib.hid (H2.out.askA hp (by omega) md)
    have M3:Hid (Mod (MxS gx p0 g0 p1 g1) w w3):=M2.out.trans (two_mx0 md) fun _ _ h=>h
    have HZ:=Lib.hid hz
    have HZ2:Hid (z=-1∨∃ y:Nat,z=(y:Int)∧y < (ownL 0 ks).length):=by
     obtain ⟨a,ha,hax⟩:∃ a,(exc (val (ownL 0 ks)) (x+1)=exc (val (ownL 0 ks)) x+1∧a=x∨exc (val (ownL 0 ks)) (x+1)=exc (val (ownL 0 ks)) x - 1∧a=x+1)∧a≤x+1:=by
      rcases (exc_Exc (val (ownL 0 ks))).step x with h | h
      ·exact ⟨x,.inl ⟨h,rfl⟩,by omega⟩
      ·exact ⟨x+1,.inr ⟨h,rfl⟩,Nat.le_refl _⟩
     have hz2:=hz a ha
     split at hz2
     ·exact .inl hz2
     ·obtain ⟨o,rfl,ho⟩:=hz2
      exact .inr ⟨o,rfl,by have:=HXL.out;have:=ho.lt;omega⟩
    clear hp md hz RY OP M2
    go_wp2_with fail
    go_ret
    exact ⟨z,OZ2.out z HZ.out,HZ2.out,rfl,H3.out.le (by omega),M3.out⟩
set_option maxHeartbeats 1000000 in
theorem ownerI_p (h:Mx w0 w m gx p0 g0 p1 g1 ks q) (i:Nat) (hi:i < ks.length) (hq:q≤700000) :
  Calls Tryz.prog 128 #[.pointer (some ⟨m,0,none⟩),.int .i64 (i:Int)] w fun e w'=>∃ r:Int,OwnAt ks i r∧MxP w0 w m gx p0 g0 p1 g1 ks (q+7) (.returned (.tuple #[.int .i64 r,.int .i64 0])) e w':=by
 have LN:=Lib.hid (ilen_p h)
 have hn9:=h.n9
 have RD:=Lib.hid (ready4_ok ⟨m,0,none⟩ (i:Int) ((ks.length:Int) - 1) w (by omega) (by omega))
 have OQ:=Lib.hid (owner_q h i hi (by omega))
 clear h
 go_enter Tryz.func128,Tryz.ntmps128
 go_wp2_with fail
 refine LN.out.mono ?_
 rintro e w1 ⟨rfl,rfl⟩
 go_wp2_with fail
 refine RD.out.mono ?_
 rintro e w1 ⟨rfl,rfl⟩
 go_wp2_with fail
 refine OQ.out.mono ?_
 rintro e w2 ⟨z,hz,hor,rfl,h2,m2⟩
 have HZ:=Lib.hid hz
 have M2:=Lib.hid m2
 have H2:=Lib.hid h2
 clear hz m2 OQ h2
 rcases hor with rfl | ⟨y,rfl,hy⟩
 ·go_wp2_with fail
  go_ret2
  exact ⟨-1,⟨-1,HZ.out,.inl ⟨rfl,rfl⟩⟩,rfl,H2.out.le (by omega),M2.out⟩
 ·have hyb:((y:Int) == -1)=false:=by rw [beq_eq_false_iff_ne];omega
  have hyi:¬ (y:Int)=-1:=by omega
  have PP:=Lib.hid (place_q H2.out 0 y (by decide) hy (by omega))
  clear hy
  go_wp2_with fail
  refine PP.out.mono ?_
  rintro e w3 ⟨p,hp,hps,hpa,rfl,h3,m3⟩
  have H3:=Lib.hid h3
  have M3:=Lib.hid (M2.out.trans m3 fun _ _ h=>h)
  have HP:Hid (p < ks.length∧ks.getD p 0 / 2=0∧ah 0 ks p=y):=⟨hp,hps,hpa⟩
  clear h3 m3 M2 PP hp hps hpa
  go_wp2_with fail
  go_ret2
  exact ⟨(p:Int),⟨(y:Int),HZ.out,.inr ⟨p,rfl,HP.out.1,HP.out.2.1,by rw [HP.out.2.2]⟩⟩,rfl,H3.out.le (by omega),M3.out⟩
end
end Go.Proofs.YtajjgpkahljjmaaGreatDoor
namespace Go.Proofs.YtajjgpkahljjmaaGreatDoor
theorem wd_piece {V n k s:Nat} (h:V < 2 ^ n) (hs:s=min 64 (n - 64*k)) (hk:64*k≤n):V / 2 ^ (64*k)%2 ^ s=wd V k:=by
 unfold wd
 by_cases h64:64≤n - 64*k
 ·rw [hs,Nat.min_eq_left h64]
 ·rw [hs,Nat.min_eq_right (by omega)]
  have hlt:V / 2 ^ (64*k) < 2 ^ (n - 64*k):=by
   rw [Nat.div_lt_iff_lt_mul (Nat.two_pow_pos _),← Nat.pow_add]
   rwa [show n - 64*k+64*k=n by omega]
  rw [Nat.mod_eq_of_lt hlt,Nat.mod_eq_of_lt (Nat.lt_of_lt_of_le hlt (Nat.pow_le_pow_right (by omega) (by omega)))]
theorem min_s (t:Nat) (ht:t≤1000000):∀ w,(Builtin.min_ #[3,3] 3 #[.int .i64 64,.int .i64 (t:Int)]).run Tryz.prog w=.ok (.int .i64 ((min 64 t:Nat):Int)) w:=fun w=>by
 simp [Builtin.min_,Builtin.min2]
 repeat' split
 all_goals omega
def NewIdx (w:World) (V n:Nat) (e:Ending) (w':World):Prop :=
 ∃ g,e=.returned (.pointer (some ⟨g,0,none⟩))∧IdxAt w' g V n false 0∧w.heap.size≤g∧Below w.heap.size w w'
set_option maxRecDepth 20000 in
set_option maxHeartbeats 4000000 in
theorem xnew_p (g V n B:Nat) (A:Option Addr) (w:World) (h:VecB w B g V n A):Calls Tryz.prog 118 #[.pointer (some ⟨g,0,none⟩)] w (NewIdx w V n):=by
 obtain ⟨i0,hi0,hz0,hz1,hz2⟩:=info_parts info_u64
 have hV:=h.1
 have hn:=h.2.1
 have LN:=Lib.hid (blen_p g V n A w h)
 have ON:=Lib.hid (ones_p g V n B A w h)
 have hbx:=(Below.refl w.heap.size w).alloc (Nat.le_refl _) (.cells #[.slice none 0 0,.int .i64 (n:Int),.int .i64 ((pop V n:Nat):Int),.int .u32 0,.int .i32 0,.int .u32 0,.slice none 0 0,.int .i64 0,.int .i64 0] 171)
 have RD:=Lib.hid (read_p g V n B A _ (h.below hbx))
 have HB:=Lib.hid (Blk.new w 171 #[.slice none 0 0,.int .i64 (n:Int),.int .i64 ((pop V n:Nat):Int),.int .u32 0,.int .i32 0,.int .u32 0,.slice none 0 0,.int .i64 0,.int .i64 0])
 have HV:=Lib.hid hV
 generalize hpv:pop V n=pv at *
 have HPV:=Lib.hid hpv
 have HBX:=Lib.hid hbx
 clear h hV hpv hbx
 go_enter Tryz.func118,Tryz.ntmps118
 go_wp2_with fail
 refine LN.out.mono ?_
 rintro e w' ⟨rfl,rfl⟩
 go_wp2_with fail
 refine ON.out.mono ?_
 rintro e w' ⟨rfl,rfl⟩
 go_wp2_with fail
 refine RD.out.mono ?_
 rintro e w2 ⟨r,rfl,hr,b2⟩
 generalize hw1:w.alloc (.cells #[.slice none 0 0,.int .i64 (n:Int),.int .i64 (pv:Int),.int .u32 0,.int .i32 0,.int .u32 0,.slice none 0 0,.int .i64 0,.int .i64 0] 171)=w1 at *
 have hs1:w1.heap.size=w.heap.size+1:=by rw [← hw1];simp
 have HB2:=Lib.hid (HB.out.below b2)
 have BW2:Hid (Below w.heap.size w w2):=HBX.out.trans (b2.mono (by omega))
 obtain ⟨gr,Ar,hrg⟩:=hr.toG
 have HR2:=Lib.hid hrg
 have HFT:Hid (∀ i,foot gr Ar i→i < w2.heap.size):=fun i hi=>hrg.2.2.2.2.2.1.foot_lt hi
 have hr2:r < w2.heap.size:=hrg.2.2.2.2.2.2.lt
 have hr1:w1.heap.size≤r:=hrg.2.1
 have hs2:w1.heap.size≤w2.heap.size:=b2.size
 obtain ⟨m,hm⟩:∃ m,m=(n+63) / 64:=⟨_,rfl⟩
 have HM:=Lib.hid hm
 have hm9:m≤20000:=by omega
 clear LN ON RD HB HBX hr hrg b2 hw1 hm
 go_wp2_with fail
 go_loopw [5] (fun _ wr=>∃ (k ck:Nat) (Ak:Option Addr),k≤m∧Hid (Blk wr w.heap.size 171 #[.slice Ak k ck,.int .i64 (n:Int),.int .i64 (pv:Int),.int .u32 0,.int .i32 0,.int .u32 0,.slice none 0 0,.int .i64 0,.int .i64 0]) ∧
  Hid (wr.ownsRow w2.heap.size 139 1 (.slice Ak k ck) k (U64 (words V k)))∧Hid (ReadG wr w1.heap.size r V n (min (64*k) n) gr Ar)∧Hid (Below w.heap.size w wr)∧w2.heap.size≤wr.heap.size) (fun _ wr=>n - (intOf ((wr.cell? ⟨r,1,none⟩).getD undef)).toNat)
 case atStart=>exact ⟨0,0,none,by omega,HB2.out,World.ownsRow_nil _ _ _ _,by show ReadG _ _ _ _ _ _ _ _;rw [Nat.mul_zero,Nat.zero_min];exact HR2.out,BW2.out,Nat.le_refl _⟩
 case round =>
  obtain ⟨k,ck,Ak,hk,hb,ho,hr,hbl,hsw⟩:=hrel
  clear HB2 BW2 HR2
  have LF:=Lib.hid (left_p w1.heap.size r V n (min (64*k) n) wr hr.out.toAt)
  have hcr:wr.cell? ⟨r,1,none⟩=some (.int .i64 ((min (64*k) n:Nat):Int)):=hr.out.2.2.2.2.2.2.cell 1
  by_cases hlt:k < m
  ·have h64:64*k < n:=by have:=HM.out;omega
   have hmn:min (64*k) n=64*k:=by omega
   rw [hmn] at LF hcr hr
   obtain ⟨t,ht⟩:∃ t,t=n - 64*k:=⟨_,rfl⟩
   rw [← ht] at LF
   have hmin:=min_s t (by omega)
   obtain ⟨s,hs⟩:∃ s,s=min 64 t:=⟨_,rfl⟩
   rw [← hs] at hmin
   have hs1':1≤s:=by omega
   have hs64:s≤64:=by omega
   have RY:Hid (∀ w',ReadG w' w1.heap.size r V n (64*k) gr Ar→Calls Tryz.prog 143 #[.pointer (some ⟨r,0,none⟩),.int .i64 (s:Int)] w' fun e w''=>e=.returned (.tuple #[.int .u64 ((wd V k:Nat):Int),.int .i64 0])∧ReadG w'' w1.heap.size r V n (min (64*(k+1)) n) gr Ar∧Mod (fun i=>i=r) w' w''):=fun w' h'=>by
    have:=rnum_g w1.heap.size r V n (64*k) gr Ar (s:Int) w' h' (by omega) (by rw [cnt64_nat hs64];omega)
    rw [cnt64_nat hs64,wd_piece HV.out (by rw [hs,ht]) (by omega),show 64*k+s=min (64*(k+1)) n by omega] at this
    exact this
   have LF2:Hid (∀ w',ReadG w' w1.heap.size r V n (64*k) gr Ar→Calls Tryz.prog 142 #[.pointer (some ⟨r,0,none⟩)] w' fun e w''=>e=.returned (.int .i64 (t:Int))∧∃ j,w''=w'.drewN j):=fun w' h'=>by
    have:=left_p w1.heap.size r V n (64*k) w' h'.toAt
    rwa [← ht] at this
   have htp:(0:Int) < (t:Int):=by omega
   have HXD:Hid (n - (min (64*(k+1)) n) < n - 64*k):=by show _ < _;omega
   have NX:Hid (U64 (words V k)++[Value.int .u64 ((wd V k:Nat):Int)]=U64 (words V (k+1))):=by
    show _=_
    rw [words_next,U64_append];rfl
   clear hs ht hmn LF
   generalize wd V k=x at *
   go_wp2_with fail
   refine (LF2.out _ hr.out).mono ?_
   rintro e w9 ⟨rfl,j,rfl⟩
   have B9:=Lib.hid (below_draws (Below.refl wr.heap.size wr) j)
   have R9:=Lib.hid (hr.out.below B9.out)
   have K9:=Lib.hid (hb.out.below B9.out)
   have O9:=Lib.hid (own_below ho.out B9.out)
   have hsz9:w2.heap.size≤(wr.drewN j).heap.size:=hsw
   have W9:Hid (Below w.heap.size w (wr.drewN j)):=hbl.out.trans (B9.out.mono hbl.out.size)
   generalize wr.drewN j=w9 at *
   clear B9
   go_wp2_with fail
   refine (LF2.out _ R9.out).mono ?_
   rintro e w10 ⟨rfl,j2,rfl⟩
   have B10:=Lib.hid (below_draws (Below.refl w9.heap.size w9) j2)
   have R10:=Lib.hid (R9.out.below B10.out)
   have K10:=Lib.hid (K9.out.below B10.out)
   have O10:=Lib.hid (own_below O9.out B10.out)
   have hsz10:w2.heap.size≤(w9.drewN j2).heap.size:=hsz9
   have W10:Hid (Below w.heap.size w (w9.drewN j2)):=W9.out.trans (B10.out.mono W9.out.size)
   generalize w9.drewN j2=w10 at *
   clear B10 R9 K9 O9 W9
   go_wp2_with fail
   refine (RY.out _ R10.out).mono ?_
   rintro e w11 ⟨rfl,r11,m11⟩
   have R11:=Lib.hid r11
   have K11:=Lib.hid (K10.out.mod m11 (show ¬ w.heap.size=r by omega))
   have O11:=Lib.hid (own_mod O10.out m11 (fun i hi hx=>by have:=(O10.out.lt i hi).1;omega))
   have hsz11:w2.heap.size≤w11.heap.size:=Nat.le_trans hsz10 m11.size
   have W11:Hid (Below w.heap.size w w11):=W10.out.trans (m11.belowB W10.out.size fun i hi hx=>by omega)
   have c0:w11.cell? ⟨w.heap.size,0,none⟩=some (.slice Ak k ck):=K11.out.cell 0
   have f0:=K11.out.frozen 0
   have hgl:=K11.out.lt
   have hown3:=O11.out.alloc (.cells #[.int .u64 (x:Int)] 139)
   have r3:=Rd.new w11 139 #[.int .u64 (x:Int)] 1 [.int .u64 (x:Int)] (by simp) (by simp)
   have e1:k+1≤maxLen:=by simp only [maxLen];omega
   have e2:(k+1)*8≤140737488355328:=by omega
   have e3:w2.heap.size≤(w11.alloc (.cells #[.int .u64 (x:Int)] 139)).heap.size:=by simp;omega
   have h1s:∀ u∈[Value.int .u64 (x:Int)],u.oneCell'=true:=by intro u hu;simp at hu;subst hu;rfl
   clear r11 m11 R10 K10 O10 W10
   go_wp2_with (first
    | (at_builtin;go_must (refine wpList_append_rd _ rfl _ _ 102 rfl w2.heap.size 139 i0 (.int .u64 0) 8 Tryz.underlying102 hi0 hz0 hz1 hz2 rfl (.slice Ak k ck) k _ rfl hown3 (w11.heap.size+1) (some ⟨w11.heap.size,0,none⟩) 1 1 [.int .u64 (x:Int)] rfl r3 h1s e1 e2 e3 ?_)))
   intro A6 c6 w6 hc6 hm6 hown6 hg6 _
   have hgm:=Mod.ofGrown hg6
   have hrow:Hid (∀ i,some i=(Value.slice Ak k ck).ownBlock→w2.heap.size≤i):=fun i hi=>(hown3.lt i hi.symm).1
   have K6:=Lib.hid ((K11.out.alloc (.cells #[.int .u64 (x:Int)] 139)).mod hgm fun e=>by have:=hrow.out _ e;omega)
   have R6:Hid (ReadG w6 w1.heap.size r V n (min (64*(k+1)) n) gr Ar):=by
    refine (R11.out.below ((Below.refl _ _).alloc (Nat.le_refl _) (.cells #[.int .u64 (x:Int)] 139))).mod hgm (fun e=>?_) fun i hi e=>?_
    ·have:=hrow.out _ e;omega
    ·have:=hrow.out _ e
     have:=HFT.out i hi
     omega
   have d0:w6.cell? ⟨w.heap.size,0,none⟩=some (.slice Ak k ck):=K6.out.cell 0
   have g0:=K6.out.frozen 0
   have O6:Hid (w6.ownsRow w2.heap.size 139 1 (.slice A6 (k+1) c6) (k+1) (U64 (words V (k+1)))):=by
    rw [← NX.out];exact hown6
   have W6:Hid (Below w.heap.size w w6):=(W11.out.alloc W11.out.size _).grown hg6 (by have:=W11.out.size;simp;omega) (fun i hi=>by have:=hrow.out i hi.symm;omega)
   have hsz6:w2.heap.size≤w6.heap.size:=Nat.le_trans e3 hg6.size
   clear hown6 hg6 hgm hown3 r3 h1s e1 e2 e3 c0 f0
   go_wp2_with fail
   have m9:Mod (fun i=>i=w.heap.size) w6 (w6.setCell ⟨w.heap.size,0,none⟩ (.slice A6 (k+1) c6)):=Mod.setCell (p:=⟨w.heap.size,0,none⟩) (Mod.refl (fun i=>i=w.heap.size) w6) (fun _=>rfl) _
   have K9:Hid (Blk (w6.setCell ⟨w.heap.size,0,none⟩ (.slice A6 (k+1) c6)) w.heap.size 171 #[.slice A6 (k+1) c6,.int .i64 (n:Int),.int .i64 (pv:Int),.int .u32 0,.int .i32 0,.int .u32 0,.slice none 0 0,.int .i64 0,.int .i64 0]):=by
    have:=K6.out.set_ 0 (.slice A6 (k+1) c6)
    show Blk _ _ _ _
    simpa using this
   have R9:Hid (ReadG (w6.setCell ⟨w.heap.size,0,none⟩ (.slice A6 (k+1) c6)) w1.heap.size r V n (min (64*(k+1)) n) gr Ar):=by
    refine R6.out.mod m9 (by omega) fun i hi e=>?_
    rcases R6.out.2.2.2.2.2.1.foot_le hi with h1 | h1
    ·have:=R6.out.2.2.2.2.1;omega
    ·omega
   have O9:=Lib.hid (own_mod O6.out m9 fun i hi e=>by have:=(O6.out.lt i hi).1;omega)
   have W9:Hid (Below w.heap.size w (w6.setCell ⟨w.heap.size,0,none⟩ (.slice A6 (k+1) c6))):=W6.out.setCell (Nat.le_refl _) _
   have c9:(w6.setCell ⟨w.heap.size,0,none⟩ (.slice A6 (k+1) c6)).cell? ⟨r,1,none⟩=some (.int .i64 ((min (64*(k+1)) n:Nat):Int)):=R9.out.2.2.2.2.2.2.cell 1
   go_roundw
   case rel=>exact ⟨k+1,c6,A6,by omega,K9.out,O9.out,R9.out,W9.out,by simpa [World.setCell] using hsz6⟩
   case measure =>
    rw [c9,hcr]
    have:=HXD.out
    simp only [Option.getD_some,intOf,Int.toNat_natCast]
    omega
  ·obtain rfl:m=k:=by omega
   have hmn:min (64*m) n=n:=by have:=HM.out;omega
   rw [hmn,Nat.sub_self] at LF
   clear hcr
   go_wp2_with fail
   refine LF.out.mono ?_
   rintro e w9 ⟨rfl,j,rfl⟩
   have BD:=Lib.hid (below_draws (Below.refl wr.heap.size wr) j)
   generalize wr.drewN j=w9 at *
   go_wp2_with fail
   go_ret
   refine ⟨w.heap.size,rfl,⟨HV.out,hn,Ak,ck,.slice none 0 0,?_,?_,rfl⟩,Nat.le_refl _,hbl.out.trans (BD.out.mono hbl.out.size)⟩
   ·rw [← HM.out,HPV.out]
    exact hb.out.below BD.out
   ·rw [← HM.out]
    exact own_below (ho.out.base_le' (by omega)) BD.out
def NewYes (w:World) (V n:Nat) (e:Ending) (w':World):Prop :=
 ∃ p g,e=.returned (.tuple #[.pointer (some ⟨p,0,none⟩),.int .i64 0])∧PAt w' p g V n false 0∧w.heap.size≤g∧Below w.heap.size w w'
def NewNo (w:World) (e:Ending) (w':World):Prop:=e=.returned (.tuple #[.pointer none,.int .i64 9])∧Below w.heap.size w w'
def NewPB (w:World) (V n:Nat) (e:Ending) (w':World):Prop:=(Bal (exc V) n∧NewYes w V n e w')∨(¬ Bal (exc V) n∧NewNo w e w')
set_option maxHeartbeats 4000000 in
theorem pnew_p (v V n B:Nat) (A:Option Addr) (w:World) (h:VecB w B v V n A):Calls Tryz.prog 122 #[.pointer (some ⟨v,0,none⟩)] w (NewPB w V n):=by
 have XN:=Lib.hid (xnew_p v V n B A w h)
 have HE:=Lib.hid (exc_Exc V)
 clear h
 go_enter Tryz.func122,Tryz.ntmps122
 go_wp2_with fail
 refine XN.out.mono ?_
 rintro e w2 ⟨g,rfl,hx,hgl,b2⟩
 have hgs:=hx.lt
 have hpa:PAt (w2.alloc (.cells #[.pointer (some ⟨g,0,none⟩),.int .u32 0,.int .i32 0,.int .u32 0,.slice none 0 0,.int .i64 0] 192)) w2.heap.size g V n false 0 :=
  ⟨hgs,⟨false,0,Nat.le_refl _,hx.below ((Below.refl _ _).alloc (Nat.le_refl _) _)⟩,.slice none 0 0,Blk.new w2 _ _,rfl⟩
 have hn:=hx.2.1
 have HP:=Lib.hid hpa
 have B3:Hid (Below w.heap.size w (w2.alloc (.cells #[.pointer (some ⟨g,0,none⟩),.int .u32 0,.int .i32 0,.int .u32 0,.slice none 0 0,.int .i64 0] 192))):=b2.alloc b2.size _
 have PL:=Lib.hid (plen_p _ g V n 0 _ hpa.ix)
 have CH:=Lib.hid fun i (hi:i < n)=>change_f _ g V n 0 _ i hpa.ix hi
 clear hx b2 hpa XN
 go_wp2_with fail
 refine PL.out.mono ?_
 rintro e w3 ⟨rfl,rfl⟩
 go_wp2_with fail
 go_loop [5,13] (fun z x=>∃ (i:Nat) (y:Int),x=.int .i64 (i:Int)∧z=.int .i64 y∧i≤n∧-1000000≤y∧y≤1000000∧Hid (exc V i=y)∧Hid (∀ k,k≤i→0≤exc V k)) (fun _ x=>n - (intOf x).toNat)
 case atStart=>exact ⟨0,0,rfl,rfl,by omega,by omega,by omega,HE.out.zero,fun k hk=>by obtain rfl:k=0:=by omega
                                                                                      rw [HE.out.zero];exact Int.le_refl _⟩
 case round =>
  obtain ⟨i,y,rfl,rfl,hi,hy1,hy2,hy,hab⟩:=hrel
  by_cases hlt:i < n
  ·have C1:=Lib.hid (CH.out i hlt)
   obtain ⟨s,hs⟩:∃ s,exc V (i+1) - exc V i=s:=⟨_,rfl⟩
   rw [hs] at C1
   have hst:=HE.out.step i
   have hs1:-1≤s∧s≤1:=by omega
   have HS:Hid (exc V (i+1)=y+s):=by show _=_;have:=hy.out;omega
   have hbd:=HE.out.bound (i+1)
   rw [HS.out] at hbd
   clear hs hst
   by_cases hneg:y+s < 0
   ·have NB:Hid (¬ Bal (exc V) n):=fun hB=>by have:=hB.1 (i+1) (by omega);rw [HS.out] at this;omega
    go_wp2_with (go_at_call 146;refine C1.out.mono ?_;rintro e w' ⟨rfl,rfl⟩)
    go_ret2
    exact .inr ⟨NB.out,rfl,B3.out⟩
   ·have hd:decide (y+s < 0)=false:=decide_eq_false hneg
    have HAB:Hid (∀ k,k≤i+1→0≤exc V k):=fun k hk=>by
     by_cases e:k=i+1
     ·rw [e,HS.out];omega
     ·exact hab.out k (by omega)
    clear hneg
    go_wp2_with (go_at_call 146;refine C1.out.mono ?_;rintro e w' ⟨rfl,rfl⟩)
    go_round
    case rel=>exact ⟨i+1,y+s,by go_num,rfl,by omega,by omega,by omega,HS.out,HAB.out⟩
    case measure=>simp [intOf];omega
  ·obtain rfl:i=n:=by omega
   by_cases hy0:y=0
   ·have YB:Hid (Bal (exc V) i):=⟨hab.out,by rw [hy.out,hy0]⟩
    subst hy0
    go_wp2_with fail
    go_ret2
    exact .inl ⟨YB.out,_,g,rfl,HP.out,hgl,B3.out⟩
   ·have NB:Hid (¬ Bal (exc V) i):=fun hB=>hy0 (by rw [← hy.out];exact hB.2)
    have g0:(y == 0)=false:=by rw [beq_eq_false_iff_ne];exact hy0
    have g1:(y != 0)=true:=by rw [bne,g0];rfl
    clear hy0
    go_wp2_with fail
    go_ret2
    exact .inr ⟨NB.out,rfl,B3.out⟩
theorem PAt.mod {w w':World} {S:Nat→Prop} {p g V n q:Nat} {d:Bool} (h:PAt w p g V n d q) (m:Mod S w w') (hs:∀ i,S i→i < g):PAt w' p g V n d q:=by
 obtain ⟨h1,⟨r,k,hk,hx⟩,H,hb,ht⟩:=h
 exact ⟨h1,⟨r,k,hk,hx.mod m hs⟩,H,hb.mod m fun hx=>by have:=hs p hx;omega,ht.mod m fun i hi=>by have:=hs i hi;omega⟩
theorem exc_list {l:List Nat} (hb:Bin l) (i:Nat):exc (val l) (i+1)=exc (val l) i+(2*((l.getD i 0:Nat):Int) - 1):=by
 rw [exc_next,val_bit hb]
def GoodP (w:World) (l:List Nat) (m:Nat) (e:Ending) (w':World):Prop:=w=w'∧∃ r:Bool,e=.returned (.bool r)∧(r=true↔Bal (exc (val l)) m)
theorem GoodP.no {w:World} {l:List Nat} {m:Nat} {e:Ending} (he:e=.returned (.bool false)) (h:¬ Bal (exc (val l)) m):GoodP w l m e w:=⟨rfl,false,he,by simp [h]⟩
theorem GoodP.yes {w:World} {l:List Nat} {m:Nat} {e:Ending} (he:e=.returned (.bool true)) (h:Bal (exc (val l)) m):GoodP w l m e w:=⟨rfl,true,he,by simp [h]⟩
theorem exc_snoc {l:List Nat} (hb:Bin l) {b:Nat} (h2:b < 2):∀ k,k≤l.length→exc (val (l++[b])) k=exc (val l) k:=by
 have hb':Bin (l++[b]):=hb.append fun x hx=>by simp at hx;omega
 intro k
 induction k with
 | zero=>intro _;rw [(exc_Exc _).zero,(exc_Exc _).zero]
 | succ k ih =>
   intro hk
   rw [exc_list hb',exc_list hb,ih (by omega),List.getD_eq_getElem?_getD,List.getElem?_append_left (by omega),← List.getD_eq_getElem?_getD]
theorem exc_snoc1 {l:List Nat} (hb:Bin l) {b:Nat} (h2:b < 2):exc (val (l++[b])) (l.length+1)=exc (val l) l.length+(2*(b:Int) - 1):=by
 have hb':Bin (l++[b]):=hb.append fun x hx=>by simp at hx;omega
 rw [exc_list hb',exc_snoc hb h2 _ (Nat.le_refl _),List.getD_eq_getElem?_getD,List.getElem?_append_right (Nat.le_refl _),Nat.sub_self]
 rfl
structure Sofar (l:List Nat) (N o:Nat):Prop where
 bin:Bin l
 len:l.length=N
 open_:exc (val l) N=(o:Int)
 up:∀ k,k≤N→0≤exc (val l) k
theorem Sofar.nil:Sofar [] 0 0:=⟨Bin.nil,rfl,(exc_Exc _).zero,fun k hk=>by obtain rfl:k=0:=by omega
                                                                           rw [(exc_Exc _).zero];exact Int.le_refl _⟩
theorem Sofar.push {l:List Nat} {N o:Nat} (h:Sofar l N o):Sofar (l++[1]) (N+1) (o+1):=by
 have e:=exc_snoc1 h.bin (b:=1) (by omega)
 rw [h.len,h.open_] at e
 refine ⟨h.bin.append fun x hx=>by simp at hx;omega,by rw [List.length_append,h.len];rfl,by rw [e];omega,fun k hk=>?_⟩
 by_cases hk1:k=N+1
 ·rw [hk1,e];omega
 ·rw [exc_snoc h.bin (by omega) k (by rw [h.len];omega)];exact h.up k (by omega)
theorem Sofar.pop {l:List Nat} {N o:Nat} (h:Sofar l N (o+1)):Sofar (l++[0]) (N+1) o:=by
 have e:=exc_snoc1 h.bin (b:=0) (by omega)
 rw [h.len,h.open_] at e
 refine ⟨h.bin.append fun x hx=>by simp at hx;omega,by rw [List.length_append,h.len];rfl,by rw [e];omega,fun k hk=>?_⟩
 by_cases hk1:k=N+1
 ·rw [hk1,e];omega
 ·rw [exc_snoc h.bin (by omega) k (by rw [h.len];omega)];exact h.up k (by omega)
def atN (s:Nat) (ks:List Nat):Nat→List Nat
 | 0=>[]
 | j+1=>if ks.getD j 0 / 2=s then atN s ks j++[j] else atN s ks j
theorem atN_len (s:Nat) (ks:List Nat):∀ j,j≤ks.length→(atN s ks j).length=ah s ks j
 | 0,_=>by rw [ah_zero];rfl
 | j+1,h=>by
   have:=atN_len s ks j (by omega)
   rw [ah_next s ks j (by omega),atN]
   split
   ·rw [List.length_append,this];rfl
   ·rw [this];rfl
theorem atN_get (s:Nat) (ks:List Nat) (i:Nat) (hs:ks.getD i 0 / 2=s):∀ j,i < j→j≤ks.length→(atN s ks j).getD (ah s ks i) 0=i
 | 0,h,_=>by omega
 | j+1,h,hj=>by
   have hl:=atN_len s ks j (by omega)
   by_cases e:i=j
   ·subst e
    rw [atN,if_pos hs,List.getD_eq_getElem?_getD,List.getElem?_append_right (by omega),hl];simp
   ·have ih:=atN_get s ks i hs j (by omega) (by omega)
    have hm:=ah_mono s ks (i+1) (j - (i+1)) (by omega)
    rw [show i+1+(j - (i+1))=j by omega,ah_next s ks i (by omega),if_pos hs] at hm
    rw [atN]
    split
    ·rw [List.getD_eq_getElem?_getD,List.getElem?_append_left (by omega),← List.getD_eq_getElem?_getD];exact ih
    ·exact ih
def SortP (w:World) (s:Nat) (ks:List Nat) (e:Ending) (w':World):Prop :=
 ∃ A1 c1 A2 c2,e=.returned (.tuple #[.slice A1 (ownL s ks).length c1,.slice A2 (ownL s ks).length c2])∧w'.ownsRow w.heap.size 3 1 (.slice A1 (ownL s ks).length c1) (ownL s ks).length (I64 (ofNB (ownL s ks)))∧w'.ownsRow w.heap.size 3 1 (.slice A2 (ownL s ks).length c2) (ownL s ks).length (I64 (ofNB (atN s ks ks.length)))∧Below w.heap.size w w'
structure SSt4 (w:World) (s:Nat) (ks:List Nat) (A1:Option Addr) (c1:Nat) (A2:Option Addr) (c2 y j:Nat) (W:World):Prop where
 hy:y=ah s ks j
 o1:W.ownsRow w.heap.size 3 1 (.slice A1 y c1) y (I64 (ofNB (ownL s (ks.take j))))
 o2:W.ownsRow w.heap.size 3 1 (.slice A2 y c2) y (I64 (ofNB (atN s ks j)))
 dj:∀ k,(Value.slice A1 y c1).ownBlock=some k→(Value.slice A2 y c2).ownBlock≠some k
 be:Below w.heap.size w W
set_option maxHeartbeats 8000000 in
theorem sort_p (A:Option Addr) (n c s:Nat) (ks:List Nat) (w:World) (h:Rd w w.heap.size A n (I64 (ofNB ks))) (hk:Kds ks) (hs:s < 2) (hn:n≤100000) :
  Calls Tryz.prog 109 #[.slice A n c,.int .i64 (s:Int)] w (SortP w s ks):=by
 obtain ⟨i0,hi0,hz0,hz1,hz2⟩:=info_parts info_int
 have HL:Hid (ks.length=n):=by have:=h.len;rw [I64_len,ofN_lenB] at this;exact this
 have H:=Lib.hid h
 have HK:=Lib.hid hk
 have S0:Hid (SSt4 w s ks none 0 none 0 0 0 w):=⟨(ah_zero s ks).symm,World.ownsRow_nil _ _ _ _,World.ownsRow_nil _ _ _ _,fun k hk=>by simp [Value.ownBlock] at hk,Below.refl _ _⟩
 clear h hk
 go_enter Tryz.func109,Tryz.ntmps109
 go_wp2_with fail
 go_loopw [6,7,12] (fun u v i wr=>∃ (j y c1 c2:Nat) (A1 A2:Option Addr),j≤n∧y≤j∧i=.int .i64 (j:Int)∧u=.slice A1 y c1∧v=.slice A2 y c2∧Hid (SSt4 w s ks A1 c1 A2 c2 y j wr)) (fun _ _ i _=>n - (intOf i).toNat)
 case atStart=>exact ⟨0,0,0,0,none,none,by omega,by omega,rfl,rfl,rfl,S0⟩
 case round =>
  clear S0
  obtain ⟨j,y,c1,c2,A1,A2,hj,hyj,rfl,rfl,rfl,HS⟩:=hrel
  by_cases hlt:j < n
  ·obtain ⟨bb,o,rfl,_,kk⟩:=(H.out.below HS.out.be).i64 (by omega)
   have x0:=kk j hlt
   rw [ofN_getB] at x0
   have hk4:=HK.out.getD j
   have NA:Hid (ah s ks (j+1)=ah s ks j+if ks.getD j 0 / 2=s then 1 else 0):=ah_next s ks j (by rw [HL.out];exact hlt)
   have NO:Hid (ownL s (ks.take (j+1))=ownL s (ks.take j)++if ks.getD j 0 / 2=s then [1 - ks.getD j 0%2] else []):=by
    show _=_
    rw [take_snoc ks j (by rw [HL.out];exact hlt),ownL_app,ownL_one]
   have NT:Hid (atN s ks (j+1)=if ks.getD j 0 / 2=s then atN s ks j++[j] else atN s ks j):=rfl
   obtain ⟨k,hkd⟩:∃ k,k=ks.getD j 0:=⟨_,rfl⟩
   rw [← hkd] at x0 hk4 NA NO NT
   have d1:(k:Int).tdiv 2=((k / 2:Nat):Int):=by rw [Int.tdiv_eq_ediv_of_nonneg (by omega)];omega
   have d2:(k:Int) / 2=((k / 2:Nat):Int):=by omega
   have d3:IntKind.i64.wrap ((k / 2:Nat):Int)=((k / 2:Nat):Int):=by rw [IntKind.wrap_i64];omega
   have m1:(k:Int).tmod 2=((k%2:Nat):Int):=by rw [Int.tmod_eq_emod_of_nonneg (by omega)];omega
   have m3:IntKind.i64.wrap ((k%2:Nat):Int)=((k%2:Nat):Int):=by rw [IntKind.wrap_i64];omega
   have m2:(1:Int) - ((k%2:Nat):Int)=((1 - k%2:Nat):Int):=by omega
   have m4:IntKind.i64.wrap ((1 - k%2:Nat):Int)=((1 - k%2:Nat):Int):=by rw [IntKind.wrap_i64];omega
   have hm9:1 - k%2≤1:=by omega
   generalize 1 - k%2=b at *
   generalize k%2=r at *
   generalize k / 2=q at *
   clear kk hkd
   by_cases hq:q=s
   ·subst hq
    rw [if_pos rfl] at NA NO NT
    obtain ⟨hy,o1,o2,dj,be⟩:=HS.out
    have t2:y+1≤maxLen:=by simp only [maxLen];omega
    have t3:(y+1)*8≤140737488355328:=by omega
    obtain ⟨wx,hwx⟩:∃ wx,wr=wx:=⟨_,rfl⟩
    subst hwx
    have hown3:=o1.alloc (.cells #[.int .i64 (b:Int)] 3)
    have r3:=Rd.new wr 3 #[.int .i64 (b:Int)] 1 (I64 [(b:Int)]) (by simp [I64]) (by simp)
    have t4:w.heap.size≤(wr.alloc (.cells #[.int .i64 (b:Int)] 3)).heap.size:=by have:=be.size;simp;omega
    have HX:=Lib.hid (And.intro hy (And.intro o2 (And.intro dj be)))
    clear o2 dj be hy HS
    go_wp2_with (first
     | (at_builtin;go_must (refine wpList_append_rd _ rfl _ _ 25 rfl w.heap.size 3 i0 (.int .i64 0) 8 Tryz.underlying25 hi0 hz0 hz1 hz2 rfl (.slice A1 y c1) y (I64 (ofNB (ownL q (ks.take j)))) rfl hown3 (wr.heap.size+1) (some ⟨wr.heap.size,0,none⟩) 1 1 (I64 [(b:Int)]) rfl r3 (I64_one _) t2 t3 t4 ?_)))
    intro A6 c6 w6 hc6 hm6 hown6 hg6 hb6
    have O6:Hid (w6.ownsRow w.heap.size 3 1 (.slice A6 (y+1) c6) (y+1) (I64 (ofNB (ownL q (ks.take (j+1)))))):=by
     have:=hown6
     rw [← I64_append] at this
     rw [NO.out,ofN_appendB]
     exact this
    have MG:=Mod.ofGrown hg6
    have o26:=own_mod (HX.out.2.1.alloc (.cells #[.int .i64 (b:Int)] 3)) MG (fun g hg e=>HX.out.2.2.1 g e.symm hg)
    have dj6:Hid (∀ k,(Value.slice A6 (y+1) c6).ownBlock=some k→(Value.slice A2 y c2).ownBlock≠some k):=fun k hk=>by
     rcases hb6 with g | g
     ·exact HX.out.2.2.1 k (by rw [← g];exact hk)
     ·intro q2
      have:=(HX.out.2.1.lt k q2).2
      rw [hk] at g
      have q3:=Option.some.inj g
      (try simp at q3)
      omega
    have hb6':=(HX.out.2.2.2.alloc HX.out.2.2.2.size (.cells #[.int .i64 (b:Int)] 3)).trans (Below.appended hown3 hg6 t4)
    have HB6:=Lib.hid hb6'
    have hown3':=o26.alloc (.cells #[.int .i64 (j:Int)] 3)
    have r3':=Rd.new w6 3 #[.int .i64 (j:Int)] 1 (I64 [(j:Int)]) (by simp [I64]) (by simp)
    have t4':w.heap.size≤(w6.alloc (.cells #[.int .i64 (j:Int)] 3)).heap.size:=by have:=hb6'.size;simp;omega
    have HY:=Lib.hid HX.out.1
    clear hown6 hb6' o26 MG hown3 r3 t4 HX hb6 hg6 hc6 hm6 o1
    go_wp2_with (first
     | (at_builtin;go_must (refine wpList_append_rd _ rfl _ _ 25 rfl w.heap.size 3 i0 (.int .i64 0) 8 Tryz.underlying25 hi0 hz0 hz1 hz2 rfl (.slice A2 y c2) y (I64 (ofNB (atN q ks j))) rfl hown3' (w6.heap.size+1) (some ⟨w6.heap.size,0,none⟩) 1 1 (I64 [(j:Int)]) rfl r3' (I64_one _) t2 t3 t4' ?_)))
    intro A7 c7 w7 hc7 hm7 hown7 hg7 hb7
    have O7:Hid (w7.ownsRow w.heap.size 3 1 (.slice A7 (y+1) c7) (y+1) (I64 (ofNB (atN q ks (j+1))))):=by
     have:=hown7
     rw [← I64_append] at this
     rw [NT.out,ofN_appendB]
     exact this
    have MG:=Mod.ofGrown hg7
    have o17:=own_mod (O6.out.alloc (.cells #[.int .i64 (j:Int)] 3)) MG (fun g hg e=>dj6.out g hg e.symm)
    have dj7:∀ k,(Value.slice A6 (y+1) c6).ownBlock=some k→(Value.slice A7 (y+1) c7).ownBlock≠some k:=fun k hk q2=>by
     rcases hb7 with g | g
     ·exact dj6.out k hk (by rw [← g];exact q2)
     ·have:=(O6.out.lt k hk).2
      rw [q2] at g
      have q3:=Option.some.inj g
      (try simp at q3)
      omega
    have hb7':=(HB6.out.alloc HB6.out.size (.cells #[.int .i64 (j:Int)] 3)).trans (Below.appended hown3' hg7 t4')
    have R7:Hid (SSt4 w q ks A6 c6 A7 c7 (y+1) (j+1) w7):=⟨by rw [NA.out,HY.out],o17,O7.out,dj7,hb7'⟩
    clear hown7 MG o17 dj7 hb7' O7 O6 dj6 HB6 HY hown3' r3' t4' hb7 hg7 hc7 hm7
    go_wp2_with fail
    go_roundw
    case rel=>exact ⟨j+1,y+1,c6,c7,A6,A7,by omega,by omega,by go_num,rfl,rfl,R7⟩
    case measure=>simp [intOf];omega
   ·rw [if_neg hq] at NA NO NT
    have R7:Hid (SSt4 w s ks A1 c1 A2 c2 y (j+1) wr):=by
     obtain ⟨hy,o1,o2,dj,be⟩:=HS.out
     exact ⟨by rw [NA.out,hy];rfl,by rw [NO.out,List.append_nil];exact o1,by rw [NT.out];exact o2,dj,be⟩
    have hqb:((q:Int) == (s:Int))=false:=by rw [beq_eq_false_iff_ne];omega
    clear HS NA NO NT
    go_wp2_with fail
    go_roundw
    case rel=>exact ⟨j+1,y,c1,c2,A1,A2,by omega,by omega,by go_num,rfl,rfl,R7⟩
    case measure=>simp [intOf];omega
  ·obtain rfl:j=n:=by omega
   have HF:Hid (∀ A1 c1 A2 c2,SSt4 w s ks A1 c1 A2 c2 y j wr→y=(ownL s ks).length∧SortP w s ks (.returned (.tuple #[.slice A1 y c1,.slice A2 y c2])) wr):=fun A1 c1 A2 c2 h=>by
    obtain ⟨hy,o1,o2,dj,be⟩:=h
    rw [← HL.out,ah_all] at hy
    subst hy
    rw [← HL.out,List.take_length] at o1
    rw [← HL.out] at o2
    exact ⟨rfl,A1,c1,A2,c2,rfl,o1,o2,be⟩
   go_wp2_with fail
   go_ret2
   exact (HF.out _ _ _ _ HS.out).2
def topZ (s:List Nat):Int:=if s.length=0 then -1 else ((s.getD (s.length - 1) 0:Nat):Int)
theorem step_of {ks:List Nat} {i:Nat} (hi:i < ks.length) (hs:ks.getD i 0 / 2=0):exc (val (ownL 0 ks)) (ah 0 ks i+1)=exc (val (ownL 0 ks)) (ah 0 ks i)+(2*((1 - ks.getD i 0%2:Nat):Int) - 1):=by
 rw [exc_list (ownL_bin 0 ks),ownL_get 0 ks i hi hs]
theorem ownZ_stack {ks:List Nat} (h:Kds ks) (hB:Bal (exc (val (ownL 0 ks))) (ownL 0 ks).length) {i:Nat} (hi:i < ks.length) {s:List Nat}
  (hs:Stack (exc (val (ownL 0 ks))) (ah 0 ks i) s):OwnZ ks i (topZ s):=by
 have hE:=exc_Exc (val (ownL 0 ks))
 have hl:=ah_end 0 ks i (by omega)
 unfold OwnZ
 split
 ·rename_i hk
  have hs0:ks.getD i 0 / 2=0:=by omega
  have hst:=step_of hi hs0
  rw [hk] at hst
  have hst':exc (val (ownL 0 ks)) (ah 0 ks i+1)=exc (val (ownL 0 ks)) (ah 0 ks i) - 1:=by rw [hst];omega
  have hlt:=ah_lt 0 ks i hi hs0
  have h1:=hB.1 (ah 0 ks i+1) (by omega)
  have h0:0 < s.length:=by have:=hs.1;omega
  have hp:=(hs.pop hst' h0).2
  unfold topZ
  rw [if_neg (by omega)]
  exact ⟨_,rfl,.inr hp⟩
 split
 ·rename_i h0
  have:=hs.1
  rw [h0,hE.zero] at this
  unfold topZ
  rw [if_pos (by omega)]
 rename_i hk h0
 obtain ⟨y,hy⟩:∃ y,ah 0 ks i=y+1:=⟨ah 0 ks i - 1,by omega⟩
 rw [hy] at hs hl
 rw [hy,Nat.add_sub_cancel]
 have hst:=exc_list (ownL_bin 0 ks) y
 have h1:=hs.1
 have hy0:=hB.1 y (by omega)
 have hy1:=hB.1 (y+1) (by omega)
 have hb:=(ownL_bin 0 ks).getD y
 split
 ·rename_i ho
  rw [ho] at hst
  have hl0:0 < s.length:=by omega
  obtain ⟨a,b,c⟩:=hs.2 (s.length - 1) (by omega)
  unfold topZ
  rw [if_neg (by omega)]
  by_cases e:s.getD (s.length - 1) 0=y
  ·rw [e]
  ·have:=c y (by omega) (by omega)
   omega
 ·rename_i ho
  have ho0:(ownL 0 ks).getD y 0=0:=by omega
  rw [ho0] at hst
  intro a ha
  obtain rfl:a=y+1:=by omega
  unfold topZ
  by_cases e:s.length=0
  ·rw [if_pos e,if_pos (by omega)]
  ·rw [if_neg e,if_neg (by omega)]
   obtain ⟨a,b,c⟩:=hs.2 (s.length - 1) (by omega)
   exact ⟨_,rfl,a,by omega,fun k p q=>by have:=c k p (by omega);omega⟩
theorem map_getD (f:Nat→Nat) (S:List Nat) (j:Nat) (h:j < S.length):(S.map f).getD j 0=f (S.getD j 0):=by
 simp [List.getD_eq_getElem?_getD,h]
structure OStk (ks:List Nat) (i:Nat) (S:List Nat):Prop where
 st:Stack (exc (val (ownL 0 ks))) (ah 0 ks i) (S.map (ah 0 ks))
 sp:∀ p∈S,p < i∧ks.getD p 0 / 2=0
theorem OStk.nil (ks:List Nat):OStk ks 0 []:=⟨by rw [ah_zero];exact Stack.nil (exc_Exc _),fun p h=>by simp at h⟩
def topP (S:List Nat):Int:=if S.length=0 then -1 else ((S.getD (S.length - 1) 0:Nat):Int)
theorem OStk.own {ks:List Nat} {i:Nat} {S:List Nat} (h:OStk ks i S) (hk:Kds ks) (hB:Bal (exc (val (ownL 0 ks))) (ownL 0 ks).length) (hi:i < ks.length):OwnAt ks i (topP S):=by
 refine ⟨_,ownZ_stack hk hB hi h.st,?_⟩
 unfold topZ topP
 rw [List.length_map]
 by_cases e:S.length=0
 ·rw [if_pos e,if_pos e];exact .inl ⟨rfl,rfl⟩
 ·rw [if_neg e,if_neg e,map_getD _ _ _ (by omega)]
  have hm:S.getD (S.length - 1) 0∈S:=by
   rw [List.getD_eq_getElem?_getD,List.getElem?_eq_getElem (by omega)];exact List.getElem_mem _
  obtain ⟨a,b⟩:=h.sp _ hm
  exact .inr ⟨_,rfl,by omega,b,rfl⟩
theorem OStk.push {ks:List Nat} {i:Nat} {S:List Nat} (h:OStk ks i S) (hi:i < ks.length) (hk:ks.getD i 0=0):OStk ks (i+1) (S++[i]):=by
 have hst:=step_of hi (by omega:ks.getD i 0 / 2=0)
 rw [hk] at hst
 refine ⟨?_,fun p hp=>?_⟩
 ·rw [ah_next 0 ks i hi,if_pos (by omega),List.map_append]
  exact h.st.push (by rw [hst];rfl)
 ·rcases List.mem_append.1 hp with q | q
  ·have:=h.sp p q;exact ⟨by omega,this.2⟩
  ·simp at q;subst q;exact ⟨by omega,by omega⟩
theorem OStk.pop {ks:List Nat} {i:Nat} {S:List Nat} (h:OStk ks i S) (hB:Bal (exc (val (ownL 0 ks))) (ownL 0 ks).length) (hi:i < ks.length) (hk:ks.getD i 0=1):0 < S.length∧OStk ks (i+1) (S.take (S.length - 1)):=by
 have hs0:ks.getD i 0 / 2=0:=by omega
 have hst:=step_of hi hs0
 rw [hk] at hst
 have hst':exc (val (ownL 0 ks)) (ah 0 ks i+1)=exc (val (ownL 0 ks)) (ah 0 ks i) - 1:=by rw [hst];omega
 have hlt:=ah_lt 0 ks i hi hs0
 have h1:=hB.1 (ah 0 ks i+1) (by omega)
 have h2:=h.st.1
 rw [List.length_map] at h2
 have h0:0 < S.length:=by omega
 refine ⟨h0,?_,fun p hp=>?_⟩
 ·rw [ah_next 0 ks i hi,if_pos hs0,List.map_take]
  have:=(h.st.pop hst' (by rw [List.length_map];exact h0)).1
  rw [List.length_map] at this
  exact this
 ·have:=h.sp p (List.mem_of_mem_take hp);exact ⟨by omega,this.2⟩
theorem OStk.skip {ks:List Nat} {i:Nat} {S:List Nat} (h:OStk ks i S) (hi:i < ks.length) (hk:ks.getD i 0 / 2≠0):OStk ks (i+1) S :=
 ⟨by rw [ah_next 0 ks i hi,if_neg hk];exact h.st,fun p hp=>by have:=h.sp p hp;exact ⟨by omega,this.2⟩⟩
def MatI (ks:List Nat) (p:Nat) (v:Int):Prop:=∃ q:Nat,v=(q:Int)∧MateAt ks p q
theorem mate_lt (l:List Nat) (x:Int) (hB:Bal (exc (val l)) l.length) (y:Nat) (hy:y < l.length) (hm:MateOK (exc (val l)) y x):∃ z:Nat,x=(z:Int)∧z < l.length:=by
 obtain ⟨z,rfl,hp⟩:=hm
 refine ⟨z,rfl,?_⟩
 rcases hp with hp | hp
 ·have hj:=fwd_ex hB hy (m:=exc (val l) y) (hB.1 y (by omega))
  obtain ⟨j,hj⟩:=hj
  have:=(hj.pair (exc_Exc _) (hp.opens (exc_Exc _))).uniq hp
  have:=hj.le
  have:=hj.lt
  omega
 ·have:=hp.lt;omega
theorem matI_of {ks:List Nat} {s i:Nat} (hi:i < ks.length) (hs:ks.getD i 0 / 2=s) (hB:Bal (exc (val (ownL s ks))) (ownL s ks).length) {x:Int} (hm:MateOK (exc (val (ownL s ks))) (ah s ks i) x) :
  ∃ z:Nat,x=(z:Int)∧z < (ownL s ks).length∧MatI ks i (((atN s ks ks.length).getD z 0:Nat):Int):=by
 obtain ⟨z,rfl,hz⟩:=mate_lt _ _ hB _ (ah_lt s ks i hi hs) hm
 obtain ⟨p,hp,hps,hpa⟩:=ah_find s ks z hz
 have:=atN_get s ks p hps ks.length hp (Nat.le_refl _)
 rw [hpa] at this
 refine ⟨z,rfl,hz,p,by rw [this],hp,by rw [hps,hs],?_⟩
 rw [hs,hpa];exact hm
theorem atN_back {ks:List Nat} {s y:Nat} (hy:y < (ownL s ks).length):∃ p,p < ks.length∧ks.getD p 0 / 2=s∧ah s ks p=y∧(atN s ks ks.length).getD y 0=p:=by
 obtain ⟨p,hp,hps,hpa⟩:=ah_find s ks y hy
 have:=atN_get s ks p hps ks.length hp (Nat.le_refl _)
 rw [hpa] at this
 exact ⟨p,hp,hps,hpa,this⟩
structure Sof4 (ks:List Nat) (N r e:Nat):Prop where
 kd:Kds ks
 len:ks.length=N
 s0:Sofar (ownL 0 ks) (ownL 0 ks).length r
 s1:Sofar (ownL 1 ks) (ownL 1 ks).length e
theorem Sof4.nil:Sof4 [] 0 0 0:=⟨fun k h=>by simp at h,rfl,Sofar.nil,Sofar.nil⟩
theorem kds_snoc {ks:List Nat} (h:Kds ks) {x:Nat} (hx:x < 4):Kds (ks++[x]):=h.append fun k hk=>by simp at hk;omega
theorem Sof4.add0 {ks:List Nat} {N r e:Nat} (h:Sof4 ks N r e):Sof4 (ks++[0]) (N+1) (r+1) e:=by
 refine ⟨kds_snoc h.kd (by omega),by rw [List.length_append,h.len];rfl,?_,?_⟩
 ·rw [ownL_app,ownL_one,if_pos (by decide),List.length_append];exact h.s0.push
 ·rw [ownL_app,ownL_one,if_neg (by decide),List.append_nil];exact h.s1
theorem Sof4.add2 {ks:List Nat} {N r e:Nat} (h:Sof4 ks N r e):Sof4 (ks++[2]) (N+1) r (e+1):=by
 refine ⟨kds_snoc h.kd (by omega),by rw [List.length_append,h.len];rfl,?_,?_⟩
 ·rw [ownL_app,ownL_one,if_neg (by decide),List.append_nil];exact h.s0
 ·rw [ownL_app,ownL_one,if_pos (by decide),List.length_append];exact h.s1.push
theorem Sof4.add1 {ks:List Nat} {N r e:Nat} (h:Sof4 ks N (r+1) e):Sof4 (ks++[1]) (N+1) r e:=by
 refine ⟨kds_snoc h.kd (by omega),by rw [List.length_append,h.len];rfl,?_,?_⟩
 ·rw [ownL_app,ownL_one,if_pos (by decide),List.length_append];exact h.s0.pop
 ·rw [ownL_app,ownL_one,if_neg (by decide),List.append_nil];exact h.s1
theorem Sof4.add3 {ks:List Nat} {N r e:Nat} (h:Sof4 ks N r (e+1)):Sof4 (ks++[3]) (N+1) r e:=by
 refine ⟨kds_snoc h.kd (by omega),by rw [List.length_append,h.len];rfl,?_,?_⟩
 ·rw [ownL_app,ownL_one,if_neg (by decide),List.append_nil];exact h.s0
 ·rw [ownL_app,ownL_one,if_pos (by decide),List.length_append];exact h.s1.pop
theorem Sof4.bal {ks:List Nat} {N:Nat} (h:Sof4 ks N 0 0):Bal (exc (val (ownL 0 ks))) (ownL 0 ks).length∧Bal (exc (val (ownL 1 ks))) (ownL 1 ks).length :=
 ⟨⟨h.s0.up,h.s0.open_⟩,⟨h.s1.up,h.s1.open_⟩⟩
end Go.Proofs.YtajjgpkahljjmaaGreatDoor
