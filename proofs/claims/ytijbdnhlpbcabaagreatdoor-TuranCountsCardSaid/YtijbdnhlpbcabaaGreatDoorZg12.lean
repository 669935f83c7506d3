/- Mate, Round. -/
import Derived.Test.YtijbdnhlpbcabaaGreatDoorZg11
import Derived.Test.YtijbdnhlpbcabaaGreatDoorZg5
import Derived.Test.YtijbdnhlpbcabaaGreatDoorZg8
import Derived.Test.YtijbdnhlpbcabaaGreatDoorZg10
import Derived.Test.YtijbdnhlpbcabaaGreatDoorZg6
import Derived.Test.YtijbdnhlpbcabaaGreatDoorZg1
import Derived.Laws.BytesArg
import Derived.ArgAppend
import Derived.RegionTactic
import Derived.Deep.QuietTactic
import Derived.BigQuiet
open Go.RowKit
set_option linter.unusedVariables false
namespace Go.Proofs.YtijbdnhlpbcabaaGreatDoor
set_option maxRecDepth 20000
def Two2 (g p:Nat) (i:Nat):Prop:=i=g∨i=p
theorem mod_g {w w':World} {g p:Nat} (h:Mod (fun i=>i=g) w w'):Mod (Two2 g p) w w':=h.mono fun _ _ h=>.inl h
theorem mod_p {w w':World} {g p:Nat} (h:Mod (fun i=>i=p) w w'):Mod (Two2 g p) w w':=h.mono fun _ _ h=>.inr h
theorem Mod.two {w w1 w2:World} {g p:Nat} (h:Mod (Two2 g p) w w1) (k:Mod (Two2 g p) w1 w2):Mod (Two2 g p) w w2:=h.trans k fun _ _ h=>h
def AskP (w:World) (p g V n q:Nat) (P:Int→Prop) (e:Ending) (w':World):Prop :=
 PAt w' p g V n true q∧Mod (Two2 g p) w w'∧∃ y:Int,e=.returned (.tuple #[.int .i64 y,.int .i64 0])∧P y∧-1000000≤y∧y≤1000000
section
variable (p g V n q:Nat) (d:Bool) (w:World)
set_option maxHeartbeats 4000000 in
theorem mate_yes (i:Nat) (hN:Nul w) (hpn:p≠1) (h:PAt w p g V n d q) (hB:Bal (exc V) n) (hi:i < n) (hq:q≤990000) :
  Calls Tryz.prog 168 #[.pointer (some ⟨p,0,none⟩),.int .i64 (i:Int)] w (AskP w p g V n (q+4) (MateOK (exc V) i)):=by
 have hn:=h.n9
 have LN:=Lib.hid (plen_p p g V n q w h.ix)
 have RO:=Lib.hid (ready_ok p g V n q d (i:Int) (i:Int) ((n:Int) - 1) w hN h hpn (by omega) (by omega) (by omega))
 have HB:=Lib.hid hB
 have HE:=Lib.hid (exc_Exc V)
 have hx:=exc_next V i
 have hbit:V / 2 ^ i%2=0∨V / 2 ^ i%2=1:=by omega
 clear h hB hN
 go_enter Tryz.func168,Tryz.ntmps168
 go_wp2_with (go_at_call 145;refine LN.out.mono ?_;rintro e w' ⟨rfl,rfl⟩)
 refine RO.out.mono ?_
 rintro e w2 ⟨rfl,h2,m2⟩
 have H2:=Lib.hid h2
 have M2:Hid (Mod (Two2 g p) w w2):=mod_p m2
 have OP:=Lib.hid (popen_in p g V n q w2 i h2.ix hi)
 clear h2 m2 RO LN
 rcases hbit with hb | hb
 ·rw [hb] at OP hx
  have e1:exc V (i+1)=exc V i - 1:=by omega
  have EX:=Lib.hid (excess_p p g V n q true w2 (i+1) H2.out (by omega) (by omega))
  rw [show ((i+1:Nat):Int)=(i:Int)+1 by omega] at EX
  have hm0:=HB.out.1 (i+1) (by omega)
  obtain ⟨y,hy⟩:∃ y,exc V (i+1)=y:=⟨_,rfl⟩
  rw [hy] at EX hm0
  have HY:=Lib.hid hy
  have E1:=Lib.hid e1
  clear hx hy e1 hb
  go_wp2_with (first
   | (go_at_call 126;refine OP.out.mono ?_;rintro e w' ⟨rfl,rfl⟩))
  refine EX.out.mono ?_
  rintro e w3 ⟨rfl,h3,m3⟩
  have SK:=Lib.hid (seek_b p g V n (q+1) w3 (i+1) y h3 (by omega) (by omega) hm0 (by omega))
  rw [show ((i+1:Nat):Int)=(i:Int)+1 by omega] at SK
  have M3:Hid (Mod (Two2 g p) w w3):=M2.out.two (mod_g m3)
  clear h3 m3 M2 EX
  go_wp2_with fail
  refine SK.out.mono ?_
  rintro e w4 ⟨h4,m4,j,rfl,hj⟩
  have H4:=Lib.hid h4
  have M4:Hid (Mod (Two2 g p) w w4):=M3.out.two (mod_g m4)
  have hjl:=hj.lt
  have OK:Hid (MateOK (exc V) i (j:Int)):=⟨j,rfl,.inr (Bwd.pair HE.out E1.out (by rw [HY.out];exact hj))⟩
  clear h4 m4 hj SK
  go_wp2_with fail
  go_ret2
  exact ⟨H4.out,M4.out,j,rfl,OK.out,by omega,by omega⟩
 ·rw [hb] at OP hx
  have e1:exc V (i+1)=exc V i+1:=by omega
  have EX:=Lib.hid (excess_p p g V n q true w2 i H2.out (by omega) (by omega))
  have hm0:=HB.out.1 i (by omega)
  obtain ⟨y,hy⟩:∃ y,exc V i=y:=⟨_,rfl⟩
  rw [hy] at EX hm0
  have HY:=Lib.hid hy
  have E1:=Lib.hid e1
  clear hx hy e1 hb
  go_wp2_with (first
   | (go_at_call 126;refine OP.out.mono ?_;rintro e w' ⟨rfl,rfl⟩))
  refine EX.out.mono ?_
  rintro e w3 ⟨rfl,h3,m3⟩
  have SK:=Lib.hid (seek_f p g V n (q+1) w3 i y h3 HB.out hi hm0 (by omega))
  have M3:Hid (Mod (Two2 g p) w w3):=M2.out.two (mod_g m3)
  clear h3 m3 M2 EX
  go_wp2_with fail
  refine SK.out.mono ?_
  rintro e w4 ⟨h4,m4,j,rfl,hj⟩
  have H4:=Lib.hid h4
  have M4:Hid (Mod (Two2 g p) w w4):=M3.out.two (mod_g m4)
  have hjl:=hj.lt
  have hjn:=hj.le
  have OK:Hid (MateOK (exc V) i ((j:Int) - 1)):=⟨j - 1,by omega,.inl (Fwd.pair HE.out E1.out (by rw [HY.out];exact hj))⟩
  clear h4 m4 hj SK
  go_wp2_with fail
  go_ret2
  exact ⟨H4.out,M4.out,(j:Int) - 1,rfl,OK.out,by omega,by omega⟩
set_option maxHeartbeats 4000000 in
theorem round_yes (i:Nat) (hN:Nul w) (hpn:p≠1) (h:PAt w p g V n d q) (hB:Bal (exc V) n) (hi:i < n) (hq:q≤990000) :
  Calls Tryz.prog 164 #[.pointer (some ⟨p,0,none⟩),.int .i64 (i:Int)] w (AskP w p g V n (q+4) (RoundOK (exc V) i)):=by
 have hn:=h.n9
 have LN:=Lib.hid (plen_p p g V n q w h.ix)
 have RO:=Lib.hid (ready_ok p g V n q d (i:Int) (i:Int) ((n:Int) - 1) w hN h hpn (by omega) (by omega) (by omega))
 have HB:=Lib.hid hB
 have HE:=Lib.hid (exc_Exc V)
 have hx:=exc_next V i
 have hbit:V / 2 ^ i%2=0∨V / 2 ^ i%2=1:=by omega
 clear h hB hN
 go_enter Tryz.func164,Tryz.ntmps164
 go_wp2_with (go_at_call 145;refine LN.out.mono ?_;rintro e w' ⟨rfl,rfl⟩)
 refine RO.out.mono ?_
 rintro e w2 ⟨rfl,h2,m2⟩
 have H2:=Lib.hid h2
 have M2:Hid (Mod (Two2 g p) w w2):=mod_p m2
 have OP:=Lib.hid (popen_in p g V n q w2 i h2.ix hi)
 clear h2 m2 RO LN
 rcases hbit with hb | hb
 ·rw [hb] at OP hx
  have e1:exc V (i+1)=exc V i - 1:=by omega
  have EX:=Lib.hid (excess_p p g V n q true w2 (i+1) H2.out (by omega) (by omega))
  rw [show ((i+1:Nat):Int)=(i:Int)+1 by omega] at EX
  have hm0:=HB.out.1 (i+1) (by omega)
  obtain ⟨y,hy⟩:∃ y,exc V (i+1)=y:=⟨_,rfl⟩
  rw [hy] at EX hm0
  have HY:=Lib.hid hy
  have E1:=Lib.hid e1
  clear hx hy e1 hb
  go_wp2_with (first
   | (go_at_call 126;refine OP.out.mono ?_;rintro e w' ⟨rfl,rfl⟩))
  refine EX.out.mono ?_
  rintro e w3 ⟨rfl,h3,m3⟩
  have H3:=Lib.hid h3
  have M3:Hid (Mod (Two2 g p) w w3):=M2.out.two (mod_g m3)
  clear h3 m3 M2 EX
  by_cases hy0:y=0
  ·have OK:Hid (RoundOK (exc V) i (-1)):=fun a ha=>by
    obtain rfl:a=i+1:=by have:=E1.out;rcases ha with x | x <;> omega
    rw [if_pos (by rw [HY.out];exact hy0)]
   subst hy0
   go_wp2_with fail
   go_ret2
   exact ⟨H3.out.le (by omega),M3.out,-1,rfl,OK.out,by omega,by omega⟩
  ·have g0:(y == 0)=false:=by rw [beq_eq_false_iff_ne];exact hy0
   have SK:=Lib.hid (seek_b p g V n (q+1) w3 (i+1) (y - 1) H3.out (by omega) (by omega) (by omega) (by omega))
   rw [show ((i+1:Nat):Int)=(i:Int)+1 by omega] at SK
   have hyb:=HE.out.bound (i+1)
   rw [HY.out] at hyb
   have HY0:=Lib.hid hy0
   clear hy0
   go_wp2_with fail
   refine SK.out.mono ?_
   rintro e w4 ⟨h4,m4,j,rfl,hj⟩
   have H4:=Lib.hid h4
   have M4:Hid (Mod (Two2 g p) w w4):=M3.out.two (mod_g m4)
   have hjl:=hj.lt
   have OK:Hid (RoundOK (exc V) i (j:Int)):=fun a ha=>by
    obtain rfl:a=i+1:=by have:=E1.out;rcases ha with x | x <;> omega
    rw [if_neg (by rw [HY.out];exact HY0.out),HY.out]
    exact ⟨j,rfl,hj⟩
   clear h4 m4 hj SK
   go_wp2_with fail
   go_ret2
   exact ⟨H4.out,M4.out,j,rfl,OK.out,by omega,by omega⟩
 ·rw [hb] at OP hx
  have e1:exc V (i+1)=exc V i+1:=by omega
  have EX:=Lib.hid (excess_p p g V n q true w2 i H2.out (by omega) (by omega))
  have hm0:=HB.out.1 i (by omega)
  obtain ⟨y,hy⟩:∃ y,exc V i=y:=⟨_,rfl⟩
  rw [hy] at EX hm0
  have HY:=Lib.hid hy
  have E1:=Lib.hid e1
  clear hx hy e1 hb
  go_wp2_with (first
   | (go_at_call 126;refine OP.out.mono ?_;rintro e w' ⟨rfl,rfl⟩))
  refine EX.out.mono ?_
  rintro e w3 ⟨rfl,h3,m3⟩
  have H3:=Lib.hid h3
  have M3:Hid (Mod (Two2 g p) w w3):=M2.out.two (mod_g m3)
  clear h3 m3 M2 EX
  by_cases hy0:y=0
  ·have OK:Hid (RoundOK (exc V) i (-1)):=fun a ha=>by
    obtain rfl:a=i:=by have:=E1.out;rcases ha with x | x <;> omega
    rw [if_pos (by rw [HY.out];exact hy0)]
   subst hy0
   go_wp2_with fail
   go_ret2
   exact ⟨H3.out.le (by omega),M3.out,-1,rfl,OK.out,by omega,by omega⟩
  ·have g0:(y == 0)=false:=by rw [beq_eq_false_iff_ne];exact hy0
   have hi0:0 < i:=by
    rcases Nat.eq_zero_or_pos i with x | x
    ·exfalso;subst x;have:=HE.out.zero;rw [HY.out] at this;exact hy0 this
    ·exact x
   have SK:=Lib.hid (seek_b p g V n (q+1) w3 i (y - 1) H3.out (by omega) (by omega) (by omega) (by omega))
   have hyb:=HE.out.bound i
   rw [HY.out] at hyb
   have HY0:=Lib.hid hy0
   clear hy0
   go_wp2_with fail
   refine SK.out.mono ?_
   rintro e w4 ⟨h4,m4,j,rfl,hj⟩
   have H4:=Lib.hid h4
   have M4:Hid (Mod (Two2 g p) w w4):=M3.out.two (mod_g m4)
   have hjl:=hj.lt
   have OK:Hid (RoundOK (exc V) i (j:Int)):=fun a ha=>by
    obtain rfl:a=i:=by have:=E1.out;rcases ha with x | x <;> omega
    rw [if_neg (by rw [HY.out];exact HY0.out),HY.out]
    exact ⟨j,rfl,hj⟩
   clear h4 m4 hj SK
   go_wp2_with fail
   go_ret2
   exact ⟨H4.out,M4.out,j,rfl,OK.out,by omega,by omega⟩
end
end Go.Proofs.YtijbdnhlpbcabaaGreatDoor
namespace Go.Proofs.YtijbdnhlpbcabaaGreatDoor
theorem pop_take {l:List Nat} (h:Bin l) (i:Nat) (hi:i≤l.length):pop (val l) i=(l.take i).sum:=by
 have h1:=pop_val (h.take i)
 rw [List.length_take,Nat.min_eq_left hi,val_take h,pop_mod] at h1
 exact h1
theorem shp_sum (ks:List Nat) (h:Kds ks):∀ i,i≤ks.length→((shp ks).take i).sum=ah 1 ks i∧ah 0 ks i+ah 1 ks i=i
 | 0,_=>by rw [ah_zero,ah_zero];simp
 | i+1,hi=>by
   obtain ⟨h1,h2⟩:=shp_sum ks h i (by omega)
   have hk:=h.getD i
   rw [take_snoc (shp ks) i (by rw [shp_len];omega),List.sum_append,h1,shp_get,ah_next 1 ks i (by omega),ah_next 0 ks i (by omega)]
   simp only [List.sum_cons,List.sum_nil]
   by_cases h3:ks.getD i 0 / 2=0
   ·rw [if_pos h3,if_neg (by omega)];omega
   ·rw [if_neg h3,if_pos (by omega)];omega
theorem cb_ah {ks:List Nat} (h:Kds ks) (s:Nat) (hs:s < 2) (i:Nat) (hi:i≤ks.length):cb (s:Int) (val (shp ks)) i=ah s ks i:=by
 have hp:=pop_take (shp_bin h) i (by rw [shp_len];exact hi)
 obtain ⟨h1,h2⟩:=shp_sum ks h i hi
 unfold cb
 rcases (by omega:s=0∨s=1) with rfl | rfl
 ·rw [if_pos (show ((0:Nat):Int)=0 from rfl),hp,h1];omega
 ·rw [if_neg (show ¬ ((1:Nat):Int)=0 by decide),hp,h1]
theorem shp_bit {ks:List Nat} (h:Kds ks) (i:Nat):val (shp ks) / 2 ^ i%2=ks.getD i 0 / 2:=by rw [val_bit (shp_bin h),shp_get]
theorem isB_shp {ks:List Nat} (h:Kds ks) (s:Nat) (hs:s < 2) (i:Nat):IsB (s:Int) (val (shp ks)) i↔ks.getD i 0 / 2=s:=by
 unfold IsB
 have h1:=shp_bit h i
 have hk:=h.getD i
 rw [Nat.testBit_eq_decide_div_mod_eq,h1,decide_eq_decide]
 generalize ks.getD i 0=k at *
 rcases (by omega:s=0∨s=1) with rfl | rfl
 ·constructor
  ·intro h2
   have:¬ k / 2=1:=fun h3=>(h2.1 h3) rfl
   omega
  ·intro h2
   exact ⟨fun h3=>by omega,fun h3=>absurd rfl h3⟩
 ·constructor
  ·intro h2
   exact h2.2 (by decide)
  ·intro h2
   exact ⟨fun _=>by decide,fun _=>h2⟩
set_option maxRecDepth 20000
theorem IdxAt.blk_ {w:World} {g V n q:Nat} {d:Bool} (h:IdxAt w g V n d q):∃ cs,Blk w g 171 cs:=by
 obtain ⟨_,_,A,c,H,h3,_⟩:=h
 exact ⟨_,h3⟩
theorem PAt.blk_ {w:World} {p g V n q:Nat} {d:Bool} (h:PAt w p g V n d q):∃ cs,Blk w p 192 cs:=by
 obtain ⟨_,_,H,hb,_⟩:=h
 exact ⟨_,hb⟩
theorem PAt.gblk {w:World} {p g V n q:Nat} {d:Bool} (h:PAt w p g V n d q):∃ cs,Blk w g 171 cs:=by
 obtain ⟨_,⟨r,k,hk,hx⟩,_⟩:=h
 exact hx.blk_
theorem IdxAt.apart {w w':World} {S:Nat→Prop} {g V n q:Nat} {d:Bool} (h:IdxAt w g V n d q) (m:Mod S w w') (hS:∀ i,S i→i≠g∧∃ T cs,Blk w i T cs∧T≠139∧T≠157):IdxAt w' g V n d q:=by
 obtain ⟨h1,h2,A,c,H,h3,h4,h5⟩:=h
 refine ⟨h1,h2,A,c,H,h3.mod m fun hx=>(hS g hx).1 rfl,own_mod h4 m fun k hk hx=>?_,?_⟩
 ·obtain ⟨_,T,cs,hb,e2,_⟩:=hS k hx
  exact own_ne h4 hb (Ne.symm e2) hk
 ·cases d with
  | false=>exact h5
  | true =>
    obtain ⟨S',c',e,ho⟩:=h5
    exact ⟨S',c',e,own_mod ho m fun k hk hx=>by
     obtain ⟨_,T,cs,hb,_,e3⟩:=hS k hx
     exact own_ne ho hb (Ne.symm e3) hk⟩
theorem PAt.apart {w w':World} {S:Nat→Prop} {p g V n q:Nat} {d:Bool} (h:PAt w p g V n d q) (m:Mod S w w') (hS:∀ i,S i→i≠g∧i≠p∧∃ T cs,Blk w i T cs∧T≠139∧T≠157∧T≠227):PAt w' p g V n d q:=by
 obtain ⟨h1,⟨r,k,hk,hx⟩,H,hb,ht⟩:=h
 refine ⟨h1,⟨r,k,hk,hx.apart m fun i hi=>?_⟩,H,hb.mod m fun e=>(hS p e).2.1 rfl,?_⟩
 ·obtain ⟨a,_,T,cs,b,c1,c2,_⟩:=hS i hi
  exact ⟨a,T,cs,b,c1,c2⟩
 ·cases d with
  | false=>exact ht
  | true =>
    obtain ⟨S',M,K,T,k1,k2,k3,k4⟩:=ht
    refine ⟨S',M,K,T,k1,k2,k3.mod m fun hx=>?_,k4⟩
    obtain ⟨_,_,T2,cs,b,_,_,c3⟩:=hS S' hx
    exact c3 (blk_ty b k3)
def MxS (gx p0 g0 p1 g1 i:Nat):Prop:=i=gx∨i=p0∨i=g0∨i=p1∨i=g1
structure Mx (w0 w:World) (m gx p0 g0 p1 g1:Nat) (ks:List Nat) (q:Nat):Prop where
 blk:Blk w m 137 #[.pointer (some ⟨gx,0,none⟩),.pointer (some ⟨p0,0,none⟩),.pointer (some ⟨p1,0,none⟩)]
 ix:∃ d k,k≤q∧IdxAt w gx (val (shp ks)) ks.length d k
 pa:∃ d,PAt w p0 g0 (val (ownL 0 ks)) (ownL 0 ks).length d q
 pb:∃ d,PAt w p1 g1 (val (ownL 1 ks)) (ownL 1 ks).length d q
 ne:gx≠g0∧gx≠g1∧g0≠g1∧p0≠p1
 lo:w0.heap.size≤m∧w0.heap.size≤gx∧w0.heap.size≤g0∧w0.heap.size≤g1
 kd:Kds ks
 b0:Bal (exc (val (ownL 0 ks))) (ownL 0 ks).length
 b1:Bal (exc (val (ownL 1 ks))) (ownL 1 ks).length
 bel:Below w0.heap.size w0 w
 nul:Nul w0
 tab:Tab w0∧2 < w0.heap.size
section
variable {w0 w w':World} {m gx p0 g0 p1 g1 q:Nat} {ks:List Nat}
theorem Mx.gp0 (h:Mx w0 w m gx p0 g0 p1 g1 ks q):g0 < p0:=by obtain ⟨d,hp⟩:=h.pa;exact hp.1
theorem Mx.gp1 (h:Mx w0 w m gx p0 g0 p1 g1 ks q):g1 < p1:=by obtain ⟨d,hp⟩:=h.pb;exact hp.1
theorem Mx.apart (h:Mx w0 w m gx p0 g0 p1 g1 ks q):gx≠p0∧gx≠p1∧g0≠p1∧g1≠p0∧m≠gx∧m≠p0∧m≠g0∧m≠p1∧m≠g1:=by
 obtain ⟨d,k,_,hx⟩:=h.ix
 obtain ⟨d0,ha⟩:=h.pa
 obtain ⟨d1,hb⟩:=h.pb
 obtain ⟨cx,bx⟩:=hx.blk_
 obtain ⟨ca,ba⟩:=ha.blk_
 obtain ⟨cb',bb⟩:=hb.blk_
 obtain ⟨cga,bga⟩:=ha.gblk
 obtain ⟨cgb,bgb⟩:=hb.gblk
 have hm:=h.blk
 have t1:171≠192:=by decide
 have t2:137≠171:=by decide
 have t3:137≠192:=by decide
 exact ⟨fun e=>t1 (blk_ty (e ▸ bx) ba),fun e=>t1 (blk_ty (e ▸ bx) bb),fun e=>t1 (blk_ty (e ▸ bga) bb),fun e=>t1 (blk_ty (e ▸ bgb) ba),
  fun e=>t2 (blk_ty (e ▸ hm) bx),fun e=>t3 (blk_ty (e ▸ hm) ba),fun e=>t2 (blk_ty (e ▸ hm) bga),fun e=>t3 (blk_ty (e ▸ hm) bb),fun e=>t2 (blk_ty (e ▸ hm) bgb)⟩
theorem Mx.ge (h:Mx w0 w m gx p0 g0 p1 g1 ks q) (i:Nat) (hi:MxS gx p0 g0 p1 g1 i):w0.heap.size≤i:=by
 have l:=h.lo
 have a:=h.gp0
 have b:=h.gp1
 rcases hi with rfl | rfl | rfl | rfl | rfl <;> omega
theorem Mx.belq (h:Mx w0 w m gx p0 g0 p1 g1 ks q) (k:Mod (MxS gx p0 g0 p1 g1) w w'):Below w0.heap.size w0 w' :=
 h.bel.trans (k.belowB h.bel.size fun i hi hx=>by have:=h.ge i hx;omega)
theorem Mx.askX (h:Mx w0 w m gx p0 g0 p1 g1 ks q) {d:Bool} {k:Nat} (hx:IdxAt w' gx (val (shp ks)) ks.length d (k+1)) (hk:k≤q) (md:Mod (fun i=>i=gx) w w'):Mx w0 w' m gx p0 g0 p1 g1 ks (q+1):=by
 obtain ⟨d0,ha⟩:=h.pa
 obtain ⟨d1,hb⟩:=h.pb
 obtain ⟨dx,kx,_,hx0⟩:=h.ix
 obtain ⟨cx,bx⟩:=hx0.blk_
 have ap:=h.apart
 have ne:=h.ne
 refine ⟨h.blk.mod md ap.2.2.2.2.1,⟨d,k+1,by omega,hx⟩,⟨d0,(ha.apart md fun i hi=>?_).le (by omega)⟩,⟨d1,(hb.apart md fun i hi=>?_).le (by omega)⟩,h.ne,h.lo,h.kd,h.b0,h.b1,h.belq (md.mono fun i _ hi=>.inl hi),h.nul,h.tab⟩
 ·subst hi
  exact ⟨ne.1,ap.1,_,_,bx,by decide,by decide,by decide⟩
 ·subst hi
  exact ⟨ne.2.1,ap.2.1,_,_,bx,by decide,by decide,by decide⟩
theorem Mx.askA (h:Mx w0 w m gx p0 g0 p1 g1 ks q) {d:Bool} {q':Nat} (hp:PAt w' p0 g0 (val (ownL 0 ks)) (ownL 0 ks).length d q') (hq:q≤q') (md:Mod (Two2 g0 p0) w w'):Mx w0 w' m gx p0 g0 p1 g1 ks q':=by
 obtain ⟨d0,ha⟩:=h.pa
 obtain ⟨d1,hb⟩:=h.pb
 obtain ⟨dx,kx,hkx,hx0⟩:=h.ix
 obtain ⟨ca,ba⟩:=ha.blk_
 obtain ⟨cga,bga⟩:=ha.gblk
 have ap:=h.apart
 have ne:=h.ne
 refine ⟨h.blk.mod md fun e=>?_,⟨dx,kx,by omega,hx0.apart md fun i hi=>?_⟩,⟨d,hp⟩,⟨d1,(hb.apart md fun i hi=>?_).le hq⟩,h.ne,h.lo,h.kd,h.b0,h.b1,h.belq (md.mono fun i _ hi=>hi.elim (fun e=>.inr (.inr (.inl e))) fun e=>.inr (.inl e)),h.nul,h.tab⟩
 ·rcases e with e | e
  ·exact ap.2.2.2.2.2.2.1 e
  ·exact ap.2.2.2.2.2.1 e
 ·rcases hi with rfl | rfl
  ·exact ⟨Ne.symm ne.1,_,_,bga,by decide,by decide⟩
  ·exact ⟨Ne.symm ap.1,_,_,ba,by decide,by decide⟩
 ·rcases hi with rfl | rfl
  ·exact ⟨ne.2.2.1,ap.2.2.1,_,_,bga,by decide,by decide,by decide⟩
  ·exact ⟨fun e=>ap.2.2.2.1 e.symm,ne.2.2.2,_,_,ba,by decide,by decide,by decide⟩
theorem Mx.askB (h:Mx w0 w m gx p0 g0 p1 g1 ks q) {d:Bool} {q':Nat} (hp:PAt w' p1 g1 (val (ownL 1 ks)) (ownL 1 ks).length d q') (hq:q≤q') (md:Mod (Two2 g1 p1) w w'):Mx w0 w' m gx p0 g0 p1 g1 ks q':=by
 obtain ⟨d0,ha⟩:=h.pa
 obtain ⟨d1,hb⟩:=h.pb
 obtain ⟨dx,kx,hkx,hx0⟩:=h.ix
 obtain ⟨ca,ba⟩:=hb.blk_
 obtain ⟨cga,bga⟩:=hb.gblk
 have ap:=h.apart
 have ne:=h.ne
 refine ⟨h.blk.mod md fun e=>?_,⟨dx,kx,by omega,hx0.apart md fun i hi=>?_⟩,⟨d0,(ha.apart md fun i hi=>?_).le hq⟩,⟨d,hp⟩,h.ne,h.lo,h.kd,h.b0,h.b1,h.belq (md.mono fun i _ hi=>hi.elim (fun e=>.inr (.inr (.inr (.inr e)))) fun e=>.inr (.inr (.inr (.inl e)))),h.nul,h.tab⟩
 ·rcases e with e | e
  ·exact ap.2.2.2.2.2.2.2.2 e
  ·exact ap.2.2.2.2.2.2.2.1 e
 ·rcases hi with rfl | rfl
  ·exact ⟨Ne.symm ne.2.1,_,_,bga,by decide,by decide⟩
  ·exact ⟨Ne.symm ap.2.1,_,_,ba,by decide,by decide⟩
 ·rcases hi with rfl | rfl
  ·exact ⟨Ne.symm ne.2.2.1,ap.2.2.2.1,_,_,bga,by decide,by decide,by decide⟩
  ·exact ⟨fun e=>ap.2.2.1 e.symm,Ne.symm ne.2.2.2,_,_,ba,by decide,by decide,by decide⟩
theorem Mx.below (h:Mx w0 w m gx p0 g0 p1 g1 ks q) (k:Below w.heap.size w w'):Mx w0 w' m gx p0 g0 p1 g1 ks q:=by
 obtain ⟨d0,ha⟩:=h.pa
 obtain ⟨d1,hb⟩:=h.pb
 obtain ⟨dx,kx,hkx,hx0⟩:=h.ix
 exact ⟨h.blk.below k,⟨dx,kx,hkx,hx0.below k⟩,⟨d0,ha.below k⟩,⟨d1,hb.below k⟩,h.ne,h.lo,h.kd,h.b0,h.b1,h.bel.trans (k.mono h.bel.size),h.nul,h.tab⟩
theorem Mx.le (h:Mx w0 w m gx p0 g0 p1 g1 ks q) {q':Nat} (hq:q≤q'):Mx w0 w m gx p0 g0 p1 g1 ks q':=by
 obtain ⟨d0,ha⟩:=h.pa
 obtain ⟨d1,hb⟩:=h.pb
 obtain ⟨dx,kx,hkx,hx0⟩:=h.ix
 exact ⟨h.blk,⟨dx,kx,by omega,hx0⟩,⟨d0,ha.le hq⟩,⟨d1,hb.le hq⟩,h.ne,h.lo,h.kd,h.b0,h.b1,h.bel,h.nul,h.tab⟩
theorem Mx.nulw (h:Mx w0 w m gx p0 g0 p1 g1 ks q):Nul w:=h.nul.below h.nul.lt h.bel
theorem Mx.tabw (h:Mx w0 w m gx p0 g0 p1 g1 ks q):Tab w:=h.tab.1.below h.tab.2 h.bel
theorem Mx.n9 (h:Mx w0 w m gx p0 g0 p1 g1 ks q):ks.length≤1000000:=by
 obtain ⟨dx,kx,hkx,hx0⟩:=h.ix
 exact hx0.2.1
theorem Mx.hp0 (h:Mx w0 w m gx p0 g0 p1 g1 ks q):p0≠1:=by
 have:=h.nul.lt
 have:=h.lo
 have:=h.gp0
 show p0≠1
 omega
theorem Mx.hp1 (h:Mx w0 w m gx p0 g0 p1 g1 ks q):p1≠1:=by
 have:=h.nul.lt
 have:=h.lo
 have:=h.gp1
 show p1≠1
 omega
theorem two_mx0 (md:Mod (Two2 g0 p0) w w'):Mod (MxS gx p0 g0 p1 g1) w w':=md.mono fun i _ hi=>hi.elim (fun e=>.inr (.inr (.inl e))) fun e=>.inr (.inl e)
theorem two_mx1 (md:Mod (Two2 g1 p1) w w'):Mod (MxS gx p0 g0 p1 g1) w w':=md.mono fun i _ hi=>hi.elim (fun e=>.inr (.inr (.inr (.inr e)))) fun e=>.inr (.inr (.inr (.inl e)))
end
def MxP (w0 w:World) (m gx p0 g0 p1 g1:Nat) (ks:List Nat) (q:Nat) (e0:Ending) (e:Ending) (w':World):Prop:=e=e0∧Mx w0 w' m gx p0 g0 p1 g1 ks q∧Mod (MxS gx p0 g0 p1 g1) w w'
end Go.Proofs.YtijbdnhlpbcabaaGreatDoor
namespace Go.Proofs.YtijbdnhlpbcabaaGreatDoor
theorem conv_bytes (A:Option Addr) (n c B:Nat) (bs:List Nat) (w:World) (h:Rd w B A n (U8 bs)) :
  (convert 23 9 (.slice A n c)).run Tryz.prog w=.ok (.string (strOfNums (bs.map fun (b:Nat)=>(b:Int)))) w:=by
 have hl:bs.length=n:=by rw [← h.len,U8_len]
 rcases Nat.eq_zero_or_pos n with h0 | h0
 ·subst h0
  obtain rfl:bs=[]:=List.eq_nil_of_length_eq_zero hl
  rw [run_convert_bytes_string w 23 9 5 _ 0 c Tryz.underlying23 Tryz.underlying5 Tryz.underlying9]
  cases A <;> simp [Conv.bytesToString,loadCells,loadCellsFrom,strOfNums] <;> rfl
 ·obtain ⟨b,o,rfl,_,hc⟩:=h.at_ h0
  refine run_convert_bytes_arg (P:=Tryz.prog) w 23 5 Tryz.underlying23 Tryz.underlying5 b o n c _ (by simpa using hl) (fun i hi=>?_) 9 Tryz.underlying9
  rw [hc i (by rw [U8_len];omega),U8_get]
  simp [List.getD_eq_getElem?_getD,List.getElem?_eq_getElem (show i < bs.length by omega)]
theorem fill_next (X:List Nat) (k m:Nat) (hX:X.length=m) (hk:k < m) :
  ((U8 (X.take k++List.replicate (m - k) 0)).toArray).setIfInBounds k (.int .u8 ((X.getD k 0:Nat):Int))=(U8 (X.take (k+1)++List.replicate (m - (k+1)) 0)).toArray:=by
 rw [show X.getD k 0=X[k] by simp [List.getD_eq_getElem?_getD,List.getElem?_eq_getElem (show k < X.length by omega)]]
 apply Array.toList_inj.1
 rw [Array.toList_setIfInBounds]
 show (U8 (X.take k++List.replicate (m - k) 0)).set k _=U8 _
 have e1:List.replicate (m - k) 0=0 :: List.replicate (m - (k+1)) 0:=by
  rw [show m - k=(m - (k+1))+1 by omega,List.replicate_succ]
 rw [e1,U8_append,← List.take_append_getElem (by omega:k < X.length),List.append_assoc,U8_append,List.set_append_right _ _ (by rw [U8_len,List.length_take];omega)]
 have e2:k - (U8 (X.take k)).length=0:=by rw [U8_len,List.length_take];omega
 rw [e2]
 rfl
theorem at_p (g V n i B:Nat) (A:Option Addr) (w:World) (h:VecB w B g V n A) (hi:i < n) :
  Calls Tryz.prog 105 #[.pointer (some ⟨g,0,none⟩),.int .i64 (i:Int)] w fun e w'=>e=.returned (.int .i64 ((V / 2 ^ i%2:Nat):Int))∧w=w':=by
 have L:=Lib.hid (blen_p g V n A w h)
 have G:=Lib.hid (get_p g V n i 1 A w h (by omega) (by omega) (by omega))
 have hn:=h.2.1
 have hlt:¬ (n:Int)≤(i:Int):=by omega
 have hb:V / 2 ^ i%2 ^ 1 < 2:=Nat.mod_lt _ (by decide)
 rw [show V / 2 ^ i%2=V / 2 ^ i%2 ^ 1 by rw [Nat.pow_one]]
 generalize V / 2 ^ i%2 ^ 1=x at *
 clear h
 go_enter Tryz.func105,Tryz.ntmps105
 go_wp2_with (first
  | (go_at_call 23;refine L.out.mono ?_;rintro e w' ⟨rfl,rfl⟩)
  | (go_at_call 132;refine G.out.mono ?_;rintro e w' ⟨rfl,rfl⟩))
 go_ret
 exact ⟨rfl,rfl⟩
set_option maxRecDepth 20000
def wv:List Nat→Nat
 | []=>0
 | k :: ks=>k%4+4*wv ks
theorem wv_snoc (k:Nat):∀ ks:List Nat,wv (ks++[k])=put (wv ks) (2*ks.length) k 2
 | []=>by simp [wv,put]
 | x :: ks=>by
   show x%4+4*wv (ks++[k])=_
   rw [wv_snoc k ks]
   unfold put
   show _=(x%4+4*wv ks)+_
   rw [List.length_cons,show 2*(ks.length+1)=2*ks.length+2 by omega,Nat.pow_add,show (2:Nat) ^ 2=4 from rfl,← Nat.mul_assoc]
   generalize k%4*2 ^ (2*ks.length)=q
   omega
theorem wv_at:∀ (ks:List Nat) (i:Nat),i < ks.length→wv ks / 2 ^ (2*i)%2+2*(wv ks / 2 ^ (2*i+1)%2)=ks.getD i 0%4
 | [],i,h=>absurd h (by simp)
 | x :: ks,0,h=>by
   show (x%4+4*wv ks) / 2 ^ 0%2+2*((x%4+4*wv ks) / 2 ^ 1%2)=x%4
   rw [Nat.pow_zero,Nat.pow_one];omega
 | x :: ks,i+1,h=>by
   have ih:=wv_at ks i (by simpa using h)
   show (x%4+4*wv ks) / 2 ^ (2*(i+1))%2+2*((x%4+4*wv ks) / 2 ^ (2*(i+1)+1)%2)=ks.getD i 0%4
   have e:∀ j,(x%4+4*wv ks) / 2 ^ (j+2)=wv ks / 2 ^ j:=fun j=>by
    rw [Nat.pow_add,show (2:Nat) ^ 2=4 from rfl,Nat.mul_comm (2 ^ j) 4,← Nat.div_div_eq_div_mul]
    congr 1;omega
   rw [show 2*(i+1)=2*i+2 by omega,show 2*i+2+1=2*i+1+2 by omega,e,e]
   exact ih
theorem wv_lo (ks:List Nat) (i:Nat) (h:i < ks.length):wv ks / 2 ^ (2*i)%2=ks.getD i 0%2:=by have:=wv_at ks i h;omega
theorem wv_hi (ks:List Nat) (i:Nat) (h:i < ks.length):wv ks / 2 ^ (2*i+1)%2=ks.getD i 0 / 2%2:=by have:=wv_at ks i h;omega
def WordAt (w:World) (B g:Nat) (ks:List Nat):Prop :=
 (∀ x∈ks,x < 4)∧B≤g∧∃ gv A,B≤gv∧Blk w g 100 #[.pointer (some ⟨gv,0,none⟩)]∧VecAt w gv (wv ks) (2*ks.length) A
theorem WordAt.below {w w':World} {B g:Nat} {ks:List Nat} (h:WordAt w B g ks) (z:Below w.heap.size w w'):WordAt w' B g ks:=by
 obtain ⟨h1,h2,gv,A,h3,h4,h5⟩:=h
 exact ⟨h1,h2,gv,A,h3,h4.below z,h5.below z⟩
theorem WordAt.base {w:World} {B B' g:Nat} {ks:List Nat} (h:WordAt w B g ks) (z:B'≤B):WordAt w B' g ks:=by
 obtain ⟨h1,h2,gv,A,h3,h4,h5⟩:=h
 exact ⟨h1,by omega,gv,A,by omega,h4,h5⟩
theorem mnew_p (w:World):Calls Tryz.prog 69 #[] w fun e w'=>∃ g,e=.returned (.pointer (some ⟨g,0,none⟩))∧WordAt w' w.heap.size g []∧Below w.heap.size w w':=by
 have NP:=Lib.hid (bnew_p w)
 go_enter Tryz.func69,Tryz.ntmps69
 go_wp2_with fail
 refine NP.out.mono ?_
 rintro e w1 ⟨rfl,hv,z⟩
 go_wp2_with fail
 go_ret
 refine ⟨_,rfl,⟨by simp,z.size,w.heap.size,none,Nat.le_refl _,Blk.new w1 _ _,?_⟩,z.alloc z.size _⟩
 exact hv.below ((Below.refl _ _).alloc (Nat.le_refl _) _)
theorem foot_word {w:World} {B g gv V n:Nat} {A:Option Addr} {cs:Array Value} (h:Blk w g 100 cs) (hv:VecB w B gv V n A):¬ foot gv A g:=by
 obtain ⟨h1,h2,c,h3,h4⟩:=hv
 rintro (e | ⟨b,e,rfl⟩)
 ·subst e
  unfold Blk at h h3
  rw [h] at h3
  simp at h3
 ·exact own_ne h4 h (by decide) (by rw [e];rfl)
set_option maxHeartbeats 1000000 in
theorem mput_p (B g:Nat) (ks:List Nat) (k:Nat) (w:World) (h:WordAt w B g ks) (hk:k < 4) (hn:ks.length≤400000) :
  Calls Tryz.prog 84 #[.pointer (some ⟨g,0,none⟩),.int .i64 (k:Int)] w fun e w'=>e=.returned (.tuple #[])∧WordAt w' B g (ks++[k])∧Below B w w':=by
 obtain ⟨h1,h2,gv,A,h3,h4,h5⟩:=h
 have np:=num_p gv (wv ks) (2*ks.length) k 2 A w h5 (by omega) (by omega) (by omega)
 rw [show cnt64 2=2 by decide] at np
 have NP:=Lib.hid np
 clear np
 have c0:w.cell? ⟨g,0,none⟩=some (.pointer (some ⟨gv,0,none⟩)):=h4.cell 0
 have hw:IntKind.u64.wrap (k:Int)=(k:Int):=by simp [IntKind.wrap,IntKind.signed,IntKind.bits];omega
 have H4:=Lib.hid h4
 have H5:=Lib.hid h5
 have H1:=Lib.hid h1
 clear h4 h5 h1
 go_enter Tryz.func84,Tryz.ntmps84
 go_wp2_with fail
 refine NP.out.mono ?_
 intro e w1 hp
 have hb:=NumPost.below hp H5.out
 obtain ⟨rfl,A',hv,hm,ha⟩:=hp
 have W1:Hid (WordAt w1 B g (ks++[k])):=by
  refine ⟨fun x hx=>?_,h2,gv,A',h3,H4.out.mod hm (foot_word H4.out H5.out),?_⟩
  ·rcases List.mem_append.1 hx with y | y
   ·exact H1.out x y
   ·simp at y;omega
  ·rw [wv_snoc,List.length_append,List.length_singleton,show 2*(ks.length+1)=2*ks.length+2 by omega]
   exact hv
 have Z1:=Lib.hid (hb.mono h3)
 clear hb hv hm ha NP
 go_wp2_with fail
 refine bodyPost_end (results_none rfl _ _ _) rfl ⟨rfl,W1.out,Z1.out⟩
def WordS (w:World) (B g:Nat) (ks:List Nat) (S:Nat→Prop):Prop :=
 (∀ x∈ks,x < 4)∧B≤g∧∃ gv A,B≤gv∧Blk w g 100 #[.pointer (some ⟨gv,0,none⟩)]∧VecAt w gv (wv ks) (2*ks.length) A∧∀ i,foot gv A i→¬ S i
theorem WordS.at_ {w:World} {B g:Nat} {ks:List Nat} {S:Nat→Prop} (h:WordS w B g ks S):WordAt w B g ks:=by
 obtain ⟨h1,h2,gv,A,h3,h4,h5,_⟩:=h
 exact ⟨h1,h2,gv,A,h3,h4,h5⟩
theorem WordAt.sep {w:World} {B g:Nat} {ks:List Nat} (h:WordAt w B g ks) {S:Nat→Prop} (hS:∀ i,S i→∃ cs,Blk w i 3 cs):WordS w B g ks S:=by
 obtain ⟨h1,h2,gv,A,h3,h4,h5⟩:=h
 refine ⟨h1,h2,gv,A,h3,h4,h5,fun i hi hs=>?_⟩
 obtain ⟨cs,hb⟩:=hS i hs
 obtain ⟨_,_,c,b1,b2⟩:=h5
 rcases hi with e | ⟨b,e,rfl⟩
 ·subst e
  unfold Blk at hb b1
  rw [hb] at b1
  simp at b1
 ·exact own_ne b2 hb (by decide) (by rw [e];rfl)
set_option maxHeartbeats 1000000 in
theorem mput_s (B g:Nat) (ks:List Nat) (k:Nat) (w:World) (S:Nat→Prop) (h:WordS w B g ks S) (hk:k < 4) (hn:ks.length≤400000) (hS:∀ i,S i→i < w.heap.size) :
  Calls Tryz.prog 84 #[.pointer (some ⟨g,0,none⟩),.int .i64 (k:Int)] w fun e w'=>e=.returned (.tuple #[])∧WordS w' B g (ks++[k]) S∧Below B w w'∧Mod (fun i=>¬ S i) w w':=by
 obtain ⟨h1,h2,gv,A,h3,h4,h5,h6⟩:=h
 have np:=num_p gv (wv ks) (2*ks.length) k 2 A w h5 (by omega) (by omega) (by omega)
 rw [show cnt64 2=2 by decide] at np
 have NP:=Lib.hid np
 clear np
 have c0:w.cell? ⟨g,0,none⟩=some (.pointer (some ⟨gv,0,none⟩)):=h4.cell 0
 have hw:IntKind.u64.wrap (k:Int)=(k:Int):=by simp [IntKind.wrap,IntKind.signed,IntKind.bits];omega
 have H4:=Lib.hid h4
 have H5:=Lib.hid h5
 have H1:=Lib.hid h1
 have H6:=Lib.hid h6
 clear h4 h5 h1 h6
 go_enter Tryz.func84,Tryz.ntmps84
 go_wp2_with fail
 refine NP.out.mono ?_
 intro e w1 hp
 have hb:=NumPost.below hp H5.out
 obtain ⟨rfl,A',hv,hm,ha⟩:=hp
 have W1:Hid (WordS w1 B g (ks++[k]) S):=by
  refine ⟨fun x hx=>?_,h2,gv,A',h3,H4.out.mod hm (foot_word H4.out H5.out),?_,fun i hi hs=>?_⟩
  ·rcases List.mem_append.1 hx with y | y
   ·exact H1.out x y
   ·simp at y;omega
  ·rw [wv_snoc,List.length_append,List.length_singleton,show 2*(ks.length+1)=2*ks.length+2 by omega]
   exact hv
  ·rcases ha with rfl | ⟨b,rfl,hb⟩
   ·exact H6.out i hi hs
   ·rcases hi with e | ⟨b',e,e2⟩
    ·exact H6.out i (.inl e) hs
    ·have:=hS i hs
     have e3:b=b':=(Addr.mk.inj (Option.some.inj e)).1
     omega
 have Z1:=Lib.hid (hb.mono h3)
 have M1:Hid (Mod (fun i=>¬ S i) w w1):=hm.mono fun i _ hi hs=>H6.out i hi hs
 clear hb hv hm ha NP
 go_wp2_with fail
 refine bodyPost_end (results_none rfl _ _ _) rfl ⟨rfl,W1.out,Z1.out,M1.out⟩
theorem mlen_p (B g:Nat) (ks:List Nat) (w:World) (h:WordAt w B g ks):Calls Tryz.prog 20 #[.pointer (some ⟨g,0,none⟩)] w fun e w'=>e=.returned (.int .i64 (ks.length:Int))∧w=w':=by
 obtain ⟨h1,h2,gv,A,h3,h4,h5⟩:=h
 have LP:=Lib.hid (blen_p gv _ _ A w h5)
 have hl:=h5.2.1
 have c0:w.cell? ⟨g,0,none⟩=some (.pointer (some ⟨gv,0,none⟩)):=h4.cell 0
 obtain ⟨n2,hn2⟩:∃ n2,n2=2*ks.length:=⟨_,rfl⟩
 rw [← hn2] at LP
 have e1:(n2:Int) / 2=(ks.length:Int):=by omega
 have e2:(n2:Int).tdiv 2=(ks.length:Int):=by rw [Int.tdiv_eq_ediv_of_nonneg (by omega)];exact e1
 have ew:IntKind.i64.wrap (ks.length:Int)=(ks.length:Int):=by simp [IntKind.wrap,IntKind.signed,IntKind.bits];omega
 clear hn2 h4 h5 hl
 go_enter Tryz.func20,Tryz.ntmps20
 go_wp2_with fail
 refine LP.out.mono ?_
 rintro e w1 ⟨rfl,rfl⟩
 go_wp2_with fail
 go_ret
 exact ⟨by first | rfl | simp [ew],rfl⟩
set_option maxHeartbeats 4000000 in
theorem mat_p (B g:Nat) (ks:List Nat) (i:Nat) (w:World) (h:WordAt w B g ks) (hi:i < ks.length) (hn:ks.length≤400000):Calls Tryz.prog 65 #[.pointer (some ⟨g,0,none⟩),.int .i64 (i:Int)] w fun e w'=>e=.returned (.int .i64 ((ks.getD i 0:Nat):Int))∧∃ j,w'=w.drewN j:=by
 have LP:=Lib.hid (mlen_p B g ks w h)
 obtain ⟨h1,h2,gv,A,h3,h4,h5⟩:=h
 obtain ⟨a,ha⟩:∃ a,a=2*i:=⟨_,rfl⟩
 obtain ⟨a1,ha1⟩:∃ a1,a1=2*i+1:=⟨_,rfl⟩
 obtain ⟨bt,hbt⟩:∃ bt:Nat→Nat,∀ p,bt p=wv ks / 2 ^ p%2:=⟨_,fun _=>rfl⟩
 have AT:Hid (∀ (j p:Nat),p < 2*ks.length→Calls Tryz.prog 105 #[.pointer (some ⟨gv,0,none⟩),.int .i64 (p:Int)] (w.drewN j) fun e w'=>e=.returned (.int .i64 ((bt p:Nat):Int))∧w.drewN j=w'):=fun j p hp=>by
  rw [hbt];exact at_p gv _ _ p (gv+1) A (w.drewN j) (VecB.below h5 (below_draws (Below.refl _ _) j)) hp
 have hx:bt a=ks.getD i 0%2:=by rw [hbt,ha];exact wv_lo ks i hi
 have hy:bt a1=ks.getD i 0 / 2%2:=by rw [hbt,ha1];exact wv_hi ks i hi
 have hal:a < 2*ks.length:=by omega
 have ha1l:a1 < 2*ks.length:=by omega
 have AT0:=Lib.hid (fun j=>AT.out j a hal)
 have AT1:=Lib.hid (fun j=>AT.out j a1 ha1l)
 have c0:w.cell? ⟨g,0,none⟩=some (.pointer (some ⟨gv,0,none⟩)):=h4.cell 0
 have hk4:ks.getD i 0 < 4:=h1 _ (by rw [List.getD_eq_getElem?_getD,List.getElem?_eq_getElem hi];exact List.getElem_mem hi)
 generalize ks.getD i 0=k at *
 have f1:2*(i:Int)=(a:Int):=by omega
 have f2:(a:Int)+1=(a1:Int):=by omega
 have g1:IntKind.i64.wrap (a:Int)=(a:Int):=by simp [IntKind.wrap,IntKind.signed,IntKind.bits];omega
 have g2:IntKind.i64.wrap (a1:Int)=(a1:Int):=by simp [IntKind.wrap,IntKind.signed,IntKind.bits];omega
 obtain ⟨y2,hy2⟩:∃ y2,y2=2*bt a1:=⟨_,rfl⟩
 have f3:2*((bt a1:Nat):Int)=(y2:Int):=by omega
 have g3:IntKind.i64.wrap (y2:Int)=(y2:Int):=by simp [IntKind.wrap,IntKind.signed,IntKind.bits];omega
 have f4:((bt a:Nat):Int)+(y2:Int)=(k:Int):=by omega
 have g4:IntKind.i64.wrap (k:Int)=(k:Int):=by simp [IntKind.wrap,IntKind.signed,IntKind.bits];omega
 have hlt:¬ (ks.length:Int)≤(i:Int):=by omega
 have hlt2:decide ((ks.length:Int)≤(i:Int))=false:=by rw [decide_eq_false_iff_not];exact hlt
 clear h4 h5 ha ha1 hx hy hy2 h1 hbt hal ha1l AT
 have AT:Hid (∀ (j p:Nat),(p=a∨p=a1)→Calls Tryz.prog 105 #[.pointer (some ⟨gv,0,none⟩),.int .i64 (p:Int)] (w.drewN j) fun e w'=>e=.returned (.int .i64 ((bt p:Nat):Int))∧w.drewN j=w'):=fun j p hp=>by
  rcases hp with rfl | rfl
  ·exact AT0.out j
  ·exact AT1.out j
 clear AT0 AT1
 go_enter Tryz.func65,Tryz.ntmps65
 go_wp2_with fail
 refine LP.out.mono ?_
 rintro e w' ⟨rfl,rfl⟩
 go_wp2_with fail
 go_quiet ((go_at_call 105;exact (AT.out _ _ (by first | exact .inl rfl | exact .inr rfl)).mono fun e w' h=>⟨h.1,_,h.2.symm⟩))
 go_wp2_with fail
 go_ret
 exact ⟨rfl,_,rfl⟩
def signN (k:Nat):Nat:=[40,41,91,93].getD k 0
def textM (ks:List Nat):ByteArray:=strOfNums (ks.map fun k=>((signN k:Nat):Int))
set_option maxHeartbeats 4000000 in
theorem mtext_p (B g:Nat) (ks:List Nat) (w:World) (h:WordAt w B g ks) (hn:ks.length≤400000) :
  Calls Tryz.prog 18 #[.pointer (some ⟨g,0,none⟩)] w fun e w'=>e=.returned (.string (textM ks))∧Below w.heap.size w w':=by
 have LP:=Lib.hid (mlen_p B g ks w h)
 obtain ⟨n,hnn⟩:∃ n,n=ks.length:=⟨_,rfl⟩
 rw [← hnn] at LP hn
 obtain ⟨X,hX⟩:∃ X,X=ks.map signN:=⟨_,rfl⟩
 have HX:Hid (X.length=n):=by show _=_;rw [hX,List.length_map,hnn]
 have HT:Hid (textM ks=strOfNums (X.map fun (b:Nat)=>(b:Int))):=by
  show _=_
  rw [hX,textM,List.map_map];rfl
 have H4:=Lib.hid h.1
 have XG:Hid (∀ i,i < n→∃ k,k < 4∧ks.getD i 0=k∧X.getD i 0=signN k):=fun i hi=>by
  have hil:i < ks.length:=by omega
  refine ⟨ks.getD i 0,H4.out _ (by rw [List.getD_eq_getElem?_getD,List.getElem?_eq_getElem hil];exact List.getElem_mem hil),rfl,?_⟩
  rw [hX];simp [List.getD_eq_getElem?_getD,hil]
 have AP:Hid (∀ (i:Nat) (W:World),i < n→Below w.heap.size w W→Calls Tryz.prog 65 #[.pointer (some ⟨g,0,none⟩),.int .i64 (i:Int)] W fun e w'=>e=.returned (.int .i64 ((ks.getD i 0:Nat):Int))∧Below W.heap.size W w'):=fun i W hi z =>
  (mat_p B g ks i W (h.below z) (by omega) (by omega)).mono fun e w' ⟨h1,j,h2⟩=>⟨h1,by rw [h2];exact below_draws (Below.refl _ _) j⟩
 obtain ⟨i0,hi0,hz0,hz1,hz2⟩:=info_parts info_u8
 have hmk:=run_make_one (P:=Tryz.prog) 23 5 i0 (.int .u8 0) 1 Tryz.underlying23 hi0 hz0 hz1 hz2 rfl .i64 .i64 n (by omega) (by omega)
 clear h hX hnn H4
 go_enter Tryz.func18,Tryz.ntmps18
 go_wp2_with fail
 refine LP.out.mono ?_
 rintro e w' ⟨rfl,rfl⟩
 go_wp2_with fail
 go_loopw [10] (fun i wr=>∃ k:Nat,k≤n∧i=.int .i64 k∧Blk wr w.heap.size 5 (U8 (X.take k++List.replicate (n - k) 0)).toArray∧Below w.heap.size w wr) (fun i _=>n - (intOf i).toNat)
 case atStart =>
  refine ⟨0,by omega,rfl,?_,(Below.refl _ _).alloc (Nat.le_refl _) _⟩
  have:=Blk.new w 5 (Array.replicate n (.int .u8 0))
  simpa [U8] using this
 case round =>
  obtain ⟨k,hk,rfl,hbk,hbl⟩:=hrel
  by_cases hlt:k < n
  ·obtain ⟨q,hq4,hq,hxq⟩:=XG.out k hlt
   have AT:=Lib.hid (AP.out k wr hlt hbl)
   rw [hq] at AT
   have hf:=fill_next X k n HX.out hlt
   rw [hxq] at hf
   have HFX:=Lib.hid hf
   have hqI:(q:Int)=0∨(q:Int)=1∨(q:Int)=2∨(q:Int)=3:=by omega
   have hsg:∀ W:World,(Instr.index 9 (.string { data:=#[40,41,91,93] }) (.int .i64 (q:Int))).run Tryz.prog W=.ok (.int .u8 ((signN q:Nat):Int)) W:=fun W=>by
    rcases (show q=0∨q=1∨q=2∨q=3 by omega) with rfl | rfl | rfl | rfl <;> rfl
   have hs256:signN q < 256:=by
    rcases (show q=0∨q=1∨q=2∨q=3 by omega) with rfl | rfl | rfl | rfl <;> decide
   generalize signN q=y at *
   clear hf hq hxq hqI hq4
   obtain ⟨z,hz⟩:∃ z,(U8 (X.take k++List.replicate (n - k) 0)).toArray[k]?=some z:=⟨_,Array.getElem?_eq_getElem (by simp [U8_len];have:=HX.out;omega)⟩
   have HBK:=Lib.hid hbk
   have HBL:=Lib.hid hbl
   have HZ:=Lib.hid hz
   clear hbk hbl hz
   go_wp2_with fail
   refine AT.out.mono ?_
   rintro e w2 ⟨rfl,z2⟩
   have hbk2:=HBK.out.below z2
   have tz:w2.cell? ⟨w.heap.size,k,none⟩=some z:=(hbk2.cell k).trans HZ.out
   have fz:w2.frozen? ⟨w.heap.size,k,none⟩=false:=hbk2.frozen k
   have NB:=Lib.hid (hbk2.set_ k (.int .u8 (y:Int)))
   have ZB:=Lib.hid ((HBL.out.trans (z2.mono HBL.out.size)).setCell (p:=⟨w.heap.size,k,none⟩) (Nat.le_refl _) (.int .u8 (y:Int)))
   clear hbk2 z2 HBK HBL AT
   go_wp2_with fail
   go_roundw
   case rel =>
    refine ⟨k+1,by omega,by go_num,?_,ZB.out⟩
    have:=NB.out
    rw [HFX.out] at this
    exact this
   case measure=>simp [intOf];omega
  ·obtain rfl:k=n:=by omega
   rw [Nat.sub_self,List.replicate_zero,List.append_nil,List.take_of_length_le (by rw [HX.out];exact Nat.le_refl _)] at hbk
   have hend:Rd wr (w.heap.size+1) (some ⟨w.heap.size,0,none⟩) k (U8 X) :=
    ⟨by rw [U8_len,HX.out],fun _=>⟨_,_,rfl,Nat.lt_succ_self _,fun j hj=>by rw [Nat.zero_add,hbk.cell];simp at hj ⊢⟩⟩
   have hcv:=conv_bytes (some ⟨w.heap.size,0,none⟩) k k _ X wr hend
   go_wp2_with fail
   go_ret
   exact ⟨by rw [HT.out];rfl,hbl⟩
def Kd (x:Int):Prop:=0≤x∧x < 4
instance (x:Int):Decidable (Kd x):=by unfold Kd;exact inferInstance
theorem isKind_p (x:Int) (w:World):Calls Tryz.prog 83 #[.int .i64 x] w fun e w'=>e=.returned (.bool (decide (Kd x)))∧w=w':=by
 by_cases h0:0≤x
 ·by_cases h1:x≤3
  ·have hk:decide (Kd x)=true:=decide_eq_true ⟨h0,by omega⟩
   rw [hk]
   go_enter Tryz.func83,Tryz.ntmps83
   go_wp2_with fail
   go_ret
   exact ⟨rfl,rfl⟩
  ·have hk:decide (Kd x)=false:=decide_eq_false fun h=>h1 (by have:=h.2;omega)
   rw [hk]
   have h2:decide (x≤3)=false:=by rw [decide_eq_false_iff_not];exact h1
   go_enter Tryz.func83,Tryz.ntmps83
   go_wp2_with fail
   go_ret
   exact ⟨rfl,rfl⟩
 ·have hk:decide (Kd x)=false:=decide_eq_false fun h=>h0 h.1
  rw [hk]
  have h2:decide (0≤x)=false:=by rw [decide_eq_false_iff_not];exact h0
  go_enter Tryz.func83,Tryz.ntmps83
  go_wp2_with fail
  go_ret
  exact ⟨rfl,rfl⟩
theorem noKind_p (x:Int) (w:World):Calls Tryz.prog 108 #[.int .i64 x] w fun e w'=>e=.returned (.bool (!decide (Kd x)))∧w=w':=by
 have KP:=Lib.hid (isKind_p x w)
 generalize decide (Kd x)=q at *
 go_enter Tryz.func108,Tryz.ntmps108
 go_wp2_with fail
 refine KP.out.mono ?_
 rintro e w' ⟨rfl,rfl⟩
 go_wp2_with fail
 go_ret
 exact ⟨rfl,rfl⟩
theorem indexKind_p (A:Option Addr) (n c B:Nat) (z:List Int) (w:World) (h:Rd w B A n (I64 z)) (hn:n≤1000000) :
  Calls Tryz.prog 135 #[.slice A n c,.func (.func 108) #[] #[]] w fun e w'=>∃ q:Int,e=.returned (.int .i64 q)∧w=w'∧(0≤q↔¬ ∀ x∈z,Kd x):=by
 have hl:z.length=n:=by rw [← h.len,I64_len]
 have NK:Hid (∀ (x:Int) (W:World),Calls Tryz.prog 108 #[.int .i64 x] W fun e w'=>e=.returned (.bool (!decide (Kd x)))∧W=w'):=fun x W=>noKind_p x W
 have HZ:=Lib.hid h
 have HL:=Lib.hid hl
 clear h hl
 go_enter Tryz.func135,Tryz.ntmps135
 go_wp2_with fail
 go_loopw [8] (fun i wr=>∃ k:Nat,k≤n∧i=.int .i64 k∧Hid (∀ j,j < k→Kd (z.getD j 0))∧wr=w) (fun i _=>n - (intOf i).toNat)
 case atStart=>exact ⟨0,by omega,rfl,fun j hj=>absurd hj (by omega),rfl⟩
 case round =>
  obtain ⟨k,hk,rfl,hy,rfl⟩:=hrel
  by_cases hlt:k < n
  ·obtain ⟨bb,o,rfl,_,kk⟩:=HZ.out.i64 (by omega)
   have x0:=kk k hlt
   have hmem:z.getD k 0∈z:=by
    have:k < z.length:=by rw [HL.out];exact hlt
    rw [List.getD_eq_getElem?_getD,List.getElem?_eq_getElem this];exact List.getElem_mem this
   have HME:=Lib.hid hmem
   have NX:Hid (Kd (z.getD k 0)→∀ j,j < k+1→Kd (z.getD j 0)):=fun q j hj=>by
    rcases Nat.lt_or_ge j k with c | c
    ·exact hy.out j c
    ·rw [show j=k by omega];exact q
   clear kk hmem
   generalize z.getD k 0=x at *
   have N1:=Lib.hid (NK.out x wr)
   by_cases q:Kd x
   ·rw [decide_eq_true q] at N1
    have HQ:=Lib.hid q
    clear q
    go_wp2_with fail
    refine N1.out.mono ?_
    rintro e w' ⟨rfl,rfl⟩
    go_wp2_with fail
    go_roundw
    case rel=>exact ⟨k+1,by omega,by go_num,NX.out HQ.out,trivial⟩
    case measure=>simp [intOf];omega
   ·rw [decide_eq_false q] at N1
    have HQ:=Lib.hid q
    clear q
    go_wp2_with fail
    refine N1.out.mono ?_
    rintro e w' ⟨rfl,rfl⟩
    go_wp2_with fail
    go_ret
    exact ⟨k,rfl,rfl,⟨fun _ H=>HQ.out (H _ HME.out),fun _=>by omega⟩⟩
  ·obtain rfl:k=n:=by omega
   go_wp2_with fail
   go_ret
   refine ⟨-1,rfl,rfl,⟨fun h=>absurd h (by omega),fun H=>absurd (fun x hx=>?_) H⟩⟩
   obtain ⟨j,hj,rfl⟩:=List.getElem_of_mem hx
   have:=hy.out j (by rw [← HL.out];exact hj)
   rwa [List.getD_eq_getElem?_getD,List.getElem?_eq_getElem hj] at this
theorem containsKind_p (A:Option Addr) (n c B:Nat) (z:List Int) (w:World) (h:Rd w B A n (I64 z)) (hn:n≤1000000) :
  Calls Tryz.prog 107 #[.slice A n c,.func (.func 108) #[] #[]] w fun e w'=>e=.returned (.bool (!decide (∀ x∈z,Kd x)))∧w=w':=by
 have ip:=indexKind_p A n c B z w h hn
 clear h
 by_cases h:∀ x∈z,Kd x
 ·have IP:Hid (Calls Tryz.prog 135 #[.slice A n c,.func (.func 108) #[] #[]] w fun e w'=>∃ q:Int,e=.returned (.int .i64 q)∧w=w'∧q < 0) :=
   ip.mono fun e w' ⟨q,h1,h2,h3⟩=>⟨q,h1,h2,by rcases Int.lt_or_le q 0 with c | c;exact c;exact absurd h (h3.1 c)⟩
  rw [decide_eq_true h]
  clear ip h
  go_enter Tryz.func107,Tryz.ntmps107
  go_wp2_with fail
  refine IP.out.mono ?_
  rintro e w' ⟨q,rfl,rfl,hq⟩
  have hd:decide (0≤q)=false:=by rw [decide_eq_false_iff_not];omega
  go_wp2_with fail
  go_ret
  exact ⟨by first | rfl | simp,rfl⟩
 ·have IP:Hid (Calls Tryz.prog 135 #[.slice A n c,.func (.func 108) #[] #[]] w fun e w'=>∃ q:Int,e=.returned (.int .i64 q)∧w=w'∧0≤q) :=
   ip.mono fun e w' ⟨q,h1,h2,h3⟩=>⟨q,h1,h2,h3.2 h⟩
  rw [decide_eq_false h]
  clear ip h
  go_enter Tryz.func107,Tryz.ntmps107
  go_wp2_with fail
  refine IP.out.mono ?_
  rintro e w' ⟨q,rfl,rfl,hq⟩
  have hd:decide (0≤q)=true:=by rw [decide_eq_true_iff];exact hq
  go_wp2_with fail
  go_ret
  exact ⟨by first | rfl | simp,rfl⟩
def toN (z:List Int):List Nat:=z.map Int.toNat
theorem toN_len (z:List Int):(toN z).length=z.length:=by simp [toN]
theorem toN_next (z:List Int) (k:Nat) (h:k < z.length):(toN z).take (k+1)=(toN z).take k++[(z.getD k 0).toNat]:=by
 rw [List.take_add_one,List.getElem?_eq_getElem (by rw [toN_len];exact h)]
 simp [toN,List.getD_eq_getElem?_getD,h]
set_option maxHeartbeats 4000000 in
theorem madd_p (B g:Nat) (ks:List Nat) (A:Option Addr) (n c:Nat) (z:List Int) (w:World) (h:WordS w B g ks (inBlk A)) (hz:Rd w w.heap.size A n (I64 z)) (hA:∀ i,inBlk A i→i < w.heap.size) (hn:ks.length+n≤400000) :
  Calls Tryz.prog 70 #[.pointer (some ⟨g,0,none⟩),.slice A n c] w fun e w'=>e=.returned (.int .i64 (if ∀ x∈z,Kd x then 0 else 1))∧WordAt w' B g (if ∀ x∈z,Kd x then ks++toN z else ks)∧Below B w w':=by
 have CP:=Lib.hid (containsKind_p A n c _ z w hz (by omega))
 have hl:z.length=n:=by rw [← hz.len,I64_len]
 by_cases hg:∀ x∈z,Kd x
 ·rw [decide_eq_true hg] at CP
  rw [if_pos hg,if_pos hg]
  have HG:Hid (∀ k,k < n→∃ q:Nat,q < 4∧z.getD k 0=(q:Int)):=fun k hk=>by
   have hk':k < z.length:=by omega
   have:=hg (z.getD k 0) (by rw [List.getD_eq_getElem?_getD,List.getElem?_eq_getElem hk'];exact List.getElem_mem hk')
   have h1:=this.1
   have h2:=this.2
   exact ⟨(z.getD k 0).toNat,by omega,by omega⟩
  have HA:=Lib.hid hA
  have PP:Hid (∀ (ls:List Nat) (k:Nat) (W:World),WordS W B g ls (inBlk A)→w.heap.size≤W.heap.size→k < 4→ls.length≤400000→Calls Tryz.prog 84 #[.pointer (some ⟨g,0,none⟩),.int .i64 (k:Int)] W fun e w'=>e=.returned (.tuple #[])∧WordS w' B g (ls++[k]) (inBlk A)∧Below B W w'∧Mod (fun i=>¬ inBlk A i) W w'):=fun ls k W h hs hk hl=>mput_s B g ls k W _ h hk hl (fun i hi=>Nat.lt_of_lt_of_le (HA.out i hi) hs)
  have HZ:=Lib.hid hz
  have HL:=Lib.hid hl
  have HW:=Lib.hid h
  clear hz h hg hl
  go_enter Tryz.func70,Tryz.ntmps70
  go_wp2_with fail
  refine CP.out.mono ?_
  rintro e w' ⟨rfl,rfl⟩
  clear CP
  go_wp2_with fail
  go_loopw [13] (fun i wr=>∃ k:Nat,k≤n∧i=.int .i64 k∧Hid (WordS wr B g (ks++(toN z).take k) (inBlk A))∧Hid (Below B w wr)∧Hid (Mod (fun i=>¬ inBlk A i) w wr)) (fun i _=>n - (intOf i).toNat)
  case atStart=>exact ⟨0,by omega,rfl,by show WordS _ _ _ _ _;rw [List.take_zero,List.append_nil];exact HW.out,Below.refl _ _,Mod.refl _ _⟩
  case round =>
   obtain ⟨k,hk,rfl,HS,HB,HM⟩:=hrel
   by_cases hlt:k < n
   ·have hr:=HZ.out.mod HM.out (Nat.le_refl _) (fun _ i hi hs=>hs hi)
    obtain ⟨bb,o,rfl,_,kk⟩:=hr.i64 (by omega)
    have x0:=kk k hlt
    obtain ⟨q,hq4,hq⟩:=HG.out k hlt
    have hnx:=toN_next z k (by rw [HL.out];exact hlt)
    rw [hq,Int.toNat_natCast] at hnx
    rw [hq] at x0
    have HNX:=Lib.hid hnx
    have P1:=Lib.hid (PP.out _ q wr HS.out HM.out.size hq4 (by rw [List.length_append,List.length_take];omega))
    clear kk hr hq hnx hq4 HS
    go_wp2_with fail
    refine P1.out.mono ?_
    rintro e w2 ⟨rfl,hw2,z2,m2⟩
    have HW2:=Lib.hid hw2
    have HB2:=Lib.hid (HB.out.trans z2)
    have HM2:=Lib.hid (HM.out.trans m2 (fun i _ hi=>hi))
    clear hw2 z2 m2 P1 HB HM
    go_wp2_with fail
    go_roundw
    case rel=>exact ⟨k+1,by omega,by go_num,by show WordS _ _ _ _ _;rw [HNX.out,← List.append_assoc];exact HW2.out,HB2.out,HM2.out⟩
    case measure=>simp [intOf];omega
   ·obtain rfl:k=n:=by omega
    go_wp2_with fail
    go_ret
    have:=HS.out
    rw [List.take_of_length_le (by rw [toN_len,HL.out];exact Nat.le_refl _)] at this
    exact ⟨rfl,this.at_,HB.out⟩
 ·rw [decide_eq_false hg] at CP
  rw [if_neg hg,if_neg hg]
  have HW:=Lib.hid h
  clear hz h hg hl
  go_enter Tryz.func70,Tryz.ntmps70
  go_wp2_with fail
  refine CP.out.mono ?_
  rintro e w' ⟨rfl,rfl⟩
  go_wp2_with fail
  go_ret
  exact ⟨rfl,HW.out.at_,Below.refl _ _⟩
end Go.Proofs.YtijbdnhlpbcabaaGreatDoor
