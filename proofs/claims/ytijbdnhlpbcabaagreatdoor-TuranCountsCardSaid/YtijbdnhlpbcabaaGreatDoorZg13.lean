/- The index of a word: Len, At, Mate, Owner. -/
import Derived.Test.YtijbdnhlpbcabaaGreatDoorZg12
import Derived.Deep.RegionWith
import Derived.BigQuiet
import Derived.Test.YtijbdnhlpbcabaaGreatDoorZg8
import Derived.Test.YtijbdnhlpbcabaaGreatDoorZg6
import Derived.Deep.QuietTactic
open Go.RowKit
set_option linter.unusedVariables false
namespace Go.Proofs.YtijbdnhlpbcabaaGreatDoor
set_option maxRecDepth 20000
section
variable {w0 w:World} {m gx p0 g0 p1 g1 q:Nat} {ks:List Nat}
theorem Mx.c0 (h:Mx w0 w m gx p0 g0 p1 g1 ks q):w.cell? ⟨m,0,none⟩=some (.pointer (some ⟨gx,0,none⟩)):=h.blk.cell 0
theorem Mx.c1 (h:Mx w0 w m gx p0 g0 p1 g1 ks q):w.cell? ⟨m,1,none⟩=some (.pointer (some ⟨p0,0,none⟩)):=h.blk.cell 1
theorem Mx.c2 (h:Mx w0 w m gx p0 g0 p1 g1 ks q):w.cell? ⟨m,2,none⟩=some (.pointer (some ⟨p1,0,none⟩)):=h.blk.cell 2
theorem ilen_p (h:Mx w0 w m gx p0 g0 p1 g1 ks q):Calls Tryz.prog 61 #[.pointer (some ⟨m,0,none⟩)] w fun e w'=>e=.returned (.int .i64 (ks.length:Int))∧w=w':=by
 obtain ⟨d,k,_,hx⟩:=h.ix
 have XL:=Lib.hid (xlen_p gx _ _ k d w hx)
 have c0:=h.c0
 clear h hx
 go_enter Tryz.func61,Tryz.ntmps61
 go_wp2_with fail
 refine XL.out.mono ?_
 rintro e w' ⟨rfl,rfl⟩
 go_wp2_with fail
 go_ret
 exact ⟨rfl,rfl⟩
theorem ready4_ok (a:Addr) (i l:Int) (w:World) (h1:0≤i) (h2:i≤l):Calls Tryz.prog 148 #[.pointer (some a),.int .i64 i,.int .i64 l] w fun e w'=>e=.returned (.int .i64 0)∧w=w':=by
 have h3:¬ i < 0:=by omega
 have h4:¬ l < i:=by omega
 go_enter Tryz.func148,Tryz.ntmps148
 go_wp2_with fail
 go_ret
 exact ⟨rfl,rfl⟩
theorem ahead_p (h:Mx w0 w m gx p0 g0 p1 g1 ks q) (s i:Nat) (hs:s < 2) (hi:i≤ks.length) (hq:q≤1000000) :
  Calls Tryz.prog 127 #[.pointer (some ⟨m,0,none⟩),.int .i64 (s:Int),.int .i64 (i:Int)] w (MxP w0 w m gx p0 g0 p1 g1 ks (q+1) (.returned (.int .i64 ((ah s ks i:Nat):Int)))):=by
 obtain ⟨d,k,hk,hx⟩:=h.ix
 have RK:=Lib.hid (rank_yes gx _ _ k i d (s:Int) w hx (by omega) (by omega) hi)
 rw [cb_ah h.kd s hs i hi] at RK
 have c0:=h.c0
 have H:=Lib.hid h
 clear h hx
 go_enter Tryz.func127,Tryz.ntmps127
 go_wp2_with fail
 refine RK.out.mono ?_
 rintro e w' ⟨rfl,hx,md⟩
 have HX:=Lib.hid hx
 have HM:=Lib.hid md
 clear hx md RK
 go_wp2_with fail
 go_ret
 exact ⟨rfl,H.out.askX HX.out hk HM.out,HM.out.mono fun i _ hi=>.inl hi⟩
theorem place_q (h:Mx w0 w m gx p0 g0 p1 g1 ks q) (s y:Nat) (hs:s < 2) (hy:y < (ownL s ks).length) (hq:q≤1000000) :
  Calls Tryz.prog 150 #[.pointer (some ⟨m,0,none⟩),.int .i64 (s:Int),.int .i64 (y:Int)] w fun e w'=>∃ p,p < ks.length∧ks.getD p 0 / 2=s∧ah s ks p=y∧MxP w0 w m gx p0 g0 p1 g1 ks (q+1) (.returned (.int .i64 (p:Int))) e w':=by
 obtain ⟨d,k,hk,hx⟩:=h.ix
 have hcb:y < cb (s:Int) (val (shp ks)) ks.length:=by rw [cb_ah h.kd s hs _ (Nat.le_refl _),ah_all];exact hy
 have hgt:2 < gx:=Nat.lt_of_lt_of_le h.tab.2 h.lo.2.1
 have SY:=Lib.hid (sel_yes gx _ _ k y d (s:Int) w hx h.tabw (by omega) (by omega) hcb hgt)
 have c0:=h.c0
 have H:=Lib.hid h
 clear h hx hcb hgt
 go_enter Tryz.func150,Tryz.ntmps150
 go_wp2_with fail
 refine SY.out.mono ?_
 rintro e w' ⟨p,rfl,hp,hb,hc,hx,md⟩
 have HP:Hid (p < ks.length∧ks.getD p 0 / 2=s∧ah s ks p=y):=⟨hp,(isB_shp H.out.kd s hs p).1 hb,by rw [← cb_ah H.out.kd s hs p (by omega)];exact hc⟩
 have HX:=Lib.hid hx
 have HM:=Lib.hid md
 clear hx md SY hp hb hc
 go_wp2_with fail
 go_ret
 exact ⟨p,HP.out.1,HP.out.2.1,HP.out.2.2,rfl,H.out.askX HX.out hk HM.out,HM.out.mono fun i _ hi=>.inl hi⟩
theorem imate_p (h:Mx w0 w m gx p0 g0 p1 g1 ks q) (s y:Nat) (hs:s < 2) (hy:y < (ownL s ks).length) (hq:q≤900000) :
  Calls Tryz.prog 155 #[.pointer (some ⟨m,0,none⟩),.int .i64 (s:Int),.int .i64 (y:Int)] w fun e w'=>∃ z:Nat,z < (ownL s ks).length∧MateOK (exc (val (ownL s ks))) y (z:Int)∧MxP w0 w m gx p0 g0 p1 g1 ks (q+4) (.returned (.int .i64 (z:Int))) e w':=by
 have lt:∀ (l:List Nat) (x:Int),Bal (exc (val l)) l.length→∀ y,y < l.length→MateOK (exc (val l)) y x→∃ z:Nat,x=(z:Int)∧z < l.length:=fun l x hB y hy hm=>by
  obtain ⟨z,rfl,hp⟩:=hm
  refine ⟨z,rfl,?_⟩
  rcases hp with hp | hp
  ·have hj:=fwd_ex hB hy (m:=exc (val l) y) (hB.1 y (by omega))
   obtain ⟨j,hj⟩:=hj
   have:=(hj.pair (exc_Exc _) (hp.opens (exc_Exc _))).uniq hp
   have:=hj.le
   have:=hj.lt
   omega
  ·have:=hp.lt;omega
 have c1:=h.c1
 have c2:=h.c2
 have H:=Lib.hid h
 rcases (by omega:s=0∨s=1) with rfl | rfl
 ·obtain ⟨d,ha⟩:=h.pa
  have MY:=Lib.hid (mate_yes p0 g0 _ _ q d w y h.nulw h.hp0 ha h.b0 hy (by omega))
  clear h ha c2
  go_enter Tryz.func155,Tryz.ntmps155
  go_wp2_with fail
  refine MY.out.mono ?_
  rintro e w' ⟨hp,md,x,rfl,hm,_,_⟩
  obtain ⟨z,rfl,hz⟩:=lt _ _ H.out.b0 y hy hm
  have HX:=Lib.hid hp
  have HM:=Lib.hid md
  have HT:=Lib.hid hm
  clear hp md hm MY lt
  go_wp2_with fail
  go_ret
  exact ⟨z,hz,HT.out,rfl,H.out.askA HX.out (by omega) HM.out,two_mx0 HM.out⟩
 ·obtain ⟨d,ha⟩:=h.pb
  have MY:=Lib.hid (mate_yes p1 g1 _ _ q d w y h.nulw h.hp1 ha h.b1 hy (by omega))
  clear h ha c1
  go_enter Tryz.func155,Tryz.ntmps155
  go_wp2_with fail
  refine MY.out.mono ?_
  rintro e w' ⟨hp,md,x,rfl,hm,_,_⟩
  obtain ⟨z,rfl,hz⟩:=lt _ _ H.out.b1 y hy hm
  have HX:=Lib.hid hp
  have HM:=Lib.hid md
  have HT:=Lib.hid hm
  clear hp md hm MY lt
  go_wp2_with fail
  go_ret
  exact ⟨z,hz,HT.out,rfl,H.out.askB HX.out (by omega) HM.out,two_mx1 HM.out⟩
def MateAt (ks:List Nat) (i p:Nat):Prop:=p < ks.length∧ks.getD p 0 / 2=ks.getD i 0 / 2∧MateOK (exc (val (ownL (ks.getD i 0 / 2) ks))) (ah (ks.getD i 0 / 2) ks i) ((ah (ks.getD i 0 / 2) ks p:Nat):Int)
theorem Mx.shape (h:Mx w0 w m gx p0 g0 p1 g1 ks q) (i:Nat) (hi:i < ks.length):Calls Tryz.prog 124 #[.pointer (some ⟨gx,0,none⟩),.int .i64 (i:Int)] w fun e w'=>e=.returned (.int .i64 ((ks.getD i 0 / 2:Nat):Int))∧w=w':=by
 obtain ⟨d,k,_,hx⟩:=h.ix
 have h1:=xat_in gx _ _ k i d w hx hi
 rwa [shp_bit h.kd] at h1
set_option maxHeartbeats 1000000 in
theorem mateI_p (h:Mx w0 w m gx p0 g0 p1 g1 ks q) (i:Nat) (hi:i < ks.length) (hq:q≤800000) :
  Calls Tryz.prog 136 #[.pointer (some ⟨m,0,none⟩),.int .i64 (i:Int)] w fun e w'=>∃ p:Nat,MateAt ks i p∧MxP w0 w m gx p0 g0 p1 g1 ks (q+6) (.returned (.tuple #[.int .i64 (p:Int),.int .i64 0])) e w':=by
 have LN:=Lib.hid (ilen_p h)
 have hn9:=h.n9
 have RD:=Lib.hid (ready4_ok ⟨m,0,none⟩ (i:Int) ((ks.length:Int) - 1) w (by omega) (by omega))
 have SH:=Lib.hid (h.shape i hi)
 have hk4:=h.kd.getD i
 have AHL:=Lib.hid (ah_lt (ks.getD i 0 / 2) ks i hi rfl)
 obtain ⟨s,hs⟩:∃ s,s=ks.getD i 0 / 2:=⟨_,rfl⟩
 have HS:=Lib.hid hs
 have hs2:s < 2:=by omega
 rw [← hs] at SH AHL
 have AP:=Lib.hid (ahead_p h s i hs2 (by omega) (by omega))
 have c0:=h.c0
 have H:=Lib.hid h
 clear h hs hk4
 obtain ⟨y,hy⟩:∃ y,y=ah s ks i:=⟨_,rfl⟩
 have HY:=Lib.hid hy
 rw [← hy] at AP AHL
 clear hy
 go_enter Tryz.func136,Tryz.ntmps136
 go_wp2_with fail
 refine LN.out.mono ?_
 rintro e w1 ⟨rfl,rfl⟩
 go_wp2_with fail
 refine RD.out.mono ?_
 rintro e w1 ⟨rfl,rfl⟩
 go_wp2_with fail
 refine SH.out.mono ?_
 rintro e w1 ⟨rfl,rfl⟩
 go_wp2_with fail
 refine AP.out.mono ?_
 rintro e w1 ⟨rfl,h1,m1⟩
 have MP:=Lib.hid (imate_p h1 s y hs2 AHL.out (by omega))
 have M1:=Lib.hid m1
 clear h1 m1 AP SH RD LN c0 H
 go_wp2_with fail
 refine MP.out.mono ?_
 rintro e w2 ⟨z,hz,hmo,rfl,h2,m2⟩
 have PP:=Lib.hid (place_q h2 s z hs2 hz (by omega))
 have M2:=Lib.hid (M1.out.trans m2 fun _ _ h=>h)
 have HMO:=Lib.hid hmo
 clear h2 m2 M1 MP hmo
 go_wp2_with fail
 refine PP.out.mono ?_
 rintro e w3 ⟨p,hp,hps,hpa,rfl,h3,m3⟩
 have H3:=Lib.hid h3
 have M3:=Lib.hid (M2.out.trans m3 fun _ _ h=>h)
 have HPS:=Lib.hid hps
 have HPA:=Lib.hid hpa
 clear h3 m3 M2 PP hps hpa
 go_wp2_with fail
 go_ret2
 refine ⟨p,⟨hp,?_,?_⟩,rfl,H3.out,M3.out⟩
 ·rw [← HS.out];exact HPS.out
 ·rw [← HS.out,← HY.out,HPA.out];exact HMO.out
theorem kindOf_p (s b:Nat) (w:World) (hs:s < 2):Calls Tryz.prog 125 #[.int .i64 (s:Int),.bool (decide (b=1))] w fun e w'=>e=.returned (.int .i64 ((2*s+(if b=1 then 0 else 1):Nat):Int))∧w=w':=by
 by_cases hb:b=1
 ·rw [decide_eq_true hb,if_pos hb]
  go_enter Tryz.func125,Tryz.ntmps125
  go_wp2_with fail
  go_ret
  exact ⟨by first | rfl | (simp;omega),rfl⟩
 ·rw [decide_eq_false hb,if_neg hb]
  go_enter Tryz.func125,Tryz.ntmps125
  go_wp2_with fail
  go_ret
  exact ⟨by first | rfl | (simp;omega),rfl⟩
theorem Mx.open_ (h:Mx w0 w m gx p0 g0 p1 g1 ks q) (i:Nat) (hi:i < (ownL 0 ks).length):Calls Tryz.prog 126 #[.pointer (some ⟨p0,0,none⟩),.int .i64 (i:Int)] w fun e w'=>e=.returned (.bool (decide ((ownL 0 ks).getD i 0=1)))∧w=w':=by
 obtain ⟨d,ha⟩:=h.pa
 have h1:=popen_in p0 g0 _ _ q w i ha.ix hi
 rwa [val_bit (ownL_bin 0 ks)] at h1
theorem Mx.openB (h:Mx w0 w m gx p0 g0 p1 g1 ks q) (i:Nat) (hi:i < (ownL 1 ks).length):Calls Tryz.prog 126 #[.pointer (some ⟨p1,0,none⟩),.int .i64 (i:Int)] w fun e w'=>e=.returned (.bool (decide ((ownL 1 ks).getD i 0=1)))∧w=w':=by
 obtain ⟨d,ha⟩:=h.pb
 have h1:=popen_in p1 g1 _ _ q w i ha.ix hi
 rwa [val_bit (ownL_bin 1 ks)] at h1
set_option maxHeartbeats 1000000 in
theorem iat_p (h:Mx w0 w m gx p0 g0 p1 g1 ks q) (i:Nat) (hi:i < ks.length) (hq:q≤1000000) :
  Calls Tryz.prog 97 #[.pointer (some ⟨m,0,none⟩),.int .i64 (i:Int)] w (MxP w0 w m gx p0 g0 p1 g1 ks (q+1) (.returned (.int .i64 ((ks.getD i 0:Nat):Int)))):=by
 have LN:=Lib.hid (ilen_p h)
 have SH:=Lib.hid (h.shape i hi)
 have hk4:=h.kd.getD i
 have AHL:=Lib.hid (ah_lt (ks.getD i 0 / 2) ks i hi rfl)
 have OG:=Lib.hid (ownL_get (ks.getD i 0 / 2) ks i hi rfl)
 obtain ⟨s,hs⟩:∃ s,s=ks.getD i 0 / 2:=⟨_,rfl⟩
 have hs2:s < 2:=by omega
 rw [← hs] at SH AHL OG
 have AP:=Lib.hid (ahead_p h s i hs2 (by omega) hq)
 have c0:=h.c0
 have c1:=h.c1
 have c2:=h.c2
 obtain ⟨y,hy⟩:∃ y,y=ah s ks i:=⟨_,rfl⟩
 rw [← hy] at AP AHL OG
 have HYY:=Lib.hid hy
 have hni:¬ (ks.length:Int)≤(i:Int):=by omega
 have KK:Hid (2*s+(if (1 - ks.getD i 0%2)=1 then 0 else 1)=ks.getD i 0):=by
  show _=_
  split <;> omega
 obtain ⟨b,hb⟩:∃ b,b=1 - ks.getD i 0%2:=⟨_,rfl⟩
 rw [← hb] at KK OG
 generalize ks.getD i 0=kk at *
 clear hy hb hs hk4
 have KO:=Lib.hid (fun W=>kindOf_p s b W hs2)
 rw [KK.out] at KO
 have AP2:Hid (Calls Tryz.prog 127 #[.pointer (some ⟨m,0,none⟩),.int .i64 (s:Int),.int .i64 (i:Int)] w.drew (MxP w0 w.drew m gx p0 g0 p1 g1 ks (q+1) (.returned (.int .i64 (y:Int))))):=by
  have hd:=ahead_p (h.below ((Below.refl w.heap.size w).drew)) s i hs2 (by omega) hq
  rw [← HYY.out] at hd;exact hd
 rcases (by omega:s=0∨s=1) with rfl | rfl
 ·have H:=Lib.hid h
  have AP3:Hid (Calls Tryz.prog 127 #[.pointer (some ⟨m,0,none⟩),.int .i64 0,.int .i64 (i:Int)] w.drew (MxP w0 w.drew m gx p0 g0 p1 g1 ks (q+1) (.returned (.int .i64 (y:Int))))):=AP2
  have KO3:Hid (∀ W,Calls Tryz.prog 125 #[.int .i64 0,.bool (decide (b=1))] W fun e w'=>e=.returned (.int .i64 (kk:Int))∧W=w'):=KO
  clear h c2 AP AP2 KO
  go_enter Tryz.func97,Tryz.ntmps97
  go_wp2_with fail
  refine LN.out.mono ?_
  rintro e w1 ⟨rfl,rfl⟩
  go_wp2_with fail
  refine SH.out.mono ?_
  rintro e w1 ⟨rfl,rfl⟩
  go_wp2_with fail
  clear LN SH
  go_region_with (first
   | (go_at_call 127;(with_reducible refine AP3.out.mono ?_);rintro e wa ⟨rfl,ha,ma⟩;have k1:=ha.c1;have OP:=ha.open_ y AHL.out;rw [OG.out] at OP;have HA:=Lib.hid ha;have MA:=Lib.hid ma;have HOP:=Lib.hid OP;clear ha ma OP)
   | (go_at_call 126;(with_reducible refine HOP.out.mono ?_);rintro e wb ⟨rfl,rfl⟩)
   | (go_at_call 125;(with_reducible refine (KO3.out _).mono ?_);rintro e wb ⟨rfl,rfl⟩))
  all_goals (
   go_wp2_with fail
   go_ret
   exact ⟨rfl,HA.out,(Mod.refl (MxS gx p0 g0 p1 g1) w).drew.trans MA.out fun _ _ h=>h⟩)
 ·have H:=Lib.hid h
  have AP3:Hid (Calls Tryz.prog 127 #[.pointer (some ⟨m,0,none⟩),.int .i64 1,.int .i64 (i:Int)] w.drew (MxP w0 w.drew m gx p0 g0 p1 g1 ks (q+1) (.returned (.int .i64 (y:Int))))):=AP2
  have KO3:Hid (∀ W,Calls Tryz.prog 125 #[.int .i64 1,.bool (decide (b=1))] W fun e w'=>e=.returned (.int .i64 (kk:Int))∧W=w'):=KO
  clear h c1 AP AP2 KO
  go_enter Tryz.func97,Tryz.ntmps97
  go_wp2_with fail
  refine LN.out.mono ?_
  rintro e w1 ⟨rfl,rfl⟩
  go_wp2_with fail
  refine SH.out.mono ?_
  rintro e w1 ⟨rfl,rfl⟩
  go_wp2_with fail
  clear LN SH
  go_region_with (first
   | (go_at_call 127;(with_reducible refine AP3.out.mono ?_);rintro e wa ⟨rfl,ha,ma⟩;have k1:=ha.c2;have OP:=ha.openB y AHL.out;rw [OG.out] at OP;have HA:=Lib.hid ha;have MA:=Lib.hid ma;have HOP:=Lib.hid OP;clear ha ma OP)
   | (go_at_call 126;(with_reducible refine HOP.out.mono ?_);rintro e wb ⟨rfl,rfl⟩)
   | (go_at_call 125;(with_reducible refine (KO3.out _).mono ?_);rintro e wb ⟨rfl,rfl⟩))
  all_goals (
   go_wp2_with fail
   go_ret
   exact ⟨rfl,HA.out,(Mod.refl (MxS gx p0 g0 p1 g1) w).drew.trans MA.out fun _ _ h=>h⟩)
end
end Go.Proofs.YtijbdnhlpbcabaaGreatDoor
namespace Go.Proofs.YtijbdnhlpbcabaaGreatDoor
set_option maxRecDepth 20000
def OwnZ (ks:List Nat) (i:Nat) (z:Int):Prop :=
 if ks.getD i 0=1 then MateOK (exc (val (ownL 0 ks))) (ah 0 ks i) z
 else if ah 0 ks i=0 then z=-1
 else if (ownL 0 ks).getD (ah 0 ks i - 1) 0=1 then z=((ah 0 ks i - 1:Nat):Int)
 else RoundOK (exc (val (ownL 0 ks))) (ah 0 ks i - 1) z
def OwnAt (ks:List Nat) (i:Nat) (r:Int):Prop:=∃ z,OwnZ ks i z∧((z=-1∧r=-1)∨∃ p:Nat,r=(p:Int)∧p < ks.length∧ks.getD p 0 / 2=0∧z=((ah 0 ks p:Nat):Int))
section
variable {w0 w:World} {m gx p0 g0 p1 g1 q:Nat} {ks:List Nat}
set_option maxHeartbeats 8000000 in
theorem owner_q (h:Mx w0 w m gx p0 g0 p1 g1 ks q) (i:Nat) (hi:i < ks.length) (hq:q≤800000) :
  Calls Tryz.prog 149 #[.pointer (some ⟨m,0,none⟩),.int .i64 (i:Int)] w fun e w'=>∃ z:Int,OwnZ ks i z∧(z=-1∨∃ y:Nat,z=(y:Int)∧y < (ownL 0 ks).length)∧MxP w0 w m gx p0 g0 p1 g1 ks (q+6) (.returned (.int .i64 z)) e w':=by
 have AP:=Lib.hid (ahead_p h 0 i (by decide) (by omega) (by omega))
 have AE:=Lib.hid (ah_end 0 ks i (by omega))
 have hy9:ah 0 ks i≤1000000:=by have h1:=ah_le 0 ks i (by omega);have h2:=h.n9;omega
 have AL:=Lib.hid (fun (hs:ks.getD i 0 / 2=0)=>ah_lt 0 ks i hi hs)
 have hk4:=h.kd.getD i
 have c1:=h.c1
 have OZ:Hid (∀ z,OwnZ ks i z↔(if ks.getD i 0=1 then MateOK (exc (val (ownL 0 ks))) (ah 0 ks i) z
   else if ah 0 ks i=0 then z=-1
   else if (ownL 0 ks).getD (ah 0 ks i - 1) 0=1 then z=((ah 0 ks i - 1:Nat):Int)
   else RoundOK (exc (val (ownL 0 ks))) (ah 0 ks i - 1) z)):=fun z=>Iff.rfl
 obtain ⟨y,hy⟩:∃ y,y=ah 0 ks i:=⟨_,rfl⟩
 rw [← hy] at AP AE AL OZ hy9
 obtain ⟨k,hk⟩:∃ k,k=ks.getD i 0:=⟨_,rfl⟩
 rw [← hk] at OZ AL hk4
 have IAT:Hid (∀ {w1:World} {q1:Nat},Mx w0 w1 m gx p0 g0 p1 g1 ks q1→q1≤1000000→Calls Tryz.prog 97 #[.pointer (some ⟨m,0,none⟩),.int .i64 (i:Int)] w1 (MxP w0 w1 m gx p0 g0 p1 g1 ks (q1+1) (.returned (.int .i64 (k:Int))))):=fun h1 hq1=>by
  rw [hk];exact iat_p h1 i hi hq1
 clear h hy hk
 go_enter Tryz.func149,Tryz.ntmps149
 go_wp2_with fail
 refine AP.out.mono ?_
 rintro e w1 ⟨rfl,h1,m1⟩
 have IA:=Lib.hid (IAT.out h1 (by omega))
 have M1:=Lib.hid m1
 have c3:=h1.c1
 clear h1 m1 AP IAT c1
 go_wp2_with fail
 refine IA.out.mono ?_
 rintro e w2 ⟨rfl,h2,m2⟩
 have H2:=Lib.hid h2
 have M2:=Lib.hid (M1.out.trans m2 fun _ _ h=>h)
 have c1:=h2.c1
 clear h2 m2 IA M1 c3
 by_cases hk1:k=1
 ·have ym:=AL.out (by omega)
  have MP:=Lib.hid (imate_p H2.out 0 y (by decide) ym (by omega))
  have OZ1:Hid (∀ z,MateOK (exc (val (ownL 0 ks))) y z→OwnZ ks i z):=fun z hz=>(OZ.out _).2 (by rw [if_pos hk1];exact hz)
  subst hk1
  clear AL AE ym hk4 OZ
  go_wp2_with fail
  refine MP.out.mono ?_
  rintro e w3 ⟨z,hz,hmo,rfl,h3,m3⟩
  have H3:=Lib.hid h3
  have M3:=Lib.hid (M2.out.trans m3 fun _ _ h=>h)
  have HMO:=Lib.hid hmo
  clear h3 m3 M2 MP hmo
  go_wp2_with fail
  go_ret
  exact ⟨(z:Int),OZ1.out _ HMO.out,.inr ⟨z,rfl,hz⟩,rfl,H3.out.le (by omega),M3.out⟩
 ·have hkb:((k:Int) == 1)=false:=by rw [beq_eq_false_iff_ne];omega
  have hki:¬ (k:Int)=1:=by omega
  by_cases hy0:y=0
  ·subst hy0
   have OZ2:Hid (OwnZ ks i (-1)):=(OZ.out _).2 (by rw [if_neg hk1,if_pos rfl])
   clear hk1 AL AE OZ
   go_wp2_with fail
   go_ret
   exact ⟨-1,OZ2.out,.inl rfl,rfl,H2.out.le (by omega),M2.out⟩
  ·obtain ⟨x,rfl⟩:∃ x,y=x+1:=⟨y - 1,by omega⟩
   have hxl:x < (ownL 0 ks).length:=by have:=AE.out;omega
   have hsub:(x:Int)+1 - 1=(x:Int):=by omega
   have hyb:(((x:Int)+1) == 0)=false:=by rw [beq_eq_false_iff_ne];omega
   have hyi:¬ ((x:Int)+1)=0:=by omega
   have OP:=Lib.hid (H2.out.open_ x hxl)
   rw [show x+1 - 1=x by omega] at OZ
   by_cases ho:(ownL 0 ks).getD x 0=1
   ·have OZ2:Hid (OwnZ ks i (x:Int)):=(OZ.out _).2 (by rw [if_neg hk1,if_neg hy0,if_pos ho])
    rw [decide_eq_true ho] at OP
    have HXL:=Lib.hid hxl
    clear hk1 hy0 AL AE OZ ho hxl
    go_wp2_with fail
    refine OP.out.mono ?_
    rintro e w3 ⟨rfl,rfl⟩
    go_wp2_with fail
    go_ret
    exact ⟨(x:Int),OZ2.out,.inr ⟨x,rfl,HXL.out⟩,rfl,H2.out.le (by omega),M2.out⟩
   ·obtain ⟨d,ha⟩:=H2.out.pa
    have RY:=Lib.hid (round_yes p0 g0 _ _ (q+1+1) d w2 x H2.out.nulw H2.out.hp0 ha H2.out.b0 hxl (by omega))
    have OZ2:Hid (∀ z,RoundOK (exc (val (ownL 0 ks))) x z→OwnZ ks i z):=fun z hz=>(OZ.out _).2 (by rw [if_neg hk1,if_neg hy0,if_neg ho];exact hz)
    rw [decide_eq_false ho] at OP
    have HXL:=Lib.hid hxl
    clear hk1 hy0 AL AE OZ ho hxl ha
    go_wp2_with fail
    refine OP.out.mono ?_
    rintro e w3 ⟨rfl,rfl⟩
    go_wp2_with fail
    refine RY.out.mono ?_
    rintro e w3 ⟨hp,md,z,rfl,hz,_,_⟩
    have H3:=Lib.hid (H2.out.askA hp (by omega) md)
    have M3:Hid (Mod (MxS gx p0 g0 p1 g1) w w3):=M2.out.trans (two_mx0 md) fun _ _ h=>h
    have HZ:=Lib.hid hz
    have HZ2:Hid (z=-1∨∃ y:Nat,z=(y:Int)∧y < (ownL 0 ks).length):=by
     obtain ⟨a,ha,hax⟩:∃ a,(exc (val (ownL 0 ks)) (x+1)=exc (val (ownL 0 ks)) x+1∧a=x∨exc (val (ownL 0 ks)) (x+1)=exc (val (ownL 0 ks)) x - 1∧a=x+1)∧a≤x+1:=by
      rcases (exc_Exc (val (ownL 0 ks))).step x with h | h
      ·exact ⟨x,.inl ⟨h,rfl⟩,by omega⟩
      ·exact ⟨x+1,.inr ⟨h,rfl⟩,Nat.le_refl _⟩
     have hz2:=hz a ha
     split at hz2
     ·exact .inl hz2
     ·obtain ⟨o,rfl,ho⟩:=hz2
      exact .inr ⟨o,rfl,by have:=HXL.out;have:=ho.lt;omega⟩
    clear hp md hz RY OP M2
    go_wp2_with fail
    go_ret
    exact ⟨z,OZ2.out z HZ.out,HZ2.out,rfl,H3.out.le (by omega),M3.out⟩
set_option maxHeartbeats 1000000 in
theorem ownerI_p (h:Mx w0 w m gx p0 g0 p1 g1 ks q) (i:Nat) (hi:i < ks.length) (hq:q≤700000) :
  Calls Tryz.prog 128 #[.pointer (some ⟨m,0,none⟩),.int .i64 (i:Int)] w fun e w'=>∃ r:Int,OwnAt ks i r∧MxP w0 w m gx p0 g0 p1 g1 ks (q+7) (.returned (.tuple #[.int .i64 r,.int .i64 0])) e w':=by
 have LN:=Lib.hid (ilen_p h)
 have hn9:=h.n9
 have RD:=Lib.hid (ready4_ok ⟨m,0,none⟩ (i:Int) ((ks.length:Int) - 1) w (by omega) (by omega))
 have OQ:=Lib.hid (owner_q h i hi (by omega))
 clear h
 go_enter Tryz.func128,Tryz.ntmps128
 go_wp2_with fail
 refine LN.out.mono ?_
 rintro e w1 ⟨rfl,rfl⟩
 go_wp2_with fail
 refine RD.out.mono ?_
 rintro e w1 ⟨rfl,rfl⟩
 go_wp2_with fail
 refine OQ.out.mono ?_
 rintro e w2 ⟨z,hz,hor,rfl,h2,m2⟩
 have HZ:=Lib.hid hz
 have M2:=Lib.hid m2
 have H2:=Lib.hid h2
 clear hz m2 OQ h2
 rcases hor with rfl | ⟨y,rfl,hy⟩
 ·go_wp2_with fail
  go_ret2
  exact ⟨-1,⟨-1,HZ.out,.inl ⟨rfl,rfl⟩⟩,rfl,H2.out.le (by omega),M2.out⟩
 ·have hyb:((y:Int) == -1)=false:=by rw [beq_eq_false_iff_ne];omega
  have hyi:¬ (y:Int)=-1:=by omega
  have PP:=Lib.hid (place_q H2.out 0 y (by decide) hy (by omega))
  clear hy
  go_wp2_with fail
  refine PP.out.mono ?_
  rintro e w3 ⟨p,hp,hps,hpa,rfl,h3,m3⟩
  have H3:=Lib.hid h3
  have M3:=Lib.hid (M2.out.trans m3 fun _ _ h=>h)
  have HP:Hid (p < ks.length∧ks.getD p 0 / 2=0∧ah 0 ks p=y):=⟨hp,hps,hpa⟩
  clear h3 m3 M2 PP hp hps hpa
  go_wp2_with fail
  go_ret2
  exact ⟨(p:Int),⟨(y:Int),HZ.out,.inr ⟨p,rfl,HP.out.1,HP.out.2.1,by rw [HP.out.2.2]⟩⟩,rfl,H3.out.le (by omega),M3.out⟩
end
end Go.Proofs.YtijbdnhlpbcabaaGreatDoor
namespace Go.Proofs.YtijbdnhlpbcabaaGreatDoor
theorem wd_piece {V n k s:Nat} (h:V < 2 ^ n) (hs:s=min 64 (n - 64*k)) (hk:64*k≤n):V / 2 ^ (64*k)%2 ^ s=wd V k:=by
 unfold wd
 by_cases h64:64≤n - 64*k
 ·rw [hs,Nat.min_eq_left h64]
 ·rw [hs,Nat.min_eq_right (by omega)]
  have hlt:V / 2 ^ (64*k) < 2 ^ (n - 64*k):=by
   rw [Nat.div_lt_iff_lt_mul (Nat.two_pow_pos _),← Nat.pow_add]
   rwa [show n - 64*k+64*k=n by omega]
  rw [Nat.mod_eq_of_lt hlt,Nat.mod_eq_of_lt (Nat.lt_of_lt_of_le hlt (Nat.pow_le_pow_right (by omega) (by omega)))]
theorem min_s (t:Nat) (ht:t≤1000000):∀ w,(Builtin.min_ #[3,3] 3 #[.int .i64 64,.int .i64 (t:Int)]).run Tryz.prog w=.ok (.int .i64 ((min 64 t:Nat):Int)) w:=fun w=>by
 simp [Builtin.min_,Builtin.min2]
 repeat' split
 all_goals omega
def NewIdx (w:World) (V n:Nat) (e:Ending) (w':World):Prop :=
 ∃ g,e=.returned (.pointer (some ⟨g,0,none⟩))∧IdxAt w' g V n false 0∧w.heap.size≤g∧Below w.heap.size w w'
set_option maxRecDepth 20000 in
set_option maxHeartbeats 4000000 in
theorem xnew_p (g V n B:Nat) (A:Option Addr) (w:World) (h:VecB w B g V n A):Calls Tryz.prog 118 #[.pointer (some ⟨g,0,none⟩)] w (NewIdx w V n):=by
 obtain ⟨i0,hi0,hz0,hz1,hz2⟩:=info_parts info_u64
 have hV:=h.1
 have hn:=h.2.1
 have LN:=Lib.hid (blen_p g V n A w h)
 have ON:=Lib.hid (ones_p g V n B A w h)
 have hbx:=(Below.refl w.heap.size w).alloc (Nat.le_refl _) (.cells #[.slice none 0 0,.int .i64 (n:Int),.int .i64 ((pop V n:Nat):Int),.int .u32 0,.int .i32 0,.int .u32 0,.slice none 0 0,.int .i64 0,.int .i64 0] 171)
 have RD:=Lib.hid (read_p g V n B A _ (h.below hbx))
 have HB:=Lib.hid (Blk.new w 171 #[.slice none 0 0,.int .i64 (n:Int),.int .i64 ((pop V n:Nat):Int),.int .u32 0,.int .i32 0,.int .u32 0,.slice none 0 0,.int .i64 0,.int .i64 0])
 have HV:=Lib.hid hV
 generalize hpv:pop V n=pv at *
 have HPV:=Lib.hid hpv
 have HBX:=Lib.hid hbx
 clear h hV hpv hbx
 go_enter Tryz.func118,Tryz.ntmps118
 go_wp2_with fail
 refine LN.out.mono ?_
 rintro e w' ⟨rfl,rfl⟩
 go_wp2_with fail
 refine ON.out.mono ?_
 rintro e w' ⟨rfl,rfl⟩
 go_wp2_with fail
 refine RD.out.mono ?_
 rintro e w2 ⟨r,rfl,hr,b2⟩
 generalize hw1:w.alloc (.cells #[.slice none 0 0,.int .i64 (n:Int),.int .i64 (pv:Int),.int .u32 0,.int .i32 0,.int .u32 0,.slice none 0 0,.int .i64 0,.int .i64 0] 171)=w1 at *
 have hs1:w1.heap.size=w.heap.size+1:=by rw [← hw1];simp
 have HB2:=Lib.hid (HB.out.below b2)
 have BW2:Hid (Below w.heap.size w w2):=HBX.out.trans (b2.mono (by omega))
 obtain ⟨gr,Ar,hrg⟩:=hr.toG
 have HR2:=Lib.hid hrg
 have HFT:Hid (∀ i,foot gr Ar i→i < w2.heap.size):=fun i hi=>hrg.2.2.2.2.2.1.foot_lt hi
 have hr2:r < w2.heap.size:=hrg.2.2.2.2.2.2.lt
 have hr1:w1.heap.size≤r:=hrg.2.1
 have hs2:w1.heap.size≤w2.heap.size:=b2.size
 obtain ⟨m,hm⟩:∃ m,m=(n+63) / 64:=⟨_,rfl⟩
 have HM:=Lib.hid hm
 have hm9:m≤20000:=by omega
 clear LN ON RD HB HBX hr hrg b2 hw1 hm
 go_wp2_with fail
 go_loopw [5] (fun _ wr=>∃ (k ck:Nat) (Ak:Option Addr),k≤m∧Hid (Blk wr w.heap.size 171 #[.slice Ak k ck,.int .i64 (n:Int),.int .i64 (pv:Int),.int .u32 0,.int .i32 0,.int .u32 0,.slice none 0 0,.int .i64 0,.int .i64 0]) ∧
  Hid (wr.ownsRow w2.heap.size 139 1 (.slice Ak k ck) k (U64 (words V k)))∧Hid (ReadG wr w1.heap.size r V n (min (64*k) n) gr Ar)∧Hid (Below w.heap.size w wr)∧w2.heap.size≤wr.heap.size) (fun _ wr=>n - (intOf ((wr.cell? ⟨r,1,none⟩).getD undef)).toNat)
 case atStart=>exact ⟨0,0,none,by omega,HB2.out,World.ownsRow_nil _ _ _ _,by show ReadG _ _ _ _ _ _ _ _;rw [Nat.mul_zero,Nat.zero_min];exact HR2.out,BW2.out,Nat.le_refl _⟩
 case round =>
  obtain ⟨k,ck,Ak,hk,hb,ho,hr,hbl,hsw⟩:=hrel
  clear HB2 BW2 HR2
  have LF:=Lib.hid (left_p w1.heap.size r V n (min (64*k) n) wr hr.out.toAt)
  have hcr:wr.cell? ⟨r,1,none⟩=some (.int .i64 ((min (64*k) n:Nat):Int)):=hr.out.2.2.2.2.2.2.cell 1
  by_cases hlt:k < m
  ·have h64:64*k < n:=by have:=HM.out;omega
   have hmn:min (64*k) n=64*k:=by omega
   rw [hmn] at LF hcr hr
   obtain ⟨t,ht⟩:∃ t,t=n - 64*k:=⟨_,rfl⟩
   rw [← ht] at LF
   have hmin:=min_s t (by omega)
   obtain ⟨s,hs⟩:∃ s,s=min 64 t:=⟨_,rfl⟩
   rw [← hs] at hmin
   have hs1':1≤s:=by omega
   have hs64:s≤64:=by omega
   have RY:Hid (∀ w',ReadG w' w1.heap.size r V n (64*k) gr Ar→Calls Tryz.prog 143 #[.pointer (some ⟨r,0,none⟩),.int .i64 (s:Int)] w' fun e w''=>e=.returned (.tuple #[.int .u64 ((wd V k:Nat):Int),.int .i64 0])∧ReadG w'' w1.heap.size r V n (min (64*(k+1)) n) gr Ar∧Mod (fun i=>i=r) w' w''):=fun w' h'=>by
    have:=rnum_g w1.heap.size r V n (64*k) gr Ar (s:Int) w' h' (by omega) (by rw [cnt64_nat hs64];omega)
    rw [cnt64_nat hs64,wd_piece HV.out (by rw [hs,ht]) (by omega),show 64*k+s=min (64*(k+1)) n by omega] at this
    exact this
   have LF2:Hid (∀ w',ReadG w' w1.heap.size r V n (64*k) gr Ar→Calls Tryz.prog 142 #[.pointer (some ⟨r,0,none⟩)] w' fun e w''=>e=.returned (.int .i64 (t:Int))∧∃ j,w''=w'.drewN j):=fun w' h'=>by
    have:=left_p w1.heap.size r V n (64*k) w' h'.toAt
    rwa [← ht] at this
   have htp:(0:Int) < (t:Int):=by omega
   have HXD:Hid (n - (min (64*(k+1)) n) < n - 64*k):=by show _ < _;omega
   have NX:Hid (U64 (words V k)++[Value.int .u64 ((wd V k:Nat):Int)]=U64 (words V (k+1))):=by
    show _=_
    rw [words_next,U64_append];rfl
   clear hs ht hmn LF
   generalize wd V k=x at *
   go_wp2_with fail
   refine (LF2.out _ hr.out).mono ?_
   rintro e w9 ⟨rfl,j,rfl⟩
   have B9:=Lib.hid (below_draws (Below.refl wr.heap.size wr) j)
   have R9:=Lib.hid (hr.out.below B9.out)
   have K9:=Lib.hid (hb.out.below B9.out)
   have O9:=Lib.hid (own_below ho.out B9.out)
   have hsz9:w2.heap.size≤(wr.drewN j).heap.size:=hsw
   have W9:Hid (Below w.heap.size w (wr.drewN j)):=hbl.out.trans (B9.out.mono hbl.out.size)
   generalize wr.drewN j=w9 at *
   clear B9
   go_wp2_with fail
   refine (LF2.out _ R9.out).mono ?_
   rintro e w10 ⟨rfl,j2,rfl⟩
   have B10:=Lib.hid (below_draws (Below.refl w9.heap.size w9) j2)
   have R10:=Lib.hid (R9.out.below B10.out)
   have K10:=Lib.hid (K9.out.below B10.out)
   have O10:=Lib.hid (own_below O9.out B10.out)
   have hsz10:w2.heap.size≤(w9.drewN j2).heap.size:=hsz9
   have W10:Hid (Below w.heap.size w (w9.drewN j2)):=W9.out.trans (B10.out.mono W9.out.size)
   generalize w9.drewN j2=w10 at *
   clear B10 R9 K9 O9 W9
   go_wp2_with fail
   refine (RY.out _ R10.out).mono ?_
   rintro e w11 ⟨rfl,r11,m11⟩
   have R11:=Lib.hid r11
   have K11:=Lib.hid (K10.out.mod m11 (show ¬ w.heap.size=r by omega))
   have O11:=Lib.hid (own_mod O10.out m11 (fun i hi hx=>by have:=(O10.out.lt i hi).1;omega))
   have hsz11:w2.heap.size≤w11.heap.size:=Nat.le_trans hsz10 m11.size
   have W11:Hid (Below w.heap.size w w11):=W10.out.trans (m11.belowB W10.out.size fun i hi hx=>by omega)
   have c0:w11.cell? ⟨w.heap.size,0,none⟩=some (.slice Ak k ck):=K11.out.cell 0
   have f0:=K11.out.frozen 0
   have hgl:=K11.out.lt
   have hown3:=O11.out.alloc (.cells #[.int .u64 (x:Int)] 139)
   have r3:=Rd.new w11 139 #[.int .u64 (x:Int)] 1 [.int .u64 (x:Int)] (by simp) (by simp)
   have e1:k+1≤maxLen:=by simp only [maxLen];omega
   have e2:(k+1)*8≤140737488355328:=by omega
   have e3:w2.heap.size≤(w11.alloc (.cells #[.int .u64 (x:Int)] 139)).heap.size:=by simp;omega
   have h1s:∀ u∈[Value.int .u64 (x:Int)],u.oneCell'=true:=by intro u hu;simp at hu;subst hu;rfl
   clear r11 m11 R10 K10 O10 W10
   go_wp2_with (first
    | (at_builtin;go_must (refine wpList_append_rd _ rfl _ _ 102 rfl w2.heap.size 139 i0 (.int .u64 0) 8 Tryz.underlying102 hi0 hz0 hz1 hz2 rfl (.slice Ak k ck) k _ rfl hown3 (w11.heap.size+1) (some ⟨w11.heap.size,0,none⟩) 1 1 [.int .u64 (x:Int)] rfl r3 h1s e1 e2 e3 ?_)))
   intro A6 c6 w6 hc6 hm6 hown6 hg6 _
   have hgm:=Mod.ofGrown hg6
   have hrow:Hid (∀ i,some i=(Value.slice Ak k ck).ownBlock→w2.heap.size≤i):=fun i hi=>(hown3.lt i hi.symm).1
   have K6:=Lib.hid ((K11.out.alloc (.cells #[.int .u64 (x:Int)] 139)).mod hgm fun e=>by have:=hrow.out _ e;omega)
   have R6:Hid (ReadG w6 w1.heap.size r V n (min (64*(k+1)) n) gr Ar):=by
    refine (R11.out.below ((Below.refl _ _).alloc (Nat.le_refl _) (.cells #[.int .u64 (x:Int)] 139))).mod hgm (fun e=>?_) fun i hi e=>?_
    ·have:=hrow.out _ e;omega
    ·have:=hrow.out _ e
     have:=HFT.out i hi
     omega
   have d0:w6.cell? ⟨w.heap.size,0,none⟩=some (.slice Ak k ck):=K6.out.cell 0
   have g0:=K6.out.frozen 0
   have O6:Hid (w6.ownsRow w2.heap.size 139 1 (.slice A6 (k+1) c6) (k+1) (U64 (words V (k+1)))):=by
    rw [← NX.out];exact hown6
   have W6:Hid (Below w.heap.size w w6):=(W11.out.alloc W11.out.size _).grown hg6 (by have:=W11.out.size;simp;omega) (fun i hi=>by have:=hrow.out i hi.symm;omega)
   have hsz6:w2.heap.size≤w6.heap.size:=Nat.le_trans e3 hg6.size
   clear hown6 hg6 hgm hown3 r3 h1s e1 e2 e3 c0 f0
   go_wp2_with fail
   have m9:Mod (fun i=>i=w.heap.size) w6 (w6.setCell ⟨w.heap.size,0,none⟩ (.slice A6 (k+1) c6)):=Mod.setCell (p:=⟨w.heap.size,0,none⟩) (Mod.refl (fun i=>i=w.heap.size) w6) (fun _=>rfl) _
   have K9:Hid (Blk (w6.setCell ⟨w.heap.size,0,none⟩ (.slice A6 (k+1) c6)) w.heap.size 171 #[.slice A6 (k+1) c6,.int .i64 (n:Int),.int .i64 (pv:Int),.int .u32 0,.int .i32 0,.int .u32 0,.slice none 0 0,.int .i64 0,.int .i64 0]):=by
    have:=K6.out.set_ 0 (.slice A6 (k+1) c6)
    show Blk _ _ _ _
    simpa using this
   have R9:Hid (ReadG (w6.setCell ⟨w.heap.size,0,none⟩ (.slice A6 (k+1) c6)) w1.heap.size r V n (min (64*(k+1)) n) gr Ar):=by
    refine R6.out.mod m9 (by omega) fun i hi e=>?_
    rcases R6.out.2.2.2.2.2.1.foot_le hi with h1 | h1
    ·have:=R6.out.2.2.2.2.1;omega
    ·omega
   have O9:=Lib.hid (own_mod O6.out m9 fun i hi e=>by have:=(O6.out.lt i hi).1;omega)
   have W9:Hid (Below w.heap.size w (w6.setCell ⟨w.heap.size,0,none⟩ (.slice A6 (k+1) c6))):=W6.out.setCell (Nat.le_refl _) _
   have c9:(w6.setCell ⟨w.heap.size,0,none⟩ (.slice A6 (k+1) c6)).cell? ⟨r,1,none⟩=some (.int .i64 ((min (64*(k+1)) n:Nat):Int)):=R9.out.2.2.2.2.2.2.cell 1
   go_roundw
   case rel=>exact ⟨k+1,c6,A6,by omega,K9.out,O9.out,R9.out,W9.out,by simpa [World.setCell] using hsz6⟩
   case measure =>
    rw [c9,hcr]
    have:=HXD.out
    simp only [Option.getD_some,intOf,Int.toNat_natCast]
    omega
  ·obtain rfl:m=k:=by omega
   have hmn:min (64*m) n=n:=by have:=HM.out;omega
   rw [hmn,Nat.sub_self] at LF
   clear hcr
   go_wp2_with fail
   refine LF.out.mono ?_
   rintro e w9 ⟨rfl,j,rfl⟩
   have BD:=Lib.hid (below_draws (Below.refl wr.heap.size wr) j)
   generalize wr.drewN j=w9 at *
   go_wp2_with fail
   go_ret
   refine ⟨w.heap.size,rfl,⟨HV.out,hn,Ak,ck,.slice none 0 0,?_,?_,rfl⟩,Nat.le_refl _,hbl.out.trans (BD.out.mono hbl.out.size)⟩
   ·rw [← HM.out,HPV.out]
    exact hb.out.below BD.out
   ·rw [← HM.out]
    exact own_below (ho.out.base_le' (by omega)) BD.out
set_option maxRecDepth 20000
def NewYes (w:World) (V n:Nat) (e:Ending) (w':World):Prop :=
 ∃ p g,e=.returned (.tuple #[.pointer (some ⟨p,0,none⟩),.int .i64 0])∧PAt w' p g V n false 0∧w.heap.size≤g∧Below w.heap.size w w'
def NewNo (w:World) (e:Ending) (w':World):Prop:=e=.returned (.tuple #[.pointer none,.int .i64 9])∧Below w.heap.size w w'
def NewPB (w:World) (V n:Nat) (e:Ending) (w':World):Prop:=(Bal (exc V) n∧NewYes w V n e w')∨(¬ Bal (exc V) n∧NewNo w e w')
set_option maxHeartbeats 4000000 in
theorem pnew_p (v V n B:Nat) (A:Option Addr) (w:World) (h:VecB w B v V n A):Calls Tryz.prog 122 #[.pointer (some ⟨v,0,none⟩)] w (NewPB w V n):=by
 have XN:=Lib.hid (xnew_p v V n B A w h)
 have HE:=Lib.hid (exc_Exc V)
 clear h
 go_enter Tryz.func122,Tryz.ntmps122
 go_wp2_with fail
 refine XN.out.mono ?_
 rintro e w2 ⟨g,rfl,hx,hgl,b2⟩
 have hgs:=hx.lt
 have hpa:PAt (w2.alloc (.cells #[.pointer (some ⟨g,0,none⟩),.int .u32 0,.int .i32 0,.int .u32 0,.slice none 0 0,.int .i64 0] 192)) w2.heap.size g V n false 0 :=
  ⟨hgs,⟨false,0,Nat.le_refl _,hx.below ((Below.refl _ _).alloc (Nat.le_refl _) _)⟩,.slice none 0 0,Blk.new w2 _ _,rfl⟩
 have hn:=hx.2.1
 have HP:=Lib.hid hpa
 have B3:Hid (Below w.heap.size w (w2.alloc (.cells #[.pointer (some ⟨g,0,none⟩),.int .u32 0,.int .i32 0,.int .u32 0,.slice none 0 0,.int .i64 0] 192))):=b2.alloc b2.size _
 have PL:=Lib.hid (plen_p _ g V n 0 _ hpa.ix)
 have CH:=Lib.hid fun i (hi:i < n)=>change_f _ g V n 0 _ i hpa.ix hi
 clear hx b2 hpa XN
 go_wp2_with fail
 refine PL.out.mono ?_
 rintro e w3 ⟨rfl,rfl⟩
 go_wp2_with fail
 go_loop [5,13] (fun z x=>∃ (i:Nat) (y:Int),x=.int .i64 (i:Int)∧z=.int .i64 y∧i≤n∧-1000000≤y∧y≤1000000∧Hid (exc V i=y)∧Hid (∀ k,k≤i→0≤exc V k)) (fun _ x=>n - (intOf x).toNat)
 case atStart=>exact ⟨0,0,rfl,rfl,by omega,by omega,by omega,HE.out.zero,fun k hk=>by obtain rfl:k=0:=by omega
                                                                                      rw [HE.out.zero];exact Int.le_refl _⟩
 case round =>
  obtain ⟨i,y,rfl,rfl,hi,hy1,hy2,hy,hab⟩:=hrel
  by_cases hlt:i < n
  ·have C1:=Lib.hid (CH.out i hlt)
   obtain ⟨s,hs⟩:∃ s,exc V (i+1) - exc V i=s:=⟨_,rfl⟩
   rw [hs] at C1
   have hst:=HE.out.step i
   have hs1:-1≤s∧s≤1:=by omega
   have HS:Hid (exc V (i+1)=y+s):=by show _=_;have:=hy.out;omega
   have hbd:=HE.out.bound (i+1)
   rw [HS.out] at hbd
   clear hs hst
   by_cases hneg:y+s < 0
   ·have NB:Hid (¬ Bal (exc V) n):=fun hB=>by have:=hB.1 (i+1) (by omega);rw [HS.out] at this;omega
    go_wp2_with (go_at_call 146;refine C1.out.mono ?_;rintro e w' ⟨rfl,rfl⟩)
    go_ret2
    exact .inr ⟨NB.out,rfl,B3.out⟩
   ·have hd:decide (y+s < 0)=false:=decide_eq_false hneg
    have HAB:Hid (∀ k,k≤i+1→0≤exc V k):=fun k hk=>by
     by_cases e:k=i+1
     ·rw [e,HS.out];omega
     ·exact hab.out k (by omega)
    clear hneg
    go_wp2_with (go_at_call 146;refine C1.out.mono ?_;rintro e w' ⟨rfl,rfl⟩)
    go_round
    case rel=>exact ⟨i+1,y+s,by go_num,rfl,by omega,by omega,by omega,HS.out,HAB.out⟩
    case measure=>simp [intOf];omega
  ·obtain rfl:i=n:=by omega
   by_cases hy0:y=0
   ·have YB:Hid (Bal (exc V) i):=⟨hab.out,by rw [hy.out,hy0]⟩
    subst hy0
    go_wp2_with fail
    go_ret2
    exact .inl ⟨YB.out,_,g,rfl,HP.out,hgl,B3.out⟩
   ·have NB:Hid (¬ Bal (exc V) i):=fun hB=>hy0 (by rw [← hy.out];exact hB.2)
    have g0:(y == 0)=false:=by rw [beq_eq_false_iff_ne];exact hy0
    have g1:(y != 0)=true:=by rw [bne,g0];rfl
    clear hy0
    go_wp2_with fail
    go_ret2
    exact .inr ⟨NB.out,rfl,B3.out⟩
theorem PAt.mod {w w':World} {S:Nat→Prop} {p g V n q:Nat} {d:Bool} (h:PAt w p g V n d q) (m:Mod S w w') (hs:∀ i,S i→i < g):PAt w' p g V n d q:=by
 obtain ⟨h1,⟨r,k,hk,hx⟩,H,hb,ht⟩:=h
 exact ⟨h1,⟨r,k,hk,hx.mod m hs⟩,H,hb.mod m fun hx=>by have:=hs p hx;omega,ht.mod m fun i hi=>by have:=hs i hi;omega⟩
theorem exc_list {l:List Nat} (hb:Bin l) (i:Nat):exc (val l) (i+1)=exc (val l) i+(2*((l.getD i 0:Nat):Int) - 1):=by
 rw [exc_next,val_bit hb]
def GoodP (w:World) (l:List Nat) (m:Nat) (e:Ending) (w':World):Prop:=w=w'∧∃ r:Bool,e=.returned (.bool r)∧(r=true↔Bal (exc (val l)) m)
theorem GoodP.no {w:World} {l:List Nat} {m:Nat} {e:Ending} (he:e=.returned (.bool false)) (h:¬ Bal (exc (val l)) m):GoodP w l m e w:=⟨rfl,false,he,by simp [h]⟩
theorem GoodP.yes {w:World} {l:List Nat} {m:Nat} {e:Ending} (he:e=.returned (.bool true)) (h:Bal (exc (val l)) m):GoodP w l m e w:=⟨rfl,true,he,by simp [h]⟩
set_option maxHeartbeats 4000000 in
theorem good_p (A:Option Addr) (m c B:Nat) (l:List Nat) (w:World) (hr:Rd w B A m (I64 (ofNB l))) (hb:Bin l) (hm:m≤1000000) :
  Calls Tryz.prog 110 #[.slice A m c] w (GoodP w l m):=by
 have HR:=Lib.hid hr
 have HBN:=Lib.hid hb
 have HE:=Lib.hid (exc_Exc (val l))
 have HX:=Lib.hid (fun i=>exc_list hb i)
 clear hr hb
 go_enter Tryz.func110,Tryz.ntmps110
 go_wp2_with fail
 go_loop [3,8] (fun z x=>∃ (i:Nat) (y:Int),x=.int .i64 (i:Int)∧z=.int .i64 y∧i≤m∧-1000000≤y∧y≤1000000∧Hid (exc (val l) i=y)∧Hid (∀ k,k≤i→0≤exc (val l) k)) (fun _ x=>m - (intOf x).toNat)
 case atStart=>exact ⟨0,0,rfl,rfl,by omega,by omega,by omega,HE.out.zero,fun k hk=>by obtain rfl:k=0:=by omega
                                                                                      rw [HE.out.zero];exact Int.le_refl _⟩
 case round =>
  obtain ⟨i,y,rfl,rfl,hi,hy1,hy2,hy,hab⟩:=hrel
  by_cases hlt:i < m
  ·obtain ⟨b',o,e,_,k1⟩:=HR.out.i64 (by omega)
   subst e
   have t1:=k1 i hlt
   rw [ofN_getB] at t1
   have hx:=HX.out i
   have hb2:=HBN.out.getD i
   have hbd:=HE.out.bound (i+1)
   rw [hx,hy.out] at hbd
   rw [hy.out] at hx
   clear k1
   generalize l.getD i 0=b at *
   have HXI:=Lib.hid hx
   clear hx
   by_cases hb1:b=1
   ·subst hb1
    have t2:w.cell? ⟨b',o+i,none⟩=some (.int .i64 1):=t1
    have HS:Hid (exc (val l) (i+1)=y+1):=by show _=_;rw [HXI.out];rfl
    clear t1
    by_cases hneg:y+1 < 0
    ·have NB:Hid (¬ Bal (exc (val l)) m):=fun hB=>by have:=hB.1 (i+1) (by omega);rw [HS.out] at this;omega
     go_wp2_with fail
     go_ret
     exact GoodP.no rfl NB.out
    ·have hd:decide (y+1 < 0)=false:=decide_eq_false hneg
     have HAB:Hid (∀ k,k≤i+1→0≤exc (val l) k):=fun k hk=>by
      by_cases e:k=i+1
      ·rw [e,HS.out];omega
      ·exact hab.out k (by omega)
     clear hneg
     go_wp2_with fail
     go_round
     case rel=>exact ⟨i+1,y+1,by go_num,rfl,by omega,by omega,by omega,HS.out,HAB.out⟩
     case measure=>simp [intOf];omega
   ·obtain rfl:b=0:=by omega
    have t2:w.cell? ⟨b',o+i,none⟩=some (.int .i64 0):=t1
    have HS:Hid (exc (val l) (i+1)=y - 1):=by show _=_;rw [HXI.out];show y+(2*0 - 1)=y - 1;omega
    clear t1 hb1
    by_cases hneg:y - 1 < 0
    ·have NB:Hid (¬ Bal (exc (val l)) m):=fun hB=>by have:=hB.1 (i+1) (by omega);rw [HS.out] at this;omega
     go_wp2_with fail
     go_ret
     exact GoodP.no rfl NB.out
    ·have hd:decide (y - 1 < 0)=false:=decide_eq_false hneg
     have HAB:Hid (∀ k,k≤i+1→0≤exc (val l) k):=fun k hk=>by
      by_cases e:k=i+1
      ·rw [e,HS.out];omega
      ·exact hab.out k (by omega)
     go_wp2_with fail
     go_round
     case rel=>exact ⟨i+1,y - 1,by go_num,rfl,by omega,by omega,by omega,HS.out,HAB.out⟩
     case measure=>simp [intOf];omega
  ·obtain rfl:i=m:=by omega
   by_cases hy0:y=0
   ·have YB:Hid (Bal (exc (val l)) i):=⟨hab.out,by rw [hy.out,hy0]⟩
    subst hy0
    go_wp2_with fail
    go_ret
    exact GoodP.yes rfl YB.out
   ·have NB:Hid (¬ Bal (exc (val l)) i):=fun hB=>hy0 (by rw [← hy.out];exact hB.2)
    have g0:(y == 0)=false:=by rw [beq_eq_false_iff_ne];exact hy0
    clear hy0
    go_wp2_with fail
    go_ret
    exact GoodP.no rfl NB.out
theorem exc_snoc {l:List Nat} (hb:Bin l) {b:Nat} (h2:b < 2):∀ k,k≤l.length→exc (val (l++[b])) k=exc (val l) k:=by
 have hb':Bin (l++[b]):=hb.append fun x hx=>by simp at hx;omega
 intro k
 induction k with
 | zero=>intro _;rw [(exc_Exc _).zero,(exc_Exc _).zero]
 | succ k ih =>
   intro hk
   rw [exc_list hb',exc_list hb,ih (by omega),List.getD_eq_getElem?_getD,List.getElem?_append_left (by omega),← List.getD_eq_getElem?_getD]
theorem exc_snoc1 {l:List Nat} (hb:Bin l) {b:Nat} (h2:b < 2):exc (val (l++[b])) (l.length+1)=exc (val l) l.length+(2*(b:Int) - 1):=by
 have hb':Bin (l++[b]):=hb.append fun x hx=>by simp at hx;omega
 rw [exc_list hb',exc_snoc hb h2 _ (Nat.le_refl _),List.getD_eq_getElem?_getD,List.getElem?_append_right (Nat.le_refl _),Nat.sub_self]
 rfl
structure Sofar (l:List Nat) (N o:Nat):Prop where
 bin:Bin l
 len:l.length=N
 open_:exc (val l) N=(o:Int)
 up:∀ k,k≤N→0≤exc (val l) k
theorem Sofar.nil:Sofar [] 0 0:=⟨Bin.nil,rfl,(exc_Exc _).zero,fun k hk=>by obtain rfl:k=0:=by omega
                                                                           rw [(exc_Exc _).zero];exact Int.le_refl _⟩
theorem Sofar.push {l:List Nat} {N o:Nat} (h:Sofar l N o):Sofar (l++[1]) (N+1) (o+1):=by
 have e:=exc_snoc1 h.bin (b:=1) (by omega)
 rw [h.len,h.open_] at e
 refine ⟨h.bin.append fun x hx=>by simp at hx;omega,by rw [List.length_append,h.len];rfl,by rw [e];omega,fun k hk=>?_⟩
 by_cases hk1:k=N+1
 ·rw [hk1,e];omega
 ·rw [exc_snoc h.bin (by omega) k (by rw [h.len];omega)];exact h.up k (by omega)
theorem Sofar.pop {l:List Nat} {N o:Nat} (h:Sofar l N (o+1)):Sofar (l++[0]) (N+1) o:=by
 have e:=exc_snoc1 h.bin (b:=0) (by omega)
 rw [h.len,h.open_] at e
 refine ⟨h.bin.append fun x hx=>by simp at hx;omega,by rw [List.length_append,h.len];rfl,by rw [e];omega,fun k hk=>?_⟩
 by_cases hk1:k=N+1
 ·rw [hk1,e];omega
 ·rw [exc_snoc h.bin (by omega) k (by rw [h.len];omega)];exact h.up k (by omega)
end Go.Proofs.YtijbdnhlpbcabaaGreatDoor
