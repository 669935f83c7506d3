/- A map without an edge: what stands beside it, the root's heir. A map without an edge. A map without an edge: mathematics. Cut and Shrink of any map. -/
import Derived.Test.YtdinmjciippchaaGreatZg4
import Derived.Test.YtdinmjciippchaaGreatZg2
open Go.RowKit
set_option linter.unusedVariables false
namespace Go.Proofs.YtdinmjciippchaaGreat
set_option maxRecDepth 20000
theorem isOf_t (d e:Nat) (w:World) (h:d / 2=e) (hd:d≤1000000) :
  Calls Tryz.prog 111 #[.int .i64 (d:Int),.int .i64 (e:Int)] w fun en w'=>en=.returned (.bool true)∧w=w':=by
 have h2:(d:Int) / 2=(e:Int):=by omega
 go_enter Tryz.func111,Tryz.ntmps111
 go_wp2_with fail
 go_ret
 exact ⟨rfl,rfl⟩
theorem isOf_f (d e:Nat) (w:World) (h:d / 2≠e) (hd:d≤1000000) :
  Calls Tryz.prog 111 #[.int .i64 (d:Int),.int .i64 (e:Int)] w fun en w'=>en=.returned (.bool false)∧w=w':=by
 obtain ⟨x,hx⟩:∃ x,x=d / 2:=⟨_,rfl⟩
 have h2:(d:Int) / 2=(x:Int):=by omega
 have h3:((x:Int) == (e:Int))=false:=by rw [beq_eq_false_iff_ne];omega
 have h4:¬ x=e:=by omega
 have h5:(x == e)=false:=by rw [beq_eq_false_iff_ne];exact h4
 clear h hx
 go_enter Tryz.func111,Tryz.ntmps111
 go_wp2_with fail
 go_ret
 exact ⟨rfl,rfl⟩
def calN (e d:Nat):Nat:=if e < d / 2 then d - 2 else d
theorem called_p (d e:Nat) (w:World) (hd:d≤1000000) :
  Calls Tryz.prog 112 #[.int .i64 (d:Int),.int .i64 (e:Int)] w fun en w'=>en=.returned (.int .i64 ((calN e d:Nat):Int))∧w=w':=by
 obtain ⟨x,hx⟩:∃ x,x=d / 2:=⟨_,rfl⟩
 have h2:(d:Int) / 2=(x:Int):=by omega
 by_cases h:e < x
 ·have HC:Hid (((calN e d:Nat):Int)=(d:Int) - 2):=by show _=_;unfold calN;rw [← hx,if_pos h];omega
  have h3:(e:Int) < (x:Int):=by omega
  have h4:IntKind.i64.wrap ((d:Int) - 2)=(d:Int) - 2:=by simp [IntKind.wrap,IntKind.signed,IntKind.bits];omega
  clear hx
  go_enter Tryz.func112,Tryz.ntmps112
  go_wp2_with fail
  go_ret
  exact ⟨by rw [HC.out];rfl,rfl⟩
 ·have HC:Hid (((calN e d:Nat):Int)=(d:Int)):=by show _=_;unfold calN;rw [← hx,if_neg h]
  have h3:¬ (e:Int) < (x:Int):=by omega
  have h4:decide (e < x)=false:=by simpa using h
  clear hx
  go_enter Tryz.func112,Tryz.ntmps112
  go_wp2_with fail
  go_ret
  exact ⟨by rw [HC.out];rfl,rfl⟩
def lastN (n:Nat):Int:=if n / 2=1 then -1 else 0
def heirN (l b:List Nat) (r e:Nat):Int :=
 if r / 2≠e then ((calN e r:Nat):Int)
 else if b.getD r 0=r then lastN l.length
 else if b.getD r 0 / 2≠e then ((calN e (b.getD r 0):Nat):Int)
 else if b.getD (b.getD r 0) 0=r then lastN l.length
 else ((calN e (b.getD (b.getD r 0) 0):Nat):Int)
set_option maxHeartbeats 4000000 in
theorem heir_p (g:Nat) (l b:List Nat) (r e:Nat) (lone:Int) (w:World) (h:MapAt w g l b (r:Int) lone) (hi:Inv l b) (hr:r < l.length) (he:e < l.length / 2) :
  Calls Tryz.prog 113 #[.pointer (some ⟨g,0,none⟩),.int .i64 (e:Int)] w fun en w'=>en=.returned (.int .i64 (heirN l b r e))∧Below w.heap.size w w':=by
 have hln:=h.2.1
 have R0:Hid (∀ W,Below w.heap.size w W→Calls Tryz.prog 12 #[.pointer (some ⟨g,0,none⟩)] W fun e w'=>e=.returned (.int .i64 (r:Int))∧W=w'):=fun W m=>root_p g l b r lone W (h.below m)
 have K0:Hid (∀ k,k < l.length→∀ W,Below w.heap.size w W→Calls Tryz.prog 84 #[.pointer (some ⟨g,0,none⟩),.int .i64 (k:Int)] W fun e w'=>e=.returned (.int .i64 ((b.getD k 0:Nat):Int))∧Below W.heap.size W w'):=fun k hk W m=>mback_in g l b r lone k W (h.below m) hk
 have E0:Hid (∀ W,Below w.heap.size w W→Calls Tryz.prog 15 #[.pointer (some ⟨g,0,none⟩)] W fun e w'=>e=.returned (.int .i64 ((l.length / 2:Nat):Int))∧Below W.heap.size W w'):=fun W m=>edges_p g l b r lone W (h.below m)
 have IT:Hid (∀ (d:Nat) (W:World),d / 2=e→d≤1000000→Calls Tryz.prog 111 #[.int .i64 (d:Int),.int .i64 (e:Int)] W fun en w'=>en=.returned (.bool true)∧W=w'):=fun d W h1 h2=>isOf_t d e W h1 h2
 have IF:Hid (∀ (d:Nat) (W:World),d / 2≠e→d≤1000000→Calls Tryz.prog 111 #[.int .i64 (d:Int),.int .i64 (e:Int)] W fun en w'=>en=.returned (.bool false)∧W=w'):=fun d W h1 h2=>isOf_f d e W h1 h2
 have CP:Hid (∀ (d:Nat) (W:World),d≤1000000→Calls Tryz.prog 112 #[.int .i64 (d:Int),.int .i64 (e:Int)] W fun en w'=>en=.returned (.int .i64 ((calN e d:Nat):Int))∧W=w'):=fun d W h2=>called_p d e W h2
 have Z0:=Below.refl w.heap.size w
 obtain ⟨x,hx⟩:∃ x,x=b.getD r 0:=⟨_,rfl⟩
 obtain ⟨y,hy⟩:∃ y,y=b.getD x 0:=⟨_,rfl⟩
 have hxl:x < l.length:=by rw [hx];have:=hi.symm.lt r (by rw [hi.len];exact hr);rwa [hi.len] at this
 have hyl:y < l.length:=by rw [hy];have:=hi.symm.lt x (by rw [hi.len];exact hxl);rwa [hi.len] at this
 have hyx:x≠r→y≠x:=fun c q=>c (hi.symm.inj x r (by rw [hi.len];exact hxl) (by rw [hi.len];exact hr) (by rw [← hy,← hx];exact q))
 have HX:=Lib.hid hx
 have HY:=Lib.hid hy
 obtain ⟨m,hm⟩:∃ m,m=l.length / 2:=⟨_,rfl⟩
 have HMM:=Lib.hid hm
 rw [← hm] at E0
 have HN:Hid (heirN l b r e=if r / 2≠e then ((calN e r:Nat):Int) else if x=r then lastN l.length else if x / 2≠e then ((calN e x:Nat):Int) else if y=r then lastN l.length else ((calN e y:Nat):Int)):=by
  show _=_;unfold heirN;rw [← hx,← hy]
 have HL:Hid (lastN l.length=if m=1 then -1 else 0):=by show _=_;unfold lastN;rw [hm]
 have hm1:m≤1000000:=by omega
 clear h hi hx hy hm
 generalize heirN l b r e=RES at *
 go_enter Tryz.func113,Tryz.ntmps113
 go_wp2_with fail
 refine (R0.out _ Z0).mono ?_
 rintro en w' ⟨rfl,rfl⟩
 go_wp2_with fail
 go_loopw [5] (fun s wr=>∃ d:Nat,s=.int .i64 (d:Int)∧d < l.length∧(d=r∨(d=x∧x≠r∧r / 2=e)∨(d=y∧y≠r∧x≠r∧r / 2=e∧x / 2=e))∧Hid (Below w.heap.size w wr)) (fun s _=>if intOf s=(r:Int) then 2 else if intOf s=(x:Int) then 1 else 0)
 case atStart=>exact ⟨r,rfl,hr,.inl rfl,Z0⟩
 case round =>
  clear Z0
  obtain ⟨d,rfl,hd,hst,HB⟩:=hrel
  by_cases hde:d / 2=e
  ·have hbd:∃ t,Hid (t=b.getD d 0)∧t < l.length∧((t=r∧RES=lastN l.length)∨(t≠r∧((t=x∧d=r∧x≠r∧r / 2=e)∨(t=y∧d=x∧y≠r∧x≠r∧r / 2=e∧x / 2=e)))):=by
    rcases hst with rfl | ⟨rfl,h1,h2⟩ | ⟨rfl,h1,h2,h3,h4⟩
    ·refine ⟨x,HX.out,hxl,?_⟩
     by_cases c:x=d
     ·exact .inl ⟨c,by rw [HN.out,if_neg (by omega),if_pos c]⟩
     ·exact .inr ⟨c,.inl ⟨rfl,rfl,c,hde⟩⟩
    ·refine ⟨y,HY.out,hyl,?_⟩
     by_cases c:y=r
     ·exact .inl ⟨c,by rw [HN.out,if_neg (by omega),if_neg h1,if_neg (by omega),if_pos c]⟩
     ·exact .inr ⟨c,.inr ⟨rfl,rfl,c,h1,h2,hde⟩⟩
    ·have:=hyx h2
     omega
   obtain ⟨t,ht,htl,hc⟩:=hbd
   have KB:Hid (∀ W,Below w.heap.size w W→Calls Tryz.prog 84 #[.pointer (some ⟨g,0,none⟩),.int .i64 (d:Int)] W fun e w'=>e=.returned (.int .i64 (t:Int))∧Below W.heap.size W w'):=fun W m=>by rw [ht.out];exact K0.out d hd W m
   rcases hc with ⟨htr,hres⟩ | ⟨htr,hc⟩
   ·subst htr
    have hd1:=Lib.hid hres
    clear hres hst ht
    by_cases h1:m=1
    ·subst h1
     go_wp2_with fail
     refine (IT.out d _ hde (by omega)).mono ?_
     rintro en w' ⟨rfl,rfl⟩
     go_wp2_with fail
     refine (KB.out _ HB.out).mono ?_
     rintro en w1 ⟨rfl,z⟩
     have Z1:=HB.out.trans (z.mono HB.out.size)
     clear z
     go_wp2_with fail
     refine (R0.out _ Z1).mono ?_
     rintro en w' ⟨rfl,rfl⟩
     go_wp2_with fail
     refine (E0.out _ Z1).mono ?_
     rintro en w2 ⟨rfl,z⟩
     have Z2:=Z1.trans (z.mono Z1.size)
     clear z
     go_wp2_with fail
     go_ret
     exact ⟨by rw [hd1.out,HL.out];rfl,Z2⟩
    ·have hmb:((m:Int) == 1)=false:=by rw [beq_eq_false_iff_ne];omega
     have hmn:¬ (m:Int)=1:=by omega
     go_wp2_with fail
     refine (IT.out d _ hde (by omega)).mono ?_
     rintro en w' ⟨rfl,rfl⟩
     go_wp2_with fail
     refine (KB.out _ HB.out).mono ?_
     rintro en w1 ⟨rfl,z⟩
     have Z1:=HB.out.trans (z.mono HB.out.size)
     clear z
     go_wp2_with fail
     refine (R0.out _ Z1).mono ?_
     rintro en w' ⟨rfl,rfl⟩
     go_wp2_with fail
     refine (E0.out _ Z1).mono ?_
     rintro en w2 ⟨rfl,z⟩
     have Z2:=Z1.trans (z.mono Z1.size)
     clear z
     go_wp2_with fail
     go_ret
     exact ⟨by rw [hd1.out,HL.out,if_neg h1];rfl,Z2⟩
   ·have hnb:((t:Int) == (r:Int))=false:=by rw [beq_eq_false_iff_ne];omega
    have hnb2:(t == r)=false:=by rw [beq_eq_false_iff_ne];exact htr
    have HC:=Lib.hid hc
    clear hc hst ht
    go_wp2_with fail
    refine (IT.out d _ hde (by omega)).mono ?_
    rintro en w' ⟨rfl,rfl⟩
    go_wp2_with fail
    refine (KB.out _ HB.out).mono ?_
    rintro en w1 ⟨rfl,z⟩
    have Z1:=HB.out.trans (z.mono HB.out.size)
    clear z
    go_wp2_with fail
    refine (R0.out _ Z1).mono ?_
    rintro en w' ⟨rfl,rfl⟩
    go_wp2_with fail
    go_roundw
    case rel =>
     refine ⟨t,rfl,htl,?_,Z1⟩
     rcases HC.out with ⟨h1,h2,h3,h4⟩ | ⟨h1,h2,h3,h4,h5,h6⟩
     ·exact .inr (.inl ⟨h1,h3,h4⟩)
     ·exact .inr (.inr ⟨h1,h3,h4,h5,h6⟩)
    case measure =>
     show (if (t:Int)=(r:Int) then 2 else if (t:Int)=(x:Int) then 1 else 0) < (if (d:Int)=(r:Int) then 2 else if (d:Int)=(x:Int) then 1 else 0)
     rcases HC.out with ⟨h1,h2,h3,h4⟩ | ⟨h1,h2,h3,h4,h5,h6⟩
     ·rw [if_neg (by omega),if_pos (by omega),if_pos (by omega)];omega
     ·have:=hyx h4
      rw [if_neg (by omega),if_neg (by omega),if_neg (by omega),if_pos (by omega)];omega
  ·have HRES:Hid (RES=((calN e d:Nat):Int)):=by
    show _=_
    rw [HN.out]
    rcases hst with rfl | ⟨rfl,h1,h2⟩ | ⟨rfl,h1,h2,h3,h4⟩
    ·rw [if_pos hde]
    ·rw [if_neg (by omega),if_neg h1,if_pos hde]
    ·rw [if_neg (by omega),if_neg h2,if_neg (by omega),if_neg h1]
   clear hst
   go_wp2_with fail
   refine (IF.out d _ hde (by omega)).mono ?_
   rintro en w' ⟨rfl,rfl⟩
   go_wp2_with fail
   refine (CP.out d _ (by omega)).mono ?_
   rintro en w' ⟨rfl,rfl⟩
   go_wp2_with fail
   go_ret
   exact ⟨by rw [HRES.out];rfl,HB.out⟩
theorem deg_le (l:List Nat) (lone v:Int):-1≤degOf l lone v∧degOf l lone v≤(l.length:Int):=by
 unfold degOf
 split
 ·omega
 ·split
  ·omega
  ·have:(sizes l).getD v.toNat 0≤l.length:=by
    rcases Nat.lt_or_ge v.toNat (met l l.length) with c | c
    ·unfold sizes;rw [sizesTo_get _ _ _ _ c];exact cntN_le _ _ _
    ·have e:(sizes l).getD v.toNat 0=0:=by
      rw [List.getD_eq_getElem?_getD,List.getElem?_eq_none (by unfold sizes;rw [sizesTo_len];exact c)];rfl
     omega
   omega
noncomputable def besN (l:List Nat) (lone:Int) (e:Nat):List Int :=
 if nameOf l (2*e)=nameOf l (2*e+1) then [degOf l lone (nameOf l (2*e):Nat) - 2]
 else [degOf l lone (nameOf l (2*e):Nat) - 1,degOf l lone (nameOf l (2*e+1):Nat) - 1]
set_option maxHeartbeats 4000000 in
theorem besides_p (g:Nat) (l b:List Nat) (root lone:Int) (e:Nat) (w:World) (h:MapAt w g l b root lone) (he:e < l.length / 2) :
  Calls Tryz.prog 94 #[.pointer (some ⟨g,0,none⟩),.int .i64 (e:Int)] w fun en w'=>∃ A c,en=.returned (.slice A (besN l lone e).length c)∧Rd w' w'.heap.size A (besN l lone e).length (I64 (besN l lone e))∧Below w.heap.size w w':=by
 have hln:=h.2.1
 obtain ⟨a,ha⟩:∃ a,a=2*e:=⟨_,rfl⟩
 obtain ⟨a1,ha1⟩:∃ a1,a1=2*e+1:=⟨_,rfl⟩
 have e1:2*(e:Int)=(a:Int):=by omega
 have e2:(a:Int)+1=(a1:Int):=by omega
 have VP:Hid (∀ k,k < l.length→∀ W,Below w.heap.size w W→Calls Tryz.prog 109 #[.pointer (some ⟨g,0,none⟩),.int .i64 (k:Int)] W fun e w'=>e=.returned (.int .i64 ((nameOf l k:Nat):Int))∧Below W.heap.size W w'):=fun k hk W m=>vertex_in g l b root lone k W (h.below m) hk
 have DP:Hid (∀ v:Int,∀ W,Below w.heap.size w W→Calls Tryz.prog 110 #[.pointer (some ⟨g,0,none⟩),.int .i64 v] W fun e w'=>e=.returned (.int .i64 (degOf l lone v))∧Below W.heap.size W w'):=fun v W m=>degree_p g l b root lone v W (h.below m)
 have V0:Hid (∀ W,Below w.heap.size w W→Calls Tryz.prog 109 #[.pointer (some ⟨g,0,none⟩),.int .i64 (a:Int)] W fun e w'=>e=.returned (.int .i64 ((nameOf l a:Nat):Int))∧Below W.heap.size W w'):=VP.out a (by omega)
 have V1:Hid (∀ W,Below w.heap.size w W→Calls Tryz.prog 109 #[.pointer (some ⟨g,0,none⟩),.int .i64 (a1:Int)] W fun e w'=>e=.returned (.int .i64 ((nameOf l a1:Nat):Int))∧Below W.heap.size W w'):=VP.out a1 (by omega)
 have HB:Hid (besN l lone e=if nameOf l a=nameOf l a1 then [degOf l lone (nameOf l a:Nat) - 2] else [degOf l lone (nameOf l a:Nat) - 1,degOf l lone (nameOf l a1:Nat) - 1]):=by
  show _=_;rw [ha,ha1];rfl
 have w1:IntKind.i64.wrap (2*(e:Int))=(a:Int):=by rw [e1];simp [IntKind.wrap,IntKind.signed,IntKind.bits];omega
 have w2:IntKind.i64.wrap (a1:Int)=(a1:Int):=by simp [IntKind.wrap,IntKind.signed,IntKind.bits];omega
 obtain ⟨d0,hd0⟩:∃ d0,d0=degOf l lone (nameOf l a:Nat):=⟨_,rfl⟩
 obtain ⟨d1,hd1⟩:∃ d1,d1=degOf l lone (nameOf l a1:Nat):=⟨_,rfl⟩
 have b0:=deg_le l lone (nameOf l a:Nat)
 have b1:=deg_le l lone (nameOf l a1:Nat)
 rw [← hd0] at b0
 rw [← hd1] at b1
 have D0:=Lib.hid (DP.out (nameOf l a:Nat))
 have D1:=Lib.hid (DP.out (nameOf l a1:Nat))
 rw [← hd0] at D0
 rw [← hd1] at D1
 rw [← hd0,← hd1] at HB
 have w3:IntKind.i64.wrap (d0 - 2)=d0 - 2:=by simp [IntKind.wrap,IntKind.signed,IntKind.bits];omega
 have w4:IntKind.i64.wrap (d0 - 1)=d0 - 1:=by simp [IntKind.wrap,IntKind.signed,IntKind.bits];omega
 have w5:IntKind.i64.wrap (d1 - 1)=d1 - 1:=by simp [IntKind.wrap,IntKind.signed,IntKind.bits];omega
 have Z0:=Below.refl w.heap.size w
 clear h hd0 hd1 ha ha1 VP DP
 generalize besN l lone e=RES at *
 generalize nameOf l a=N0 at *
 generalize nameOf l a1=N1 at *
 go_enter Tryz.func94,Tryz.ntmps94
 go_wp2_with fail
 refine (V0.out _ Z0).mono ?_
 rintro en v1 ⟨rfl,z⟩
 have Z1:=Z0.trans (z.mono Z0.size)
 clear z
 go_wp2_with fail
 refine (V1.out _ Z1).mono ?_
 rintro en v2 ⟨rfl,z⟩
 have Z2:=Z1.trans (z.mono Z1.size)
 clear z
 by_cases c:N0=N1
 ·subst c
  go_wp2_with fail
  refine (D0.out _ Z2).mono ?_
  rintro en v3 ⟨rfl,z⟩
  have Z3:=Lib.hid (Z2.trans (z.mono Z2.size))
  clear z Z0 Z1 Z2
  go_wp2_with fail
  go_ret
  have hres:RES=[d0 - 2]:=by have:=HB.out;simpa using this
  rw [hres]
  exact ⟨_,_,rfl,(Rd.new v3 3 #[.int .i64 (d0 - 2)] 1 _ (by simp [I64]) (by simp)).up (by simp),Z3.out.alloc Z3.out.size _⟩
 ·have c1:((N0:Int) == (N1:Int))=false:=by rw [beq_eq_false_iff_ne];omega
  have c2:(N0 == N1)=false:=by rw [beq_eq_false_iff_ne];exact c
  go_wp2_with fail
  refine (D0.out _ Z2).mono ?_
  rintro en v3 ⟨rfl,z⟩
  have Z3:=Z2.trans (z.mono Z2.size)
  clear z
  go_wp2_with fail
  refine (D1.out _ Z3).mono ?_
  rintro en v4 ⟨rfl,z⟩
  have Z4:=Lib.hid (Z3.trans (z.mono Z3.size))
  clear z Z0 Z1 Z2 Z3
  go_wp2_with fail
  go_ret
  have hres:RES=[d0 - 1,d1 - 1]:=by have:=HB.out;rwa [if_neg c] at this
  rw [hres]
  exact ⟨_,_,rfl,(Rd.new v4 3 #[.int .i64 (d0 - 1),.int .i64 (d1 - 1)] 2 _ (by simp [I64]) (by simp)).up (by simp),Z4.out.alloc Z4.out.size _⟩
def outN (z:List Nat) (e x:Nat):Nat:=if x / 2≠e then x else if z.getD x 0 / 2≠e then z.getD x 0 else z.getD (z.getD x 0) 0
def woTo (l z:List Nat) (e k:Nat):List Nat:=((List.range k).filter fun d=>decide (d / 2≠e)).map fun d=>calN e (outN z e (l.getD d 0))
def woN (l z:List Nat) (e:Nat):List Nat:=woTo l z e l.length
theorem woTo_yes (l z:List Nat) (e k:Nat) (h:k / 2≠e):woTo l z e (k+1)=woTo l z e k++[calN e (outN z e (l.getD k 0))]:=by
 unfold woTo;rw [List.range_succ,List.filter_append,List.map_append];simp [h]
theorem woTo_no (l z:List Nat) (e k:Nat) (h:k / 2=e):woTo l z e (k+1)=woTo l z e k:=by
 unfold woTo;rw [List.range_succ,List.filter_append,List.map_append];simp [h]
theorem woTo_len (l z:List Nat) (e k:Nat):(woTo l z e k).length≤k:=by
 unfold woTo;rw [List.length_map];exact Nat.le_trans (List.length_filter_le _ _) (by simp)
section
variable {l b:List Nat}
theorem out_s (h:Inv l b) {e d:Nat} (hd:d < l.length) (he:d / 2≠e) (hl:e < l.length / 2):outN l e (l.getD d 0) / 2≠e:=by
 have h0:=h.lt d hd
 have h1:=h.lt _ h0
 have h2:=h.lt _ h1
 unfold outN
 by_cases c:l.getD d 0 / 2=e
 ·rw [if_neg (by omega)]
  by_cases c1:l.getD (l.getD d 0) 0 / 2=e
  ·rw [if_neg (by omega)]
   intro c2
   have n1:l.getD (l.getD d 0) 0≠l.getD d 0:=fun q=>by
    have:=h.inj _ _ h0 hd q
    rw [this] at c;exact he c
   have n2:l.getD (l.getD (l.getD d 0) 0) 0≠l.getD (l.getD d 0) 0:=fun q=>n1 (h.inj _ _ h1 h0 q)
   have n3:l.getD (l.getD (l.getD d 0) 0) 0≠l.getD d 0:=fun q=>by
    have:=h.inj _ _ h1 hd q
    rw [this] at c1;exact he c1
   omega
  ·rw [if_pos c1];exact c1
 ·rw [if_pos c];exact c
theorem out_f (h:Inv l b) (hev:l.length%2=0) {e d:Nat} (hd:d < l.length) (he:d / 2≠e) (hl:e < l.length / 2):outN (phiL l) e (l.getD d 0) / 2≠e:=by
 have h0:=h.lt d hd
 obtain ⟨x,hx⟩:∃ x,x=l.getD d 0:=⟨_,rfl⟩
 rw [← hx] at h0 ⊢
 unfold outN
 by_cases c:x / 2=e
 ·rw [if_neg (by omega)]
  have m0:mateN x < l.length:=mateN_lt hev h0
  have e1:(phiL l).getD x 0=l.getD (mateN x) 0:=phiL_get l x h0
  have mx:mateN x / 2=e∧mateN x≠x:=by rw [mateN_eq];split <;> omega
  obtain ⟨y,hy⟩:∃ y,y=l.getD (mateN x) 0:=⟨_,rfl⟩
  have hyl:y < l.length:=by rw [hy];exact h.lt _ m0
  rw [e1,← hy]
  by_cases c1:y / 2=e
  ·rw [if_neg (by omega)]
   have e2:(phiL l).getD y 0=l.getD (mateN y) 0:=phiL_get l y hyl
   rw [e2]
   have n1:y≠x:=fun q=>by
    have:=h.inj _ _ m0 hd (by rw [← hy,← hx];exact q)
    rw [this] at mx;exact he mx.1
   have my:mateN y=x:=by
    have:=mx.1
    have:=mx.2
    rw [mateN_eq] at *
    split at*<;> split <;> omega
   rw [my]
   intro c2
   have n2:l.getD x 0≠x:=fun q=>by
    have:=h.inj _ _ h0 hd (by rw [← hx];exact q)
    rw [this] at c;exact he c
   have n3:l.getD x 0≠y:=fun q=>mx.2 (h.inj _ _ m0 h0 (by rw [← hy];exact q.symm))
   omega
  ·rw [if_pos c1];exact c1
 ·rw [if_pos c];exact c
end
set_option maxHeartbeats 8000000 in
theorem without_s (g:Nat) (l b z b':List Nat) (r e:Nat) (lone x:Int) (w:World) (h:MapAt w g l b (r:Int) lone) (hi:Inv l b) (hr:r < l.length) (he:e < l.length / 2)
  (hz:∀ k,k < l.length→z.getD k 0 < l.length)
  (hf:∀ k,k < l.length→∀ W,Below w.heap.size w W→Calls Tryz.prog 96 #[.pointer (some ⟨g,0,none⟩),.int .i64 (k:Int)] W fun e w'=>e=.returned (.int .i64 ((z.getD k 0:Nat):Int))∧Below W.heap.size W w')
  (ho:∀ d,d < l.length→d / 2≠e→outN z e (l.getD d 0) / 2≠e)
  (hi':Inv (woN l z e) b') (hev:(woN l z e).length%2=0) (hrt:RootOk (heirN l b r e) (woN l z e).length) (hx0:0≤lone+x) (hx1:lone+x≤65536) :
  Calls Tryz.prog 95 #[.pointer (some ⟨g,0,none⟩),.int .i64 (e:Int),.func (.func 96) #[.pointer (some ⟨g,0,none⟩)] #[],.int .i64 x] w (NewMap w (woN l z e) b' (heirN l b r e) (lone+x)):=by
 have hln:=h.2.1
 have HM:=Lib.hid h
 have DP:Hid (∀ W,Below w.heap.size w W→Calls Tryz.prog 39 #[.pointer (some ⟨g,0,none⟩)] W fun e w'=>e=.returned (.int .i64 (l.length:Int))∧Below W.heap.size W w'):=fun W m=>darts_p g l b r lone W (h.below m)
 have LP:Hid (∀ W,Below w.heap.size w W→Calls Tryz.prog 13 #[.pointer (some ⟨g,0,none⟩)] W fun e w'=>e=.returned (.int .i64 lone)∧W=w'):=fun W m=>lone_p g l b r lone W (h.below m)
 have HP:Hid (∀ W,Below w.heap.size w W→Calls Tryz.prog 113 #[.pointer (some ⟨g,0,none⟩),.int .i64 (e:Int)] W fun en w'=>en=.returned (.int .i64 (heirN l b r e))∧Below W.heap.size W w'):=fun W m=>heir_p g l b r e lone W (h.below m) hi hr he
 have SP:Hid (∀ k,k < l.length→∀ W,Below w.heap.size w W→Calls Tryz.prog 96 #[.pointer (some ⟨g,0,none⟩),.int .i64 (k:Int)] W fun e w'=>e=.returned (.int .i64 ((l.getD k 0:Nat):Int))∧Below W.heap.size W w'):=fun k hk W m=>sigma_in g l b r lone k W (h.below m) hk
 have IT:Hid (∀ (d:Nat) (W:World),d / 2=e→d≤1000000→Calls Tryz.prog 111 #[.int .i64 (d:Int),.int .i64 (e:Int)] W fun en w'=>en=.returned (.bool true)∧W=w'):=fun d W h1 h2=>isOf_t d e W h1 h2
 have IF:Hid (∀ (d:Nat) (W:World),d / 2≠e→d≤1000000→Calls Tryz.prog 111 #[.int .i64 (d:Int),.int .i64 (e:Int)] W fun en w'=>en=.returned (.bool false)∧W=w'):=fun d W h1 h2=>isOf_f d e W h1 h2
 have CP:Hid (∀ (d:Nat) (W:World),d≤1000000→Calls Tryz.prog 112 #[.int .i64 (d:Int),.int .i64 (e:Int)] W fun en w'=>en=.returned (.int .i64 ((calN e d:Nat):Int))∧W=w'):=fun d W h2=>called_p d e W h2
 have HF:=Lib.hid hf
 have HO:=Lib.hid ho
 have HZ:=Lib.hid hz
 have HI:=Lib.hid hi
 have hwl:(woN l z e).length≤l.length:=woTo_len _ _ _ _
 have NP:Hid (∀ A c W,Rd W W.heap.size A (woN l z e).length (I64 (ofN (woN l z e)))→Calls Tryz.prog 7 #[.slice A (woN l z e).length c,.int .i64 (heirN l b r e),.int .i64 (lone+x)] W (NewMap W (woN l z e) b' (heirN l b r e) (lone+x))):=fun A c W hrd=>new_ok A _ c (woN l z e) b' (heirN l b r e) (lone+x) W hrd hi' hev (by omega) hrt hx0 hx1
 obtain ⟨c2,hc2⟩:∃ c2:Nat,(l.length:Int) - 2=(c2:Int):=⟨l.length - 2,by omega⟩
 obtain ⟨i0,hi0,hz0,hz1,hz2⟩:=info_parts info_int
 have hc2b:i0.bytes*c2≤281474976710656:=by rw [hz2];omega
 have hc2m:c2≤maxLen:=by simp only [maxLen];omega
 have wl:IntKind.i64.wrap (lone+x)=lone+x:=by simp [IntKind.wrap,IntKind.signed,IntKind.bits];omega
 have wc:IntKind.i64.wrap ((l.length:Int) - 2)=(c2:Int):=by rw [hc2];simp [IntKind.wrap,IntKind.signed,IntKind.bits];omega
 have Z0:=Below.refl w.heap.size w
 have W0:Hid (woTo l z e 0=[]):=rfl
 have WE:Hid (woTo l z e l.length=woN l z e):=rfl
 clear h hf ho hz hi hi' hev hrt
 generalize heirN l b r e=HR at *
 generalize woN l z e=WN at *
 go_enter Tryz.func95,Tryz.ntmps95
 go_wp2_with fail
 refine (DP.out _ Z0).mono ?_
 rintro en w1 ⟨rfl,z1⟩
 have Z1:=Z0.trans (z1.mono Z0.size)
 clear z1
 go_wp2_with (first
  | (at_make;go_must (refine wpList_make_own _ rfl _ _ 26 rfl w.heap.size 3 i0 (.int .i64 0) 1 Tryz.underlying26 hi0 hz0 hz1 .i64 .i64 _ c2 rfl rfl rfl hc2b hc2m Z1.size ?_)))
 intro w2 hown2 hg2
 have Z2:=Z1.trans (Below.appended (World.ownsRow_nil w1 w.heap.size 3 1) hg2 Z1.size)
 have HO2:=Lib.hid hown2
 clear hown2 hg2 Z1
 go_wp2_with fail
 refine (DP.out _ Z2).mono ?_
 rintro en w3 ⟨rfl,z⟩
 have HO3:=Lib.hid (own_below HO2.out z)
 have Z3:=Lib.hid (Z2.trans (z.mono Z2.size))
 clear z HO2 Z2 Z0
 generalize w1.heap.size=B1 at *
 go_wp2_with fail
 go_loopw [10,19] (fun s i wr=>∃ (k q:Nat) (Av:Option Addr) (cv:Nat),k≤l.length∧q≤k∧i=.int .i64 (k:Int)∧s=.slice Av q cv∧Hid (q=(woTo l z e k).length)∧Hid (wr.ownsRow w.heap.size 3 1 (.slice Av q cv) q (I64 (ofN (woTo l z e k))))∧Hid (Below w.heap.size w wr)) (fun _ i _=>l.length - (intOf i).toNat)
 case atStart=>exact ⟨0,0,_,_,by omega,by omega,rfl,rfl,by rw [W0.out];rfl,by rw [W0.out];exact HO3.out,Z3.out⟩
 case round =>
  clear HO3 Z3
  obtain ⟨k,q,Av,cv,hk,hqk,rfl,rfl,HQ,HOW,HB⟩:=hrel
  by_cases hlt:k < l.length
  ·have hdk:decide (k < l.length)=true:=by rw [decide_eq_true_iff];exact hlt
   by_cases hke:k / 2=e
   ·have NX:=Lib.hid (woTo_no l z e k hke)
    go_wp2_with fail
    refine (IT.out k _ hke (by omega)).mono ?_
    rintro en w' ⟨rfl,rfl⟩
    go_wp2_with fail
    go_roundw
    case rel=>exact ⟨k+1,q,Av,cv,by omega,by omega,by go_num,rfl,by rw [NX.out];exact HQ.out,by rw [NX.out];exact HOW.out,HB.out⟩
    case measure=>simp [intOf];omega
   ·obtain ⟨v,hv⟩:∃ v,v=l.getD k 0:=⟨_,rfl⟩
    have NX:=Lib.hid (woTo_yes l z e k hke)
    have HOO:=Lib.hid (HO.out k hlt hke)
    have SK:=Lib.hid (SP.out k hlt)
    have hvl:v < l.length:=by rw [hv];exact HI.out.lt k hlt
    rw [← hv] at NX HOO SK
    obtain ⟨v1,hv1⟩:∃ v1,v1=z.getD v 0:=⟨_,rfl⟩
    have hv1l:v1 < l.length:=by rw [hv1];exact HZ.out v hvl
    obtain ⟨v2,hv2⟩:∃ v2,v2=z.getD v1 0:=⟨_,rfl⟩
    have hv2l:v2 < l.length:=by rw [hv2];exact HZ.out v1 hv1l
    have HU:Hid (outN z e v=if v / 2≠e then v else if v1 / 2≠e then v1 else v2):=by show _=_;unfold outN;rw [← hv1,← hv2]
    have HV1:=Lib.hid hv1
    have HV2:=Lib.hid hv2
    have HD:Hid ((v / 2=e→v1 / 2=e→v2 / 2≠e)∧(v / 2=e→v1≠v)):=by
     have h0:=HOO.out
     rw [HU.out] at h0
     refine ⟨fun a c=>by rw [if_neg (by omega),if_neg (by omega)] at h0;exact h0,fun a c=>?_⟩
     have e2:v2=v1:=by rw [hv2,c,← hv1];exact c
     rw [if_neg (by omega),if_neg (by omega)] at h0
     rw [e2,c] at h0
     exact h0 a
    clear hv hv1 hv2
    go_wp2_with fail
    refine (IF.out k _ hke (by omega)).mono ?_
    rintro en w' ⟨rfl,rfl⟩
    go_wp2_with fail
    refine (SK.out _ HB.out).mono ?_
    rintro en w4 ⟨rfl,zz⟩
    have HOW4:=Lib.hid (own_below HOW.out zz)
    have HB4:=Lib.hid (HB.out.trans (zz.mono HB.out.size))
    clear zz
    go_wp2_with fail
    go_loopw [12] (fun s wx=>∃ y:Nat,s=.int .i64 (y:Int)∧y < l.length∧(y=v∨(y=v1∧v / 2=e)∨(y=v2∧v / 2=e∧v1 / 2=e))∧Hid (Below w4.heap.size w4 wx)) (fun s _=>if intOf s=(v:Int) then 2 else if intOf s=(v1:Int) then 1 else 0)
    case atStart=>exact ⟨v,rfl,hvl,.inl rfl,Below.refl _ _⟩
    case round =>
     obtain ⟨y,rfl,hyl,hst,HX⟩:=hrel
     have HBX:=Lib.hid (HB4.out.trans (HX.out.mono HB4.out.size))
     by_cases hye:y / 2=e
     ·have hbd:∃ t,Hid (t=z.getD y 0)∧t < l.length∧((t=v1∧y=v∧v / 2=e)∨(t=v2∧y=v1∧v / 2=e∧v1 / 2=e)):=by
       rcases hst with rfl | ⟨rfl,h1⟩ | ⟨rfl,h1,h2⟩
       ·exact ⟨v1,HV1.out,hv1l,.inl ⟨rfl,rfl,hye⟩⟩
       ·exact ⟨v2,HV2.out,hv2l,.inr ⟨rfl,rfl,h1,hye⟩⟩
       ·exact absurd hye (HD.out.1 h1 h2)
      obtain ⟨t,ht,htl,hc⟩:=hbd
      have HC:=Lib.hid hc
      have FP:Hid (∀ W,Below w.heap.size w W→Calls Tryz.prog 96 #[.pointer (some ⟨g,0,none⟩),.int .i64 (y:Int)] W fun e w'=>e=.returned (.int .i64 (t:Int))∧Below W.heap.size W w'):=fun W m=>by rw [ht.out];exact HF.out y hyl W m
      clear hst hc ht
      go_wp2_with fail
      refine (IT.out y _ hye (by omega)).mono ?_
      rintro en w' ⟨rfl,rfl⟩
      go_wp2_with fail
      refine (FP.out _ HBX.out).mono ?_
      rintro en w5 ⟨rfl,zz⟩
      have HX5:=Lib.hid (HX.out.trans (zz.mono HX.out.size))
      clear zz
      go_wp2_with fail
      go_roundw
      case rel =>
       refine ⟨t,rfl,htl,?_,HX5.out⟩
       rcases HC.out with ⟨h1,h2,h3⟩ | ⟨h1,h2,h3,h4⟩
       ·exact .inr (.inl ⟨h1,h3⟩)
       ·exact .inr (.inr ⟨h1,h3,h4⟩)
      case measure =>
       show (if (t:Int)=(v:Int) then 2 else if (t:Int)=(v1:Int) then 1 else 0) < (if (y:Int)=(v:Int) then 2 else if (y:Int)=(v1:Int) then 1 else 0)
       rcases HC.out with ⟨h1,h2,h3⟩ | ⟨h1,h2,h3,h4⟩
       ·have:=HD.out.2 h3
        rw [if_neg (by omega),if_pos (by omega),if_pos (by omega)];omega
       ·have h5:=HD.out.2 h3
        have h6:=HD.out.1 h3 h4
        have h7:v2≠v:=fun c=>by rw [c] at h6;exact h6 h3
        have h8:v2≠v1:=fun c=>by rw [c] at h6;exact h6 h4
        rw [if_neg (by omega),if_neg (by omega),if_neg (by omega),if_pos (by omega)];omega
     ·have HYO:Hid (outN z e v=y):=by
       show _=_
       rw [HU.out]
       rcases hst with rfl | ⟨rfl,h1⟩ | ⟨rfl,h1,h2⟩
       ·rw [if_pos hye]
       ·rw [if_neg (by omega),if_pos hye]
       ·rw [if_neg (by omega),if_neg (by omega)]
      clear hst
      obtain ⟨cy,hcy⟩:∃ cy,cy=calN e y:=⟨_,rfl⟩
      have CY:Hid (∀ W:World,Calls Tryz.prog 112 #[.int .i64 (y:Int),.int .i64 (e:Int)] W fun en w'=>en=.returned (.int .i64 (cy:Int))∧W=w'):=fun W=>by rw [hcy];exact CP.out y W (by omega)
      have NX2:Hid (ofN (woTo l z e (k+1))=ofN (woTo l z e k)++[(cy:Int)]):=by show _=_;rw [NX.out,HYO.out,← hcy,ofN_append];rfl
      have NX3:Hid ((woTo l z e (k+1)).length=q+1):=by show _=_;rw [NX.out,List.length_append,← HQ.out];rfl
      have HOX:=Lib.hid (own_below HOW4.out HX.out)
      have hown':=HOX.out.alloc (.cells #[.int .i64 (cy:Int)] 3)
      have r3:=Rd.new wr 3 #[.int .i64 (cy:Int)] 1 (I64 [(cy:Int)]) (by simp [I64]) (by simp)
      have t1:q+1≤maxLen:=by simp only [maxLen];omega
      have t2:(q+1)*8≤140737488355328:=by omega
      have t3:w.heap.size≤(wr.alloc (.cells #[.int .i64 (cy:Int)] 3)).heap.size:=by have:=HBX.out.size;simp;omega
      clear hcy
      go_wp2_with fail
      refine (IF.out y _ hye (by omega)).mono ?_
      rintro en w' ⟨rfl,rfl⟩
      go_wp2_with fail
      refine (CY.out _).mono ?_
      rintro en w' ⟨rfl,rfl⟩
      go_wp2_with (first
       | (at_builtin;go_must (refine wpList_append_rd _ rfl _ _ 26 rfl w.heap.size 3 i0 (.int .i64 0) 8 Tryz.underlying26 hi0 hz0 hz1 hz2 rfl (.slice Av q cv) q (I64 (ofN (woTo l z e k))) rfl hown' (wr.heap.size+1) (some ⟨wr.heap.size,0,none⟩) 1 1 (I64 [(cy:Int)]) rfl r3 (I64_one _) t1 t2 t3 ?_)))
      intro A6 c6 w6 hc6 hm6 hown6 hg6 _
      have hb6:Below w.heap.size w w6:=(HBX.out.trans ((Below.refl w.heap.size wr).alloc HBX.out.size _)).trans (Below.appended hown' hg6 t3)
      rw [← I64_append,← NX2.out] at hown6
      have HO6:=Lib.hid hown6
      have HB6:=Lib.hid hb6
      clear hown6 hb6 hg6 r3 hown'
      go_wp2_with fail
      go_roundw
      case rel=>exact ⟨k+1,q+1,A6,c6,by omega,by omega,by go_num,rfl,NX3.out.symm,HO6.out,HB6.out⟩
      case measure=>simp [intOf];omega
  ·obtain rfl:k=l.length:=by omega
   have hdk:decide (l.length < l.length)=false:=by simp
   rw [WE.out] at HQ HOW
   have hq:=HQ.out
   subst hq
   have HR:=Lib.hid (Rd.ofOwn HOW.out)
   clear HQ
   go_wp2_with fail
   refine (HP.out _ HB.out).mono ?_
   rintro en w4 ⟨rfl,zz⟩
   have HB4:=Lib.hid (HB.out.trans (zz.mono HB.out.size))
   have HR4:=Lib.hid (HR.out.more zz)
   clear zz HR
   go_wp2_with fail
   refine (LP.out _ HB4.out).mono ?_
   rintro en w' ⟨rfl,rfl⟩
   go_wp2_with fail
   refine (NP.out _ _ _ HR4.out).mono ?_
   rintro en w5 ⟨g5,rfl,hm,b5,hlo⟩
   have HMM:=Lib.hid hm
   have hs:=HB4.out.size
   have HLO:=Lib.hid (show MapLo w.heap.size w5 g5 from by
    obtain ⟨p,A,n,c,S,k,d,q,A',n',c',S',k',d',rt,ln,hb,h1,h2,h3,h4,h5,h6,h7⟩:=hlo
    exact ⟨p,A,n,c,S,k,d,q,A',n',c',S',k',d',rt,ln,hb,Nat.le_trans hs h1,h2.le hs,h3.le hs,h4.le hs,h5.le hs,h6.le hs,h7.le hs⟩)
   have BB:=Lib.hid (HB4.out.trans (b5.mono hs))
   clear hm hlo b5
   go_wp2_with fail
   go_ret2
   exact ⟨g5,rfl,HMM.out,BB.out,HLO.out⟩
set_option maxHeartbeats 8000000 in
theorem without_f (g:Nat) (l b z b':List Nat) (r e:Nat) (lone x:Int) (w:World) (h:MapAt w g l b (r:Int) lone) (hi:Inv l b) (hr:r < l.length) (he:e < l.length / 2)
  (hz:∀ k,k < l.length→z.getD k 0 < l.length)
  (hf:∀ k,k < l.length→∀ W,Below w.heap.size w W→Calls Tryz.prog 90 #[.pointer (some ⟨g,0,none⟩),.int .i64 (k:Int)] W fun e w'=>e=.returned (.int .i64 ((z.getD k 0:Nat):Int))∧Below W.heap.size W w')
  (ho:∀ d,d < l.length→d / 2≠e→outN z e (l.getD d 0) / 2≠e)
  (hi':Inv (woN l z e) b') (hev:(woN l z e).length%2=0) (hrt:RootOk (heirN l b r e) (woN l z e).length) (hx0:0≤lone+x) (hx1:lone+x≤65536) :
  Calls Tryz.prog 95 #[.pointer (some ⟨g,0,none⟩),.int .i64 (e:Int),.func (.func 90) #[.pointer (some ⟨g,0,none⟩)] #[],.int .i64 x] w (NewMap w (woN l z e) b' (heirN l b r e) (lone+x)):=by
 have hln:=h.2.1
 have HM:=Lib.hid h
 have DP:Hid (∀ W,Below w.heap.size w W→Calls Tryz.prog 39 #[.pointer (some ⟨g,0,none⟩)] W fun e w'=>e=.returned (.int .i64 (l.length:Int))∧Below W.heap.size W w'):=fun W m=>darts_p g l b r lone W (h.below m)
 have LP:Hid (∀ W,Below w.heap.size w W→Calls Tryz.prog 13 #[.pointer (some ⟨g,0,none⟩)] W fun e w'=>e=.returned (.int .i64 lone)∧W=w'):=fun W m=>lone_p g l b r lone W (h.below m)
 have HP:Hid (∀ W,Below w.heap.size w W→Calls Tryz.prog 113 #[.pointer (some ⟨g,0,none⟩),.int .i64 (e:Int)] W fun en w'=>en=.returned (.int .i64 (heirN l b r e))∧Below W.heap.size W w'):=fun W m=>heir_p g l b r e lone W (h.below m) hi hr he
 have SP:Hid (∀ k,k < l.length→∀ W,Below w.heap.size w W→Calls Tryz.prog 96 #[.pointer (some ⟨g,0,none⟩),.int .i64 (k:Int)] W fun e w'=>e=.returned (.int .i64 ((l.getD k 0:Nat):Int))∧Below W.heap.size W w'):=fun k hk W m=>sigma_in g l b r lone k W (h.below m) hk
 have IT:Hid (∀ (d:Nat) (W:World),d / 2=e→d≤1000000→Calls Tryz.prog 111 #[.int .i64 (d:Int),.int .i64 (e:Int)] W fun en w'=>en=.returned (.bool true)∧W=w'):=fun d W h1 h2=>isOf_t d e W h1 h2
 have IF:Hid (∀ (d:Nat) (W:World),d / 2≠e→d≤1000000→Calls Tryz.prog 111 #[.int .i64 (d:Int),.int .i64 (e:Int)] W fun en w'=>en=.returned (.bool false)∧W=w'):=fun d W h1 h2=>isOf_f d e W h1 h2
 have CP:Hid (∀ (d:Nat) (W:World),d≤1000000→Calls Tryz.prog 112 #[.int .i64 (d:Int),.int .i64 (e:Int)] W fun en w'=>en=.returned (.int .i64 ((calN e d:Nat):Int))∧W=w'):=fun d W h2=>called_p d e W h2
 have HF:=Lib.hid hf
 have HO:=Lib.hid ho
 have HZ:=Lib.hid hz
 have HI:=Lib.hid hi
 have hwl:(woN l z e).length≤l.length:=woTo_len _ _ _ _
 have NP:Hid (∀ A c W,Rd W W.heap.size A (woN l z e).length (I64 (ofN (woN l z e)))→Calls Tryz.prog 7 #[.slice A (woN l z e).length c,.int .i64 (heirN l b r e),.int .i64 (lone+x)] W (NewMap W (woN l z e) b' (heirN l b r e) (lone+x))):=fun A c W hrd=>new_ok A _ c (woN l z e) b' (heirN l b r e) (lone+x) W hrd hi' hev (by omega) hrt hx0 hx1
 obtain ⟨c2,hc2⟩:∃ c2:Nat,(l.length:Int) - 2=(c2:Int):=⟨l.length - 2,by omega⟩
 obtain ⟨i0,hi0,hz0,hz1,hz2⟩:=info_parts info_int
 have hc2b:i0.bytes*c2≤281474976710656:=by rw [hz2];omega
 have hc2m:c2≤maxLen:=by simp only [maxLen];omega
 have wl:IntKind.i64.wrap (lone+x)=lone+x:=by simp [IntKind.wrap,IntKind.signed,IntKind.bits];omega
 have wc:IntKind.i64.wrap ((l.length:Int) - 2)=(c2:Int):=by rw [hc2];simp [IntKind.wrap,IntKind.signed,IntKind.bits];omega
 have Z0:=Below.refl w.heap.size w
 have W0:Hid (woTo l z e 0=[]):=rfl
 have WE:Hid (woTo l z e l.length=woN l z e):=rfl
 clear h hf ho hz hi hi' hev hrt
 generalize heirN l b r e=HR at *
 generalize woN l z e=WN at *
 go_enter Tryz.func95,Tryz.ntmps95
 go_wp2_with fail
 refine (DP.out _ Z0).mono ?_
 rintro en w1 ⟨rfl,z1⟩
 have Z1:=Z0.trans (z1.mono Z0.size)
 clear z1
 go_wp2_with (first
  | (at_make;go_must (refine wpList_make_own _ rfl _ _ 26 rfl w.heap.size 3 i0 (.int .i64 0) 1 Tryz.underlying26 hi0 hz0 hz1 .i64 .i64 _ c2 rfl rfl rfl hc2b hc2m Z1.size ?_)))
 intro w2 hown2 hg2
 have Z2:=Z1.trans (Below.appended (World.ownsRow_nil w1 w.heap.size 3 1) hg2 Z1.size)
 have HO2:=Lib.hid hown2
 clear hown2 hg2 Z1
 go_wp2_with fail
 refine (DP.out _ Z2).mono ?_
 rintro en w3 ⟨rfl,z⟩
 have HO3:=Lib.hid (own_below HO2.out z)
 have Z3:=Lib.hid (Z2.trans (z.mono Z2.size))
 clear z HO2 Z2 Z0
 generalize w1.heap.size=B1 at *
 go_wp2_with fail
 go_loopw [10,19] (fun s i wr=>∃ (k q:Nat) (Av:Option Addr) (cv:Nat),k≤l.length∧q≤k∧i=.int .i64 (k:Int)∧s=.slice Av q cv∧Hid (q=(woTo l z e k).length)∧Hid (wr.ownsRow w.heap.size 3 1 (.slice Av q cv) q (I64 (ofN (woTo l z e k))))∧Hid (Below w.heap.size w wr)) (fun _ i _=>l.length - (intOf i).toNat)
 case atStart=>exact ⟨0,0,_,_,by omega,by omega,rfl,rfl,by rw [W0.out];rfl,by rw [W0.out];exact HO3.out,Z3.out⟩
 case round =>
  clear HO3 Z3
  obtain ⟨k,q,Av,cv,hk,hqk,rfl,rfl,HQ,HOW,HB⟩:=hrel
  by_cases hlt:k < l.length
  ·have hdk:decide (k < l.length)=true:=by rw [decide_eq_true_iff];exact hlt
   by_cases hke:k / 2=e
   ·have NX:=Lib.hid (woTo_no l z e k hke)
    go_wp2_with fail
    refine (IT.out k _ hke (by omega)).mono ?_
    rintro en w' ⟨rfl,rfl⟩
    go_wp2_with fail
    go_roundw
    case rel=>exact ⟨k+1,q,Av,cv,by omega,by omega,by go_num,rfl,by rw [NX.out];exact HQ.out,by rw [NX.out];exact HOW.out,HB.out⟩
    case measure=>simp [intOf];omega
   ·obtain ⟨v,hv⟩:∃ v,v=l.getD k 0:=⟨_,rfl⟩
    have NX:=Lib.hid (woTo_yes l z e k hke)
    have HOO:=Lib.hid (HO.out k hlt hke)
    have SK:=Lib.hid (SP.out k hlt)
    have hvl:v < l.length:=by rw [hv];exact HI.out.lt k hlt
    rw [← hv] at NX HOO SK
    obtain ⟨v1,hv1⟩:∃ v1,v1=z.getD v 0:=⟨_,rfl⟩
    have hv1l:v1 < l.length:=by rw [hv1];exact HZ.out v hvl
    obtain ⟨v2,hv2⟩:∃ v2,v2=z.getD v1 0:=⟨_,rfl⟩
    have hv2l:v2 < l.length:=by rw [hv2];exact HZ.out v1 hv1l
    have HU:Hid (outN z e v=if v / 2≠e then v else if v1 / 2≠e then v1 else v2):=by show _=_;unfold outN;rw [← hv1,← hv2]
    have HV1:=Lib.hid hv1
    have HV2:=Lib.hid hv2
    have HD:Hid ((v / 2=e→v1 / 2=e→v2 / 2≠e)∧(v / 2=e→v1≠v)):=by
     have h0:=HOO.out
     rw [HU.out] at h0
     refine ⟨fun a c=>by rw [if_neg (by omega),if_neg (by omega)] at h0;exact h0,fun a c=>?_⟩
     have e2:v2=v1:=by rw [hv2,c,← hv1];exact c
     rw [if_neg (by omega),if_neg (by omega)] at h0
     rw [e2,c] at h0
     exact h0 a
    clear hv hv1 hv2
    go_wp2_with fail
    refine (IF.out k _ hke (by omega)).mono ?_
    rintro en w' ⟨rfl,rfl⟩
    go_wp2_with fail
    refine (SK.out _ HB.out).mono ?_
    rintro en w4 ⟨rfl,zz⟩
    have HOW4:=Lib.hid (own_below HOW.out zz)
    have HB4:=Lib.hid (HB.out.trans (zz.mono HB.out.size))
    clear zz
    go_wp2_with fail
    go_loopw [12] (fun s wx=>∃ y:Nat,s=.int .i64 (y:Int)∧y < l.length∧(y=v∨(y=v1∧v / 2=e)∨(y=v2∧v / 2=e∧v1 / 2=e))∧Hid (Below w4.heap.size w4 wx)) (fun s _=>if intOf s=(v:Int) then 2 else if intOf s=(v1:Int) then 1 else 0)
    case atStart=>exact ⟨v,rfl,hvl,.inl rfl,Below.refl _ _⟩
    case round =>
     obtain ⟨y,rfl,hyl,hst,HX⟩:=hrel
     have HBX:=Lib.hid (HB4.out.trans (HX.out.mono HB4.out.size))
     by_cases hye:y / 2=e
     ·have hbd:∃ t,Hid (t=z.getD y 0)∧t < l.length∧((t=v1∧y=v∧v / 2=e)∨(t=v2∧y=v1∧v / 2=e∧v1 / 2=e)):=by
       rcases hst with rfl | ⟨rfl,h1⟩ | ⟨rfl,h1,h2⟩
       ·exact ⟨v1,HV1.out,hv1l,.inl ⟨rfl,rfl,hye⟩⟩
       ·exact ⟨v2,HV2.out,hv2l,.inr ⟨rfl,rfl,h1,hye⟩⟩
       ·exact absurd hye (HD.out.1 h1 h2)
      obtain ⟨t,ht,htl,hc⟩:=hbd
      have HC:=Lib.hid hc
      have FP:Hid (∀ W,Below w.heap.size w W→Calls Tryz.prog 90 #[.pointer (some ⟨g,0,none⟩),.int .i64 (y:Int)] W fun e w'=>e=.returned (.int .i64 (t:Int))∧Below W.heap.size W w'):=fun W m=>by rw [ht.out];exact HF.out y hyl W m
      clear hst hc ht
      go_wp2_with fail
      refine (IT.out y _ hye (by omega)).mono ?_
      rintro en w' ⟨rfl,rfl⟩
      go_wp2_with fail
      refine (FP.out _ HBX.out).mono ?_
      rintro en w5 ⟨rfl,zz⟩
      have HX5:=Lib.hid (HX.out.trans (zz.mono HX.out.size))
      clear zz
      go_wp2_with fail
      go_roundw
      case rel =>
       refine ⟨t,rfl,htl,?_,HX5.out⟩
       rcases HC.out with ⟨h1,h2,h3⟩ | ⟨h1,h2,h3,h4⟩
       ·exact .inr (.inl ⟨h1,h3⟩)
       ·exact .inr (.inr ⟨h1,h3,h4⟩)
      case measure =>
       show (if (t:Int)=(v:Int) then 2 else if (t:Int)=(v1:Int) then 1 else 0) < (if (y:Int)=(v:Int) then 2 else if (y:Int)=(v1:Int) then 1 else 0)
       rcases HC.out with ⟨h1,h2,h3⟩ | ⟨h1,h2,h3,h4⟩
       ·have:=HD.out.2 h3
        rw [if_neg (by omega),if_pos (by omega),if_pos (by omega)];omega
       ·have h5:=HD.out.2 h3
        have h6:=HD.out.1 h3 h4
        have h7:v2≠v:=fun c=>by rw [c] at h6;exact h6 h3
        have h8:v2≠v1:=fun c=>by rw [c] at h6;exact h6 h4
        rw [if_neg (by omega),if_neg (by omega),if_neg (by omega),if_pos (by omega)];omega
     ·have HYO:Hid (outN z e v=y):=by
       show _=_
       rw [HU.out]
       rcases hst with rfl | ⟨rfl,h1⟩ | ⟨rfl,h1,h2⟩
       ·rw [if_pos hye]
       ·rw [if_neg (by omega),if_pos hye]
       ·rw [if_neg (by omega),if_neg (by omega)]
      clear hst
      obtain ⟨cy,hcy⟩:∃ cy,cy=calN e y:=⟨_,rfl⟩
      have CY:Hid (∀ W:World,Calls Tryz.prog 112 #[.int .i64 (y:Int),.int .i64 (e:Int)] W fun en w'=>en=.returned (.int .i64 (cy:Int))∧W=w'):=fun W=>by rw [hcy];exact CP.out y W (by omega)
      have NX2:Hid (ofN (woTo l z e (k+1))=ofN (woTo l z e k)++[(cy:Int)]):=by show _=_;rw [NX.out,HYO.out,← hcy,ofN_append];rfl
      have NX3:Hid ((woTo l z e (k+1)).length=q+1):=by show _=_;rw [NX.out,List.length_append,← HQ.out];rfl
      have HOX:=Lib.hid (own_below HOW4.out HX.out)
      have hown':=HOX.out.alloc (.cells #[.int .i64 (cy:Int)] 3)
      have r3:=Rd.new wr 3 #[.int .i64 (cy:Int)] 1 (I64 [(cy:Int)]) (by simp [I64]) (by simp)
      have t1:q+1≤maxLen:=by simp only [maxLen];omega
      have t2:(q+1)*8≤140737488355328:=by omega
      have t3:w.heap.size≤(wr.alloc (.cells #[.int .i64 (cy:Int)] 3)).heap.size:=by have:=HBX.out.size;simp;omega
      clear hcy
      go_wp2_with fail
      refine (IF.out y _ hye (by omega)).mono ?_
      rintro en w' ⟨rfl,rfl⟩
      go_wp2_with fail
      refine (CY.out _).mono ?_
      rintro en w' ⟨rfl,rfl⟩
      go_wp2_with (first
       | (at_builtin;go_must (refine wpList_append_rd _ rfl _ _ 26 rfl w.heap.size 3 i0 (.int .i64 0) 8 Tryz.underlying26 hi0 hz0 hz1 hz2 rfl (.slice Av q cv) q (I64 (ofN (woTo l z e k))) rfl hown' (wr.heap.size+1) (some ⟨wr.heap.size,0,none⟩) 1 1 (I64 [(cy:Int)]) rfl r3 (I64_one _) t1 t2 t3 ?_)))
      intro A6 c6 w6 hc6 hm6 hown6 hg6 _
      have hb6:Below w.heap.size w w6:=(HBX.out.trans ((Below.refl w.heap.size wr).alloc HBX.out.size _)).trans (Below.appended hown' hg6 t3)
      rw [← I64_append,← NX2.out] at hown6
      have HO6:=Lib.hid hown6
      have HB6:=Lib.hid hb6
      clear hown6 hb6 hg6 r3 hown'
      go_wp2_with fail
      go_roundw
      case rel=>exact ⟨k+1,q+1,A6,c6,by omega,by omega,by go_num,rfl,NX3.out.symm,HO6.out,HB6.out⟩
      case measure=>simp [intOf];omega
  ·obtain rfl:k=l.length:=by omega
   have hdk:decide (l.length < l.length)=false:=by simp
   rw [WE.out] at HQ HOW
   have hq:=HQ.out
   subst hq
   have HR:=Lib.hid (Rd.ofOwn HOW.out)
   clear HQ
   go_wp2_with fail
   refine (HP.out _ HB.out).mono ?_
   rintro en w4 ⟨rfl,zz⟩
   have HB4:=Lib.hid (HB.out.trans (zz.mono HB.out.size))
   have HR4:=Lib.hid (HR.out.more zz)
   clear zz HR
   go_wp2_with fail
   refine (LP.out _ HB4.out).mono ?_
   rintro en w' ⟨rfl,rfl⟩
   go_wp2_with fail
   refine (NP.out _ _ _ HR4.out).mono ?_
   rintro en w5 ⟨g5,rfl,hm,b5,hlo⟩
   have HMM:=Lib.hid hm
   have hs:=HB4.out.size
   have HLO:=Lib.hid (show MapLo w.heap.size w5 g5 from by
    obtain ⟨p,A,n,c,S,k,d,q,A',n',c',S',k',d',rt,ln,hb,h1,h2,h3,h4,h5,h6,h7⟩:=hlo
    exact ⟨p,A,n,c,S,k,d,q,A',n',c',S',k',d',rt,ln,hb,Nat.le_trans hs h1,h2.le hs,h3.le hs,h4.le hs,h5.le hs,h6.le hs,h7.le hs⟩)
   have BB:=Lib.hid (HB4.out.trans (b5.mono hs))
   clear hm hlo b5
   go_wp2_with fail
   go_ret2
   exact ⟨g5,rfl,HMM.out,BB.out,HLO.out⟩
def unN (e j:Nat):Nat:=if 2*e≤j then j+2 else j
def cntE (e k:Nat):Nat:=if k≤2*e then k else if k=2*e+1 then 2*e else k - 2
theorem unN_is (e j:Nat):unN e j / 2≠e∧calN e (unN e j)=j:=by
 unfold unN calN
 split
 ·refine ⟨by omega,?_⟩
  rw [if_pos (by omega)];omega
 ·refine ⟨by omega,?_⟩
  rw [if_neg (by omega)]
theorem calN_un (e d:Nat) (h:d / 2≠e):unN e (calN e d)=d:=by
 unfold unN calN
 by_cases c:e < d / 2
 ·rw [if_pos c,if_pos (by omega)];omega
 ·rw [if_neg c,if_neg (by omega)]
theorem calN_lt (e d n:Nat) (h:d / 2≠e) (hd:d < n) (he:2*e+2≤n):calN e d < n - 2:=by
 unfold calN
 split <;> omega
theorem filt_un (e:Nat):∀ k,(List.range k).filter (fun d=>decide (d / 2≠e))=(List.range (cntE e k)).map (unN e)
 | 0=>by simp [cntE]
 | k+1=>by
   rw [List.range_succ,List.filter_append,filt_un e k]
   by_cases c:k / 2=e
   ·have e1:cntE e (k+1)=cntE e k:=by unfold cntE;split <;> split <;> (try split) <;> (try split) <;> omega
    rw [e1];simp [c]
   ·have e1:cntE e (k+1)=cntE e k+1:=by unfold cntE;split <;> split <;> (try split) <;> (try split) <;> omega
    have e2:unN e (cntE e k)=k:=by unfold unN cntE;split <;> split <;> (try split) <;> (try split) <;> omega
    rw [e1,List.range_succ,List.map_append,List.map_singleton,e2]
    simp [c]
theorem woN_is (l z:List Nat) (e:Nat) (he:2*e+2≤l.length):woN l z e=(List.range (l.length - 2)).map fun j=>calN e (outN z e (l.getD (unN e j) 0)):=by
 unfold woN woTo
 rw [filt_un,List.map_map]
 have:cntE e l.length=l.length - 2:=by unfold cntE;rw [if_neg (by omega),if_neg (by omega)]
 rw [this];rfl
theorem woN_len (l z:List Nat) (e:Nat) (he:2*e+2≤l.length):(woN l z e).length=l.length - 2:=by rw [woN_is l z e he];simp
theorem woN_get (l z:List Nat) (e j:Nat) (he:2*e+2≤l.length) (hj:j < l.length - 2):(woN l z e).getD j 0=calN e (outN z e (l.getD (unN e j) 0)):=by
 rw [woN_is l z e he];simp [List.getD_eq_getElem?_getD,List.getElem?_range hj]
section
variable {l b z:List Nat}
theorem out_lt (h:Inv l b) (hz:∀ k,k < l.length→z.getD k 0 < l.length) {e x:Nat} (hx:x < l.length):outN z e x < l.length:=by
 unfold outN
 split
 ·exact hx
 ·split
  ·exact hz _ hx
  ·exact hz _ (hz _ hx)
theorem out_inj (h:Inv l b) (hz:∀ k,k < l.length→z.getD k 0 < l.length) (hzi:∀ i j,i < l.length→j < l.length→z.getD i 0=z.getD j 0→i=j) {e:Nat}
  (hP:∀ d y,d < l.length→y < l.length→d / 2≠e→y / 2=e→l.getD d 0≠z.getD y 0) {d d':Nat} (hd:d < l.length) (hd':d' < l.length) (he:d / 2≠e) (he':d' / 2≠e)
  (q:outN z e (l.getD d 0)=outN z e (l.getD d' 0)):d=d':=by
 have a0:=h.lt d hd
 have b0:=h.lt d' hd'
 have a1:=hz _ a0
 have b1:=hz _ b0
 have li:=fun r=>h.inj d d' hd hd' r
 unfold outN at q
 by_cases c:l.getD d 0 / 2=e <;> by_cases c':l.getD d' 0 / 2=e
 ·rw [if_neg (by omega),if_neg (show ¬ (l.getD d' 0 / 2≠e) by omega)] at q
  by_cases f:z.getD (l.getD d 0) 0 / 2=e <;> by_cases f':z.getD (l.getD d' 0) 0 / 2=e
  ·rw [if_neg (by omega),if_neg (by omega)] at q
   exact li (hzi _ _ a0 b0 (hzi _ _ a1 b1 q))
  ·rw [if_neg (by omega),if_pos f'] at q
   exact absurd (hzi _ _ a1 b0 q).symm (hP d' _ hd' a0 he' c)
  ·rw [if_pos f,if_neg (by omega)] at q
   exact absurd (hzi _ _ a0 b1 q) (hP d _ hd b0 he c')
  ·rw [if_pos f,if_pos f'] at q
   exact li (hzi _ _ a0 b0 q)
 ·rw [if_neg (by omega),if_pos c'] at q
  by_cases f:z.getD (l.getD d 0) 0 / 2=e
  ·rw [if_neg (by omega)] at q
   exact absurd q.symm (hP d' _ hd' a1 he' f)
  ·rw [if_pos f] at q
   exact absurd q.symm (hP d' _ hd' a0 he' c)
 ·rw [if_pos c,if_neg (show ¬ (l.getD d' 0 / 2≠e) by omega)] at q
  by_cases f':z.getD (l.getD d' 0) 0 / 2=e
  ·rw [if_neg (by omega)] at q
   exact absurd q (hP d _ hd b1 he f')
  ·rw [if_pos f'] at q
   exact absurd q (hP d _ hd b0 he c')
 ·rw [if_pos c,if_pos c'] at q
  exact li q
theorem woN_inv (h:Inv l b) {e:Nat} (hE:2*e+2≤l.length) (hz:∀ k,k < l.length→z.getD k 0 < l.length) (hzi:∀ i j,i < l.length→j < l.length→z.getD i 0=z.getD j 0→i=j)
  (hP:∀ d y,d < l.length→y < l.length→d / 2≠e→y / 2=e→l.getD d 0≠z.getD y 0) (ho:∀ d,d < l.length→d / 2≠e→outN z e (l.getD d 0) / 2≠e):∃ b',Inv (woN l z e) b':=by
 apply good_inv
 have hlen:=woN_len l z e hE
 have un_lt:∀ j,j < l.length - 2→unN e j < l.length:=fun j hj=>by unfold unN;split <;> omega
 intro i hi
 rw [ofN_len,hlen] at hi
 have hu:=un_lt i hi
 have hn:=(unN_is e i).1
 have ho1:=ho _ hu hn
 rw [ofN_get,woN_get l z e i hE hi,ofN_len,hlen]
 have hlt:=calN_lt e _ l.length ho1 (out_lt h hz (h.lt _ hu)) hE
 refine ⟨by omega,by omega,fun j hj=>?_⟩
 have hj':j < l.length - 2:=by omega
 have hu':=un_lt j hj'
 have hn':=(unN_is e j).1
 have ho2:=ho _ hu' hn'
 rw [ofN_get,woN_get l z e j hE hj']
 intro q
 have q1:calN e (outN z e (l.getD (unN e j) 0))=calN e (outN z e (l.getD (unN e i) 0)):=by omega
 have q2:=congrArg (unN e) q1
 rw [calN_un e _ ho2,calN_un e _ ho1] at q2
 have q3:=out_inj h hz hzi hP hu' hu hn' hn q2
 have q4:=congrArg (calN e) q3
 rw [(unN_is e j).2,(unN_is e i).2] at q4
 omega
theorem cut_inv (h:Inv l b) {e:Nat} (hE:2*e+2≤l.length):∃ b',Inv (woN l l e) b' :=
 woN_inv h hE (fun k hk=>h.lt k hk) (fun i j hi hj q=>h.inj i j hi hj q) (fun d y hd hy c c' q=>by have:=h.inj _ _ hd hy q;rw [this] at c;exact c c') (fun d hd c=>out_s h hd c (by omega))
theorem shrink_inv (h:Inv l b) (hev:l.length%2=0) {e:Nat} (hE:2*e+2≤l.length):∃ b',Inv (woN l (phiL l) e) b':=by
 have hp:=phi_inv h hev
 have hl:=phiL_len l
 refine woN_inv h hE (fun k hk=>?_) (fun i j hi hj q=>hp.inj i j (by rw [hl];exact hi) (by rw [hl];exact hj) q) (fun d y hd hy c c' q=>?_) (fun d hd c=>out_f h hev hd c (by omega))
 ·have:=hp.lt k (by rw [hl];exact hk);rwa [hl] at this
 ·rw [phiL_get _ _ hy] at q
  have:=h.inj _ _ hd (mateN_lt hev hy) q
  rw [this,mateN_eq] at c
  split at c <;> omega
theorem heir_ok (h:Inv l b) (hev:l.length%2=0) {r e:Nat} (hr:r < l.length) (hE:2*e+2≤l.length):RootOk (heirN l b r e) (l.length - 2):=by
 have hb:=h.symm
 have hl:=h.len
 have x1:b.getD r 0 < l.length:=by have:=hb.lt r (by omega);omega
 have y1:b.getD (b.getD r 0) 0 < l.length:=by have:=hb.lt (b.getD r 0) (by omega);omega
 have big:∀ d,d < l.length→d / 2≠e→RootOk ((calN e d:Nat):Int) (l.length - 2):=fun d hd c=>by
  have:=calN_lt e d l.length c hd hE
  exact .inr ⟨by omega,by omega,by omega⟩
 have last:RootOk (lastN l.length) (l.length - 2):=by
  unfold lastN
  split
  ·exact .inl ⟨by omega,rfl⟩
  ·exact .inr ⟨by omega,by omega,by omega⟩
 unfold heirN
 split
 ·exact big _ hr (by assumption)
 ·split
  ·exact last
  ·split
   ·exact big _ x1 (by assumption)
   ·split
    ·exact last
    ·refine big _ y1 fun c=>?_
     have n1:b.getD (b.getD r 0) 0≠b.getD r 0:=fun q=>by
      have:=hb.inj _ _ (by omega) (by omega) q
      omega
     omega
end
theorem ready_out (g:Nat) (l b:List Nat) (root lone i:Int) (w:World) (h:MapAt w g l b root lone) (hi:i < 0∨((l.length / 2:Nat):Int)≤i) :
  Calls Tryz.prog 93 #[.pointer (some ⟨g,0,none⟩),.int .i64 i] w fun e w'=>e=.returned (.int .i64 1)∧Below w.heap.size w w':=by
 have EP:=Lib.hid (edges_p g l b root lone w h)
 generalize l.length / 2=m at *
 clear h
 by_cases h0:i < 0
 ·go_enter Tryz.func93,Tryz.ntmps93
  go_wp2_with fail
  go_ret
  exact ⟨rfl,Below.refl _ _⟩
 ·have h1:(m:Int)≤i:=by omega
  have h2:decide ((m:Int)≤i)=true:=by rw [decide_eq_true_iff];exact h1
  go_enter Tryz.func93,Tryz.ntmps93
  go_wp2_with fail
  refine EP.out.mono ?_
  rintro e w1 ⟨rfl,b1⟩
  go_wp2_with fail
  go_ret
  exact ⟨rfl,b1⟩
theorem cut_out (g:Nat) (l b:List Nat) (root lone i:Int) (w:World) (h:MapAt w g l b root lone) (hi:i < 0∨((l.length / 2:Nat):Int)≤i) :
  Calls Tryz.prog 57 #[.pointer (some ⟨g,0,none⟩),.int .i64 i] w fun e w'=>e=.returned (.tuple #[.pointer none,.int .i64 1])∧Below w.heap.size w w':=by
 have RP:=Lib.hid (ready_out g l b root lone i w h hi)
 clear h hi
 go_enter Tryz.func57,Tryz.ntmps57
 go_wp2_with fail
 refine RP.out.mono ?_
 rintro e w1 ⟨rfl,b1⟩
 go_wp2_with fail
 go_ret2
 exact ⟨rfl,b1⟩
theorem shrink_out (g:Nat) (l b:List Nat) (root lone i:Int) (w:World) (h:MapAt w g l b root lone) (hi:i < 0∨((l.length / 2:Nat):Int)≤i) :
  Calls Tryz.prog 58 #[.pointer (some ⟨g,0,none⟩),.int .i64 i] w fun e w'=>e=.returned (.tuple #[.pointer none,.int .i64 1])∧Below w.heap.size w w':=by
 have RP:=Lib.hid (ready_out g l b root lone i w h hi)
 clear h hi
 go_enter Tryz.func58,Tryz.ntmps58
 go_wp2_with fail
 refine RP.out.mono ?_
 rintro e w1 ⟨rfl,b1⟩
 go_wp2_with fail
 go_ret2
 exact ⟨rfl,b1⟩
def zerTo (L:List Int) (k:Nat):Nat:=((List.range k).filter fun i=>decide (L.getD i 0=0)).length
theorem zerTo_yes (L:List Int) (k:Nat) (h:L.getD k 0=0):zerTo L (k+1)=zerTo L k+1:=by unfold zerTo;rw [List.range_succ,List.filter_append,List.length_append,List.filter_cons_of_pos (by rw [decide_eq_true_iff];exact h)];rfl
theorem zerTo_no (L:List Int) (k:Nat) (h:¬ L.getD k 0=0):zerTo L (k+1)=zerTo L k:=by unfold zerTo;rw [List.range_succ,List.filter_append,List.length_append,List.filter_cons_of_neg (by rw [decide_eq_true_iff];exact h)];rfl
theorem zerTo_le (L:List Int) (k:Nat):zerTo L k≤k:=by unfold zerTo;exact Nat.le_trans (List.length_filter_le _ _) (by simp)
theorem besN_len (l:List Nat) (lone:Int) (e:Nat):1≤(besN l lone e).length∧(besN l lone e).length≤2:=by unfold besN;split <;> simp
set_option maxHeartbeats 4000000 in
theorem cut_p (g:Nat) (l b:List Nat) (r e:Nat) (lone:Int) (w:World) (h:MapAt w g l b (r:Int) lone) (hi:Inv l b) (hr:r < l.length) (he:e < l.length / 2) (hl0:0≤lone) (hl1:lone≤60000) :
  Calls Tryz.prog 57 #[.pointer (some ⟨g,0,none⟩),.int .i64 (e:Int)] w fun en w'=>∃ b',Inv (woN l l e) b'∧NewMap w (woN l l e) b' (heirN l b r e) (lone+(zerTo (besN l lone e) (besN l lone e).length:Nat)) en w':=by
 have hev:=h.1.1
 have hE:2*e+2≤l.length:=by omega
 obtain ⟨b',hb'⟩:=cut_inv hi hE
 have hL:=besN_len l lone e
 have RP:=Lib.hid (ready_in g l b r lone e w h he)
 have BP:Hid (∀ W,Below w.heap.size w W→Calls Tryz.prog 94 #[.pointer (some ⟨g,0,none⟩),.int .i64 (e:Int)] W fun en w'=>∃ A c,en=.returned (.slice A (besN l lone e).length c)∧Rd w' w'.heap.size A (besN l lone e).length (I64 (besN l lone e))∧Below W.heap.size W w'):=fun W m=>besides_p g l b r lone e W (h.below m) he
 have hz:=zerTo_le (besN l lone e) (besN l lone e).length
 have WP:Hid (∀ W,Below w.heap.size w W→Calls Tryz.prog 95 #[.pointer (some ⟨g,0,none⟩),.int .i64 (e:Int),.func (.func 96) #[.pointer (some ⟨g,0,none⟩)] #[],.int .i64 ((zerTo (besN l lone e) (besN l lone e).length:Nat):Int)] W (NewMap W (woN l l e) b' (heirN l b r e) (lone+(zerTo (besN l lone e) (besN l lone e).length:Nat)))):=fun W m =>
  without_s g l b l b' r e lone _ W (h.below m) hi hr he (fun k hk=>hi.lt k hk) (fun k hk W' m'=>sigma_in g l b r lone k W' ((h.below m).below m') hk) (fun d hd c=>out_s hi hd c he) hb' (by rw [woN_len _ _ _ hE];omega) (by rw [woN_len _ _ _ hE];exact heir_ok hi hev hr hE) (by omega) (by omega)
 have hmf:∀ (fn:Fn) (first cap:Array Value) (w:World),(Instr.makeFunc fn first cap).run Tryz.prog w=.ok (.func fn first cap) w:=fun _ _ _ _=>rfl
 have HB':=Lib.hid hb'
 clear h hi hb' hz
 generalize woN l l e=WN at *
 generalize heirN l b r e=HR at *
 generalize besN l lone e=L at *
 obtain ⟨q,hq⟩:∃ q,q=L.length:=⟨_,rfl⟩
 rw [← hq] at hL BP WP ⊢
 have HQ:=Lib.hid hq
 clear hq
 go_enter Tryz.func57,Tryz.ntmps57
 go_wp2_with fail
 refine RP.out.mono ?_
 rintro en w1 ⟨rfl,b1⟩
 go_wp2_with fail
 refine (BP.out _ b1).mono ?_
 rintro en w2 ⟨A,c,rfl,hrd,b2⟩
 have B2:=Lib.hid (b1.trans (b2.mono b1.size))
 obtain ⟨bb,o,rfl,_,kk⟩:=hrd.i64 (by omega)
 have KK:=Lib.hid kk
 clear b1 b2 hrd RP BP kk
 go_wp2_with fail
 go_loopw [7,20] (fun s i wr=>∃ (k y:Nat),k≤q∧y≤k∧s=.int .i64 (y:Int)∧i=.int .i64 (k:Int)∧Hid (y=zerTo L k)∧wr=w2) (fun _ i _=>q - (intOf i).toNat)
 case atStart=>exact ⟨0,0,by omega,by omega,rfl,rfl,rfl,rfl⟩
 case round =>
  obtain ⟨k,y,hk,hyk,rfl,rfl,HY,rfl⟩:=hrel
  by_cases hlt:k < q
  ·have hdk:decide (k < q)=true:=by rw [decide_eq_true_iff];exact hlt
   have x0:=KK.out k hlt
   by_cases hv:L.getD k 0=0
   ·have NX:=Lib.hid (zerTo_yes L k hv)
    rw [hv] at x0
    clear hv
    go_wp2_with fail
    go_roundw
    case rel=>exact ⟨k+1,y+1,by omega,by omega,by go_num,by go_num,by rw [NX.out,← HY.out];rfl,trivial⟩
    case measure=>simp [intOf];omega
   ·have NX:=Lib.hid (zerTo_no L k hv)
    generalize L.getD k 0=v at *
    have hvb:(v == 0)=false:=by rw [beq_eq_false_iff_ne];exact hv
    go_wp2_with fail
    go_roundw
    case rel=>exact ⟨k+1,y,by omega,by omega,rfl,by go_num,by rw [NX.out];exact HY.out,trivial⟩
    case measure=>simp [intOf];omega
  ·obtain rfl:k=q:=by omega
   have hdk:decide (k < k)=false:=by simp
   have hy:=HY.out
   rw [← hy] at WP
   clear hy KK
   go_wp2_with fail
   refine (WP.out _ B2.out).mono ?_
   rintro en w3 ⟨g3,rfl,hm,b3,hlo⟩
   have HM:=Lib.hid hm
   have hs:=B2.out.size
   have HLO:=Lib.hid (show MapLo w.heap.size w3 g3 from by
    obtain ⟨p,A,n,c,S,k,d,q,A',n',c',S',k',d',rt,ln,hb,h1,h2,h3,h4,h5,h6,h7⟩:=hlo
    exact ⟨p,A,n,c,S,k,d,q,A',n',c',S',k',d',rt,ln,hb,Nat.le_trans hs h1,h2.le hs,h3.le hs,h4.le hs,h5.le hs,h6.le hs,h7.le hs⟩)
   have BB:=Lib.hid (B2.out.trans (b3.mono hs))
   clear hm hlo b3
   go_wp2_with fail
   go_ret2
   exact ⟨b',HB'.out,g3,rfl,by rw [← HY.out];exact HM.out,BB.out,HLO.out⟩
set_option maxHeartbeats 4000000 in
theorem shrink_loop (g:Nat) (l b:List Nat) (root lone:Int) (e:Nat) (w:World) (h:MapAt w g l b root lone) (he:e < l.length / 2) (hn:nameOf l (2*e)=nameOf l (2*e+1)) :
  Calls Tryz.prog 58 #[.pointer (some ⟨g,0,none⟩),.int .i64 (e:Int)] w fun en w'=>en=.returned (.tuple #[.pointer none,.int .i64 8])∧Below w.heap.size w w':=by
 have hL:(besN l lone e).length=1:=by unfold besN;rw [if_pos hn];rfl
 have RP:=Lib.hid (ready_in g l b root lone e w h he)
 have BP:Hid (∀ W,Below w.heap.size w W→Calls Tryz.prog 94 #[.pointer (some ⟨g,0,none⟩),.int .i64 (e:Int)] W fun en w'=>∃ A c,en=.returned (.slice A (besN l lone e).length c)∧Rd w' w'.heap.size A (besN l lone e).length (I64 (besN l lone e))∧Below W.heap.size W w'):=fun W m=>besides_p g l b root lone e W (h.below m) he
 generalize besN l lone e=L at *
 rw [hL] at BP
 clear h hn hL
 go_enter Tryz.func58,Tryz.ntmps58
 go_wp2_with fail
 refine RP.out.mono ?_
 rintro en w1 ⟨rfl,b1⟩
 go_wp2_with fail
 refine (BP.out _ b1).mono ?_
 rintro en w2 ⟨A,c,rfl,_,b2⟩
 have B2:=Lib.hid (b1.trans (b2.mono b1.size))
 clear b1 b2
 go_wp2_with fail
 go_ret2
 exact ⟨rfl,B2.out⟩
set_option maxHeartbeats 4000000 in
theorem shrink_p (g:Nat) (l b:List Nat) (r e:Nat) (lone:Int) (w:World) (h:MapAt w g l b (r:Int) lone) (hi:Inv l b) (hr:r < l.length) (he:e < l.length / 2) (hl0:0≤lone) (hl1:lone≤60000) (hn:nameOf l (2*e)≠nameOf l (2*e+1)) :
  Calls Tryz.prog 58 #[.pointer (some ⟨g,0,none⟩),.int .i64 (e:Int)] w fun en w'=>∃ b',Inv (woN l (phiL l) e) b'∧NewMap w (woN l (phiL l) e) b' (heirN l b r e) (lone+if degOf l lone (nameOf l (2*e):Nat)+degOf l lone (nameOf l (2*e+1):Nat)=2 then 1 else 0) en w':=by
 have hev:=h.1.1
 have hln:=h.2.1
 have hE:2*e+2≤l.length:=by omega
 obtain ⟨b',hb'⟩:=shrink_inv hi hev hE
 have hp:=phi_inv hi hev
 have RP:=Lib.hid (ready_in g l b r lone e w h he)
 obtain ⟨d0,hd0⟩:∃ d0,d0=degOf l lone (nameOf l (2*e):Nat):=⟨_,rfl⟩
 obtain ⟨d1,hd1⟩:∃ d1,d1=degOf l lone (nameOf l (2*e+1):Nat):=⟨_,rfl⟩
 have hL:besN l lone e=[d0 - 1,d1 - 1]:=by unfold besN;rw [if_neg hn,hd0,hd1]
 have l0:=deg_le l lone (nameOf l (2*e):Nat)
 have l1:=deg_le l lone (nameOf l (2*e+1):Nat)
 rw [← hd0] at l0
 rw [← hd1] at l1
 rw [← hd0,← hd1]
 obtain ⟨X,hX⟩:∃ X:Int,X=if d0+d1=2 then 1 else 0:=⟨_,rfl⟩
 rw [← hX]
 have HXX:=Lib.hid hX
 have BP:Hid (∀ W,Below w.heap.size w W→Calls Tryz.prog 94 #[.pointer (some ⟨g,0,none⟩),.int .i64 (e:Int)] W fun en w'=>∃ A c,en=.returned (.slice A 2 c)∧Rd w' w'.heap.size A 2 (I64 [d0 - 1,d1 - 1])∧Below W.heap.size W w'):=fun W m=>by
  have:=besides_p g l b r lone e W (h.below m) he
  rw [hL] at this;exact this
 have WP:Hid (∀ (x:Int) W,Below w.heap.size w W→0≤x→x≤1→Calls Tryz.prog 95 #[.pointer (some ⟨g,0,none⟩),.int .i64 (e:Int),.func (.func 90) #[.pointer (some ⟨g,0,none⟩)] #[],.int .i64 x] W (NewMap W (woN l (phiL l) e) b' (heirN l b r e) (lone+x))):=fun x W m h0 h1 =>
  without_f g l b (phiL l) b' r e lone x W (h.below m) hi hr he (fun k hk=>by have:=hp.lt k (by rw [phiL_len];exact hk);rwa [phiL_len] at this) (fun k hk W' m'=>phi_in g l b r lone k W' ((h.below m).below m') hk) (fun d hd c=>out_f hi hev hd c he) hb' (by rw [woN_len _ _ _ hE];omega) (by rw [woN_len _ _ _ hE];exact heir_ok hi hev hr hE) (by omega) (by omega)
 have hmf:∀ (fn:Fn) (first cap:Array Value) (w:World),(Instr.makeFunc fn first cap).run Tryz.prog w=.ok (.func fn first cap) w:=fun _ _ _ _=>rfl
 have HB':=Lib.hid hb'
 obtain ⟨s,hs⟩:∃ s:Int,s=d0 - 1+(d1 - 1):=⟨_,rfl⟩
 have ws:IntKind.i64.wrap (d0 - 1+(d1 - 1))=s:=by rw [← hs];simp [IntKind.wrap,IntKind.signed,IntKind.bits];omega
 obtain ⟨u0,hu0⟩:∃ u0,u0=d0 - 1:=⟨_,rfl⟩
 obtain ⟨u1,hu1⟩:∃ u1,u1=d1 - 1:=⟨_,rfl⟩
 have HC:Hid ((d0+d1=2)↔s=0):=⟨fun _=>by omega,fun _=>by omega⟩
 rw [← hu0,← hu1] at BP ws
 have ws2:u0+u1=s:=by omega
 have wss:IntKind.i64.wrap s=s:=by simp [IntKind.wrap,IntKind.signed,IntKind.bits];omega
 clear h hi hb' hp hd0 hd1 hL l0 l1 hs hu0 hu1 hn hX
 generalize woN l (phiL l) e=WN at *
 generalize heirN l b r e=HR at *
 go_enter Tryz.func58,Tryz.ntmps58
 go_wp2_with fail
 refine RP.out.mono ?_
 rintro en w1 ⟨rfl,b1⟩
 go_wp2_with fail
 refine (BP.out _ b1).mono ?_
 rintro en w2 ⟨A,c,rfl,hrd,b2⟩
 have B2:=Lib.hid (b1.trans (b2.mono b1.size))
 obtain ⟨bb,o,rfl,_,kk⟩:=hrd.i64 (by omega)
 have x0:w2.cell? ⟨bb,o,none⟩=some (.int .i64 u0):=kk 0 (by omega)
 have x1:w2.cell? ⟨bb,o+1,none⟩=some (.int .i64 u1):=kk 1 (by omega)
 clear b1 b2 hrd RP BP kk
 have fin:Hid (∀ x:Int,x=X→∀ en w',NewMap w2.drew WN b' HR (lone+x) en w'→NewMap w WN b' HR (lone+X) en w'):=fun x hx en w' ⟨g3,h1,hm,b3,hlo⟩=>by
  have hs:=B2.out.drew.size
  refine ⟨g3,h1,by rw [← hx];exact hm,B2.out.drew.trans (b3.mono hs),?_⟩
  obtain ⟨p,A,n,c,S,k,d,q,A',n',c',S',k',d',rt,ln,hb,h1,h2,h3,h4,h5,h6,h7⟩:=hlo
  exact ⟨p,A,n,c,S,k,d,q,A',n',c',S',k',d',rt,ln,hb,Nat.le_trans hs h1,h2.le hs,h3.le hs,h4.le hs,h5.le hs,h6.le hs,h7.le hs⟩
 by_cases hs0:s=0
 ·have FX:=Lib.hid (fin.out 1 (by rw [HXX.out,if_pos (HC.out.2 hs0)]))
  subst hs0
  go_wp2_with fail
  go_region
  all_goals (
   go_wp2_with fail
   refine (WP.out _ _ B2.out.drew (by omega) (by omega)).mono ?_
   rintro en w3 hnm
   obtain ⟨g3,rfl,hm,b3,hlo⟩:=hnm
   have HN3:=Lib.hid (FX.out _ w3 ⟨g3,rfl,hm,b3,hlo⟩)
   clear hm b3 hlo
   go_wp2_with fail
   go_ret2
   exact ⟨b',HB'.out,HN3.out⟩)
 ·have FX:=Lib.hid (fin.out 0 (by rw [HXX.out,if_neg (fun c=>hs0 (HC.out.1 c))]))
  have hsb:(s == 0)=false:=by rw [beq_eq_false_iff_ne];exact hs0
  go_wp2_with fail
  go_region
  all_goals (
   go_wp2_with fail
   refine (WP.out _ _ B2.out.drew (by omega) (by omega)).mono ?_
   rintro en w3 hnm
   obtain ⟨g3,rfl,hm,b3,hlo⟩:=hnm
   have HN3:=Lib.hid (FX.out _ w3 ⟨g3,rfl,hm,b3,hlo⟩)
   clear hm b3 hlo
   go_wp2_with fail
   go_ret2
   exact ⟨b',HB'.out,HN3.out⟩)
end Go.Proofs.YtdinmjciippchaaGreat
