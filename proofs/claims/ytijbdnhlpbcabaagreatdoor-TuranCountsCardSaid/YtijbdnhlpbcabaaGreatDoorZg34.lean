/- What maps that are answer: Rooted, Same. -/
import Derived.Test.YtijbdnhlpbcabaaGreatDoorZg3
import Derived.Test.YtijbdnhlpbcabaaGreatDoorZg33
import Derived.Test.YtijbdnhlpbcabaaGreatDoorZg31
import Derived.Test.YtijbdnhlpbcabaaGreatDoorZg27
import Derived.Test.YtijbdnhlpbcabaaGreatDoorZg2
import Derived.Test.YtijbdnhlpbcabaaGreatDoorZg15
open Go.RowKit
set_option linter.unusedVariables false
set_option linter.unusedSimpArgs false
namespace Go.Proofs.YtijbdnhlpbcabaaGreatDoor
set_option maxRecDepth 20000
set_option maxHeartbeats 1000000 in
theorem dsame_p (g g':Nat) (l b l' b':List Nat) (root lone root' lone':Int) (w:World) (h:MapAt w g l b root lone) (k:MapAt w g' l' b' root' lone') :
  Calls Tryz.prog 24 #[.pointer (some ⟨g,0,none⟩),.pointer (some ⟨g',0,none⟩)] w fun e w'=>e=.returned (.bool (decide (root=root'∧lone=lone'∧l=l')))∧Below w.heap.size w w':=by
 obtain ⟨_,_,p,A,c,S,d,q,A',c',S',d',hb,hp,_⟩:=h
 obtain ⟨_,_,p2,A2,c2,S2,d2,q2,A2',c2',S2',d2',hb2,hp2,_⟩:=k
 have SM:Hid (∀ j,Calls Tryz.prog 68 #[.pointer (some ⟨p,0,none⟩),.pointer (some ⟨p2,0,none⟩)] (w.drewN j) fun e w'=>e=.returned (.bool (decide (l=l')))∧∃ m,w'=(w.drewN j).drewN m):=fun j =>
  same_pp p p2 l b l' b' _ (hp.drewN j) (hp2.drewN j)
 have n0:=hb.cell 0
 have n6:=hb.cell 6
 have n7:=hb.cell 7
 have m0:=hb2.cell 0
 have m6:=hb2.cell 6
 have m7:=hb2.cell 7
 simp at n0 n6 n7 m0 m6 m7
 clear hb hb2 hp hp2
 have DN:Hid (∀ j,Below w.heap.size w (w.drewN j)):=fun j=>below_draws (Below.refl _ _) j
 by_cases hr:root=root'
 ·subst hr
  by_cases hl:lone=lone'
  ·subst hl
   have HD:Hid (decide (root=root∧lone=lone∧l=l')=decide (l=l')):=by show _=_;simp
   rw [HD.out]
   clear HD
   generalize decide (l=l')=res at *
   go_enter Tryz.func24,Tryz.ntmps24
   go_wp2_with fail
   go_quiet ((go_at_call 68;exact Calls.quiet_of (SM.out _)))
   go_wp2
   go_ret
   exact ⟨rfl,DN.out _⟩
  ·have HD:Hid (decide (root=root∧lone=lone'∧l=l')=false):=by show _=_;simp [hl]
   rw [HD.out]
   have h1:(lone == lone')=false:=by rw [beq_eq_false_iff_ne];exact hl
   clear HD hl SM
   go_enter Tryz.func24,Tryz.ntmps24
   go_wp2_with fail
   go_quiet (fail)
   go_wp2
   go_ret
   exact ⟨rfl,DN.out _⟩
 ·have HD:Hid (decide (root=root'∧lone=lone'∧l=l')=false):=by show _=_;simp [hr]
  rw [HD.out]
  have h1:(root == root')=false:=by rw [beq_eq_false_iff_ne];exact hr
  clear HD hr SM
  go_enter Tryz.func24,Tryz.ntmps24
  go_wp2_with fail
  go_quiet (fail)
  go_wp2
  go_ret
  exact ⟨rfl,DN.out _⟩
set_option maxRecDepth 100000
def CanO (l:List Nat) (root:Int) (P Q:List Nat):Prop:=(l.length=0∧root=-1∧P=[]∧Q=[])∨∃ r:Nat,root=(r:Int)∧r < l.length∧CanA l r P Q
theorem canO_is {l b:List Nat} {root:Int} (hi:Inv l b) (he:l.length%2=0) (hr:RootOk root l.length):∃ P Q,CanO l root P Q:=by
 rcases hr with ⟨h0,h1⟩ | ⟨h0,h1,h2⟩
 ·exact ⟨[],[],.inl ⟨h0,h1,rfl,rfl⟩⟩
 ·have hrl:root.toNat < l.length:=by omega
  obtain ⟨P,Q,h⟩:=canA_is hi he hrl
  exact ⟨P,Q,.inr ⟨root.toNat,by omega,hrl,h⟩⟩
def CanonAny (w:World) (l b P Q:List Nat) (root lone:Int) (e:Ending) (w':World):Prop :=
 ∃ g' gp,e=.returned (.tuple #[.pointer (some ⟨g',0,none⟩),.pointer (some ⟨gp,0,none⟩),.int .i64 0])∧MapAt w' g' (cjL P Q l) (cjL P Q b) (reRoot P root) lone∧PermAt w' gp P Q∧Below w.heap.size w w'
theorem canon_any (g:Nat) (l b:List Nat) (root lone:Int) (P Q:List Nat) (w:World) (h:MapAt w g l b root lone) (hi:Inv l b) (hC:CanO l root P Q) :
  Calls Tryz.prog 17 #[.pointer (some ⟨g,0,none⟩)] w (CanonAny w l b P Q root lone):=by
 rcases hC with ⟨h0,rfl,rfl,rfl⟩ | ⟨r,rfl,hr,hC⟩
 ·have hl:l=[]:=List.eq_nil_of_length_eq_zero h0
  subst hl
  have hb:b=[]:=List.eq_nil_of_length_eq_zero hi.len
  subst hb
  refine (canon_e g [] [] lone w h hi h0).mono ?_
  rintro e w' ⟨g',gp,h1,h2,h3,h4⟩
  exact ⟨g',gp,h1,h2,h3,h4⟩
 ·refine (canon_p g l b r lone P Q w h hi hr hC).mono ?_
  rintro e w' ⟨g',gp,h1,h2,h3,h4⟩
  rw [← reRoot_nat] at h2
  exact ⟨g',gp,h1,h2,h3,h4⟩
theorem cis_p (g:Nat) (l b:List Nat) (root lone:Int) (P Q:List Nat) (w:World) (h:MapAt w g l b root lone) (hi:Inv l b) (hC:CanO l root P Q) :
  Calls Tryz.prog 37 #[.pointer (some ⟨g,0,none⟩)] w fun e w'=>e=.returned (.bool (decide (root=reRoot P root∧l=cjL P Q l)))∧Below w.heap.size w w':=by
 have CP:=Lib.hid (canon_any g l b root lone P Q w h hi hC)
 have HM:Hid (∀ W,Below w.heap.size w W→MapAt W g l b root lone):=fun W m=>h.below m
 clear h hi hC
 go_enter Tryz.func37,Tryz.ntmps37
 go_wp2_with fail
 refine CP.out.mono ?_
 rintro e w1 ⟨g',gp,rfl,m1,_,b1⟩
 have SP:=Lib.hid (dsame_p g g' _ _ _ _ _ _ _ _ w1 (HM.out w1 b1) m1)
 have B1:=Lib.hid b1
 clear m1 b1 CP HM
 go_wp2_with fail
 refine SP.out.mono ?_
 rintro e w2 ⟨rfl,b2⟩
 have B2:=Lib.hid (B1.out.trans (b2.mono B1.out.size))
 clear b2 B1 SP
 go_wp2_with fail
 go_ret
 refine ⟨?_,B2.out⟩
 simp
theorem can_turnG {ks:List Nat} {tw f:Nat→Nat} {l b P Q:List Nat} {r:Nat} (h:Wrd ks tw f l) (hi:Inv l b) (hl:l.length=ks.length) (hw:wlk l r=(List.range l.length).map f) (hC:CanN l r P Q):TurnW ks tw (cjL P Q l):=by
 have nm:=hC.nam
 have lk:=look_nm h.P (n:=l.length) hl.symm (fun i hi=>h.lt i (by omega)) (fun i j hi hj e=>h.inj i j (by omega) (by omega) e) (fun i hi=>h.mt i (by omega)) l.length (Nat.le_refl _)
 have hP:∀ i,i < ks.length→sgL P (f i)=nmF ks tw i:=fun i hi1=>by
  have:=lk.2.2 i (by omega)
  rw [← hw,hC.is,if_pos (.inl (by omega)),ofN_get] at this
  exact Int.ofNat_inj.1 this
 refine ⟨by rw [cjL_len,hl],fun i hi1=>?_⟩
 have hfi:=h.lt i hi1
 have hQ:sgL Q (nmF ks tw i)=f i:=by
  rw [← hP i hi1]
  exact nm.inv.lb (f i) (by rw [nm.len];exact hfi)
 rw [cjL_get _ _ _ (by rw [hl];exact nm_lt h.P hi1),hQ,h.sg i hi1,hP _ (nx_lt h.n0 i)]
theorem can_own {ks:List Nat} {tw:Nat→Nat} {l b P Q:List Nat} (h:TurnW ks tw l) (W:Wd ks tw) (R:RightW ks tw) (hi:Inv l b) (n0:0 < ks.length) (hC:CanN l 0 P Q):cjL P Q l=l:=by
 have he:l.length%2=0:=by have:=opN_half W.P;have:=h.1;omega
 have WR:=h.wrd W n0
 have z:=nm_zero W.P n0
 have hV:=nm_ltW hi (V:=(sizes l).length) (Nat.le_refl _)
 have wk:=(WR.walk hi (m:=l.length / 2) (by omega) hV R ks.length (Nat.le_refl _)).1
 have hN:=WR.wN hi (m:=l.length / 2) (by omega) hV h.1 fun i hi=>(wk i hi).1
 rw [z] at wk hN
 refine (can_turnG WR hi h.1 ?_ hC).uniq h W W
 unfold wlk
 rw [orb_sizes,hN,h.1]
 exact List.map_congr_left fun i hi=>by
  rw [← h.1];exact (wk i (List.mem_range.1 hi)).1
theorem word_own {ks:List Nat} {tw:Nat→Nat} {l b:List Nat} (h:TurnW ks tw l) (W:Wd ks tw) (R:RightW ks tw) (hi:Inv l b):wordL l (rootW ks.length)=ks:=by
 by_cases n0:ks.length=0
 ·have e:wordL l (rootW ks.length)=[]:=List.eq_nil_of_length_eq_zero (by rw [wordL_len,h.1,n0])
  rw [e];exact (List.eq_nil_of_length_eq_zero n0).symm
 ·have he:l.length%2=0:=by have:=opN_half W.P;have:=h.1;omega
  have:=(h.wrd W (by omega)).word hi (m:=l.length / 2) (by omega) (nm_ltW hi (V:=(sizes l).length) (Nat.le_refl _)) h.1 R
  rw [nm_zero W.P (by omega)] at this
  unfold wordL rootW
  rw [if_neg n0]
  exact this
section
variable {a b:List Nat} {ta tb:Nat→Nat} {s:Nat}
end
end Go.Proofs.YtijbdnhlpbcabaaGreatDoor
namespace Go.Proofs.YtijbdnhlpbcabaaGreatDoor
set_option maxRecDepth 20000
end Go.Proofs.YtijbdnhlpbcabaaGreatDoor
namespace Go.Proofs.YtijbdnhlpbcabaaGreatDoor
set_option maxRecDepth 20000
section
variable {l b:List Nat}
end
end Go.Proofs.YtijbdnhlpbcabaaGreatDoor
namespace Go.Proofs.YtijbdnhlpbcabaaGreatDoor
set_option maxRecDepth 20000
section
variable {l b z:List Nat}
end
end Go.Proofs.YtijbdnhlpbcabaaGreatDoor
namespace Go.Proofs.YtijbdnhlpbcabaaGreatDoor
set_option maxRecDepth 20000
end Go.Proofs.YtijbdnhlpbcabaaGreatDoor
namespace Go.Proofs.YtijbdnhlpbcabaaGreatDoor
set_option maxRecDepth 20000
section
variable {l b:List Nat}
end
end Go.Proofs.YtijbdnhlpbcabaaGreatDoor
