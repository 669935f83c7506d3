/- The word of a planar map of one part is right; a word's map is planar, of one part. -/
import Derived.Test.YtijbdnhlpbcabaaGreatDoorZg25
import Derived.Test.YtijbdnhlpbcabaaGreatDoorZg28
import Derived.Test.YtijbdnhlpbcabaaGreatDoorZg30
import Derived.Test.YtijbdnhlpbcabaaGreatDoorZg26
import Derived.BigQuiet
import Derived.BigRegion
import Derived.Test.YtijbdnhlpbcabaaGreatDoorZg23
import Derived.Test.YtijbdnhlpbcabaaGreatDoorZg24
import Derived.Lib.Overlaps
import Derived.Laws.CopyRow
import Derived.Laws.AppendOwn
import Derived.Lib.SliceRun
import Derived.Deep.RegionWith
import Derived.Deep.RegionLaw
import Derived.Laws.Externs
open Go.RowKit
set_option linter.unusedVariables false
set_option linter.unusedSimpArgs false
namespace Go.Proofs.YtijbdnhlpbcabaaGreatDoor
set_option maxRecDepth 20000
theorem nm_zero {ks:List Nat} {tw:Nat→Nat} (P:Prg ks tw) (n0:0 < ks.length):nmF ks tw 0=0:=by
 have a:=P.opn 0 n0
 have ne:=P.ne 0 n0
 unfold nmF
 rw [if_pos (a.2 (by omega))];rfl
theorem TurnW.plane {ks:List Nat} {tw:Nat→Nat} {l b:List Nat} (h:TurnW ks tw l) (W:Wd ks tw) (hi:Inv l b) (n0:0 < ks.length) :
  (∀ d,d < l.length→part l 0 d)∧pN l=1∧genusN l=0∧metB l=num (ClS 0 ks tw) ks.length+1∧metB (phiL l)=num (ClS 1 ks tw) ks.length+1 :=
 (h.wrd W n0).plane hi h.1 (nm_zero W.P n0) fun d hd=>nm_sur W.P (by rw [← h.1];exact hd)
theorem TurnW.err {ks:List Nat} {tw:Nat→Nat} {l b:List Nat} (h:TurnW ks tw l) (W:Wd ks tw) (hi:Inv l b) {lone:Nat} (hl:lone=if ks.length=0 then 1 else 0):ErrM l lone 0:=by
 refine .inr (.inr ?_)
 by_cases c:ks.length=0
 ·have e:l=[]:=List.eq_nil_of_length_eq_zero (by rw [h.1];exact c)
  rw [e,pN_nilT,genus_nilT,hl,if_pos c]
  exact ⟨rfl,rfl,rfl⟩
 ·obtain ⟨_,a,b,_⟩:=h.plane W hi (by omega)
  rw [a,b,hl,if_neg c]
  exact ⟨rfl,rfl,rfl⟩
theorem ErrW.ok {ks:List Nat} {tw:Nat→Nat} (W:Wd ks tw) (R:RightW ks tw) {E:Int} (h:ErrW ks E):E=0:=by
 rcases h with ⟨h,_⟩ | ⟨_,hb⟩ | ⟨_,tw',W',hr⟩
 ·exact h
 ·exact absurd ⟨W.bal 0,W.bal 1⟩ hb
 ·exact absurd (R.uniq W W') hr
theorem ErrW.uniq {ks:List Nat} {E E':Int} (h:ErrW ks E) (k:ErrW ks E'):E=E':=by
 rcases h with ⟨rfl,tw,W,R⟩ | ⟨rfl,hb⟩ | ⟨rfl,tw,W,R⟩
 ·exact (k.ok W R).symm
 ·rcases k with ⟨_,tw,W,_⟩ | ⟨rfl,_⟩ | ⟨_,tw,W,_⟩
  ·exact absurd ⟨W.bal 0,W.bal 1⟩ hb
  ·rfl
  ·exact absurd ⟨W.bal 0,W.bal 1⟩ hb
 ·rcases k with ⟨_,tw',W',R'⟩ | ⟨_,hb⟩ | ⟨rfl,_⟩
  ·exact absurd (R'.uniq W' W) R
  ·exact absurd ⟨W.bal 0,W.bal 1⟩ hb
  ·rfl
def MetW (ks:List Nat) (tw:Nat→Nat) (i:Nat):Prop:=ks.getD i 0=3→¬ ((tw i:Nat):Int) < ownI (ownP 0 ks tw i)
theorem right_met {ks:List Nat} {tw:Nat→Nat} (W:Wd ks tw):RightW ks tw↔∀ i,i < ks.length→MetW ks tw i:=by
 constructor
 ·intro h i hi hk
  have ht:=W.P.lt i hi
  have k2:ks.getD (tw i) 0=2:=(k_ev W.P ht).2.2.1.2 (by
   have:=(k_ev W.P hi).2.2.2.1 hk
   rw [W.P.sort i hi,W.P.tt i hi];exact this)
  cases e:ownP 0 ks tw i with
  | none=>show ¬ _ < (-1:Int);omega
  | some o =>
    have:=h (tw i) ht k2 o (by rw [W.P.tt i hi];exact e)
    show ¬ _ < (o:Int);omega
 ·intro h i hi hk o ho
  have ht:=W.P.lt i hi
  have k3:ks.getD (tw i) 0=3:=(k_ev W.P ht).2.2.2.2 (by
   have:=(k_ev W.P hi).2.2.1.1 hk
   rw [W.P.sort i hi,W.P.tt i hi];exact this)
  have:=h (tw i) ht k3
  rw [ho,W.P.tt i hi] at this
  have this:¬ ((i:Nat):Int) < (o:Int):=this
  have hm:=ownP_mem ho
  have:o≠i:=fun e=>by
   have:=(k_ev W.P hi).2.2.1.1 hk
   rw [e] at hm;omega
  omega
set_option maxHeartbeats 4000000 in
theorem rcheck_p (A:Option Addr) (n c:Nat) (ks:List Nat) (w:World) (hr:Rd w w.heap.size A n (I64 (ofN ks))) (hk:Kds ks) (hn:n≤20000) :
  Calls Tryz.prog 27 #[.slice A n c] w fun e w'=>∃ E,ErrW ks E∧e=.returned (.int .i64 E)∧Below w.heap.size w w':=by
 have hl:ks.length=n:=by have:=hr.len;rw [I64_len,ofN_len] at this;exact this
 have GD:=Lib.hid (good4_p A n c ks w hr hk (by omega))
 have HL:=Lib.hid hl
 have HR:=Lib.hid hr
 have HK:=Lib.hid hk
 clear hr hk hl
 go_enter Tryz.func27,Tryz.ntmps27
 go_wp2_with fail
 refine GD.out.mono ?_
 rintro e w1 ⟨b1,r,rfl,hr⟩
 have B1:=Lib.hid b1
 cases r with
 | false =>
   have HE:Hid (ErrW ks 9):=.inr (.inl ⟨rfl,fun h=>by have:=hr.2 h;cases this⟩)
   clear hr b1 GD
   go_wp2_with fail
   go_ret
   exact ⟨9,HE.out,rfl,B1.out⟩
 | true =>
   have hB:=hr.1 rfl
   obtain ⟨tw,hW⟩:=bal_wd HK.out hB.1 hB.2
   have HW:=Lib.hid hW
   have hR1:=HR.out.more b1
   have MT:=Lib.hid (mates4_p A n c ks w1 hR1 HK.out (by omega) hB.1 hB.2)
   have HR1:=Lib.hid hR1
   clear hr b1 GD hB hW hR1
   go_wp2_with fail
   refine MT.out.mono ?_
   rintro e w2 ⟨Y,cy,y,rfl,hY,hM,b2⟩
   have B2:=Lib.hid (B1.out.trans (b2.mono B1.out.size))
   have hR2:=HR1.out.more b2
   have OW:=Lib.hid (owners_p A n c ks w2 hR2 HK.out (by omega) (HW.out.bal 0))
   have HR2:=Lib.hid hR2
   have HY:=Lib.hid hY
   have HM:Hid (∀ i,i < n→y.getD i 0=((tw i:Nat):Int)):=fun i hi=>by
    obtain ⟨q,e,m⟩:=hM i hi
    rw [e,HW.out.mate (by rw [HL.out];exact hi) m]
   clear hY hM b2 hR2 MT HR1
   go_wp2_with fail
   refine OW.out.mono ?_
   rintro e w3 ⟨Z,cz,z,rfl,hZ,hO,b3⟩
   have B3:=Lib.hid (B2.out.trans (b3.mono B2.out.size))
   have HR3:=Lib.hid (HR2.out.more b3)
   have HY3:=Lib.hid (own_below HY.out b3)
   have HZ:=Lib.hid hZ
   have HO:Hid (∀ i,i < n→z.getD i 0=ownI (ownP 0 ks tw i)):=fun i hi=>HW.out.own (by rw [HL.out];exact hi) (hO i hi)
   clear hZ hO b3 OW HR2 HY
   go_wp2_with fail
   go_loopw [5,6,16] (fun i5 k6 idx wr=>∃ (i:Nat) (j:Nat),i≤n∧idx=.int .i64 (i:Int)∧wr=w3.drewN j∧Hid (∀ j,j < i→MetW ks tw j)) (fun _ _ i _=>n - (intOf i).toNat)
   case atStart=>exact ⟨0,0,by omega,rfl,rfl,fun j hj=>absurd hj (by omega)⟩
   case round =>
    obtain ⟨i,j,hi,rfl,rfl,HB⟩:=hrel
    by_cases hlt:i < n
    ·have hdk:decide (i < n)=true:=decide_eq_true hlt
     have hlti:(i:Int) < (n:Int):=by omega
     have hik:i < ks.length:=by rw [HL.out];exact hlt
     obtain ⟨ba,oa,rfl,hba,hca⟩:=HR3.out.at_ (by omega)
     obtain ⟨gy,rfl,_,_⟩:=own_some HY3.out (by omega)
     obtain ⟨gz,rfl,_,_⟩:=own_some HZ.out (by omega)
     obtain ⟨kk,hkk⟩:∃ kk,kk=ks.getD i 0:=⟨_,rfl⟩
     obtain ⟨t,ht⟩:∃ t:Int,t=((tw i:Nat):Int):=⟨_,rfl⟩
     obtain ⟨o,ho⟩:∃ o:Int,o=ownI (ownP 0 ks tw i):=⟨_,rfl⟩
     obtain ⟨wz,hwz⟩:∃ wz,wz=w3.drewN j:=⟨_,rfl⟩
     have cK:wz.cell? ⟨ba,oa+i,none⟩=some (.int .i64 (kk:Int)):=by
      rw [hwz]
      have c0:=hca i (by rw [I64_len,ofN_len,HL.out];exact hlt)
      have c1:(w3.drewN j).cell? ⟨ba,oa+i,none⟩=w3.cell? ⟨ba,oa+i,none⟩:=rfl
      rw [c1,c0,hkk];simp [I64,ofN,List.getD_eq_getElem?_getD,List.getElem?_eq_getElem hik]
     have cY:wz.drew.cell? ⟨gy,i,none⟩=some (.int .i64 t):=by
      rw [hwz]
      have c1:(w3.drewN j).drew.cell? ⟨gy,i,none⟩=w3.cell? ⟨gy,i,none⟩:=rfl
      rw [c1,own_cellI HY3.out i hlt,HM.out i hlt,ht]
     have cZ:wz.drew.cell? ⟨gz,i,none⟩=some (.int .i64 o):=by
      rw [hwz]
      have c1:(w3.drewN j).drew.cell? ⟨gz,i,none⟩=w3.cell? ⟨gz,i,none⟩:=rfl
      rw [c1,own_cellI HZ.out i hlt,HO.out i hlt,ho]
     have wi:IntKind.i64.wrap ((i:Int)+1)=(i:Int)+1:=by simp [IntKind.wrap,IntKind.signed,IntKind.bits];omega
     have HWZ:Hid (wz.drew=w3.drewN (j+1)):=by show _=_;rw [hwz];rfl
     have HWQ:Hid (∀ q,∃ j',wz.drewN q=w3.drewN j'):=fun q=>⟨_,by rw [hwz,World.drewN_drewN]⟩
     have HV:=Lib.hid (And.intro hkk (And.intro ht ho))
     have hk4:kk < 4:=by rw [hkk];exact HK.out.getD i
     rw [← hwz]
     clear hca hkk ht ho hwz
     by_cases k3:kk=3
     ·subst k3
      by_cases hto:t < o
      ·have hd:decide (t < o)=true:=decide_eq_true hto
       have HE:Hid (ErrW ks 10):=.inr (.inr ⟨rfl,tw,HW.out,fun hr=>(right_met HW.out).1 hr i hik HV.out.1.symm (by rw [← HV.out.2.1,← HV.out.2.2];exact hto)⟩)
       clear hik
       go_upto_region 7 with fail
       go_region
       all_goals (go_wp2_with fail)
       all_goals (go_ret)
       all_goals (rw [HWZ.out];exact ⟨10,HE.out,rfl,below_draws B3.out _⟩)
      ·have hd:decide (t < o)=false:=decide_eq_false hto
       have HB1:Hid (∀ j,j < i+1→MetW ks tw j):=fun q hq=>by
        by_cases e:q=i
        ·subst e;intro _;rw [← HV.out.2.1,← HV.out.2.2];exact hto
        ·exact HB.out q (by omega)
       clear hik HB
       go_upto_region 7 with fail
       go_region
       all_goals (go_wp2_with fail)
       all_goals (go_roundw)
       all_goals (first
        | (rw [HWZ.out];exact ⟨i+1,j+1,by omega,by go_num,rfl,HB1⟩)
        | (simp [intOf];omega))
     ·have k3I:¬ (kk:Int)=3:=by omega
      have k3b:((kk:Int) == 3)=false:=by simp;omega
      have k3d:decide (kk=3)=false:=decide_eq_false k3
      have HB1:Hid (∀ j,j < i+1→MetW ks tw j):=fun q hq=>by
       by_cases e:q=i
       ·subst e;intro h;exact absurd (HV.out.1.trans h) k3
       ·exact HB.out q (by omega)
      clear hik HB cY cZ
      go_upto_region 7 with fail
      go_quiet (fail)
      all_goals (go_wp2_with fail)
      all_goals (go_roundw)
      all_goals (first
       | (obtain ⟨j',e⟩:=HWQ.out nq;exact ⟨i+1,j',by omega,by go_num,e,HB1⟩)
       | (simp [intOf];omega))
    ·obtain rfl:i=n:=by omega
     have hdk:decide (i < i)=false:=by simp
     have HE:Hid (ErrW ks 0):=.inl ⟨rfl,tw,HW.out,(right_met HW.out).2 fun q hq=>HB.out q (by rw [← HL.out];exact hq)⟩
     clear HB
     go_wp2_with fail
     go_ret
     exact ⟨0,HE.out,rfl,below_draws B3.out j⟩
def rB:List Nat→List Nat→List Nat→Nat→Bool
 | [],R,S,_=>R.isEmpty && S.isEmpty
 | k :: ks,R,S,i =>
   if k=0 then rB ks (i :: R) S (i+1)
   else if k=1 then (match R with | []=>false | _ :: R'=>rB ks R' S (i+1))
   else if k=2 then rB ks R (i :: S) (i+1)
   else (match S with | []=>false | s :: S'=>(match R with | []=>true | r :: _=>decide (r < s)) && rB ks R S' (i+1))
theorem drop_one {ks:List Nat} {i:Nat} (hi:i < ks.length):ks.drop i=ks.getD i 0 :: ks.drop (i+1):=by
 rw [List.getD_eq_getElem?_getD,List.getElem?_eq_getElem hi]
 exact List.drop_eq_getElem_cons hi
theorem rB_wd {ks:List Nat} {tw:Nat→Nat} (W:Wd ks tw):∀ m i,i+m=ks.length→(rB (ks.drop i) (UU ks tw 0 i).reverse (UU ks tw 1 i).reverse i=true↔∀ j,i≤j→j < ks.length→MetW ks tw j):=by
 intro m
 induction m with
 | zero =>
   intro i hi
   have hi:i=ks.length:=by omega
   subst hi
   rw [List.drop_length,UU_end W.P,UU_end W.P]
   exact ⟨fun _ j h1 h2=>absurd h1 (by omega),fun _=>rfl⟩
 | succ m ih =>
   intro i hi
   have hlt:i < ks.length:=by omega
   have IH:=ih (i+1) (by omega)
   have K:=k_ev W.P hlt
   have k4:=W.P.kd.getD i
   have split:(∀ j,i≤j→j < ks.length→MetW ks tw j)↔MetW ks tw i∧∀ j,i+1≤j→j < ks.length→MetW ks tw j :=
    ⟨fun h=>⟨h i (Nat.le_refl _) hlt,fun j h1 h2=>h j (by omega) h2⟩,fun h j h1 h2=>by
     by_cases e:j=i
     ·subst e;exact h.1
     ·exact h.2 j (by omega) h2⟩
   rw [split,drop_one hlt]
   unfold rB
   have hk:ks.getD i 0=0∨ks.getD i 0=1∨ks.getD i 0=2∨ks.getD i 0=3:=by omega
   rcases hk with e | e | e | e
   ·obtain ⟨s,o⟩:=K.1.1 e
    rw [e,if_pos rfl]
    rw [UU_open W.P hlt s o,UU_skip (s:=1) W.P hlt (by omega)] at IH
    rw [List.reverse_append] at IH
    rw [show i :: (UU ks tw 0 i).reverse=[i].reverse++(UU ks tw 0 i).reverse from rfl,IH]
    exact ⟨fun h=>⟨fun c=>by rw [e] at c;omega,h⟩,fun h=>h.2⟩
   ·obtain ⟨s,c⟩:=K.2.1.1 e
    rw [e,if_neg (by decide),if_pos rfl]
    rw [UU_skip (s:=1) W.P hlt (by omega)] at IH
    rw [UU_last W.P W.x0 hlt s c,List.reverse_append]
    show rB _ (UU ks tw 0 (i+1)).reverse _ _=true↔_
    rw [IH]
    exact ⟨fun h=>⟨fun c=>by rw [e] at c;omega,h⟩,fun h=>h.2⟩
   ·obtain ⟨s,o⟩:=K.2.2.1.1 e
    rw [e,if_neg (by decide),if_neg (by decide),if_pos rfl]
    rw [UU_open W.P hlt s o,UU_skip (s:=0) W.P hlt (by omega)] at IH
    rw [List.reverse_append] at IH
    rw [show i :: (UU ks tw 1 i).reverse=[i].reverse++(UU ks tw 1 i).reverse from rfl,IH]
    exact ⟨fun h=>⟨fun c=>by rw [e] at c;omega,h⟩,fun h=>h.2⟩
   ·obtain ⟨s,c⟩:=K.2.2.2.1 e
    rw [e,if_neg (by decide),if_neg (by decide),if_neg (by decide)]
    rw [UU_skip (s:=0) W.P hlt (by omega)] at IH
    rw [UU_last W.P W.x1 hlt s c,List.reverse_append]
    show (_ && rB _ (UU ks tw 0 i).reverse (UU ks tw 1 (i+1)).reverse _)=true↔_
    rw [Bool.and_eq_true,IH]
    have hm:(match (UU ks tw 0 i).reverse with | []=>true | r :: _=>decide (r < tw i))=true↔MetW ks tw i:=by
     unfold MetW ownP
     rw [← List.head?_reverse]
     have ne:∀ r∈UU ks tw 0 i,r≠tw i:=fun r hr q=>by
      have:=(UU_mem hr).2.1
      rw [q,W.P.sort i hlt] at this
      omega
     cases h:(UU ks tw 0 i).reverse with
     | nil=>exact ⟨fun _ _=>by show ¬ _ < (-1:Int);omega,fun _=>rfl⟩
     | cons r t =>
       have hr:=ne r (by have:r∈(UU ks tw 0 i).reverse:=by rw [h];exact List.mem_cons_self ..
                         exact List.mem_reverse.1 this)
       show decide (r < tw i)=true↔(_→¬ _ < ((r:Nat):Int))
       rw [decide_eq_true_iff]
       exact ⟨fun q _=>by omega,fun q=>by have:=q e;omega⟩
    rw [hm]
theorem rB_bal {ks:List Nat} (kd:Kds ks):∀ m i R S,i+m=ks.length→((R.length:Nat):Int)=exc (val (ownL 0 ks)) (ah 0 ks i)→((S.length:Nat):Int)=exc (val (ownL 1 ks)) (ah 1 ks i)→rB (ks.drop i) R S i=true →
  ∀ x,i≤x→x≤ks.length→(0≤exc (val (ownL 0 ks)) (ah 0 ks x)∧0≤exc (val (ownL 1 ks)) (ah 1 ks x))∧(x=ks.length→exc (val (ownL 0 ks)) (ah 0 ks x)=0∧exc (val (ownL 1 ks)) (ah 1 ks x)=0):=by
 intro m
 induction m with
 | zero =>
   intro i R S hi hR hS h x h1 h2
   obtain rfl:x=i:=by omega
   have hi:x=ks.length:=by omega
   rw [hi,List.drop_length] at h
   unfold rB at h
   rw [Bool.and_eq_true,List.isEmpty_iff,List.isEmpty_iff] at h
   rw [← hR,← hS,h.1,h.2]
   exact ⟨⟨by simp,by simp⟩,fun _=>⟨rfl,rfl⟩⟩
 | succ m ih =>
   intro i R S hi hR hS h x h1 h2
   have hlt:i < ks.length:=by omega
   have k4:=kd.getD i
   have an:∀ s,ah s ks (i+1)=ah s ks i+if ks.getD i 0 / 2=s then 1 else 0:=fun s=>ah_next s ks i hlt
   have here:x=i→(0≤exc (val (ownL 0 ks)) (ah 0 ks x)∧0≤exc (val (ownL 1 ks)) (ah 1 ks x))∧(x=ks.length→exc (val (ownL 0 ks)) (ah 0 ks x)=0∧exc (val (ownL 1 ks)) (ah 1 ks x)=0):=fun e=>by
    subst e
    rw [← hR,← hS]
    exact ⟨⟨by omega,by omega⟩,fun e=>by omega⟩
   by_cases hx:x=i
   ·exact here hx
   have st:∀ s,ks.getD i 0 / 2=s→exc (val (ownL s ks)) (ah s ks (i+1))=exc (val (ownL s ks)) (ah s ks i)+(2*((1 - ks.getD i 0%2:Nat):Int) - 1):=fun s hs=>by
    rw [an s,if_pos hs];exact step_s hlt hs
   have sk:∀ s,ks.getD i 0 / 2≠s→exc (val (ownL s ks)) (ah s ks (i+1))=exc (val (ownL s ks)) (ah s ks i):=fun s hs=>by
    rw [an s,if_neg hs];rfl
   rw [drop_one hlt] at h
   unfold rB at h
   have hk:ks.getD i 0=0∨ks.getD i 0=1∨ks.getD i 0=2∨ks.getD i 0=3:=by omega
   rcases hk with e | e | e | e
   ·rw [e] at h st sk
    rw [if_pos rfl] at h
    refine ih (i+1) _ _ (by omega) ?_ ?_ h x (by omega) h2
    ·rw [st 0 rfl,← hR];simp
    ·rw [sk 1 (by decide),← hS]
   ·rw [e] at h st sk
    rw [if_neg (by decide),if_pos rfl] at h
    cases R with
    | nil=>cases h
    | cons r R =>
      refine ih (i+1) R S (by omega) ?_ ?_ h x (by omega) h2
      ·rw [st 0 rfl,← hR];simp;omega
      ·rw [sk 1 (by decide),← hS]
   ·rw [e] at h st sk
    rw [if_neg (by decide),if_neg (by decide),if_pos rfl] at h
    refine ih (i+1) _ _ (by omega) ?_ ?_ h x (by omega) h2
    ·rw [sk 0 (by decide),← hR]
    ·rw [st 1 rfl,← hS];simp
   ·rw [e] at h st sk
    rw [if_neg (by decide),if_neg (by decide),if_neg (by decide)] at h
    cases S with
    | nil=>cases h
    | cons s S =>
      have h:=(Bool.and_eq_true _ _ ▸ h:_∧_)
      refine ih (i+1) R S (by omega) ?_ ?_ h.2 x (by omega) h2
      ·rw [sk 0 (by decide),← hR]
      ·rw [st 1 rfl,← hS];simp;omega
theorem bal_of {ks:List Nat} {s:Nat} (h:∀ x,x≤ks.length→0≤exc (val (ownL s ks)) (ah s ks x)) (h0:exc (val (ownL s ks)) (ah s ks ks.length)=0):Bal (exc (val (ownL s ks))) (ownL s ks).length:=by
 have e:=ah_all s ks
 refine ⟨fun y hy=>?_,by rw [← e];exact h0⟩
 cases y with
 | zero=>have:=h 0 (Nat.zero_le _);rwa [ah_zero] at this
 | succ y =>
   obtain ⟨i,hi,hs,ha⟩:=ah_find s ks y (by omega)
   have:=h (i+1) hi
   rw [ah_next s ks i hi,if_pos hs,ha] at this
   exact this
theorem rB_iff {ks:List Nat} (kd:Kds ks):rB ks [] [] 0=true↔ErrW ks 0:=by
 have z:∀ s,((([]:List Nat).length:Nat):Int)=exc (val (ownL s ks)) (ah s ks 0):=fun s=>by rw [ah_zero,(exc_Exc _).zero];rfl
 constructor
 ·intro h
  have hb:=rB_bal kd ks.length 0 [] [] (by omega) (z 0) (z 1) h
  have b0:=bal_of (s:=0) (fun x hx=>(hb x (Nat.zero_le _) hx).1.1) ((hb _ (Nat.zero_le _) (Nat.le_refl _)).2 rfl).1
  have b1:=bal_of (s:=1) (fun x hx=>(hb x (Nat.zero_le _) hx).1.2) ((hb _ (Nat.zero_le _) (Nat.le_refl _)).2 rfl).2
  obtain ⟨tw,W⟩:=bal_wd kd b0 b1
  refine .inl ⟨rfl,tw,W,(right_met W).2 fun j hj=>?_⟩
  exact (rB_wd W ks.length 0 (by omega)).1 h j (Nat.zero_le _) hj
 ·rintro (⟨_,tw,W,R⟩ | ⟨h,_⟩ | ⟨h,_⟩)
  ·exact (rB_wd W ks.length 0 (by omega)).2 fun j _ hj=>(right_met W).1 R j hj
  ·omega
  ·omega
def dig4 (x:Nat):Nat→List Nat
 | 0=>[]
 | m+1=>dig4 x m++[x / 4 ^ m%4]
theorem dig4_len (x:Nat):∀ m,(dig4 x m).length=m
 | 0=>rfl
 | m+1=>by unfold dig4;rw [List.length_append,dig4_len x m];rfl
theorem dig4_kd (x:Nat):∀ m,Kds (dig4 x m)
 | 0=>fun k h=>by simp [dig4] at h
 | m+1=>by
   unfold dig4
   exact (dig4_kd x m).append fun k h=>by simp at h;rw [h];exact Nat.mod_lt _ (by decide)
def okB (m x:Nat):Bool:=rB (dig4 x m) [] [] 0
def cntB (m N:Nat):Nat:=((List.range N).filter (okB m)).length
theorem cntB_num (m N:Nat):cntB m N=num (fun x=>okB m x=true) N:=by
 unfold cntB num
 congr 1
 apply List.filter_congr
 intro x _
 simp
theorem cntB_all:cntB 0 1=1∧cntB 2 16=2∧cntB 4 256=9∧cntB 6 4096=54:=by
 refine ⟨by kernel_rfl,by kernel_rfl,by kernel_rfl,by kernel_rfl⟩
theorem num_shift (P:Nat→Prop) (f:Nat) {N:Nat} (h0:0 < N):num (fun k=>P ((k+f)%N)) N=num P N:=by
 have key:∀ (P:Nat→Prop) f,num (fun k=>P ((k+f)%N)) N≤num P N:=fun P f =>
  num_inj (fun k=>(k+f)%N) (fun x hx h=>⟨Nat.mod_lt _ h0,h⟩) (fun x y hx hy _ _ e=>by
   have e:(x+f)%N=(y+f)%N:=e
   have h1:=Nat.div_add_mod (x+f) N
   have h2:=Nat.div_add_mod (y+f) N
   rw [e] at h1
   rcases Nat.lt_trichotomy ((x+f) / N) ((y+f) / N) with c | c | c
   ·have:N*((x+f) / N)+N≤N*((y+f) / N):=by
     have:=Nat.mul_le_mul_left N c
     rw [Nat.mul_succ] at this;exact this
    omega
   ·rw [c] at h1;omega
   ·have:N*((y+f) / N)+N≤N*((x+f) / N):=by
     have:=Nat.mul_le_mul_left N c
     rw [Nat.mul_succ] at this;exact this
    omega)
 refine Nat.le_antisymm (key P f) ?_
 have h2:=key (fun k=>P ((k+f)%N)) (N - f%N)
 have e:num (fun k=>P (((k+(N - f%N))%N+f)%N)) N=num P N:=num_congr fun k hk=>by
  have:((k+(N - f%N))%N+f)%N=k:=by
   rw [Nat.mod_add_mod]
   have h3:=Nat.div_add_mod f N
   have h4:=Nat.mod_lt f h0
   have:k+(N - f%N)+f=k+N*(f / N+1):=by rw [Nat.mul_add,Nat.mul_one];omega
   rw [this,Nat.add_mul_mod_self_left,Nat.mod_eq_of_lt hk]
  rw [this]
 rw [e] at h2
 exact h2
def bothD (E:List Nat):List Nat:=E.flatMap fun e=>[2*e,2*e+1]
theorem bothD_len:∀ E:List Nat,(bothD E).length=2*E.length
 | []=>rfl
 | e :: E=>by
   have:=bothD_len E
   unfold bothD at this ⊢
   rw [List.flatMap_cons,List.length_append,this]
   simp only [List.length_cons,List.length_nil]
   omega
theorem bothD_get:∀ (E:List Nat) (i:Nat),i < 2*E.length→(bothD E).getD i 0=2*E.getD (i / 2) 0+i%2
 | [],i,h=>by simp at h
 | e :: E,0,h=>by simp [bothD]
 | e :: E,1,h=>by simp [bothD]
 | e :: E,i+2,h=>by
   have ih:=bothD_get E i (by simp only [List.length_cons] at h;omega)
   have e1:(bothD (e :: E)).getD (i+2) 0=(bothD E).getD i 0:=by
    unfold bothD
    rw [List.flatMap_cons]
    simp [List.getD_eq_getElem?_getD]
   have e2:(e :: E).getD ((i+2) / 2) 0=E.getD (i / 2) 0:=by
    rw [show (i+2) / 2=i / 2+1 by omega]
    simp [List.getD_eq_getElem?_getD]
   rw [e1,e2,ih]
   omega
theorem bothD_mem {E:List Nat} {d:Nat}:d∈bothD E↔d / 2∈E:=by
 unfold bothD
 rw [List.mem_flatMap]
 constructor
 ·rintro ⟨e,he,hd⟩
  simp only [List.mem_cons,List.not_mem_nil,or_false] at hd
  rwa [show d / 2=e by omega]
 ·exact fun h=>⟨d / 2,h,by simp only [List.mem_cons,List.not_mem_nil,or_false];omega⟩
theorem bothD_rises:∀ {E:List Nat},E.Pairwise (· < ·)→(bothD E).Pairwise (· < ·)
 | [],_=>List.Pairwise.nil
 | e :: E,h=>by
   rw [List.pairwise_cons] at h
   have ih:=bothD_rises h.2
   have hm:∀ d∈bothD E,2*e+1 < d:=fun d hd=>by have:=h.1 _ (bothD_mem.1 hd);omega
   show List.Pairwise _ ((2*e) :: (2*e+1) :: bothD E)
   refine List.Pairwise.cons (fun d hd=>?_) (List.Pairwise.cons hm ih)
   rcases List.mem_cons.1 hd with c | c
   ·omega
   ·have:=hm d c;omega
theorem rises_get {D:List Nat} (h:D.Pairwise (· < ·)) {i j:Nat} (hij:i < j) (hj:j < D.length):D.getD i 0 < D.getD j 0:=by
 have:=List.pairwise_iff_getElem.1 h i j (by omega) hj hij
 rw [List.getD_eq_getElem?_getD,List.getD_eq_getElem?_getD,List.getElem?_eq_getElem hj,List.getElem?_eq_getElem (show i < D.length by omega)]
 exact this
open Classical in
noncomputable def own (l:List Nat) (r:Nat):List Nat:=(List.range l.length).filter fun d=>decide (part l r d)
section
variable {l b:List Nat}
theorem own_mem {r d:Nat}:d∈own l r↔d < l.length∧part l r d:=by simp [own]
open Classical in
theorem own_both (hl:Inv l b) (he:l.length%2=0) {r:Nat} (hr:r < l.length):∃ E:List Nat,own l r=bothD E∧E.Pairwise (· < ·):=by
 have hq:=part_eqv hl he
 have hE:((List.range (l.length / 2)).filter fun e=>decide (part l r (2*e))).Pairwise (· < ·):=List.pairwise_lt_range.filter _
 refine ⟨(List.range (l.length / 2)).filter fun e=>decide (part l r (2*e)),sorted_eq _ _ (List.pairwise_lt_range.filter _) (bothD_rises hE) fun d=>?_,hE⟩
 rw [own_mem,bothD_mem,List.mem_filter,List.mem_range]
 simp only [decide_eq_true_eq]
 have key:d < l.length→(part l r d↔part l r (2*(d / 2))):=fun hd=>by
  by_cases c:d%2=0
  ·rw [show 2*(d / 2)=d by omega]
  ·have hm:mt d=2*(d / 2):=by unfold mt;rw [if_neg c];omega
   have hmd:=mt_in he hd
   rw [← hm]
   exact ⟨fun p=>hq.trans _ _ _ hr hd hmd p (part_mt hl he hd),fun p=>hq.trans _ _ _ hr hmd hd p (hq.symm _ _ hd hmd (part_mt hl he hd))⟩
 exact ⟨fun ⟨h1,h2⟩=>⟨by omega,(key h1).1 h2⟩,fun ⟨h1,h2⟩=>⟨by omega,(key (by omega)).2 h2⟩⟩
theorem own_inc (hl:Inv l b) (he:l.length%2=0) {r:Nat} (hr:r < l.length):Inc (own l r).length l.length (sgL (own l r)):=by
 obtain ⟨E,hE,hp⟩:=own_both hl he hr
 have hD:=bothD_rises hp
 have hlen:=bothD_len E
 have hlt:∀ d∈own l r,d < l.length:=fun d hd=>(own_mem.1 hd).1
 rw [hE] at hlt ⊢
 refine ⟨by omega,fun x hx=>hlt _ ?_,fun x hx=>?_,fun x y hx hy e=>?_⟩
 ·show (bothD E).getD x 0∈_
  rw [List.getD_eq_getElem?_getD,List.getElem?_eq_getElem hx]
  exact List.getElem_mem hx
 ·have hm:=mt_in (n:=(bothD E).length) (by omega) hx
  have e1:sgL (bothD E) x=2*E.getD (x / 2) 0+x%2:=bothD_get E x (by omega)
  have e2:sgL (bothD E) (Go.Proofs.YtijbdnhlpbcabaaGreatDoor.mt x)=2*E.getD (Go.Proofs.YtijbdnhlpbcabaaGreatDoor.mt x / 2) 0+Go.Proofs.YtijbdnhlpbcabaaGreatDoor.mt x%2:=bothD_get E _ (by omega)
  have e3:Go.Proofs.YtijbdnhlpbcabaaGreatDoor.mt x / 2=x / 2:=by unfold Go.Proofs.YtijbdnhlpbcabaaGreatDoor.mt;split <;> omega
  rw [e1,e2,e3]
  unfold Go.Proofs.YtijbdnhlpbcabaaGreatDoor.mt
  by_cases c:x%2=0
  ·rw [if_pos c,if_pos (by omega)];omega
  ·rw [if_neg c,if_neg (by omega)];omega
 ·have e':(bothD E).getD x 0=(bothD E).getD y 0:=e
  rcases Nat.lt_trichotomy x y with c | c | c
  ·have:=rises_get hD c hy;omega
  ·exact c
  ·have:=rises_get hD c hx;omega
end
end Go.Proofs.YtijbdnhlpbcabaaGreatDoor
namespace Go.Proofs.YtijbdnhlpbcabaaGreatDoor
set_option maxRecDepth 20000
structure Lies (l A:List Nat) (g:Nat→Nat):Prop where
 inc:Inc A.length l.length g
 sig:∀ i,i < A.length→g (sgL A i)=sgL l (g i)
section
variable {l b A B:List Nat} {g:Nat→Nat}
theorem Lies.it (h:Lies l A g) (hA:Inv A B) {i:Nat} (hi:i < A.length):∀ k,itf (sgL l) k (g i)=g (itf (sgL A) k i)
 | 0=>rfl
 | k+1=>by
   have ih:=h.it hA hi k
   show sgL l (itf (sgL l) k (g i))=g (sgL A (itf (sgL A) k i))
   rw [ih,h.sig _ ((sgL_pf hA).itlt hi k)]
theorem Lies.orb (h:Lies l A g) (hA:Inv A B) {i j:Nat} (hi:i < A.length) (hj:j < A.length):Orb (sgL l) (g i) (g j)↔Orb (sgL A) i j:=by
 constructor
 ·rintro ⟨k,e⟩
  rw [h.it hA hi] at e
  exact ⟨k,h.inc.inj _ _ ((sgL_pf hA).itlt hi k) hj e⟩
 ·rintro ⟨k,e⟩
  exact ⟨k,by rw [h.it hA hi,e]⟩
theorem Lies.walk (h:Lies l A g) (hA:Inv A B) (hl:Inv l b) (he:l.length%2=0) {r:Nat} (hr:r < A.length):(wlk A r).map g=wlk l (g r):=by
 have hev:=h.inc.ev
 have hn:A.length=2*(A.length / 2):=by omega
 have hn':l.length=2*(l.length / 2):=by omega
 have hpr:=h.inc.lt r hr
 have hnm:∀ x y,x < A.length→y < A.length→(nameOf l (g x)=nameOf l (g y)↔nameOf A x=nameOf A y):=fun x y hx hy=>by
  rw [name_iff hl (h.inc.lt x hx) (h.inc.lt y hy),name_iff hA hx hy,h.orb hA hx hy]
 have key:=fun j=>(wrun_map h.inc hn hn' (sg:=sgL A) (sg':=sgL l) (nm:=nameOf A) (nm':=nameOf l) (fun d hd=>hA.lt d hd) (fun d hd=>(h.sig d hd).symm) hnm (fun d hd=>name_lt hA hd) (fun d hd=>name_lt hl hd) hr j).1
 obtain ⟨a1,a2,a3,a4⟩:=wN_is (sgL_pf hA) hn (one_nm hA) (fun x hx=>name_lt hA hx) hr
 obtain ⟨b1,b2,b3,b4⟩:=wN_is (sgL_pf hl) hn' (one_nm hl) (fun x hx=>name_lt hl hx) hpr
 have eN:wN (sgL l) (nameOf l) (l.length / 2) (orbits l).length (g r)=wN (sgL A) (nameOf A) (A.length / 2) (orbits A).length r:=by
  refine Nat.le_antisymm ?_ ?_
  ·refine Nat.le_of_not_lt fun c=>b4 _ a1 c ?_
   rw [(key _).d,a3]
  ·refine Nat.le_of_not_lt fun c=>a4 _ b1 c ?_
   have k:=(key (wN (sgL l) (nameOf l) (l.length / 2) (orbits l).length (g r))).d
   rw [b3] at k
   exact h.inc.inj _ _ (key _).lt hr k.symm
 unfold wlk
 rw [eN,List.map_map]
 exact List.map_congr_left fun j _=>((key j).d).symm
end
theorem own_lies {l b A:List Nat} (hl:Inv l b) (he:l.length%2=0) {r:Nat} (hr:r < l.length) (hlen:A.length=(own l r).length) (hs:∀ i,i < A.length→sgL (own l r) (sgL A i)=sgL l (sgL (own l r) i)):Lies l A (sgL (own l r)) :=
 ⟨by rw [hlen];exact own_inc hl he hr,hs⟩
theorem lies_pf {l b A:List Nat} {g:Nat→Nat} (h:Lies l A g) (hl:Inv l b) (hlt:∀ i,i < A.length→sgL A i < A.length):PF A.length (sgL A) :=
 ⟨hlt,fun i j hi hj e=>h.inc.inj i j hi hj ((sgL_pf hl).inj _ _ (h.inc.lt i hi) (h.inc.lt j hj) (by rw [← h.sig i hi,← h.sig j hj,e]))⟩
end Go.Proofs.YtijbdnhlpbcabaaGreatDoor
namespace Go.Proofs.YtijbdnhlpbcabaaGreatDoor
set_option maxRecDepth 100000
theorem info_cpart:(Tryz.prog.info? 177).map (fun i=>(i.zero,i.size,i.bytes))=some (some (.agg #[.int .i64 0,.slice none 0 0]),2,32):=by kernel_rfl
theorem run_copy2 {P:Program} (w:World) (dT sT ty elem:TypeId) (g o dLen dCap:Nat) (a:Addr) (sLen sCap:Nat) (cur:Array Value) (t:TypeId) (cs:List Value) (size:Nat) (i:TypeInfo)
  (hu:P.underlying dT=some (.slice elem)) (hq:P.info? elem=some i) (hi:i.size=size)
  (hg:w.heap[g]?=some (.cells cur t (0,0))) (hn:cs.length=Nat.min sLen dLen*size)
  (hsrc:∀ j v,cs[j]?=some v→w.cell? (a.add j)=some v) (hfit:o+cs.length≤cur.size) (h1:∀ v∈cs,v.oneCell'=true) :
  (Builtin.copy_ #[dT,sT] ty #[.slice (some ⟨g,o,none⟩) dLen dCap,.slice (some a) sLen sCap]).run P w =
    .ok (goInt (Nat.min sLen dLen)) (w.setRow g (cur.toList.take o++cs++cur.toList.drop (o+cs.length)).toArray):=by
 have hf:=run_firstCells_some (P:=P) w size (Nat.min sLen dLen) a sLen sCap cs hn hsrc
 have hst:=run_storeCells_at P g o t cs 0 cur w hg (by simpa using hfit) h1
 simp only [Nat.add_zero] at hst
 simp [Builtin.copy_,run_underlying hu,Builtin.lenOf,sizeOf,typeInfo,hq,hi,hf,hst]
theorem run_clear2 {P:Program} (w:World) (t e ty:TypeId) (z0 z1:Value) (ht:P.underlying t=some (.slice e)) (hv:∀ w,(zeroValue e).run P w=.ok (.agg #[z0,z1]) w) (h0:z0.oneCell'=true) (h1:z1.oneCell'=true) (hz:(Value.agg #[z0,z1]).cells=#[z0,z1]) (g o c:Nat) (cur:Array Value) (te:TypeId)
  (hg:w.heap[g]?=some (.cells cur te (0,0))) (hfit:o+2≤cur.size) :
  (Builtin.clear_ #[t] ty #[.slice (some ⟨g,o,none⟩) 1 c]).run P w=.ok (.tuple #[]) (w.setRow g (cur.toList.take o++[z0,z1]++cur.toList.drop (o+2)).toArray):=by
 have hst:=run_storeCells_at P g o te [z0,z1] 0 cur w hg (by simpa using hfit) (by intro v hv';simp at hv';rcases hv' with rfl | rfl;exact h0;exact h1)
 simp only [Nat.add_zero] at hst
 have hzc:(Builtin.zeroCells #[z0,z1] 1).toList=[z0,z1]:=by simp [Builtin.zeroCells];rfl
 simp [Builtin.clear_,run_underlying ht,hv,hz,hzc,hst]
theorem own_open {w:World} {base:Nat} {e:TypeId} {size g n c:Nat} {xs:List Value} (h:w.ownsRow base e size (.slice (some ⟨g,0,none⟩) n c) n xs):∃ cur,base≤g∧w.heap[g]?=some (.cells cur e (0,0))∧n≤c∧c≤maxLen∧cur.size=c*size∧cur.toList.take (n*size)=xs:=by
 rcases h.2 with ⟨hx,_⟩ | ⟨g',cap,cur,hv,h1,h2,h3,h4,h5,h6⟩
 ·cases hx
 ·simp only [Value.slice.injEq,Option.some.injEq,Addr.mk.injEq,and_true,true_and] at hv
  obtain ⟨rfl,rfl⟩:=hv
  exact ⟨cur,h1,h2,h3,h4,h5,h6⟩
theorem own_close {w:World} {base:Nat} {e:TypeId} {size g n c:Nat} {xs:List Value} {cur:Array Value} (h1:base≤g) (h2:w.heap[g]?=some (.cells cur e (0,0))) (h3:n≤c) (h4:c≤maxLen) (h5:cur.size=c*size) (h6:cur.toList.take (n*size)=xs) (h7:xs.length=n*size) :
  w.ownsRow base e size (.slice (some ⟨g,0,none⟩) n c) n xs:=⟨h7,.inr ⟨g,c,cur,rfl,h1,h2,h3,h4,h5,h6⟩⟩
theorem setRow_mod (w:World) (g:Nat) (cs:Array Value):Mod (fun k=>k=g) w (w.setRow g cs) :=
 ⟨rfl,rfl,rfl,by simp [World.setRow],fun k hk hn=>by simp [World.setRow,Array.getElem?_modify,Ne.symm hn]⟩
theorem seg_take {l m:List Value} {o:Nat} (h:o+m.length≤l.length):((l.take o++m++l.drop (o+m.length)).take (o+m.length))=l.take o++m:=by
 have e:(l.take o++m).length=o+m.length:=by rw [List.length_append,List.length_take];omega
 rw [List.take_append_of_le_length (by omega),List.take_of_length_le (by omega)]
theorem seg_len {l m:List Value} {o:Nat} (h:o+m.length≤l.length):(l.take o++m++l.drop (o+m.length)).length=l.length:=by
 rw [List.length_append,List.length_append,List.length_take,List.length_drop];omega
theorem zero_cpart (w:World):(zeroValue 177).run Tryz.prog w=.ok (.agg #[.int .i64 0,.slice none 0 0]) w:=by kernel_rfl
abbrev zpC:List Value:=[Value.int .i64 0,Value.slice none 0 0]
theorem step_append_runC {P:Program} (w:World) {ops:Array Oper} {o:Oper} {a:Act} {K:Act→World→Prop} {Q:Exit→Act→World→Prop} {E:Prop} (hw:Region.wanted o (yielded ops a.tmps)=true) (s x:Operand) (t:TypeId)
  (ho:o.op=.call { callee:=.builtin .append,args:=#[s,x],argTypes:=#[t,t] }) (v u v':Value) (w':World) (hs:a.eval s=v) (hx:a.eval x=u)
  (hr:(Builtin.append_ #[t,t] o.type #[v,u]).run P w=.ok v' w') (h:K (a.put o.dst v') w') :
  if Region.wanted o (yielded ops a.tmps)=true then Oper.wp P o a w K Q else E:=by
 rw [if_pos hw]
 unfold Oper.wp execOp
 simp only [ho,resolve,invoke,builtin,Sem.run_bind,Sem.run_pure,Result.andThen_ok,List.map_toArray,List.map_cons,List.map_nil,hs,hx,hr]
 exact h
def DelPost (w:World) (base g K c:Nat) (ys:List Value) (e:Ending) (w':World):Prop :=
 e=.returned (.slice (some ⟨g,0,none⟩) K c)∧w'.ownsRow base 177 2 (.slice (some ⟨g,0,none⟩) K c) K ys∧Mod (fun k=>k=g) w w'
set_option maxHeartbeats 8000000 in
theorem cdelete_p (w:World) (base g K c i:Nat) (xs:List Value) (h:w.ownsRow base 177 2 (.slice (some ⟨g,0,none⟩) (K+1) c) (K+1) xs) (hi:i≤K) (h1:∀ v∈xs,v.oneCell'=true) (hK:K≤1000000) :
  Calls Tryz.prog 154 #[.slice (some ⟨g,0,none⟩) (K+1) c,.int .i64 (i:Int),.int .i64 ((i+1:Nat):Int)] w (DelPost w base g K c (xs.take (2*i)++xs.drop (2*i+2))):=by
 obtain ⟨cur,a1,a2,a3,a4,a5,a6⟩:=own_open h
 obtain ⟨i0,hi0,hz0,hz1,hz2⟩:=info_parts info_cpart
 have hxl:xs.length=(K+1)*2:=h.1
 have hcl:cur.toList.length=c*2:=by simpa using a5
 have hx:∀ j,j < xs.length→cur.toList[j]?=xs[j]?:=fun j hj=>by rw [← a6,List.getElem?_take_of_lt (by omega)]
 have hns:(xs.drop (2*i+2)).length=(K - i)*2:=by rw [List.length_drop,hxl];omega
 have AP:∀ (W:World) (a:Addr) (cc:Nat),W.heap[g]?=some (.cells cur 177 (0,0))→(i < K→a=⟨g,2*i+2,none⟩)→(Builtin.append_ #[174,174] 174 #[.slice (some ⟨g,0,none⟩) i c,.slice (some a) (K - i) cc]).run Tryz.prog W=.ok (.slice (some ⟨g,0,none⟩) K c) (W.setRow g (cur.toList.take (2*i)++xs.drop (2*i+2)++cur.toList.drop (2*i+(xs.drop (2*i+2)).length)).toArray):=fun W a cc hW ha=>by
  have:=run_append_room (P:=Tryz.prog) W 174 174 177 i0 Tryz.underlying174 hi0 g i c cur hW a (K - i) cc (xs.drop (2*i+2)) (by rw [hns,hz1]) (fun j u hu=>by
   obtain ⟨hj,_⟩:=List.getElem?_eq_some_iff.1 hu
   rw [hns] at hj
   rw [ha (by omega),Addr.add_lit]
   rw [List.getElem?_drop] at hu
   rw [cell_of_row W g _ cur _ _ hW,← Array.getElem?_toList,hx _ (by rw [hxl];omega)]
   exact hu) (fun v hv=>h1 v (List.mem_of_mem_drop hv)) (by omega) (by rw [hz1,hns];omega)
  rw [hz1,Nat.mul_comm i 2] at this
  rw [this,show i+(K - i)=K by omega]
 obtain ⟨cu2,hcu2⟩:∃ x,x=(cur.toList.take (2*i)++xs.drop (2*i+2)++cur.toList.drop (2*i+(xs.drop (2*i+2)).length)).toArray:=⟨_,rfl⟩
 rw [← hcu2] at AP
 have hc2l:cu2.toList.length=c*2:=by rw [hcu2,List.toList_toArray,seg_len (by rw [hcl,hns];omega),hcl]
 have hc2t:cu2.toList.take (2*K)=xs.take (2*i)++xs.drop (2*i+2):=by
  rw [hcu2,List.toList_toArray]
  have:=seg_take (l:=cur.toList) (m:=xs.drop (2*i+2)) (o:=2*i) (by rw [hcl,hns];omega)
  rw [hns,show 2*i+(K - i)*2=2*K by omega] at this
  rw [hns,show 2*i+(K - i)*2=2*K by omega,this,← a6,List.take_take,show min (2*i) ((K+1)*2)=2*i by omega]
 obtain ⟨cu3,hcu3⟩:∃ x,x=(cu2.toList.take (2*K)++zpC++cu2.toList.drop (2*K+2)).toArray:=⟨_,rfl⟩
 have CLR:∀ (W:World) (cc:Nat),W.heap[g]?=some (.cells cu2 177 (0,0))→∀ ty,(Builtin.clear_ #[174] ty #[.slice (some ⟨g,2*K,none⟩) 1 cc]).run Tryz.prog W=.ok (.tuple #[]) (W.setRow g cu3):=fun W cc hW ty=>by
  rw [hcu3]
  exact run_clear2 W 174 177 ty (.int .i64 0) (.slice none 0 0) Tryz.underlying174 zero_cpart rfl rfl rfl g (2*K) cc cu2 _ hW (by have:cu2.size=c*2:=(by simpa using hc2l);omega)
 have FIN:Hid (∀ W1 W2:World,W1.heap[g]?=some (.cells cur 177 (0,0))→Mod (fun k=>k=g) w W1→W2=((W1.setRow g cu2).setRow g cu3)→DelPost w base g K c (xs.take (2*i)++xs.drop (2*i+2)) (.returned (.slice (some ⟨g,0,none⟩) K c)) W2):=fun W1 W2 hW hM hE=>by
  subst hE
  have e1:=setRow_heap W1 g cur cu2 _ _ hW
  have e2:=setRow_heap (W1.setRow g cu2) g cu2 cu3 _ _ e1
  have l2:(cu2.toList.take (2*K)++zpC++cu2.toList.drop (2*K+2)).length=c*2:=by
   have:=seg_len (l:=cu2.toList) (m:=zpC) (o:=2*K) (by rw [hc2l];simp;omega)
   rw [hc2l] at this;exact this
  refine ⟨rfl,own_close a1 e2 (by omega) a4 (by rw [hcu3];simpa using l2) ?_ ?_,(hM.trans (setRow_mod _ _ _) fun _ _ q=>q).trans (setRow_mod _ _ _) fun _ _ q=>q⟩
  ·rw [hcu3,List.toList_toArray,List.append_assoc,List.take_append_of_le_length (by rw [List.length_take,hc2l];omega),List.take_take,show min (K*2) (2*K)=2*K by omega,hc2t]
  ·rw [List.length_append,List.length_take,List.length_drop,hxl];omega
 have hne:((i:Int) == ((i+1:Nat):Int))=false:=by rw [beq_eq_false_iff_ne];omega
 have hii:(i:Int) < (K:Int)+1:=by omega
 have hrun:=AP w.drew
 clear h a5 a6 hxl hcl hx hns AP a1 hi0 hz0 hz1 hz2 h1 hcu2 hc2l hc2t hcu3
 by_cases hic:i+1=c
 ·obtain rfl:i=K:=by omega
  subst hic
  have hc3:(i:Int)≤(i:Int)+1:=by omega
  have hc8:(0:Int)≤(i:Int):=by omega
  have hc4:(i:Int)≤(i:Int):=by omega
  have ht1:((i:Int)+1).toNat=i+1:=by omega
  have hc5:(0:Int)≤(i:Int)+1:=by omega
  have hrun2:=hrun ⟨g,0,none⟩ 0 a2 (fun h=>absurd h (by omega))
  rw [Nat.sub_self] at hrun2
  have clr:=CLR ((w.drew).setRow g cu2) (i+1 - i) (setRow_heap w.drew g cur cu2 _ _ a2)
  rw [show 2*i=i*2 by omega,show i+1 - i=1 by omega] at clr
  have hk1:i+1 - i=1:=by omega
  have hc7:i≤i+1:=by omega
  have FN:=Lib.hid (FIN.out w.drew _ a2 (Mod.refl _ _).drew rfl)
  clear FIN CLR hrun
  go_enter Tryz.func154,Tryz.ntmps154
  go_wp2_with fail
  go_region_law (refine step_append_runC _ (by rfl) _ _ _ (by rfl) _ _ _ _ (by rfl) (by rfl) hrun2 ?_)
  all_goals (go_wp2_with fail)
  all_goals go_ret
  all_goals exact FN.out
 ·have hc1:¬ c=i+1:=fun e=>hic e.symm
  have hc2:¬ c=K:=by omega
  have hc3:i≤c:=by omega
  have hc4:(i:Int)≤(K:Int):=by omega
  have ht1:((i:Int)+1).toNat=i+1:=by omega
  have hc5:(0:Int)≤(i:Int)+1:=by omega
  have hrun2:=hrun ⟨g,(i+1)*2,none⟩ (c - (i+1)) a2 (fun _=>by rw [show (i+1)*2=2*i+2 by omega])
  have clr:=CLR ((w.drew).setRow g cu2) (c - K) (setRow_heap w.drew g cur cu2 _ _ a2)
  rw [show 2*K=K*2 by omega] at clr
  have hc6:¬ K=c:=by omega
  have hk1:K+1 - K=1:=by omega
  have hc7:K≤c:=by omega
  have FN:=Lib.hid (FIN.out w.drew _ a2 (Mod.refl _ _).drew rfl)
  clear FIN CLR hrun
  go_enter Tryz.func154,Tryz.ntmps154
  go_wp2_with fail
  go_region_law (refine step_append_runC _ (by rfl) _ _ _ (by rfl) _ _ _ _ (by rfl) (by rfl) hrun2 ?_)
  all_goals (go_wp2_with fail)
  all_goals go_ret
  all_goals exact FN.out
set_option maxHeartbeats 8000000 in
theorem cinsert_p (w:World) (base g K c vb:Nat) (xs:List Value) (z0 z1:Value) (h:w.ownsRow base 177 2 (.slice (some ⟨g,0,none⟩) K c) K xs) (hKc:K+1≤c) (h1:∀ v∈xs,v.oneCell'=true) (hK:K≤1000000)
  (hv:Blk w vb 177 #[z0,z1]) (hz0':z0.oneCell'=true) (hz1':z1.oneCell'=true) (hne:vb≠g) :
  Calls Tryz.prog 153 #[.slice (some ⟨g,0,none⟩) K c,.int .i64 0,.slice (some ⟨vb,0,none⟩) 1 1] w (DelPost w base g (K+1) c ([z0,z1]++xs)):=by
 obtain ⟨cur,a1,a2,a3,a4,a5,a6⟩:=own_open h
 obtain ⟨i0,hi0,hq0,hq1,hq2⟩:=info_parts info_cpart
 have hxl:xs.length=K*2:=h.1
 have hcl:cur.toList.length=c*2:=by simpa using a5
 have hx:∀ j,j < xs.length→cur.toList[j]?=xs[j]?:=fun j hj=>by rw [← a6,List.getElem?_take_of_lt (by omega)]
 have vcell:∀ (W:World),W.heap[vb]?=w.heap[vb]?→∀ j u,[z0,z1][j]?=some u→W.cell? ((⟨vb,0,none⟩:Addr).add j)=some u:=fun W hW j u hu=>by
  rw [Addr.add_lit,Nat.zero_add,cell_of_row W vb _ #[z0,z1] _ _ (hW.trans hv)]
  simpa using hu
 have v1c:∀ v∈[z0,z1],v.oneCell'=true:=fun v hv'=>by
  simp at hv'
  rcases hv' with rfl | rfl
  ·exact hz0'
  ·exact hz1'
 have hoth:∀ (W:World) (cs:Array Value),(W.setRow g cs).heap[vb]?=W.heap[vb]?:=fun W cs=>by simp [World.setRow,Array.getElem?_modify,Ne.symm hne]
 by_cases hK0:K=0
 ·subst hK0
  obtain rfl:xs=[]:=List.eq_nil_of_length_eq_zero (by omega)
  obtain ⟨cu2,hcu2⟩:∃ x,x=(cur.toList.take 0++[z0,z1]++cur.toList.drop (0+2)).toArray:=⟨_,rfl⟩
  have hrun:(Builtin.append_ #[174,174] 174 #[.slice (some ⟨g,0,none⟩) 0 c,.slice (some ⟨vb,0,none⟩) 1 1]).run Tryz.prog w=.ok (.slice (some ⟨g,0,none⟩) 1 c) (w.setRow g cu2):=by
   have:=run_append_room (P:=Tryz.prog) w 174 174 177 i0 Tryz.underlying174 hi0 g 0 c cur a2 ⟨vb,0,none⟩ 1 1 [z0,z1] (by rw [hq1];rfl) (vcell w rfl) v1c (by omega) (by rw [hq1];simp;omega)
   rw [hq1] at this
   rw [hcu2]
   simpa using this
  have FIN:Hid (DelPost w base g (0+1) c ([z0,z1]++[]) (.returned (.slice (some ⟨g,0,none⟩) 1 c)) (w.setRow g cu2)):=by
   have e1:=setRow_heap w g cur cu2 _ _ a2
   refine ⟨rfl,own_close a1 e1 (by omega) a4 ?_ ?_ (by simp),setRow_mod _ _ _⟩
   ·have:=seg_len (l:=cur.toList) (m:=[z0,z1]) (o:=0) (by rw [hcl];simp;omega)
    rw [hcl] at this
    rw [hcu2];simpa using this
   ·rw [hcu2];simp
  clear h a5 a6 hxl hcl hx a1 hi0 hq0 hq1 hq2 h1 hcu2 vcell v1c hoth hv a2
  go_enter Tryz.func153,Tryz.ntmps153
  go_wp2_with (first
   | (at_builtin;go_must (refine wpList_append_runR rfl _ _ _ rfl _ _ _ _ rfl rfl hrun ?_)))
  go_ret
  exact FIN.out
 ·have hKz:((0:Int) == (K:Int))=false:=by rw [beq_eq_false_iff_ne];omega
  have hfit:2+xs.length≤cur.toList.length:=by rw [hcl,hxl];omega
  obtain ⟨cu2,hcu2⟩:∃ x,x=(cur.toList.take 2++xs++cur.toList.drop (2+xs.length)).toArray:=⟨_,rfl⟩
  have hc2l:cu2.toList.length=c*2:=by rw [hcu2,List.toList_toArray,seg_len hfit,hcl]
  obtain ⟨cu3,hcu3⟩:∃ x,x=(cu2.toList.take 0++[z0,z1]++cu2.toList.drop (0+2)).toArray:=⟨_,rfl⟩
  have CP1:∀ (dc sc:Nat) (ty:TypeId),(Builtin.copy_ #[174,174] ty #[.slice (some ⟨g,2,none⟩) K dc,.slice (some ⟨g,0,none⟩) (K+1) sc]).run Tryz.prog w.drew=.ok (.int .i64 (K:Int)) (w.drew.setRow g cu2):=fun dc sc ty=>by
   have:=run_copy2 (P:=Tryz.prog) w.drew 174 174 ty 177 g 2 K dc ⟨g,0,none⟩ (K+1) sc cur 177 xs 2 i0 Tryz.underlying174 hi0 hq1 a2 (by rw [show Nat.min (K+1) K=K by simp];exact hxl) (fun j u hu=>by
    obtain ⟨hj,_⟩:=List.getElem?_eq_some_iff.1 hu
    rw [Addr.add_lit,Nat.zero_add,cell_of_row w.drew g _ cur _ _ a2,← Array.getElem?_toList,hx _ hj]
    exact hu) (by simpa using hfit) h1
   rw [this,hcu2,show Nat.min (K+1) K=K by simp]
   rfl
  have CP2:∀ (dc:Nat) (ty:TypeId),(Builtin.copy_ #[174,174] ty #[.slice (some ⟨g,0,none⟩) (K+1) dc,.slice (some ⟨vb,0,none⟩) 1 1]).run Tryz.prog (w.drew.setRow g cu2)=.ok (.int .i64 1) ((w.drew.setRow g cu2).setRow g cu3):=fun dc ty=>by
   have:=run_copy2 (P:=Tryz.prog) (w.drew.setRow g cu2) 174 174 ty 177 g 0 (K+1) dc ⟨vb,0,none⟩ 1 1 cu2 177 [z0,z1] 2 i0 Tryz.underlying174 hi0 hq1 (setRow_heap w.drew g cur cu2 _ _ a2) (by rw [show Nat.min 1 (K+1)=1 by simp];rfl) (vcell _ (hoth _ _)) (by have:cu2.size=c*2:=(by simpa using hc2l);simp;omega) v1c
   rw [this,hcu3,show Nat.min 1 (K+1)=1 by simp]
   rfl
  have FIN:Hid (DelPost w base g (K+1) c ([z0,z1]++xs) (.returned (.slice (some ⟨g,0,none⟩) (K+1) c)) ((w.drew.setRow g cu2).setRow g cu3)):=by
   have e1:=setRow_heap w.drew g cur cu2 _ _ a2
   have e2:=setRow_heap (w.drew.setRow g cu2) g cu2 cu3 _ _ e1
   have hf2:0+[z0,z1].length≤cu2.toList.length:=by rw [hc2l];simp;omega
   refine ⟨rfl,own_close a1 e2 hKc a4 ?_ ?_ ?_,(((Mod.refl _ w).drew).trans (setRow_mod _ _ _) fun _ _ q=>q).trans (setRow_mod _ _ _) fun _ _ q=>q⟩
   ·have:=seg_len hf2
    rw [hc2l] at this
    rw [hcu3];simpa using this
   ·rw [hcu3,List.toList_toArray,hcu2,List.toList_toArray]
    have l2:(cur.toList.take 2).length=0+2:=by rw [List.length_take,hcl];omega
    rw [List.append_assoc (cur.toList.take 2),List.drop_left' l2,List.take_zero,List.nil_append,← List.append_assoc,List.take_left' (by rw [List.length_append,hxl];simp;omega)]
   ·rw [List.length_append,hxl];simp;omega
  have hov:∀ lb cb,(callFunc 166 #[.slice (some ⟨vb,0,none⟩) 1 1,.slice (some ⟨g,2,none⟩) lb cb]).run Tryz.prog w=.ok (.value (.bool false)) w:=fun lb cb=>by
   rw [run_callFunc_extern Tryz.func166 (by kernel_rfl) (by kernel_rfl) (by kernel_rfl) (e:=Extern.SlicesOverlaps.overlaps #[174,174] #[4]) (by kernel_rfl),
    Lib.run_overlaps_apart w 174 4 177 Tryz.underlying174 2 (fun W=>by simp [sizeOf,typeInfo,hi0,hq1]) ⟨vb,0,none⟩ ⟨g,2,none⟩ 1 1 lb cb hne 177 177 2 cur.size (by unfold Blk at hv;simp [World.shape?,hv]) (by simp [World.shape?,a2]) (by rw [a5];omega) (hv.frozen 0) (hv.frozen 2)]
   rfl
  have hK1:(K:Int)+1≤(c:Int):=by omega
  have hK2:¬ (c:Int) < (K:Int)+1:=by omega
  have hc0:¬ c=0:=by omega
  have hc1:¬ c=1:=by omega
  have hc3:(1:Int)≤(K:Int)+1:=by omega
  have hk1:K+1 - 1=K:=by omega
  have hw1:IntKind.i64.wrap 1=1:=by rfl
  have hw0:(0:Int)≤(K:Int)+1:=by omega
  have hm1:c≤9223372036854775807:=by simp only [maxLen] at a4;omega
  clear h a5 a6 hxl hcl hx a1 hi0 hq0 hq1 hq2 h1 hcu2 vcell v1c hoth hv a2 hc2l hcu3 hfit
  go_enter Tryz.func153,Tryz.ntmps153
  go_wp2_with (simp only [hov])
  go_region_law (fail)
  all_goals (go_wp2_with fail)
  all_goals go_ret
  all_goals exact FIN.out
end Go.Proofs.YtijbdnhlpbcabaaGreatDoor
