/- The word of a planar map of one part is right; a word's map is planar, of one part. -/
import Derived.Test.YtajjgpkahljjmaaGreatDoorZg29
import Derived.Test.YtajjgpkahljjmaaGreatDoorZg31
open Go.RowKit
set_option linter.unusedVariables false
set_option linter.unusedSimpArgs false
namespace Go.Proofs.YtajjgpkahljjmaaGreatDoor
set_option maxRecDepth 20000
theorem nm_zero {ks:List Nat} {tw:Nat→Nat} (P:Prg ks tw) (n0:0 < ks.length):nmF ks tw 0=0:=by
 have a:=P.opn 0 n0
 have ne:=P.ne 0 n0
 unfold nmF
 rw [if_pos (a.2 (by omega))];rfl
theorem TurnW.plane {ks:List Nat} {tw:Nat→Nat} {l b:List Nat} (h:TurnW ks tw l) (W:Wd ks tw) (hi:Inv l b) (n0:0 < ks.length) :
  (∀ d,d < l.length→part l 0 d)∧pN l=1∧genusN l=0∧metB l=num (ClS 0 ks tw) ks.length+1∧metB (phiL l)=num (ClS 1 ks tw) ks.length+1 :=
 (h.wrd W n0).plane hi h.1 (nm_zero W.P n0) fun d hd=>nm_sur W.P (by rw [← h.1];exact hd)
theorem TurnW.err {ks:List Nat} {tw:Nat→Nat} {l b:List Nat} (h:TurnW ks tw l) (W:Wd ks tw) (hi:Inv l b) {lone:Nat} (hl:lone=if ks.length=0 then 1 else 0):ErrM l lone 0:=by
 refine .inr (.inr ?_)
 by_cases c:ks.length=0
 ·have e:l=[]:=List.eq_nil_of_length_eq_zero (by rw [h.1];exact c)
  rw [e,pN_nilT,genus_nilT,hl,if_pos c]
  exact ⟨rfl,rfl,rfl⟩
 ·obtain ⟨_,a,b,_⟩:=h.plane W hi (by omega)
  rw [a,b,hl,if_neg c]
  exact ⟨rfl,rfl,rfl⟩
theorem kpl_err {P:Nat} {l b:List Nat} {lone:Nat} (h:KPl P l b lone) (hi:Inv l b):ErrM l lone 0:=by
 obtain ⟨h1,h2,h3⟩:=h
 by_cases c:P=0
 ·have e:l=[]:=List.eq_nil_of_length_eq_zero (by omega)
  rw [if_pos c] at h2
  rw [e,h2]
  exact .inr (.inr ⟨by rw [pN_nilT],genus_nilT,rfl⟩)
 ·obtain ⟨ks,tw,W,T⟩:=h3 (by omega)
  exact T.err W hi (by have:=T.1;rw [if_neg c] at h2;rw [h2,if_neg (by omega)])
theorem word_right {l b:List Nat} {root:Int} {lone:Nat} (hi:Inv l b) (he:l.length%2=0) (hr:RootOk root l.length) (hE:ErrM l lone 0):∃ tw,Wd (wordL l root) tw∧RightW (wordL l root) tw:=by
 rcases hr with ⟨r0,_⟩ | ⟨r0,r1,r2⟩
 ·have e:wordL l root=[]:=List.eq_nil_of_length_eq_zero (by rw [wordL_len];exact r0)
  rw [e]
  exact ⟨_,wd_nil,right_nil _⟩
 ·obtain ⟨r,rfl⟩:=Int.eq_ofNat_of_zero_le r1
  have hrl:r < l.length:=by omega
  have p1:pN l=1∧genusN l=0:=by
   have:=pq_lt hi he hrl hrl;have:=pq_lt hi he (d:=l.length) hrl hrl;unfold ErrM at hE;unfold pN at *;omega
  obtain ⟨_,W,R,_⟩:=enc_all hi he (nm_ltW hi (V:=(sizes l).length) (Nat.le_refl _)) hrl p1.1 p1.2
  exact ⟨_,Wd.nx W.P W.x0 W.x1,R⟩
theorem ErrW.ok {ks:List Nat} {tw:Nat→Nat} (W:Wd ks tw) (R:RightW ks tw) {E:Int} (h:ErrW ks E):E=0:=by
 rcases h with ⟨h,_⟩ | ⟨_,hb⟩ | ⟨_,tw',W',hr⟩
 ·exact h
 ·exact absurd ⟨W.bal 0,W.bal 1⟩ hb
 ·exact absurd (R.uniq W W') hr
theorem Wd.nmL {ks:List Nat} {tw tw':Nat→Nat} (h:Wd ks tw) (h':Wd ks tw'):Go.Proofs.YtajjgpkahljjmaaGreatDoor.nmL ks tw=Go.Proofs.YtajjgpkahljjmaaGreatDoor.nmL ks tw':=by
 unfold Go.Proofs.YtajjgpkahljjmaaGreatDoor.nmL
 exact List.map_congr_left fun i hi=>h.nm h' (List.mem_range.1 hi)
end Go.Proofs.YtajjgpkahljjmaaGreatDoor
