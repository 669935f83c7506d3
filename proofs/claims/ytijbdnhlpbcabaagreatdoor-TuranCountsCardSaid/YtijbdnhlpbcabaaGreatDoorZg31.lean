/- The word of a planar map of one part is right; a word's map is planar, of one part. -/
import Derived.Test.YtijbdnhlpbcabaaGreatDoorZg25
import Derived.Test.YtijbdnhlpbcabaaGreatDoorZg28
import Derived.Test.YtijbdnhlpbcabaaGreatDoorZg30
import Derived.Test.YtijbdnhlpbcabaaGreatDoorZg26
import Derived.BigQuiet
import Derived.BigRegion
import Derived.Test.YtijbdnhlpbcabaaGreatDoorZg23
import Derived.Test.YtijbdnhlpbcabaaGreatDoorZg24
import Derived.Lib.Overlaps
import Derived.Laws.CopyRow
import Derived.Laws.AppendOwn
import Derived.Lib.SliceRun
import Derived.Deep.RegionWith
import Derived.Deep.RegionLaw
import Derived.Laws.Externs
open Go.RowKit
set_option linter.unusedVariables false
set_option linter.unusedSimpArgs false
namespace Go.Proofs.YtijbdnhlpbcabaaGreatDoor
set_option maxRecDepth 20000
theorem ErrW.ok {ks:List Nat} {tw:Nat→Nat} (W:Wd ks tw) (R:RightW ks tw) {E:Int} (h:ErrW ks E):E=0:=by
 rcases h with ⟨h,_⟩ | ⟨_,hb⟩ | ⟨_,tw',W',hr⟩
 ·exact h
 ·exact absurd ⟨W.bal 0,W.bal 1⟩ hb
 ·exact absurd (R.uniq W W') hr
theorem ErrW.uniq {ks:List Nat} {E E':Int} (h:ErrW ks E) (k:ErrW ks E'):E=E':=by
 rcases h with ⟨rfl,tw,W,R⟩ | ⟨rfl,hb⟩ | ⟨rfl,tw,W,R⟩
 ·exact (k.ok W R).symm
 ·rcases k with ⟨_,tw,W,_⟩ | ⟨rfl,_⟩ | ⟨_,tw,W,_⟩
  ·exact absurd ⟨W.bal 0,W.bal 1⟩ hb
  ·rfl
  ·exact absurd ⟨W.bal 0,W.bal 1⟩ hb
 ·rcases k with ⟨_,tw',W',R'⟩ | ⟨_,hb⟩ | ⟨rfl,_⟩
  ·exact absurd (R'.uniq W' W) R
  ·exact absurd ⟨W.bal 0,W.bal 1⟩ hb
  ·rfl
def MetW (ks:List Nat) (tw:Nat→Nat) (i:Nat):Prop:=ks.getD i 0=3→¬ ((tw i:Nat):Int) < ownI (ownP 0 ks tw i)
theorem right_met {ks:List Nat} {tw:Nat→Nat} (W:Wd ks tw):RightW ks tw↔∀ i,i < ks.length→MetW ks tw i:=by
 constructor
 ·intro h i hi hk
  have ht:=W.P.lt i hi
  have k2:ks.getD (tw i) 0=2:=(k_ev W.P ht).2.2.1.2 (by
   have:=(k_ev W.P hi).2.2.2.1 hk
   rw [W.P.sort i hi,W.P.tt i hi];exact this)
  cases e:ownP 0 ks tw i with
  | none=>show ¬ _ < (-1:Int);omega
  | some o =>
    have:=h (tw i) ht k2 o (by rw [W.P.tt i hi];exact e)
    show ¬ _ < (o:Int);omega
 ·intro h i hi hk o ho
  have ht:=W.P.lt i hi
  have k3:ks.getD (tw i) 0=3:=(k_ev W.P ht).2.2.2.2 (by
   have:=(k_ev W.P hi).2.2.1.1 hk
   rw [W.P.sort i hi,W.P.tt i hi];exact this)
  have:=h (tw i) ht k3
  rw [ho,W.P.tt i hi] at this
  have this:¬ ((i:Nat):Int) < (o:Int):=this
  have hm:=ownP_mem ho
  have:o≠i:=fun e=>by
   have:=(k_ev W.P hi).2.2.1.1 hk
   rw [e] at hm;omega
  omega
def rB:List Nat→List Nat→List Nat→Nat→Bool
 | [],R,S,_=>R.isEmpty && S.isEmpty
 | k :: ks,R,S,i =>
   if k=0 then rB ks (i :: R) S (i+1)
   else if k=1 then (match R with | []=>false | _ :: R'=>rB ks R' S (i+1))
   else if k=2 then rB ks R (i :: S) (i+1)
   else (match S with | []=>false | s :: S'=>(match R with | []=>true | r :: _=>decide (r < s)) && rB ks R S' (i+1))
theorem drop_one {ks:List Nat} {i:Nat} (hi:i < ks.length):ks.drop i=ks.getD i 0 :: ks.drop (i+1):=by
 rw [List.getD_eq_getElem?_getD,List.getElem?_eq_getElem hi]
 exact List.drop_eq_getElem_cons hi
theorem rB_wd {ks:List Nat} {tw:Nat→Nat} (W:Wd ks tw):∀ m i,i+m=ks.length→(rB (ks.drop i) (UU ks tw 0 i).reverse (UU ks tw 1 i).reverse i=true↔∀ j,i≤j→j < ks.length→MetW ks tw j):=by
 intro m
 induction m with
 | zero =>
   intro i hi
   have hi:i=ks.length:=by omega
   subst hi
   rw [List.drop_length,UU_end W.P,UU_end W.P]
   exact ⟨fun _ j h1 h2=>absurd h1 (by omega),fun _=>rfl⟩
 | succ m ih =>
   intro i hi
   have hlt:i < ks.length:=by omega
   have IH:=ih (i+1) (by omega)
   have K:=k_ev W.P hlt
   have k4:=W.P.kd.getD i
   have split:(∀ j,i≤j→j < ks.length→MetW ks tw j)↔MetW ks tw i∧∀ j,i+1≤j→j < ks.length→MetW ks tw j :=
    ⟨fun h=>⟨h i (Nat.le_refl _) hlt,fun j h1 h2=>h j (by omega) h2⟩,fun h j h1 h2=>by
     by_cases e:j=i
     ·subst e;exact h.1
     ·exact h.2 j (by omega) h2⟩
   rw [split,drop_one hlt]
   unfold rB
   have hk:ks.getD i 0=0∨ks.getD i 0=1∨ks.getD i 0=2∨ks.getD i 0=3:=by omega
   rcases hk with e | e | e | e
   ·obtain ⟨s,o⟩:=K.1.1 e
    rw [e,if_pos rfl]
    rw [UU_open W.P hlt s o,UU_skip (s:=1) W.P hlt (by omega)] at IH
    rw [List.reverse_append] at IH
    rw [show i :: (UU ks tw 0 i).reverse=[i].reverse++(UU ks tw 0 i).reverse from rfl,IH]
    exact ⟨fun h=>⟨fun c=>by rw [e] at c;omega,h⟩,fun h=>h.2⟩
   ·obtain ⟨s,c⟩:=K.2.1.1 e
    rw [e,if_neg (by decide),if_pos rfl]
    rw [UU_skip (s:=1) W.P hlt (by omega)] at IH
    rw [UU_last W.P W.x0 hlt s c,List.reverse_append]
    show rB _ (UU ks tw 0 (i+1)).reverse _ _=true↔_
    rw [IH]
    exact ⟨fun h=>⟨fun c=>by rw [e] at c;omega,h⟩,fun h=>h.2⟩
   ·obtain ⟨s,o⟩:=K.2.2.1.1 e
    rw [e,if_neg (by decide),if_neg (by decide),if_pos rfl]
    rw [UU_open W.P hlt s o,UU_skip (s:=0) W.P hlt (by omega)] at IH
    rw [List.reverse_append] at IH
    rw [show i :: (UU ks tw 1 i).reverse=[i].reverse++(UU ks tw 1 i).reverse from rfl,IH]
    exact ⟨fun h=>⟨fun c=>by rw [e] at c;omega,h⟩,fun h=>h.2⟩
   ·obtain ⟨s,c⟩:=K.2.2.2.1 e
    rw [e,if_neg (by decide),if_neg (by decide),if_neg (by decide)]
    rw [UU_skip (s:=0) W.P hlt (by omega)] at IH
    rw [UU_last W.P W.x1 hlt s c,List.reverse_append]
    show (_ && rB _ (UU ks tw 0 i).reverse (UU ks tw 1 (i+1)).reverse _)=true↔_
    rw [Bool.and_eq_true,IH]
    have hm:(match (UU ks tw 0 i).reverse with | []=>true | r :: _=>decide (r < tw i))=true↔MetW ks tw i:=by
     unfold MetW ownP
     rw [← List.head?_reverse]
     have ne:∀ r∈UU ks tw 0 i,r≠tw i:=fun r hr q=>by
      have:=(UU_mem hr).2.1
      rw [q,W.P.sort i hlt] at this
      omega
     cases h:(UU ks tw 0 i).reverse with
     | nil=>exact ⟨fun _ _=>by show ¬ _ < (-1:Int);omega,fun _=>rfl⟩
     | cons r t =>
       have hr:=ne r (by have:r∈(UU ks tw 0 i).reverse:=by rw [h];exact List.mem_cons_self ..
                         exact List.mem_reverse.1 this)
       show decide (r < tw i)=true↔(_→¬ _ < ((r:Nat):Int))
       rw [decide_eq_true_iff]
       exact ⟨fun q _=>by omega,fun q=>by have:=q e;omega⟩
    rw [hm]
theorem rB_bal {ks:List Nat} (kd:Kds ks):∀ m i R S,i+m=ks.length→((R.length:Nat):Int)=exc (val (ownL 0 ks)) (ah 0 ks i)→((S.length:Nat):Int)=exc (val (ownL 1 ks)) (ah 1 ks i)→rB (ks.drop i) R S i=true →
  ∀ x,i≤x→x≤ks.length→(0≤exc (val (ownL 0 ks)) (ah 0 ks x)∧0≤exc (val (ownL 1 ks)) (ah 1 ks x))∧(x=ks.length→exc (val (ownL 0 ks)) (ah 0 ks x)=0∧exc (val (ownL 1 ks)) (ah 1 ks x)=0):=by
 intro m
 induction m with
 | zero =>
   intro i R S hi hR hS h x h1 h2
   obtain rfl:x=i:=by omega
   have hi:x=ks.length:=by omega
   rw [hi,List.drop_length] at h
   unfold rB at h
   rw [Bool.and_eq_true,List.isEmpty_iff,List.isEmpty_iff] at h
   rw [← hR,← hS,h.1,h.2]
   exact ⟨⟨by simp,by simp⟩,fun _=>⟨rfl,rfl⟩⟩
 | succ m ih =>
   intro i R S hi hR hS h x h1 h2
   have hlt:i < ks.length:=by omega
   have k4:=kd.getD i
   have an:∀ s,ah s ks (i+1)=ah s ks i+if ks.getD i 0 / 2=s then 1 else 0:=fun s=>ah_next s ks i hlt
   have here:x=i→(0≤exc (val (ownL 0 ks)) (ah 0 ks x)∧0≤exc (val (ownL 1 ks)) (ah 1 ks x))∧(x=ks.length→exc (val (ownL 0 ks)) (ah 0 ks x)=0∧exc (val (ownL 1 ks)) (ah 1 ks x)=0):=fun e=>by
    subst e
    rw [← hR,← hS]
    exact ⟨⟨by omega,by omega⟩,fun e=>by omega⟩
   by_cases hx:x=i
   ·exact here hx
   have st:∀ s,ks.getD i 0 / 2=s→exc (val (ownL s ks)) (ah s ks (i+1))=exc (val (ownL s ks)) (ah s ks i)+(2*((1 - ks.getD i 0%2:Nat):Int) - 1):=fun s hs=>by
    rw [an s,if_pos hs];exact step_s hlt hs
   have sk:∀ s,ks.getD i 0 / 2≠s→exc (val (ownL s ks)) (ah s ks (i+1))=exc (val (ownL s ks)) (ah s ks i):=fun s hs=>by
    rw [an s,if_neg hs];rfl
   rw [drop_one hlt] at h
   unfold rB at h
   have hk:ks.getD i 0=0∨ks.getD i 0=1∨ks.getD i 0=2∨ks.getD i 0=3:=by omega
   rcases hk with e | e | e | e
   ·rw [e] at h st sk
    rw [if_pos rfl] at h
    refine ih (i+1) _ _ (by omega) ?_ ?_ h x (by omega) h2
    ·rw [st 0 rfl,← hR];simp
    ·rw [sk 1 (by decide),← hS]
   ·rw [e] at h st sk
    rw [if_neg (by decide),if_pos rfl] at h
    cases R with
    | nil=>cases h
    | cons r R =>
      refine ih (i+1) R S (by omega) ?_ ?_ h x (by omega) h2
      ·rw [st 0 rfl,← hR];simp;omega
      ·rw [sk 1 (by decide),← hS]
   ·rw [e] at h st sk
    rw [if_neg (by decide),if_neg (by decide),if_pos rfl] at h
    refine ih (i+1) _ _ (by omega) ?_ ?_ h x (by omega) h2
    ·rw [sk 0 (by decide),← hR]
    ·rw [st 1 rfl,← hS];simp
   ·rw [e] at h st sk
    rw [if_neg (by decide),if_neg (by decide),if_neg (by decide)] at h
    cases S with
    | nil=>cases h
    | cons s S =>
      have h:=(Bool.and_eq_true _ _ ▸ h:_∧_)
      refine ih (i+1) R S (by omega) ?_ ?_ h.2 x (by omega) h2
      ·rw [sk 0 (by decide),← hR]
      ·rw [st 1 rfl,← hS];simp;omega
theorem bal_of {ks:List Nat} {s:Nat} (h:∀ x,x≤ks.length→0≤exc (val (ownL s ks)) (ah s ks x)) (h0:exc (val (ownL s ks)) (ah s ks ks.length)=0):Bal (exc (val (ownL s ks))) (ownL s ks).length:=by
 have e:=ah_all s ks
 refine ⟨fun y hy=>?_,by rw [← e];exact h0⟩
 cases y with
 | zero=>have:=h 0 (Nat.zero_le _);rwa [ah_zero] at this
 | succ y =>
   obtain ⟨i,hi,hs,ha⟩:=ah_find s ks y (by omega)
   have:=h (i+1) hi
   rw [ah_next s ks i hi,if_pos hs,ha] at this
   exact this
theorem rB_iff {ks:List Nat} (kd:Kds ks):rB ks [] [] 0=true↔ErrW ks 0:=by
 have z:∀ s,((([]:List Nat).length:Nat):Int)=exc (val (ownL s ks)) (ah s ks 0):=fun s=>by rw [ah_zero,(exc_Exc _).zero];rfl
 constructor
 ·intro h
  have hb:=rB_bal kd ks.length 0 [] [] (by omega) (z 0) (z 1) h
  have b0:=bal_of (s:=0) (fun x hx=>(hb x (Nat.zero_le _) hx).1.1) ((hb _ (Nat.zero_le _) (Nat.le_refl _)).2 rfl).1
  have b1:=bal_of (s:=1) (fun x hx=>(hb x (Nat.zero_le _) hx).1.2) ((hb _ (Nat.zero_le _) (Nat.le_refl _)).2 rfl).2
  obtain ⟨tw,W⟩:=bal_wd kd b0 b1
  refine .inl ⟨rfl,tw,W,(right_met W).2 fun j hj=>?_⟩
  exact (rB_wd W ks.length 0 (by omega)).1 h j (Nat.zero_le _) hj
 ·rintro (⟨_,tw,W,R⟩ | ⟨h,_⟩ | ⟨h,_⟩)
  ·exact (rB_wd W ks.length 0 (by omega)).2 fun j _ hj=>(right_met W).1 R j hj
  ·omega
  ·omega
def dig4 (x:Nat):Nat→List Nat
 | 0=>[]
 | m+1=>dig4 x m++[x / 4 ^ m%4]
theorem dig4_len (x:Nat):∀ m,(dig4 x m).length=m
 | 0=>rfl
 | m+1=>by unfold dig4;rw [List.length_append,dig4_len x m];rfl
theorem dig4_kd (x:Nat):∀ m,Kds (dig4 x m)
 | 0=>fun k h=>by simp [dig4] at h
 | m+1=>by
   unfold dig4
   exact (dig4_kd x m).append fun k h=>by simp at h;rw [h];exact Nat.mod_lt _ (by decide)
def okB (m x:Nat):Bool:=rB (dig4 x m) [] [] 0
def cntB (m N:Nat):Nat:=((List.range N).filter (okB m)).length
theorem cntB_num (m N:Nat):cntB m N=num (fun x=>okB m x=true) N:=by
 unfold cntB num
 congr 1
 apply List.filter_congr
 intro x _
 simp
theorem cntB_all:cntB 0 1=1∧cntB 2 16=2∧cntB 4 256=9∧cntB 6 4096=54:=by
 refine ⟨by kernel_rfl,by kernel_rfl,by kernel_rfl,by kernel_rfl⟩
theorem num_shift (P:Nat→Prop) (f:Nat) {N:Nat} (h0:0 < N):num (fun k=>P ((k+f)%N)) N=num P N:=by
 have key:∀ (P:Nat→Prop) f,num (fun k=>P ((k+f)%N)) N≤num P N:=fun P f =>
  num_inj (fun k=>(k+f)%N) (fun x hx h=>⟨Nat.mod_lt _ h0,h⟩) (fun x y hx hy _ _ e=>by
   have e:(x+f)%N=(y+f)%N:=e
   have h1:=Nat.div_add_mod (x+f) N
   have h2:=Nat.div_add_mod (y+f) N
   rw [e] at h1
   rcases Nat.lt_trichotomy ((x+f) / N) ((y+f) / N) with c | c | c
   ·have:N*((x+f) / N)+N≤N*((y+f) / N):=by
     have:=Nat.mul_le_mul_left N c
     rw [Nat.mul_succ] at this;exact this
    omega
   ·rw [c] at h1;omega
   ·have:N*((y+f) / N)+N≤N*((x+f) / N):=by
     have:=Nat.mul_le_mul_left N c
     rw [Nat.mul_succ] at this;exact this
    omega)
 refine Nat.le_antisymm (key P f) ?_
 have h2:=key (fun k=>P ((k+f)%N)) (N - f%N)
 have e:num (fun k=>P (((k+(N - f%N))%N+f)%N)) N=num P N:=num_congr fun k hk=>by
  have:((k+(N - f%N))%N+f)%N=k:=by
   rw [Nat.mod_add_mod]
   have h3:=Nat.div_add_mod f N
   have h4:=Nat.mod_lt f h0
   have:k+(N - f%N)+f=k+N*(f / N+1):=by rw [Nat.mul_add,Nat.mul_one];omega
   rw [this,Nat.add_mul_mod_self_left,Nat.mod_eq_of_lt hk]
  rw [this]
 rw [e] at h2
 exact h2
section
variable {l b:List Nat}
end
end Go.Proofs.YtijbdnhlpbcabaaGreatDoor
namespace Go.Proofs.YtijbdnhlpbcabaaGreatDoor
set_option maxRecDepth 20000
section
variable {l b A B:List Nat} {g:Nat→Nat}
end
end Go.Proofs.YtijbdnhlpbcabaaGreatDoor
namespace Go.Proofs.YtijbdnhlpbcabaaGreatDoor
set_option maxRecDepth 100000
end Go.Proofs.YtijbdnhlpbcabaaGreatDoor
