/- Chords on a cycle of darts: just if no two cross there is a cycle more for each. -/
import Derived.Test.YtdinmjciippchaaGreatZg9
import Derived.Test.YtdinmjciippchaaGreatZg1
import Derived.Test.YtdinmjciippchaaGreatProg
import Derived.WalkKit
import Derived.Laws.BitsAllLaws
import Derived.Deep.AppendLies
import Derived.BigRegion
import Derived.Deep.DeepMust
import Derived.Deep.RegionLaw
set_option linter.unusedVariables false
open Go.RowKit
namespace Go.Proofs.YtdinmjciippchaaGreat
/-! ### chords on a cycle -/
section
variable {n m:Nat} {f:Nat→Nat} {P:Nat→Prop}
end
section
variable {n m N:Nat} {f:Nat→Nat} {P:Nat→Prop} {dt tw:Nat→Nat} {F:Nat→Prop}
end
def ofNB (l:List Nat):List Int:=l.map fun (x:Nat)=>(x:Int)
theorem ofN_lenB (l:List Nat):(ofNB l).length=l.length:=by simp [ofNB]
theorem ofN_appendB (l m:List Nat):ofNB (l++m)=ofNB l++ofNB m:=by simp [ofNB]
theorem ofN_takeB (l:List Nat) (k:Nat):ofNB (l.take k)=(ofNB l).take k:=by simp [ofNB,List.map_take]
theorem ofN_getB (l:List Nat) (i:Nat):(ofNB l).getD i 0=((l.getD i 0:Nat):Int):=by
 by_cases h:i < l.length
 ·simp [ofNB,List.getD_eq_getElem?_getD,h]
 ·simp [ofNB,List.getD_eq_getElem?_getD,Nat.le_of_not_lt h]
def val:List Nat→Nat
 | []=>0
 | b :: l=>b+2*val l
def Bin (l:List Nat):Prop:=∀ b∈l,b < 2
theorem Bin.nil:Bin []:=fun _ h=>by cases h
theorem Bin.tail {b:Nat} {l:List Nat} (h:Bin (b :: l)):Bin l:=fun x hx=>h x (List.mem_cons_of_mem _ hx)
theorem Bin.head {b:Nat} {l:List Nat} (h:Bin (b :: l)):b < 2:=h b (List.mem_cons_self ..)
theorem Bin.append {l m:List Nat} (h:Bin l) (k:Bin m):Bin (l++m):=fun x hx=>by
 rcases List.mem_append.1 hx with hx | hx
 ·exact h x hx
 ·exact k x hx
theorem Bin.getD {l:List Nat} (h:Bin l) (i:Nat):l.getD i 0 < 2:=by
 by_cases hi:i < l.length
 ·rw [List.getD_eq_getElem?_getD,List.getElem?_eq_getElem hi]
  exact h _ (List.getElem_mem hi)
 ·rw [List.getD_eq_getElem?_getD,List.getElem?_eq_none (by omega)];decide
theorem val_bit {l:List Nat} (h:Bin l) (i:Nat):val l / 2 ^ i%2=l.getD i 0:=by
 induction l generalizing i with
 | nil=>simp [val]
 | cons b l ih =>
   have hb:=h.head
   cases i with
   | zero=>simp [val];omega
   | succ i =>
     have e:(b+2*val l) / 2 ^ (i+1)=val l / 2 ^ i:=by
      rw [Nat.pow_succ,Nat.mul_comm (2 ^ i) 2,← Nat.div_div_eq_div_mul]
      congr 1;omega
     simp only [val,e,List.getD_cons_succ]
     exact ih h.tail i
def numL (x k:Nat):List Nat:=(List.range k).map fun i=>x / 2 ^ i%2
def Kds (ks:List Nat):Prop:=∀ k∈ks,k < 4
theorem Kds.getD {ks:List Nat} (h:Kds ks) (i:Nat):ks.getD i 0 < 4:=by
 by_cases hi:i < ks.length
 ·rw [List.getD_eq_getElem?_getD,List.getElem?_eq_getElem hi];exact h _ (List.getElem_mem hi)
 ·rw [List.getD_eq_getElem?_getD,List.getElem?_eq_none (by omega)];decide
theorem Kds.append {ks ls:List Nat} (h:Kds ks) (k:Kds ls):Kds (ks++ls):=fun x hx=>by
 rcases List.mem_append.1 hx with h1 | h1
 ·exact h x h1
 ·exact k x h1
def ownL (s:Nat) (ks:List Nat):List Nat:=(ks.filter fun k=>decide (k / 2=s)).map fun k=>1 - k%2
theorem ownL_bin (s:Nat) (ks:List Nat):Bin (ownL s ks):=fun b hb=>by
 obtain ⟨k,_,rfl⟩:=List.mem_map.1 hb
 omega
theorem ownL_app (s:Nat) (ks ls:List Nat):ownL s (ks++ls)=ownL s ks++ownL s ls:=by simp [ownL]
theorem ownL_one (s k:Nat):ownL s [k]=if k / 2=s then [1 - k%2] else []:=by
 unfold ownL
 by_cases h:k / 2=s
 ·simp [h]
 ·simp [h]
theorem take_snoc (ks:List Nat) (i:Nat) (h:i < ks.length):ks.take (i+1)=ks.take i++[ks.getD i 0]:=by
 rw [← List.take_append_getElem h,List.getD_eq_getElem?_getD,List.getElem?_eq_getElem h];rfl
def ah (s:Nat) (ks:List Nat) (i:Nat):Nat:=(ownL s (ks.take i)).length
theorem ah_zero (s:Nat) (ks:List Nat):ah s ks 0=0:=by simp [ah,ownL]
theorem ah_next (s:Nat) (ks:List Nat) (i:Nat) (h:i < ks.length):ah s ks (i+1)=ah s ks i+if ks.getD i 0 / 2=s then 1 else 0:=by
 unfold ah
 rw [take_snoc ks i h,ownL_app,ownL_one,List.length_append]
 split <;> simp
theorem ah_le (s:Nat) (ks:List Nat):∀ i,i≤ks.length→ah s ks i≤i
 | 0,_=>by rw [ah_zero];exact Nat.le_refl _
 | i+1,h=>by
   have:=ah_le s ks i (by omega)
   rw [ah_next s ks i (by omega)]
   split <;> omega
theorem ah_mono (s:Nat) (ks:List Nat) (i:Nat):∀ j,i+j≤ks.length→ah s ks i≤ah s ks (i+j)
 | 0,_=>Nat.le_refl _
 | j+1,h=>by
   have:=ah_mono s ks i j (by omega)
   rw [← Nat.add_assoc,ah_next s ks (i+j) (by omega)]
   split <;> omega
theorem ah_all (s:Nat) (ks:List Nat):ah s ks ks.length=(ownL s ks).length:=by unfold ah;rw [List.take_length]
theorem ah_end (s:Nat) (ks:List Nat) (i:Nat) (h:i≤ks.length):ah s ks i≤(ownL s ks).length:=by
 rw [← ah_all s ks]
 have:=ah_mono s ks i (ks.length - i) (by omega)
 rwa [show i+(ks.length - i)=ks.length by omega] at this
theorem ah_lt (s:Nat) (ks:List Nat) (i:Nat) (h:i < ks.length) (hs:ks.getD i 0 / 2=s):ah s ks i < (ownL s ks).length:=by
 have:=ah_end s ks (i+1) (by omega)
 rw [ah_next s ks i h,if_pos hs] at this
 omega
theorem ownL_take (s:Nat) (ks:List Nat) (i:Nat):ownL s (ks.take i)=(ownL s ks).take (ah s ks i):=by
 have h:ownL s ks=ownL s (ks.take i)++ownL s (ks.drop i):=by rw [← ownL_app,List.take_append_drop]
 rw [h];unfold ah;simp
theorem ownL_get (s:Nat) (ks:List Nat) (i:Nat) (h:i < ks.length) (hs:ks.getD i 0 / 2=s):(ownL s ks).getD (ah s ks i) 0=1 - ks.getD i 0%2:=by
 have h1:=ownL_take s ks (i+1)
 rw [take_snoc ks i h,ownL_app,ownL_one,if_pos hs,ah_next s ks i h,if_pos hs] at h1
 have hlt:=ah_lt s ks i h hs
 rw [take_snoc (ownL s ks) (ah s ks i) hlt,ownL_take] at h1
 have h2:[1 - ks.getD i 0%2]=[(ownL s ks).getD (ah s ks i) 0]:=List.append_inj_right h1 rfl
 exact (List.cons.inj h2).1.symm
theorem ah_find (s:Nat) (ks:List Nat) (y:Nat) (hy:y < (ownL s ks).length):∃ i,i < ks.length∧ks.getD i 0 / 2=s∧ah s ks i=y:=by
 suffices ∀ n,n≤ks.length→y < ah s ks n→∃ i,i < n∧ks.getD i 0 / 2=s∧ah s ks i=y by
  obtain ⟨i,h1,h2,h3⟩:=this ks.length (Nat.le_refl _) (by rw [ah_all];exact hy)
  exact ⟨i,h1,h2,h3⟩
 intro n
 induction n with
 | zero=>intro _ h;rw [ah_zero] at h;omega
 | succ n ih =>
   intro hn h
   by_cases h2:y < ah s ks n
   ·obtain ⟨i,a,b,c⟩:=ih (by omega) h2
    exact ⟨i,by omega,b,c⟩
   ·rw [ah_next s ks n (by omega)] at h
    by_cases h3:ks.getD n 0 / 2=s
    ·rw [if_pos h3] at h
     exact ⟨n,by omega,h3,by omega⟩
    ·rw [if_neg h3] at h;omega
theorem ah_uniq (s:Nat) (ks:List Nat) (i j:Nat) (hi:i < ks.length) (hj:j < ks.length) (h1:ks.getD i 0 / 2=s) (h2:ks.getD j 0 / 2=s) (h:ah s ks i=ah s ks j):i=j:=by
 rcases Nat.lt_trichotomy i j with hlt | he | hgt
 ·have a:=ah_next s ks i hi
  rw [if_pos h1] at a
  have b:=ah_mono s ks (i+1) (j - (i+1)) (by omega)
  rw [show i+1+(j - (i+1))=j by omega] at b
  omega
 ·exact he
 ·have a:=ah_next s ks j hj
  rw [if_pos h2] at a
  have b:=ah_mono s ks (j+1) (i - (j+1)) (by omega)
  rw [show j+1+(i - (j+1))=i by omega] at b
  omega
def pop (x k:Nat):Nat:=(numL x k).sum
theorem numL_add (x a b:Nat):numL x (a+b)=numL x a++numL (x / 2 ^ a) b:=by
 simp only [numL,List.range_add,List.map_append,List.map_map]
 congr 1
 refine List.map_congr_left fun i _=>?_
 simp only [Function.comp]
 rw [Nat.pow_add,Nat.div_div_eq_div_mul]
theorem pop_add (x a b:Nat):pop x (a+b)=pop x a+pop (x / 2 ^ a) b:=by
 unfold pop
 rw [numL_add,List.sum_append]


section
variable {P:Program} (w:World)
end
end Go.Proofs.YtdinmjciippchaaGreat
