/- Lists of noughts and ones, and the number that they are; no program in sight. -/
import Derived.Test.YtajjgpkahljjmaaGreatDoorZg4
import Derived.Test.YtajjgpkahljjmaaGreatDoorZg1
import Derived.Test.YtajjgpkahljjmaaGreatDoorProg
import Derived.WalkKit
import Derived.Laws.BitsAllLaws
import Derived.Deep.AppendLies
import Derived.BigRegion
import Derived.Deep.DeepMust
set_option linter.unusedVariables false
open Go.RowKit
namespace Go.Proofs.YtajjgpkahljjmaaGreatDoor
def ofNB (l:List Nat):List Int:=l.map fun (x:Nat)=>(x:Int)
theorem ofN_lenB (l:List Nat):(ofNB l).length=l.length:=by simp [ofNB]
theorem ofN_appendB (l m:List Nat):ofNB (l++m)=ofNB l++ofNB m:=by simp [ofNB]
theorem ofN_takeB (l:List Nat) (k:Nat):ofNB (l.take k)=(ofNB l).take k:=by simp [ofNB,List.map_take]
theorem ofN_getB (l:List Nat) (i:Nat):(ofNB l).getD i 0=((l.getD i 0:Nat):Int):=by
 by_cases h:i < l.length
 ·simp [ofNB,List.getD_eq_getElem?_getD,h]
 ·simp [ofNB,List.getD_eq_getElem?_getD,Nat.le_of_not_lt h]
def val:List Nat→Nat
 | []=>0
 | b :: l=>b+2*val l
def Bin (l:List Nat):Prop:=∀ b∈l,b < 2
theorem Bin.nil:Bin []:=fun _ h=>by cases h
theorem Bin.tail {b:Nat} {l:List Nat} (h:Bin (b :: l)):Bin l:=fun x hx=>h x (List.mem_cons_of_mem _ hx)
theorem Bin.head {b:Nat} {l:List Nat} (h:Bin (b :: l)):b < 2:=h b (List.mem_cons_self ..)
theorem Bin.append {l m:List Nat} (h:Bin l) (k:Bin m):Bin (l++m):=fun x hx=>by
 rcases List.mem_append.1 hx with hx | hx
 ·exact h x hx
 ·exact k x hx
theorem Bin.take {l:List Nat} (h:Bin l) (k:Nat):Bin (l.take k):=fun x hx=>h x (List.mem_of_mem_take hx)
theorem Bin.drop {l:List Nat} (h:Bin l) (k:Nat):Bin (l.drop k):=fun x hx=>h x (List.mem_of_mem_drop hx)
theorem Bin.getD {l:List Nat} (h:Bin l) (i:Nat):l.getD i 0 < 2:=by
 by_cases hi:i < l.length
 ·rw [List.getD_eq_getElem?_getD,List.getElem?_eq_getElem hi]
  exact h _ (List.getElem_mem hi)
 ·rw [List.getD_eq_getElem?_getD,List.getElem?_eq_none (by omega)];decide
theorem val_lt {l:List Nat} (h:Bin l):val l < 2 ^ l.length:=by
 induction l with
 | nil=>simp [val]
 | cons b l ih =>
   have h1:=ih h.tail
   have h2:=h.head
   simp only [val,List.length_cons,Nat.pow_succ]
   omega
theorem val_append (l m:List Nat):val (l++m)=val l+2 ^ l.length*val m:=by
 induction l with
 | nil=>simp [val]
 | cons b l ih =>
   simp only [List.cons_append,val,ih,List.length_cons,Nat.pow_succ]
   rw [Nat.mul_add,← Nat.mul_assoc,Nat.mul_comm 2 (2 ^ l.length)]
   omega
theorem val_bit {l:List Nat} (h:Bin l) (i:Nat):val l / 2 ^ i%2=l.getD i 0:=by
 induction l generalizing i with
 | nil=>simp [val]
 | cons b l ih =>
   have hb:=h.head
   cases i with
   | zero=>simp [val];omega
   | succ i =>
     have e:(b+2*val l) / 2 ^ (i+1)=val l / 2 ^ i:=by
      rw [Nat.pow_succ,Nat.mul_comm (2 ^ i) 2,← Nat.div_div_eq_div_mul]
      congr 1;omega
     simp only [val,e,List.getD_cons_succ]
     exact ih h.tail i
theorem val_inj {l m:List Nat} (h:Bin l) (k:Bin m) (hl:l.length=m.length) (e:val l=val m):l=m:=by
 apply List.ext_getElem hl
 intro i h1 h2
 have a:=val_bit h i
 have b:=val_bit k i
 rw [e,b] at a
 simpa [List.getD_eq_getElem?_getD,List.getElem?_eq_getElem h1,List.getElem?_eq_getElem h2] using a.symm
def numL (x k:Nat):List Nat:=(List.range k).map fun i=>x / 2 ^ i%2
theorem numL_len (x k:Nat):(numL x k).length=k:=by simp [numL]
theorem numL_bin (x k:Nat):Bin (numL x k):=fun b hb=>by
 simp only [numL,List.mem_map] at hb
 obtain ⟨i,_,rfl⟩:=hb
 exact Nat.mod_lt _ (by decide)
theorem numL_next (x k:Nat):numL x (k+1)=numL x k++[x / 2 ^ k%2]:=by simp [numL,List.range_succ]
theorem mod_next (x k:Nat):x%2 ^ (k+1)=x%2 ^ k+2 ^ k*(x / 2 ^ k%2):=by rw [Nat.pow_succ,Nat.mod_mul]
theorem val_numL (x k:Nat):val (numL x k)=x%2 ^ k:=by
 induction k with
 | zero=>simp [numL,val,Nat.mod_one]
 | succ k ih=>rw [numL_next,val_append,ih,numL_len,mod_next];simp [val]
theorem val_take {l:List Nat} (h:Bin l) (k:Nat):val (l.take k)=val l%2 ^ k:=by
 by_cases hk:k≤l.length
 ·have e:=val_append (l.take k) (l.drop k)
  rw [List.take_append_drop,List.length_take,Nat.min_eq_left hk] at e
  rw [e,Nat.add_mul_mod_self_left]
  have:=val_lt (h.take k)
  rw [List.length_take,Nat.min_eq_left hk] at this
  exact (Nat.mod_eq_of_lt this).symm
 ·rw [List.take_of_length_le (by omega)]
  exact (Nat.mod_eq_of_lt (Nat.lt_of_lt_of_le (val_lt h) (Nat.pow_le_pow_right (by omega) (by omega)))).symm
theorem put_val {l m:List Nat} (hm:Bin m):put (val l) l.length (val m) m.length=val (l++m):=by
 unfold put
 rw [val_append,Nat.mod_eq_of_lt (val_lt hm),Nat.mul_comm]
theorem numL_val {l:List Nat} (h:Bin l) (k:Nat) (hk:k≤l.length):numL (val l) k=l.take k:=by
 refine val_inj (numL_bin _ _) (h.take k) (by rw [numL_len,List.length_take,Nat.min_eq_left hk]) ?_
 rw [val_numL,val_take h]
def bit1 (x:Int):Nat:=if x=0 then 0 else 1
theorem bit1_ofN {l:List Nat} (h:Bin l):(ofNB l).map bit1=l:=by
 induction l with
 | nil=>rfl
 | cons b l ih =>
   have:=h.head
   simp only [ofNB,List.map_cons,List.cons.injEq] at ih ⊢
   refine ⟨?_,ih h.tail⟩
   unfold bit1;split <;> omega
theorem put_one (l:List Nat) (x:Int):put (val l) l.length (bit1 x) 1=val (l++[bit1 x]):=by
 have h:Bin [bit1 x]:=fun b hb=>by
  simp only [List.mem_singleton] at hb
  subst hb;unfold bit1;split <;> decide
 have:=put_val (l:=l) h
 simpa [val] using this
def Kds (ks:List Nat):Prop:=∀ k∈ks,k < 4
theorem Kds.take {ks:List Nat} (h:Kds ks) (i:Nat):Kds (ks.take i):=fun k hk=>h k (List.mem_of_mem_take hk)
theorem Kds.getD {ks:List Nat} (h:Kds ks) (i:Nat):ks.getD i 0 < 4:=by
 by_cases hi:i < ks.length
 ·rw [List.getD_eq_getElem?_getD,List.getElem?_eq_getElem hi];exact h _ (List.getElem_mem hi)
 ·rw [List.getD_eq_getElem?_getD,List.getElem?_eq_none (by omega)];decide
theorem Kds.append {ks ls:List Nat} (h:Kds ks) (k:Kds ls):Kds (ks++ls):=fun x hx=>by
 rcases List.mem_append.1 hx with h1 | h1
 ·exact h x h1
 ·exact k x h1
def shp (ks:List Nat):List Nat:=ks.map (· / 2)
theorem shp_len (ks:List Nat):(shp ks).length=ks.length:=by simp [shp]
theorem shp_bin {ks:List Nat} (h:Kds ks):Bin (shp ks):=fun b hb=>by
 obtain ⟨k,hk,rfl⟩:=List.mem_map.1 hb
 have:=h k hk;omega
theorem shp_get (ks:List Nat) (i:Nat):(shp ks).getD i 0=ks.getD i 0 / 2:=by
 by_cases hi:i < ks.length
 ·simp [shp,List.getD_eq_getElem?_getD,hi]
 ·simp [shp,List.getD_eq_getElem?_getD,List.getElem?_eq_none (show ks.length≤i by omega)]
def ownL (s:Nat) (ks:List Nat):List Nat:=(ks.filter fun k=>decide (k / 2=s)).map fun k=>1 - k%2
theorem ownL_bin (s:Nat) (ks:List Nat):Bin (ownL s ks):=fun b hb=>by
 obtain ⟨k,_,rfl⟩:=List.mem_map.1 hb
 omega
theorem ownL_app (s:Nat) (ks ls:List Nat):ownL s (ks++ls)=ownL s ks++ownL s ls:=by simp [ownL]
theorem ownL_one (s k:Nat):ownL s [k]=if k / 2=s then [1 - k%2] else []:=by
 unfold ownL
 by_cases h:k / 2=s
 ·simp [h]
 ·simp [h]
theorem take_snoc (ks:List Nat) (i:Nat) (h:i < ks.length):ks.take (i+1)=ks.take i++[ks.getD i 0]:=by
 rw [← List.take_append_getElem h,List.getD_eq_getElem?_getD,List.getElem?_eq_getElem h];rfl
def ah (s:Nat) (ks:List Nat) (i:Nat):Nat:=(ownL s (ks.take i)).length
theorem ah_zero (s:Nat) (ks:List Nat):ah s ks 0=0:=by simp [ah,ownL]
theorem ah_next (s:Nat) (ks:List Nat) (i:Nat) (h:i < ks.length):ah s ks (i+1)=ah s ks i+if ks.getD i 0 / 2=s then 1 else 0:=by
 unfold ah
 rw [take_snoc ks i h,ownL_app,ownL_one,List.length_append]
 split <;> simp
theorem ah_le (s:Nat) (ks:List Nat):∀ i,i≤ks.length→ah s ks i≤i
 | 0,_=>by rw [ah_zero];exact Nat.le_refl _
 | i+1,h=>by
   have:=ah_le s ks i (by omega)
   rw [ah_next s ks i (by omega)]
   split <;> omega
theorem ah_mono (s:Nat) (ks:List Nat) (i:Nat):∀ j,i+j≤ks.length→ah s ks i≤ah s ks (i+j)
 | 0,_=>Nat.le_refl _
 | j+1,h=>by
   have:=ah_mono s ks i j (by omega)
   rw [← Nat.add_assoc,ah_next s ks (i+j) (by omega)]
   split <;> omega
theorem ah_all (s:Nat) (ks:List Nat):ah s ks ks.length=(ownL s ks).length:=by unfold ah;rw [List.take_length]
theorem ah_end (s:Nat) (ks:List Nat) (i:Nat) (h:i≤ks.length):ah s ks i≤(ownL s ks).length:=by
 rw [← ah_all s ks]
 have:=ah_mono s ks i (ks.length - i) (by omega)
 rwa [show i+(ks.length - i)=ks.length by omega] at this
theorem ah_lt (s:Nat) (ks:List Nat) (i:Nat) (h:i < ks.length) (hs:ks.getD i 0 / 2=s):ah s ks i < (ownL s ks).length:=by
 have:=ah_end s ks (i+1) (by omega)
 rw [ah_next s ks i h,if_pos hs] at this
 omega
theorem ownL_take (s:Nat) (ks:List Nat) (i:Nat):ownL s (ks.take i)=(ownL s ks).take (ah s ks i):=by
 have h:ownL s ks=ownL s (ks.take i)++ownL s (ks.drop i):=by rw [← ownL_app,List.take_append_drop]
 rw [h];unfold ah;simp
theorem ownL_get (s:Nat) (ks:List Nat) (i:Nat) (h:i < ks.length) (hs:ks.getD i 0 / 2=s):(ownL s ks).getD (ah s ks i) 0=1 - ks.getD i 0%2:=by
 have h1:=ownL_take s ks (i+1)
 rw [take_snoc ks i h,ownL_app,ownL_one,if_pos hs,ah_next s ks i h,if_pos hs] at h1
 have hlt:=ah_lt s ks i h hs
 rw [take_snoc (ownL s ks) (ah s ks i) hlt,ownL_take] at h1
 have h2:[1 - ks.getD i 0%2]=[(ownL s ks).getD (ah s ks i) 0]:=List.append_inj_right h1 rfl
 exact (List.cons.inj h2).1.symm
theorem ah_find (s:Nat) (ks:List Nat) (y:Nat) (hy:y < (ownL s ks).length):∃ i,i < ks.length∧ks.getD i 0 / 2=s∧ah s ks i=y:=by
 suffices ∀ n,n≤ks.length→y < ah s ks n→∃ i,i < n∧ks.getD i 0 / 2=s∧ah s ks i=y by
  obtain ⟨i,h1,h2,h3⟩:=this ks.length (Nat.le_refl _) (by rw [ah_all];exact hy)
  exact ⟨i,h1,h2,h3⟩
 intro n
 induction n with
 | zero=>intro _ h;rw [ah_zero] at h;omega
 | succ n ih =>
   intro hn h
   by_cases h2:y < ah s ks n
   ·obtain ⟨i,a,b,c⟩:=ih (by omega) h2
    exact ⟨i,by omega,b,c⟩
   ·rw [ah_next s ks n (by omega)] at h
    by_cases h3:ks.getD n 0 / 2=s
    ·rw [if_pos h3] at h
     exact ⟨n,by omega,h3,by omega⟩
    ·rw [if_neg h3] at h;omega
theorem ah_uniq (s:Nat) (ks:List Nat) (i j:Nat) (hi:i < ks.length) (hj:j < ks.length) (h1:ks.getD i 0 / 2=s) (h2:ks.getD j 0 / 2=s) (h:ah s ks i=ah s ks j):i=j:=by
 rcases Nat.lt_trichotomy i j with hlt | he | hgt
 ·have a:=ah_next s ks i hi
  rw [if_pos h1] at a
  have b:=ah_mono s ks (i+1) (j - (i+1)) (by omega)
  rw [show i+1+(j - (i+1))=j by omega] at b
  omega
 ·exact he
 ·have a:=ah_next s ks j hj
  rw [if_pos h2] at a
  have b:=ah_mono s ks (j+1) (i - (j+1)) (by omega)
  rw [show j+1+(i - (j+1))=i by omega] at b
  omega
def pop (x k:Nat):Nat:=(numL x k).sum
theorem numL_add (x a b:Nat):numL x (a+b)=numL x a++numL (x / 2 ^ a) b:=by
 simp only [numL,List.range_add,List.map_append,List.map_map]
 congr 1
 refine List.map_congr_left fun i _=>?_
 simp only [Function.comp]
 rw [Nat.pow_add,Nat.div_div_eq_div_mul]
theorem pop_add (x a b:Nat):pop x (a+b)=pop x a+pop (x / 2 ^ a) b:=by
 unfold pop
 rw [numL_add,List.sum_append]
theorem numL_mod (x k:Nat):numL (x%2 ^ k) k=numL x k:=by
 refine List.map_congr_left fun i hi=>?_
 rw [List.mem_range] at hi
 have h:(x%2 ^ k).testBit i=x.testBit i:=by rw [Nat.testBit_mod_two_pow];simp [hi]
 rw [Nat.testBit_eq_decide_div_mod_eq,Nat.testBit_eq_decide_div_mod_eq,decide_eq_decide] at h
 omega
theorem pop_mod (x k:Nat):pop (x%2 ^ k) k=pop x k:=by unfold pop;rw [numL_mod]
theorem pop_zero (k:Nat):pop 0 k=0:=by
 unfold pop numL
 induction k with
 | zero=>rfl
 | succ k ih=>rw [List.range_succ,List.map_append,List.sum_append,ih];simp
theorem and_cut (a b c d:Nat) (hb:b < 256) (hd:d < 256):(a*256+b) &&& (c*256+d)=(a &&& c)*256+(b &&& d):=by
 have hbd:b &&& d < 2 ^ 8:=Nat.and_lt_two_pow b hd
 have e:∀ u v:Nat,u*256+v=2 ^ 8*u+v:=fun u v=>by omega
 rw [e a b,e c d,e _ _]
 apply Nat.eq_of_testBit_eq
 intro j
 rw [Nat.testBit_and,Nat.testBit_two_pow_mul_add a (i:=8) hb,Nat.testBit_two_pow_mul_add c (i:=8) hd,Nat.testBit_two_pow_mul_add (a &&& c) (i:=8) hbd]
 by_cases hj:j < 8
 ·simp [hj,Nat.testBit_and]
 ·simp [hj,Nat.testBit_and]
def st1 (x M:Nat):Nat:=(x / 2 &&& M)+(x &&& M)
def st2 (x M:Nat):Nat:=(x / 4 &&& M)+(x &&& M)
def st3 (x M:Nat):Nat:=(x / 16+x) &&& M
theorem st1_cut (a b M:Nat) (hb:b < 256):st1 (a*256+b) (M*256+85)=st1 a M*256+st1 b 85:=by
 have h:∀ t,t < 2→∀ b,b < 256→(t*128+b / 2) &&& 85=b / 2 &&& 85:=by decide +kernel
 unfold st1
 rw [show (a*256+b) / 2=(a / 2)*256+(a%2*128+b / 2) by omega,and_cut _ _ _ _ (by omega) (by omega),and_cut _ _ _ _ hb (by omega),h _ (by omega) _ hb]
 omega
theorem st2_cut (a b M:Nat) (hb:b < 256):st2 (a*256+b) (M*256+51)=st2 a M*256+st2 b 51:=by
 have h:∀ t,t < 4→∀ b,b < 256→(t*64+b / 4) &&& 51=b / 4 &&& 51:=by decide +kernel
 unfold st2
 rw [show (a*256+b) / 4=(a / 4)*256+(a%4*64+b / 4) by omega,and_cut _ _ _ _ (by omega) (by omega),and_cut _ _ _ _ hb (by omega),h _ (by omega) _ hb]
 omega
theorem st3_cut (a b M:Nat) (hb:b < 69) (ha:a%16 < 5):st3 (a*256+b) (M*256+15)=st3 a M*256+st3 b 15:=by
 have h:∀ t,t < 5→∀ b,b < 69→(t*16+b / 16+b) &&& 15=(b / 16+b) &&& 15:=by decide +kernel
 unfold st3
 rw [show (a*256+b) / 16+(a*256+b)=(a / 16+a)*256+(a%16*16+b / 16+b) by omega,and_cut _ _ _ _ (by omega) (by omega),h _ ha _ hb]
def nb:List Nat→Nat
 | []=>0
 | b :: l=>nb l*256+b
def repB (d:Nat):Nat→Nat
 | 0=>0
 | k+1=>repB d k*256+d
theorem st1_nb (l:List Nat) (h:∀ b∈l,b < 256):st1 (nb l) (repB 85 l.length)=nb (l.map (st1 · 85)):=by
 induction l with
 | nil=>rfl
 | cons b l ih=>simp only [nb,repB,List.length_cons,List.map_cons];rw [st1_cut _ _ _ (h b (by simp)),ih fun x hx=>h x (by simp [hx])]
theorem st2_nb (l:List Nat) (h:∀ b∈l,b < 256):st2 (nb l) (repB 51 l.length)=nb (l.map (st2 · 51)):=by
 induction l with
 | nil=>rfl
 | cons b l ih=>simp only [nb,repB,List.length_cons,List.map_cons];rw [st2_cut _ _ _ (h b (by simp)),ih fun x hx=>h x (by simp [hx])]
theorem st3_nb (l:List Nat) (h:∀ b∈l,b < 69∧b%16 < 5):st3 (nb l) (repB 15 l.length)=nb (l.map (st3 · 15)):=by
 induction l with
 | nil=>rfl
 | cons b l ih =>
   simp only [nb,repB,List.length_cons,List.map_cons]
   rw [st3_cut _ _ _ (h b (by simp)).1,ih fun x hx=>h x (by simp [hx])]
   cases l with
   | nil=>simp [nb]
   | cons c l=>have:=(h c (by simp)).2;simp only [nb];omega
theorem byte_1:∀ b,b < 256→st1 b 85 < 256:=by decide +kernel
theorem byte_2:∀ b,b < 256→st2 (st1 b 85) 51 < 69∧st2 (st1 b 85) 51%16 < 5:=by decide +kernel
theorem byte_3:∀ b,b < 256→st3 (st2 (st1 b 85) 51) 15=pop b 8:=by decide +kernel
theorem byte_4:∀ b,b < 256→pop b 8 < 9:=by decide +kernel
theorem steps_nb (l:List Nat) (h:∀ b∈l,b < 256):st3 (st2 (st1 (nb l) (repB 85 l.length)) (repB 51 l.length)) (repB 15 l.length)=nb (l.map (pop · 8)):=by
 rw [st1_nb l h]
 have h2:=st2_nb (l.map (st1 · 85)) (fun b hb=>by
  simp only [List.mem_map] at hb
  obtain ⟨a,ha,rfl⟩:=hb
  exact byte_1 a (h a ha))
 rw [List.length_map] at h2
 rw [h2]
 have h3:=st3_nb ((l.map (st1 · 85)).map (st2 · 51)) (fun b hb=>by
  simp only [List.mem_map] at hb
  obtain ⟨a,⟨c,hc,rfl⟩,rfl⟩:=hb
  exact byte_2 c (h c hc))
 rw [List.length_map,List.length_map] at h3
 rw [h3,List.map_map,List.map_map]
 congr 1
 exact List.map_congr_left fun b hb=>byte_3 b (h b hb)
def by8 (x:Nat):List Nat:=[x%256,x / 256%256,x / 65536%256,x / 16777216%256,x / 4294967296%256,x / 1099511627776%256,x / 281474976710656%256,x / 72057594037927936%256]
theorem nb_by8 (x:Nat) (h:x < 2 ^ 64):nb (by8 x)=x:=by
 simp only [by8,nb]
 omega
theorem by8_lt (x:Nat):∀ b∈by8 x,b < 256:=fun b hb=>by
 simp only [by8,List.mem_cons,List.not_mem_nil,or_false] at hb
 omega
theorem pop8 (x:Nat):pop x 8=pop (x%256) 8:=(pop_mod x 8).symm
theorem pop_by8 (x:Nat):pop x 64=pop (x%256) 8+pop (x / 256%256) 8+pop (x / 65536%256) 8+pop (x / 16777216%256) 8+pop (x / 4294967296%256) 8+pop (x / 1099511627776%256) 8+pop (x / 281474976710656%256) 8+pop (x / 72057594037927936%256) 8:=by
 rw [show (64:Nat)=8+8+8+8+8+8+8+8 by rfl]
 simp only [pop_add]
 rw [pop8 x,pop8 (x / 2 ^ 8),pop8 (x / 2 ^ (8+8)),pop8 (x / 2 ^ (8+8+8)),pop8 (x / 2 ^ (8+8+8+8)),pop8 (x / 2 ^ (8+8+8+8+8)),pop8 (x / 2 ^ (8+8+8+8+8+8)),pop8 (x / 2 ^ (8+8+8+8+8+8+8))]
theorem div1 (s0 s1 s2 s3 s4 s5 s6 s7:Nat) (h0:s0 < 256):((((((((0*256+s7)*256+s6)*256+s5)*256+s4)*256+s3)*256+s2)*256+s1)*256+s0) / 256=((((((0*256+s7)*256+s6)*256+s5)*256+s4)*256+s3)*256+s2)*256+s1:=by omega
theorem div2 (s0 s1 s2 s3 s4 s5 s6 s7:Nat) (h0:s0 < 256) (h1:s1 < 256):((((((((0*256+s7)*256+s6)*256+s5)*256+s4)*256+s3)*256+s2)*256+s1)*256+s0) / 65536=(((((0*256+s7)*256+s6)*256+s5)*256+s4)*256+s3)*256+s2:=by omega
theorem div4 (s0 s1 s2 s3 s4 s5 s6 s7:Nat) (h0:s0 < 256) (h1:s1 < 256) (h2:s2 < 256) (h3:s3 < 256):((((((((0*256+s7)*256+s6)*256+s5)*256+s4)*256+s3)*256+s2)*256+s1)*256+s0) / 4294967296=(((0*256+s7)*256+s6)*256+s5)*256+s4:=by omega
theorem fold8 (c0 c1 c2 c3 c4 c5 c6 c7:Nat) (b0:c0 < 9) (b1:c1 < 9) (b2:c2 < 9) (b3:c3 < 9) (b4:c4 < 9) (b5:c5 < 9) (b6:c6 < 9) (b7:c7 < 9) (X3 X4 X5 X6:Nat)
  (h3:X3=(((((((0*256+c7)*256+c6)*256+c5)*256+c4)*256+c3)*256+c2)*256+c1)*256+c0) (h4:X4=X3+X3 / 256) (h5:X5=X4+X4 / 65536) (h6:X6=X5+X5 / 4294967296):X6%128=c0+c1+c2+c3+c4+c5+c6+c7∧X6 < 2 ^ 61:=by
 have e4:X4=(((((((0*256+c7)*256+(c6+c7))*256+(c5+c6))*256+(c4+c5))*256+(c3+c4))*256+(c2+c3))*256+(c1+c2))*256+(c0+c1):=by
  rw [h4,h3,div1 _ _ _ _ _ _ _ _ (by omega)];omega
 clear h3 h4
 have e5:X5=(((((((0*256+c7)*256+(c6+c7))*256+(c5+c6+c7))*256+(c4+c5+c6+c7))*256+(c3+c4+c5+c6))*256+(c2+c3+c4+c5))*256+(c1+c2+c3+c4))*256+(c0+c1+c2+c3):=by
  rw [h5,e4,div2 _ _ _ _ _ _ _ _ (by omega) (by omega)];omega
 clear h5 e4
 have e6:X6=(((((((0*256+c7)*256+(c6+c7))*256+(c5+c6+c7))*256+(c4+c5+c6+c7))*256+(c3+c4+c5+c6+c7))*256+(c2+c3+c4+c5+c6+c7))*256+(c1+c2+c3+c4+c5+c6+c7))*256+(c0+c1+c2+c3+c4+c5+c6+c7):=by
  rw [h6,e5,div4 _ _ _ _ _ _ _ _ (by omega) (by omega) (by omega) (by omega)];omega
 rw [e6]
 constructor <;> omega
theorem swar (x:Nat) (h:x < 2 ^ 64):∃ X1 X2 X3 X4 X5 X6:Nat,X1=(x / 2 &&& 6148914691236517205)+(x &&& 6148914691236517205)∧X2=(X1 / 4 &&& 3689348814741910323)+(X1 &&& 3689348814741910323) ∧
  X3=(X2 / 16+X2) &&& 1085102592571150095∧X4=X3+X3 / 256∧X5=X4+X4 / 65536∧X6=X5+X5 / 4294967296∧X6%128=pop x 64∧X3≤1085102592571150095∧X6 < 2 ^ 61:=by
 have e:=steps_nb (by8 x) (by8_lt x)
 rw [nb_by8 x h] at e
 have r1:repB 85 (by8 x).length=6148914691236517205:=by simp [by8,repB]
 have r2:repB 51 (by8 x).length=3689348814741910323:=by simp [by8,repB]
 have r3:repB 15 (by8 x).length=1085102592571150095:=by simp [by8,repB]
 rw [r1,r2,r3] at e
 simp only [by8,List.map_cons,List.map_nil,nb,st1,st2,st3] at e
 have f:=fold8 _ _ _ _ _ _ _ _ (byte_4 (x%256) (by omega)) (byte_4 (x / 256%256) (by omega)) (byte_4 (x / 65536%256) (by omega)) (byte_4 (x / 16777216%256) (by omega)) (byte_4 (x / 4294967296%256) (by omega)) (byte_4 (x / 1099511627776%256) (by omega)) (byte_4 (x / 281474976710656%256) (by omega)) (byte_4 (x / 72057594037927936%256) (by omega)) _ _ _ _ e rfl rfl rfl
 exact ⟨_,_,_,_,_,_,rfl,rfl,rfl,rfl,rfl,rfl,by rw [pop_by8];exact f.1,Nat.and_le_right,f.2⟩
def cnt64 (k:Int):Nat:=if k≤0 then 0 else if 64≤k then 64 else k.toNat
theorem count_p (k:Int) (w:World) (h:-9223372036854775808≤k∧k≤9223372036854775807) :
  Calls Tryz.prog 133 #[.int .i64 k] w fun e w'=>e=.returned (.int .i64 (cnt64 k:Int))∧w=w':=by
 obtain ⟨m,hm,hm0⟩:∃ m:Int,(∀ w,(Builtin.max_ #[3,3] 3 #[.int .i64 k,.int .i64 0]).run Tryz.prog w=.ok (.int .i64 m) w)∧m=(if k≤0 then 0 else k) :=
  ⟨if k≤0 then 0 else k,fun w=>by simp [Builtin.max_,Builtin.max2];split <;> split <;> omega,rfl⟩
 have hmn:∀ w,(Builtin.min_ #[3,3] 3 #[.int .i64 m,.int .i64 64]).run Tryz.prog w=.ok (.int .i64 ((cnt64 k:Nat):Int)) w:=fun w=>by
  simp [Builtin.min_,Builtin.min2,cnt64]
  repeat' split
  all_goals (first | rfl | omega | (subst hm0;repeat' split at*<;> omega) | (simp_all;omega))
 generalize cnt64 k=c at *
 clear hm0
 go_enter Tryz.func133,Tryz.ntmps133
 go_wp2
 go_ret
 exact ⟨rfl,rfl⟩
theorem low_eq:∀ k:Nat,k < 65→(18446744073709551615:Int) / 2 ^ (64 - k)=((2 ^ k - 1:Nat):Int):=by decide +kernel
theorem low_p (k:Nat) (w:World) (h:k≤64) :
  Calls Tryz.prog 134 #[.int .i64 (k:Int)] w fun e w'=>e=.returned (.int .u64 ((2 ^ k - 1:Nat):Int))∧w=w':=by
 go_enter Tryz.func134,Tryz.ntmps134
 go_wp2
 go_ret
 exact ⟨congrArg (fun x=>Ending.returned (.int .u64 x)) (low_eq k (by omega)),rfl⟩
def U64 (z:List Nat):List Value:=z.map fun (x:Nat)=>Value.int .u64 (x:Int)
theorem U64_len (z:List Nat):(U64 z).length=z.length:=by simp [U64]
theorem U64_append (l m:List Nat):U64 (l++m)=U64 l++U64 m:=by simp [U64]
theorem U64_set (y:List Nat) (k v:Nat):U64 (y.set k v)=(U64 y).set k (.int .u64 (v:Int)):=by simp [U64,List.map_set]
theorem U64_get (z:List Nat) (k:Nat) (hk:k < z.length):(U64 z)[k]?=some (.int .u64 ((z.getD k 0:Nat):Int)):=by
 simp [U64,List.getD_eq_getElem?_getD,List.getElem?_eq_getElem hk]
def words (V m:Nat):List Nat:=(List.range m).map (wd V)
theorem words_len (V m:Nat):(words V m).length=m:=by simp [words]
theorem words_get (V m i:Nat) (h:i < m):(words V m).getD i 0=wd V i:=by simp [words,List.getD_eq_getElem?_getD,h]
theorem words_next (V m:Nat):words V (m+1)=words V m++[wd V m]:=by simp [words,List.range_succ]
def VecB (w:World) (B g V n:Nat) (A:Option Addr):Prop :=
 V < 2 ^ n∧n≤1000000∧∃ c,Blk w g 104 #[.slice A ((n+63) / 64) c,.int .i64 (n:Int)] ∧
  w.ownsRow B 139 1 (.slice A ((n+63) / 64) c) ((n+63) / 64) (U64 (words V ((n+63) / 64)))
def VecAt (w:World) (g V n:Nat) (A:Option Addr):Prop:=VecB w (g+1) g V n A
theorem VecB.below {w w':World} {B g V n:Nat} {A:Option Addr} (h:VecB w B g V n A) (m:Below w.heap.size w w'):VecB w' B g V n A:=by
 obtain ⟨h1,h2,c,h3,h4⟩:=h
 exact ⟨h1,h2,c,h3.below m,own_below h4 m⟩
theorem VecB.base {w:World} {B B' g V n:Nat} {A:Option Addr} (h:VecB w B g V n A) (hB:B'≤B):VecB w B' g V n A:=by
 obtain ⟨h1,h2,c,h3,h4⟩:=h
 exact ⟨h1,h2,c,h3,h4.base_le' hB⟩
def foot (g:Nat) (A:Option Addr) (i:Nat):Prop:=i=g∨∃ b,A=some ⟨b,0,none⟩∧i=b
theorem VecB.foot_lt {w:World} {B g V n:Nat} {A:Option Addr} (h:VecB w B g V n A) {i:Nat} (hi:foot g A i):i < w.heap.size:=by
 obtain ⟨h1,h2,c,h3,h4⟩:=h
 rcases hi with rfl | ⟨b,rfl,rfl⟩
 ·exact h3.lt
 ·exact (h4.lt _ rfl).2
theorem VecB.foot_le {w:World} {B g V n:Nat} {A:Option Addr} (h:VecB w B g V n A) {i:Nat} (hi:foot g A i):i=g∨B≤i:=by
 obtain ⟨h1,h2,c,h3,h4⟩:=h
 rcases hi with rfl | ⟨b,rfl,rfl⟩
 ·exact .inl rfl
 ·exact .inr (h4.lt _ rfl).1
theorem VecB.mod {w w':World} {S:Nat→Prop} {B g V n:Nat} {A:Option Addr} (h:VecB w B g V n A) (m:Mod S w w') (hs:∀ i,foot g A i→¬ S i):VecB w' B g V n A:=by
 obtain ⟨h1,h2,c,h3,h4⟩:=h
 refine ⟨h1,h2,c,h3.mod m (hs g (.inl rfl)),own_mod h4 m fun k hk=>hs k (.inr ?_)⟩
 rcases h4.2 with ⟨e,_⟩ | ⟨b,cap,cur,e,_⟩
 ·simp only [Value.slice.injEq] at e
  rw [e.1] at hk;simp [Value.ownBlock] at hk
 ·simp only [Value.slice.injEq] at e
  rw [e.1] at hk ⊢
  simp [Value.ownBlock] at hk
  exact ⟨b,rfl,hk.symm⟩
theorem VecAt.below {w w':World} {g V n:Nat} {A:Option Addr} (h:VecAt w g V n A) (m:Below w.heap.size w w'):VecAt w' g V n A:=VecB.below h m
theorem bnew_p (w:World) :
  Calls Tryz.prog 66 #[] w fun e w'=>e=.returned (.pointer (some ⟨w.heap.size,0,none⟩))∧VecAt w' w.heap.size 0 0 none∧Below w.heap.size w w':=by
 go_enter Tryz.func66,Tryz.ntmps66
 go_wp2
 go_ret
 refine ⟨rfl,⟨by decide,by omega,0,?_,?_⟩,(Below.refl _ _).alloc (Nat.le_refl _) _⟩
 ·exact Blk.new w _ _
 ·simpa [words,U64] using World.ownsRow_nil _ _ _ _
theorem blen_p (g V n:Nat) (A:Option Addr) (w:World) {B:Nat} (h:VecB w B g V n A) :
  Calls Tryz.prog 23 #[.pointer (some ⟨g,0,none⟩)] w fun e w'=>e=.returned (.int .i64 (n:Int))∧w=w':=by
 obtain ⟨h1,h2,c,hb,ho⟩:=h
 have c1:w.cell? ⟨g,1,none⟩=some (.int .i64 (n:Int)):=hb.cell 1
 clear hb ho
 go_enter Tryz.func23,Tryz.ntmps23
 go_wp2
 go_ret
 exact ⟨rfl,rfl⟩
theorem wrap_u64 (y s:Nat):IntKind.u64.wrap ((y:Int)*2 ^ s)=((y*2 ^ s%2 ^ 64:Nat):Int):=by
 simp [IntKind.wrap,IntKind.signed,IntKind.bits]
theorem get_p (g V n p k:Nat) (A:Option Addr) (w:World) {B:Nat} (h:VecB w B g V n A) (hk0:1≤k) (hk:k≤64) (hp:p+k≤n) :
  Calls Tryz.prog 132 #[.pointer (some ⟨g,0,none⟩),.int .i64 (p:Int),.int .i64 (k:Int)] w fun e w'=>e=.returned (.int .u64 ((V / 2 ^ p%2 ^ k:Nat):Int))∧w=w':=by
 obtain ⟨h1,h2,c,hb,ho⟩:=h
 have c0:w.cell? ⟨g,0,none⟩=some (.slice A ((n+63) / 64) c):=hb.cell 0
 obtain ⟨m,hm⟩:∃ m,m=(n+63) / 64:=⟨_,rfl⟩
 rw [← hm] at c0 ho
 obtain ⟨b,rfl,hb1,hb2⟩:=own_some ho (by omega)
 have cell:∀ i,i < m→w.cell? ⟨b,i,none⟩=some (.int .u64 ((wd V i:Nat):Int)):=fun i hi=>by
  have r:=Rd.ofOwn ho
  obtain ⟨b',o',e,_,hc⟩:=r.at_ (by omega)
  have hl:i < (U64 (words V m)).length:=by rw [U64_len,words_len];exact hi
  have:=hc i hl
  cases e
  rw [Nat.zero_add] at this
  rw [this]
  have h3:=U64_get (words V m) i (by rw [words_len];exact hi)
  rw [words_get _ _ _ hi,List.getElem?_eq_getElem hl] at h3
  exact h3
 obtain ⟨i,hi⟩:∃ i,i=p / 64:=⟨_,rfl⟩
 obtain ⟨s,hs⟩:∃ s,s=p%64:=⟨_,rfl⟩
 have hs64:s < 64:=by omega
 have him:i < m:=by omega
 have ci:=cell i him
 have q1:(p:Int) / 64=(i:Int):=by omega
 have q2:(p:Int)%64=(s:Int):=by omega
 have hpi:p=64*i+s:=by omega
 have LOW:=Lib.hid (low_p k w hk)
 by_cases hsk:s+k≤64
 ·have G:=get_one V i s k hsk
  rw [← hpi] at G
  rw [← G]
  clear G hm hi hs cell hb ho h1
  have hp0:p≤1000000:=by omega
  have hi0:i≤1000000:=by omega
  clear hpi hp
  have HX:Hid (wd V i < 2 ^ 64):=wd_lt V i
  generalize wd V i=x at *
  have HSK:((s:Int)+(k:Int)≤64):=by omega
  clear hsk
  go_enter Tryz.func132,Tryz.ntmps132
  go_wp2_with fail
  refine LOW.out.mono ?_
  rintro e w1 ⟨rfl,rfl⟩
  go_wp2
  go_ret
  refine ⟨congrArg (fun z=>Ending.returned (.int .u64 z)) ?_,rfl⟩
  have e:((x:Int) / 2 ^ s)=((x / 2 ^ s:Nat):Int):=by simp
  rw [e,u64_and_nat _ _ (Nat.lt_of_le_of_lt (Nat.div_le_self _ _) HX.out) (Nat.lt_of_lt_of_le (Nat.sub_lt (Nat.two_pow_pos k) Nat.one_pos) (Nat.pow_le_pow_right (by omega) hk)),Nat.and_two_pow_sub_one_eq_mod]
 ·have hs0:0 < s:=by omega
  have him2:i+1 < m:=by omega
  have cj:=cell (i+1) him2
  have G:=get_two V i s k hs64 hs0 hk
  rw [← hpi] at G
  rw [← G]
  have HX:Hid (wd V i < 2 ^ 64):=wd_lt V i
  have HY:Hid (wd V (i+1) < 2 ^ 64):=wd_lt V (i+1)
  have hp0:p≤1000000:=by omega
  have hi0:i≤1000000:=by omega
  clear G hm hi hs cell hb ho h1 hpi hp
  generalize wd V i=x at *
  generalize wd V (i+1)=y at *
  have HSK:(64:Int) < (s:Int)+(k:Int):=by omega
  clear hsk
  go_enter Tryz.func132,Tryz.ntmps132
  go_wp2_with fail
  refine LOW.out.mono ?_
  rintro e w1 ⟨rfl,rfl⟩
  go_wp2
  go_ret
  refine ⟨congrArg (fun z=>Ending.returned (.int .u64 z)) ?_,rfl⟩
  have e:((x:Int) / 2 ^ s)=((x / 2 ^ s:Nat):Int):=by simp
  have hl1:x / 2 ^ s < 18446744073709551616:=Nat.lt_of_le_of_lt (Nat.div_le_self _ _) HX.out
  have hl2:y*2 ^ (64 - s)%2 ^ 64 < 18446744073709551616:=Nat.mod_lt _ (by decide)
  have hl3:(x / 2 ^ s ||| y*2 ^ (64 - s)%2 ^ 64) < 18446744073709551616:=Nat.or_lt_two_pow (n:=64) hl1 hl2
  rw [e,wrap_u64,u64_or_nat _ _ hl1 hl2,u64_and_nat _ _ hl3 (Nat.lt_of_lt_of_le (Nat.sub_lt (Nat.two_pow_pos k) Nat.one_pos) (Nat.pow_le_pow_right (by omega) hk)),Nat.and_two_pow_sub_one_eq_mod]
section
variable {P:Program} (w:World)
def Keeps (w':World) (v:Value) (n:Nat) (xs:List Value):Prop:=∀ g c,v=.slice (some ⟨g,0,none⟩) n c→∀ j u,xs[j]?=some u→w'.cell? ⟨g,j,none⟩=some u
theorem append_keeps (t ty:TypeId) (base:Nat) (e:TypeId) (i:TypeInfo) (z:Value) (size bytes:Nat) (ht:P.underlying t=some (.slice e)) (hi:P.info? e=some i) (hz:i.zero=some z)
  (hsize:i.size=size) (hby:i.bytes=bytes) (hzs:z.cells.size=size) (hsz:0 < size)
  (v:Value) (n:Nat) (xs:List Value) (hown:w.ownsRow base e size v n xs)
  (ad:Addr) (m c:Nat) (news:List Value) (hl:news.length=m*size) (hnews:∀ j u,news[j]?=some u→w.cell? (ad.add j)=some u) (h1:∀ u∈news,u.oneCell'=true)
  (hm:0 < m) (h63:n+m≤maxLen) (hbytes:(n+m)*bytes≤140737488355328)
  {g' cap':Nat} {w':World} (hr:(Builtin.append_ #[t,t] ty #[v,.slice (some ad) m c]).run P w=.ok (.slice (some ⟨g',0,none⟩) (n+m) cap') w')
  (hown':w'.ownsRow base e size (.slice (some ⟨g',0,none⟩) (n+m) cap') (n+m) (xs++news)):Keeps w' v n xs:=by
 subst hsize
 subst hby
 intro g0 c0 hv j u hu
 subst hv
 have hsmall:n+m≤9223372036854775807:=by simp only [maxLen] at h63;omega
 rcases hown.2 with ⟨hx,_⟩ | ⟨g,cap,cur,hv,hbg,hg,hnc,hcm,hcs,htake⟩
 ·cases hx
 ·simp only [Value.slice.injEq,Option.some.injEq,Addr.mk.injEq,and_true,true_and] at hv
  obtain ⟨rfl,rfl⟩:=hv
  by_cases hroom:n+m≤c0
  ·have hfit:n*i.size+news.length≤cur.size:=by rw [hl,hcs,← Nat.add_mul];exact Nat.mul_le_mul_right _ hroom
   have hr2:=run_append_room (P:=P) w t ty e i ht hi g0 n c0 cur hg ad m c news hl hnews h1 hroom hfit
   rw [hr2] at hr
   simp only [Result.ok.injEq,Value.slice.injEq,Option.some.injEq,Addr.mk.injEq,and_true,true_and] at hr
   obtain ⟨⟨rfl,rfl⟩,rfl⟩:=hr
   have hjl:=(List.getElem?_eq_some_iff.1 hu).1
   have:=hown'.cellAt j (by have h9:=hown'.1;rw [List.length_append] at h9;omega)
   rw [this,List.getElem?_append_left hjl,hu]
  ·have holds:∀ j u,xs[j]?=some u→w.cell? ((⟨g0,0,none⟩:Addr).add j)=some u:=hown.cells (g:=g0) rfl
   have hr2:=run_append_grow (P:=P) w t ty e i z ht hi hz ⟨g0,0,none⟩ n c0 xs hown.1 holds ad m c news hl hnews (by omega) (by omega) (growslice_fits (by omega) hbytes)
   rw [hr2] at hr
   simp only [Result.ok.injEq] at hr
   obtain ⟨_,rfl⟩:=hr
   have hc:=hown.cellAt j (by have h9:=hown.1;have:=(List.getElem?_eq_some_iff.1 hu).1;omega)
   rw [hu] at hc
   have hlt:=World.block_lt_of_cell? _ _ hc
   exact (World.cell?_alloc_lt _ _ _ hlt).trans hc
theorem step_append_keep {ops:Array Oper} {o:Oper} {a:Act} {K:Act→World→Prop} {Q:Exit→Act→World→Prop} {E:Prop} (hgd:o.guard=none) (s x:Operand) (t:TypeId)
  (ho:o.op=.call { callee:=.builtin .append,args:=#[s,x],argTypes:=#[t,t] })
  (base:Nat) (e:TypeId) (i:TypeInfo) (z:Value) (size bytes:Nat) (ht:P.underlying t=some (.slice e)) (hi:P.info? e=some i) (hz:i.zero=some z)
  (hsize:i.size=size) (hby:i.bytes=bytes) (hzs:z.cells.size=size) (hsz:0 < size)
  (v:Value) (n:Nat) (xs:List Value) (hs:a.eval s=v) (hown:w.ownsRow base e size v n xs)
  (ad:Addr) (m c:Nat) (news:List Value) (hx:a.eval x=.slice (some ad) m c) (hl:news.length=m*size) (hnews:∀ j u,news[j]?=some u→w.cell? (ad.add j)=some u) (h1:∀ u∈news,u.oneCell'=true)
  (hm:0 < m) (h63:n+m≤maxLen) (hbytes:(n+m)*bytes≤140737488355328) (hbase:base≤w.heap.size) (H:Nat) (hH:w.heap.size=H)
  (h:∀ g cap w',w'.ownsRow base e size (.slice (some ⟨g,0,none⟩) (n+m) cap) (n+m) (xs++news)→w.grownBy w' v.ownBlock→(v.ownBlock=some g∨g=H)→g < w'.heap.size→Keeps w' v n xs→K (a.put o.dst (.slice (some ⟨g,0,none⟩) (n+m) cap)) w') :
  if Region.wanted o (yielded ops a.tmps)=true then Oper.wp P o a w K Q else E:=by
 have hw:Region.wanted o (yielded ops a.tmps)=true:=by simp [Region.wanted,hgd]
 rw [if_pos hw]
 obtain ⟨g,cap,w',hr,h2,h3,h4,h5⟩:=run_append_lies (P:=P) w t o.type base e i z size bytes ht hi hz hsize hby hzs hsz v n xs hown ad m c news hl hnews h1 hm h63 hbytes hbase H hH
 have hk:=append_keeps (P:=P) w t o.type base e i z size bytes ht hi hz hsize hby hzs hsz v n xs hown ad m c news hl hnews h1 hm h63 hbytes hr h2
 unfold Oper.wp execOp
 simp only [ho,resolve,invoke,builtin,Sem.run_bind,Sem.run_pure,Result.andThen_ok,List.map_toArray,List.map_cons,List.map_nil,hs,hx,hr]
 exact h g cap w' h2 h3 h4 h5 hk
theorem wpList_append_keep {ops:Array Oper} {rest:List Oper} {o:Oper} {a:Act} {Q:Exit→Act→World→Prop} (hgd:o.guard=none) (s x:Operand) (t:TypeId)
  (ho:o.op=.call { callee:=.builtin .append,args:=#[s,x],argTypes:=#[t,t] })
  (base:Nat) (e:TypeId) (i:TypeInfo) (z:Value) (size bytes:Nat) (ht:P.underlying t=some (.slice e)) (hi:P.info? e=some i) (hz:i.zero=some z)
  (hsize:i.size=size) (hby:i.bytes=bytes) (hzs:z.cells.size=size) (hsz:0 < size)
  (v:Value) (n:Nat) (xs:List Value) (hs:a.eval s=v) (hown:w.ownsRow base e size v n xs)
  (ad:Addr) (m c:Nat) (news:List Value) (hx:a.eval x=.slice (some ad) m c) (hl:news.length=m*size) (hnews:∀ j u,news[j]?=some u→w.cell? (ad.add j)=some u) (h1:∀ u∈news,u.oneCell'=true)
  (hm:0 < m) (h63:n+m≤maxLen) (hbytes:(n+m)*bytes≤140737488355328) (hbase:base≤w.heap.size) (H:Nat) (hH:w.heap.size=H)
  (h:∀ g cap w',w'.ownsRow base e size (.slice (some ⟨g,0,none⟩) (n+m) cap) (n+m) (xs++news)→w.grownBy w' v.ownBlock→(v.ownBlock=some g∨g=H)→g < w'.heap.size→Keeps w' v n xs→wpList P ops Q rest (a.put o.dst (.slice (some ⟨g,0,none⟩) (n+m) cap)) w'):wpList P ops Q (o :: rest) a w :=
 wpList_wanted (by simp [Region.wanted,hgd]) fun _ hK=>by
  obtain ⟨g,cap,w',hr,h2,h3,h4,h5⟩:=run_append_lies (P:=P) w t o.type base e i z size bytes ht hi hz hsize hby hzs hsz v n xs hown ad m c news hl hnews h1 hm h63 hbytes hbase H hH
  have hk:=append_keeps (P:=P) w t o.type base e i z size bytes ht hi hz hsize hby hzs hsz v n xs hown ad m c news hl hnews h1 hm h63 hbytes hr h2
  unfold Oper.wp execOp
  simp only [ho,resolve,invoke,builtin,Sem.run_bind,Sem.run_pure,Result.andThen_ok,List.map_toArray,List.map_cons,List.map_nil,hs,hx,hr]
  exact hK _ _ (h g cap w' h2 h3 h4 h5 hk)
end
end Go.Proofs.YtajjgpkahljjmaaGreatDoor
namespace Go.Proofs.YtajjgpkahljjmaaGreatDoor
theorem num_zeroB (g x:Nat) (k:Int) (w:World) (h:-9223372036854775808≤k∧k≤0) :
  Calls Tryz.prog 106 #[.pointer (some ⟨g,0,none⟩),.int .u64 (x:Int),.int .i64 k] w fun e w'=>e=.returned (.tuple #[])∧w=w':=by
 have C:=Lib.hid (count_p k w ⟨h.1,by omega⟩)
 have hc:cnt64 k=0:=by unfold cnt64;rw [if_pos h.2]
 rw [hc] at C
 go_enter Tryz.func106,Tryz.ntmps106
 go_wp2_with fail
 refine C.out.mono ?_
 rintro e w' ⟨rfl,rfl⟩
 go_wp2
 exact bodyPost_ret (results_none rfl _ _ _) rfl ⟨rfl,rfl⟩
def OldK (w':World) (A:Option Addr) (V V' n:Nat):Prop :=
 ∀ b,A=some ⟨b,0,none⟩→∀ i,i < (n+63) / 64→w'.cell? ⟨b,i,none⟩=some (.int .u64 ((wd V i:Nat):Int))∨w'.cell? ⟨b,i,none⟩=some (.int .u64 ((wd V' i:Nat):Int))
theorem OldK.same {w':World} {g V V' n n':Nat} {A:Option Addr} (h:VecAt w' g V' n' A) (hn:n≤n'):OldK w' A V V' n:=by
 obtain ⟨_,_,c,_,ho⟩:=h
 intro b hb i hi
 subst hb
 right
 rw [ho.cellAt i (by omega),U64_get _ _ (by rw [words_len];omega),words_get _ _ _ (by omega)]
theorem info_u64:(Tryz.prog.info? 139).map (fun i=>(i.zero,i.size,i.bytes))=some (some (.int .u64 0),1,8):=by kernel_rfl
set_option maxRecDepth 20000 in
set_option maxHeartbeats 2000000 in
theorem num_new (g V n x kk:Nat) (k:Int) (A:Option Addr) (w:World) (h:VecAt w g V n A) (hx:x < 2 ^ 64) (hk:-9223372036854775808≤k∧k≤9223372036854775807) (hkk:cnt64 k=kk) (hk1:1≤kk) (hk64:kk≤64) (hn:n+64≤1000000) (hs:n%64=0) :
  Calls Tryz.prog 106 #[.pointer (some ⟨g,0,none⟩),.int .u64 (x:Int),.int .i64 k] w fun e w'=>e=.returned (.tuple #[]) ∧
   ∃ A',VecAt w' g (put V n x kk) (n+kk) A'∧Mod (fun i=>i=g∨(∃ b,A=some ⟨b,0,none⟩∧i=b)) w w'∧(A'=A∨∃ b,A'=some ⟨b,0,none⟩∧w.heap.size≤b)∧OldK w' A V (put V n x kk) n:=by
 have C:=Lib.hid (count_p k w hk)
 rw [hkk] at C
 have L:=Lib.hid (low_p kk w hk64)
 obtain ⟨i0,hi0,hz0,hz1,hz2⟩:=info_parts info_u64
 obtain ⟨hV,hn1,c,hb,ho⟩:=h
 obtain ⟨m,hm⟩:∃ m,m=(n+63) / 64:=⟨_,rfl⟩
 rw [← hm] at hb ho
 have c0:w.cell? ⟨g,0,none⟩=some (.slice A m c):=hb.cell 0
 have c1:w.cell? ⟨g,1,none⟩=some (.int .i64 (n:Int)):=hb.cell 1
 obtain ⟨X,hX⟩:∃ X,X=x%2 ^ kk:=⟨_,rfl⟩
 have hand:bits .and .u64 (x:Int) ((2 ^ kk - 1:Nat):Int)=((X:Nat):Int):=by
  rw [u64_and_nat _ _ hx (Nat.lt_of_lt_of_le (Nat.sub_lt (Nat.two_pow_pos kk) Nat.one_pos) (Nat.pow_le_pow_right (by omega) hk64)),Nat.and_two_pow_sub_one_eq_mod,hX]
 have hr:(n:Int)%64=0:=by omega
 have ho':=ho.alloc (.cells #[.int .u64 (X:Int)] 139)
 have hnw:=cell_one_new w (.int .u64 (X:Int)) 139
 have hsz:(w.alloc (.cells #[.int .u64 (X:Int)] 139)).heap.size=w.heap.size+1:=by simp
 have t1:m+1≤maxLen:=by simp only [maxLen];omega
 have t2:(m+1)*8≤140737488355328:=by omega
 have hgl:=hb.lt
 have t3:g+1≤(w.alloc (.cells #[.int .u64 (X:Int)] 139)).heap.size:=by simp;omega
 have h1s:∀ u∈[Value.int .u64 (X:Int)],u.oneCell'=true:=by intro u hu;simp at hu;subst hu;rfl
 have HB:=Lib.hid hb
 have HXX:=Lib.hid hX
 have HMM:=Lib.hid hm
 have hk0:¬ kk=0:=by omega
 have HSS:=Lib.hid hs
 clear hb ho hX hm hkk hs
 generalize hP:2 ^ kk - 1=PP at *
 clear hP
 go_enter Tryz.func106,Tryz.ntmps106
 go_wp2_with fail
 refine C.out.mono ?_
 rintro e w' ⟨rfl,rfl⟩
 go_wp2_with fail
 refine L.out.mono ?_
 rintro e w' ⟨rfl,rfl⟩
 go_wp2_with (first
  | (at_builtin;go_must (refine wpList_append_keep _ rfl _ _ 102 rfl (g+1) 139 i0 (.int .u64 0) 1 8 Tryz.underlying102 hi0 hz0 hz1 hz2 rfl (by decide) (.slice A m c) m _ rfl ho' ⟨w.heap.size,0,none⟩ 1 1 [.int .u64 (X:Int)] rfl rfl hnw h1s (by decide) t1 t2 t3 _ hsz ?_)))
 intro gg c6 w6 hown6 hg6 hor hlt6 hkp
 have hne:∀ q,(Value.slice A m c).ownBlock=some q→q≠g:=fun q hq e=>by have:=(ho'.lt q hq).1;omega
 have m6:=Mod.ofGrown hg6
 have b6:Blk w6 g 104 #[.slice A m c,.int .i64 (n:Int)]:=(HB.out.alloc _).mod m6 (fun e=>hne g e.symm rfl)
 have d1:w6.cell? ⟨g,1,none⟩=some (.int .i64 (n:Int)):=b6.cell 1
 have d0:w6.cell? ⟨g,0,none⟩=some (.slice A m c):=b6.cell 0
 have f0:=b6.frozen 0
 have f1:=b6.frozen 1
 have B6:=Lib.hid b6
 have M6:=Lib.hid m6
 have HOR:=Lib.hid hor
 have HNE:=Lib.hid hne
 have HO:=Lib.hid ho'
 have HG:=Lib.hid hg6
 have HOWN:=Lib.hid hown6
 have HKP:=Lib.hid hkp
 clear b6 m6 hor hne ho' hg6 hown6 hnw hsz h1s t1 t2 t3 hkp
 go_wp2
 refine bodyPost_end (results_none rfl _ _ _) rfl ⟨rfl,some ⟨gg,0,none⟩,?_,?_,?_,?_⟩
 ·have hn64:n=64*m:=by have:=HSS.out;have:=HMM.out;omega
  have hm1:(n+kk+63) / 64=m+1:=by omega
  refine ⟨put_lt x kk hV,by omega,c6,?_,?_⟩
  ·rw [hm1]
   have:=(B6.out.set_ 0 (.slice (some ⟨gg,0,none⟩) (m+1) c6)).set_ 1 (.int .i64 ((n:Int)+(kk:Int)))
   simpa using this
  ·rw [hm1]
   have hw:U64 (words V m)++[Value.int .u64 (X:Int)]=U64 (words (put V n x kk) (m+1)):=by
    rw [words_next,U64_append,wd_put_new x kk m hV hn64 hk64,← HXX.out]
    refine congrArg (·++_) (congrArg U64 (List.map_congr_left fun i hi=>?_))
    rw [List.mem_range] at hi
    exact (wd_put_low x kk i hV (by omega)).symm
   rw [← hw]
   have mm:Mod (fun i=>i=g) w6 ((w6.setCell ⟨g,0,none⟩ (.slice (some ⟨gg,0,none⟩) (m+1) c6)).setCell ⟨g,1,none⟩ (.int .i64 ((n:Int)+(kk:Int)))) :=
    Mod.setCell (p:=⟨g,1,none⟩) (Mod.setCell (p:=⟨g,0,none⟩) (Mod.refl (fun i=>i=g) w6) (fun _=>rfl) _) (fun _=>rfl) _
   exact own_mod HOWN.out mm (fun q hq hx=>by have:=(HOWN.out.lt q hq).1;omega)
 ·have ha:∀ i,some i=(Value.slice A m c).ownBlock→i=g∨∃ b,A=some ⟨b,0,none⟩∧i=b:=fun i hi=>by
   rcases HO.out.2 with ⟨h1,_⟩ | ⟨g',cap,cur,hv,_⟩
   ·rw [h1] at hi;simp [Value.ownBlock] at hi
   ·simp only [Value.slice.injEq] at hv
    rw [hv.1] at hi ⊢
    simp [Value.ownBlock] at hi
    exact .inr ⟨g',rfl,hi⟩
  exact ((((Mod.refl _ w).alloc _).trans M6.out (fun i _ hi=>ha i hi)).setCell (fun _=>.inl rfl) _).setCell (fun _=>.inl rfl) _
 ·rcases HOR.out with h1 | h1
  ·left
   rcases HO.out.2 with ⟨h2,_⟩ | ⟨g',cap,cur,hv,_⟩
   ·rw [h2] at h1;simp [Value.ownBlock] at h1
   ·simp only [Value.slice.injEq] at hv
    rw [hv.1] at h1 ⊢
    simp [Value.ownBlock] at h1
    rw [h1]
  ·right
   exact ⟨gg,rfl,by omega⟩
 ·intro b hb i hi
  left
  have hbg:g+1≤b:=by
   subst hb
   exact (HO.out.lt b rfl).1
  have hi2:i < m:=by rw [HMM.out];exact hi
  have h1:=HKP.out b c (by rw [hb]) i (.int .u64 ((wd V i:Nat):Int)) (by rw [U64_get _ _ (by rw [words_len];exact hi2),words_get _ _ _ hi2])
  have h2:(⟨b,i,none⟩:Addr)≠⟨g,0,none⟩:=fun e=>by have:=congrArg Addr.block e;simp at this;omega
  have h3:(⟨b,i,none⟩:Addr)≠⟨g,1,none⟩:=fun e=>by have:=congrArg Addr.block e;simp at this;omega
  rw [World.cell?_setCell_other _ _ _ _ h3.symm,World.cell?_setCell_other _ _ _ _ h2.symm]
  exact h1
set_option maxRecDepth 20000 in
set_option maxHeartbeats 2000000 in
theorem num_last (g V n x kk:Nat) (k:Int) (A:Option Addr) (w:World) (h:VecAt w g V n A) (hx:x < 2 ^ 64) (hk:-9223372036854775808≤k∧k≤9223372036854775807) (hkk:cnt64 k=kk) (hk1:1≤kk) (hk64:kk≤64) (hn:n+64≤1000000) (s:Nat) (hs:n%64=s) (hs0:0 < s) (hsk:s+kk≤64) :
  Calls Tryz.prog 106 #[.pointer (some ⟨g,0,none⟩),.int .u64 (x:Int),.int .i64 k] w fun e w'=>e=.returned (.tuple #[]) ∧
   ∃ A',VecAt w' g (put V n x kk) (n+kk) A'∧Mod (fun i=>i=g∨(∃ b,A=some ⟨b,0,none⟩∧i=b)) w w'∧(A'=A∨∃ b,A'=some ⟨b,0,none⟩∧w.heap.size≤b)∧OldK w' A V (put V n x kk) n:=by
 have C:=Lib.hid (count_p k w hk)
 rw [hkk] at C
 have L:=Lib.hid (low_p kk w hk64)
 obtain ⟨hV,hn1,c,hb,ho⟩:=h
 obtain ⟨q,hq⟩:∃ q,q=n / 64:=⟨_,rfl⟩
 have hm:(n+63) / 64=q+1:=by omega
 have hnq:n=64*q+s:=by omega
 rw [hm] at hb ho
 obtain ⟨b,rfl,hb1,hb2⟩:=own_some ho (by omega)
 have c0:w.cell? ⟨g,0,none⟩=some (.slice (some ⟨b,0,none⟩) (q+1) c):=hb.cell 0
 have c1:w.cell? ⟨g,1,none⟩=some (.int .i64 (n:Int)):=hb.cell 1
 have cq:w.cell? ⟨b,q,none⟩=some (.int .u64 ((wd V q:Nat):Int)):=by
  rw [ho.cellAt q (by omega),U64_get _ _ (by rw [words_len];omega),words_get _ _ _ (by omega)]
 have fq:=ho.frozenAt q
 have f1:=hb.frozen 1
 obtain ⟨X,hX⟩:∃ X,X=x%2 ^ kk:=⟨_,rfl⟩
 have hand:bits .and .u64 (x:Int) ((2 ^ kk - 1:Nat):Int)=((X:Nat):Int):=by
  rw [u64_and_nat _ _ hx (Nat.lt_of_lt_of_le (Nat.sub_lt (Nat.two_pow_pos kk) Nat.one_pos) (Nat.pow_le_pow_right (by omega) hk64)),Nat.and_two_pow_sub_one_eq_mod,hX]
 have hr:(n:Int)%64=(s:Int):=by omega
 have HOR:Hid (bits .or .u64 ((wd V q:Nat):Int) (IntKind.u64.wrap ((X:Int)*2 ^ s))=((wd (put V n x kk) q:Nat):Int)):=by
  show _=_
  rw [wrap_u64,u64_or_nat _ _ (wd_lt V q) (Nat.mod_lt _ (by decide)),wd_put_last x kk q s hV hnq (by omega),hX]
 have hgl:=hb.lt
 have HB:=Lib.hid hb
 have HO:=Lib.hid ho
 have HNQ:=Lib.hid hnq
 have hk0:¬ kk=0:=by omega
 have hs64:s < 64:=by omega
 have hq2:q≤1000000:=by omega
 have hsk2:¬ (64:Int) < (s:Int)+(kk:Int):=by omega
 clear hb ho hX hm hkk hs hq hnq
 generalize hP:2 ^ kk - 1=PP at *
 clear hP
 generalize hW:wd V q=W at *
 clear hW
 go_enter Tryz.func106,Tryz.ntmps106
 go_wp2_with fail
 refine C.out.mono ?_
 rintro e w' ⟨rfl,rfl⟩
 go_wp2_with fail
 refine L.out.mono ?_
 rintro e w' ⟨rfl,rfl⟩
 go_wp2_with fail
 go_region
 go_wp2
 rw [HOR.out]
 suffices hvec:VecAt ((w.setCell ⟨b,q,none⟩ (.int .u64 ((wd (put V n x kk) q:Nat):Int))).setCell ⟨g,1,none⟩ (.int .i64 ((n:Int)+(kk:Int)))) g (put V n x kk) (n+kk) (some ⟨b,0,none⟩) by
  refine bodyPost_end (results_none rfl _ _ _) rfl ⟨rfl,some ⟨b,0,none⟩,hvec.below (Below.refl _ _).drew,Mod.drew (Mod.setCell (p:=⟨g,1,none⟩) (Mod.setCell (p:=⟨b,q,none⟩) (Mod.refl _ w) (fun _=>.inr ⟨b,rfl,rfl⟩) _) (fun _=>.inl rfl) _),.inl rfl,?_⟩
  exact OldK.same (hvec.below (Below.refl _ _).drew) (Nat.le_add_right _ _)
 have hn64:=HNQ.out
 have hm1:(n+kk+63) / 64=q+1:=by omega
 refine ⟨put_lt x kk hV,by omega,c,?_,?_⟩
 ·rw [hm1]
  have b1:Blk (w.setCell ⟨b,q,none⟩ (.int .u64 ((wd (put V n x kk) q:Nat):Int))) g 104 #[.slice (some ⟨b,0,none⟩) (q+1) c,.int .i64 (n:Int)] :=
   HB.out.mod (Mod.setCell (p:=⟨b,q,none⟩) (Mod.refl (fun i=>i=b) w) (fun _=>rfl) _) (fun e=>by omega)
  have:=b1.set_ 1 (.int .i64 ((n:Int)+(kk:Int)))
  simpa using this
 ·rw [hm1]
  have hw:(U64 (words V (q+1))).set q (.int .u64 ((wd (put V n x kk) q:Nat):Int))=U64 (words (put V n x kk) (q+1)):=by
   rw [← U64_set,words_next,words_next,List.set_append_right _ _ (by rw [words_len];exact Nat.le_refl _),words_len,Nat.sub_self]
   refine congrArg U64 (congrArg (·++_) (List.map_congr_left fun i hi=>?_))
   rw [List.mem_range] at hi
   exact (wd_put_low x kk i hV (by omega)).symm
  rw [← hw]
  exact own_mod (HO.out.stored q _).1 (Mod.setCell (p:=⟨g,1,none⟩) (Mod.refl (fun i=>i=g) _) (fun _=>rfl) _) (fun r hr2 hx2=>by simp [Value.ownBlock] at hr2;omega)
end Go.Proofs.YtajjgpkahljjmaaGreatDoor
