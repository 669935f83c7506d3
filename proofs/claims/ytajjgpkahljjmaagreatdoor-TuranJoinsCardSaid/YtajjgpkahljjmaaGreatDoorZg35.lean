/- Two right words behind one another, and one within a pair, are right; how many vertices and faces words' maps have. -/
import Derived.Test.YtajjgpkahljjmaaGreatDoorZg32
import Derived.Test.YtajjgpkahljjmaaGreatDoorZg34
open Go.RowKit
set_option linter.unusedVariables false
set_option linter.unusedSimpArgs false
namespace Go.Proofs.YtajjgpkahljjmaaGreatDoor
set_option maxRecDepth 20000
section
variable {a b:List Nat} {ta tb:Nat→Nat} {s:Nat}
theorem app_l {i:Nat} (hi:i < a.length):(a++b).getD i 0=a.getD i 0:=by
 rw [List.getD_eq_getElem?_getD,List.getElem?_append_left hi,← List.getD_eq_getElem?_getD]
theorem app_r (i:Nat):(a++b).getD (a.length+i) 0=b.getD i 0:=by
 rw [List.getD_eq_getElem?_getD,List.getElem?_append_right (by omega),Nat.add_sub_cancel_left,← List.getD_eq_getElem?_getD]
def twJ (n:Nat) (ta tb:Nat→Nat) (i:Nat):Nat:=if i < n then ta i else n+tb (i - n)
theorem prg_app (A:Prg a ta) (B:Prg b tb):Prg (a++b) (twJ a.length ta tb):=by
 have L:∀ i,i < a.length→twJ a.length ta tb i=ta i:=fun i hi=>if_pos hi
 have R:∀ i,twJ a.length ta tb (a.length+i)=a.length+tb i:=fun i=>by unfold twJ;rw [if_neg (by omega),Nat.add_sub_cancel_left]
 have cs:∀ j,j < (a++b).length→j < a.length∨∃ i,i < b.length∧j=a.length+i:=fun j hj=>by
  rw [List.length_append] at hj
  by_cases c:j < a.length
  ·exact .inl c
  ·exact .inr ⟨j - a.length,by omega,by omega⟩
 refine ⟨A.kd.append B.kd,fun j hj=>?_,fun j hj=>?_,fun j hj=>?_,fun j hj=>?_,fun j hj=>?_⟩ <;> rcases cs j hj with c | ⟨i,hi,rfl⟩
 ·rw [L j c,List.length_append];have:=A.lt j c;omega
 ·rw [R i,List.length_append];have:=B.lt i hi;omega
 ·rw [L j c,L _ (A.lt j c)];exact A.tt j c
 ·rw [R i,R,B.tt i hi]
 ·rw [L j c];exact A.ne j c
 ·rw [R i];have:=B.ne i hi;omega
 ·rw [L j c,app_l (A.lt j c),app_l c];exact A.sort j c
 ·rw [R i,app_r,app_r];exact B.sort i hi
 ·rw [L j c,app_l c];exact A.opn j c
 ·rw [R i,app_r];have:=B.opn i hi;omega
theorem nx_app (A:Prg a ta) (B:Prg b tb) (hA:NX a ta s) (hB:NX b tb s):NX (a++b) (twJ a.length ta tb) s:=by
 intro i k h1 h2 h3 hi hk hs hs'
 have L:∀ i,i < a.length→twJ a.length ta tb i=ta i:=fun i hi=>if_pos hi
 have R:∀ i,twJ a.length ta tb (a.length+i)=a.length+tb i:=fun i=>by unfold twJ;rw [if_neg (by omega),Nat.add_sub_cancel_left]
 rw [List.length_append] at hi hk
 by_cases c:i < a.length
 ·rw [L i c] at h2 h3
  have:=A.lt i c
  have ck:k < a.length:=by omega
  rw [L k ck] at h3
  rw [app_l c] at hs
  rw [app_l ck] at hs'
  exact hA i k h1 h2 h3 c ck hs hs'
 ·obtain ⟨i',rfl⟩:∃ i',i=a.length+i':=⟨i - a.length,by omega⟩
  obtain ⟨k',rfl⟩:∃ k',k=a.length+k':=⟨k - a.length,by omega⟩
  rw [R] at h2 h3
  rw [R] at h3
  rw [app_r] at hs hs'
  exact hB i' k' (by omega) (by omega) (by omega) (by omega) (by omega) hs hs'
theorem wd_app (A:Wd a ta) (B:Wd b tb):Wd (a++b) (twJ a.length ta tb):=Wd.nx (prg_app A.P B.P) (nx_app A.P B.P A.x0 B.x0) (nx_app A.P B.P A.x1 B.x1)
theorem own_some_iff {ks:List Nat} {tw:Nat→Nat} {x o:Nat}:ownP s ks tw x=some o↔(o < x∧UA ks tw s x o)∧∀ p,p < x→UA ks tw s x p→p≤o:=by
 constructor
 ·intro h
  have hm:o∈UU ks tw s x:=List.mem_of_getLast? h
  refine ⟨?_,fun p hp hA=>?_⟩
  ·unfold UU at hm
   rw [List.mem_filter] at hm
   exact ⟨by simpa using hm.1,by simpa using hm.2⟩
  ·have hpm:p∈UU ks tw s x:=by unfold UU;rw [List.mem_filter];exact ⟨by simpa using hp,by simpa using hA⟩
   obtain ⟨o',e,le⟩:=last_ge _ (UU_pw ks tw s x) p hpm
   have e':ownP s ks tw x=some o':=e
   rw [h] at e'
   have:=Option.some.inj e'
   omega
 ·rintro ⟨⟨h1,h2⟩,h3⟩
  have hm:o∈UU ks tw s x:=by unfold UU;rw [List.mem_filter];exact ⟨by simpa using h1,by simpa using h2⟩
  obtain ⟨o',e,le⟩:=last_ge _ (UU_pw ks tw s x) o hm
  have hm':o'∈UU ks tw s x:=List.mem_of_getLast? e
  unfold UU at hm'
  rw [List.mem_filter] at hm'
  have:=h3 o' (by simpa using hm'.1) (by simpa using hm'.2)
  have:o'=o:=by omega
  rw [this] at e
  exact e
theorem right_app (A:Wd a ta) (B:Wd b tb) (RA:RightW a ta) (RB:RightW b tb):RightW (a++b) (twJ a.length ta tb):=by
 have L:∀ i,i < a.length→twJ a.length ta tb i=ta i:=fun i hi=>if_pos hi
 have R:∀ i,twJ a.length ta tb (a.length+i)=a.length+tb i:=fun i=>by unfold twJ;rw [if_neg (by omega),Nat.add_sub_cancel_left]
 intro i hi hk o ho
 rw [List.length_append] at hi
 by_cases c:i < a.length
 ·rw [app_l c] at hk
  rw [L i c] at ho
  have ht:=A.P.lt i c
  refine RA i c hk o ?_
  rw [own_some_iff] at ho ⊢
  have tr:∀ p,p < ta i→(UA (a++b) (twJ a.length ta tb) 0 (ta i) p↔UA a ta 0 (ta i) p):=fun p hp=>by
   unfold UA;rw [app_l (show p < a.length by omega),L p (by omega)]
  exact ⟨⟨ho.1.1,(tr o ho.1.1).1 ho.1.2⟩,fun p hp q=>ho.2 p hp ((tr p hp).2 q)⟩
 ·obtain ⟨i',rfl⟩:∃ i',i=a.length+i':=⟨i - a.length,by omega⟩
  have hi':i' < b.length:=by omega
  rw [app_r] at hk
  rw [R] at ho
  have ht:=B.P.lt i' hi'
  by_cases co:o < a.length
  ·omega
  ·obtain ⟨o',rfl⟩:∃ o',o=a.length+o':=⟨o - a.length,by omega⟩
   have:=RB i' hi' hk o' (by
    rw [own_some_iff] at ho ⊢
    have tr:∀ p,(UA (a++b) (twJ a.length ta tb) 0 (a.length+tb i') (a.length+p)↔UA b tb 0 (tb i') p):=fun p=>by
     unfold UA;rw [app_r,R];omega
    refine ⟨⟨by omega,(tr o').1 ho.1.2⟩,fun p hp q=>?_⟩
    have:=ho.2 (a.length+p) (by omega) ((tr p).2 q)
    omega)
   omega
def twI (n:Nat) (ta:Nat→Nat) (i:Nat):Nat:=if i=0 then n+1 else if i=n+1 then 0 else ta (i - 1)+1
theorem in_mid {i:Nat} (hi:i < a.length):([0]++a++[1]).getD (i+1) 0=a.getD i 0:=by
 rw [List.append_assoc,List.singleton_append,List.getD_cons_succ,app_l hi]
theorem in_end:([0]++a++[1]).getD (a.length+1) 0=1:=by
 rw [List.append_assoc,List.singleton_append,List.getD_cons_succ]
 exact app_r (a:=a) (b:=[1]) 0
theorem in_cs (n j:Nat) (hj:j < n+2):j=0∨j=n+1∨∃ i,i < n∧j=i+1:=by
 by_cases c:j=0
 ·exact .inl c
 ·by_cases d:j=n+1
  ·exact .inr (.inl d)
  ·exact .inr (.inr ⟨j - 1,by omega,by omega⟩)
theorem twI_mid {n:Nat} (ta:Nat→Nat) {i:Nat} (hi:i < n):twI n ta (i+1)=ta i+1:=by
 unfold twI;rw [if_neg (by omega),if_neg (by omega),Nat.add_sub_cancel]
theorem twI_end (n:Nat) (ta:Nat→Nat):twI n ta (n+1)=0:=by
 unfold twI;rw [if_neg (by omega),if_pos rfl]
theorem prg_in (A:Prg a ta):Prg ([0]++a++[1]) (twI a.length ta):=by
 have ln:([0]++a++[1]).length=a.length+2:=by simp
 have z:([0]++a++[1]).getD 0 0=0:=rfl
 have t0:twI a.length ta 0=a.length+1:=rfl
 have te:=twI_end a.length ta
 have kd:Kds ([0]++a++[1]):=(Kds.append (fun x hx=>by simp at hx;omega) A.kd).append fun x hx=>by simp at hx;omega
 refine ⟨kd,fun j hj=>?_,fun j hj=>?_,fun j hj=>?_,fun j hj=>?_,fun j hj=>?_⟩ <;> rw [ln] at hj <;> rcases in_cs a.length j hj with rfl | rfl | ⟨i,hi,rfl⟩
 ·rw [t0,ln];omega
 ·rw [te,ln];omega
 ·rw [twI_mid ta hi,ln];have:=A.lt i hi;omega
 ·rw [t0,te]
 ·rw [te,t0]
 ·rw [twI_mid ta hi,twI_mid ta (A.lt i hi),A.tt i hi]
 ·rw [t0];omega
 ·rw [te];omega
 ·rw [twI_mid ta hi];have:=A.ne i hi;omega
 ·rw [t0,in_end,z]
 ·rw [te,in_end,z]
 ·rw [twI_mid ta hi,in_mid (A.lt i hi),in_mid hi];exact A.sort i hi
 ·rw [t0,z];omega
 ·rw [te,in_end];omega
 ·rw [twI_mid ta hi,in_mid hi];have:=A.opn i hi;omega
theorem nx_in (A:Prg a ta) (hA:NX a ta s):NX ([0]++a++[1]) (twI a.length ta) s:=by
 have ln:([0]++a++[1]).length=a.length+2:=by simp
 have t0:twI a.length ta 0=a.length+1:=rfl
 have te:=twI_end a.length ta
 intro i k h1 h2 h3 hi hk hs hs'
 rw [ln] at hi hk
 rcases in_cs a.length i hi with rfl | rfl | ⟨i',hi',rfl⟩
 ·rw [t0] at h2 h3
  have:=(prg_in A).lt k (by rw [ln];exact hk)
  rw [ln] at this
  omega
 ·omega
 ·rw [twI_mid ta hi'] at h2 h3
  have:=A.lt i' hi'
  rcases in_cs a.length k hk with rfl | rfl | ⟨k',hk',rfl⟩
  ·omega
  ·omega
  ·rw [twI_mid ta hk'] at h3
   rw [in_mid hi'] at hs
   rw [in_mid hk'] at hs'
   exact hA i' k' (by omega) (by omega) (by omega) hi' hk' hs hs'
theorem wd_in (A:Wd a ta):Wd ([0]++a++[1]) (twI a.length ta):=Wd.nx (prg_in A.P) (nx_in A.P A.x0) (nx_in A.P A.x1)
theorem right_in (A:Wd a ta) (RA:RightW a ta):RightW ([0]++a++[1]) (twI a.length ta):=by
 have ln:([0]++a++[1]).length=a.length+2:=by simp
 have z:([0]++a++[1]).getD 0 0=0:=rfl
 intro i hi hk o ho
 rw [ln] at hi
 rcases in_cs a.length i hi with rfl | rfl | ⟨i',hi',rfl⟩
 ·rw [z] at hk;omega
 ·rw [in_end] at hk;omega
 ·rw [in_mid hi'] at hk
  rw [twI_mid ta hi'] at ho
  have ht:=A.P.lt i' hi'
  by_cases c:o=0
  ·omega
  ·obtain ⟨o',rfl⟩:∃ o',o=o'+1:=⟨o - 1,by omega⟩
   have:=RA i' hi' hk o' (by
    rw [own_some_iff] at ho ⊢
    have tr:∀ p,p < a.length→(UA ([0]++a++[1]) (twI a.length ta) 0 (ta i'+1) (p+1)↔UA a ta 0 (ta i') p):=fun p hp=>by
     unfold UA;rw [in_mid hp,twI_mid ta hp];omega
    refine ⟨⟨by omega,(tr o' (by omega)).1 ho.1.2⟩,fun p hp q=>?_⟩
    have:=ho.2 (p+1) (by omega) ((tr p (by omega)).2 q)
    omega)
   omega
end
theorem cl_cnt {ks:List Nat} {tw:Nat→Nat} (P:Prg ks tw) (s:Nat) (hs:s=0∨s=1):num (ClS s ks tw) ks.length=cntK (2*s+1) ks:=by
 have e:num (ClS s ks tw) ks.length=num (fun i=>ks.getD i 0=2*s+1) ks.length:=num_congr fun i hi=>by
  obtain ⟨_,k1,_,k3⟩:=k_ev P hi
  unfold ClS
  rcases hs with rfl | rfl
  ·exact k1.symm
  ·exact k3.symm
 rw [e]
 clear e hs P
 have key:∀ n,n≤ks.length→num (fun i=>ks.getD i 0=2*s+1) n=cntK (2*s+1) (ks.take n):=fun n=>by
  induction n with
  | zero=>intro _;rfl
  | succ n ih =>
    intro h
    rw [take_snoc ks n (by omega),cntK_snoc,← ih (by omega)]
    by_cases c:ks.getD n 0=2*s+1
    ·rw [(num_next _ n).1 c,if_pos c]
    ·rw [(num_next _ n).2 c,if_neg c];rfl
 rw [key _ (Nat.le_refl _),List.take_length]
theorem cntK_app (k:Nat) (a b:List Nat):cntK k (a++b)=cntK k a+cntK k b:=by simp [cntK]
theorem TurnW.counts {ks:List Nat} {tw:Nat→Nat} {l b:List Nat} (h:TurnW ks tw l) (W:Wd ks tw) (hi:Inv l b) :
  ((sizes l).length:Int)+loneW ks.length=((cntK 1 ks+1:Nat):Int)∧((sizes (phiL l)).length:Int)+loneW ks.length=((cntK 3 ks+1:Nat):Int):=by
 have he:l.length%2=0:=by have:=opN_half W.P;have:=h.1;omega
 rw [sizes_is hi,sizes_is (phi_inv hi he)]
 by_cases n0:ks.length=0
 ·have e:l=[]:=List.eq_nil_of_length_eq_zero (by rw [h.1];exact n0)
  have e2:ks=[]:=List.eq_nil_of_length_eq_zero n0
  rw [e,e2]
  exact ⟨rfl,rfl⟩
 ·obtain ⟨_,_,_,h1,h2⟩:=h.plane W hi (by omega)
  rw [h1,h2,cl_cnt W.P 0 (.inl rfl),cl_cnt W.P 1 (.inr rfl)]
  unfold loneW
  rw [if_neg n0]
  exact ⟨by simp,by simp⟩
end Go.Proofs.YtajjgpkahljjmaaGreatDoor
