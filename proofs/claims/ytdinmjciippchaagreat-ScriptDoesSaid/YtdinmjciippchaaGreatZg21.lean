/- The map seen from its faces: mathematics. -/
import Derived.Test.YtdinmjciippchaaGreatZg6
import Derived.Test.YtdinmjciippchaaGreatZUCut
import Derived.Test.YtdinmjciippchaaGreatZPNames
import Derived.Test.YtdinmjciippchaaGreatZg5
open Go.RowKit
set_option linter.unusedVariables false
namespace Go.Proofs.YtdinmjciippchaaGreat
set_option maxRecDepth 20000
section
variable {l b:List Nat}
end
/-! ### one taken out of its class -/
section
variable {l b:List Nat}
def sk (l:List Nat) (e d:Nat):Nat:=outN l e (l.getD d 0)
theorem unN_lt {e j n:Nat} (hE:2*e+2≤n) (hj:j < n - 2):unN e j < n:=by unfold unN;split <;> omega
theorem orb_name (h:Inv l b) {i j:Nat} (hi:i < l.length) (o:Orb (sgL l) i j):nameOf l j=nameOf l i:=by
 obtain ⟨t,ht⟩:=o
 have hm:j∈orb l i:=(mem_orb h hi).2 ⟨t,by rw [← sgL_it];exact ht⟩
 unfold nameOf
 rw [lead_of_mem h hi hm]
theorem num_less {n a:Nat} {Q:Nat→Prop} (ha:a < n) (q:Q a):num (fun i=>Q i∧i≠a) n+1=num Q n:=by
 unfold num
 exact @filter_less (List.range n) (List.nodup_range) Q (fun i=>Q i∧i≠a) (fun _=>Classical.propDecidable _) (fun _=>Classical.propDecidable _) a (by simpa using ha) q fun i _=>Iff.rfl
theorem num_none {n:Nat} {Q:Nat→Prop}:num Q n=0↔∀ y,y < n→¬ Q y:=by
 refine ⟨fun h y hy q=>?_,fun h=>num_zero h⟩
 have:=num_less hy q
 omega
theorem deg_num (h:Inv l b) (lone:Int) (hl:0≤lone) {a:Nat} (ha:a < l.length):degOf l lone (nameOf l a:Nat)=(num (fun i=>Orb (sgL l) a i) l.length:Nat):=by
 have hm:=name_met h ha ha
 have hs:(sizes l).length=met l l.length:=by unfold sizes;rw [sizesTo_len]
 unfold degOf
 rw [if_neg (by omega),if_neg (by omega),Int.toNat_natCast]
 unfold sizes
 rw [sizesTo_get _ _ _ _ hm]
 congr 1
 unfold cntN num
 congr 1
 apply List.filter_congr
 intro i hi
 have hi:i < l.length:=by simpa using hi
 rw [decide_eq_decide]
 exact ⟨fun q=>name_orb h ha hi q.symm,fun q=>orb_name h ha q⟩
theorem zerTo_one (x:Int):zerTo [x] 1=if x=0 then 1 else 0:=by
 have z0:zerTo [x] 0=0:=rfl
 split
 ·next q=>rw [zerTo_yes _ 0 (by exact q),z0]
 ·next q=>rw [zerTo_no _ 0 (by exact q),z0]
theorem zerTo_two (x y:Int):zerTo [x,y] 2=(if x=0 then 1 else 0)+if y=0 then 1 else 0:=by
 have z0:zerTo [x,y] 0=0:=rfl
 have z1:zerTo [x,y] 1=if x=0 then 1 else 0:=by
  split
  ·next q=>rw [zerTo_yes _ 0 (by exact q),z0]
  ·next q=>rw [zerTo_no _ 0 (by exact q),z0]
 split
 ·next q =>
  rw [if_pos q] at z1
  split
  ·next p=>rw [zerTo_yes _ 1 (by exact p),z1]
  ·next p=>rw [zerTo_no _ 1 (by exact p),z1]
 ·next q =>
  rw [if_neg q] at z1
  split
  ·next p=>rw [zerTo_yes _ 1 (by exact p),z1]
  ·next p=>rw [zerTo_no _ 1 (by exact p),z1]
def Fst (f:Nat→Nat) (S:Nat→Prop) (x y:Nat):Prop:=∃ t,1≤t∧itf f t x=y∧S y∧∀ s,1≤s→s < t→¬ S (itf f s x)
theorem Fst.uniq {f:Nat→Nat} {S:Nat→Prop} {x y z:Nat} (a:Fst f S x y) (b:Fst f S x z):y=z:=by
 obtain ⟨t,t1,t2,t3,t4⟩:=a
 obtain ⟨u,u1,u2,u3,u4⟩:=b
 rcases Nat.lt_trichotomy t u with c | c | c
 ·exact absurd (by rw [t2];exact t3) (u4 t t1 c)
 ·rw [← t2,← u2,c]
 ·exact absurd (by rw [u2];exact u3) (t4 u u1 c)
theorem sk_fst (h:Inv l b) {e d:Nat} (he:e < l.length / 2) (hd:d < l.length) (cd:d / 2≠e):Fst (sgL l) (fun y=>y / 2≠e) d (sk l e d):=by
 have ho:sk l e d / 2≠e:=out_s h hd cd he
 by_cases c1:l.getD d 0 / 2=e
 ·by_cases c2:l.getD (l.getD d 0) 0 / 2=e
  ·have q:sk l e d=l.getD (l.getD (l.getD d 0) 0) 0:=by unfold sk outN;rw [if_neg (fun x=>x c1),if_neg (fun x=>x c2)]
   refine ⟨3,by omega,q.symm,ho,fun s s1 s2=>?_⟩
   rcases (show s=1∨s=2 by omega) with rfl | rfl
   ·exact fun x=>x c1
   ·exact fun x=>x c2
  ·have q:sk l e d=l.getD (l.getD d 0) 0:=by unfold sk outN;rw [if_neg (fun x=>x c1),if_pos c2]
   refine ⟨2,by omega,q.symm,ho,fun s s1 s2=>?_⟩
   obtain rfl:s=1:=by omega
   exact fun x=>x c1
 ·have q:sk l e d=l.getD d 0:=by unfold sk outN;rw [if_pos c1]
  exact ⟨1,by omega,q.symm,ho,fun s s1 s2=>by omega⟩
end
set_option maxRecDepth 100000
def fltE (e:Nat) (L:List Nat):List Nat:=L.filter fun x=>decide (x / 2≠e)
theorem take_snocE (L:List Nat) {k:Nat} (h:k < L.length):L.take (k+1)=L.take k++[L.getD k 0]:=by
 rw [List.take_add_one,List.getD_eq_getElem?_getD,List.getElem?_eq_getElem h];rfl
theorem fltE_yes (e:Nat) (L:List Nat) {k:Nat} (h:k < L.length) (c:L.getD k 0 / 2≠e):fltE e (L.take (k+1))=fltE e (L.take k)++[L.getD k 0]:=by
 unfold fltE;rw [take_snocE L h,List.filter_append,List.filter_cons_of_pos (by rw [decide_eq_true_iff];exact c)];rfl
theorem fltE_no (e:Nat) (L:List Nat) {k:Nat} (h:k < L.length) (c:L.getD k 0 / 2=e):fltE e (L.take (k+1))=fltE e (L.take k):=by
 unfold fltE;rw [take_snocE L h,List.filter_append,List.filter_cons_of_neg (by rw [decide_eq_true_iff];exact fun h=>h c)];simp
theorem orb_leF {l b:List Nat} (h:Inv l b) {i:Nat} (hi:i < l.length):(orb l i).length≤l.length:=by
 unfold orb;rw [way_len];exact per_le h hi
set_option maxHeartbeats 4000000 in
theorem from_p (A:Option Addr) (c:Nat) (l b:List Nat) (root lone:Int) (d e:Nat) (w:World) (h:Rd w w.heap.size A l.length (I64 (ofN l))) (hinv:Inv l b) (hn:l.length≤100000) (hd:d < l.length) (he:e≤100000) :
  Calls Tryz.prog 69 #[.agg #[.slice A l.length c,.int .i64 root,.int .i64 lone],.int .i64 (d:Int),.int .i64 (e:Int)] w (NewI64 w (ofN (fltE e (orb l d)))):=by
 have hb0:=(Below.refl w.heap.size w).alloc (Nat.le_refl _) (.cells #[.slice A l.length c,.int .i64 root,.int .i64 lone] 28)
 have HX:=Lib.hid (Blk.new w 28 #[.slice A l.length c,.int .i64 root,.int .i64 lone])
 have HR:=Lib.hid (h.more hb0)
 have HB0:=Lib.hid hb0
 obtain ⟨i0,hi0,hz0,hz1,hz2⟩:=info_parts info_int
 have RO:Hid (∀ W,Below (w.alloc (.cells #[.slice A l.length c,.int .i64 root,.int .i64 lone] 28)).heap.size (w.alloc (.cells #[.slice A l.length c,.int .i64 root,.int .i64 lone] 28)) W→Calls Tryz.prog 65 #[.slice A l.length c,.int .i64 (d:Int)] W (NewI64 W (ofN (orb l d)))):=fun W m=>rorbit_p A c _ l b d W (HR.out.more m) hinv (by omega) hd
 have HOL:Hid (∀ x,x∈orb l d→x < l.length):=fun x hx=>by
  obtain ⟨t,ht⟩:=(mem_orb hinv hd).1 hx
  rw [← ht];exact it_lt hinv hd t
 have HOK:Hid ((orb l d).length≤l.length):=orb_leF hinv hd
 clear h hb0 HR
 generalize orb l d=O at *
 go_enter Tryz.func69,Tryz.ntmps69
 go_wp2_with fail
 generalize hw3:w.alloc (.cells #[.slice A l.length c,.int .i64 root,.int .i64 lone] 28)=w3 at *
 have x0:w3.cell? ⟨w.heap.size,0,none⟩=some (.slice A l.length c):=HX.out.cell 0
 clear hw3 HX
 have Z0:=Below.refl w3.heap.size w3
 go_wp2_with fail
 refine (RO.out _ Z0).mono ?_
 rintro en w1 ⟨A1,c1,rfl,hc1,hm1,hown1,b1⟩
 rw [ofN_len] at hc1 hown1 ⊢
 have RD1:=Lib.hid (Rd.ofOwn hown1)
 have B1:=Lib.hid (HB0.out.trans (b1.mono HB0.out.size))
 clear b1 hown1 Z0 x0 RO
 obtain ⟨K,hK⟩:∃ K,K=O.length:=⟨_,rfl⟩
 have HKO:Hid (K=O.length):=hK
 have hKn:K≤100000:=by have:=HOK.out;omega
 rw [← hK] at RD1 hc1 ⊢
 clear hK
 go_wp2_with fail
 go_loopw [7,15] (fun s i wr=>∃ (k q:Nat) (Av:Option Addr) (cv:Nat),k≤K∧q≤k∧i=.int .i64 (k:Int)∧s=.slice Av q cv∧Hid (q=(fltE e (O.take k)).length)∧Hid (wr.ownsRow w1.heap.size 3 1 (.slice Av q cv) q (I64 (ofN (fltE e (O.take k)))))∧Hid (Below w1.heap.size w1 wr)) (fun _ i _=>K - (intOf i).toNat)
 case atStart=>exact ⟨0,0,none,0,by omega,Nat.le_refl _,rfl,rfl,rfl,World.ownsRow_nil _ _ _ _,Below.refl _ _⟩
 case round =>
  obtain ⟨k,q,Av,cv,hk,hqk,rfl,rfl,HQ,HO,HB⟩:=hrel
  by_cases hlt:k < K
  ·have hdk:decide (k < K)=true:=by rw [decide_eq_true_iff];exact hlt
   obtain ⟨b5,o5,rfl,hb5,hcz⟩:=(RD1.out.more HB.out).i64 (by omega)
   have cx:=hcz k hlt
   rw [ofN_get] at cx
   have hko:k < O.length:=by rw [← HKO.out];exact hlt
   have hxl:O.getD k 0 < l.length:=HOL.out _ (by
    rw [List.getD_eq_getElem?_getD,List.getElem?_eq_getElem hko];exact List.getElem_mem hko)
   have FY:Hid (O.getD k 0 / 2≠e→fltE e (O.take (k+1))=fltE e (O.take k)++[O.getD k 0]):=fltE_yes e O hko
   have FN:Hid (O.getD k 0 / 2=e→fltE e (O.take (k+1))=fltE e (O.take k)):=fltE_no e O hko
   generalize O.getD k 0=x at *
   obtain ⟨x2,hx2⟩:∃ x2,x2=x / 2:=⟨_,rfl⟩
   rw [← hx2] at FY FN
   have h2:(x:Int) / 2=(x2:Int):=by omega
   have h2t:(x:Int).tdiv 2=(x2:Int):=by rw [Int.tdiv_eq_ediv_of_nonneg (by omega)];exact h2
   have wx:IntKind.i64.wrap (x2:Int)=(x2:Int):=by simp [IntKind.wrap,IntKind.signed,IntKind.bits];omega
   have HBS:=HB.out.size
   clear hx2 hcz hb5
   by_cases hxe:x2=e
   ·have hde:decide (x2=e)=true:=decide_eq_true hxe
    have hFN:=FN.out hxe
    have HO2:Hid (wr.ownsRow w1.heap.size 3 1 (.slice Av q cv) q (I64 (ofN (fltE e (O.take (k+1)))))):=by show World.ownsRow _ _ _ _ _ _ _;rw [hFN];exact HO.out
    have HQ2:Hid (q=(fltE e (O.take (k+1))).length):=by show _=_;rw [hFN];exact HQ.out
    clear hFN FY FN HO HQ
    subst hxe
    go_wp2_with fail
    go_roundw
    case rel=>exact ⟨k+1,q,Av,cv,by omega,by omega,by go_num,rfl,HQ2.out,HO2.out,HB.out⟩
    case measure=>simp [intOf];omega
   ·have hde:decide (x2=e)=false:=decide_eq_false hxe
    have hFY:=FY.out hxe
    have HQ2:Hid (q+1=(fltE e (O.take (k+1))).length):=by show _=_;rw [hFY,List.length_append,← HQ.out];rfl
    have hR0:Hid (I64 (ofN (fltE e (O.take k)))++I64 [(x:Int)]=I64 (ofN (fltE e (O.take (k+1))))):=by show _=_;rw [hFY,ofN_append,I64_append];rfl
    have hownA:=HO.out.alloc (.cells #[.int .i64 (x:Int)] 3)
    have r3:=Rd.new wr 3 #[.int .i64 (x:Int)] 1 (I64 [(x:Int)]) (by simp [I64]) (by simp)
    have t1:q+1≤maxLen:=by simp only [maxLen];omega
    have t2:(q+1)*8≤140737488355328:=by omega
    have t3:w1.heap.size≤(wr.alloc (.cells #[.int .i64 (x:Int)] 3)).heap.size:=by simp;omega
    clear hFY FY FN HO HQ
    go_wp2_with (first
     | (at_builtin;go_must (refine wpList_append_rd _ rfl _ _ 26 rfl w1.heap.size 3 i0 (.int .i64 0) 8 Tryz.underlying26 hi0 hz0 hz1 hz2 rfl (.slice Av q cv) q (I64 (ofN (fltE e (O.take k)))) rfl hownA (wr.heap.size+1) (some ⟨wr.heap.size,0,none⟩) 1 1 (I64 [(x:Int)]) rfl r3 (I64_one _) t1 t2 t3 ?_)))
    intro A6 c6 w6 hc6 hm6 hown6 hg6 _
    have hb6:Below w1.heap.size w1 w6:=(HB.out.trans ((Below.refl w1.heap.size wr).alloc HBS _)).trans (Below.appended hownA hg6 t3)
    rw [hR0.out] at hown6
    clear hownA r3 hg6
    go_wp2_with fail
    go_roundw
    case rel=>exact ⟨k+1,q+1,A6,c6,by omega,by omega,by go_num,rfl,HQ2.out,hown6,hb6⟩
    case measure=>simp [intOf];omega
  ·obtain rfl:k=K:=by omega
   have hdk:decide (k < k)=false:=by simp
   have HT:Hid (fltE e (O.take k)=fltE e O):=by show _=_;rw [HKO.out,List.take_length]
   have FIN:Hid (q=(ofN (fltE e O)).length∧wr.ownsRow w.heap.size 3 1 (.slice Av q cv) q (I64 (ofN (fltE e O)))):=by
    refine ⟨by rw [ofN_len,← HT.out];exact HQ.out,?_⟩
    rw [← HT.out];exact HO.out.base_le' B1.out.size
   have BF:Hid (Below w.heap.size w wr):=B1.out.trans (HB.out.mono B1.out.size)
   clear HT HO HQ
   go_wp2_with fail
   go_ret
   have h1:=FIN.out.1
   exact .mk rfl (by rw [← h1];exact FIN.out.2) BF.out
def nxt (v:List Nat) (i:Nat):Nat:=if i+1 < v.length then v.getD (i+1) 0 else v.getD 0 0
def CycU (f:Nat→Nat) (O:List Nat):Prop:=∀ i,i < O.length→nxt O i=f (O.getD i 0)
theorem CycU.it {f:Nat→Nat} {O:List Nat} (h:CycU f O) {a:Nat} (ha:a < O.length):∀ s,itf f s (O.getD a 0)=O.getD ((a+s)%O.length) 0
 | 0=>by rw [Nat.add_zero,Nat.mod_eq_of_lt ha];rfl
 | s+1=>by
   have ih:=h.it ha s
   have hlt:(a+s)%O.length < O.length:=Nat.mod_lt _ (by omega)
   show f (itf f s (O.getD a 0))=_
   rw [ih,← h _ hlt]
   unfold nxt
   have hm:(a+(s+1))%O.length=((a+s)%O.length+1)%O.length:=by rw [← Nat.add_assoc,Nat.mod_add_mod]
   rw [hm]
   by_cases c:(a+s)%O.length+1 < O.length
   ·rw [if_pos c,Nat.mod_eq_of_lt c]
   ·rw [if_neg c]
    have:(a+s)%O.length+1=O.length:=by omega
    rw [this,Nat.mod_self]
theorem filter_split (S:Nat→Bool):∀ (O:List Nat) (i:Nat),i < (O.filter S).length→∃ A x B,O=A++x :: B∧(A.filter S).length=i∧S x=true∧(O.filter S).getD i 0=x
 | [],i,h=>by simp at h
 | y :: O,i,h=>by
   by_cases c:S y=true
   ·rw [List.filter_cons_of_pos c] at h ⊢
    cases i with
    | zero=>exact ⟨[],y,O,rfl,rfl,c,rfl⟩
    | succ i =>
      obtain ⟨A,x,B,e1,e2,e3,e4⟩:=filter_split S O i (by simpa using h)
      exact ⟨y :: A,x,B,by rw [e1];rfl,by rw [List.filter_cons_of_pos c,List.length_cons,e2],e3,by simpa using e4⟩
   ·rw [List.filter_cons_of_neg c] at h ⊢
    obtain ⟨A,x,B,e1,e2,e3,e4⟩:=filter_split S O i h
    exact ⟨y :: A,x,B,by rw [e1];rfl,by rw [List.filter_cons_of_neg c,e2],e3,e4⟩
theorem filter_head (S:Nat→Bool):∀ (R:List Nat) (y:Nat) (T:List Nat),R.filter S=y :: T→∃ k,k < R.length∧R.getD k 0=y∧S y=true∧∀ j,j < k→¬ S (R.getD j 0)=true
 | [],y,T,h=>by simp at h
 | z :: R,y,T,h=>by
   by_cases c:S z=true
   ·rw [List.filter_cons_of_pos c] at h
    cases h
    exact ⟨0,by simp,rfl,c,fun j hj=>by omega⟩
   ·rw [List.filter_cons_of_neg c] at h
    obtain ⟨k,h1,h2,h3,h4⟩:=filter_head S R y T h
    refine ⟨k+1,by simpa using h1,by simpa using h2,h3,fun j hj=>?_⟩
    cases j with
    | zero=>simpa using c
    | succ j=>simpa using h4 j (by omega)
theorem CycU.fst {f:Nat→Nat} {O:List Nat} (h:CycU f O) (S:Nat→Bool) {i:Nat} (hi:i < (O.filter S).length):Fst f (fun y=>S y=true) ((O.filter S).getD i 0) (nxt (O.filter S) i):=by
 obtain ⟨A,x,B,e1,e2,e3,e4⟩:=filter_split S O i hi
 have hn:O.length=A.length+1+B.length:=by rw [e1];simp;omega
 have ha:A.length < O.length:=by omega
 have hx:O.getD A.length 0=x:=by rw [e1];simp [List.getD_eq_getElem?_getD]
 have hit:=h.it ha
 rw [hx] at hit
 have hR:∀ j,j < O.length→(B++(A++[x])).getD j 0=itf f (j+1) x:=fun j hj=>by
  rw [hit]
  by_cases c:j < B.length
  ·rw [Nat.mod_eq_of_lt (by omega),e1]
   simp only [List.getD_eq_getElem?_getD]
   rw [List.getElem?_append_left c,List.getElem?_append_right (by omega),show A.length+(j+1) - A.length=j+1 by omega,List.getElem?_cons_succ]
  ·have hm:(A.length+(j+1))%O.length=j - B.length:=by
    rw [show A.length+(j+1)=(j - B.length)+O.length by omega,Nat.add_mod_right,Nat.mod_eq_of_lt (by omega)]
   rw [hm]
   simp only [List.getD_eq_getElem?_getD]
   rw [List.getElem?_append_right (by omega)]
   generalize hk:j - B.length=k
   rw [e1]
   by_cases d:k < A.length
   ·rw [List.getElem?_append_left d,List.getElem?_append_left d]
   ·obtain rfl:k=A.length:=by omega
    simp
 have hv:O.filter S=A.filter S++x :: B.filter S:=by rw [e1,List.filter_append,List.filter_cons_of_pos e3]
 have hfl:∃ T,(B++(A++[x])).filter S=nxt (O.filter S) i :: T:=by
  rw [List.filter_append,List.filter_append,List.filter_cons_of_pos e3,List.filter_nil]
  unfold nxt
  rw [hv]
  cases hB:B.filter S with
  | nil =>
    rw [if_neg (by simp;omega)]
    cases hA:A.filter S with
    | nil=>exact ⟨[],rfl⟩
    | cons a T=>exact ⟨T++[x],rfl⟩
  | cons y T =>
    rw [if_pos (by simp;omega)]
    refine ⟨T++(A.filter S++[x]),?_⟩
    rw [← e2]
    simp [List.getD_eq_getElem?_getD]
 obtain ⟨T,hT⟩:=hfl
 obtain ⟨k,k1,k2,k3,k4⟩:=filter_head S _ _ _ hT
 have hl:(B++(A++[x])).length=O.length:=by rw [hn];simp;omega
 rw [hl] at k1
 rw [e4]
 refine ⟨k+1,by omega,by rw [← hR k k1];exact k2,k3,fun s hs1 hs2=>?_⟩
 have:=k4 (s - 1) (by omega)
 rw [hR (s - 1) (by omega),show s - 1+1=s by omega] at this
 exact this
section
variable {l b:List Nat}
theorem orb_cyc (h:Inv l b) {d:Nat} (hd:d < l.length):CycU (sgL l) (orb l d):=by
 intro i hi
 have hl:(orb l d).length=per l d:=by unfold orb;exact way_len _ _ _
 rw [hl] at hi
 have hg:∀ k,k < per l d→(orb l d).getD k 0=it l k d:=fun k hk=>by
  unfold orb;exact way_get l d _ k hk
 unfold nxt
 rw [hl,hg i hi]
 by_cases c:i+1 < per l d
 ·rw [if_pos c,hg _ c];rfl
 ·rw [if_neg c,hg 0 (by omega)]
  have hp:=(per_is h hd).2.1
  have:i+1=per l d:=by omega
  rw [← this] at hp
  exact hp.symm
theorem flt_cut (h:Inv l b) {e d:Nat} (he:e < l.length / 2) (hd:d < l.length) {i:Nat} (hi:i < (fltE e (orb l d)).length) :
  nxt (fltE e (orb l d)) i=sk l e ((fltE e (orb l d)).getD i 0):=by
 have hf:=(orb_cyc h hd).fst (fun x=>decide (x / 2≠e)) hi
 have hm:(fltE e (orb l d)).getD i 0∈fltE e (orb l d):=by
  rw [List.getD_eq_getElem?_getD,List.getElem?_eq_getElem hi];exact List.getElem_mem hi
 have hm2:=List.mem_filter.1 hm
 have hx:(fltE e (orb l d)).getD i 0 < l.length:=by
  obtain ⟨t,ht⟩:=(mem_orb h hd).1 hm2.1
  rw [← ht];exact it_lt h hd t
 have hk:=sk_fst h he hx (by simpa using hm2.2)
 obtain ⟨t,t1,t2,t3,t4⟩:=hf
 refine Fst.uniq (f:=sgL l) (S:=fun y=>y / 2≠e) ⟨t,t1,t2,of_decide_eq_true t3,fun s s1 s2 c=>t4 s s1 s2 (decide_eq_true c)⟩ hk
end
def swE (e y:Nat):Nat:=if y=2*e then 2*e+1 else if y=2*e+1 then 2*e else y
section
variable {l b:List Nat}
theorem fltE_app (e:Nat) (L M:List Nat):fltE e (L++M)=fltE e L++fltE e M:=by unfold fltE;rw [List.filter_append]
theorem orb_get (l:List Nat) (d:Nat) {k:Nat} (hk:k < per l d):(orb l d).getD k 0=it l k d:=by
 unfold orb;exact way_get l d _ k hk
theorem orb_lenP (l:List Nat) (d:Nat):(orb l d).length=per l d:=by unfold orb;exact way_len _ _ _
theorem two_cyc (h:Inv l b) {e:Nat} (he:e < l.length / 2) (hne:nameOf l (2*e)≠nameOf l (2*e+1)):CycU (fun x=>swE e (sgL l x)) (orb l (2*e+1)++orb l (2*e)):=by
 have h0:2*e < l.length:=by omega
 have h1:2*e+1 < l.length:=by omega
 have hpf:=sgL_pf h
 have no1:∀ k,it l k (2*e+1)≠2*e:=fun k c=>hne ((name_iff h h0 h1).2 (hpf.eqv.symm _ _ h1 h0 ⟨k,by rw [sgL_it];exact c⟩))
 have no2:∀ k,it l k (2*e)≠2*e+1:=fun k c=>hne ((name_iff h h0 h1).2 ⟨k,by rw [sgL_it];exact c⟩)
 have p1:=per_is h h1
 have p0:=per_is h h0
 have hl1:=orb_lenP l (2*e+1)
 have hl0:=orb_lenP l (2*e)
 have g1:∀ k,k < per l (2*e+1)→(orb l (2*e+1)++orb l (2*e)).getD k 0=it l k (2*e+1):=fun k hk=>by
  rw [← orb_get l (2*e+1) hk]
  simp only [List.getD_eq_getElem?_getD]
  rw [List.getElem?_append_left (by rw [hl1];exact hk)]
 have g0:∀ k,k < per l (2*e)→(orb l (2*e+1)++orb l (2*e)).getD (per l (2*e+1)+k) 0=it l k (2*e):=fun k hk=>by
  rw [← orb_get l (2*e) hk]
  simp only [List.getD_eq_getElem?_getD]
  rw [List.getElem?_append_right (by rw [hl1];omega),hl1,Nat.add_sub_cancel_left]
 have hL:(orb l (2*e+1)++orb l (2*e)).length=per l (2*e+1)+per l (2*e):=by rw [List.length_append,hl1,hl0]
 intro i hi
 rw [hL] at hi
 unfold nxt
 rw [hL]
 by_cases c:i < per l (2*e+1)
 ·rw [g1 i c]
  have hs:sgL l (it l i (2*e+1))=it l (i+1) (2*e+1):=rfl
  have hpos:0 < per l (2*e):=p0.1
  show _=swE e (sgL l (it l i (2*e+1)))
  rw [if_pos (by omega),hs]
  by_cases d:i+1 < per l (2*e+1)
  ·rw [g1 _ d]
   unfold swE
   rw [if_neg (no1 _),if_neg (p1.2.2 _ (by omega) d)]
  ·have hp:i+1=per l (2*e+1):=by omega
   have hz:(orb l (2*e+1)++orb l (2*e)).getD (per l (2*e+1)) 0=it l 0 (2*e):=g0 0 hpos
   rw [hp,hz,p1.2.1]
   unfold swE
   rw [if_neg (by omega),if_pos rfl];rfl
 ·obtain ⟨k,rfl⟩:∃ k,i=per l (2*e+1)+k:=⟨i - per l (2*e+1),by omega⟩
  have hk:k < per l (2*e):=by omega
  rw [g0 k hk]
  have hs:sgL l (it l k (2*e))=it l (k+1) (2*e):=rfl
  show _=swE e (sgL l (it l k (2*e)))
  rw [hs]
  by_cases d:k+1 < per l (2*e)
  ·rw [if_pos (by omega),Nat.add_assoc,g0 _ d]
   unfold swE
   rw [if_neg (p0.2.2 _ (by omega) d),if_neg (no2 _)]
  ·have hp:k+1=per l (2*e):=by omega
   rw [if_neg (by omega),hp,p0.2.1,g1 0 p1.1]
   unfold swE
   rw [if_pos rfl];rfl
theorem flt_shrink (h:Inv l b) {e:Nat} (he:e < l.length / 2) (hne:nameOf l (2*e)≠nameOf l (2*e+1)) {i:Nat} (hi:i < (fltE e (orb l (2*e+1))++fltE e (orb l (2*e))).length) :
  nxt (fltE e (orb l (2*e+1))++fltE e (orb l (2*e))) i=outN (phiL l) e (sgL l ((fltE e (orb l (2*e+1))++fltE e (orb l (2*e))).getD i 0)):=by
 have h0:2*e < l.length:=by omega
 have h1:2*e+1 < l.length:=by omega
 have hpf:=sgL_pf h
 rw [← fltE_app] at hi ⊢
 have hf:=(two_cyc h he hne).fst (fun x=>decide (x / 2≠e)) hi
 have hm:(fltE e (orb l (2*e+1)++orb l (2*e))).getD i 0∈fltE e (orb l (2*e+1)++orb l (2*e)):=by
  rw [List.getD_eq_getElem?_getD,List.getElem?_eq_getElem hi];exact List.getElem_mem hi
 obtain ⟨hm1,hm2⟩:=List.mem_filter.1 hm
 have hxe:(fltE e (orb l (2*e+1)++orb l (2*e))).getD i 0 / 2≠e:=of_decide_eq_true hm2
 have hx:(fltE e (orb l (2*e+1)++orb l (2*e))).getD i 0 < l.length:=by
  rcases List.mem_append.1 hm1 with q | q
  ·obtain ⟨t,ht⟩:=(mem_orb h h1).1 q
   rw [← ht];exact it_lt h h1 t
  ·obtain ⟨t,ht⟩:=(mem_orb h h0).1 q
   rw [← ht];exact it_lt h h0 t
 obtain ⟨t,t1,t2,t3,t4⟩:=hf
 have key:∀ x,x < l.length→x / 2≠e→Fst (fun x=>swE e (sgL l x)) (fun y=>y / 2≠e) x (outN (phiL l) e (sgL l x)):=fun x hx hxe=>by
  have z1:(phiL l).getD (2*e+1) 0=sgL l (2*e):=by
   have:=phi_at l h1
   have e1:mt (2*e+1)=2*e:=by unfold mt;rw [if_neg (by omega)];omega
   rw [e1] at this;exact this
  have z0:(phiL l).getD (2*e) 0=sgL l (2*e+1):=by
   have:=phi_at l h0
   have e1:mt (2*e)=2*e+1:=by unfold mt;rw [if_pos (by omega)]
   rw [e1] at this;exact this
  have no1:sgL l (2*e+1)≠2*e:=fun c=>hne ((name_iff h h0 h1).2 (hpf.eqv.symm _ _ h1 h0 ⟨1,c⟩))
  have no2:sgL l (2*e)≠2*e+1:=fun c=>hne ((name_iff h h0 h1).2 ⟨1,c⟩)
  have inj:=hpf.inj
  have one:∀ y,y / 2≠e→swE e y=y:=fun y hy=>by unfold swE;rw [if_neg (by omega),if_neg (by omega)]
  have s0:swE e (2*e)=2*e+1:=by unfold swE;rw [if_pos rfl]
  have s1:swE e (2*e+1)=2*e:=by unfold swE;rw [if_neg (by omega),if_pos rfl]
  by_cases c:sgL l x / 2≠e
  ·have ho:outN (phiL l) e (sgL l x)=sgL l x:=by unfold outN;rw [if_pos c]
   rw [ho]
   exact ⟨1,by omega,one _ c,c,fun s a1 a2=>by omega⟩
  ·have hc:sgL l x=2*e∨sgL l x=2*e+1:=by omega
   rcases hc with hc | hc
   · -- on goes the other dart of the edge
     by_cases d:sgL l (2*e+1) / 2≠e
     ·have ho:outN (phiL l) e (sgL l x)=sgL l (2*e+1):=by unfold outN;rw [if_neg c,hc,z0,if_pos d]
      rw [ho]
      refine ⟨2,by omega,?_,d,fun s a1 a2=>?_⟩
      ·show swE e (sgL l (swE e (sgL l x)))=_
       rw [hc,s0,one _ d]
      ·obtain rfl:s=1:=by omega
       show ¬ swE e (sgL l x) / 2≠e
       rw [hc,s0];omega
     ·have hd:sgL l (2*e+1)=2*e+1:=by omega
      have d2:sgL l (2*e) / 2≠e:=fun c2=>by
       have:sgL l (2*e)=2*e:=by omega
       have:=inj x (2*e) hx h0 (by rw [hc,this])
       omega
      have ho:outN (phiL l) e (sgL l x)=sgL l (2*e):=by unfold outN;rw [if_neg c,hc,z0,if_neg d,hd,z1]
      rw [ho]
      refine ⟨3,by omega,?_,d2,fun s a1 a2=>?_⟩
      ·show swE e (sgL l (swE e (sgL l (swE e (sgL l x)))))=_
       rw [hc,s0,hd,s1,one _ d2]
      ·have:s=1∨s=2:=by omega
       rcases this with rfl | rfl
       ·show ¬ swE e (sgL l x) / 2≠e
        rw [hc,s0];omega
       ·show ¬ swE e (sgL l (swE e (sgL l x))) / 2≠e
        rw [hc,s0,hd,s1];omega
   ·by_cases d:sgL l (2*e) / 2≠e
    ·have ho:outN (phiL l) e (sgL l x)=sgL l (2*e):=by unfold outN;rw [if_neg c,hc,z1,if_pos d]
     rw [ho]
     refine ⟨2,by omega,?_,d,fun s a1 a2=>?_⟩
     ·show swE e (sgL l (swE e (sgL l x)))=_
      rw [hc,s1,one _ d]
     ·obtain rfl:s=1:=by omega
      show ¬ swE e (sgL l x) / 2≠e
      rw [hc,s1];omega
    ·have hd:sgL l (2*e)=2*e:=by omega
     have d2:sgL l (2*e+1) / 2≠e:=fun c2=>by
      have:sgL l (2*e+1)=2*e+1:=by omega
      have:=inj x (2*e+1) hx h1 (by rw [hc,this])
      omega
     have ho:outN (phiL l) e (sgL l x)=sgL l (2*e+1):=by unfold outN;rw [if_neg c,hc,z1,if_neg d,hd,z0]
     rw [ho]
     refine ⟨3,by omega,?_,d2,fun s a1 a2=>?_⟩
     ·show swE e (sgL l (swE e (sgL l (swE e (sgL l x)))))=_
      rw [hc,s1,hd,s0,one _ d2]
     ·have:s=1∨s=2:=by omega
      rcases this with rfl | rfl
      ·show ¬ swE e (sgL l x) / 2≠e
       rw [hc,s1];omega
      ·show ¬ swE e (sgL l (swE e (sgL l x))) / 2≠e
       rw [hc,s1,hd,s0];omega
 exact Fst.uniq (S:=fun y=>y / 2≠e) ⟨t,t1,t2,of_decide_eq_true t3,fun s s1 s2 c=>t4 s s1 s2 (decide_eq_true c)⟩ (key _ hx hxe)
/-! ### what the document's lists have -/
noncomputable def othN (l:List Nat) (e k:Nat):List (List Nat):=(((leads l k).filter fun d=>decide (nameOf l d≠nameOf l (2*e)∧nameOf l d≠nameOf l (2*e+1))).map (orb l))
end
section
variable {l b:List Nat}
theorem un_calE {e x:Nat} (hx:x / 2≠e):unN e (calN e x)=x:=by unfold unN calN;split <;> split <;> omega
theorem cal_ltE {e x n:Nat} (hE:2*e+2≤n) (hx:x < n) (hxe:x / 2≠e):calN e x < n - 2:=by unfold calN;split <;> omega
theorem wo_at (l z:List Nat) {e x:Nat} (hE:2*e+2≤l.length) (hx:x < l.length) (hxe:x / 2≠e):(woN l z e).getD (calN e x) 0=calN e (outN z e (l.getD x 0)):=by
 rw [woN_get l z e _ hE (cal_ltE hE hx hxe),un_calE hxe]
def TellsU (n e:Nat) (T v:List Nat):Prop:=∀ i,i < v.length→v.getD i 0 < n∧v.getD i 0 / 2≠e∧nxt v i < n∧nxt v i / 2≠e∧calN e (nxt v i)=T.getD (calN e (v.getD i 0)) 0
theorem nxt_mem {v:List Nat} {i:Nat} (hi:i < v.length):nxt v i∈v:=by
 have key:∀ k,k < v.length→v.getD k 0∈v:=fun k hk=>by
  rw [List.getD_eq_getElem?_getD,List.getElem?_eq_getElem hk];exact List.getElem_mem hk
 unfold nxt
 split
 ·exact key _ (by assumption)
 ·exact key 0 (by omega)
theorem getD_memE {v:List Nat} {i:Nat} (hi:i < v.length):v.getD i 0∈v:=by
 rw [List.getD_eq_getElem?_getD,List.getElem?_eq_getElem hi];exact List.getElem_mem hi
theorem orb_ltE (h:Inv l b) {d x:Nat} (hd:d < l.length) (hx:x∈orb l d):x < l.length:=by
 obtain ⟨t,ht⟩:=(mem_orb h hd).1 hx
 rw [← ht];exact it_lt h hd t
theorem flt_memE {e x:Nat} {L:List Nat} (hx:x∈fltE e L):x∈L∧x / 2≠e:=by
 obtain ⟨h1,h2⟩:=List.mem_filter.1 hx
 exact ⟨h1,of_decide_eq_true h2⟩
theorem mem_fltE {e x:Nat} {L:List Nat} (hx:x∈L) (hxe:x / 2≠e):x∈fltE e L:=List.mem_filter.2 ⟨hx,decide_eq_true hxe⟩
theorem tells_cut (h:Inv l b) {e d:Nat} (he:e < l.length / 2) (hd:d < l.length):TellsU l.length e (woN l l e) (fltE e (orb l d)):=fun i hi=>by
 obtain ⟨m1,m2⟩:=flt_memE (getD_memE hi)
 obtain ⟨n1,n2⟩:=flt_memE (nxt_mem hi)
 refine ⟨orb_ltE h hd m1,m2,orb_ltE h hd n1,n2,?_⟩
 rw [wo_at l l (by omega) (orb_ltE h hd m1) m2,flt_cut h he hd hi]
 rfl
theorem tells_oth (h:Inv l b) {e d:Nat} (z:List Nat) (he:e < l.length / 2) (hd:d < l.length) (hx:∀ x,x∈orb l d→x / 2≠e):TellsU l.length e (woN l z e) (orb l d):=fun i hi=>by
 have m1:=getD_memE hi
 have n1:=nxt_mem hi
 refine ⟨orb_ltE h hd m1,hx _ m1,orb_ltE h hd n1,hx _ n1,?_⟩
 have hc:=orb_cyc h hd i hi
 have hs:(orb l d).getD i 0 < l.length:=orb_ltE h hd m1
 rw [wo_at l z (by omega) hs (hx _ m1)]
 have hne:l.getD ((orb l d).getD i 0) 0 / 2≠e:=by
  have:=hx _ n1
  rw [hc] at this;exact this
 unfold outN
 rw [if_pos hne,hc];rfl
theorem tells_one (h:Inv l b) {e:Nat} (he:e < l.length / 2) (hne:nameOf l (2*e)≠nameOf l (2*e+1)):TellsU l.length e (woN l (phiL l) e) (fltE e (orb l (2*e+1))++fltE e (orb l (2*e))):=fun i hi=>by
 have mem:∀ x,x∈fltE e (orb l (2*e+1))++fltE e (orb l (2*e))→x < l.length∧x / 2≠e:=fun x hx=>by
  rcases List.mem_append.1 hx with q | q
  ·obtain ⟨q1,q2⟩:=flt_memE q
   exact ⟨orb_ltE h (by omega) q1,q2⟩
  ·obtain ⟨q1,q2⟩:=flt_memE q
   exact ⟨orb_ltE h (by omega) q1,q2⟩
 obtain ⟨m1,m2⟩:=mem _ (getD_memE hi)
 obtain ⟨n1,n2⟩:=mem _ (nxt_mem hi)
 refine ⟨m1,m2,n1,n2,?_⟩
 rw [wo_at l (phiL l) (by omega) m1 m2,flt_shrink h he hne hi]
 rfl
theorem oth_clear (h:Inv l b) {e d x:Nat} (he:e < l.length / 2) (hd:d < l.length) (n0:nameOf l d≠nameOf l (2*e)) (n1:nameOf l d≠nameOf l (2*e+1)) (hx:x∈orb l d):x / 2≠e:=fun c=>by
 obtain ⟨t,ht⟩:=(mem_orb h hd).1 hx
 have o:Orb (sgL l) d x:=⟨t,by rw [sgL_it];exact ht⟩
 have hxl:=orb_ltE h hd hx
 have:=(name_iff h hd hxl).2 o
 have hc:x=2*e∨x=2*e+1:=by omega
 rcases hc with rfl | rfl
 ·exact n0 this
 ·exact n1 this
theorem oth_mem {e k:Nat}:∀ {v:List Nat},v∈othN l e k→∃ d,d∈leads l k∧nameOf l d≠nameOf l (2*e)∧nameOf l d≠nameOf l (2*e+1)∧v=orb l d:=fun {v} hv=>by
 unfold othN at hv
 obtain ⟨d,hd,rfl⟩:=List.mem_map.1 hv
 obtain ⟨h1,h2⟩:=List.mem_filter.1 hd
 have h3:=of_decide_eq_true h2
 exact ⟨d,h1,h3.1,h3.2,rfl⟩
theorem leads_in {d k:Nat}:d∈leads l k↔d < k∧Leads l d:=by
 unfold leads
 rw [List.mem_filter,List.mem_range,decide_eq_true_iff]
theorem cov_any (h:Inv l b) {e x:Nat} (he:e < l.length / 2) (hx:x < l.length) (hxe:x / 2≠e) :
  (∃ v,v∈othN l e l.length∧x∈v)∨(nameOf l x=nameOf l (2*e)∧x∈fltE e (orb l (2*e)))∨(nameOf l x=nameOf l (2*e+1)∧x∈fltE e (orb l (2*e+1))):=by
 have own:∀ d,d < l.length→nameOf l x=nameOf l d→x∈fltE e (orb l d):=fun d hd c=>by
  obtain ⟨t,ht⟩:=(name_iff h hd hx).1 c.symm
  exact mem_fltE ((mem_orb h hd).2 ⟨t,by rw [← sgL_it];exact ht⟩) hxe
 by_cases c0:nameOf l x=nameOf l (2*e)
 ·exact .inr (.inl ⟨c0,own _ (by omega) c0⟩)
 ·by_cases c1:nameOf l x=nameOf l (2*e+1)
  ·exact .inr (.inr ⟨c1,own _ (by omega) c1⟩)
  ·obtain ⟨h1,h2,h3⟩:=lead_is h hx
   have hlt:lead l x < l.length:=by omega
   have hn:nameOf l (lead l x)=nameOf l x:=by
    obtain ⟨t,ht⟩:=(mem_orb h hlt).1 h3
    exact (name_iff h hlt hx).2 ⟨t,by rw [sgL_it];exact ht⟩
   refine .inl ⟨orb l (lead l x),?_,h3⟩
   unfold othN
   refine List.mem_map.2 ⟨lead l x,List.mem_filter.2 ⟨leads_in.2 ⟨hlt,h2⟩,decide_eq_true ⟨?_,?_⟩⟩,rfl⟩
   ·rw [hn];exact c0
   ·rw [hn];exact c1
end
end Go.Proofs.YtdinmjciippchaaGreat
