/- Plain mathematics of permutations as lists of numbers; no program in sight. The calls of permutations: what each answers. Nothing that was there is written. perm.Of: a list is a permutation, or it is refused. One, Then, Same of permutations. -/
import Derived.Test.YtijbdnhlpbcabaaGreatDoorZg1
import Derived.Deep.DeepCutAuto
open Go.RowKit
set_option linter.unusedVariables false
namespace Go.Proofs.YtijbdnhlpbcabaaGreatDoor
set_option maxRecDepth 20000
theorem inj_surj (n:Nat):∀ f:Nat→Nat,(∀ i,i < n→f i < n)→(∀ i j,i < n→j < n→f i=f j→i=j)→∀ v,v < n→∃ i,i < n∧f i=v:=by
 induction n with
 | zero=>intro f _ _ v hv;omega
 | succ n ih =>
   intro f hr hi v hv
   have hg:=ih (fun i=>if f i=n then f n else f i) (fun i h=>by
    show (if f i=n then f n else f i) < n
    split
    ·rename_i e
     have h1:=hr n (by omega)
     have h2:f n≠n:=fun e2=>by have:=hi i n (by omega) (by omega) (by rw [e,e2]);omega
     omega
    ·have:=hr i (by omega);omega) (fun i j h1 h2 e=>by
    split at e <;> split at e
    ·rename_i a b;exact hi i j (by omega) (by omega) (by rw [a,b])
    ·rename_i a b;have:=hi n j (by omega) (by omega) e;omega
    ·rename_i a b;have:=hi i n (by omega) (by omega) e;omega
    ·exact hi i j (by omega) (by omega) e)
   by_cases hm:v=f n
   ·exact ⟨n,by omega,hm.symm⟩
   ·by_cases hvn:v=n
    ·subst hvn
     have hlt:f v < v:=by have:=hr v (by omega);omega
     obtain ⟨i,h1,h2⟩:=hg (f v) hlt
     split at h2
     ·rename_i e;exact ⟨i,by omega,e⟩
     ·have:=hi i v (by omega) (by omega) h2;omega
    ·obtain ⟨i,h1,h2⟩:=hg v (by omega)
     split at h2
     ·exact absurd h2.symm hm
     ·exact ⟨i,by omega,h2⟩
structure Inv (l b:List Nat):Prop where
 len:b.length=l.length
 lt:∀ i,i < l.length→l.getD i 0 < l.length
 lt':∀ i,i < l.length→b.getD i 0 < l.length
 lb:∀ i,i < l.length→b.getD (l.getD i 0) 0=i
 bl:∀ i,i < l.length→l.getD (b.getD i 0) 0=i
theorem getD_ext {l m:List Nat} (h:l.length=m.length) (hg:∀ i,i < l.length→l.getD i 0=m.getD i 0):l=m:=by
 apply List.ext_getElem h
 intro i h1 h2
 have:=hg i h1
 rwa [List.getD_eq_getElem?_getD,List.getD_eq_getElem?_getD,List.getElem?_eq_getElem h1,List.getElem?_eq_getElem h2] at this
theorem Inv.symm {l b:List Nat} (h:Inv l b):Inv b l :=
 ⟨h.len.symm,fun i hi=>by rw [h.len];exact h.lt' i (by rw [← h.len];exact hi),fun i hi=>by rw [h.len];exact h.lt i (by rw [← h.len];exact hi),
  fun i hi=>h.bl i (by rw [← h.len];exact hi),fun i hi=>h.lb i (by rw [← h.len];exact hi)⟩
theorem Inv.unique {l b c:List Nat} (h:Inv l b) (k:Inv l c):b=c:=by
 refine getD_ext (by rw [h.len,k.len]) fun i hi=>?_
 rw [h.len] at hi
 have h1:=h.lb _ (k.lt' i hi)
 rwa [k.bl i hi] at h1
theorem Inv.inj {l b:List Nat} (h:Inv l b) (i j:Nat) (hi:i < l.length) (hj:j < l.length) (e:l.getD i 0=l.getD j 0):i=j:=by
 rw [← h.lb i hi,← h.lb j hj,e]
def Good (z:List Int):Prop:=∀ i,i < z.length→0≤z.getD i 0∧z.getD i 0 < (z.length:Int)∧∀ j,j < i→z.getD j 0≠z.getD i 0
def ofN (l:List Nat):List Int:=l.map fun (x:Nat)=>(x:Int)
theorem ofN_len (l:List Nat):(ofN l).length=l.length:=by simp [ofN]
theorem ofN_get (l:List Nat) (i:Nat):(ofN l).getD i 0=((l.getD i 0:Nat):Int):=by
 rw [List.getD_eq_getElem?_getD,List.getD_eq_getElem?_getD]
 simp only [ofN,List.getElem?_map]
 cases l[i]? <;> simp
theorem ofN_inj {l m:List Nat} (h:ofN l=ofN m):l=m:=by
 refine getD_ext (by rw [← ofN_len l,h,ofN_len]) fun i _=>?_
 have:=congrArg (fun q=>q.getD i 0) h
 simp only [ofN_get] at this
 omega
theorem Good.inj {z:List Int} (h:Good z) (i j:Nat) (hi:i < z.length) (hj:j < z.length) (e:z.getD i 0=z.getD j 0):i=j:=by
 rcases Nat.lt_trichotomy i j with h1 | h1 | h1
 ·exact absurd e ((h j hj).2.2 i h1)
 ·exact h1
 ·exact absurd e.symm ((h i hi).2.2 j h1)
theorem Good.surj {z:List Int} (h:Good z) (v:Nat) (hv:v < z.length):∃ i,i < z.length∧z.getD i 0=(v:Int):=by
 obtain ⟨i,h1,h2⟩:=inj_surj z.length (fun i=>(z.getD i 0).toNat) (fun i hi=>by have:=h i hi;show (z.getD i 0).toNat < _;omega)
  (fun i j hi hj e=>h.inj i j hi hj (by have h1:=h i hi;have h2:=h j hj;omega)) v hv
 exact ⟨i,h1,by have:=h i h1;omega⟩
theorem Good.inv {z:List Int} (h:Good z) (y:List Int) (hy:y.length=z.length)
  (hb:∀ v,v < z.length→(y.getD v 0=-1∧∀ j,j < z.length→z.getD j 0≠(v:Int))∨∃ j,j < z.length∧y.getD v 0=(j:Int)∧z.getD j 0=(v:Int)) :
  ∃ l b:List Nat,z=ofN l∧y=ofN b∧Inv l b:=by
 have each:∀ v,v < z.length→∃ j,j < z.length∧y.getD v 0=(j:Int)∧z.getD j 0=(v:Int):=fun v hv=>by
  rcases hb v hv with ⟨_,hn⟩ | h1
  ·obtain ⟨i,h1,h2⟩:=h.surj v hv
   exact absurd h2 (hn i h1)
  ·exact h1
 have back:∀ q:List Int,(∀ i,i < q.length→0≤q.getD i 0)→q=ofN (q.map Int.toNat):=fun q hq=>by
  apply List.ext_getElem (by simp [ofN])
  intro i h1 h2
  have:=hq i h1
  rw [List.getD_eq_getElem?_getD,List.getElem?_eq_getElem h1] at this
  simp at this
  simp [ofN];omega
 have gz:∀ i,(z.map Int.toNat).getD i 0=(z.getD i 0).toNat:=fun i=>by
  rw [List.getD_eq_getElem?_getD,List.getD_eq_getElem?_getD,List.getElem?_map];cases z[i]? <;> simp
 have gy:∀ i,(y.map Int.toNat).getD i 0=(y.getD i 0).toNat:=fun i=>by
  rw [List.getD_eq_getElem?_getD,List.getD_eq_getElem?_getD,List.getElem?_map];cases y[i]? <;> simp
 have toN:∀ k:Nat,((k:Int)).toNat=k:=fun k=>by omega
 refine ⟨z.map Int.toNat,y.map Int.toNat,back z fun i hi=>(h i hi).1,back y fun i hi=>by obtain ⟨j,_,e,_⟩:=each i (by omega);omega,⟨by simp [hy],?_,?_,?_,?_⟩⟩
 ·intro i hi
  rw [List.length_map] at hi ⊢
  rw [gz]
  have:=h i hi
  omega
 ·intro i hi
  rw [List.length_map] at hi ⊢
  rw [gy]
  obtain ⟨j,h1,e,_⟩:=each i hi
  rw [e,toN];exact h1
 ·intro i hi
  rw [List.length_map] at hi
  rw [gy,gz]
  have hzi:=h i hi
  obtain ⟨j,h1,e,e2⟩:=each (z.getD i 0).toNat (by omega)
  rw [e,toN]
  exact h.inj j i h1 hi (by rw [e2];omega)
 ·intro i hi
  rw [List.length_map] at hi
  rw [gz,gy]
  obtain ⟨j,h1,e,e2⟩:=each i hi
  rw [e,toN,e2,toN]
theorem Inv.good {l b:List Nat} (h:Inv l b):Good (ofN l):=by
 intro i hi
 rw [ofN_len] at hi ⊢
 rw [ofN_get]
 refine ⟨by omega,by have:=h.lt i hi;omega,fun j hj e=>?_⟩
 rw [ofN_get] at e
 have:=h.inj j i (by omega) hi (by omega)
 omega
/-! ### The document's question: does each number stand in it once? -/
end Go.Proofs.YtijbdnhlpbcabaaGreatDoor
namespace Go.Proofs.YtijbdnhlpbcabaaGreatDoor
set_option maxRecDepth 20000
def PermAt (w:World) (g:Nat) (l b:List Nat):Prop:=Inv l b∧l.length≤1000000∧∃ A c A' c',Blk w g 117 #[.slice A l.length c,.slice A' l.length c']∧Rd w w.heap.size A l.length (I64 (ofN l))∧Rd w w.heap.size A' l.length (I64 (ofN b))
theorem Rd.more {w w':World} {n:Nat} {A:Option Addr} {xs:List Value} (h:Rd w w.heap.size A n xs) (m:Below w.heap.size w w'):Rd w' w'.heap.size A n xs:=(h.below m).up m.size
theorem PermAt.below {w w':World} {g:Nat} {l b:List Nat} (h:PermAt w g l b) (m:Below w.heap.size w w'):PermAt w' g l b:=by
 obtain ⟨hi,hl,A,c,A',c',hb,h1,h2⟩:=h
 exact ⟨hi,hl,A,c,A',c',hb.below m,h1.more m,h2.more m⟩
theorem len_p (g:Nat) (l b:List Nat) (w:World) (h:PermAt w g l b) :
  Calls Tryz.prog 79 #[.pointer (some ⟨g,0,none⟩)] w fun e w'=>e=.returned (.int .i64 (l.length:Int))∧w=w':=by
 obtain ⟨hi,hl,A,c,A',c',hb,h1,h2⟩:=h
 have c0:w.cell? ⟨g,0,none⟩=some (.slice A l.length c):=hb.cell 0
 go_enter Tryz.func79,Tryz.ntmps79
 go_wp2
 go_ret
 exact ⟨rfl,rfl⟩
theorem at_in (g:Nat) (l b:List Nat) (i:Nat) (w:World) (h:PermAt w g l b) (hi:i < l.length) :
  Calls Tryz.prog 103 #[.pointer (some ⟨g,0,none⟩),.int .i64 (i:Int)] w fun e w'=>e=.returned (.int .i64 ((l.getD i 0:Nat):Int))∧w=w':=by
 have hlen:=len_p g l b w h
 obtain ⟨hinv,hl,A,c,A',c',hb,h1,h2⟩:=h
 have c0:w.cell? ⟨g,0,none⟩=some (.slice A l.length c):=hb.cell 0
 obtain ⟨ba,o,rfl,_,hc⟩:=h1.i64 (by omega)
 have hci:=hc i hi
 rw [ofN_get] at hci
 have HL:=Lib.hid hlen
 clear h1 h2 hb hinv
 generalize l.getD i 0=x at *
 clear hc hlen
 go_enter Tryz.func103,Tryz.ntmps103
 go_wp2_with (go_at_call 79;refine HL.out.mono ?_;rintro e w' ⟨rfl,rfl⟩)
 go_ret
 exact ⟨rfl,rfl⟩
theorem at_out (g:Nat) (l b:List Nat) (i:Int) (w:World) (h:PermAt w g l b) (hi:i < 0∨(l.length:Int)≤i) :
  Calls Tryz.prog 103 #[.pointer (some ⟨g,0,none⟩),.int .i64 i] w fun e w'=>e=.returned (.int .i64 (-1))∧w=w':=by
 have hlen:=len_p g l b w h
 have HL:=Lib.hid hlen
 clear hlen h
 rcases hi with hi | hi
 ·go_enter Tryz.func103,Tryz.ntmps103
  go_wp2_with fail
  go_ret
  exact ⟨rfl,rfl⟩
 ·have hi2:¬ i < 0:=by omega
  go_enter Tryz.func103,Tryz.ntmps103
  go_wp2_with (go_at_call 79;refine HL.out.mono ?_;rintro e w' ⟨rfl,rfl⟩)
  go_ret
  exact ⟨rfl,rfl⟩
theorem list_p (g:Nat) (l b:List Nat) (w:World) (h:PermAt w g l b) :
  Calls Tryz.prog 76 #[.pointer (some ⟨g,0,none⟩)] w (NewI64 w (ofN l)):=by
 obtain ⟨hinv,hl,A,c,A',c',hb,h1,h2⟩:=h
 have c0:w.cell? ⟨g,0,none⟩=some (.slice A l.length c):=hb.cell 0
 go_enter Tryz.func76,Tryz.ntmps76
 go_wp2_with fail
 refine (cloneI_any A _ _ _ (ofN l) _ h1 (by omega)).mono ?_
 rintro e w2 ⟨A2,k2,rfl,hk2,hm2,hown2,hb2⟩
 go_wp2
 go_ret
 exact ⟨A2,k2,rfl,hk2,hm2,hown2,hb2⟩
end Go.Proofs.YtijbdnhlpbcabaaGreatDoor
namespace Go.Proofs.YtijbdnhlpbcabaaGreatDoor
set_option maxRecDepth 20000
def PermLo (lo:Nat) (w:World) (g:Nat):Prop:=∃ A n c A' n' c',Blk w g 117 #[.slice A n c,.slice A' n' c']∧lo≤g∧(∀ a:Addr,A=some a→lo≤a.block)∧(∀ a:Addr,A'=some a→lo≤a.block)
def OfPost (w:World) (z:List Int) (e:Ending) (w':World):Prop :=
 ((∃ g l b,z=ofN l∧e=.returned (.tuple #[.pointer (some ⟨g,0,none⟩),.int .i64 0])∧PermAt w' g l b∧PermLo w.heap.size w' g)∨(¬ Good z∧e=.returned (.tuple #[.pointer none,.int .i64 4])))∧Below w.heap.size w w'
def Known (z y:List Int) (k:Nat):Prop:=(∀ i,i < k→0≤z.getD i 0∧z.getD i 0 < (z.length:Int)∧∀ j,j < i→z.getD j 0≠z.getD i 0) ∧
 ∀ v,v < z.length→(y.getD v 0=-1∧∀ j,j < k→z.getD j 0≠(v:Int))∨∃ j,j < k∧y.getD v 0=(j:Int)∧z.getD j 0=(v:Int)
theorem Known.next {z y:List Int} {k x:Nat} (h:Known z y k) (hy:y.length=z.length) (hk:k < z.length) (hx:z.getD k 0=(x:Int)) (hxn:x < z.length) (hf:y.getD x 0=-1):Known z (y.set x (k:Int)) (k+1):=by
 have hno:∀ j,j < k→z.getD j 0≠(x:Int):=by
  rcases h.2 x hxn with h1 | ⟨j,_,h2,_⟩
  ·exact h1.2
  ·rw [hf] at h2;omega
 refine ⟨fun i hi=>?_,fun v hv=>?_⟩
 ·by_cases e:i=k
  ·subst e;rw [hx];exact ⟨by omega,by omega,hno⟩
  ·exact h.1 i (by omega)
 ·rw [getDI_set y x v _ (by omega)]
  by_cases e:v=x
  ·subst e;rw [if_pos rfl];exact .inr ⟨k,by omega,rfl,hx⟩
  ·rw [if_neg e]
   rcases h.2 v hv with ⟨h1,h2⟩ | ⟨j,h1,h2,h3⟩
   ·refine .inl ⟨h1,fun j hj=>?_⟩
    by_cases e2:j=k
    ·subst e2;rw [hx];omega
    ·exact h2 j (by omega)
   ·exact .inr ⟨j,by omega,h2,h3⟩
theorem Known.bad {z y:List Int} {k x:Nat} (h:Known z y k) (hk:k < z.length) (hx:z.getD k 0=(x:Int)) (hxn:x < z.length) (hf:y.getD x 0≠-1):¬ Good z:=by
 intro hg
 rcases h.2 x hxn with h1 | ⟨j,h1,_,h3⟩
 ·exact hf h1.1
 ·exact (hg k hk).2.2 j h1 (by rw [hx,h3])
set_option maxHeartbeats 1000000 in
theorem of_p (A:Option Addr) (n c B:Nat) (z:List Int) (w:World) (h:Rd w B A n (I64 z)) (hn:n≤1000000) :
  Calls Tryz.prog 49 #[.slice A n c] w (OfPost w z):=by
 have hlz:z.length=n:=by rw [← h.len,I64_len]
 have HLZ:=Lib.hid hlz
 obtain ⟨i0,hi0,hz0,hz1,hz2⟩:=info_parts info_int
 have hmk:=run_make_one (P:=Tryz.prog) 25 3 i0 (.int .i64 0) 8 Tryz.underlying25 hi0 hz0 hz1 hz2 rfl .i64 .i64 n (by omega) (by omega)
 have hown:=own_made w 3 n (.int .i64 0) (by simp only [maxLen];omega)
 rw [← I64_replicate] at hown
 clear hlz
 go_enter Tryz.func49,Tryz.ntmps49
 go_wp2
 go_loopw [13] (fun i wr=>∃ (k:Nat) (y:List Int),k≤n∧i=.int .i64 k∧Hid (∀ j,j < k→y.getD j 0=-1)∧wr.ownsRow w.heap.size 3 1 (.slice (some ⟨w.heap.size,0,none⟩) n n) n (I64 y)∧Below w.heap.size w wr) (fun i _=>n - (intOf i).toNat)
 case atStart =>
  refine ⟨0,List.replicate n 0,by omega,rfl,fun j hj=>absurd hj (by omega),?_,(Below.refl _ _).alloc (Nat.le_refl _) _⟩
  simpa [I64] using hown
 case round =>
  clear hown
  obtain ⟨k,y,hk,rfl,hy,hown,hbl⟩:=hrel
  by_cases hlt:k < n
  ·have hc:=own_cellI hown k hlt
   have hf:=hown.frozenAt k
   have hyl:=own_lenI hown
   have HYL:=Lib.hid hyl
   clear hyl
   generalize y.getD k 0=yk at hc
   go_wp2
   go_roundw
   case rel =>
    refine ⟨k+1,y.set k (-1),by omega,by go_num,fun j hj=>?_,own_setI hown k _,hbl.setCell (Nat.le_refl _) _⟩
    rw [getDI_set _ _ _ _ (by rw [HYL.out];exact hlt)]
    by_cases e:j=k
    ·rw [if_pos e]
    ·rw [if_neg e];exact hy.out j (by omega)
   case measure=>simp [intOf];omega
  ·obtain rfl:k=n:=by omega
   obtain ⟨wo,rfl⟩:∃ wo:World,wo=wr:=⟨_,rfl⟩
   go_wp2
   go_loopw [22] (fun i wr=>∃ (q:Nat) (y:List Int),q≤k∧i=.int .i64 q∧Hid (Known z y q)∧wr.ownsRow w.heap.size 3 1 (.slice (some ⟨w.heap.size,0,none⟩) k k) k (I64 y)∧Below w.heap.size w wr) (fun i _=>k - (intOf i).toNat)
   case atStart =>
    refine ⟨0,y,by omega,rfl,⟨fun i hi=>absurd hi (by omega),fun v hv=>.inl ⟨hy.out v (by rw [HLZ.out] at hv;exact hv),fun j hj=>absurd hj (by omega)⟩⟩,hown,hbl⟩
   case round =>
    clear hown hy hbl hk hlt
    obtain ⟨q,y,hq,rfl,hkn,hown,hbl⟩:=hrel
    have hyl:=own_lenI hown
    have HYL:=Lib.hid hyl
    clear hyl
    by_cases hlt:q < k
    ·obtain ⟨b,o,rfl,hbB,hcz⟩:=h.i64 (by omega)
     have hcq:=hcz q hlt
     have hold:wr.cell? ⟨b,o+q,none⟩=some (.int .i64 (z.getD q 0)):=(hbl.cell (p:=⟨b,o+q,none⟩) (World.block_lt_of_cell? _ _ hcq)).trans hcq
     clear hcz hcq
     by_cases hneg:z.getD q 0 < 0
     ·have hbad:Hid (¬ Good z):=fun hg=>by have:=(hg q (by rw [HLZ.out];exact hlt)).1;omega
      generalize z.getD q 0=x at *
      go_wp2_with fail
      go_ret2
      exact ⟨.inr ⟨hbad.out,rfl⟩,hbl⟩
     ·by_cases hbig:(k:Int)≤z.getD q 0
      ·have hbad:Hid (¬ Good z):=fun hg=>by have:=(hg q (by rw [HLZ.out];exact hlt)).2.1;rw [HLZ.out] at this;omega
       generalize z.getD q 0=x at *
       go_wp2_with fail
       go_ret2
       exact ⟨.inr ⟨hbad.out,rfl⟩,hbl⟩
      ·obtain ⟨x,hx⟩:∃ x:Nat,z.getD q 0=(x:Int):=⟨(z.getD q 0).toNat,by omega⟩
       have hxk:x < k:=by omega
       rw [hx] at hold
       have hc:=own_cellI hown x hxk
       have hf:=hown.frozenAt x
       by_cases hfree:y.getD x 0=-1
       ·have hnext:Hid (Known z (y.set x (q:Int)) (q+1)):=hkn.out.next (by rw [HYL.out,HLZ.out]) (by rw [HLZ.out];exact hlt) hx (by rw [HLZ.out];exact hxk) hfree
        rw [hfree] at hc
        clear hfree hx hneg hbig
        go_wp2
        go_roundw
        case rel=>exact ⟨q+1,y.set x (q:Int),by omega,by go_num,hnext,own_setI hown x _,hbl.setCell (Nat.le_refl _) _⟩
        case measure=>simp [intOf];omega
       ·have hbad:Hid (¬ Good z):=hkn.out.bad (by rw [HLZ.out];exact hlt) hx (by rw [HLZ.out];exact hxk) hfree
        have hne:(y.getD x 0 != -1)=true:=by rw [bne_iff_ne];exact hfree
        clear hfree hx hneg hbig
        generalize y.getD x 0=yx at *
        go_wp2
        go_ret2
        exact ⟨.inr ⟨hbad.out,rfl⟩,hbl⟩
    ·obtain rfl:q=k:=by omega
     have hrz:=h.lt.below hbl
     go_wp2_with fail
     refine (cloneI_any A _ _ _ z _ hrz (by omega)).mono ?_
     rintro e w2 ⟨A2,k2,rfl,hk2,hm2,hown2,hb2⟩
     have hfin:Hid (∃ l b,z=ofN l∧y=ofN b∧Inv l b):=by
      have hg:Good z:=fun i hi=>hkn.out.1 i (by rw [HLZ.out] at hi;exact hi)
      exact hg.inv y (by rw [HYL.out,HLZ.out]) (fun v hv=>by
       rcases hkn.out.2 v hv with ⟨h1,h2⟩ | ⟨j,h1,h2⟩
       ·exact .inl ⟨h1,fun j hj=>h2 j (by rw [HLZ.out] at hj;exact hj)⟩
       ·exact .inr ⟨j,by rw [HLZ.out];exact h1,h2⟩)
     go_wp2
     go_ret2
     obtain ⟨l,b,hzl,hyb,hinv⟩:=hfin.out
     have hll:l.length=q:=by rw [← ofN_len,← hzl,HLZ.out]
     have hb3:Below w2.heap.size w2 (w2.alloc (.cells #[.slice A2 z.length k2,.slice (some ⟨w.heap.size,0,none⟩) q q] 117)):=(Below.refl _ _).alloc (Nat.le_refl _) _
     have hbq:Below w.heap.size w (w2.alloc (.cells #[.slice A2 z.length k2,.slice (some ⟨w.heap.size,0,none⟩) q q] 117)):=(hbl.trans (hb2.mono hbl.size)).trans (hb3.mono (Nat.le_trans hbl.size hb2.size))
     have hlo:PermLo w.heap.size (w2.alloc (.cells #[.slice A2 z.length k2,.slice (some ⟨w.heap.size,0,none⟩) q q] 117)) w2.heap.size:=by
      refine ⟨A2,z.length,k2,some ⟨w.heap.size,0,none⟩,q,q,Blk.new _ _ _,Nat.le_trans hbl.size hb2.size,fun a ha=>?_,fun a ha=>by cases ha;exact Nat.le_refl _⟩
      subst ha
      have:=(hown2.lt a.block rfl).1
      have:=hbl.size
      omega
     refine ⟨.inl ⟨w2.heap.size,l,b,hzl,rfl,⟨hinv,by omega,A2,k2,some ⟨w.heap.size,0,none⟩,q,?_,?_,?_⟩,hlo⟩,hbq⟩
     ·have:=Blk.new w2 117 #[.slice A2 z.length k2,.slice (some ⟨w.heap.size,0,none⟩) q q]
      rw [HLZ.out] at this ⊢
      rw [hll]
      exact this
     ·have:=(Rd.ofOwn hown2).more hb3
      rw [HLZ.out] at this ⊢
      rw [hll,← hzl]
      exact this
     ·have:=((Rd.ofOwn (own_below hown hb2))).more hb3
      rw [HLZ.out] at this ⊢
      rw [hll,← hyb]
      exact this
end Go.Proofs.YtijbdnhlpbcabaaGreatDoor
namespace Go.Proofs.YtijbdnhlpbcabaaGreatDoor
set_option maxRecDepth 20000
def comp (l r:List Nat):List Nat:=l.map fun x=>r.getD x 0
theorem comp_len (l r:List Nat):(comp l r).length=l.length:=by simp [comp]
theorem comp_get (l r:List Nat) (i:Nat) (hi:i < l.length):(comp l r).getD i 0=r.getD (l.getD i 0) 0:=by
 simp [comp,List.getD_eq_getElem?_getD,List.getElem?_eq_getElem hi]
theorem comp_inv {l b r d:List Nat} (h:Inv l b) (k:Inv r d) (e:l.length=r.length):Inv (comp l r) (comp d b):=by
 refine ⟨by rw [comp_len,comp_len,k.len,e],?_,?_,?_,?_⟩ <;> intro i hi <;> rw [comp_len] at hi <;> try rw [comp_len]
 ·rw [comp_get _ _ _ hi,e];exact k.lt _ (by rw [← e];exact h.lt i hi)
 ·rw [comp_get d b i (by rw [k.len,← e];exact hi)]
  exact h.lt' _ (by rw [e];exact k.lt' i (by rw [← e];exact hi))
 ·rw [comp_get _ _ _ hi]
  have h1:=h.lt i hi
  have h2:=k.lt (l.getD i 0) (by rw [← e];exact h1)
  rw [comp_get _ _ _ (by rw [k.len];exact h2),k.lb _ (by rw [← e];exact h1),h.lb i hi]
 ·rw [comp_get d b i (by rw [k.len,← e];exact hi)]
  have h1:=k.lt' i (by rw [← e];exact hi)
  have h2:=h.lt' (d.getD i 0) (by rw [e];exact h1)
  rw [comp_get l r _ h2,h.bl _ (by rw [e];exact h1),k.bl i (by rw [← e];exact hi)]
def NewP2Lo (w:World) (l b:List Nat) (e:Ending) (w':World):Prop :=
 ∃ g,e=.returned (.tuple #[.pointer (some ⟨g,0,none⟩),.int .i64 0])∧PermAt w' g l b∧PermLo w.heap.size w' g∧Below w.heap.size w w'
set_option maxHeartbeats 2000000 in
theorem then_lo (g g':Nat) (l b r d:List Nat) (w:World) (h:PermAt w g l b) (k:PermAt w g' r d) (he:l.length=r.length) :
  Calls Tryz.prog 51 #[.pointer (some ⟨g,0,none⟩),.pointer (some ⟨g',0,none⟩)] w (NewP2Lo w (comp l r) (comp d b)):=by
 have lenp:=len_p g l b w h
 have lenq:=len_p g' r d w k
 rw [← he] at lenq
 have LP:=Lib.hid lenp
 have LQ:=Lib.hid lenq
 clear lenp lenq
 obtain ⟨hinv,hl,A,c,A',c',hb,h1,h2⟩:=h
 obtain ⟨kinv,kl,D,cd,D',cd',kb,k1,k2⟩:=k
 obtain ⟨i0,hi0,hz0,hz1,hz2⟩:=info_parts info_int
 have hmk:=run_make_one (P:=Tryz.prog) 25 3 i0 (.int .i64 0) 8 Tryz.underlying25 hi0 hz0 hz1 hz2 rfl .i64 .i64 l.length (by omega) (by omega)
 have hcomp:=comp_inv hinv kinv he
 have HE:=Lib.hid he
 clear he kl
 go_enter Tryz.func51,Tryz.ntmps51
 go_wp2_with fail
 refine LP.out.mono ?_
 rintro e w' ⟨rfl,rfl⟩
 go_wp2_with fail
 refine LQ.out.mono ?_
 rintro e w' ⟨rfl,rfl⟩
 go_upto_region 6 with fail
 go_cut [7,8] (fun s7 s8 wx=>∃ g7 g8:Nat,s7=.slice (some ⟨g7,0,none⟩) l.length l.length∧s8=.slice (some ⟨g8,0,none⟩) l.length l.length∧g7≠g8 ∧
  wx.ownsRow w.heap.size 3 1 (.slice (some ⟨g7,0,none⟩) l.length l.length) l.length (I64 (List.replicate l.length 0)) ∧
  wx.ownsRow w.heap.size 3 1 (.slice (some ⟨g8,0,none⟩) l.length l.length) l.length (I64 (List.replicate l.length 0))∧Below w.heap.size w wx)
 case first =>
  have e0:=own_made w 3 l.length (.int .i64 0) (by simp only [maxLen];omega)
  have e1:=own_made (w.alloc (.cells (List.replicate l.length (.int .i64 0)).toArray 3)) 3 l.length (.int .i64 0) (by simp only [maxLen];omega)
  have e0':=e0.alloc (.cells (List.replicate l.length (.int .i64 0)).toArray 3)
  have e1':=e1.base_le' (show w.heap.size≤_ by simp)
  rw [← I64_replicate] at e0' e1'
  have hb2:=((Below.refl w.heap.size w).alloc (Nat.le_refl _) (.cells (List.replicate l.length (.int .i64 0)).toArray 3)).alloc (by simp) (.cells (List.replicate l.length (.int .i64 0)).toArray 3)
  have E0:=Lib.hid e0'.drew
  have E1:=Lib.hid e1'.drew
  have EB:=Lib.hid hb2.drew
  clear e0 e1 e0' e1' hb2
  go_region
  all_goals
   go_wp2_with fail
   go_meet
   refine ⟨_,_,rfl,rfl,by simp,?_,?_,by simpa [I64] using EB.out⟩
   ·first
     | (simpa [I64] using E0.out)
     | (simpa [I64] using E1.out)
   ·first
     | (simpa [I64] using E0.out)
     | (simpa [I64] using E1.out)
 case rest =>
  obtain ⟨g7,g8,rfl,rfl,hne,o7,o8,hbl⟩:=hcut
  go_wp2
  go_loopw [28] (fun i wr=>∃ (q:Nat) (y7 y8:List Int),q≤l.length∧i=.int .i64 q∧Hid (∀ j,j < q→y7.getD j 0=(((comp l r).getD j 0:Nat):Int))∧Hid (∀ j,j < q→y8.getD j 0=(((comp d b).getD j 0:Nat):Int)) ∧
   wr.ownsRow w.heap.size 3 1 (.slice (some ⟨g7,0,none⟩) l.length l.length) l.length (I64 y7) ∧
   wr.ownsRow w.heap.size 3 1 (.slice (some ⟨g8,0,none⟩) l.length l.length) l.length (I64 y8)∧Below w.heap.size w wr) (fun i _=>l.length - (intOf i).toNat)
  case atStart=>exact ⟨0,_,_,by omega,rfl,fun j hj=>absurd hj (by omega),fun j hj=>absurd hj (by omega),o7,o8,hbl⟩
  case round =>
   clear o7 o8 hbl
   obtain ⟨q,y7,y8,hq,rfl,hy7,hy8,o7,o8,hbl⟩:=hrel
   by_cases hlt:q < l.length
   ·have hrl:0 < r.length:=by rw [← HE.out];omega
    obtain ⟨b1,p1,rfl,_,m1⟩:=h1.i64 (by omega)
    obtain ⟨b2,p2,rfl,_,m2⟩:=h2.i64 (by omega)
    obtain ⟨b3,p3,rfl,_,m3⟩:=k1.i64 hrl
    obtain ⟨b4,p4,rfl,_,m4⟩:=k2.i64 hrl
    have hg:=hb.lt
    have hg':=kb.lt
    have lq:=hinv.lt q hlt
    have dq:=kinv.lt' q (by rw [← HE.out];exact hlt)
    rw [← HE.out] at dq
    have a0:w.cell? ⟨b1,p1+q,none⟩=some (.int .i64 ((l.getD q 0:Nat):Int)):=by rw [m1 q hlt,ofN_get]
    have a1:w.cell? ⟨b3,p3+l.getD q 0,none⟩=some (.int .i64 ((r.getD (l.getD q 0) 0:Nat):Int)):=by rw [m3 _ (by rw [← HE.out];exact lq),ofN_get]
    have a2:w.cell? ⟨b4,p4+q,none⟩=some (.int .i64 ((d.getD q 0:Nat):Int)):=by rw [m4 q (by rw [← HE.out];exact hlt),ofN_get]
    have a3:w.cell? ⟨b2,p2+d.getD q 0,none⟩=some (.int .i64 ((b.getD (d.getD q 0) 0:Nat):Int)):=by rw [m2 _ dq,ofN_get]
    have v7:Hid ((comp l r).getD q 0=r.getD (l.getD q 0) 0):=comp_get l r q hlt
    have v8:Hid ((comp d b).getD q 0=b.getD (d.getD q 0) 0):=comp_get d b q (by rw [kinv.len,← HE.out];exact hlt)
    have b0:=(hbl.cell (p:=⟨b1,p1+q,none⟩) (World.block_lt_of_cell? _ _ a0)).trans a0
    have b1':=(hbl.cell (p:=⟨b3,p3+l.getD q 0,none⟩) (World.block_lt_of_cell? _ _ a1)).trans a1
    have b2':=(hbl.cell (p:=⟨b4,p4+q,none⟩) (World.block_lt_of_cell? _ _ a2)).trans a2
    have b3':=(hbl.cell (p:=⟨b2,p2+d.getD q 0,none⟩) (World.block_lt_of_cell? _ _ a3)).trans a3
    have s0:wr.cell? ⟨g,0,none⟩=some (.slice (some ⟨b1,p1,none⟩) l.length c):=(hbl.cell (p:=⟨g,0,none⟩) hg).trans (hb.cell 0)
    have s1:wr.cell? ⟨g,1,none⟩=some (.slice (some ⟨b2,p2,none⟩) l.length c'):=(hbl.cell (p:=⟨g,1,none⟩) hg).trans (hb.cell 1)
    have s2:wr.cell? ⟨g',0,none⟩=some (.slice (some ⟨b3,p3,none⟩) l.length cd):=(hbl.cell (p:=⟨g',0,none⟩) hg').trans ((kb.cell 0).trans (by rw [HE.out];rfl))
    have s3:wr.cell? ⟨g',1,none⟩=some (.slice (some ⟨b4,p4,none⟩) l.length cd'):=(hbl.cell (p:=⟨g',1,none⟩) hg').trans ((kb.cell 1).trans (by rw [HE.out];rfl))
    have hB7:=own_block o7
    have hB8:=own_block o8
    have c7:=own_cellI o7 q hlt
    have c8:=own_cellI o8 q hlt
    have f7:=o7.frozenAt q
    have f8:=o8.frozenAt q
    have n7:=own_lenI o7
    have n8:=own_lenI o8
    have N7:=Lib.hid n7
    have N8:=Lib.hid n8
    have z1:=World.block_lt_of_cell? _ _ a0
    have z2:=World.block_lt_of_cell? _ _ a1
    have z3:=World.block_lt_of_cell? _ _ a2
    have z4:=World.block_lt_of_cell? _ _ a3
    clear m1 m2 m3 m4 a0 a1 a2 a3 n7 n8
    generalize r.getD (l.getD q 0) 0=x7 at *
    generalize b.getD (d.getD q 0) 0=x8 at *
    generalize l.getD q 0=lx at *
    generalize d.getD q 0=dx at *
    generalize y7.getD q 0=u7 at *
    generalize y8.getD q 0=u8 at *
    have i1:(lx:Int) < (l.length:Int):=by omega
    have i2:(dx:Int) < (l.length:Int):=by omega
    have i3:(q:Int) < (l.length:Int):=by omega
    clear hb kb h1 h2 k1 k2
    have far:∀ (gg oo:Nat) (u:Value),gg≠g7→wr.cell? ⟨gg,oo,none⟩=some u→(wr.setCell ⟨g7,q,none⟩ (.int .i64 (x7:Int))).cell? ⟨gg,oo,none⟩=some u:=fun gg oo u hn hu=>by
     rw [World.cell?_setCell_other _ _ _ _ (by intro e;exact hn (by simpa using (congrArg Addr.block e).symm))];exact hu
    have T1:=far g 1 _ (by omega) s1
    have T3:=far g' 1 _ (by omega) s3
    have T4:=far b4 (p4+q) _ (by omega) b2'
    have T2:=far b2 (p2+dx) _ (by omega) b3'
    have T8:=far g8 q _ (by omega) c8
    have o7':=own_setI o7 q (x7:Int)
    have o8':(wr.setCell ⟨g7,q,none⟩ (.int .i64 (x7:Int))).ownsRow w.heap.size 3 1 (.slice (some ⟨g8,0,none⟩) l.length l.length) l.length (I64 y8) :=
     own_mod (S:=fun j=>j=g7) o8 ((Mod.refl (fun j=>j=g7) wr).setCell (p:=⟨g7,q,none⟩) (fun _=>rfl) _) (fun j hj hx=>by simp [Value.ownBlock] at hj;omega)
    have o8'':=own_setI o8' q (x8:Int)
    have o7'':((wr.setCell ⟨g7,q,none⟩ (.int .i64 (x7:Int))).setCell ⟨g8,q,none⟩ (.int .i64 (x8:Int))).ownsRow w.heap.size 3 1 (.slice (some ⟨g7,0,none⟩) l.length l.length) l.length (I64 (y7.set q (x7:Int))) :=
     own_mod (S:=fun j=>j=g8) o7' ((Mod.refl (fun j=>j=g8) _).setCell (p:=⟨g8,q,none⟩) (fun _=>rfl) _) (fun j hj hx=>by simp [Value.ownBlock] at hj;omega)
    have O7:=Lib.hid o7''
    have O8:=Lib.hid o8''
    have BL:Hid (Below w.heap.size w ((wr.setCell ⟨g7,q,none⟩ (.int .i64 (x7:Int))).setCell ⟨g8,q,none⟩ (.int .i64 (x8:Int)))):=(hbl.setCell hB7.1 _).setCell hB8.1 _
    clear far o7' o8' o7'' o8'' o7 o8
    go_wp2
    go_region
    go_wp2
    go_region
    go_wp2
    go_roundw
    case rel =>
     refine ⟨q+1,y7.set q (x7:Int),y8.set q (x8:Int),by omega,by go_num,fun j hj=>?_,fun j hj=>?_,O7.out,O8.out,⟨BL.out.os,BL.out.tape,BL.out.output,BL.out.size,BL.out.block⟩⟩
     ·rw [getDI_set _ _ _ _ (by rw [N7.out];exact hlt)]
      by_cases e:j=q
      ·subst e;rw [if_pos rfl,v7.out]
      ·rw [if_neg e];exact hy7.out j (by omega)
     ·rw [getDI_set _ _ _ _ (by rw [N8.out];exact hlt)]
      by_cases e:j=q
      ·subst e;rw [if_pos rfl,v8.out]
      ·rw [if_neg e];exact hy8.out j (by omega)
    case measure=>simp [intOf];omega
   ·obtain rfl:q=l.length:=by omega
    have n7:=own_lenI o7
    have n8:=own_lenI o8
    have hyk7:y7=ofN (comp l r):=getDI_ext (by rw [n7,ofN_len,comp_len]) fun i hi=>by rw [n7] at hi;rw [hy7.out i hi,ofN_get]
    have hyk8:y8=ofN (comp d b):=getDI_ext (by rw [n8,ofN_len,comp_len,kinv.len,HE.out]) fun i hi=>by rw [n8] at hi;rw [hy8.out i hi,ofN_get]
    have HY7:=Lib.hid hyk7
    have HY8:=Lib.hid hyk8
    clear hyk7 hyk8 n7 n8 hb kb h1 h2 k1 k2
    go_wp2
    go_ret2
    have hb3:Below wr.heap.size wr (wr.alloc (.cells #[.slice (some ⟨g7,0,none⟩) l.length l.length,.slice (some ⟨g8,0,none⟩) l.length l.length] 117)):=(Below.refl _ _).alloc (Nat.le_refl _) _
    have hr7:=(Rd.ofOwn o7).more hb3
    have hr8:=(Rd.ofOwn o8).more hb3
    rw [HY7.out] at hr7
    rw [HY8.out] at hr8
    refine ⟨wr.heap.size,rfl,⟨hcomp,by rw [comp_len];exact hl,some ⟨g7,0,none⟩,l.length,some ⟨g8,0,none⟩,l.length,?_,?_,?_⟩,⟨some ⟨g7,0,none⟩,l.length,l.length,some ⟨g8,0,none⟩,l.length,l.length,Blk.new wr _ _,hbl.size,fun a e=>by cases e;exact (own_block o7).1,fun a e=>by cases e;exact (own_block o8).1⟩,hbl.trans (hb3.mono hbl.size)⟩
    ·rw [comp_len];exact Blk.new wr _ _
    ·rw [comp_len];exact hr7
    ·rw [comp_len];exact hr8
/-! ### Same -/
theorem PermAt.drewN {w:World} {g:Nat} {l b:List Nat} (h:PermAt w g l b) (k:Nat):PermAt (w.drewN k) g l b:=h.below (below_draws (Below.refl _ _) k)
set_option maxHeartbeats 1000000 in
theorem same_pp (g g':Nat) (l b r d:List Nat) (w:World) (h:PermAt w g l b) (k:PermAt w g' r d) :
  Calls Tryz.prog 68 #[.pointer (some ⟨g,0,none⟩),.pointer (some ⟨g',0,none⟩)] w fun e w'=>e=.returned (.bool (decide (l=r)))∧∃ j,w'=w.drewN j:=by
 have LP:Hid (∀ j,Calls Tryz.prog 79 #[.pointer (some ⟨g,0,none⟩)] (w.drewN j) fun e w'=>e=.returned (.int .i64 (l.length:Int))∧w.drewN j=w'):=fun j=>len_p g l b _ (h.drewN j)
 have LP0:=Lib.hid (len_p g l b w h)
 have LQ0:=Lib.hid (len_p g' r d w k)
 by_cases hlen:l.length=r.length
 ·by_cases h0:l.length=0
  ·have hl0:l=[]:=List.eq_nil_of_length_eq_zero h0
   have hr0:r=[]:=List.eq_nil_of_length_eq_zero (by omega)
   subst hl0 hr0
   clear h k hlen h0
   go_enter Tryz.func68,Tryz.ntmps68
   go_wp2_with fail
   refine LP0.out.mono ?_
   rintro e w' ⟨rfl,rfl⟩
   go_wp2_with fail
   refine LQ0.out.mono ?_
   rintro e w' ⟨rfl,rfl⟩
   go_wp2_with fail
   go_quiet ((go_at_call 79;exact Calls.quiet_of_same ((LP.out _).mono fun e w' ⟨he,hw⟩=>⟨he,hw.symm⟩)))
   go_wp2
   go_ret
   exact ⟨rfl,nq,rfl⟩
  ·have hb0:((l.length:Int) == 0)=false:=by simpa using h0
   have hne:((l.length:Int) != (r.length:Int))=false:=by rw [hlen];simp
   obtain ⟨hinv,hl,A,c,A',c',hb,h1,h2⟩:=h
   obtain ⟨kinv,kl,D,cd,D',cd',kb,k1,k2⟩:=k
   have s0:w.cell? ⟨g,0,none⟩=some (.slice A l.length c):=hb.cell 0
   have s1:w.cell? ⟨g',0,none⟩=some (.slice D r.length cd):=kb.cell 0
   have EQ:Hid (∀ j,Calls Tryz.prog 31 #[.slice A l.length c,.slice D r.length cd] (w.drewN j) fun e w'=>e=.returned (.bool (decide (l=r)))∧∃ m,w'=(w.drewN j).drewN m):=fun j=>by
    have:=equalI_any A D l.length c r.length cd _ _ (ofN l) (ofN r) (w.drewN j) (h1.drewN j) (k1.drewN j) (by omega) (by omega)
    refine this.mono fun e w' ⟨he,hw⟩=>⟨?_,hw⟩
    rw [he]
    congr 2
    rw [decide_eq_decide]
    constructor
    ·intro e'
     refine getD_ext hlen fun i hi=>?_
     have:=congrArg (fun q=>q.getD i 0) e'
     simp only [ofN_get] at this
     omega
    ·rintro rfl;rfl
   generalize decide (l=r)=res at *
   clear hinv kinv hb kb h1 h2 k1 k2 hlen h0
   go_enter Tryz.func68,Tryz.ntmps68
   go_wp2_with fail
   refine LP0.out.mono ?_
   rintro e w' ⟨rfl,rfl⟩
   go_wp2_with fail
   refine LQ0.out.mono ?_
   rintro e w' ⟨rfl,rfl⟩
   go_wp2_with fail
   go_quiet ((first
    | (go_at_call 79;exact Calls.quiet_of_same ((LP.out _).mono fun e w' ⟨he,hw⟩=>⟨he,hw.symm⟩))
    | (go_at_call 31;exact Calls.quiet_of (EQ.out _))))
   go_wp2
   go_ret
   exact ⟨rfl,nq,rfl⟩
 ·have hne:((l.length:Int) != (r.length:Int))=true:=by rw [bne_iff_ne];omega
  have hd:decide (l=r)=false:=decide_eq_false fun e=>hlen (by rw [e])
  have HD:=Lib.hid hd
  clear hd h k hlen
  go_enter Tryz.func68,Tryz.ntmps68
  go_wp2_with fail
  refine LP0.out.mono ?_
  rintro e w' ⟨rfl,rfl⟩
  go_wp2_with fail
  refine LQ0.out.mono ?_
  rintro e w' ⟨rfl,rfl⟩
  go_wp2_with fail
  go_ret
  exact ⟨by rw [HD.out];rfl,0,rfl⟩
end Go.Proofs.YtijbdnhlpbcabaaGreatDoor
