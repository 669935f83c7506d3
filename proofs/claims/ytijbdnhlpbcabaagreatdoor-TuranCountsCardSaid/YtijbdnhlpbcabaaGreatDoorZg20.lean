/- The document's walk. -/
import Derived.Test.YtijbdnhlpbcabaaGreatDoorZg19
import Derived.BigQuiet
import Derived.Test.YtijbdnhlpbcabaaGreatDoorZg3
import Derived.Laws.Concat
set_option linter.unusedVariables false
open Go.RowKit
namespace Go.Proofs.YtijbdnhlpbcabaaGreatDoor
set_option maxRecDepth 20000
open Go.RowKit Go.Maps


open Go.RowKit Go.Maps
def wkn (sg nm:Nat→Nat) (m V r:Nat):Nat→List Nat
 | 0=>[]
 | j+1=>wkn sg nm m V r j++[(wrun sg nm m V r j).k nm]
theorem wk_lt (sg nm:Nat→Nat) (m V r j:Nat):(wrun sg nm m V r j).k nm < 4:=by
 rcases (wrun sg nm m V r j).kinds (nm:=nm) with ⟨a,_⟩ | ⟨a,_⟩ | ⟨a,_⟩ | ⟨a,_⟩ <;> omega
theorem wkn_lt (sg nm:Nat→Nat) (m V r:Nat):∀ j,∀ x∈wkn sg nm m V r j,x < 4
 | 0,x,h=>by simp [wkn] at h
 | j+1,x,h=>by
   unfold wkn at h
   rcases List.mem_append.1 h with y | y
   ·exact wkn_lt sg nm m V r j x y
   ·simp at y;rw [y];exact wk_lt sg nm m V r j
theorem wstk_mono (sg nm:Nat→Nat) (m V r i:Nat):∀ N k,k≤N→i < 2*k→(wst sg nm m V r N).getD i 0=(wst sg nm m V r k).getD i 0
 | 0,k,h,hi=>by omega
 | N+1,k,h,hi=>by
   rcases Nat.lt_or_ge N k with c | c
   ·rw [show k=N+1 by omega]
   ·rw [← wstk_mono sg nm m V r i N k c hi]
    have:=wst_len sg nm m V r N
    rw [show wst sg nm m V r (N+1)=wst sg nm m V r N++[((wrun sg nm m V r N).d:Int),(((wrun sg nm m V r N).k nm:Nat):Int)] from rfl]
    rw [List.getD_eq_getElem?_getD,List.getElem?_append_left (by omega),← List.getD_eq_getElem?_getD]
theorem wst_dk (sg nm:Nat→Nat) (m V r:Nat) {N k:Nat} (h:k < N):(wst sg nm m V r N).getD (2*k) 0=((wrun sg nm m V r k).d:Int)∧(wst sg nm m V r N).getD (2*k+1) 0=(((wrun sg nm m V r k).k nm:Nat):Int):=by
 rw [wstk_mono sg nm m V r _ N (k+1) (by omega) (by omega),wstk_mono sg nm m V r _ N (k+1) (by omega) (by omega)]
 have:=wst_len sg nm m V r k
 unfold wst
 constructor
 ·rw [List.getD_eq_getElem?_getD,List.getElem?_append_right (by omega),this,Nat.sub_self];rfl
 ·rw [List.getD_eq_getElem?_getD,List.getElem?_append_right (by omega),this,show 2*k+1 - 2*k=1 by omega];rfl
theorem kindsN_wkn (sg nm:Nat→Nat) (m V r N:Nat):∀ k,k≤N→kindsN (wst sg nm m V r N) k=wkn sg nm m V r k
 | 0,_=>rfl
 | k+1,h=>by
   have h2:=(wst_dk sg nm m V r (show k < N by omega)).2
   have h4:=wk_lt sg nm m V r k
   unfold kindsN wkn
   rw [h2,if_pos ⟨by omega,by omega⟩,kindsN_wkn sg nm m V r N k (by omega),Int.toNat_natCast]
end Go.Proofs.YtijbdnhlpbcabaaGreatDoor
