/- A map without an edge: as many vertices, and edges cut out in any order. -/
import Derived.Test.YtijbdnhlpbcabaaGreatDoorZg34
import Derived.Test.YtijbdnhlpbcabaaGreatDoorZg15
import Derived.Test.YtijbdnhlpbcabaaGreatDoorZg24
import Derived.Test.YtijbdnhlpbcabaaGreatDoorZg19
import Derived.Test.YtijbdnhlpbcabaaGreatDoorZg1
open Go.RowKit
set_option linter.unusedVariables false
set_option linter.unusedSimpArgs false
namespace Go.Proofs.YtijbdnhlpbcabaaGreatDoor
set_option maxRecDepth 20000
/-! ### one taken out of its class -/
section
variable {l b:List Nat}
end
end Go.Proofs.YtijbdnhlpbcabaaGreatDoor
namespace Go.Proofs.YtijbdnhlpbcabaaGreatDoor
set_option maxRecDepth 20000
theorem ofw_p (A:Option Addr) (n c:Nat) (ks:List Nat) (w:World) (hr:Rd w w.heap.size A n (I64 (ofNB ks))) (hk:Kds ks) (hb:∀ i,inBlk A i→∃ cs,Blk w i 3 cs) (hn:n≤100000) :
  Calls Tryz.prog 26 #[.slice A n c] w fun e w'=>∃ g,e=.returned (.pointer (some ⟨g,0,none⟩))∧WordAt w' w.heap.size g ks∧Below w.heap.size w w':=by
 have MN:=Lib.hid (mnew_p w)
 have AD:Hid (∀ (g:Nat) (w1:World),WordAt w1 w.heap.size g []→Below w.heap.size w w1→Calls Tryz.prog 70 #[.pointer (some ⟨g,0,none⟩),.slice A n c] w1 fun e w'=>e=.returned (.int .i64 0)∧WordAt w' w.heap.size g ks∧Below w.heap.size w1 w'):=fun g w1 hw1 b1=>by
  have h1:=madd_p w.heap.size g [] A n c (ofNB ks) w1 (hw1.sep (fun i hi=>by obtain ⟨cs,h⟩:=hb i hi;exact ⟨cs,h.below b1⟩)) ((hr.below b1).up b1.size) (fun i hi=>by obtain ⟨cs,h⟩:=hb i hi;exact Nat.lt_of_lt_of_le h.lt b1.size) (by simp;omega)
  rw [if_pos (kd_of hk),if_pos (kd_of hk),toN_of] at h1
  exact h1
 clear hr hb
 go_enter Tryz.func26,Tryz.ntmps26
 go_wp2_with fail
 refine MN.out.mono ?_
 rintro e w1 ⟨g,rfl,hw1,b1⟩
 have A1:=Lib.hid (AD.out g w1 hw1 b1)
 have B1:=Lib.hid b1
 clear hw1 b1 MN AD
 go_wp2_with fail
 refine A1.out.mono ?_
 rintro e w2 ⟨rfl,hw2,b2⟩
 have W2:=Lib.hid hw2
 have B2:=Lib.hid (B1.out.trans b2)
 clear hw2 b2 A1 B1
 go_wp2_with fail
 go_ret
 exact ⟨g,rfl,W2.out,B2.out⟩
theorem app_row (base:Nat) (w:World) (x y:List Nat) (A:Option Addr) (n c:Nat) (hx:x.length=n) (own:w.ownsRow base 3 1 (.slice A n c) n (I64 (ofN x))) (B:Nat) (A2:Option Addr) (m c2:Nat) (hy:y.length=m) (hr:Rd w B A2 m (I64 (ofN y))) (hn:n+m≤100000) (hbase:base≤w.heap.size) :
  ∃ A' c' w',(Builtin.append_ #[25,25] 25 #[.slice A n c,.slice A2 m c2]).run Tryz.prog w=.ok (.slice A' (n+m) c') w'∧w'.ownsRow base 3 1 (.slice A' (n+m) c') (n+m) (I64 (ofN (x++y)))∧Below base w w':=by
 obtain ⟨i0,hi0,hz0,hz1,hz2⟩:=info_parts info_int
 have one:∀ u∈I64 (ofN y),u.oneCell'=true:=fun u hu=>by
  unfold I64 at hu
  obtain ⟨z,_,rfl⟩:=List.mem_map.1 hu
  rfl
 obtain ⟨v',w',hrun,ho,hg,_⟩:=run_append_rd (P:=Tryz.prog) (w:=w) base 25 25 3 i0 (.int .i64 0) 8 Tryz.underlying25 hi0 hz0 hz1 hz2 rfl (.slice A n c) n (I64 (ofN x)) own B A2 m c2 (I64 (ofN y)) hr one (by simp [maxLen];omega) (by omega) hbase
 have e:I64 (ofN x)++I64 (ofN y)=I64 (ofN (x++y)):=by simp [I64,ofN]
 rw [e] at ho
 obtain ⟨A',c',rfl,_,_⟩:=own_form ho
 exact ⟨A',c',w',hrun,ho,Below.appended own hg hbase⟩
theorem own_int {w:World} {base n c:Nat} {A:Option Addr} {xs:List Value} (h:w.ownsRow base 3 1 (.slice A n c) n xs) (i:Nat) (hi:inBlk A i):∃ cs,Blk w i 3 cs:=by
 obtain ⟨a,rfl,rfl⟩:=hi
 rcases h.2 with ⟨h1,_⟩ | ⟨g,cap,cur,h1,_⟩
 ·simp at h1
 ·simp only [Value.slice.injEq,Option.some.injEq] at h1
  exact own_blk h (by rw [h1.1];rfl)
end Go.Proofs.YtijbdnhlpbcabaaGreatDoor
