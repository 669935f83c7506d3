/- Nodes in memory; join, at, leaf. -/
import Derived.Test.YtajjgpkahljjmaaGreatDoorZg1
import Derived.Test.YtajjgpkahljjmaaGreatDoorZg8
import Derived.Laws.CopyOwn
import Derived.Test.YtajjgpkahljjmaaGreatDoorZg6
import Derived.Test.YtajjgpkahljjmaaGreatDoorZg7
open Go.RowKit
set_option linter.unusedVariables false
namespace Go.Proofs.YtajjgpkahljjmaaGreatDoor
set_option maxRecDepth 20000
def ndv (p:Int × Int):Value:=.agg #[.int .i32 p.1,.int .i32 p.2]
def ndArr (T:Nat→Int × Int) (m:Nat):Array Value:=((List.range (2*m)).map fun j=>Value.int .i32 (if j%2=0 then (T (j / 2)).1 else (T (j / 2)).2)).toArray
theorem ndArr_size (T:Nat→Int × Int) (m:Nat):(ndArr T m).size=2*m:=by simp [ndArr]
theorem ndArr_get (T:Nat→Int × Int) (m k:Nat) (h:k < m):(ndArr T m)[k*2]?=some (.int .i32 (T k).1)∧(ndArr T m)[k*2+1]?=some (.int .i32 (T k).2):=by
 constructor
 ·have e1:k*2%2=0:=by omega
  have e2:k*2 / 2=k:=by omega
  have hl:k*2 < 2*m:=by omega
  simp [ndArr,hl]
 ·have e1:(k*2+1)%2=1:=by omega
  have e2:(k*2+1) / 2=k:=by omega
  have hl:k*2+1 < 2*m:=by omega
  simp [ndArr,hl,e1,e2]
def upd (T:Nat→Int × Int) (k:Nat) (p:Int × Int):Nat→Int × Int:=fun j=>if j=k then p else T j
theorem ndArr_set (T:Nat→Int × Int) (m k:Nat) (p:Int × Int) (h:k < m):((ndArr T m).setIfInBounds (k*2) (.int .i32 p.1)).setIfInBounds (k*2+1) (.int .i32 p.2)=ndArr (upd T k p) m:=by
 apply Array.ext
 ·simp [ndArr]
 ·intro i h1 h2
  have hi:i < 2*m:=by simpa [ndArr] using h2
  have s1:i < (ndArr T m).size:=by rw [ndArr_size];exact hi
  rw [Array.getElem_setIfInBounds (by simpa using s1),Array.getElem_setIfInBounds s1]
  by_cases e1:k*2+1=i
  ·subst e1
   simp [ndArr,upd,show (k*2+1)%2=1 by omega,show (k*2+1) / 2=k by omega]
  ·rw [if_neg e1]
   by_cases e2:k*2=i
   ·subst e2
    simp [ndArr,upd,show (k*2) / 2=k by omega]
   ·rw [if_neg e2]
    simp [ndArr,upd,show i / 2≠k by omega]
theorem ndArr_congr {T U:Nat→Int × Int} {m:Nat} (h:∀ k,k < m→T k=U k):ndArr T m=ndArr U m:=by
 unfold ndArr
 congr 1
 apply List.map_congr_left
 intro j hj
 have:j < 2*m:=by simpa using hj
 rw [h (j / 2) (by omega)]
structure Nul (w:World):Prop where
 s:w.cell? ⟨1,0,none⟩=some (.int .i32 0)
 l:w.cell? ⟨1,1,none⟩=some (.int .i32 2147483647)
theorem Nul.lt {w:World} (h:Nul w):1 < w.heap.size:=World.block_lt_of_cell? _ _ h.s
theorem Nul.below {w w':World} {B:Nat} (h:Nul w) (hB:1 < B) (m:Below B w w'):Nul w' :=
 ⟨(m.cell (p:=⟨1,0,none⟩) hB).trans h.s,(m.cell (p:=⟨1,1,none⟩) hB).trans h.l⟩
theorem Nul.bel {w w':World} (h:Nul w) (m:Below w.heap.size w w'):Nul w':=h.below h.lt m
theorem Nul.mod {w w':World} {S:Nat→Prop} (h:Nul w) (m:Mod S w w') (hs:¬ S 1):Nul w' :=
 ⟨(m.cell h.lt hs 0).trans h.s,(m.cell h.lt hs 1).trans h.l⟩
theorem info_node:(Tryz.prog.info? 227).map (·.size)=some 2:=by kernel_rfl
def RdT (w:World) (b:Nat) (T:Nat→Int × Int) (m:Nat):Prop:=∀ k,k < m→w.cell? ⟨b,k*2,none⟩=some (.int .i32 (T k).1)∧w.cell? ⟨b,k*2+1,none⟩=some (.int .i32 (T k).2)
theorem RdT.ofBlk {w:World} {b m:Nat} {T:Nat→Int × Int} (h:Blk w b 227 (ndArr T m)):RdT w b T m:=fun k hk =>
 ⟨by rw [h.cell];exact (ndArr_get T m k hk).1,by rw [h.cell];exact (ndArr_get T m k hk).2⟩
theorem RdT.below {w w':World} {b m:Nat} {T:Nat→Int × Int} (h:RdT w b T m) (hb:b < w.heap.size) (m':Below w.heap.size w w'):RdT w' b T m:=fun k hk =>
 ⟨(m'.cell (p:=⟨b,k*2,none⟩) hb).trans (h k hk).1,(m'.cell (p:=⟨b,k*2+1,none⟩) hb).trans (h k hk).2⟩
section
variable (w:World)
theorem leaf_p (A:Option Addr) (m c:Nat) (k:Nat) (hm:m≤10000000) (hk:k≤10000000) :
  Calls Tryz.prog 205 #[.slice A m c,.int .i64 (k:Int)] w fun e w'=>e=.returned (.int .i64 ((m / 2+1+k:Nat):Int))∧w=w':=by
 have e1:((m:Int) / 2+1+k)=((m / 2+1+k:Nat):Int):=by omega
 have E1:=Lib.hid e1
 clear e1
 go_enter Tryz.func205,Tryz.ntmps205
 go_wp2
 go_ret
 exact ⟨congrArg (fun z=>Ending.returned (.int .i64 z)) E1.out,rfl⟩
set_option maxHeartbeats 1000000 in
theorem nodeAt_p (b m c x:Nat) (T:Nat→Int × Int) (h:RdT w b T m) (hx:1≤x) (hxm:x≤m) (hm:m≤10000000) (hb:b < w.heap.size) :
  Calls Tryz.prog 207 #[.slice (some ⟨b,0,none⟩) m c,.int .i64 (x:Int)] w fun e w'=>e=.returned (ndv (T (x - 1)))∧Below w.heap.size w w':=by
 obtain ⟨c1,c2⟩:=h (x - 1) (by omega)
 obtain ⟨k,rfl⟩:∃ k,x=k+1:=⟨x - 1,by omega⟩
 rw [show k+1 - 1=k by omega] at *
 have HINF:=Lib.hid info_node
 have e1:((k+1:Nat):Int) - 1=(k:Int):=by omega
 clear h
 go_enter Tryz.func207,Tryz.ntmps207
 go_wp2_with fail
 refine bodyPost_ret (results_cell_row rfl _ _ w.heap.size 227 _ (0,0) _ rfl (Blk.new w _ _) Tryz.underlying227 rfl HINF.out) rfl ?_
 exact ⟨rfl,(Below.refl _ _).alloc (Nat.le_refl _) _⟩
theorem blk_new3 (w:World) (o1 o2:Obj) (t:TypeId) (cs:Array Value):Blk (((w.alloc o1).alloc o2).alloc (.cells cs t)) (w.heap.size+1+1) t cs:=by
 have:=Blk.new ((w.alloc o1).alloc o2) t cs
 rwa [World.size_alloc,World.size_alloc] at this
structure Fits (a:Int × Int):Prop where
 a1:-2000000≤a.1
 a2:a.1≤2000000
 b1:-2000000≤a.2
 b2:a.2≤2147483647
 real:a=nul∨a.2≤0
theorem nd_fits {E:Nat→Int} (h:Exc E) {n:Nat} (hn:n≤1000000) (a b:Nat):Fits (nd E n a b):=by
 obtain ⟨h1,h2,h3,h4⟩:=nd_bound h hn a b
 refine ⟨h1,h2,h3,h4,?_⟩
 by_cases e:n≤512*a∨b≤a
 ·exact .inl (nd_nul e)
 ·exact .inr (nd_low (by omega) (by omega))
set_option maxHeartbeats 1000000 in
theorem join_p (a b:Int × Int) (hN:Nul w) (ha:Fits a) (hb:Fits b) :
  Calls Tryz.prog 206 #[ndv a,ndv b] w fun e w'=>e=.returned (ndv (joinN a b))∧Below w.heap.size w w':=by
 have hz:=hN.lt
 have z1:1 < w.heap.size+1:=by omega
 have z2:1 < w.heap.size+1+1:=by omega
 try simp at z1
 try simp at z2
 obtain ⟨c1,c2⟩:=hN
 have HINF:=Lib.hid info_node
 by_cases h:b=nul
 ·have e1:joinN a b=a:=by unfold joinN;rw [if_pos h]
  rw [e1]
  obtain ⟨s,l⟩:=b
  obtain ⟨rfl,rfl⟩:s=0∧l=2147483647:=by simpa [nul] using h
  obtain ⟨s,l⟩:=a
  unfold ndv
  clear h e1
  go_enter Tryz.func206,Tryz.ntmps206
  go_wp2_with fail
  refine bodyPost_ret (results_cell_row rfl _ _ (w.heap.size+1+1) 227 _ (0,0) _ rfl (blk_new3 w _ _ _ _) Tryz.underlying227 rfl HINF.out) rfl ?_
  exact ⟨rfl,(((Below.refl _ _).alloc (Nat.le_refl _) _).alloc (by simp) _).alloc (by simp;omega) _⟩
 ·have hl:b.2≤0:=hb.real.resolve_left h
  have e1:joinN a b=(a.1+b.1,min a.2 (a.1+b.2)):=by unfold joinN;rw [if_neg h]
  obtain ⟨s,l⟩:=a
  obtain ⟨s',l'⟩:=b
  have g1:(l' == 2147483647)=false:=by rw [beq_eq_false_iff_ne];intro e;simp only at hl;omega
  obtain ⟨a1,a2,a3,a4,_⟩:=ha
  obtain ⟨b1,b2,b3,b4,_⟩:=hb
  simp only at a1 a2 a3 a4 b1 b2 b3 b4 hl
  rw [e1]
  unfold ndv
  clear h e1
  go_enter Tryz.func206,Tryz.ntmps206
  go_wp2_with fail
  all_goals
   refine bodyPost_ret (results_cell_row rfl _ _ (w.heap.size+1+1) 227 _ (0,0) _ rfl (blk_new3 w _ _ _ _) Tryz.underlying227 rfl HINF.out) rfl ?_
   refine ⟨?_,(((Below.refl _ _).alloc (Nat.le_refl _) _).alloc (by simp) _).alloc (by simp;omega) _⟩
   congr
   omega
end
end Go.Proofs.YtajjgpkahljjmaaGreatDoor
namespace Go.Proofs.YtajjgpkahljjmaaGreatDoor
set_option maxRecDepth 20000
section
variable (w:World)
theorem fld_sum (a b:Value) (W:World):(Instr.field 227 (.agg #[a,b]) 0).run Tryz.prog W=.ok a W:=by
 simp [Instr.field,run_underlying Tryz.underlying227,run_underlying Tryz.underlying21,asAgg,Go.part,isAgg]
theorem fld_nd (p:Int × Int) (W:World):(Instr.field 227 (ndv p) 0).run Tryz.prog W=.ok (.int .i32 p.1) W:=fld_sum _ _ W
theorem isFar_f (x:Nat) (hx:x≤10000000) :
  Calls Tryz.prog 209 #[.int .i64 (x:Int),.int .i64 1] w fun e w'=>e=.returned (.bool (decide (x%2=1)))∧w=w':=by
 by_cases h:x%2=1
 ·have e1:(x:Int)%2=1:=by omega
  have hd:decide (x%2=1)=true:=decide_eq_true h
  rw [hd]
  clear h hd
  go_enter Tryz.func209,Tryz.ntmps209
  go_wp2
  go_ret
  exact ⟨rfl,rfl⟩
 ·have e1:(x:Int)%2=0:=by omega
  have hd:decide (x%2=1)=false:=decide_eq_false h
  rw [hd]
  clear h hd
  go_enter Tryz.func209,Tryz.ntmps209
  go_wp2
  go_ret
  exact ⟨rfl,rfl⟩
theorem isFar_b (x:Nat) (hx:x≤10000000) :
  Calls Tryz.prog 209 #[.int .i64 (x:Int),.int .i64 (-1)] w fun e w'=>e=.returned (.bool (decide (x%2=0)))∧w=w':=by
 by_cases h:x%2=1
 ·have e1:(x:Int)%2=1:=by omega
  have hd:decide (x%2=0)=false:=decide_eq_false (by omega)
  rw [hd]
  clear h hd
  go_enter Tryz.func209,Tryz.ntmps209
  go_wp2
  go_ret
  exact ⟨rfl,rfl⟩
 ·have e1:(x:Int)%2=0:=by omega
  have hd:decide (x%2=0)=true:=decide_eq_true (by omega)
  rw [hd]
  clear h hd
  go_enter Tryz.func209,Tryz.ntmps209
  go_wp2
  go_ret
  exact ⟨rfl,rfl⟩
theorem has_f (p:Int × Int) (x m:Int) (hp:Fits p) (hx:-2000000≤x∧x≤2000000) :
  Calls Tryz.prog 208 #[ndv p,.int .i64 1,.int .i64 x,.int .i64 m] w fun e w'=>e=.returned (.bool (decide (x+p.2≤m)))∧Below w.heap.size w w':=by
 obtain ⟨s,l⟩:=p
 obtain ⟨a1,a2,a3,a4,_⟩:=hp
 simp only at a1 a2 a3 a4
 unfold ndv
 go_enter Tryz.func208,Tryz.ntmps208
 go_wp2
 go_ret
 exact ⟨rfl,(Below.refl _ _).alloc (Nat.le_refl _) _⟩
theorem has_b (p:Int × Int) (x m:Int) (hp:Fits p) (hx:-2000000≤x∧x≤2000000) :
  Calls Tryz.prog 208 #[ndv p,.int .i64 (-1),.int .i64 x,.int .i64 m] w fun e w'=>e=.returned (.bool (decide (x - p.1+p.2≤m)))∧Below w.heap.size w w':=by
 obtain ⟨s,l⟩:=p
 obtain ⟨a1,a2,a3,a4,_⟩:=hp
 simp only at a1 a2 a3 a4
 unfold ndv
 go_enter Tryz.func208,Tryz.ntmps208
 go_wp2
 go_ret
 exact ⟨rfl,(Below.refl _ _).alloc (Nat.le_refl _) _⟩
theorem bitOn_f (x:Int) :
  Calls Tryz.prog 159 #[.int .i64 x,.int .i64 1] w fun e w'=>e=.returned (.int .i64 x)∧w=w':=by
 go_enter Tryz.func159,Tryz.ntmps159
 go_wp2
 go_ret
 exact ⟨rfl,rfl⟩
theorem bitOn_b (x:Int) (hx:0≤x) (hx9:x≤10000000) :
  Calls Tryz.prog 159 #[.int .i64 x,.int .i64 (-1)] w fun e w'=>e=.returned (.int .i64 (x - 1))∧w=w':=by
 go_enter Tryz.func159,Tryz.ntmps159
 go_wp2
 go_ret
 exact ⟨rfl,rfl⟩
theorem blocksFor_p (n:Nat) (hn:n≤10000000) :
  Calls Tryz.prog 195 #[.int .i64 (n:Int)] w fun e w'=>e=.returned (.int .i64 (((n+511) / 512:Nat):Int))∧w=w':=by
 have e1:((n:Int)+512 - 1) / 512=(((n+511) / 512:Nat):Int):=by omega
 generalize (n+511) / 512=r at *
 have E1:=Lib.hid e1
 clear e1
 go_enter Tryz.func195,Tryz.ntmps195
 go_wp2
 go_ret
 exact ⟨congrArg (fun z=>Ending.returned (.int .i64 z)) E1.out,rfl⟩
def Lvs (b H:Nat):Prop:=b≤2 ^ H∧∀ h,h < H→2 ^ h < b
theorem Lvs.uniq {b H K:Nat} (h:Lvs b H) (k:Lvs b K):H=K:=by
 rcases Nat.lt_trichotomy H K with x | x | x
 ·have:=k.2 H x;have:=h.1;omega
 ·exact x
 ·have:=h.2 K x;have:=k.1;omega
theorem Lvs.le {b H:Nat} (h:Lvs b H) (hb:b≤4096):2 ^ H≤8192:=by
 cases H with
 | zero=>decide
 | succ H=>have:=h.2 H (by omega);rw [Nat.pow_succ];omega
theorem nodesFor_p (b:Nat) (hb:b≤4096) :
  Calls Tryz.prog 204 #[.int .i64 (b:Int)] w fun e w'=>∃ H L M:Nat,e=.returned (.int .i64 (M:Int))∧M+1=2*L∧1≤L∧L≤8192∧L=2 ^ H∧Lvs b H∧w=w':=by
 go_enter Tryz.func204,Tryz.ntmps204
 go_wp2
 go_loop [3] (fun x=>∃ H L:Nat,x=.int .i64 (L:Int)∧L≤8192∧1≤L∧Hid (L=2 ^ H∧∀ h,h < H→2 ^ h < b)) (fun x=>(b - (intOf x).toNat))
 case atStart=>exact ⟨0,1,rfl,by omega,by omega,⟨rfl,fun h hh=>by omega⟩⟩
 case round =>
  obtain ⟨H,L,rfl,hL,hL1,hh⟩:=hrel
  by_cases hlt:L < b
  ·have hn:Hid (L*2=2 ^ (H+1)∧∀ h,h < H+1→2 ^ h < b):=⟨by rw [Nat.pow_succ,← hh.out.1],fun h k=>by
    by_cases e:h=H
    ·rw [e,← hh.out.1];exact hlt
    ·exact hh.out.2 h (by omega)⟩
   clear hh
   go_wp2
   go_round
   case rel=>exact ⟨H+1,L*2,by go_num,by omega,by omega,hn⟩
   case measure=>simp [intOf];omega
  ·go_wp2
   go_ret
   exact ⟨H,L,2*L - 1,congrArg (fun z=>Ending.returned (.int .i64 z)) (by omega),by omega,hL1,hL,hh.out.1,⟨by rw [← hh.out.1];omega,hh.out.2⟩,rfl⟩
end
end Go.Proofs.YtajjgpkahljjmaaGreatDoor
namespace Go.Proofs.YtajjgpkahljjmaaGreatDoor
set_option maxRecDepth 20000
theorem made_nodes (M:Nat):madeCells #[.int .i32 0,.int .i32 0] (M*2)=ndArr (fun _=>(0,0)) M:=by
 apply Array.ext
 ·simp [madeCells,ndArr];omega
 ·intro i h1 h2
  have h:i%2=0∨i%2=1:=by omega
  rcases h with h | h <;> simp [madeCells,ndArr,h]
theorem info_node2:(Tryz.prog.info? 227).map (fun i=>(i.zero,i.size,i.bytes))=some (some (.agg #[.int .i32 0,.int .i32 0]),2,8):=by kernel_rfl
theorem run_make_nodes (t:TypeId) (ht:Tryz.prog.underlying t=some (.slice 227)) (M:Nat) (hM:M≤100000) (w:World) :
  (Instr.makeSlice t (.int .i64 (M:Int)) (.int .i64 (M:Int))).run Tryz.prog w=.ok (.slice (some ⟨w.heap.size,0,none⟩) M M) (w.alloc (.cells (ndArr (fun _=>(0,0)) M) 227)):=by
 obtain ⟨i,hi,hz,hs,hb⟩:∃ i,Tryz.prog.info? 227=some i∧i.zero=some (.agg #[.int .i32 0,.int .i32 0])∧i.size=2∧i.bytes=8:=by
  have:=info_node2
  cases h:Tryz.prog.info? 227 with
  | none=>rw [h] at this;simp at this
  | some i=>rw [h] at this;simp at this;exact ⟨i,rfl,this.1,this.2.1,this.2.2⟩
 have hr:=run_make (P:=Tryz.prog) w t 227 i _ ht hi hz .i64 .i64 M M (by omega) (Int.le_refl _) (by rw [hb];omega) (by omega)
 simp only [Int.toNat_natCast,hs] at hr
 rw [hr,show (Value.agg #[.int .i32 0,.int .i32 0]).cells=#[.int .i32 0,.int .i32 0] from rfl,made_nodes]
theorem run_copy_rowN {P:Program} (w:World) (dT sT ty elem:TypeId) (g o dLen dCap:Nat) (a:Addr) (sLen sCap sz:Nat) (cur:Array Value) (t:TypeId) (cs:List Value)
  (hu:P.underlying dT=some (.slice elem)) (hs:(P.info? elem).map (·.size)=some sz)
  (hg:w.heap[g]?=some (.cells cur t (0,0))) (hn:cs.length=Nat.min sLen dLen*sz)
  (hsrc:∀ j v,cs[j]?=some v→w.cell? (a.add j)=some v) (hfit:o+cs.length≤cur.size) (h1:∀ v∈cs,v.oneCell'=true) :
  (Builtin.copy_ #[dT,sT] ty #[.slice (some ⟨g,o,none⟩) dLen dCap,.slice (some a) sLen sCap]).run P w =
    .ok (goInt (Nat.min sLen dLen)) (w.setRow g (cur.toList.take o++cs++cur.toList.drop (o+cs.length)).toArray):=by
 have hl:=run_loadCells_list (P:=P) w a cs hsrc
 have hst:=run_storeCells_at P g o t cs 0 cur w hg (by simpa using hfit) h1
 cases hq:P.info? elem with
 | none=>simp [hq] at hs
 | some i =>
   have hi:i.size=sz:=by simpa [hq] using hs
   simp [Builtin.copy_,run_underlying hu,Builtin.lenOf,Builtin.firstCells,sizeOf,typeInfo,hq,hi,← hn,hl,hst]
def laid (U T:Nat→Int × Int) (o B:Nat):Nat→Int × Int:=fun k=>if k < o then U k else if k < o+B then T (k - o) else U k
theorem laid_arr (U T:Nat→Int × Int) (M o B:Nat) (h:o+B≤M) :
  ((ndArr U M).toList.take (o*2)++(ndArr T B).toList++(ndArr U M).toList.drop (o*2+(ndArr T B).toList.length)).toArray=ndArr (laid U T o B) M:=by
 have hl:(ndArr T B).toList.length=2*B:=by simp [ndArr]
 rw [hl]
 apply Array.ext'
 simp only []
 apply List.ext_getElem?
 intro i
 have hU:∀ (X:Nat→Int × Int) (m i:Nat),(ndArr X m).toList[i]?=if i < 2*m then some (Value.int .i32 (if i%2=0 then (X (i / 2)).1 else (X (i / 2)).2)) else none:=by
  intro X m i
  by_cases hi:i < 2*m
  ·rw [if_pos hi];simp [ndArr,hi]
  ·rw [if_neg hi];simp [ndArr,Nat.le_of_not_lt hi]
 have e1:((ndArr U M).toList.take (o*2)).length=o*2:=by rw [List.length_take,Array.length_toList,ndArr_size];omega
 rw [hU,List.append_assoc]
 by_cases h1:i < o*2
 ·rw [List.getElem?_append_left (by rw [e1];exact h1),List.getElem?_take,if_pos h1,hU,if_pos (show i < 2*M by omega),if_pos (show i < 2*M by omega)]
  have:i / 2 < o:=by omega
  simp [laid,this]
 ·rw [List.getElem?_append_right (by rw [e1];omega),e1]
  by_cases h2:i < o*2+2*B
  ·rw [List.getElem?_append_left (by rw [hl];omega),hU,if_pos (show i - o*2 < 2*B by omega),if_pos (show i < 2*M by omega)]
   have k1:¬ i / 2 < o:=by omega
   have k2:i / 2 < o+B:=by omega
   have k3:(i - o*2) / 2=i / 2 - o:=by omega
   have k4:(i - o*2)%2=i%2:=by omega
   simp [laid,k1,k2,k3,k4]
  ·rw [List.getElem?_append_right (by rw [hl];omega),hl,List.getElem?_drop,hU]
   have k1:¬ i / 2 < o:=by omega
   have k2:¬ i / 2 < o+B:=by omega
   rw [show o*2+2*B+(i - o*2 - 2*B)=i by omega]
   simp [laid,k1,k2]
theorem wpList_copy_nodes {w:World} {ops:Array Oper} {rest:List Oper} {o:Oper} {a:Act} {Q:Exit→Act→World→Prop} (hgd:o.guard=none) (d s:Operand) (dT sT:TypeId)
  (ho:o.op=.call { callee:=.builtin .copy,args:=#[d,s],argTypes:=#[dT,sT] }) (hu:Tryz.prog.underlying dT=some (.slice 227))
  (g off dLen dCap bb B sCap M:Nat) (hd:a.eval d=.slice (some ⟨g,off*2,none⟩) dLen dCap) (hs:a.eval s=.slice (some ⟨bb,0,none⟩) B sCap)
  (U T:Nat→Int × Int) (hg:Blk w g 227 (ndArr U M)) (hb:Blk w bb 227 (ndArr T B)) (hle:B≤dLen) (hfit:off+B≤M)
  (h:∀ w',Hid (Blk w' g 227 (ndArr (laid U T off B) M))→Hid (Mod (fun i=>i=g) w w')→wpList Tryz.prog ops Q rest (a.put o.dst (.int .i64 (B:Int))) w') :
  wpList Tryz.prog ops Q (o :: rest) a w:=by
 refine wpList_plain hgd fun K hK=>?_
 have hmin:Nat.min B dLen=B:=Nat.min_eq_left hle
 have hrun:=run_copy_rowN (P:=Tryz.prog) w dT sT o.type 227 g (off*2) dLen dCap ⟨bb,0,none⟩ B sCap 2 (ndArr U M) 227 (ndArr T B).toList hu info_node hg
  (by rw [hmin,Array.length_toList,ndArr_size];omega)
  (fun j v hj=>by
    have e:(⟨bb,0,none⟩:Addr).add j=⟨bb,j,none⟩:=by unfold Addr.add;split <;> simp_all
    rw [e,hb.cell];simpa using hj)
  (by rw [Array.length_toList,ndArr_size,ndArr_size];omega)
  (fun v hv=>by
    simp only [ndArr,List.mem_map,List.mem_range] at hv
    obtain ⟨j,_,rfl⟩:=hv
    rfl)
 rw [hmin,laid_arr U T M off B hfit] at hrun
 have hh:=h (w.setRow g (ndArr (laid U T off B) M)) (setRow_heap w g _ _ _ _ hg) ⟨rfl,rfl,rfl,by simp [World.setRow],fun k hk hn=>setRow_other w g k _ hn⟩
 unfold Oper.wp
 simp [execOp,ho,resolve,invoke,builtin,hd,hs,hrun,Result.andThen]
 exact hK _ _ hh
theorem leaf0_p (w:World) (A:Option Addr) (m c L:Nat) (hm:m+1=2*L) (hL:L≤100000) :
  Calls Tryz.prog 205 #[.slice A m c,.int .i64 0] w fun e w'=>e=.returned (.int .i64 (L:Int))∧w=w':=by
 have:=leaf_p w A m c 0 (by omega) (by omega)
 rw [show m / 2+1+0=L by omega] at this
 exact this
def TreePost (w:World) (E:Nat→Int) (n B:Nat) (e:Ending) (w':World):Prop :=
 ∃ t H M T,e=.returned (.slice (some ⟨t,0,none⟩) M M)∧M+1=2*2 ^ H∧Lvs B H∧w.heap.size≤t∧Blk w' t 227 (ndArr T M)∧TreeOK E n H (fun x=>T (x - 1))∧Below w.heap.size w w'
def leavesTo (E:Nat→Int) (n K i:Nat) (U:Nat→Int × Int):Prop:=∀ j,j < i→U (K+j)=nd E n j (j+1)
def nodesFrom (E:Nat→Int) (n H x:Nat) (U:Nat→Int × Int):Prop:=∀ y h a,x < y→h≤H→y*2 ^ h=2 ^ H+a→a < 2 ^ H→U (y - 1)=nd E n a (a+2 ^ h)
theorem nodesFrom.leaves {E:Nat→Int} {n K H:Nat} {U:Nat→Int × Int} (hK:K+1=2 ^ H) (h:leavesTo E n K (K+1) U):nodesFrom E n H K U:=fun y k a hy hk he ha=>by
 cases k with
 | zero =>
   rw [Nat.pow_zero,Nat.mul_one] at he
   have:=h a (by omega)
   rw [show y - 1=K+a by omega,this]
 | succ k =>
   have:=node_kids hk he ha
   have hp:0 < 2 ^ k:=Nat.two_pow_pos k
   have:=node_end hk he ha
   exfalso
   have h1:2 ^ H≤y:=by omega
   have h2:=Nat.mul_le_mul h1 (show 2≤2 ^ (k+1) by rw [pow_up];omega)
   omega
theorem nodesFrom.next {E:Nat→Int} {n H x:Nat} {U:Nat→Int × Int} (h:nodesFrom E n H x U) (hx1:1≤x) (hx:x < 2 ^ H):nodesFrom E n H (x - 1) (upd U (x - 1) (joinN (U (2*x - 1)) (U (2*x+1 - 1)))):=fun y k a hy hk he ha=>by
 by_cases e:y=x
 ·subst e
  cases k with
  | zero=>rw [Nat.pow_zero,Nat.mul_one] at he;omega
  | succ k =>
    obtain ⟨k1,k2,k3⟩:=node_kids hk he ha
    have h1:=h (2*y) k a (by omega) (by omega) k1 ha
    have h2:=h (2*y+1) k (a+2 ^ k) (by omega) (by omega) k2 k3
    unfold upd
    rw [if_pos rfl,h1,h2,nd_join E n _ _ _ (Nat.le_add_right _ _) (Nat.le_add_right _ _),pow_up,show a+2 ^ k+2 ^ k=a+2*2 ^ k by omega]
 ·unfold upd
  rw [if_neg (by omega)]
  exact h y k a (by omega) hk he ha
theorem nodesFrom.fits {E:Nat→Int} (hE:Exc E) {n H x:Nat} (hn:n≤1000000) {U:Nat→Int × Int} (h:nodesFrom E n H x U) {y:Nat} (hy:x < y) (hy2:y < 2*2 ^ H):Fits (U (y - 1)):=by
 obtain ⟨k,a,h1,h2,h3⟩:=node_ex H y (by omega) hy2
 rw [h y k a hy h1 h2 h3]
 exact nd_fits hE hn _ _
set_option maxHeartbeats 4000000 in
theorem treeOf_p (E:Nat→Int) (hE:Exc E) (bb B cc n:Nat) (w:World) (hN:Nul w) (hn:n≤1000000) (hB:B=(n+511) / 512) (hb:Blk w bb 227 (ndArr (fun k=>nd E n k (k+1)) B)) :
  Calls Tryz.prog 197 #[.slice (some ⟨bb,0,none⟩) B cc] w (TreePost w E n B):=by
 have HB:=Lib.hid hB
 have hB9:B≤4096:=by omega
 have HN:=Lib.hid hN
 have HE:=Lib.hid hE
 have HBB:=Lib.hid hb
 have hbl:=hb.lt
 clear hB hN hE hb
 go_enter Tryz.func197,Tryz.ntmps197
 go_wp2_with fail
 refine (nodesFor_p _ B (by omega)).mono ?_
 rintro e w1 ⟨H,L,M,rfl,hM,hL1,hL9,hLH,hlv,rfl⟩
 obtain ⟨K,rfl⟩:∃ K,L=K+1:=⟨L - 1,by omega⟩
 have HLH:=Lib.hid hLH
 have HLV:=Lib.hid hlv
 have hBK:B≤K+1:=by have:=hlv.1;omega
 have HM:=Lib.hid hM
 have hKM:K < M:=by omega
 have hM9:M≤100000:=by omega
 have hMKI:(M:Int) - (K:Int)=(K:Int)+1:=by omega
 have hMK:M - K=K+1:=by omega
 have eK:((K+1:Nat):Int) - 1=(K:Int):=by omega
 clear hLH hlv hM hL1
 have MK:=run_make_nodes 190 (by kernel_rfl) M (by omega) w
 have hbn:=Blk.new w 227 (ndArr (fun _=>(0,0)) M)
 have HT:=Lib.hid hbn
 have HB1:=Lib.hid (HBB.out.alloc (.cells (ndArr (fun _=>(0,0)) M) 227))
 have L0:=Lib.hid (leaf0_p (w.alloc (.cells (ndArr (fun _=>(0,0)) M) 227)) (some ⟨w.heap.size,0,none⟩) M M (K+1) (by have:=HM.out;omega) (by omega))
 clear hbn
 go_wp2_with (first
  | (go_at_call 205;refine L0.out.mono ?_;rintro e w' ⟨rfl,rfl⟩)
  | (with_reducible refine wpList_copy_nodes rfl (.tmp 16) (.tmp 17) 190 189 rfl (by kernel_rfl) w.heap.size K (K+1) (K+1) bb B cc M rfl rfl (fun _=>(0,0)) (fun k=>nd E n k (k+1)) HT.out HB1.out (by omega) (by omega) ?_))
 intro w3 h3 m3
 have hb3:Hid (Below w.heap.size w w3):=((Below.refl _ _).alloc (Nat.le_refl _) _).trans (m3.out.belowB (by simp) fun i hi e=>by omega)
 have hs3:w.heap.size < w3.heap.size:=by have:=m3.out.size;simp at this;omega
 have L3:Hid (leavesTo E n K B (laid (fun _=>(0,0)) (fun k=>nd E n k (k+1)) K B)):=fun j hj=>by
  unfold laid
  rw [if_neg (by omega),if_pos (by omega),show K+j - K=j by omega]
 generalize hU0:laid (fun _=>(0,0)) (fun k=>nd E n k (k+1)) K B=U0 at *
 generalize hS:w.heap.size=S at *
 clear hU0 HT HB1 MK L0 m3 HBB
 go_wp2_with fail
 go_loopw [5] (fun x wr=>∃ (i:Nat) (U:Nat→Int × Int),B≤i∧i≤K+1∧x=.int .i64 (i:Int)∧Hid (Blk wr S 227 (ndArr U M))∧Hid (leavesTo E n K i U)∧Hid (Below S w wr)) (fun x _=>K+1 - (intOf x).toNat)
 case atStart=>exact ⟨B,U0,by omega,by omega,rfl,h3.out,L3.out,hb3.out⟩
 case round =>
  clear h3 hb3 L3
  obtain ⟨i,U,hBi,hi,rfl,hblk,hlv,hbel⟩:=hrel
  by_cases hlt:i < K+1
  ·have c1:=(hbel.out.cell (p:=⟨1,0,none⟩) (by show 1 < S;have:=HN.out.lt;omega)).trans HN.out.s
   have c2:=(hbel.out.cell (p:=⟨1,1,none⟩) (by show 1 < S;have:=HN.out.lt;omega)).trans HN.out.l
   have f1:=hblk.out.frozen (K*2+i*2)
   have f2:=hblk.out.frozen (K*2+i*2+1)
   have d1:wr.cell? ⟨S,K*2+i*2,none⟩=some (.int .i32 (U (K+i)).1):=by rw [hblk.out.cell,← Nat.add_mul];exact (ndArr_get U M (K+i) (by have:=HM.out;omega)).1
   have d2:wr.cell? ⟨S,K*2+i*2+1,none⟩=some (.int .i32 (U (K+i)).2):=by rw [hblk.out.cell,← Nat.add_mul];exact (ndArr_get U M (K+i) (by have:=HM.out;omega)).2
   have hz:1≠S:=by have:=HN.out.lt;omega
   go_wp2_with fail
   have hki:K+i < M:=by have:=HM.out;omega
   have NB:Hid (Blk ((wr.setCell ⟨S,K*2+i*2,none⟩ (.int .i32 0)).setCell ⟨S,K*2+i*2+1,none⟩ (.int .i32 2147483647)) S 227 (ndArr (upd U (K+i) nul) M)):=by
    have h1:=(hblk.out.set_ (K*2+i*2) (.int .i32 0)).set_ (K*2+i*2+1) (.int .i32 2147483647)
    have h2:=ndArr_set U M (K+i) nul hki
    rw [Nat.add_mul] at h2
    exact h2 ▸ h1
   have NL:Hid (leavesTo E n K (i+1) (upd U (K+i) nul)):=fun j hj=>by
    unfold upd
    by_cases e:j=i
    ·subst e
     rw [if_pos rfl,nd_nul (.inl (by have:=HB.out;omega))]
    ·rw [if_neg (by omega)];exact hlv.out j (by omega)
   have ND:Hid (Below S w ((wr.setCell ⟨S,K*2+i*2,none⟩ (.int .i32 0)).setCell ⟨S,K*2+i*2+1,none⟩ (.int .i32 2147483647))):=(hbel.out.setCell (Nat.le_refl _) _).setCell (Nat.le_refl _) _
   clear c1 c2 f1 f2 d1 d2
   go_roundw
   case rel=>exact ⟨i+1,_,by omega,by omega,by go_num,NB.out,NL.out,ND.out⟩
   case measure=>simp [intOf];omega
  ·obtain rfl:i=K+1:=by omega
   have NF:=Lib.hid (nodesFrom.leaves HLH.out hlv.out)
   have L1:=Lib.hid (leaf0_p wr (some ⟨S,0,none⟩) M M (K+1) (by have:=HM.out;omega) (by omega))
   go_wp2_with (go_at_call 205;refine L1.out.mono ?_;rintro e w' ⟨rfl,rfl⟩)
   clear L1 hlv
   have HBL:=Lib.hid hblk.out
   have HBE:=Lib.hid hbel.out
   clear hblk hbel
   go_loopw [6] (fun x wq=>∃ (k:Nat) (U:Nat→Int × Int),k≤K∧x=.int .i64 (k:Int)∧Hid (Blk wq S 227 (ndArr U M))∧Hid (nodesFrom E n H k U)∧Hid (Below S w wq)) (fun x _=>(intOf x).toNat)
   case atStart=>exact ⟨K,U,by omega,rfl,HBL.out,NF.out,HBE.out⟩
   case round =>
    clear HBL NF HBE
    obtain ⟨k,U2,hk,rfl,hblk,hnf,hbel⟩:=hrel
    by_cases hk0:0 < k
    ·obtain ⟨p,rfl⟩:∃ p,k=p+1:=⟨k - 1,by omega⟩
     have hHM:=HM.out
     have hpl:=HLH.out
     have e1:((2*(p+1):Nat):Int)=2*((p:Int)+1):=by omega
     have e2:((2*(p+1)+1:Nat):Int)=2*((p:Int)+1)+1:=by omega
     have hSq:S < wr.heap.size:=hblk.out.lt
     have A1:=Lib.hid (nodeAt_p wr S M M (2*(p+1)) U2 (RdT.ofBlk hblk.out) (by omega) (by omega) (by omega) hSq)
     rw [e1] at A1
     have F1:=Lib.hid (hnf.out.fits HE.out hn (y:=2*(p+1)) (by omega) (by omega))
     have F2:=Lib.hid (hnf.out.fits HE.out hn (y:=2*(p+1)+1) (by omega) (by omega))
     have NX:=Lib.hid (hnf.out.next (by omega) (by omega))
     rw [show p+1 - 1=p by omega] at NX
     obtain ⟨u1,hu1⟩:∃ u,u=U2 (2*(p+1) - 1):=⟨_,rfl⟩
     obtain ⟨u2,hu2⟩:∃ u,u=U2 (2*(p+1)+1 - 1):=⟨_,rfl⟩
     rw [← hu1] at A1 F1 NX
     rw [← hu2] at F2 NX
     have HU2:=Lib.hid hu2
     have hpM:p < M:=by omega
     have ep:((p+1:Nat):Int) - 1=(p:Int):=by omega
     clear hu1 hu2 e1 hHM hpl
     go_wp2_with fail
     refine A1.out.mono ?_
     rintro e w5 ⟨rfl,b5⟩
     have hB5:=Lib.hid (hblk.out.below b5)
     have A2:=Lib.hid (nodeAt_p w5 S M M (2*(p+1)+1) U2 (RdT.ofBlk hB5.out) (by omega) (by have:=HM.out;have:=HLH.out;omega) (by omega) hB5.out.lt)
     rw [e2,← HU2.out] at A2
     have HE5:Hid (Below S w w5):=hbel.out.trans (b5.mono (by omega))
     clear b5 e2 A1
     go_wp2_with fail
     refine A2.out.mono ?_
     rintro e w6 ⟨rfl,b6⟩
     have hB6:=Lib.hid (hB5.out.below b6)
     have HE6:Hid (Below S w w6):=HE5.out.trans (b6.mono (by have:=hB5.out.lt;omega))
     have JN:=Lib.hid (join_p w6 u1 u2 (HN.out.below (by have:=HN.out.lt;omega) HE6.out) F1.out F2.out)
     clear b6 A2 hB5
     go_wp2_with fail
     refine JN.out.mono ?_
     rintro e w7 ⟨rfl,b7⟩
     have hB7:=Lib.hid (hB6.out.below b7)
     have HE7:Hid (Below S w w7):=HE6.out.trans (b7.mono (by have:=hB6.out.lt;omega))
     clear b7 JN hB6
     have f1:=hB7.out.frozen (p*2)
     have f2:=hB7.out.frozen (p*2+1)
     have d1:w7.cell? ⟨S,p*2,none⟩=some (.int .i32 (U2 p).1):=by rw [hB7.out.cell];exact (ndArr_get U2 M p hpM).1
     have d2:w7.cell? ⟨S,p*2+1,none⟩=some (.int .i32 (U2 p).2):=by rw [hB7.out.cell];exact (ndArr_get U2 M p hpM).2
     generalize hj:joinN u1 u2=u3 at *
     obtain ⟨s3,l3⟩:=u3
     unfold ndv
     have HJ:=Lib.hid hj
     clear hj
     go_wp2_with fail
     have NB:Hid (Blk ((w7.setCell ⟨S,p*2,none⟩ (.int .i32 s3)).setCell ⟨S,p*2+1,none⟩ (.int .i32 l3)) S 227 (ndArr (upd U2 p (s3,l3)) M)):=by
      have h1:=(hB7.out.set_ (p*2) (.int .i32 s3)).set_ (p*2+1) (.int .i32 l3)
      have h2:=ndArr_set U2 M p (s3,l3) hpM
      exact h2 ▸ h1
     have ND:Hid (Below S w ((w7.setCell ⟨S,p*2,none⟩ (.int .i32 s3)).setCell ⟨S,p*2+1,none⟩ (.int .i32 l3))):=(HE7.out.setCell (Nat.le_refl _) _).setCell (Nat.le_refl _) _
     clear f1 f2 d1 d2
     go_roundw
     case rel=>exact ⟨p,_,by omega,rfl,NB.out,NX.out,ND.out⟩
     case measure=>simp [intOf]
    ·obtain rfl:k=0:=by omega
     go_wp2_with fail
     go_ret
     exact ⟨S,H,M,U2,rfl,by have:=HM.out;have:=HLH.out;omega,HLV.out,by omega,hblk.out,fun x h a h1 h2 h3=>hnf.out x h a (by have:=(node_end h1 h2 h3).2.1;omega) h1 h2 h3,by rw [hS];exact hbel.out⟩
theorem blk_ty {w:World} {i:Nat} {T U:TypeId} {cs ds:Array Value} (h:Blk w i T cs) (k:Blk w i U ds):T=U:=by
 unfold Blk at h k
 rw [h] at k
 simp at k
 exact k.2
theorem IdxAt.off {w w':World} {S:Nat→Prop} {g V n q:Nat} {d:Bool} (h:IdxAt w g V n d q) (m:Mod S w w') (hS:∀ i,S i→∃ T cs,Blk w i T cs∧T≠171∧T≠139∧T≠157):IdxAt w' g V n d q:=by
 obtain ⟨h1,h2,A,c,H,h3,h4,h5⟩:=h
 refine ⟨h1,h2,A,c,H,h3.mod m fun hx=>?_,own_mod h4 m fun k hk hx=>?_,?_⟩
 ·obtain ⟨T,cs,hb,e1,_,_⟩:=hS g hx
  exact e1 (blk_ty hb h3)
 ·obtain ⟨T,cs,hb,_,e2,_⟩:=hS k hx
  exact own_ne h4 hb (Ne.symm e2) hk
 ·cases d with
  | false=>exact h5
  | true =>
    obtain ⟨S',c',e,ho⟩:=h5
    exact ⟨S',c',e,own_mod ho m fun k hk hx=>by
     obtain ⟨T,cs,hb,_,_,e3⟩:=hS k hx
     exact own_ne ho hb (Ne.symm e3) hk⟩
theorem own_blk {w:World} {base n:Nat} {e:TypeId} {v:Value} {xs:List Value} (h:w.ownsRow base e 1 v n xs) {k:Nat} (hk:v.ownBlock=some k):∃ cs,Blk w k e cs:=by
 rcases h.2 with ⟨rfl,_⟩ | ⟨g,cap,cur,rfl,_,hg,_⟩
 ·simp [Value.ownBlock] at hk
 ·have:k=g:=by simpa [Value.ownBlock] using hk.symm
  subst this
  exact ⟨cur,hg⟩
def exc (V i:Nat):Int:=2*((pop V i:Nat):Int) - (i:Int)
theorem exc_next (V i:Nat):exc V (i+1)=exc V i+(2*((V / 2 ^ i%2:Nat):Int) - 1):=by
 unfold exc
 have h:pop V (i+1)=pop V i+V / 2 ^ i%2:=by
  rw [pop_add]
  congr 1
  simp [pop,numL,List.range_succ]
 omega
theorem exc_Exc (V:Nat):Exc (exc V):=⟨by unfold exc;simp [pop,numL],fun i=>by have:=exc_next V i;omega⟩
def TDir (w:World) (p V n:Nat) (d:Bool) (H:Value):Prop :=
 match d with
 | false=>H=.slice none 0 0
 | true=>∃ S M K T,p < S∧H=.slice (some ⟨S,0,none⟩) M M∧Blk w S 227 (ndArr T M)∧TreeOK (exc V) n K (fun x=>T (x - 1))∧M+1=2*2 ^ K∧Lvs ((n+511) / 512) K
def PAt (w:World) (p g V n:Nat) (d:Bool) (q:Nat):Prop :=
 g < p∧(∃ r k,k≤q∧IdxAt w g V n r k)∧∃ H,Blk w p 192 #[.pointer (some ⟨g,0,none⟩),.int .u32 (b01 d),.int .i32 0,.int .u32 0,H,.int .i64 (b01 d)]∧TDir w p V n d H
theorem TDir.mod {w w':World} {S:Nat→Prop} {p V n:Nat} {d:Bool} {H:Value} (h:TDir w p V n d H) (m:Mod S w w') (hs:∀ i,S i→i≤p):TDir w' p V n d H:=by
 cases d with
 | false=>exact h
 | true =>
   obtain ⟨S',M,K,T,h1,h2,h3,h4⟩:=h
   exact ⟨S',M,K,T,h1,h2,h3.mod m fun hx=>by have:=hs S' hx;omega,h4⟩
theorem PAt.below {w w':World} {p g V n q:Nat} {d:Bool} (h:PAt w p g V n d q) (m:Below w.heap.size w w'):PAt w' p g V n d q:=by
 obtain ⟨h1,⟨r,k,hk,hx⟩,H,hb,ht⟩:=h
 exact ⟨h1,⟨r,k,hk,hx.below m⟩,H,hb.below m,ht.mod (Mod.none_ m (fun _=>False)) fun _ h=>h.elim⟩
theorem PAt.ask {w w':World} {p g V n q k:Nat} {d r:Bool} (h:PAt w p g V n d q) (hx:IdxAt w' g V n r (k+1)) (hk:k≤q) (m:Mod (fun i=>i=g) w w'):PAt w' p g V n d (q+1):=by
 obtain ⟨h1,_,H,hb,ht⟩:=h
 exact ⟨h1,⟨r,k+1,by omega,hx⟩,H,hb.mod m (by omega),ht.mod m fun i hi=>by omega⟩
theorem PAt.le {w:World} {p g V n q q':Nat} {d:Bool} (h:PAt w p g V n d q) (hq:q≤q'):PAt w p g V n d q':=by
 obtain ⟨h1,⟨r,k,hk,hx⟩,h2⟩:=h
 exact ⟨h1,⟨r,k,by omega,hx⟩,h2⟩
theorem PAt.idx {w:World} {p g V n q:Nat} {d:Bool} (h:PAt w p g V n d q):w.cell? ⟨p,0,none⟩=some (.pointer (some ⟨g,0,none⟩)):=by
 obtain ⟨_,_,H,hb,_⟩:=h
 exact hb.cell 0
theorem PAt.lt {w:World} {p g V n q:Nat} {d:Bool} (h:PAt w p g V n d q):p < w.heap.size:=by
 obtain ⟨_,_,H,hb,_⟩:=h
 exact hb.lt
theorem PAt.n9 {w:World} {p g V n q:Nat} {d:Bool} (h:PAt w p g V n d q):n≤1000000:=by
 obtain ⟨_,⟨r,k,hk,hx⟩,_⟩:=h
 exact hx.2.1
def PIx (w:World) (p g V n q:Nat):Prop:=g < p∧(∃ r k,k≤q∧IdxAt w g V n r k)∧w.cell? ⟨p,0,none⟩=some (.pointer (some ⟨g,0,none⟩))
theorem PAt.ix {w:World} {p g V n q:Nat} {d:Bool} (h:PAt w p g V n d q):PIx w p g V n q:=⟨h.1,h.2.1,h.idx⟩
theorem PIx.idx {w:World} {p g V n q:Nat} (h:PIx w p g V n q):w.cell? ⟨p,0,none⟩=some (.pointer (some ⟨g,0,none⟩)):=h.2.2
theorem PIx.lt {w:World} {p g V n q:Nat} (h:PIx w p g V n q):p < w.heap.size:=World.block_lt_of_cell? _ _ h.2.2
theorem PIx.n9 {w:World} {p g V n q:Nat} (h:PIx w p g V n q):n≤1000000:=by
 obtain ⟨_,⟨r,k,hk,hx⟩,_⟩:=h
 exact hx.2.1
theorem PIx.below {w w':World} {p g V n q:Nat} (h:PIx w p g V n q) (m:Below w.heap.size w w'):PIx w' p g V n q:=by
 obtain ⟨h1,⟨r,k,hk,hx⟩,h3⟩:=h
 exact ⟨h1,⟨r,k,hk,hx.below m⟩,(m.cell (p:=⟨p,0,none⟩) (World.block_lt_of_cell? _ _ h3)).trans h3⟩
section
variable (p g V n q:Nat) (d:Bool) (w:World)
theorem plen_p (h:PIx w p g V n q):Calls Tryz.prog 145 #[.pointer (some ⟨p,0,none⟩)] w fun e w'=>e=.returned (.int .i64 (n:Int))∧w=w':=by
 have c0:=h.idx
 obtain ⟨_,⟨r,k,hk,hx⟩,_⟩:=h
 have XL:=Lib.hid (xlen_p g V n k r w hx)
 clear hx
 go_enter Tryz.func145,Tryz.ntmps145
 go_wp2_with fail
 refine XL.out.mono ?_
 rintro e w' ⟨rfl,rfl⟩
 go_wp2
 go_ret
 exact ⟨rfl,rfl⟩
theorem popen_in (i:Nat) (h:PIx w p g V n q) (hi:i < n):Calls Tryz.prog 126 #[.pointer (some ⟨p,0,none⟩),.int .i64 (i:Int)] w fun e w'=>e=.returned (.bool (decide (V / 2 ^ i%2=1)))∧w=w':=by
 have c0:=h.idx
 obtain ⟨_,⟨r,k,hk,hx⟩,_⟩:=h
 have XA:=Lib.hid (xat_in g V n k i r w hx hi)
 have hb:V / 2 ^ i%2=0∨V / 2 ^ i%2=1:=by omega
 clear hx
 rcases hb with hb | hb
 ·rw [hb] at XA ⊢
  go_enter Tryz.func126,Tryz.ntmps126
  go_wp2_with fail
  refine XA.out.mono ?_
  rintro e w' ⟨rfl,rfl⟩
  go_wp2
  go_ret
  exact ⟨rfl,rfl⟩
 ·rw [hb] at XA ⊢
  go_enter Tryz.func126,Tryz.ntmps126
  go_wp2_with fail
  refine XA.out.mono ?_
  rintro e w' ⟨rfl,rfl⟩
  go_wp2
  go_ret
  exact ⟨rfl,rfl⟩
theorem change_f (i:Nat) (h:PIx w p g V n q) (hi:i < n):Calls Tryz.prog 146 #[.pointer (some ⟨p,0,none⟩),.int .i64 (i:Int),.int .i64 1] w fun e w'=>e=.returned (.int .i64 (exc V (i+1) - exc V i))∧w=w':=by
 have OP:=Lib.hid (popen_in p g V n q w i h hi)
 have BO:=Lib.hid (bitOn_f w (i:Int))
 have hx:=exc_next V i
 have hb:V / 2 ^ i%2=0∨V / 2 ^ i%2=1:=by omega
 clear h
 rcases hb with hb | hb
 ·rw [hb] at OP hx
  rw [show exc V (i+1) - exc V i=-1 by omega]
  clear hx
  go_enter Tryz.func146,Tryz.ntmps146
  go_wp2_with (first
   | (go_at_call 159;refine BO.out.mono ?_;rintro e w' ⟨rfl,rfl⟩)
   | (go_at_call 126;refine OP.out.mono ?_;rintro e w' ⟨rfl,rfl⟩))
  go_ret
  exact ⟨rfl,rfl⟩
 ·rw [hb] at OP hx
  rw [show exc V (i+1) - exc V i=1 by omega]
  clear hx
  go_enter Tryz.func146,Tryz.ntmps146
  go_wp2_with (first
   | (go_at_call 159;refine BO.out.mono ?_;rintro e w' ⟨rfl,rfl⟩)
   | (go_at_call 126;refine OP.out.mono ?_;rintro e w' ⟨rfl,rfl⟩))
  go_ret
  exact ⟨rfl,rfl⟩
theorem change_b (i:Nat) (h:PIx w p g V n q) (hi:i < n):Calls Tryz.prog 146 #[.pointer (some ⟨p,0,none⟩),.int .i64 ((i:Int)+1),.int .i64 (-1)] w fun e w'=>e=.returned (.int .i64 (exc V i - exc V (i+1)))∧w=w':=by
 have OP:=Lib.hid (popen_in p g V n q w i h hi)
 have hn:=h.n9
 have BO:=Lib.hid (bitOn_b w ((i:Int)+1) (by omega) (by omega))
 rw [show (i:Int)+1 - 1=(i:Int) by omega] at BO
 have hx:=exc_next V i
 have hb:V / 2 ^ i%2=0∨V / 2 ^ i%2=1:=by omega
 clear h
 rcases hb with hb | hb
 ·rw [hb] at OP hx
  rw [show exc V i - exc V (i+1)=1 by omega]
  clear hx
  go_enter Tryz.func146,Tryz.ntmps146
  go_wp2_with (first
   | (go_at_call 159;refine BO.out.mono ?_;rintro e w' ⟨rfl,rfl⟩)
   | (go_at_call 126;refine OP.out.mono ?_;rintro e w' ⟨rfl,rfl⟩))
  go_ret
  exact ⟨rfl,rfl⟩
 ·rw [hb] at OP hx
  rw [show exc V i - exc V (i+1)=-1 by omega]
  clear hx
  go_enter Tryz.func146,Tryz.ntmps146
  go_wp2_with (first
   | (go_at_call 159;refine BO.out.mono ?_;rintro e w' ⟨rfl,rfl⟩)
   | (go_at_call 126;refine OP.out.mono ?_;rintro e w' ⟨rfl,rfl⟩))
  go_ret
  exact ⟨rfl,rfl⟩
theorem pexc_yes (i:Nat) (h:PAt w p g V n d q) (hi:i≤n) (hq:q≤1000000):Calls Tryz.prog 185 #[.pointer (some ⟨p,0,none⟩),.int .i64 (i:Int)] w fun e w'=>e=.returned (.tuple #[.int .i64 (exc V i),.int .i64 0])∧PAt w' p g V n d (q+1)∧Mod (fun i=>i=g) w w':=by
 have c0:=h.idx
 have hn:=h.n9
 have HP:=Lib.hid h
 obtain ⟨_,⟨r,k,hk,hx⟩,_⟩:=h
 have RK:=Lib.hid (rank_yes g V n k i r 1 w hx (by omega) (.inr rfl) hi)
 have hcb:cb 1 V i=pop V i:=by unfold cb;rw [if_neg (by decide)]
 rw [hcb] at RK
 have hle:=pop_le V i
 have HX:Hid (((pop V i:Nat):Int) - ((i:Int) - ((pop V i:Nat):Int))=exc V i):=by show _=_;unfold exc;omega
 clear hx hcb
 generalize pop V i=u at *
 go_enter Tryz.func185,Tryz.ntmps185
 go_wp2_with fail
 refine RK.out.mono ?_
 rintro e w2 ⟨rfl,h2,m2⟩
 have H2:=Lib.hid (HP.out.ask h2 hk m2)
 have M2:=Lib.hid m2
 clear h2 m2 RK
 go_wp2
 go_ret2
 exact ⟨by rw [← HX.out];rfl,H2.out,M2.out⟩
theorem excess_p (i:Nat) (h:PAt w p g V n d q) (hi:i≤n) (hq:q≤1000000):Calls Tryz.prog 174 #[.pointer (some ⟨p,0,none⟩),.int .i64 (i:Int)] w fun e w'=>e=.returned (.int .i64 (exc V i))∧PAt w' p g V n d (q+1)∧Mod (fun i=>i=g) w w':=by
 have PX:=Lib.hid (pexc_yes p g V n q d w i h hi hq)
 clear h
 go_enter Tryz.func174,Tryz.ntmps174
 go_wp2_with fail
 refine PX.out.mono ?_
 rintro e w2 ⟨rfl,h2,m2⟩
 have H2:=Lib.hid h2
 have M2:=Lib.hid m2
 clear h2 m2 PX
 go_wp2
 go_ret
 exact ⟨rfl,H2.out,M2.out⟩
end
end Go.Proofs.YtajjgpkahljjmaaGreatDoor
namespace Go.Proofs.YtajjgpkahljjmaaGreatDoor
set_option maxRecDepth 20000
theorem min_two (a b:Nat) (ha:a≤2000000) (hb:b≤2000000):∀ w,(Builtin.min_ #[3,3] 3 #[.int .i64 (a:Int),.int .i64 (b:Int)]).run Tryz.prog w=.ok (.int .i64 ((min a b:Nat):Int)) w:=fun w=>by
 simp [Builtin.min_,Builtin.min2]
 repeat' split
 all_goals omega
theorem mn_bound {E:Nat→Int} (hE:Exc E) {n:Nat} (hn:n≤1000000) (a k:Nat) (h:a+k≤n):-1000000≤mn E a k∧mn E a k≤1000000:=by
 obtain ⟨i,h1,h2,h3⟩:=mn_at E a k
 have:=hE.bound i
 omega
set_option maxHeartbeats 4000000 in
theorem measure_p (p g V n q b:Nat) (w:World) (h:PIx w p g V n q) (hb:512*b < n) :
  Calls Tryz.prog 196 #[.pointer (some ⟨p,0,none⟩),.int .i64 (b:Int)] w fun e w'=>e=.returned (ndv (nd (exc V) n b (b+1)))∧Below w.heap.size w w':=by
 have hn:=h.n9
 have hE:=exc_Exc V
 obtain ⟨L,hL⟩:∃ L,min (512*(b+1)) n=L:=⟨_,rfl⟩
 have hL1:512*b < L:=by omega
 have hL2:L≤n:=by omega
 have PL:=Lib.hid fun w' (b':Below w.heap.size w w')=>plen_p p g V n q w' (h.below b')
 have PC:=Lib.hid fun w' (b':Below w.heap.size w w') i (hi:i < n)=>change_f p g V n q w' i (h.below b') hi
 have HE:=Lib.hid hE
 have HN:Hid (nd (exc V) n b (b+1)=(exc V L - exc V (512*b),mn (exc V) (512*b) (L - 512*b) - exc V (512*b))):=by show _=_;rw [nd_real hb (by omega),hL]
 have MT:=min_two (512*(b+1)) n (by omega) (by omega)
 rw [hL] at MT
 rw [show ((512*(b+1):Nat):Int)=((b:Int)+1)*512 by omega] at MT
 have hx0:=hE.bound (512*b)
 have HINF:=Lib.hid info_node
 have e0:(b:Int)*512=((512*b:Nat):Int):=by omega
 obtain ⟨o,ho⟩:∃ o,512*b=o:=⟨_,rfl⟩
 rw [ho] at HN hL1 hx0 e0
 generalize hx:exc V o=x at *
 have HX:=Lib.hid hx
 have ho9:o≤n:=by omega
 clear h hE hL ho hx hb
 go_enter Tryz.func196,Tryz.ntmps196
 go_wp2_with fail
 have hb5:=Blk.new (w.alloc (.cells #[.int .i32 0,.int .i32 0] 227)) 227 #[.int .i32 0,.int .i32 0]
 rw [World.size_alloc] at hb5
 have HB5:=Lib.hid hb5
 have HB4:Hid (Blk ((w.alloc (.cells #[.int .i32 0,.int .i32 0] 227)).alloc (.cells #[.int .i32 0,.int .i32 0] 227)) w.heap.size 227 #[.int .i32 0,.int .i32 0]):=(Blk.new w _ _).alloc _
 clear hb5
 go_loopw [6] (fun v wr=>∃ (i:Nat) (s l:Int),o≤i∧i≤L∧v=.int .i64 (i:Int)∧-2000000≤s∧s≤2000000∧-2000000≤l∧l≤0∧Hid (s=exc V i - x)∧Hid (l=mn (exc V) o (i - o) - x)∧Hid (Blk wr (w.heap.size+1) 227 #[.int .i32 s,.int .i32 l])∧Hid (Blk wr w.heap.size 227 #[.int .i32 0,.int .i32 0])∧Hid (Below w.heap.size w wr)) (fun v _=>L - (intOf v).toNat)
 case atStart=>exact ⟨o,0,0,by omega,by omega,by first | rfl | exact congrArg (Value.int .i64) e0,by omega,by omega,by omega,by omega,by show _=_;rw [HX.out];omega,by show _=_;rw [Nat.sub_self];show _=exc V o - x;rw [HX.out];omega,HB5.out,HB4.out,((Below.refl _ _).alloc (Nat.le_refl _) _).alloc (by simp) _⟩
 case round =>
  clear HB5 HB4
  obtain ⟨i,s,l,hoi,hiL,rfl,hs1,hs2,hl1,hl2,hs,hl,hblk,hres,hbel⟩:=hrel
  by_cases hlt:i < L
  ·have c0:wr.cell? ⟨w.heap.size+1,0,none⟩=some (.int .i32 s):=hblk.out.cell 0
   have c1:wr.cell? ⟨w.heap.size+1,1,none⟩=some (.int .i32 l):=hblk.out.cell 1
   have f0:=hblk.out.frozen 0
   have f1:=hblk.out.frozen 1
   have hz:w.heap.size+1 < wr.heap.size:=hblk.out.lt
   obtain ⟨y,hy⟩:∃ y,exc V (i+1) - exc V i=y:=⟨_,rfl⟩
   have hy1:-1≤y∧y≤1:=by have:=HE.out.step i;omega
   have C1:=Lib.hid fun w' b'=>PC.out w' b' i (by omega)
   rw [hy] at C1
   have NS:Hid (s+y=exc V (i+1) - x):=by show _=_;have:=hs.out;omega
   have NM:Hid ((if s+y < l then s+y else l)=mn (exc V) o (i+1 - o) - x):=by
    show _=_
    rw [show i+1 - o=(i - o)+1 by omega]
    show _=min (mn (exc V) o (i - o)) (exc V (o+(i - o)+1)) - x
    rw [show o+(i - o)+1=i+1 by omega]
    have:=hl.out
    have:=NS.out
    split <;> omega
   have hb9:=HE.out.bound (i+1)
   have hm9:=mn_bound HE.out hn o (i+1 - o) (by omega)
   have hns:-2000000≤s+y∧s+y≤2000000:=by have:=NS.out;omega
   have hnm:-2000000≤(if s+y < l then s+y else l)∧(if s+y < l then s+y else l)≤0:=by split <;> omega
   have HNM:=Lib.hid hnm
   clear hnm
   clear hy hs hl hb9 hm9
   go_wp2_with (first
    | (go_at_call 145;refine (PL.out _ hbel.out).mono ?_;rintro e w' ⟨rfl,rfl⟩))
   go_region_with (first
    | (go_at_call 146;refine (C1.out _ (below_draws hbel.out 1)).mono ?_;rintro e w9 ⟨rfl,rfl⟩))
   all_goals (
    go_wp2_with fail
    generalize hu:(if s+y < l then s+y else l)=u at *
    have nb:Blk (((wr.drewN 1).setCell ⟨w.heap.size+1,0,none⟩ (.int .i32 (s+y))).setCell ⟨w.heap.size+1,1,none⟩ (.int .i32 u)) (w.heap.size+1) 227 #[.int .i32 (s+y),.int .i32 u]:=by
     have:=((hblk.out.drewN 1).set_ 0 (.int .i32 (s+y))).set_ 1 (.int .i32 u)
     simpa using this
    have nr:Blk (((wr.drewN 1).setCell ⟨w.heap.size+1,0,none⟩ (.int .i32 (s+y))).setCell ⟨w.heap.size+1,1,none⟩ (.int .i32 u)) w.heap.size 227 #[.int .i32 0,.int .i32 0] :=
     (hres.out.drewN 1).mod (S:=fun i=>i=w.heap.size+1) (Mod.setCell (p:=⟨w.heap.size+1,1,none⟩) (Mod.setCell (p:=⟨w.heap.size+1,0,none⟩) (Mod.refl (fun i=>i=w.heap.size+1) (wr.drewN 1)) (fun _=>rfl) _) (fun _=>rfl) _) (by omega)
    have nd':Below w.heap.size w (((wr.drewN 1).setCell ⟨w.heap.size+1,0,none⟩ (.int .i32 (s+y))).setCell ⟨w.heap.size+1,1,none⟩ (.int .i32 u)):=((below_draws hbel.out 1).setCell (by simp) _).setCell (by simp) _
    go_roundw
    case rel=>exact ⟨i+1,s+y,u,by omega,by omega,by go_num,by omega,by omega,HNM.out.1,HNM.out.2,NS.out,NM.out,nb,nr,nd'⟩
    case measure=>simp [intOf];omega)
  ·obtain rfl:i=L:=by omega
   have c0:wr.cell? ⟨w.heap.size+1,0,none⟩=some (.int .i32 s):=hblk.out.cell 0
   have c1:wr.cell? ⟨w.heap.size+1,1,none⟩=some (.int .i32 l):=hblk.out.cell 1
   have r0:wr.cell? ⟨w.heap.size,0,none⟩=some (.int .i32 0):=hres.out.cell 0
   have r1:wr.cell? ⟨w.heap.size,1,none⟩=some (.int .i32 0):=hres.out.cell 1
   have f0:=hres.out.frozen 0
   have f1:=hres.out.frozen 1
   have hz:w.heap.size+1 < wr.heap.size:=hblk.out.lt
   go_wp2_with (first
    | (go_at_call 145;refine (PL.out _ hbel.out).mono ?_;rintro e w' ⟨rfl,rfl⟩))
   have nb:Blk ((wr.setCell ⟨w.heap.size,0,none⟩ (.int .i32 s)).setCell ⟨w.heap.size,1,none⟩ (.int .i32 l)) w.heap.size 227 #[.int .i32 s,.int .i32 l]:=by
    have:=(hres.out.set_ 0 (.int .i32 s)).set_ 1 (.int .i32 l)
    simpa using this
   refine bodyPost_ret (results_cell_row rfl _ _ w.heap.size 227 _ (0,0) _ rfl nb Tryz.underlying227 rfl HINF.out) rfl ?_
   refine ⟨?_,(hbel.out.setCell (Nat.le_refl _) _).setCell (Nat.le_refl _) _⟩
   rw [HN.out]
   show Ending.returned (Value.agg #[.int .i32 s,.int .i32 l])=Ending.returned (Value.agg #[.int .i32 _,.int .i32 _])
   rw [hs.out,hl.out]
end Go.Proofs.YtajjgpkahljjmaaGreatDoor
