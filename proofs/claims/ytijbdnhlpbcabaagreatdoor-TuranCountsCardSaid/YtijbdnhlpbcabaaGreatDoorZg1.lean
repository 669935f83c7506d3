/- Words for memory, of my own: a slice that reads as a list; a block known whole; what a call may have turned. -/
import Derived.Below
import Derived.Laws.OwnMore
import Derived.Maps.AppendAt
import Derived.Laws.AppendOwnNone
import Derived.Laws.MakeOwn
import Derived.Deep.Draws
import Derived.Laws.Rows
import Derived.OwnWalk
import Derived.Lib.Hide
import Derived.RegionTactic
import Derived.Deep.QuietTactic
import Derived.BigQuiet
import Derived.Deep.DeepMust
import Derived.Test.YtijbdnhlpbcabaaGreatDoorProg
import Derived.WalkKit
import Derived.WalkLawsBesides
import Derived.WalkSpells
import Derived.Outline
import Derived.BigRegion
open Go.RowKit
set_option linter.unusedVariables false
namespace Go.Proofs.YtijbdnhlpbcabaaGreatDoor
structure Rd (w:World) (B:Nat) (A:Option Addr) (n:Nat) (xs:List Value):Prop where
 len:xs.length=n
 at_:0 < n→∃ b o,A=some ⟨b,o,none⟩∧b < B∧∀ j (h:j < xs.length),w.cell? ⟨b,o+j,none⟩=some xs[j]
def Blk (w:World) (g:Nat) (t:TypeId) (cs:Array Value):Prop:=w.heap[g]?=some (.cells cs t (0,0))
structure Mod (S:Nat→Prop) (w w':World):Prop where
 os:w'.os=w.os
 tape:w'.tape=w.tape
 output:w'.output=w.output
 size:w.heap.size≤w'.heap.size
 block:∀ k,k < w.heap.size→¬ S k→w'.heap[k]?=w.heap[k]?
section
variable {w w' w1 w2:World} {S S':Nat→Prop}
theorem Mod.refl (S:Nat→Prop) (w:World):Mod S w w:=⟨rfl,rfl,rfl,Nat.le_refl _,fun _ _ _=>rfl⟩
theorem Mod.trans (h:Mod S w w1) (k:Mod S' w1 w2) (hs:∀ i,i < w.heap.size→S' i→S i):Mod S w w2 :=
 ⟨k.os.trans h.os,k.tape.trans h.tape,k.output.trans h.output,Nat.le_trans h.size k.size,
  fun i hi hn=>(k.block i (Nat.lt_of_lt_of_le hi h.size) (fun hs'=>hn (hs i hi hs'))).trans (h.block i hi hn)⟩
theorem Mod.mono (h:Mod S w w') (hs:∀ i,i < w.heap.size→S i→S' i):Mod S' w w' :=
 ⟨h.os,h.tape,h.output,h.size,fun i hi hn=>h.block i hi (fun k=>hn (hs i hi k))⟩
theorem Mod.drewN (h:Mod S w w') (n:Nat):Mod S w (w'.drewN n):=⟨h.os,h.tape,h.output,h.size,h.block⟩
theorem Mod.drew (h:Mod S w w'):Mod S w w'.drew:=⟨h.os,h.tape,h.output,h.size,h.block⟩
theorem Mod.alloc (h:Mod S w w') (o:Obj):Mod S w (w'.alloc o) :=
 ⟨h.os,h.tape,h.output,Nat.le_trans h.size (by simp),fun k hk hn=>(Below.heap_alloc _ _ _ (Nat.lt_of_lt_of_le hk h.size)).trans (h.block k hk hn)⟩
theorem Mod.setCell (h:Mod S w w') {p:Addr} (hp:p.block < w.heap.size→S p.block) (u:Value):Mod S w (w'.setCell p u) :=
 ⟨h.os,h.tape,h.output,by simpa [World.setCell] using h.size,fun k hk hn =>
  (Below.heap_setCell _ _ _ _ (fun e=>hn (by subst e;exact hp hk))).trans (h.block k hk hn)⟩
theorem Mod.ofGrown {row:Option Nat} (h:w.grownBy w' row):Mod (fun k=>some k=row) w w' :=
 ⟨h.os,h.tape,h.output,h.size,fun k hk hn=>h.block k hk hn⟩
theorem Mod.ofBelow {B:Nat} (h:Below B w w'):Mod (B≤·) w w' :=
 ⟨h.os,h.tape,h.output,h.size,fun k _ hn=>h.block k (Nat.lt_of_not_le hn)⟩
theorem Mod.belowB {B:Nat} (h:Mod S w w') (hB:B≤w.heap.size) (hs:∀ i,i < B→¬ S i):Below B w w' :=
 ⟨h.os,h.tape,h.output,h.size,fun k hk=>h.block k (Nat.lt_of_lt_of_le hk hB) (hs k hk)⟩
theorem Mod.none_ (h:Below w.heap.size w w') (S:Nat→Prop):Mod S w w' :=
 ⟨h.os,h.tape,h.output,h.size,fun k hk _=>h.block k hk⟩
theorem Blk.lt {g:Nat} {t:TypeId} {cs:Array Value} (h:Blk w g t cs):g < w.heap.size:=by
 rcases Nat.lt_or_ge g w.heap.size with hlt | hge
 ·exact hlt
 ·unfold Blk at h;rw [Array.getElem?_eq_none hge] at h;cases h
theorem Blk.cell {g:Nat} {t:TypeId} {cs:Array Value} (h:Blk w g t cs) (i:Nat):w.cell? ⟨g,i,none⟩=cs[i]?:=cell_of_row w g i cs t (0,0) h
theorem Blk.frozen {g:Nat} {t:TypeId} {cs:Array Value} (h:Blk w g t cs) (i:Nat):w.frozen? ⟨g,i,none⟩=false:=by
 unfold Blk at h
 simp [World.frozen?,h]
theorem Blk.new (w:World) (t:TypeId) (cs:Array Value):Blk (w.alloc (.cells cs t)) w.heap.size t cs:=heap_alloc_new w _
theorem Blk.alloc {g:Nat} {t:TypeId} {cs:Array Value} (h:Blk w g t cs) (o:Obj):Blk (w.alloc o) g t cs:=(Below.heap_alloc w o g h.lt).trans h
theorem Blk.drewN {g:Nat} {t:TypeId} {cs:Array Value} (h:Blk w g t cs) (n:Nat):Blk (w.drewN n) g t cs:=h
theorem Blk.set_ {g:Nat} {t:TypeId} {cs:Array Value} (h:Blk w g t cs) (i:Nat) (u:Value):Blk (w.setCell ⟨g,i,none⟩ u) g t (cs.setIfInBounds i u):=by
 unfold Blk at h ⊢
 simp [World.setCell,Array.getElem?_modify,h]
theorem Blk.mod {g:Nat} {t:TypeId} {cs:Array Value} (h:Blk w g t cs) (m:Mod S w w') (hg:¬ S g):Blk w' g t cs:=(m.block g h.lt hg).trans h
theorem Mod.cell (m:Mod S w w') {b:Nat} (hb:b < w.heap.size) (hn:¬ S b) (o:Nat):w'.cell? ⟨b,o,none⟩=w.cell? ⟨b,o,none⟩ :=
 World.cell?_of_block (w:=w) (m.block b hb hn)
def inBlk (A:Option Addr) (k:Nat):Prop:=∃ a:Addr,A=some a∧a.block=k
theorem Rd.mod {B n:Nat} {A:Option Addr} {xs:List Value} (h:Rd w B A n xs) (m:Mod S w w') (hB:B≤w.heap.size) (hn:0 < n→∀ k,inBlk A k→¬ S k):Rd w' B A n xs :=
 ⟨h.len,fun h0=>by
  obtain ⟨b,o,e,hb,hc⟩:=h.at_ h0
  exact ⟨b,o,e,hb,fun j hj=>(m.cell (by omega) (hn h0 b ⟨_,e,rfl⟩) (o+j)).trans (hc j hj)⟩⟩
theorem Rd.below {B n:Nat} {A:Option Addr} {xs:List Value} (h:Rd w B A n xs) (m:Below B w w'):Rd w' B A n xs :=
 ⟨h.len,fun h0=>by
  obtain ⟨b,o,e,hb,hc⟩:=h.at_ h0
  exact ⟨b,o,e,hb,fun j hj=>(m.cell (p:=⟨b,o+j,none⟩) hb).trans (hc j hj)⟩⟩
theorem Rd.up {B B' n:Nat} {A:Option Addr} {xs:List Value} (h:Rd w B A n xs) (hB:B≤B'):Rd w B' A n xs :=
 ⟨h.len,fun h0=>by
  obtain ⟨b,o,e,hb,hc⟩:=h.at_ h0
  exact ⟨b,o,e,by omega,hc⟩⟩
theorem Rd.nil (w:World) (B:Nat) (A:Option Addr):Rd w B A 0 []:=⟨rfl,fun h=>absurd h (by omega)⟩
theorem Rd.ofOwn {base:Nat} {e:TypeId} {A:Option Addr} {n c:Nat} {xs:List Value} (h:w.ownsRow base e 1 (.slice A n c) n xs):Rd w w.heap.size A n xs:=by
 refine ⟨by simpa using h.1,fun hn=>?_⟩
 rcases h.2 with ⟨_,h0⟩ | ⟨g,cap,cur,hv,hb,hg,hle,hcm,hcs,ht⟩
 ·omega
 ·simp only [Value.slice.injEq,true_and] at hv
  obtain ⟨rfl,rfl⟩:=hv
  refine ⟨g,0,rfl,(Array.getElem?_eq_some_iff.1 hg).1,fun j hj=>?_⟩
  have:=h.cellAt j (by have:=h.1;omega)
  rw [Nat.zero_add,this,List.getElem?_eq_getElem hj]
theorem Rd.cells {B n:Nat} {A:Option Addr} {xs:List Value} (h:Rd w B A n xs) {ad:Addr} (hA:A=some ad):∀ j u,xs[j]?=some u→w.cell? (ad.add j)=some u:=by
 intro j u hu
 obtain ⟨hj,rfl⟩:=List.getElem?_eq_some_iff.1 hu
 obtain ⟨b,o,e,hb,hc⟩:=h.at_ (by have:=h.len;omega)
 obtain rfl:=Option.some.inj (hA.symm.trans e)
 have:=hc j hj
 unfold Addr.add
 split
 ·have:j=0:=by simpa using ‹_›
  subst this
  simpa using hc 0 hj
 ·exact this
theorem Rd.new (w:World) (t:TypeId) (cs:Array Value) (n:Nat) (xs:List Value) (h:cs.toList=xs) (hn:cs.size=n):Rd (w.alloc (.cells cs t)) (w.heap.size+1) (some ⟨w.heap.size,0,none⟩) n xs:=by
 subst h;subst hn
 refine ⟨by simp,fun _=>⟨_,_,rfl,by omega,fun j hj=>?_⟩⟩
 rw [(Blk.new w t cs).cell,Nat.zero_add]
 simp at hj ⊢
theorem Rd.alloc {B n:Nat} {A:Option Addr} {xs:List Value} (h:Rd w B A n xs) (o:Obj):Rd (w.alloc o) B A n xs :=
 ⟨h.len,fun h0=>by
  obtain ⟨b,o',e,hb,hc⟩:=h.at_ h0
  exact ⟨b,o',e,hb,fun j hj=>(World.cell?_alloc_lt _ _ _ (World.block_lt_of_cell? _ _ (hc j hj))).trans (hc j hj)⟩⟩
theorem Rd.drewN {B n:Nat} {A:Option Addr} {xs:List Value} (h:Rd w B A n xs) (k:Nat):Rd (w.drewN k) B A n xs:=⟨h.len,h.at_⟩
theorem below_draws {B:Nat} (h:Below B w w') (n:Nat):Below B w (w'.drewN n):=⟨h.os,h.tape,h.output,h.size,h.block⟩
theorem own_some {base:Nat} {e:TypeId} {A:Option Addr} {n m c:Nat} {xs:List Value} (h:w.ownsRow base e 1 (.slice A m c) n xs) (hn:0 < n):∃ g,A=some ⟨g,0,none⟩∧base≤g∧g < w.heap.size:=by
 rcases h.2 with ⟨_,h0⟩ | ⟨g,cap,cur,hv,hb,hg,_⟩
 ·omega
 ·simp only [Value.slice.injEq] at hv
  exact ⟨g,hv.1,hb,(Array.getElem?_eq_some_iff.1 hg).1⟩
theorem Rd.none_ {B n:Nat} {xs:List Value} (h:Rd w B none n xs):n=0:=by
 rcases Nat.eq_zero_or_pos n with h' | h'
 ·exact h'
 ·obtain ⟨b,o,e,_⟩:=h.at_ h'
  cases e
theorem Rd.lt {B n:Nat} {A:Option Addr} {xs:List Value} (h:Rd w B A n xs):Rd w w.heap.size A n xs :=
 ⟨h.len,fun h0=>by
  obtain ⟨b,o',e,hb,hc⟩:=h.at_ h0
  exact ⟨b,o',e,World.block_lt_of_cell? _ _ (hc 0 (by have:=h.len;omega)),hc⟩⟩
end
theorem _root_.Go.World.ownsRow.base_le' {w:World} {base base':Nat} {e:TypeId} {size:Nat} {v:Value} {n:Nat} {xs:List Value} (h:w.ownsRow base e size v n xs) (hb:base'≤base):w.ownsRow base' e size v n xs:=by
 refine ⟨h.1,?_⟩
 rcases h.2 with h' | ⟨g,cap,cur,rfl,hg,rest⟩
 ·exact .inl h'
 ·exact .inr ⟨g,cap,cur,rfl,by omega,rest⟩
theorem own_mod {w w':World} {S:Nat→Prop} {base:Nat} {e:TypeId} {size n:Nat} {v:Value} {xs:List Value} (h:w.ownsRow base e size v n xs) (m:Mod S w w') (hn:∀ k,v.ownBlock=some k→¬ S k):w'.ownsRow base e size v n xs:=by
 refine ⟨h.1,?_⟩
 rcases h.2 with h' | ⟨g,cap,cur,rfl,hb,hg,rest⟩
 ·exact .inl h'
 ·exact .inr ⟨g,cap,cur,rfl,hb,(m.block g (Array.getElem?_eq_some_iff.1 hg).1 (hn g rfl)).trans hg,rest⟩
theorem own_below {w w':World} {base:Nat} {e:TypeId} {size n:Nat} {v:Value} {xs:List Value} (h:w.ownsRow base e size v n xs) (m:Below w.heap.size w w'):w'.ownsRow base e size v n xs :=
 own_mod h (Mod.none_ m (fun _=>False)) (fun _ _=>id)
theorem own_ne {w:World} {base:Nat} {e t:TypeId} {size n g:Nat} {v:Value} {xs:List Value} {cs:Array Value} (h:w.ownsRow base e size v n xs) (hb:Blk w g t cs) (hne:e≠t):v.ownBlock≠some g:=by
 intro hv
 rcases h.2 with ⟨rfl,_⟩ | ⟨g',cap,cur,rfl,_,hg,_⟩
 ·simp [Value.ownBlock] at hv
 ·simp [Value.ownBlock] at hv
  subst hv
  unfold Blk at hb
  rw [hg] at hb
  simp at hb
  exact hne hb.2
theorem Blk.below {w w':World} {g:Nat} {t:TypeId} {cs:Array Value} (h:Blk w g t cs) (m:Below w.heap.size w w'):Blk w' g t cs:=(m.block g h.lt).trans h
theorem run_make_one {P:Program} (t e:TypeId) (i:TypeInfo) (z:Value) (bytes:Nat) (ht:P.underlying t=some (.slice e)) (hi:P.info? e=some i) (hz:i.zero=some z) (hsize:i.size=1) (hby:i.bytes=bytes) (hzs:z.cells=#[z])
  (kl kc:IntKind) (n:Nat) (hb:bytes*n≤281474976710656) (hn:n≤9223372036854775807) (w:World) :
  (Instr.makeSlice t (.int kl (n:Int)) (.int kc (n:Int))).run P w=.ok (.slice (some ⟨w.heap.size,0,none⟩) n n) (w.alloc (.cells (List.replicate n z).toArray e)):=by
 subst hby
 have hb':(i.bytes:Int)*(n:Int)≤281474976710656:=by
  have h:((i.bytes*n:Nat):Int)≤281474976710656:=by omega
  rwa [Int.natCast_mul] at h
 have hr:=run_make (P:=P) w t e i z ht hi hz kl kc n n (by omega) (Int.le_refl _) hb' (by omega)
 simp only [Int.toNat_natCast,hsize,Nat.mul_one,hzs] at hr
 rw [hr]
 congr 3
 apply Array.toList_inj.1
 rw [toList_madeCells_one]
end Go.Proofs.YtijbdnhlpbcabaaGreatDoor
namespace Go.Proofs.YtijbdnhlpbcabaaGreatDoor
theorem own_form {w:World} {base:Nat} {e:TypeId} {size n:Nat} {v:Value} {xs:List Value} (h:w.ownsRow base e size v n xs):∃ A c,v=.slice A n c∧n≤c∧c≤maxLen:=by
 rcases h.2 with ⟨rfl,rfl⟩ | ⟨g,cap,cur,rfl,_,_,h1,h2,_⟩
 ·exact ⟨none,0,rfl,Nat.le_refl _,Nat.zero_le _⟩
 ·exact ⟨_,_,rfl,h1,h2⟩
section
variable {P:Program} (w:World)
theorem run_append_none (base:Nat) (t ty e:TypeId) (i:TypeInfo) (size:Nat) (ht:P.underlying t=some (.slice e)) (hi:P.info? e=some i)
  (v:Value) (n:Nat) (xs:List Value) (hown:w.ownsRow base e size v n xs) (c:Nat) :
  (Builtin.append_ #[t,t] ty #[v,.slice none 0 c]).run P w=.ok v w:=by
 rcases hown.2 with ⟨rfl,rfl⟩ | ⟨g,cap,cur,rfl,_,_,hnc,_⟩
 ·simp [Builtin.append_,run_underlying ht,sizeOf,typeInfo,hi,Builtin.lenOf,Builtin.firstCells]
 ·simp [Builtin.append_,run_underlying ht,sizeOf,typeInfo,hi,Builtin.lenOf,Builtin.firstCells,hnc,storeCells]
theorem run_append_rd (base:Nat) (t ty e:TypeId) (i:TypeInfo) (z:Value) (bytes:Nat) (ht:P.underlying t=some (.slice e)) (hi:P.info? e=some i) (hz:i.zero=some z)
  (hsize:i.size=1) (hby:i.bytes=bytes) (hzs:z.cells.size=1)
  (v:Value) (n:Nat) (xs:List Value) (hown:w.ownsRow base e 1 v n xs)
  (B:Nat) (A:Option Addr) (m c:Nat) (news:List Value) (hr:Rd w B A m news) (h1:∀ u∈news,u.oneCell'=true)
  (h63:n+m≤maxLen) (hbytes:(n+m)*bytes≤140737488355328) (hbase:base≤w.heap.size) :
  ∃ v' w',(Builtin.append_ #[t,t] ty #[v,.slice A m c]).run P w=.ok v' w'∧w'.ownsRow base e 1 v' (n+m) (xs++news)∧w.grownBy w' v.ownBlock ∧
   (v'.ownBlock=v.ownBlock∨v'.ownBlock=some w.heap.size):=by
 cases A with
 | none =>
   obtain rfl:m=0:=by
    rcases Nat.eq_zero_or_pos m with h | h
    ·exact h
    ·obtain ⟨b,o,e,_⟩:=hr.at_ h
     cases e
   obtain rfl:news=[]:=List.eq_nil_of_length_eq_zero hr.len
   exact ⟨v,w,run_append_none w base t ty e i 1 ht hi v n xs hown c,by simpa using hown,⟨rfl,rfl,rfl,Nat.le_refl _,fun _ _ _=>rfl⟩,.inl rfl⟩
 | some ad =>
   obtain ⟨v',w',hrun,h2,h3,_,h5⟩:=run_append_own_at (P:=P) w base t ty e i z 1 bytes ht hi hz hsize hby hzs (by omega) v n xs hown ad m c news (by simpa using hr.len) (hr.cells rfl) h1 h63 hbytes hbase
   exact ⟨v',w',hrun,h2,h3,h5⟩
theorem wp_append_rd {o:Oper} {a:Act} {K:Act→World→Prop} {Q:Exit→Act→World→Prop} (s x:Operand) (t:TypeId)
  (ho:o.op=.call { callee:=.builtin .append,args:=#[s,x],argTypes:=#[t,t] })
  (base:Nat) (e:TypeId) (i:TypeInfo) (z:Value) (bytes:Nat) (ht:P.underlying t=some (.slice e)) (hi:P.info? e=some i) (hz:i.zero=some z)
  (hsize:i.size=1) (hby:i.bytes=bytes) (hzs:z.cells.size=1)
  (v:Value) (n:Nat) (xs:List Value) (hs:a.eval s=v) (hown:w.ownsRow base e 1 v n xs)
  (B:Nat) (A:Option Addr) (m c:Nat) (news:List Value) (hx:a.eval x=.slice A m c) (hr:Rd w B A m news) (h1:∀ u∈news,u.oneCell'=true)
  (h63:n+m≤maxLen) (hbytes:(n+m)*bytes≤140737488355328) (hbase:base≤w.heap.size)
  (h:∀ A' c' w',n+m≤c'→c'≤maxLen→w'.ownsRow base e 1 (.slice A' (n+m) c') (n+m) (xs++news)→w.grownBy w' v.ownBlock →
    ((Value.slice A' (n+m) c').ownBlock=v.ownBlock∨(Value.slice A' (n+m) c').ownBlock=some w.heap.size)→K (a.put o.dst (.slice A' (n+m) c')) w'):o.wp P a w K Q:=by
 obtain ⟨v',w',hrun,h2,h3,h4⟩:=run_append_rd (P:=P) w base t o.type e i z bytes ht hi hz hsize hby hzs v n xs hown B A m c news hr h1 h63 hbytes hbase
 unfold Oper.wp execOp
 simp only [ho,resolve,invoke,builtin,Sem.run_bind,Sem.run_pure,Result.andThen_ok,List.map_toArray,List.map_cons,List.map_nil,hs,hx,hrun]
 obtain ⟨A',c',rfl,h5,h6⟩:=own_form h2
 exact h A' c' w' h5 h6 h2 h3 h4
theorem wpList_wanted {w:World} {ops:Array Oper} {rest:List Oper} {o:Oper} {a:Act} {Q:Exit→Act→World→Prop} (hw:Region.wanted o (yielded ops a.tmps)=true)
  (h:∀ K:Act→World→Prop,(∀ a w,wpList P ops Q rest a w→K a w)→o.wp P a w K Q):wpList P ops Q (o :: rest) a w :=
 wpList_step fun K hK=>by simp only [hw,if_true];exact h K hK
theorem wpList_append_rd {ops:Array Oper} {rest:List Oper} {o:Oper} {a:Act} {Q:Exit→Act→World→Prop} (hgd:Region.wanted o (yielded ops a.tmps)=true) (s x:Operand) (t:TypeId)
  (ho:o.op=.call { callee:=.builtin .append,args:=#[s,x],argTypes:=#[t,t] })
  (base:Nat) (e:TypeId) (i:TypeInfo) (z:Value) (bytes:Nat) (ht:P.underlying t=some (.slice e)) (hi:P.info? e=some i) (hz:i.zero=some z)
  (hsize:i.size=1) (hby:i.bytes=bytes) (hzs:z.cells.size=1)
  (v:Value) (n:Nat) (xs:List Value) (hs:a.eval s=v) (hown:w.ownsRow base e 1 v n xs)
  (B:Nat) (A:Option Addr) (m c:Nat) (news:List Value) (hx:a.eval x=.slice A m c) (hr:Rd w B A m news) (h1:∀ u∈news,u.oneCell'=true)
  (h63:n+m≤maxLen) (hbytes:(n+m)*bytes≤140737488355328) (hbase:base≤w.heap.size)
  (h:∀ A' c' w',n+m≤c'→c'≤maxLen→w'.ownsRow base e 1 (.slice A' (n+m) c') (n+m) (xs++news)→w.grownBy w' v.ownBlock →
    ((Value.slice A' (n+m) c').ownBlock=v.ownBlock∨(Value.slice A' (n+m) c').ownBlock=some w.heap.size)→wpList P ops Q rest (a.put o.dst (.slice A' (n+m) c')) w'):wpList P ops Q (o :: rest) a w :=
 wpList_wanted hgd fun _ hK=>wp_append_rd w s x t ho base e i z bytes ht hi hz hsize hby hzs v n xs hs hown B A m c news hx hr h1 h63 hbytes hbase fun A' c' w' h2 h3 h4 h5 h6=>hK _ _ (h A' c' w' h2 h3 h4 h5 h6)
end
theorem Below.appended {w w':World} {base:Nat} {e:TypeId} {v:Value} {n:Nat} {xs:List Value} (hown:w.ownsRow base e 1 v n xs) (hg:w.grownBy w' v.ownBlock) (hb:base≤w.heap.size):Below base w w' :=
 (Below.refl _ _).grown hg hb (fun k hk=>(hown.lt k hk).1)
end Go.Proofs.YtijbdnhlpbcabaaGreatDoor
namespace Go.Proofs.YtijbdnhlpbcabaaGreatDoor
def I64 (z:List Int):List Value:=z.map fun (x:Int)=>Value.int .i64 x
theorem I64_len (z:List Int):(I64 z).length=z.length:=by simp [I64]
theorem I64_one (z:List Int):∀ u∈I64 z,u.oneCell'=true:=by
 intro u hu
 simp only [I64,List.mem_map] at hu
 obtain ⟨b,_,rfl⟩:=hu
 rfl
theorem I64_append (l m:List Int):I64 (l++m)=I64 l++I64 m:=by simp [I64]
theorem I64_take (l:List Int) (k:Nat):(I64 l).take k=I64 (l.take k):=by simp [I64,List.map_take]
theorem I64_get (z:List Int) (k:Nat) (hk:k < z.length):(I64 z)[k]?=some (.int .i64 (z.getD k 0)):=by
 simp [I64,List.getD_eq_getElem?_getD,List.getElem?_eq_getElem hk]
theorem info_int:(Tryz.prog.info? 3).map (fun i=>(i.zero,i.size,i.bytes))=some (some (.int .i64 0),1,8):=by kernel_rfl
theorem Rd.i64 {w:World} {B n:Nat} {A:Option Addr} {z:List Int} (h:Rd w B A n (I64 z)) (h0:0 < n) :
  ∃ b o,A=some ⟨b,o,none⟩∧b < B∧∀ k,k < n→w.cell? ⟨b,o+k,none⟩=some (.int .i64 (z.getD k 0)):=by
 obtain ⟨b,o,e,hb,hc⟩:=h.at_ h0
 refine ⟨b,o,e,hb,fun k hk=>?_⟩
 have hl:z.length=n:=by rw [← h.len,I64_len]
 rw [hc k (by rw [I64_len];omega)]
 have:=I64_get z k (by omega)
 rwa [List.getElem?_eq_getElem (by rw [I64_len];omega)] at this
def NewI64 (w:World) (z:List Int) (e:Ending) (w':World):Prop :=
 ∃ A c,e=.returned (.slice A z.length c)∧z.length≤c∧c≤maxLen∧w'.ownsRow w.heap.size 3 1 (.slice A z.length c) z.length (I64 z)∧Below w.heap.size w w'
theorem NewI64.mk {w w':World} {z:List Int} {e:Ending} {v:Value} (he:e=.returned v) (h:w'.ownsRow w.heap.size 3 1 v z.length (I64 z)) (hb:Below w.heap.size w w'):NewI64 w z e w':=by
 obtain ⟨A,c,rfl,h1,h2⟩:=own_form h
 exact ⟨A,c,he,h1,h2,h,hb⟩
theorem getDI_ext {l m:List Int} (h:l.length=m.length) (hg:∀ i,i < l.length→l.getD i 0=m.getD i 0):l=m:=by
 apply List.ext_getElem h
 intro i h1 h2
 have:=hg i h1
 rwa [List.getD_eq_getElem?_getD,List.getD_eq_getElem?_getD,List.getElem?_eq_getElem h1,List.getElem?_eq_getElem h2] at this
theorem getDI_set (y:List Int) (k j:Nat) (v:Int) (hk:k < y.length):(y.set k v).getD j 0=if j=k then v else y.getD j 0:=by
 rw [List.getD_eq_getElem?_getD,List.getD_eq_getElem?_getD,List.getElem?_set]
 by_cases h:k=j
 ·subst h;simp [hk]
 ·simp [h,Ne.symm h]
theorem I64_set (y:List Int) (k:Nat) (v:Int):I64 (y.set k v)=(I64 y).set k (.int .i64 v):=by simp [I64,List.map_set]
theorem own_setI {w:World} {base:Nat} {g n c:Nat} {y:List Int} (h:w.ownsRow base 3 1 (.slice (some ⟨g,0,none⟩) n c) n (I64 y)) (k:Nat) (v:Int) :
  (w.setCell ⟨g,k,none⟩ (.int .i64 v)).ownsRow base 3 1 (.slice (some ⟨g,0,none⟩) n c) n (I64 (y.set k v)):=by
 rw [I64_set];exact (h.stored k _).1
theorem own_cellI {w:World} {base:Nat} {g n c:Nat} {y:List Int} (h:w.ownsRow base 3 1 (.slice (some ⟨g,0,none⟩) n c) n (I64 y)) (k:Nat) (hk:k < n) :
  w.cell? ⟨g,k,none⟩=some (.int .i64 (y.getD k 0)):=by
 have hl:y.length=n:=by have:=h.1;rw [I64_len] at this;omega
 rw [h.cellAt k (by omega),I64_get y k (by omega)]
theorem own_lenI {w:World} {base:Nat} {v:Value} {n:Nat} {y:List Int} (h:w.ownsRow base 3 1 v n (I64 y)):y.length=n:=by
 have:=h.1;rw [I64_len] at this;omega
theorem own_block {w:World} {base:Nat} {e:TypeId} {size g m n c:Nat} {xs:List Value} (h:w.ownsRow base e size (.slice (some ⟨g,0,none⟩) m c) n xs):base≤g∧g < w.heap.size:=h.lt g rfl
theorem own_made (w:World) (e:TypeId) (n:Nat) (z:Value) (hn:n≤maxLen):(w.alloc (.cells (List.replicate n z).toArray e)).ownsRow w.heap.size e 1 (.slice (some ⟨w.heap.size,0,none⟩) n n) n (List.replicate n z):=by
 have:=World.ownsRow_lit (base:=w.heap.size) (e:=e) (size:=1) w (List.replicate n z).toArray n (Nat.le_refl _) hn (by simp)
 simpa using this
theorem I64_replicate (n:Nat) (x:Int):I64 (List.replicate n x)=List.replicate n (.int .i64 x):=by simp [I64]
set_option maxHeartbeats 400000 in
theorem cloneI_any (A:Option Addr) (n c B:Nat) (z:List Int) (w:World) (h:Rd w B A n (I64 z)) (hn:n≤17592186044416) :
  Calls Tryz.prog 41 #[.slice A n c] w (NewI64 w z):=by
 have hl:z.length=n:=by rw [← h.len,I64_len]
 obtain ⟨i0,hi0,hz0,hz1,hz2⟩:=info_parts info_int
 have hq:=fun W a n c=>Lib.run_eql_slice_nil (P:=Tryz.prog) W 25 3 a n c 0 0 Tryz.underlying25
 cases A with
 | none =>
   obtain rfl:n=0:=h.none_
   obtain rfl:z=[]:=List.eq_nil_of_length_eq_zero hl
   go_enter Tryz.func41,Tryz.ntmps41
   go_wp2
   go_ret
   exact .mk rfl (World.ownsRow_nil _ _ _ _) (Below.refl _ _)
 | some ad =>
   have hown:(w.alloc (.cells #[] 3)).ownsRow w.heap.size 3 1 (.slice (some ⟨w.heap.size,0,none⟩) 0 0) 0 [] :=
    World.ownsRow_made w #[] 0 (Nat.le_refl _) (by simp [maxLen]) rfl
   have hrd:=h.alloc (.cells #[] 3)
   have s1:0+n≤maxLen:=by simp only [maxLen];omega
   have s2:(0+n)*8≤140737488355328:=by omega
   have s3:w.heap.size≤(w.alloc (.cells #[] 3)).heap.size:=by simp
   go_enter Tryz.func41,Tryz.ntmps41
   go_wp2_with (first
    | (at_builtin;refine wpList_append_rd _ rfl _ _ 25 rfl w.heap.size 3 i0 (.int .i64 0) 8 Tryz.underlying25 hi0 hz0 hz1 hz2 rfl _ 0 [] rfl hown B (some ad) n c (I64 z) rfl hrd (I64_one _) s1 s2 s3 ?_))
   intro A' c' w' _ _ hown' hg hat
   go_wp2
   go_ret
   refine .mk rfl (by simpa [hl] using hown') ?_
   exact ((Below.refl _ _).alloc (Nat.le_refl _) _).trans (Below.appended hown hg (by simp))
set_option maxHeartbeats 400000 in
theorem equalI_any (A1 A2:Option Addr) (n c m d B1 B2:Nat) (x y:List Int) (w:World) (h1:Rd w B1 A1 n (I64 x)) (h2:Rd w B2 A2 m (I64 y)) (hn:n≤9223372036854775807) (hm:m≤9223372036854775807) :
  Calls Tryz.prog 31 #[.slice A1 n c,.slice A2 m d] w fun e w'=>e=.returned (.bool (decide (x=y)))∧∃ k,w'=w.drewN k:=by
 have l1:x.length=n:=by rw [← h1.len,I64_len]
 have l2:y.length=m:=by rw [← h2.len,I64_len]
 by_cases hnm:n=m
 ·subst hnm
  have L1:=Lib.hid l1
  have L2:=Lib.hid l2
  clear l1 l2
  go_enter Tryz.func31,Tryz.ntmps31
  go_wp2
  go_loopw [13] (fun i wr=>∃ k j:Nat,k≤n∧i=.int .i64 k∧Hid (∀ j,j < k→x.getD j 0=y.getD j 0)∧wr=w.drewN j) (fun i _=>n - (intOf i).toNat)
  case atStart=>exact ⟨0,0,by omega,rfl,fun j hj=>absurd hj (by omega),rfl⟩
  case round =>
   obtain ⟨k,j,hk,rfl,hsame,rfl⟩:=hrel
   by_cases hlt:k < n
   ·obtain ⟨b1,o1,rfl,_,k1⟩:=h1.i64 (by omega)
    obtain ⟨b2,o2,rfl,_,k2⟩:=h2.i64 (by omega)
    have t1:=k1 k hlt
    have t2:=k2 k hlt
    have hkn:(k:Int) < (n:Int):=by omega
    clear k1 k2
    by_cases heq:x.getD k 0=y.getD k 0
    ·have hb:(x.getD k 0 != y.getD k 0)=false:=by rw [heq];simp
     have HE:=Lib.hid heq
     clear heq
     generalize hx:x.getD k 0=xv at *
     generalize hy:y.getD k 0=yv at *
     have HX:=Lib.hid hx
     have HY:=Lib.hid hy
     clear hx hy
     go_wp2
     go_quiet (fail)
     go_wp2
     go_roundw
     case rel =>
      refine ⟨k+1,j+nq,by omega,by go_num,fun i hi=>?_,rfl⟩
      by_cases e:i=k
      ·subst e;rw [HX.out,HY.out];exact HE.out
      ·exact hsame.out i (by omega)
     case measure=>simp [intOf];omega
    ·have hb:(x.getD k 0 != y.getD k 0)=true:=by rw [bne_iff_ne];exact heq
     have hxy:decide (x=y)=false:=decide_eq_false fun e=>heq (by rw [e])
     have HXY:=Lib.hid hxy
     clear hxy heq
     generalize x.getD k 0=xv at *
     generalize y.getD k 0=yv at *
     go_wp2
     go_quiet (fail)
     go_wp2
     go_ret
     exact ⟨by rw [HXY.out];rfl,j+nq,by first | rfl | exact World.drewN_drewN _ _ _⟩
   ·obtain rfl:k=n:=by omega
    have hxy:decide (x=y)=true:=decide_eq_true (getDI_ext (by rw [L1.out,L2.out]) (by rw [L1.out];exact hsame.out))
    have HXY:=Lib.hid hxy
    clear hxy
    go_wp2
    go_ret
    exact ⟨by rw [HXY.out];rfl,j,rfl⟩
 ·have hb:((n:Int) != (m:Int))=true:=by rw [bne_iff_ne];omega
  have hxy:decide (x=y)=false:=decide_eq_false fun e=>hnm (by rw [← l1,← l2,e])
  have HXY:=Lib.hid hxy
  clear hxy l1 l2 hnm
  go_enter Tryz.func31,Tryz.ntmps31
  go_wp2
  go_ret
  exact ⟨by rw [HXY.out];rfl,0,rfl⟩
end Go.Proofs.YtijbdnhlpbcabaaGreatDoor
