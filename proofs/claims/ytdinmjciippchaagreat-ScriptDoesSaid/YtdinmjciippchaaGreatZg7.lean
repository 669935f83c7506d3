/- Darts put behind one another, and taken out: mathematics. -/
import Derived.Test.YtdinmjciippchaaGreatZg6
import Derived.Test.YtdinmjciippchaaGreatZg3
import Derived.BigQuiet
open Go.RowKit
set_option linter.unusedVariables false
namespace Go.Proofs.YtdinmjciippchaaGreat
set_option maxRecDepth 20000
theorem getDN_set' (y:List Nat) (k j:Nat) (v:Nat) (hk:k < y.length):(y.set k v).getD j 0=if j=k then v else y.getD j 0:=by
 by_cases e:j=k
 ·subst e;simp [List.getD_eq_getElem?_getD,hk]
 ·rw [if_neg e];simp [List.getD_eq_getElem?_getD,Ne.symm e]
def edgL (l:List Nat):List Nat:=l++[l.length,l.length+1]
def putL (l:List Nat) (d a:Nat):List Nat:=(l.set a d).set d (l.getD a 0)
def putB (l b:List Nat) (d a:Nat):List Nat:=(b.set d a).set (l.getD a 0) d
def takL (l b:List Nat) (d:Nat):List Nat:=(l.set (b.getD d 0) (l.getD d 0)).set d d
def takB (l b:List Nat) (d:Nat):List Nat:=(b.set (l.getD d 0) (b.getD d 0)).set d d
theorem edg_len (l:List Nat):(edgL l).length=l.length+2:=by simp [edgL]
theorem put_len (l:List Nat) (d a:Nat):(putL l d a).length=l.length:=by simp [putL]
theorem putB_len (l b:List Nat) (d a:Nat):(putB l b d a).length=b.length:=by simp [putB]
theorem tak_len (l b:List Nat) (d:Nat):(takL l b d).length=l.length:=by simp [takL]
theorem takB_len (l b:List Nat) (d:Nat):(takB l b d).length=b.length:=by simp [takB]
theorem edg_old (l:List Nat) {i:Nat} (hi:i < l.length):sgL (edgL l) i=sgL l i:=by
 show (edgL l).getD i 0=l.getD i 0
 unfold edgL;simp [List.getD_eq_getElem?_getD,List.getElem?_append_left hi]
theorem edg_new (l:List Nat) {i:Nat} (h1:l.length≤i) (h2:i < l.length+2):sgL (edgL l) i=i:=by
 show (edgL l).getD i 0=i
 unfold edgL
 rw [List.getD_eq_getElem?_getD,List.getElem?_append_right h1]
 have:i=l.length∨i=l.length+1:=by omega
 rcases this with rfl | rfl
 ·simp
 ·rw [show l.length+1 - l.length=1 by omega];simp
section
variable {l b:List Nat}
theorem put_get (h:Inv l b) {d a:Nat} (hd:d < l.length) (ha:a < l.length) (al:sgL l d=d) (i:Nat):sgL (putL l d a) i=sgL l (swp d a i):=by
 show (putL l d a).getD i 0=_
 unfold putL
 rw [getDN_set' _ _ _ _ (by simpa using hd),getDN_set' _ _ _ _ ha]
 unfold swp
 by_cases c:i=d
 ·rw [if_pos c,if_pos c];rfl
 ·rw [if_neg c,if_neg c]
  by_cases c2:i=a
  ·rw [if_pos c2,if_pos c2,al]
  ·rw [if_neg c2,if_neg c2];rfl
theorem putB_get (h:Inv l b) {d a:Nat} (hd:d < l.length) (ha:a < l.length) (al:sgL l d=d) {i:Nat} (hi:i < l.length):sgL (putB l b d a) i=swp d a (sgL b i):=by
 show (putB l b d a).getD i 0=_
 have hla:=h.lt a ha
 have hbd:sgL b d=d:=by have:=h.lb d hd;rw [show l.getD d 0=d from al] at this;exact this
 unfold putB
 rw [getDN_set' _ _ _ _ (by simp [h.len];exact hla),getDN_set' _ _ _ _ (by rw [h.len];exact hd)]
 unfold swp
 by_cases c:i=l.getD a 0
 ·have:sgL b i=a:=by rw [c];exact h.lb a ha
  rw [if_pos c,this]
  by_cases c2:a=d
  ·rw [if_pos c2,c2]
  ·rw [if_neg c2,if_pos rfl]
 ·rw [if_neg c]
  by_cases c2:i=d
  ·rw [if_pos c2,c2,hbd,if_pos rfl]
  ·have n1:sgL b i≠d:=fun q=>c2 (by have:=h.bl i hi;rw [show b.getD i 0=d from q] at this;rw [← this];exact al)
   have n2:sgL b i≠a:=fun q=>c (by have:=h.bl i hi;rw [show b.getD i 0=a from q] at this;exact this.symm)
   rw [if_neg c2,if_neg n1,if_neg n2];rfl
theorem put_inv (h:Inv l b) {d a:Nat} (hd:d < l.length) (ha:a < l.length) (al:sgL l d=d):Inv (putL l d a) (putB l b d a):=by
 have g:=put_get h hd ha al
 have gb:=fun {i} (hi:i < l.length)=>putB_get h hd ha al hi
 have hl:=put_len l d a
 have sl:=h.lt
 have sb:=h.lt'
 refine ⟨by rw [putB_len,hl,h.len],fun i hi=>?_,fun i hi=>?_,fun i hi=>?_,fun i hi=>?_⟩
 all_goals rw [hl] at hi
 ·show sgL _ i < _
  rw [g,hl];exact sl _ (swp_lt hd ha hi)
 ·show sgL _ i < _
  rw [gb hi,hl];exact swp_lt hd ha (sb i hi)
 ·show sgL _ (sgL _ i)=i
  have h1:=swp_lt hd ha hi
  have h2:sgL l (swp d a i) < l.length:=sl _ h1
  rw [g,gb h2]
  show swp d a (b.getD (l.getD _ 0) 0)=i
  rw [h.lb _ h1,swp_swp]
 ·show sgL _ (sgL _ i)=i
  rw [g,gb hi,swp_swp]
  exact h.bl i hi
theorem tak_get (h:Inv l b) {d:Nat} (hd:d < l.length) (i:Nat):sgL (takL l b d) i=sgL l (swp d (sgL b d) i):=by
 show (takL l b d).getD i 0=_
 have hbl:=h.lt' d hd
 unfold takL
 rw [getDN_set' _ _ _ _ (by simpa using hd),getDN_set' _ _ _ _ hbl]
 unfold swp
 by_cases c:i=d
 ·rw [if_pos c,if_pos c];exact (h.bl d hd).symm
 ·rw [if_neg c,if_neg c]
  by_cases c2:i=b.getD d 0
  ·rw [if_pos c2,if_pos (show i=sgL b d from c2)];rfl
  ·rw [if_neg c2,if_neg (show ¬ i=sgL b d from c2)];rfl
theorem takB_get (h:Inv l b) {d:Nat} (hd:d < l.length) {i:Nat} (hi:i < l.length):sgL (takB l b d) i=swp d (sgL b d) (sgL b i):=by
 show (takB l b d).getD i 0=_
 have hll:=h.lt d hd
 unfold takB
 rw [getDN_set' _ _ _ _ (by simp [h.len];exact hd),getDN_set' _ _ _ _ (by rw [h.len];exact hll)]
 unfold swp
 by_cases c:i=d
 ·rw [if_pos c,c]
  by_cases c2:sgL b d=d
  ·rw [if_pos c2,c2]
  ·rw [if_neg c2,if_pos rfl]
 ·rw [if_neg c]
  by_cases c2:i=l.getD d 0
  ·have:sgL b i=d:=by rw [c2];exact h.lb d hd
   rw [if_pos c2,this,if_pos rfl];rfl
  ·have n1:sgL b i≠d:=fun q=>c2 (by have:=h.bl i hi;rw [show b.getD i 0=d from q] at this;exact this.symm)
   have n2:sgL b i≠sgL b d:=fun q=>c (by
    have h1:=h.bl i hi
    have h2:=h.bl d hd
    rw [show b.getD i 0=b.getD d 0 from q] at h1
    omega)
   rw [if_neg c2,if_neg n1,if_neg n2];rfl
theorem tak_inv (h:Inv l b) {d:Nat} (hd:d < l.length):Inv (takL l b d) (takB l b d):=by
 have g:=tak_get h hd
 have gb:=fun {i} (hi:i < l.length)=>takB_get h hd hi
 have hl:=tak_len l b d
 have sl:=h.lt
 have sb:=h.lt'
 have ha:=sb d hd
 refine ⟨by rw [takB_len,hl,h.len],fun i hi=>?_,fun i hi=>?_,fun i hi=>?_,fun i hi=>?_⟩
 all_goals rw [hl] at hi
 ·show sgL _ i < _
  rw [g,hl];exact sl _ (swp_lt hd ha hi)
 ·show sgL _ i < _
  rw [gb hi,hl];exact swp_lt hd ha (sb i hi)
 ·show sgL _ (sgL _ i)=i
  have h1:swp d (sgL b d) i < l.length:=swp_lt hd ha hi
  have h2:sgL l (swp d (sgL b d) i) < l.length:=sl _ h1
  rw [g,gb h2]
  show swp d _ (b.getD (l.getD _ 0) 0)=i
  rw [h.lb _ h1,swp_swp]
 ·show sgL _ (sgL _ i)=i
  rw [g,gb hi,swp_swp]
  exact h.bl i hi
theorem tak_one (h:Inv l b) {d:Nat} (hd:d < l.length):sgL (takL l b d) d=d:=by
 rw [tak_get h hd]
 have:swp d (sgL b d) d=sgL b d:=by unfold swp;rw [if_pos rfl]
 rw [this];exact h.bl d hd
theorem edg_inv (h:Inv l b):Inv (edgL l) (edgL b):=by
 have hl:=edg_len l
 have hbl:b.length=l.length:=h.len
 have gl:∀ i,i < l.length+2→sgL (edgL l) i < l.length+2:=fun i hi=>by
  by_cases c:i < l.length
  ·rw [edg_old l c];have:=h.lt i c;show l.getD i 0 < _;omega
  ·rw [edg_new l (by omega) hi];exact hi
 refine ⟨by rw [edg_len,edg_len,hbl],fun i hi=>?_,fun i hi=>?_,fun i hi=>?_,fun i hi=>?_⟩
 all_goals rw [hl] at hi
 ·rw [hl];exact gl i hi
 ·rw [hl]
  show sgL (edgL b) i < _
  by_cases c:i < b.length
  ·rw [edg_old b c];have:=h.lt' i (by omega);show b.getD i 0 < _;omega
  ·rw [edg_new b (by omega) (by omega)];exact hi
 ·show sgL (edgL b) (sgL (edgL l) i)=i
  by_cases c:i < l.length
  ·rw [edg_old l c,edg_old b (by have:=h.lt i c;show l.getD i 0 < _;omega)];exact h.lb i c
  ·rw [edg_new l (by omega) hi,edg_new b (by omega) (by omega)]
 ·show sgL (edgL l) (sgL (edgL b) i)=i
  by_cases c:i < b.length
  ·rw [edg_old b c,edg_old l (by have:=h.lt' i (by omega);show b.getD i 0 < _;omega)];exact h.bl i (by omega)
  ·rw [edg_new b (by omega) (by omega),edg_new l (by omega) hi]
theorem put_other (h:Inv l b) {d a i:Nat} (hd:d < l.length) (ha:a < l.length) (al:sgL l d=d) (h1:i≠d) (h2:i≠a):sgL (putL l d a) i=sgL l i:=by
 rw [put_get h hd ha al]
 unfold swp
 rw [if_neg h1,if_neg h2]
theorem tak_other (h:Inv l b) {d i:Nat} (hd:d < l.length) (h1:i≠d) (h2:i≠sgL b d):sgL (takL l b d) i=sgL l i:=by
 rw [tak_get h hd]
 unfold swp
 rw [if_neg h1,if_neg h2]
end
set_option maxRecDepth 100000
theorem wpList_append_runG {P:Program} {w:World} {ops:Array Oper} {rest:List Oper} {o:Oper} {a:Act} {Q:Exit→Act→World→Prop} (hw:Region.wanted o (yielded ops a.tmps)=true) (s x:Operand) (t:TypeId)
  (ho:o.op=.call { callee:=.builtin .append,args:=#[s,x],argTypes:=#[t,t] }) (v u v':Value) (w':World) (hs:a.eval s=v) (hx:a.eval x=u)
  (hr:(Builtin.append_ #[t,t] o.type #[v,u]).run P w=.ok v' w') (h:wpList P ops Q rest (a.put o.dst v') w'):wpList P ops Q (o :: rest) a w :=
 wpList_wanted hw fun K hK=>by
  unfold Oper.wp execOp
  simp only [ho,resolve,invoke,builtin,Sem.run_bind,Sem.run_pure,Result.andThen_ok,List.map_toArray,List.map_cons,List.map_nil,hs,hx,hr]
  exact hK _ _ h
def TurnsF (w:World) (Fr:Nat→Prop) (gx:Nat) (l b:List Nat):Prop :=
 b.length=l.length∧Fr gx∧∃ A c A' c',Blk w gx 113 #[.slice A l.length c,.slice A' l.length c'] ∧
  w.ownsRow 0 3 1 (.slice A l.length c) l.length (I64 (ofN l))∧w.ownsRow 0 3 1 (.slice A' l.length c') l.length (I64 (ofN b)) ∧
  (∀ k,(Value.slice A l.length c).ownBlock=some k→(Value.slice A' l.length c').ownBlock≠some k) ∧
  (∀ k,(Value.slice A l.length c).ownBlock=some k→Fr k)∧(∀ k,(Value.slice A' l.length c').ownBlock=some k→Fr k)
def TurnsAt (w:World) (base gx:Nat) (l b:List Nat):Prop:=TurnsF w (fun k=>base≤k) gx l b
theorem TurnsF.below {w w':World} {Fr:Nat→Prop} {gx:Nat} {l b:List Nat} (h:TurnsF w Fr gx l b) (m:Below w.heap.size w w'):TurnsF w' Fr gx l b:=by
 obtain ⟨h1,h2,A,c,A',c',hb,o1,o2,dj,d1,d2⟩:=h
 exact ⟨h1,h2,A,c,A',c',hb.below m,own_below o1 m,own_below o2 m,dj,d1,d2⟩
theorem TurnsF.drewN {w:World} {Fr:Nat→Prop} {gx:Nat} {l b:List Nat} (h:TurnsF w Fr gx l b) (n:Nat):TurnsF (w.drewN n) Fr gx l b:=h.below (below_draws (Below.refl _ _) n)
theorem TurnsAt.below {w w':World} {base gx:Nat} {l b:List Nat} (h:TurnsAt w base gx l b) (m:Below w.heap.size w w'):TurnsAt w' base gx l b:=TurnsF.below h m
theorem TurnsF.mono {w:World} {Fr Fr':Nat→Prop} {gx:Nat} {l b:List Nat} (h:TurnsF w Fr gx l b) (hs:∀ k,k < w.heap.size→Fr k→Fr' k):TurnsF w Fr' gx l b:=by
 obtain ⟨h1,h2,A,c,A',c',hb,o1,o2,dj,d1,d2⟩:=h
 exact ⟨h1,hs _ hb.lt h2,A,c,A',c',hb,o1,o2,dj,fun k hk=>hs _ (o1.lt k hk).2 (d1 k hk),fun k hk=>hs _ (o2.lt k hk).2 (d2 k hk)⟩
theorem mod_self {S:Nat→Prop} {w w1 w2:World} (h:Mod S w w1) (k:Mod S w1 w2):Mod S w w2:=h.trans k fun _ _ q=>q
theorem mod_drawsG {S:Nat→Prop} {w w1:World} (h:Mod S w w1) (n:Nat):Mod S w (w1.drewN n):=h.drewN n
theorem ofN_setG (l:List Nat) (k v:Nat):ofN (l.set k v)=(ofN l).set k (v:Int):=by simp [ofN]
set_option maxHeartbeats 4000000 in
theorem gnextF_p (Fr:Nat→Prop) (gx:Nat) (l b:List Nat) (w:World) (h:TurnsF w Fr gx l b) :
  Calls Tryz.prog 82 #[.pointer (some ⟨gx,0,none⟩)] w fun e w'=>e=.returned (.int .i64 (l.length:Int))∧w=w':=by
 obtain ⟨h1,h2,A,c,A',c',hb,o1,o2,dj,d1,d2⟩:=h
 have r0:=hb.cell 0
 simp at r0
 clear o1 o2 dj hb h1 h2 d1 d2
 go_enter Tryz.func82,Tryz.ntmps82
 go_wp2_with fail
 go_ret
 exact ⟨rfl,rfl⟩
set_option maxHeartbeats 4000000 in
theorem glinkF_p (Fr:Nat→Prop) (gx:Nat) (l b:List Nat) (f t:Nat) (w:World) (h:TurnsF w Fr gx l b) (hf:f < l.length) (ht:t < l.length) (hn:l.length≤1000000) :
  Calls Tryz.prog 104 #[.pointer (some ⟨gx,0,none⟩),.int .i64 (f:Int),.int .i64 (t:Int)] w fun e w'=>e=.returned (.tuple #[])∧TurnsF w' Fr gx (l.set f t) (b.set t f)∧Mod Fr w w':=by
 obtain ⟨h1,h2,A,c,A',c',hb,o1,o2,dj,d1,d2⟩:=h
 have r0:=hb.cell 0
 have r1:=hb.cell 1
 simp at r0 r1
 obtain ⟨gA,rfl,hgA,hgAw⟩:=own_some o1 (by omega)
 obtain ⟨gB,rfl,hgB,hgBw⟩:=own_some o2 (by omega)
 have hFA:=d1 gA (by simp [Value.ownBlock])
 have hFB:=d2 gB (by simp [Value.ownBlock])
 have nAB:gA≠gB:=fun e=>dj gA (by simp [Value.ownBlock]) (by simp [Value.ownBlock,e])
 have nAx:gA≠gx:=fun e=>own_ne o1 hb (by decide) (by simp [Value.ownBlock,e])
 have nBx:gB≠gx:=fun e=>own_ne o2 hb (by decide) (by simp [Value.ownBlock,e])
 have cA:=own_cellI o1 f hf
 have cB:=own_cellI o2 t ht
 have fA:=o1.frozenAt f
 have fB:=o2.frozenAt t
 have MA:Mod (fun i=>i=gA) w (w.setCell ⟨gA,f,none⟩ (.int .i64 (t:Int))):=Mod.setCell (p:=⟨gA,f,none⟩) (Mod.refl (fun i=>i=gA) w) (fun _=>rfl) _
 have cB':(w.setCell ⟨gA,f,none⟩ (.int .i64 (t:Int))).cell? ⟨gB,t,none⟩=some (.int .i64 ((ofN b).getD t 0)):=(MA.cell hgBw (Ne.symm nAB) t).trans cB
 have fB':(w.setCell ⟨gA,f,none⟩ (.int .i64 (t:Int))).frozen? ⟨gB,t,none⟩=false:=(MA.frozen hgBw (Ne.symm nAB) t).trans fB
 have hgx:=hb.lt
 have r1':(w.setCell ⟨gA,f,none⟩ (.int .i64 (t:Int))).cell? ⟨gx,1,none⟩=some (.slice (some ⟨gB,0,none⟩) l.length c'):=(MA.cell hgx (Ne.symm nAx) 1).trans r1
 have FIN:Hid (TurnsF ((w.setCell ⟨gA,f,none⟩ (.int .i64 (t:Int))).setCell ⟨gB,t,none⟩ (.int .i64 (f:Int))) Fr gx (l.set f t) (b.set t f)∧Mod Fr w ((w.setCell ⟨gA,f,none⟩ (.int .i64 (t:Int))).setCell ⟨gB,t,none⟩ (.int .i64 (f:Int)))):=by
  have MB:Mod (fun i=>i=gB) (w.setCell ⟨gA,f,none⟩ (.int .i64 (t:Int))) ((w.setCell ⟨gA,f,none⟩ (.int .i64 (t:Int))).setCell ⟨gB,t,none⟩ (.int .i64 (f:Int))):=Mod.setCell (p:=⟨gB,t,none⟩) (Mod.refl (fun i=>i=gB) _) (fun _=>rfl) _
  refine ⟨⟨by simp [h1],h2,some ⟨gA,0,none⟩,c,some ⟨gB,0,none⟩,c',?_,?_,?_,?_,?_,?_⟩,?_⟩
  ·rw [List.length_set]
   exact (hb.mod MA (Ne.symm nAx)).mod MB (Ne.symm nBx)
  ·rw [List.length_set,ofN_setG]
   exact own_mod (own_setI o1 f (t:Int)) MB (fun k hk e=>by simp [Value.ownBlock] at hk;omega)
  ·rw [List.length_set,ofN_setG]
   exact own_setI (own_mod o2 MA (fun k hk e=>by simp [Value.ownBlock] at hk;omega)) t (f:Int)
  ·rw [List.length_set];exact dj
  ·rw [List.length_set];exact d1
  ·rw [List.length_set];exact d2
  ·exact ((Mod.refl Fr w).setCell (p:=⟨gA,f,none⟩) (fun _=>hFA) _).setCell (p:=⟨gB,t,none⟩) (fun _=>hFB) _
 have hfi:(f:Int) < (l.length:Int):=by omega
 have hti:(t:Int) < (l.length:Int):=by omega
 clear o1 o2 dj hb h1 MA cB fB d1 d2
 go_enter Tryz.func104,Tryz.ntmps104
 go_wp2_with fail
 go_region
 all_goals (go_wp2_with fail)
 all_goals (
  refine bodyPost_end (results_none rfl _ _ _) rfl ?_
  exact ⟨rfl,FIN.out.1.drewN 1,mod_drawsG FIN.out.2 1⟩)
set_option maxHeartbeats 4000000 in
theorem gputF_p (Fr:Nat→Prop) (gx:Nat) (l b:List Nat) (d a:Nat) (w:World) (h:TurnsF w Fr gx l b) (hi:Inv l b) (hd:d < l.length) (ha:a < l.length) (hn:l.length≤1000000) :
  Calls Tryz.prog 77 #[.pointer (some ⟨gx,0,none⟩),.int .i64 (d:Int),.int .i64 (a:Int)] w fun e w'=>e=.returned (.tuple #[])∧TurnsF w' Fr gx (putL l d a) (putB l b d a)∧Mod Fr w w':=by
 have L1:=Lib.hid (glinkF_p Fr gx l b a d w h ha hd hn)
 have L2:Hid (∀ W,TurnsF W Fr gx (l.set a d) (b.set d a)→Calls Tryz.prog 104 #[.pointer (some ⟨gx,0,none⟩),.int .i64 (d:Int),.int .i64 ((l.getD a 0:Nat):Int)] W fun e w'=>e=.returned (.tuple #[])∧TurnsF w' Fr gx (putL l d a) (putB l b d a)∧Mod Fr W w'):=fun W hW=>by
  have:=glinkF_p Fr gx (l.set a d) (b.set d a) d (l.getD a 0) W hW (by simpa using hd) (by simpa using hi.lt a ha) (by simpa using hn)
  exact this
 obtain ⟨h1,h2,A,c,A',c',hb,o1,o2,dj,d1,d2⟩:=h
 have r0:=hb.cell 0
 simp at r0
 obtain ⟨gA,rfl,hgA,hgAw⟩:=own_some o1 (by omega)
 have cA:=own_cellI o1 a ha
 rw [ofN_get] at cA
 have hai:(a:Int) < (l.length:Int):=by omega
 clear o1 o2 dj hb h1 h2 hi d1 d2
 generalize l.getD a 0=la at *
 go_enter Tryz.func77,Tryz.ntmps77
 go_wp2_with fail
 refine L1.out.mono ?_
 rintro e w1 ⟨rfl,t1,b1⟩
 have L3:=Lib.hid (L2.out w1 t1)
 have B1:=Lib.hid b1
 clear t1 b1 L1 L2
 go_wp2_with fail
 refine L3.out.mono ?_
 rintro e w2 ⟨rfl,t2,b2⟩
 have F:=Lib.hid (And.intro t2 (mod_self B1.out b2))
 clear t2 b2 L3
 go_wp2_with fail
 refine bodyPost_end (results_none rfl _ _ _) rfl ?_
 exact ⟨rfl,F.out.1,F.out.2⟩
set_option maxHeartbeats 4000000 in
theorem gtakeF_p (Fr:Nat→Prop) (gx:Nat) (l b:List Nat) (d:Nat) (w:World) (h:TurnsF w Fr gx l b) (hi:Inv l b) (hd:d < l.length) (hn:l.length≤1000000) :
  Calls Tryz.prog 81 #[.pointer (some ⟨gx,0,none⟩),.int .i64 (d:Int)] w fun e w'=>e=.returned (.tuple #[])∧TurnsF w' Fr gx (takL l b d) (takB l b d)∧Mod Fr w w':=by
 have hlt:=hi.lt d hd
 have hbt:=hi.lt' d hd
 have L1:Hid (Calls Tryz.prog 104 #[.pointer (some ⟨gx,0,none⟩),.int .i64 ((b.getD d 0:Nat):Int),.int .i64 ((l.getD d 0:Nat):Int)] w.drew fun e w'=>e=.returned (.tuple #[])∧TurnsF w' Fr gx (l.set (b.getD d 0) (l.getD d 0)) (b.set (l.getD d 0) (b.getD d 0))∧Mod Fr w.drew w'):=glinkF_p Fr gx l b (b.getD d 0) (l.getD d 0) w.drew (h.drewN 1) hbt hlt hn
 have L2:Hid (∀ W,TurnsF W Fr gx (l.set (b.getD d 0) (l.getD d 0)) (b.set (l.getD d 0) (b.getD d 0))→Calls Tryz.prog 104 #[.pointer (some ⟨gx,0,none⟩),.int .i64 (d:Int),.int .i64 (d:Int)] W fun e w'=>e=.returned (.tuple #[])∧TurnsF w' Fr gx (takL l b d) (takB l b d)∧Mod Fr W w'):=fun W hW=>by
  have:=glinkF_p Fr gx _ _ d d W hW (by simpa using hd) (by simpa using hd) (by simpa using hn)
  exact this
 have HB:Hid (Mod Fr w w.drew):=(Mod.refl Fr w).drew
 obtain ⟨h1,h2,A,c,A',c',hb,o1,o2,dj,d1,d2⟩:=h
 have r0:=hb.cell 0
 have r1:=hb.cell 1
 simp at r0 r1
 obtain ⟨gA,rfl,hgA,hgAw⟩:=own_some o1 (by omega)
 obtain ⟨gB,rfl,hgB,hgBw⟩:=own_some o2 (by omega)
 have cA:=own_cellI o1 d hd
 have cB:=own_cellI o2 d hd
 rw [ofN_get] at cA cB
 have hdi:(d:Int) < (l.length:Int):=by omega
 clear o1 o2 dj hb h1 h2 hi d1 d2
 generalize l.getD d 0=la at *
 generalize b.getD d 0=ba at *
 go_enter Tryz.func81,Tryz.ntmps81
 go_wp2_with fail
 go_region_with (first
  | (go_at_call 104;(with_reducible refine L1.out.mono ?_);rintro e w1 ⟨rfl,t1,b1⟩;have L3:=Lib.hid (L2.out w1 t1);have B1:=Lib.hid (mod_self HB.out b1);clear t1 b1))
 all_goals (
  go_wp2_with fail
  refine L3.out.mono ?_
  rintro e w2 ⟨rfl,t2,b2⟩
  have F:=Lib.hid (And.intro t2 (mod_self B1.out b2))
  clear t2 b2 L3
  go_wp2_with fail
  refine bodyPost_end (results_none rfl _ _ _) rfl ?_
  exact ⟨rfl,F.out.1,F.out.2⟩)
set_option maxHeartbeats 4000000 in
theorem gedgeF_p (Fr:Nat→Prop) (gx:Nat) (l b:List Nat) (w:World) (h:TurnsF w Fr gx l b) (hn:l.length≤1000000) (hbw:∀ k,w.heap.size≤k→Fr k) :
  Calls Tryz.prog 76 #[.pointer (some ⟨gx,0,none⟩)] w fun e w'=>e=.returned (.tuple #[.int .i64 (l.length:Int),.int .i64 ((l.length+1:Nat):Int)])∧TurnsF w' Fr gx (edgL l) (edgL b)∧Mod Fr w w':=by
 have NX:=Lib.hid (gnextF_p Fr gx l b w h)
 obtain ⟨i0,hi0,hz0,hz1,hz2⟩:=info_parts info_int
 obtain ⟨h1,h2,A,c,A',c',hb,o1,o2,dj,d1,d2⟩:=h
 obtain ⟨n,hnl⟩:∃ n,n=l.length:=⟨_,rfl⟩
 obtain ⟨n1,hn1⟩:∃ n1,n1=n+1:=⟨_,rfl⟩
 have e1:(n:Int)+1=(n1:Int):=by omega
 have we1:IntKind.i64.wrap (n1:Int)=(n1:Int):=by simp [IntKind.wrap,IntKind.signed,IntKind.bits];omega
 have HL:Hid (edgL l=l++[n,n1]):=by show _=_;rw [hn1,hnl];rfl
 have HLB:Hid (edgL b=b++[n,n1]):=by show _=_;rw [hn1,hnl,← h1];rfl
 rw [← hnl] at NX o1 o2 hb dj d1 d2 hn
 have r0:=hb.cell 0
 have f0:=hb.frozen 0
 simp at r0
 have hI:I64 (ofN [n,n1])=[.int .i64 (n:Int),.int .i64 (n1:Int)]:=by simp [I64,ofN]
 have hb1:=hb.alloc (.cells #[.int .i64 (n:Int),.int .i64 (n1:Int)] 3)
 have hal:Below w.heap.size w (w.alloc (.cells #[.int .i64 (n:Int),.int .i64 (n1:Int)] 3)):=(Below.refl _ _).alloc (Nat.le_refl _) _
 have hown1:=own_below o1 hal
 have rd:=(Rd.new w 3 #[.int .i64 (n:Int),.int .i64 (n1:Int)] 2 (I64 (ofN [n,n1])) (by rw [hI]) (by simp))
 obtain ⟨v',w1,hrun,hnew,hgr,hob⟩:=run_append_rd (P:=Tryz.prog) (w.alloc (.cells #[.int .i64 (n:Int),.int .i64 (n1:Int)] 3)) 0 26 26 3 i0 (.int .i64 0) 8 Tryz.underlying26 hi0 hz0 hz1 hz2 rfl _ n _ hown1 (w.heap.size+1) (some ⟨w.heap.size,0,none⟩) 2 2 (I64 (ofN [n,n1])) rd (I64_one _) (by simp only [maxLen];omega) (by omega) (Nat.zero_le _)
 obtain ⟨A1,c1,ev,hc1,hm1⟩:=own_form hnew
 subst ev
 have MG:=Mod.ofGrown hgr
 have hbx1:Blk w1 gx 113 #[.slice A n c,.slice A' n c']:=hb1.mod MG (fun e=>own_ne hown1 hb1 (by decide) e.symm)
 have o21:=own_mod (own_below o2 hal) MG (fun k hk e=>dj k e.symm hk)
 have hbw1:Mod Fr w w1:=mod_self ((Mod.refl Fr w).alloc _) (MG.mono (fun i _ q=>d1 i q.symm))
 have dA1:∀ k,(Value.slice A1 (n+2) c1).ownBlock=some k→Fr k:=fun k hk=>by
  rcases hob with q | q
  ·exact d1 k (by rw [← q];exact hk)
  ·rw [hk] at q
   have:=Option.some.inj q
   simp at this
   exact hbw k (by omega)
 have MX:Mod (fun i=>i=gx) w1 (w1.setCell ⟨gx,0,none⟩ (.slice A1 (n+2) c1)):=Mod.setCell (p:=⟨gx,0,none⟩) (Mod.refl (fun i=>i=gx) w1) (fun _=>rfl) _
 have hbx2:Blk (w1.setCell ⟨gx,0,none⟩ (.slice A1 (n+2) c1)) gx 113 #[.slice A1 (n+2) c1,.slice A' n c']:=by
  have:=hbx1.set_ 0 (.slice A1 (n+2) c1)
  simpa using this
 have o12:=own_mod hnew MX (fun k hk e=>own_ne hnew hbx1 (by decide) (by rw [hk];exact congrArg some e))
 have o22:=own_mod o21 MX (fun k hk e=>own_ne o21 hbx1 (by decide) (by rw [hk];exact congrArg some e))
 have hbw2:Mod Fr w (w1.setCell ⟨gx,0,none⟩ (.slice A1 (n+2) c1)):=hbw1.setCell (p:=⟨gx,0,none⟩) (fun _=>h2) _
 have f01:=hbx1.frozen 0
 have r01:=hbx1.cell 0
 simp at r01
 generalize hw2:w1.setCell ⟨gx,0,none⟩ (.slice A1 (n+2) c1)=w2 at hbx2 o12 o22 hbw2
 have r12:=hbx2.cell 1
 simp at r12
 have hal2:Below w2.heap.size w2 (w2.alloc (.cells #[.int .i64 (n:Int),.int .i64 (n1:Int)] 3)):=(Below.refl _ _).alloc (Nat.le_refl _) _
 have hown2:=own_below o22 hal2
 have hb2:=hbx2.alloc (.cells #[.int .i64 (n:Int),.int .i64 (n1:Int)] 3)
 have rd2:=(Rd.new w2 3 #[.int .i64 (n:Int),.int .i64 (n1:Int)] 2 (I64 (ofN [n,n1])) (by rw [hI]) (by simp))
 have hs2:w.heap.size≤w2.heap.size:=hbw2.size
 obtain ⟨v2,w3,hrun2,hnew2,hgr2,hob2⟩:=run_append_rd (P:=Tryz.prog) (w2.alloc (.cells #[.int .i64 (n:Int),.int .i64 (n1:Int)] 3)) 0 26 26 3 i0 (.int .i64 0) 8 Tryz.underlying26 hi0 hz0 hz1 hz2 rfl _ n _ hown2 (w2.heap.size+1) (some ⟨w2.heap.size,0,none⟩) 2 2 (I64 (ofN [n,n1])) rd2 (I64_one _) (by simp only [maxLen];omega) (by omega) (Nat.zero_le _)
 obtain ⟨A2,c2,ev2,hc2,hm2⟩:=own_form hnew2
 subst ev2
 have MG2:=Mod.ofGrown hgr2
 have hbx3:Blk w3 gx 113 #[.slice A1 (n+2) c1,.slice A' n c']:=hb2.mod MG2 (fun e=>own_ne hown2 hb2 (by decide) e.symm)
 have dj1:∀ k,(Value.slice A1 (n+2) c1).ownBlock=some k→(Value.slice A' n c').ownBlock≠some k:=fun k hk hk2=>by
  rcases hob with q | q
  ·exact dj k (by rw [← q];exact hk) hk2
  ·rw [hk] at q
   have:=(o2.lt k hk2).2
   have:=Option.some.inj q
   simp at this
   omega
 have o13:=own_mod (own_below o12 hal2) MG2 (fun k hk e=>dj1 k hk e.symm)
 have hbw3:Mod Fr w w3:=mod_self (hbw2.alloc _) (MG2.mono (fun i _ q=>d2 i q.symm))
 have dA2:∀ k,(Value.slice A2 (n+2) c2).ownBlock=some k→Fr k:=fun k hk=>by
  rcases hob2 with q | q
  ·exact d2 k (by rw [← q];exact hk)
  ·rw [hk] at q
   have:=Option.some.inj q
   simp at this
   exact hbw k (by omega)
 have MX3:Mod (fun i=>i=gx) w3 (w3.setCell ⟨gx,1,none⟩ (.slice A2 (n+2) c2)):=Mod.setCell (p:=⟨gx,1,none⟩) (Mod.refl (fun i=>i=gx) w3) (fun _=>rfl) _
 have hbx4:Blk (w3.setCell ⟨gx,1,none⟩ (.slice A2 (n+2) c2)) gx 113 #[.slice A1 (n+2) c1,.slice A2 (n+2) c2]:=by
  have:=hbx3.set_ 1 (.slice A2 (n+2) c2)
  simpa using this
 have o14:=own_mod o13 MX3 (fun k hk e=>own_ne o13 hbx3 (by decide) (by rw [hk];exact congrArg some e))
 have o24:=own_mod hnew2 MX3 (fun k hk e=>own_ne hnew2 hbx3 (by decide) (by rw [hk];exact congrArg some e))
 have hbw4:Mod Fr w (w3.setCell ⟨gx,1,none⟩ (.slice A2 (n+2) c2)):=hbw3.setCell (p:=⟨gx,1,none⟩) (fun _=>h2) _
 have dj4:∀ k,(Value.slice A1 (n+2) c1).ownBlock=some k→(Value.slice A2 (n+2) c2).ownBlock≠some k:=fun k hk hk2=>by
  rcases hob2 with q | q
  ·exact dj1 k hk (by rw [← q];exact hk2)
  ·rw [hk2] at q
   have:=(o12.lt k hk).2
   have:=Option.some.inj q
   simp at this
   omega
 have f13:=hbx3.frozen 1
 have r13:=hbx3.cell 1
 simp at r13
 have FIN:Hid (TurnsF (w3.setCell ⟨gx,1,none⟩ (.slice A2 (n+2) c2)) Fr gx (edgL l) (edgL b)∧Mod Fr w (w3.setCell ⟨gx,1,none⟩ (.slice A2 (n+2) c2))):=by
  have hle:(edgL l).length=n+2:=by rw [edg_len,← hnl]
  refine ⟨⟨by rw [edg_len,edg_len,h1],h2,A1,c1,A2,c2,?_,?_,?_,?_,?_,?_⟩,hbw4⟩
  ·rw [hle];exact hbx4
  ·rw [hle,HL.out,ofN_append,I64_append];exact o14
  ·rw [hle,HLB.out,ofN_append,I64_append];exact o24
  ·rw [hle];exact dj4
  ·rw [hle];exact dA1
  ·rw [hle];exact dA2
 have HE:Hid (((l.length+1:Nat):Int)=(n1:Int)∧(l.length:Int)=(n:Int)):=by constructor <;> omega
 clear d1 d2 dA1 dA2 hb hb1 hal hown1 rd hnew hgr hob MG hbx1 o21 hbw1 MX hbx2 o12 o22 hbw2 hal2 hown2 hb2 rd2 hs2 hnew2 hgr2 hob2 MG2 hbx3 dj1 o13 hbw3 MX3 hbx4 o14 o24 hbw4 dj4 o1 o2 dj hI hnl hn1 h1 HL HLB
 rw [HE.out.1,HE.out.2]
 clear HE
 go_enter Tryz.func76,Tryz.ntmps76
 go_wp2_with fail
 refine NX.out.mono ?_
 rintro e wx ⟨rfl,rfl⟩
 go_upto_region 4 with (first
  | (at_builtin;go_must (refine wpList_append_runG rfl _ _ _ rfl _ _ _ _ rfl rfl hrun ?_)))
 go_wp2_with (first
  | (at_builtin;go_must (refine wpList_append_runG rfl _ _ _ rfl _ _ _ _ rfl rfl hrun2 ?_)))
 go_ret2
 exact ⟨rfl,FIN.out.1,FIN.out.2⟩
theorem mod_belowG {base:Nat} {w w':World} (h:Mod (fun k=>base≤k) w w') (hb:base≤w.heap.size):Below base w w':=h.belowB hb fun i hi q=>by omega
theorem gnext_p (base gx:Nat) (l b:List Nat) (w:World) (h:TurnsAt w base gx l b) :
  Calls Tryz.prog 82 #[.pointer (some ⟨gx,0,none⟩)] w fun e w'=>e=.returned (.int .i64 (l.length:Int))∧w=w':=gnextF_p _ gx l b w h
theorem gput_p (base gx:Nat) (l b:List Nat) (d a:Nat) (w:World) (h:TurnsAt w base gx l b) (hi:Inv l b) (hd:d < l.length) (ha:a < l.length) (hn:l.length≤1000000) (hbw:base≤w.heap.size) :
  Calls Tryz.prog 77 #[.pointer (some ⟨gx,0,none⟩),.int .i64 (d:Int),.int .i64 (a:Int)] w fun e w'=>e=.returned (.tuple #[])∧TurnsAt w' base gx (putL l d a) (putB l b d a)∧Below base w w' :=
 (gputF_p _ gx l b d a w h hi hd ha hn).mono fun e w' ⟨q1,q2,q3⟩=>⟨q1,q2,mod_belowG q3 hbw⟩
theorem gtake_p (base gx:Nat) (l b:List Nat) (d:Nat) (w:World) (h:TurnsAt w base gx l b) (hi:Inv l b) (hd:d < l.length) (hn:l.length≤1000000) (hbw:base≤w.heap.size) :
  Calls Tryz.prog 81 #[.pointer (some ⟨gx,0,none⟩),.int .i64 (d:Int)] w fun e w'=>e=.returned (.tuple #[])∧TurnsAt w' base gx (takL l b d) (takB l b d)∧Below base w w' :=
 (gtakeF_p _ gx l b d w h hi hd hn).mono fun e w' ⟨q1,q2,q3⟩=>⟨q1,q2,mod_belowG q3 hbw⟩
theorem gedge_p (base gx:Nat) (l b:List Nat) (w:World) (h:TurnsAt w base gx l b) (hn:l.length≤1000000) (hbw:base≤w.heap.size) :
  Calls Tryz.prog 76 #[.pointer (some ⟨gx,0,none⟩)] w fun e w'=>e=.returned (.tuple #[.int .i64 (l.length:Int),.int .i64 ((l.length+1:Nat):Int)])∧TurnsAt w' base gx (edgL l) (edgL b)∧Below base w w' :=
 (gedgeF_p _ gx l b w h hn (fun k hk=>Nat.le_trans hbw hk)).mono fun e w' ⟨q1,q2,q3⟩=>⟨q1,q2,mod_belowG q3 hbw⟩
def NewTurns (w:World) (l b:List Nat) (e:Ending) (w':World):Prop :=
 ∃ gx,e=.returned (.pointer (some ⟨gx,0,none⟩))∧TurnsAt w' w.heap.size gx l b∧Below w.heap.size w w'
set_option maxHeartbeats 4000000 in
theorem turnsOf_p (g:Nat) (l b:List Nat) (root lone:Int) (w:World) (h:MapAt w g l b root lone) (hi:Inv l b) :
  Calls Tryz.prog 75 #[.pointer (some ⟨g,0,none⟩)] w (NewTurns w l b):=by
 have hn:=h.2.1
 have LP:=Lib.hid (mlist_p g l b root lone w h)
 have DP:Hid (∀ W,Below w.heap.size w W→Calls Tryz.prog 39 #[.pointer (some ⟨g,0,none⟩)] W fun e w'=>e=.returned (.int .i64 (l.length:Int))∧Below W.heap.size W w'):=fun W m=>darts_p g l b root lone W (h.below m)
 obtain ⟨i0,hi0,hz0,hz1,hz2⟩:=info_parts info_int
 have hmk:=run_make_one (P:=Tryz.prog) 26 3 i0 (.int .i64 0) 8 Tryz.underlying26 hi0 hz0 hz1 hz2 rfl .i64 .i64 l.length (by omega) (by omega)
 have HI:=Lib.hid hi
 clear h hi
 go_enter Tryz.func75,Tryz.ntmps75
 go_wp2_with fail
 refine LP.out.mono ?_
 rintro e w1 ⟨A1,c1,rfl,hc1,hm1,hown1,b1⟩
 rw [ofN_len] at hc1 hown1 ⊢
 have O1:=Lib.hid hown1
 have B1:=Lib.hid b1
 clear hown1 b1 LP
 go_wp2_with fail
 refine (DP.out _ B1.out).mono ?_
 rintro e w2 ⟨rfl,b2⟩
 have O2:=own_below O1.out b2
 have B2:=B1.out.trans (b2.mono B1.out.size)
 have om:=own_made w2 3 l.length (.int .i64 0) (by simp only [maxLen];omega)
 have O2a:=O2.alloc (.cells (List.replicate l.length (.int .i64 0)).toArray 3)
 have hbm:=Blk.new (w2.alloc (.cells (List.replicate l.length (.int .i64 0)).toArray 3)) 113 #[.slice A1 l.length c1,.slice (some ⟨w2.heap.size,0,none⟩) l.length l.length]
 rw [show (w2.alloc (.cells (List.replicate l.length (.int .i64 0)).toArray 3)).heap.size=w2.heap.size+1 by simp] at hbm
 have omb:=om.alloc (.cells #[.slice A1 l.length c1,.slice (some ⟨w2.heap.size,0,none⟩) l.length l.length] 113)
 have O2b:=O2a.alloc (.cells #[.slice A1 l.length c1,.slice (some ⟨w2.heap.size,0,none⟩) l.length l.length] 113)
 have B2b:=(B2.alloc B2.size (.cells (List.replicate l.length (.int .i64 0)).toArray 3)).alloc (by have:=B2.size;simp;omega) (.cells #[.slice A1 l.length c1,.slice (some ⟨w2.heap.size,0,none⟩) l.length l.length] 113)
 have hw1:=B1.out.size
 have hw2:=B2.size
 have djA:Hid (∀ k,(Value.slice A1 l.length c1).ownBlock=some k→(Value.slice (some ⟨w2.heap.size,0,none⟩) l.length l.length).ownBlock≠some k):=fun k hk hk2=>by
  have:=(O2.lt k hk).2
  simp [Value.ownBlock] at hk2
  omega
 have OM:Hid (_∧_∧_∧_):=⟨hbm,omb,O2b,B2b⟩
 rw [show (List.replicate l.length (Value.int .i64 0)).toArray=Array.replicate l.length (Value.int .i64 0) from List.toArray_replicate _ _] at OM
 rw [show List.replicate l.length (Value.int .i64 0)=I64 (List.replicate l.length 0) by simp [I64]] at OM
 clear O1 b2 O2 B2 om O2a hbm omb O2b B2b DP B1
 go_upto_region 2 with fail
 generalize hwx:((w2.alloc (.cells (Array.replicate l.length (.int .i64 0)) 3)).alloc (.cells #[.slice A1 l.length c1,.slice (some ⟨w2.heap.size,0,none⟩) l.length l.length] 113))=wx at *
 clear hwx
 have hb:=OM.out.1
 have r0:=hb.cell 0
 have r1:=hb.cell 1
 simp at r0 r1
 clear hb
 go_wp2_with fail
 go_loopw [18] (fun i wr=>∃ (k:Nat) (y:List Int),k≤l.length∧i=.int .i64 (k:Int)∧Hid (y.length=l.length∧∀ j,j < k→y.getD (l.getD j 0) 0=(j:Int))∧Hid (wr.ownsRow w2.heap.size 3 1 (.slice (some ⟨w2.heap.size,0,none⟩) l.length l.length) l.length (I64 y))∧Hid (Mod (fun i=>i=w2.heap.size) wx wr)) (fun i _=>l.length - (intOf i).toNat)
 case atStart=>exact ⟨0,List.replicate l.length 0,by omega,rfl,⟨by simp,fun j hj=>by omega⟩,OM.out.2.1,Mod.refl _ _⟩
 case round =>
  obtain ⟨k,y,hk,rfl,HY,HO,HM⟩:=hrel
  by_cases hlt:k < l.length
  ·have hdk:decide (k < l.length)=true:=decide_eq_true hlt
   obtain ⟨gA,rfl,hgA,hgAx⟩:=own_some OM.out.2.2.1 (by omega)
   have nA:gA≠w2.heap.size:=fun e=>djA.out gA (by simp [Value.ownBlock]) (by simp [Value.ownBlock,e])
   have cx:=own_cellI OM.out.2.2.1 k hlt
   rw [ofN_get] at cx
   have cx':=(HM.out.cell hgAx nA k).trans cx
   have hbx:=OM.out.1.lt
   have nx:w2.heap.size+1≠w2.heap.size:=by omega
   have q1:=(HM.out.cell hbx nx 1).trans r1
   have hxl:=HI.out.lt k hlt
   have cB:=own_cellI HO.out (l.getD k 0) hxl
   have fB:=HO.out.frozenAt (l.getD k 0)
   have HY2:Hid ((y.set (l.getD k 0) (k:Int)).length=l.length∧∀ j,j < k+1→(y.set (l.getD k 0) (k:Int)).getD (l.getD j 0) 0=(j:Int)):=by
    refine ⟨by rw [List.length_set];exact HY.out.1,fun j hj=>?_⟩
    rw [getDI_set _ _ _ _ (by rw [HY.out.1];exact hxl)]
    by_cases c:j=k
    ·rw [c,if_pos rfl]
    ·rw [if_neg (fun q=>c (HI.out.inj j k (by omega) hlt q))]
     exact HY.out.2 j (by omega)
   have HO2:=Lib.hid (own_setI HO.out (l.getD k 0) (k:Int))
   have HM2:Hid (Mod (fun i=>i=w2.heap.size) wx (wr.setCell ⟨w2.heap.size,l.getD k 0,none⟩ (.int .i64 (k:Int)))):=HM.out.setCell (p:=⟨w2.heap.size,l.getD k 0,none⟩) (fun _=>rfl) _
   have hki:(l.getD k 0:Int) < (l.length:Int):=by omega
   clear HO HM HY cx
   generalize l.getD k 0=x at *
   go_wp2_with fail
   go_roundw
   case rel=>exact ⟨k+1,_,by omega,by go_num,HY2,HO2,HM2⟩
   case measure=>simp [intOf];omega
  ·obtain rfl:k=l.length:=by omega
   have hdk:decide (l.length < l.length)=false:=by simp
   have hyb:y=ofN b:=by
    refine getDI_ext (by rw [HY.out.1,ofN_len,HI.out.len]) fun i hi=>?_
    rw [HY.out.1] at hi
    have h1:=HI.out.lt' i hi
    have h2:=HY.out.2 (b.getD i 0) h1
    rw [HI.out.bl i hi] at h2
    rw [h2,ofN_get]
   have FIN:Hid (TurnsAt wr w.heap.size (w2.heap.size+1) l b∧Below w.heap.size w wr):=by
    have nx:w2.heap.size+1≠w2.heap.size:=by omega
    refine ⟨⟨HI.out.len,by omega,A1,c1,some ⟨w2.heap.size,0,none⟩,l.length,OM.out.1.mod HM.out nx,?_,?_,djA.out,fun k hk=>(OM.out.2.2.1.lt k hk).1,fun k hk=>by simp [Value.ownBlock] at hk;omega⟩,?_⟩
    ·exact (own_mod OM.out.2.2.1 HM.out (fun q hq c=>djA.out q hq (by simp [Value.ownBlock];omega))).base_le' (Nat.zero_le _)
    ·rw [← hyb];exact HO.out.base_le' (Nat.zero_le _)
    ·exact OM.out.2.2.2.trans (HM.out.belowB OM.out.2.2.2.size (fun i hi c=>by omega))
   clear hyb HY HO HM
   go_wp2_with fail
   go_ret
   exact ⟨_,rfl,FIN.out.1,FIN.out.2⟩
set_option maxHeartbeats 4000000 in
theorem drawn_p (base gx g:Nat) (l b l0 b0:List Nat) (root lone:Int) (w:World) (h:TurnsAt w base gx l b) (hm:MapAt w g l0 b0 root lone) (hi:Inv l b) (hev:l.length%2=0) (hn:l.length≤131072) (hr:RootOk root l.length) :
  Calls Tryz.prog 78 #[.pointer (some ⟨gx,0,none⟩),.pointer (some ⟨g,0,none⟩)] w (NewMap w l b root lone):=by
 have hl:=hm.1.2
 have RP:Hid (∀ W,(∃ n,W=w.drewN n)→Calls Tryz.prog 12 #[.pointer (some ⟨g,0,none⟩)] W fun e w'=>e=.returned (.int .i64 root)∧W=w'):=fun W hW=>by
  obtain ⟨n,rfl⟩:=hW
  exact root_p g l0 b0 root lone _ (hm.below (below_draws (Below.refl _ _) n))
 have LP:Hid (∀ W,(∃ n,W=w.drewN n)→Calls Tryz.prog 13 #[.pointer (some ⟨g,0,none⟩)] W fun e w'=>e=.returned (.int .i64 lone)∧W=w'):=fun W hW=>by
  obtain ⟨n,rfl⟩:=hW
  exact lone_p g l0 b0 root lone _ (hm.below (below_draws (Below.refl _ _) n))
 obtain ⟨h1,h2,A,c,A',c',hb,o1,o2,dj,d1,d2⟩:=h
 have NP:Hid (Calls Tryz.prog 7 #[.slice A l.length c,.int .i64 root,.int .i64 lone] w.drew (NewMap w l b root lone)):=by
  have:=new_ok A l.length c l b root lone w.drew (Rd.ofOwn (own_below o1 (Below.refl _ _).drew)) hi hev hn hr hl.1 hl.2
  refine this.mono ?_
  rintro e w' ⟨g',q1,q2,q3,q4⟩
  exact ⟨g',q1,q2,(Below.refl _ _).drew.trans q3,q4⟩
 have r0:=hb.cell 0
 simp at r0
 have W0:∃ n,w.drew=w.drewN n:=⟨1,rfl⟩
 clear o1 o2 dj hb h1 h2 hi hm d1 d2
 go_enter Tryz.func78,Tryz.ntmps78
 go_wp2_with fail
 go_region_with (first
  | (go_at_call 12;(with_reducible refine (RP.out _ W0).mono ?_);rintro e w1 ⟨rfl,rfl⟩)
  | (go_at_call 13;(with_reducible refine (LP.out _ W0).mono ?_);rintro e w1 ⟨rfl,rfl⟩)
  | (go_at_call 7;(with_reducible refine NP.out.mono ?_);rintro e w1 ⟨g',rfl,q2,q3,q4⟩;have F:=Lib.hid (And.intro q2 (And.intro q3 q4));clear q2 q3 q4))
 all_goals (
  go_wp2_with fail
  go_ret2
  exact ⟨g',rfl,F.out.1,F.out.2.1,F.out.2.2⟩)
def rdyN (n:Nat) (L:List Int):Int:=if ∀ x,x∈L→0≤x∧x < (n:Int) then 0 else 1
set_option maxHeartbeats 4000000 in
theorem gready_p (g:Nat) (l b:List Nat) (root lone:Int) (A:Option Addr) (k c:Nat) (L:List Int) (w:World) (h:MapAt w g l b root lone) (hr:Rd w w.heap.size A k (I64 L)) (hk:k≤1000000) :
  Calls Tryz.prog 74 #[.pointer (some ⟨g,0,none⟩),.slice A k c] w fun e w'=>e=.returned (.int .i64 (rdyN l.length L))∧Below w.heap.size w w':=by
 have hn:=h.2.1
 have DP:Hid (∀ W,Below w.heap.size w W→Calls Tryz.prog 39 #[.pointer (some ⟨g,0,none⟩)] W fun e w'=>e=.returned (.int .i64 (l.length:Int))∧Below W.heap.size W w'):=fun W m=>darts_p g l b root lone W (h.below m)
 have hLk:L.length=k:=by rw [← I64_len,hr.len]
 have HLK:=Lib.hid hLk
 have HR:=Lib.hid hr
 obtain ⟨RY,hRY⟩:∃ RY,RY=rdyN l.length L:=⟨_,rfl⟩
 have HRY:Hid (RY=rdyN l.length L):=hRY
 rw [← hRY]
 clear h hr hLk hRY
 go_enter Tryz.func74,Tryz.ntmps74
 go_wp2_with fail
 go_loopw [11] (fun i wr=>∃ (j:Nat),j≤k∧i=.int .i64 (j:Int)∧Hid (∀ a,a < j→0≤L.getD a 0∧L.getD a 0 < (l.length:Int))∧Hid (Below w.heap.size w wr)) (fun i _=>k - (intOf i).toNat)
 case atStart=>exact ⟨0,by omega,rfl,fun a ha=>by omega,Below.refl _ _⟩
 case round =>
  obtain ⟨j,hj,rfl,HA,HB⟩:=hrel
  by_cases hlt:j < k
  ·have hdk:decide (j < k)=true:=decide_eq_true hlt
   obtain ⟨b5,o5,rfl,hb5,hcz⟩:=(HR.out.more HB.out).i64 (by omega)
   have cx:=hcz j hlt
   have NO:Hid (¬ (0≤L.getD j 0∧L.getD j 0 < (l.length:Int))→RY=1):=fun q=>by
    rw [HRY.out]
    unfold rdyN
    refine if_neg fun H=>q (H _ ?_)
    rw [List.getD_eq_getElem?_getD,List.getElem?_eq_getElem (by rw [HLK.out];exact hlt)]
    exact List.getElem_mem _
   have NX:Hid (0≤L.getD j 0∧L.getD j 0 < (l.length:Int)→∀ a,a < j+1→0≤L.getD a 0∧L.getD a 0 < (l.length:Int)):=fun q a ha=>by
    by_cases c:a=j
    ·rw [c];exact q
    ·exact HA.out a (by omega)
   clear hcz hb5
   generalize L.getD j 0=x at *
   by_cases h0:x < 0
   ·have h0d:decide (x < 0)=true:=decide_eq_true h0
    have HE:=Lib.hid (NO.out (by omega))
    go_wp2_with fail
    go_ret
    exact ⟨by rw [HE.out];rfl,HB.out⟩
   ·have h0d:decide (x < 0)=false:=decide_eq_false h0
    by_cases h1:(l.length:Int)≤x
    ·have h1d:decide ((l.length:Int)≤x)=true:=decide_eq_true h1
     have HE:=Lib.hid (NO.out (by omega))
     go_wp2_with fail
     refine (DP.out _ HB.out).mono ?_
     rintro e w2 ⟨rfl,z⟩
     have F:=Lib.hid (HB.out.trans (z.mono HB.out.size))
     clear z
     go_wp2_with fail
     go_ret
     exact ⟨by rw [HE.out];rfl,F.out⟩
    ·have h1d:decide ((l.length:Int)≤x)=false:=decide_eq_false h1
     have HX:=Lib.hid (NX.out (by omega))
     go_wp2_with fail
     refine (DP.out _ HB.out).mono ?_
     rintro e w2 ⟨rfl,z⟩
     have F:=Lib.hid (HB.out.trans (z.mono HB.out.size))
     clear z
     go_wp2_with fail
     go_roundw
     case rel=>exact ⟨j+1,by omega,by go_num,HX,F⟩
     case measure=>simp [intOf];omega
  ·obtain rfl:j=k:=by omega
   have hdk:decide (j < j)=false:=by simp
   have HE:Hid (RY=0):=by
    show _=_
    rw [HRY.out]
    unfold rdyN
    refine if_pos fun x hx=>?_
    obtain ⟨a,ha,e⟩:=List.getElem_of_mem hx
    have:=HA.out a (by rw [← HLK.out];exact ha)
    rw [List.getD_eq_getElem?_getD,List.getElem?_eq_getElem ha] at this
    rw [← e];exact this
   go_wp2_with fail
   go_ret
   exact ⟨by rw [HE.out];rfl,HB.out⟩
end Go.Proofs.YtdinmjciippchaaGreat
