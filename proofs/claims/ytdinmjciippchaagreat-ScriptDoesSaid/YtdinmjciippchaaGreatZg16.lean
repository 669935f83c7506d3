/- A struct in a block of its own, some of whose fields are rows of its own, no two in one block. -/
import Derived.Test.YtdinmjciippchaaGreatZg1
import Derived.Test.YtdinmjciippchaaGreatZPMake
import Derived.BigQuiet
import Derived.Test.YtdinmjciippchaaGreatZPNames
import Derived.Test.YtdinmjciippchaaGreatZg15
import Derived.Test.YtdinmjciippchaaGreatZg4
open Go.RowKit
set_option linter.unusedVariables false
set_option linter.unusedSimpArgs false
namespace Go.Proofs.YtdinmjciippchaaGreat
set_option maxRecDepth 100000
theorem wpList_append_runR {P:Program} {w:World} {ops:Array Oper} {rest:List Oper} {o:Oper} {a:Act} {Q:Exit→Act→World→Prop} (hw:Region.wanted o (yielded ops a.tmps)=true) (s x:Operand) (t:TypeId)
  (ho:o.op=.call { callee:=.builtin .append,args:=#[s,x],argTypes:=#[t,t] }) (v u v':Value) (w':World) (hs:a.eval s=v) (hx:a.eval x=u)
  (hr:(Builtin.append_ #[t,t] o.type #[v,u]).run P w=.ok v' w') (h:wpList P ops Q rest (a.put o.dst v') w'):wpList P ops Q (o :: rest) a w :=
 wpList_wanted hw fun K hK=>by
  unfold Oper.wp execOp
  simp only [ho,resolve,invoke,builtin,Sem.run_bind,Sem.run_pure,Result.andThen_ok,List.map_toArray,List.map_cons,List.map_nil,hs,hx,hr]
  exact hK _ _ h
abbrev RowX:=Option (TypeId × List Value)
theorem getD_setR {α:Type} (l:List α) (i j:Nat) (x d:α) (hi:i < l.length):(l.set i x).getD j d=if j=i then x else l.getD j d:=by
 rw [List.getD_eq_getElem?_getD,List.getD_eq_getElem?_getD,List.getElem?_set]
 by_cases h:i=j
 ·subst h;simp [hi]
 ·simp [h,Ne.symm h]
section
variable {w w':World} {Fr Fr':Nat→Prop} {g:Nat} {T:TypeId} {vs:List Value} {xs:List RowX}
theorem ofN_snocR (L:List Nat) (x:Nat):I64 (ofN (L++[x]))=I64 (ofN L)++[.int .i64 (x:Int)]:=by simp [I64,ofN]
end
abbrev GEl:=Value × List Nat
abbrev gE0:GEl:=(Value.bool false,[])
def gcs (ps:List GEl):List Value:=ps.map (·.1)
theorem gcs_get (ps:List GEl) (j:Nat) (h:j < ps.length):(gcs ps)[j]?=some (ps.getD j gE0).1:=by
 unfold gcs
 rw [List.getElem?_map,List.getD_eq_getElem?_getD,List.getElem?_eq_getElem h];rfl
theorem gcs_set (ps:List GEl) (j:Nat) (v:Value) (D:List Nat):(gcs ps).set j v=gcs (ps.set j (v,D)):=by
 unfold gcs;rw [List.map_set]
theorem own_own_neG {w:World} {b b':Nat} {e e':TypeId} {s s' n n':Nat} {v v':Value} {xs xs':List Value} (h:w.ownsRow b e s v n xs) (h':w.ownsRow b' e' s' v' n' xs') (hne:e≠e') {q:Nat} (hq:v.ownBlock=some q) (hq':v'.ownBlock=some q):False:=by
 rcases h.2 with ⟨rfl,_⟩ | ⟨g,c,cur,rfl,_,hg,_⟩
 ·simp [Value.ownBlock] at hq
 ·rcases h'.2 with ⟨rfl,_⟩ | ⟨g',c',cur',rfl,_,hg',_⟩
  ·simp [Value.ownBlock] at hq'
  ·simp [Value.ownBlock] at hq hq'
   subst hq;subst hq'
   rw [hg] at hg'
   simp at hg'
   exact hne hg'.2
structure GRow (w:World) (base:Nat) (A:Option Addr) (c:Nat) (ps:List GEl):Prop where
 own:w.ownsRow base 26 1 (.slice A ps.length c) ps.length (gcs ps)
 inn:∀ j,j < ps.length→(∃ A' c',(ps.getD j gE0).1=.slice A' (ps.getD j gE0).2.length c')∧w.ownsRow base 3 1 (ps.getD j gE0).1 (ps.getD j gE0).2.length (I64 (ofN (ps.getD j gE0).2))
 dj:∀ i j,i < ps.length→j < ps.length→i≠j→∀ k,(ps.getD i gE0).1.ownBlock=some k→(ps.getD j gE0).1.ownBlock≠some k
section
variable {w w':World} {base c:Nat} {A:Option Addr} {ps:List GEl}
theorem GRow.below (h:GRow w base A c ps) (m:Below w.heap.size w w'):GRow w' base A c ps :=
 ⟨own_below h.own m,fun j hj=>⟨(h.inn j hj).1,own_below (h.inn j hj).2 m⟩,h.dj⟩
theorem GRow.one (w:World) (hb:base≤w.heap.size):GRow (w.alloc (.cells #[.slice none 0 0] 26)) base (some ⟨w.heap.size,0,none⟩) 1 [(.slice none 0 0,[])]:=by
 refine ⟨?_,fun j hj=>?_,fun i j hi hj hij=>?_⟩
 ·exact (World.ownsRow_lit (base:=w.heap.size) (e:=26) (size:=1) w #[.slice none 0 0] 1 (by omega) (by simp [maxLen]) (by simp)).base_le' hb
 ·obtain rfl:j=0:=by simp at hj;omega
  exact ⟨⟨none,0,rfl⟩,World.ownsRow_nil _ _ _ _⟩
 ·simp at hi hj;omega
theorem GRow.snocM (h:GRow w base A c ps) (hbase:base≤w.heap.size) (hn:ps.length≤1000000) :
  ∃ A1 c1 w2,(Builtin.append_ #[68,68] 68 #[.slice A ps.length c,.slice (some ⟨w.heap.size,0,none⟩) 1 1]).run Tryz.prog (w.alloc (.cells #[.slice none 0 0] 26))=.ok (.slice A1 (ps.length+1) c1) w2 ∧
   GRow w2 base A1 c1 (ps++[(.slice none 0 0,[])])∧Below base w w2∧Mod (fun q=>some q=(Value.slice A ps.length c).ownBlock) w w2:=by
 obtain ⟨i0,hi0,hz0,hz1,hz2⟩:=info_parts info_ints
 have hal:Below w.heap.size w (w.alloc (.cells #[.slice none 0 0] 26)):=(Below.refl _ _).alloc (Nat.le_refl _) _
 have h1:=h.below hal
 have rd:=Rd.new w 26 #[.slice none 0 0] 1 [.slice none 0 0] rfl rfl
 obtain ⟨v',w2,hrun,hnew,hgr,hob⟩:=run_append_rd (P:=Tryz.prog) (w.alloc (.cells #[.slice none 0 0] 26)) base 68 68 26 i0 (.slice none 0 0) 24 Tryz.underlying68 hi0 hz0 hz1 hz2 rfl _ ps.length _ h1.own (w.heap.size+1) (some ⟨w.heap.size,0,none⟩) 1 1 _ rd (by intro u hu;rw [List.mem_singleton] at hu;subst hu;rfl) (by simp only [maxLen];omega) (by omega) (by simp;omega)
 obtain ⟨A1,c1,rfl,_,_⟩:=own_form hnew
 have MG:=Mod.ofGrown hgr
 have hl:(ps++[((.slice none 0 0,[]):GEl)]).length=ps.length+1:=by simp
 have gl:∀ j,j < ps.length→(ps++[((.slice none 0 0,[]):GEl)]).getD j gE0=ps.getD j gE0:=fun j hj=>by rw [List.getD_eq_getElem?_getD,List.getElem?_append_left hj,← List.getD_eq_getElem?_getD]
 have gr:(ps++[((.slice none 0 0,[]):GEl)]).getD ps.length gE0=(.slice none 0 0,[]):=by simp [List.getD_eq_getElem?_getD]
 refine ⟨A1,c1,w2,hrun,⟨?_,fun j hj=>?_,fun i j hi hj hij k hk=>?_⟩,?_⟩
 ·rw [hl]
  have:gcs (ps++[((.slice none 0 0,[]):GEl)])=gcs ps++[.slice none 0 0]:=by simp [gcs]
  rw [this];exact hnew
 ·rw [hl] at hj
  by_cases e:j < ps.length
  ·rw [gl j e]
   exact ⟨(h.inn j e).1,own_mod (h1.inn j e).2 MG fun k hk q=>own_own_neG (h1.inn j e).2 h1.own (by decide) hk q.symm⟩
  ·obtain rfl:j=ps.length:=by omega
   rw [gr]
   exact ⟨⟨none,0,rfl⟩,World.ownsRow_nil _ _ _ _⟩
 ·rw [hl] at hi hj
  by_cases e1:i < ps.length
  ·rw [gl i e1] at hk
   by_cases e2:j < ps.length
   ·rw [gl j e2];exact h.dj i j e1 e2 hij k hk
   ·obtain rfl:j=ps.length:=by omega
    rw [gr];simp [Value.ownBlock]
  ·obtain rfl:i=ps.length:=by omega
   rw [gr] at hk
   simp [Value.ownBlock] at hk
 ·exact ⟨((Below.refl base w).alloc hbase _).trans (Below.appended h1.own hgr (by simp;omega)),(Mod.none_ hal _).trans MG fun _ _ q=>q⟩
theorem GRow.grow {g:Nat} (h:GRow w base (some ⟨g,0,none⟩) c ps) (hbase:base≤w.heap.size) {j d:Nat} (hj:j < ps.length) (hn:(ps.getD j gE0).2.length≤1000000) :
  ∃ A1 cj A2 c2 w2,(ps.getD j gE0).1=.slice A1 (ps.getD j gE0).2.length cj∧(Builtin.append_ #[26,26] 26 #[.slice A1 (ps.getD j gE0).2.length cj,.slice (some ⟨w.heap.size,0,none⟩) 1 1]).run Tryz.prog (w.alloc (.cells #[.int .i64 (d:Int)] 3))=.ok (.slice A2 ((ps.getD j gE0).2.length+1) c2) w2 ∧
   w2.cell? ⟨g,j,none⟩=some (.slice A1 (ps.getD j gE0).2.length cj)∧w2.frozen? ⟨g,j,none⟩=false ∧
   GRow (w2.setCell ⟨g,j,none⟩ (.slice A2 ((ps.getD j gE0).2.length+1) c2)) base (some ⟨g,0,none⟩) c (ps.set j (.slice A2 ((ps.getD j gE0).2.length+1) c2,(ps.getD j gE0).2++[d])) ∧
   Below base w (w2.setCell ⟨g,j,none⟩ (.slice A2 ((ps.getD j gE0).2.length+1) c2))∧Mod (fun q=>q=g∨some q=(ps.getD j gE0).1.ownBlock) w (w2.setCell ⟨g,j,none⟩ (.slice A2 ((ps.getD j gE0).2.length+1) c2)) ∧
   (∀ q,(Value.slice A2 ((ps.getD j gE0).2.length+1) c2).ownBlock=some q→(ps.getD j gE0).1.ownBlock=some q∨w.heap.size≤q):=by
 obtain ⟨i0,hi0,hz0,hz1,hz2⟩:=info_parts info_int
 obtain ⟨⟨A1,cj,e1⟩,oj⟩:=h.inn j hj
 have hal:Below w.heap.size w (w.alloc (.cells #[.int .i64 (d:Int)] 3)):=(Below.refl _ _).alloc (Nat.le_refl _) _
 have h1:=h.below hal
 have oj1:=own_below oj hal
 rw [e1] at oj1
 have rd:=Rd.new w 3 #[.int .i64 (d:Int)] 1 [.int .i64 (d:Int)] rfl rfl
 obtain ⟨v',w2,hrun,hnew,hgr,hob⟩:=run_append_rd (P:=Tryz.prog) (w.alloc (.cells #[.int .i64 (d:Int)] 3)) base 26 26 3 i0 (.int .i64 0) 8 Tryz.underlying26 hi0 hz0 hz1 hz2 rfl _ _ _ oj1 (w.heap.size+1) (some ⟨w.heap.size,0,none⟩) 1 1 _ rd (by simp [Value.oneCell']) (by simp only [maxLen];omega) (by omega) (by simp;omega)
 obtain ⟨A2,c2,rfl,_,_⟩:=own_form hnew
 have MG:=Mod.ofGrown hgr
 have ow1:=h1.own
 have ow2:=own_mod ow1 MG fun k hk q=>own_own_neG oj1 ow1 (by decide) q.symm hk
 have hgw:=(own_block h.own)
 have hcell:=ow2.cellAt j (by omega)
 rw [gcs_get ps j hj,e1] at hcell
 have hfz:=ow2.frozenAt j
 have MX:Mod (fun k=>k=g) w2 (w2.setCell ⟨g,j,none⟩ (.slice A2 ((ps.getD j gE0).2.length+1) c2)):=Mod.setCell (p:=⟨g,j,none⟩) (Mod.refl (fun k=>k=g) w2) (fun _=>rfl) _
 have new:∀ k,(Value.slice A2 ((ps.getD j gE0).2.length+1) c2).ownBlock=some k→(ps.getD j gE0).1.ownBlock=some k∨w.heap.size≤k:=fun k hk=>by
  rcases hob with q | q
  ·exact .inl (by rw [e1,← q];exact hk)
  ·rw [hk] at q
   have:=Option.some.inj q
   exact .inr (by simp at this;omega)
 have gs:∀ i,(ps.set j (.slice A2 ((ps.getD j gE0).2.length+1) c2,(ps.getD j gE0).2++[d])).getD i gE0=if i=j then (.slice A2 ((ps.getD j gE0).2.length+1) c2,(ps.getD j gE0).2++[d]) else ps.getD i gE0:=fun i=>getD_setR _ _ _ _ _ hj
 have ilt:∀ i,i < ps.length→∀ k,(ps.getD i gE0).1.ownBlock=some k→k < w.heap.size:=fun i hi k hk=>((h.inn i hi).2.lt k hk).2
 refine ⟨A1,cj,A2,c2,w2,e1,hrun,hcell,hfz,⟨?_,fun i hi=>?_,fun i k hi hk hik q hq=>?_⟩,?_⟩
 ·rw [List.length_set]
  have:=(ow2.stored j (.slice A2 ((ps.getD j gE0).2.length+1) c2)).1
  rw [gcs_set ps j _ ((ps.getD j gE0).2++[d])] at this
  exact this
 ·rw [List.length_set] at hi
  rw [gs]
  by_cases e:i=j
  ·rw [if_pos e]
   refine ⟨⟨A2,c2,by simp⟩,?_⟩
   have hl:((ps.getD j gE0).2++[d]).length=(ps.getD j gE0).2.length+1:=by simp
   show World.ownsRow _ _ _ _ _ _ _
   rw [hl,ofN_snocR]
   exact own_mod hnew MX fun k hk q=>own_own_neG hnew ow2 (by decide) hk (by rw [q];simp [Value.ownBlock])
  ·rw [if_neg e]
   have oi:=(h1.inn i hi).2
   have oi2:=own_mod oi MG fun k hk q=>h.dj i j hi hj e k hk (by rw [e1];exact q.symm)
   exact ⟨(h.inn i hi).1,own_mod oi2 MX fun k hk q=>own_own_neG oi2 ow2 (by decide) hk (by rw [q];simp [Value.ownBlock])⟩
 ·rw [List.length_set] at hi hk
  rw [gs] at hq ⊢
  by_cases e1':i=j
  ·rw [if_pos e1'] at hq
   rw [if_neg (fun c=>hik (e1'.trans c.symm))]
   rcases new q hq with n1 | n1
   ·exact h.dj j k hj hk (fun c=>hik (e1'.trans c)) q n1
   ·intro c;have:=ilt k hk q c;omega
  ·rw [if_neg e1'] at hq
   by_cases e2':k=j
   ·rw [if_pos e2']
    intro c
    rcases new q c with n1 | n1
    ·exact h.dj i j hi hj e1' q hq n1
    ·have:=ilt i hi q hq;omega
   ·rw [if_neg e2'];exact h.dj i k hi hk hik q hq
 ·refine ⟨?_,Mod.setCell (p:=⟨g,j,none⟩) ((Mod.none_ hal (fun q=>q=g∨some q=(ps.getD j gE0).1.ownBlock)).trans MG fun q _ hq=>.inr (by rw [e1];exact hq)) (fun _=>.inl rfl) _,new⟩
  have b1:Below base w (w.alloc (.cells #[.int .i64 (d:Int)] 3)):=(Below.refl _ _).alloc hbase _
  exact (b1.trans (Below.appended oj1 hgr (by simp;omega))).setCell (p:=⟨g,j,none⟩) hgw.1 _
end
structure DSt (w0 w:World) (B:Nat) (A:Option Addr) (c:Nat) (ps:List GEl) (As:Option Addr) (cs:Nat) (st:List Nat):Prop where
 g:GRow w B A c ps
 s:w.ownsRow B 3 1 (.slice As st.length cs) st.length (I64 (ofN st))
 dj:∀ j,j < ps.length→∀ k,(ps.getD j gE0).1.ownBlock=some k→(Value.slice As st.length cs).ownBlock≠some k
 bel:Below B w0 w
theorem GRow.modG {w w':World} {base c:Nat} {A:Option Addr} {ps:List GEl} {S:Nat→Prop} (h:GRow w base A c ps) (m:Mod S w w') (h1:∀ k,(Value.slice A ps.length c).ownBlock=some k→¬ S k) (h2:∀ j,j < ps.length→∀ k,(ps.getD j gE0).1.ownBlock=some k→¬ S k):GRow w' base A c ps :=
 ⟨own_mod h.own m h1,fun j hj=>⟨(h.inn j hj).1,own_mod (h.inn j hj).2 m (h2 j hj)⟩,h.dj⟩
section
variable {w0 w w':World} {B c cs:Nat} {A As:Option Addr} {ps:List GEl} {st:List Nat}
theorem DSt.below (h:DSt w0 w B A c ps As cs st) (hb:B≤w.heap.size) (m:Below w.heap.size w w'):DSt w0 w' B A c ps As cs st :=
 ⟨h.g.below m,own_below h.s m,h.dj,h.bel.trans (m.mono hb)⟩
theorem DSt.grow {g:Nat} (h:DSt w0 w B (some ⟨g,0,none⟩) c ps As cs st) (hb:B≤w.heap.size) {j d:Nat} (hj:j < ps.length) (hn:(ps.getD j gE0).2.length≤1000000) :
  ∃ A1 cj A2 c2 w2,(ps.getD j gE0).1=.slice A1 (ps.getD j gE0).2.length cj∧(Builtin.append_ #[26,26] 26 #[.slice A1 (ps.getD j gE0).2.length cj,.slice (some ⟨w.heap.size,0,none⟩) 1 1]).run Tryz.prog (w.alloc (.cells #[.int .i64 (d:Int)] 3))=.ok (.slice A2 ((ps.getD j gE0).2.length+1) c2) w2 ∧
   w2.cell? ⟨g,j,none⟩=some (.slice A1 (ps.getD j gE0).2.length cj)∧w2.frozen? ⟨g,j,none⟩=false ∧
   DSt w0 (w2.setCell ⟨g,j,none⟩ (.slice A2 ((ps.getD j gE0).2.length+1) c2)) B (some ⟨g,0,none⟩) c (ps.set j (.slice A2 ((ps.getD j gE0).2.length+1) c2,(ps.getD j gE0).2++[d])) As cs st:=by
 obtain ⟨A1,cj,A2,c2,w2,e1,hrun,hc,hf,hg,hbl,hm,hnew⟩:=h.g.grow hb (d:=d) hj hn
 refine ⟨A1,cj,A2,c2,w2,e1,hrun,hc,hf,hg,own_mod h.s hm (fun k hk q=>?_),fun i hi k hk=>?_,h.bel.trans hbl⟩
 ·rcases q with q | q
  ·exact own_own_neG h.s h.g.own (by decide) hk (by rw [q];simp [Value.ownBlock])
  ·exact h.dj j hj k q.symm hk
 ·rw [List.length_set] at hi
  rw [getD_setR _ _ _ _ _ hj] at hk
  by_cases e:i=j
  ·rw [if_pos e] at hk
   rcases hnew k hk with n1 | n1
   ·exact h.dj j hj k n1
   ·intro c;have:=(h.s.lt k c).2;omega
  ·rw [if_neg e] at hk;exact h.dj i hi k hk
theorem DSt.push (h:DSt w0 w B A c ps As cs st) (hb:B≤w.heap.size) (x:Nat) (hn:st.length≤1000000) :
  ∃ A2 c2 w2,(Builtin.append_ #[26,26] 26 #[.slice As st.length cs,.slice (some ⟨w.heap.size,0,none⟩) 1 1]).run Tryz.prog (w.alloc (.cells #[.int .i64 (x:Int)] 3))=.ok (.slice A2 (st.length+1) c2) w2 ∧
   DSt w0 w2 B A c ps A2 c2 (st++[x]):=by
 obtain ⟨i0,hi0,hz0,hz1,hz2⟩:=info_parts info_int
 have hal:Below w.heap.size w (w.alloc (.cells #[.int .i64 (x:Int)] 3)):=(Below.refl _ _).alloc (Nat.le_refl _) _
 have h1:=h.below hb hal
 have rd:=Rd.new w 3 #[.int .i64 (x:Int)] 1 [.int .i64 (x:Int)] rfl rfl
 obtain ⟨v',w2,hrun,hnew,hgr,hob⟩:=run_append_rd (P:=Tryz.prog) (w.alloc (.cells #[.int .i64 (x:Int)] 3)) B 26 26 3 i0 (.int .i64 0) 8 Tryz.underlying26 hi0 hz0 hz1 hz2 rfl _ _ _ h1.s (w.heap.size+1) (some ⟨w.heap.size,0,none⟩) 1 1 _ rd (by simp [Value.oneCell']) (by simp only [maxLen];omega) (by omega) (by simp;omega)
 obtain ⟨A2,c2,rfl,_,_⟩:=own_form hnew
 have MG:=Mod.ofGrown hgr
 have hl:(st++[x]).length=st.length+1:=by simp
 refine ⟨A2,c2,w2,hrun,h1.g.modG MG (fun k hk q=>own_own_neG h1.s h1.g.own (by decide) q.symm hk) (fun j hj k hk q=>h.dj j hj k hk q.symm),?_,fun j hj k hk=>?_,?_⟩
 ·rw [hl,ofN_snocR];exact hnew
 ·rw [hl]
  rcases hob with q | q
  ·rw [q];exact h.dj j hj k hk
  ·rw [q]
   intro c
   have:=Option.some.inj c
   have:=((h.g.inn j hj).2.lt k hk).2
   simp at *;omega
 ·exact (h.bel.alloc hb _).trans (Below.appended h1.s hgr (by simp;omega))
theorem DSt.snoc (h:DSt w0 w B A c ps As cs st) (hb:B≤w.heap.size) (hn:ps.length≤1000000) :
  ∃ A1 c1 w2,(Builtin.append_ #[68,68] 68 #[.slice A ps.length c,.slice (some ⟨w.heap.size,0,none⟩) 1 1]).run Tryz.prog (w.alloc (.cells #[.slice none 0 0] 26))=.ok (.slice A1 (ps.length+1) c1) w2 ∧
   DSt w0 w2 B A1 c1 (ps++[(.slice none 0 0,[])]) As cs st:=by
 obtain ⟨A1,c1,w2,hrun,hg,hbl,hm⟩:∃ A1 c1 w2,(Builtin.append_ #[68,68] 68 #[.slice A ps.length c,.slice (some ⟨w.heap.size,0,none⟩) 1 1]).run Tryz.prog (w.alloc (.cells #[.slice none 0 0] 26))=.ok (.slice A1 (ps.length+1) c1) w2 ∧
   GRow w2 B A1 c1 (ps++[(.slice none 0 0,[])])∧Below B w w2∧Mod (fun q=>some q=(Value.slice A ps.length c).ownBlock) w w2:=h.g.snocM hb hn
 refine ⟨A1,c1,w2,hrun,hg,own_mod h.s hm (fun k hk q=>own_own_neG h.s h.g.own (by decide) hk q.symm),fun j hj k hk=>?_,h.bel.trans hbl⟩
 rw [List.length_append] at hj
 by_cases e:j < ps.length
 ·rw [List.getD_eq_getElem?_getD,List.getElem?_append_left e,← List.getD_eq_getElem?_getD] at hk
  exact h.dj j e k hk
 ·obtain rfl:j=ps.length:=by simp at hj;omega
  simp [List.getD_eq_getElem?_getD,Value.ownBlock] at hk
theorem DSt.pop (h:DSt w0 w B A c ps As cs st) {k:Nat} (hk:st.length=k+1):DSt w0 w B A c ps As cs (st.take k):=by
 have oc:=own_cut h.s (show k≤st.length by omega) (by omega)
 have hl:(st.take k).length=k:=by rw [List.length_take];omega
 have hI:(I64 (ofN st)).take k=I64 (ofN (st.take k)):=by simp [I64,ofN,List.map_take]
 rw [hI] at oc
 refine ⟨h.g,by rw [hl];exact oc,fun j hj q hq=>?_,h.bel⟩
 have:=h.dj j hj q hq
 rw [hl]
 intro e
 refine this ?_
 cases As with
 | none=>simp [Value.ownBlock] at e
 | some a =>
   rcases h.s.2 with ⟨e1,_⟩ | ⟨g,cap,cur,e1,_⟩
   ·simp at e1
   ·simp only [Value.slice.injEq,Option.some.injEq] at e1
    obtain ⟨rfl,_,_⟩:=e1
    simpa [Value.ownBlock] using e
end
theorem nodup_leP {n:Nat} {Q:List Nat} (nd:Q.Nodup) (lt:∀ x∈Q,x < n):Q.length≤n:=by
 have:=List.Nodup.length_le_of_subset nd (l₂:=List.range n) fun x hx=>List.mem_range.2 (lt x hx)
 rwa [List.length_range] at this
structure DMt (ks:List Nat) (tw:Nat→Nat) (i:Nat) (ps:List GEl) (st:List Nat):Prop where
 fl:((ps.map (·.2)).flatten).Perm ((List.range i).map (nmF ks tw))
 stk:∀ x,x∈st→x < ps.length
 os:∃ S,OStk ks i S∧st.length=S.length+1
 pl:ps.length≤i+1
 sl:st.length≤i+1
 rl:∀ j,j < ps.length→(ps.getD j gE0).2.length≤i
section
variable {ks:List Nat} {tw:Nat→Nat} {i:Nat} {ps:List GEl} {st:List Nat}
theorem DMt.nil (ks:List Nat) (tw:Nat→Nat):DMt ks tw 0 [(.slice none 0 0,[])] [0]:=by
 refine ⟨by simp,by simp,⟨[],OStk.nil ks,rfl⟩,by simp,by simp,fun j hj=>?_⟩
 obtain rfl:j=0:=by simp at hj;omega
 exact Nat.le_refl _
theorem snd_getD (ps:List GEl) (j:Nat) (h:j < ps.length):(ps.map (·.2)).getD j []=(ps.getD j gE0).2:=by
 rw [List.getD_eq_getElem?_getD,List.getElem?_map,List.getD_eq_getElem?_getD,List.getElem?_eq_getElem h];rfl
theorem DMt.put (h:DMt ks tw i ps st) {v:Nat} (hv:v < ps.length) (x:Value) :
  (((ps.set v (x,(ps.getD v gE0).2++[nmF ks tw i])).map (·.2)).flatten).Perm ((List.range (i+1)).map (nmF ks tw)) ∧
  ∀ j,j < ps.length→((ps.set v (x,(ps.getD v gE0).2++[nmF ks tw i])).getD j gE0).2.length≤i+1:=by
 refine ⟨?_,fun j hj=>?_⟩
 ·have e:(ps.set v (x,(ps.getD v gE0).2++[nmF ks tw i])).map (·.2)=(ps.map (·.2)).set v ((ps.map (·.2)).getD v []++[nmF ks tw i]):=by
   rw [List.map_set,snd_getD ps v hv]
  rw [e,List.range_succ,List.map_append]
  exact (flat_set _ v _ (by simpa using hv)).trans (h.fl.append_right _)
 ·rw [getD_setR _ _ _ _ _ hv]
  by_cases e:j=v
  ·rw [if_pos e]
   have:=h.rl v hv
   show ((ps.getD v gE0).2++[nmF ks tw i]).length≤_
   rw [List.length_append]
   have h1:[nmF ks tw i].length=1:=rfl
   omega
  ·rw [if_neg e];have:=h.rl j hj;omega
theorem DMt.opn (h:DMt ks tw i ps st) (hi:i < ks.length) (hk:ks.getD i 0=0) {v:Nat} (hv:v < ps.length) (x:Value) :
  DMt ks tw (i+1) (ps.set v (x,(ps.getD v gE0).2++[nmF ks tw i])++[(.slice none 0 0,[])]) (st++[ps.length]):=by
 obtain ⟨h1,h2⟩:=h.put hv x
 have hl:(ps.set v (x,(ps.getD v gE0).2++[nmF ks tw i])).length=ps.length:=by simp
 refine ⟨?_,fun y hy=>?_,?_,?_,by rw [List.length_append];have:=h.sl;simp;omega,fun j hj=>?_⟩
 ·rw [List.map_append]
  show ((_++[[]]).flatten).Perm _
  rw [flat_snoc];exact h1
 ·rw [List.length_append,hl]
  rcases List.mem_append.1 hy with q | q
  ·have:=h.stk y q;simp;omega
  ·simp at q;simp;omega
 ·obtain ⟨S,hS,hSl⟩:=h.os
  exact ⟨_,hS.push hi hk,by simp [hSl]⟩
 ·rw [List.length_append,hl];have:=h.pl;simp;omega
 ·rw [List.length_append,hl] at hj
  by_cases e:j < ps.length
  ·rw [List.getD_eq_getElem?_getD,List.getElem?_append_left (by rw [hl];exact e),← List.getD_eq_getElem?_getD];exact h2 j e
  ·obtain rfl:j=ps.length:=by simp at hj;omega
   rw [List.getD_eq_getElem?_getD,List.getElem?_append_right (by rw [hl];exact Nat.le_refl _),hl];simp
theorem DMt.shut (h:DMt ks tw i ps st) (hB:Bal (exc (val (ownL 0 ks))) (ownL 0 ks).length) (hi:i < ks.length) (hk:ks.getD i 0=1) {v:Nat} (hv:v < ps.length) (x:Value) {k:Nat} (hst:st.length=k+1) :
  DMt ks tw (i+1) (ps.set v (x,(ps.getD v gE0).2++[nmF ks tw i])) (st.take k):=by
 obtain ⟨h1,h2⟩:=h.put hv x
 obtain ⟨S,hS,hSl⟩:=h.os
 obtain ⟨q1,q2⟩:=hS.pop hB hi hk
 exact ⟨h1,fun y hy=>by rw [List.length_set];exact h.stk y (List.mem_of_mem_take hy),⟨_,q2,by simp;omega⟩,by rw [List.length_set];have:=h.pl;omega,by have:=h.sl;first | omega | (rw [List.length_take];omega),fun j hj=>h2 j (by simpa using hj)⟩
theorem DMt.skip (h:DMt ks tw i ps st) (hi:i < ks.length) (hk:ks.getD i 0 / 2≠0) {v:Nat} (hv:v < ps.length) (x:Value) :
  DMt ks tw (i+1) (ps.set v (x,(ps.getD v gE0).2++[nmF ks tw i])) st:=by
 obtain ⟨h1,h2⟩:=h.put hv x
 obtain ⟨S,hS,hSl⟩:=h.os
 exact ⟨h1,fun y hy=>by rw [List.length_set];exact h.stk y hy,⟨_,hS.skip hi hk,hSl⟩,by rw [List.length_set];have:=h.pl;omega,by have:=h.sl;first | omega | (rw [List.length_take];omega),fun j hj=>h2 j (by simpa using hj)⟩
theorem DMt.done (h:DMt ks tw ks.length ps st) (P:Prg ks tw):((ps.map (·.2)).flatten).Nodup∧∀ x,x∈(ps.map (·.2)).flatten↔x < ks.length:=by
 have nd:((List.range ks.length).map (nmF ks tw)).Nodup:=by
  rw [List.nodup_iff_pairwise_ne]
  rw [List.pairwise_map]
  refine List.Pairwise.imp_of_mem ?_ List.nodup_range
  intro a b ha hb hab e
  exact hab (nm_inj P (List.mem_range.1 ha) (List.mem_range.1 hb) e)
 refine ⟨h.fl.nodup_iff.2 nd,fun x=>?_⟩
 rw [h.fl.mem_iff]
 constructor
 ·intro hx
  obtain ⟨j,hj,rfl⟩:=List.mem_map.1 hx
  exact nm_lt P (List.mem_range.1 hj)
 ·intro hx
  have hsub:=nd
  by_cases q:x∈(List.range ks.length).map (nmF ks tw)
  ·exact q
  ·exfalso
   have h1:(x :: (List.range ks.length).map (nmF ks tw)).Nodup:=List.nodup_cons.2 ⟨q,nd⟩
   have h2:=nodup_leP (n:=ks.length) h1 fun y hy=>by
    rcases List.mem_cons.1 hy with e | e
    ·rw [e];exact hx
    ·obtain ⟨j,hj,rfl⟩:=List.mem_map.1 e
     exact nm_lt P (List.mem_range.1 hj)
   simp at h2
   omega
end
def Told (os:List (List Nat)) (y:List Int) (r j:Nat):Prop :=
 (∀ r' i',r' < r→r' < os.length→i' < (os.getD r' []).length→y.getD ((os.getD r' []).getD i' 0) 0=((zR os ((os.getD r' []).getD i' 0):Nat):Int)) ∧
 ∀ i',i' < j→i' < (os.getD r []).length→y.getD ((os.getD r []).getD i' 0) 0=((zR os ((os.getD r []).getD i' 0):Nat):Int)
theorem told_put {os:List (List Nat)} {y:List Int} {r j x z:Nat} (h:Told os y r j) (hx:(os.getD r []).getD j 0=x) (hxy:x < y.length) (hz:zR os x=z):Told os (y.set x (z:Int)) r (j+1):=by
 have gs:∀ (b:Nat),(y.set x (z:Int)).getD b 0=if b=x then (z:Int) else y.getD b 0:=fun b=>by
  rw [List.getD_eq_getElem?_getD,List.getElem?_set]
  by_cases e:x=b
  ·subst e;simp [hxy]
  ·rw [if_neg e,if_neg (Ne.symm e),← List.getD_eq_getElem?_getD]
 refine ⟨fun r' i' h1 h2 h3=>?_,fun i' h1 h2=>?_⟩
 ·rw [gs]
  by_cases e:(os.getD r' []).getD i' 0=x
  ·rw [if_pos e,e,hz]
  ·rw [if_neg e];exact h.1 r' i' h1 h2 h3
 ·rw [gs]
  by_cases e:(os.getD r []).getD i' 0=x
  ·rw [if_pos e,e,hz]
  ·rw [if_neg e]
   by_cases c:i'=j
   ·subst c;exact absurd hx e
   ·exact h.2 i' (by omega) h2
theorem told_row {os:List (List Nat)} {y:List Int} {r:Nat} (h:Told os y r (os.getD r []).length):Told os y (r+1) 0 :=
 ⟨fun r' i' h1 h2 h3=>by
  by_cases e:r'=r
  ·subst e;exact h.2 i' h3 h3
  ·exact h.1 r' i' (by omega) h2 h3,fun i' h1=>absurd h1 (by omega)⟩
theorem told_all {os:List (List Nat)} {y:List Int} {n:Nat} (h:Told os y os.length 0) (hy:y.length=n) (hm:∀ x,x∈os.flatten↔x < n):y=ofN (zL os n):=by
 apply List.ext_getElem
 ·rw [ofN_len,zL_len,hy]
 ·intro i h1 h2
  have hi:i < n:=by omega
  have e1:y[i]=y.getD i 0:=by rw [List.getD_eq_getElem?_getD,List.getElem?_eq_getElem h1];rfl
  have e2:(ofN (zL os n))[i]=(((zL os n).getD i 0:Nat):Int):=by rw [← ofN_get,List.getD_eq_getElem?_getD,List.getElem?_eq_getElem h2];rfl
  rw [e1,e2,zL_get os hi]
  obtain ⟨r,k,hr,hk,e⟩:=mem_rows ((hm i).2 hi)
  rw [← e]
  exact h.1 r k hr hr hk
def sumR (os:List (List Nat)):Nat→Nat
 | 0=>0
 | r+1=>sumR os r+(os.getD r []).length
theorem sumR_take (os:List (List Nat)):∀ r,r≤os.length→sumR os r=(os.take r).flatten.length
 | 0,_=>by simp [sumR]
 | r+1,h=>by
   have e:os.take (r+1)=os.take r++[os.getD r []]:=by
    rw [List.take_add_one,List.getD_eq_getElem?_getD,List.getElem?_eq_getElem (by omega)];rfl
   rw [e,List.flatten_append,List.length_append,← sumR_take os r (by omega)]
   simp [sumR]
theorem sumR_all (os:List (List Nat)):sumR os os.length=os.flatten.length:=by rw [sumR_take os _ (Nat.le_refl _),List.take_length]
theorem sumR_mono (os:List (List Nat)):∀ r k,sumR os r≤sumR os (r+k)
 | r,0=>Nat.le_refl _
 | r,k+1=>by have:=sumR_mono os r k;show _≤sumR os (r+k)+_;omega
def RdRows (w:World) (g:Nat) (os:List (List Nat)):Prop :=
 g < w.heap.size∧∀ r,r < os.length→∃ A c,w.cell? ⟨g,r,none⟩=some (.slice A (os.getD r []).length c)∧Rd w w.heap.size A (os.getD r []).length (I64 (ofN (os.getD r [])))
set_option maxHeartbeats 16000000 in
theorem rmade23_p (g p c i:Nat) (os:List (List Nat)) (root lone:Int) (w:World) (hR:RdRows w g os) (hp:os.length=p) (hi:i≤20000) (hpb:p≤40000) (hnd:os.flatten.Nodup) (hmem:∀ x,x∈os.flatten↔x < i) (hlen:os.flatten.length=i) :
  Calls Tryz.prog 66 #[.slice (some ⟨g,0,none⟩) p c,.int .i64 root,.int .i64 lone] w (NewRO w (zL os i) root lone):=by
 obtain ⟨i0,hi0,hz0,hz1,hz2⟩:=info_parts info_int
 have hal:=(Below.refl w.heap.size w).alloc (Nat.le_refl _) (.cells #[.slice none 0 0,.int .i64 0,.int .i64 0] 28)
 have HX0:=Lib.hid (Blk.new w 28 #[.slice none 0 0,.int .i64 0,.int .i64 0])
 have HZ0:=Lib.hid hal
 have HINF:=Lib.hid info_rmap
 have key:∀ r,r < p→sumR os r+(os.getD r []).length≤i:=fun r hr=>by
  have h1:=sumR_mono os (r+1) (os.length - (r+1))
  rw [show r+1+(os.length - (r+1))=os.length by omega,sumR_all,hlen] at h1
  exact h1
 have HLEN:Hid (os.length=p∧∀ r,r < p→(os.getD r []).length≤i):=⟨hp,fun r hr=>by have:=key r hr;omega⟩
 have HSM:Hid (sumR os p=i∧∀ r,r < p→sumR os r+(os.getD r []).length≤i):=⟨by rw [← hp,sumR_all,hlen],key⟩
 have HRW0:Hid (∀ r,r < p→∃ A c,(∀ W,Below w.heap.size w W→W.cell? ⟨g,r,none⟩=some (.slice A (os.getD r []).length c))∧Rd w w.heap.size A (os.getD r []).length (I64 (ofN (os.getD r [])))∧∀ j,j < (os.getD r []).length→(os.getD r []).getD j 0 < i):=fun r hr=>by
  obtain ⟨A,c,h1,h2⟩:=hR.2 r (by omega)
  exact ⟨A,c,fun W m=>(m.cell (p:=⟨g,r,none⟩) hR.1).trans h1,h2,fun j hj=>(hmem _).1 (rows_mem (by omega) hj)⟩
 have HND:=Lib.hid (And.intro hnd hmem)
 clear hR hnd hmem hlen hal hp key
 go_enter Tryz.func66,Tryz.ntmps66
 go_upto_region 1 with fail
 generalize w.alloc (.cells #[.slice none 0 0,.int .i64 0,.int .i64 0] 28)=w1 at *
 go_wp2_with fail
 go_loopw [7,9,18] (fun s _ idx wz=>∃ (r:Nat),r≤p∧idx=.int .i64 (r:Int)∧s=.int .i64 ((sumR os r:Nat):Int)∧wz=w1) (fun _ _ x _=>p - (intOf x).toNat)
 case atStart=>exact ⟨0,by omega,by first | rfl | trivial,by first | rfl | trivial,by first | rfl | trivial⟩
 case round =>
  obtain ⟨r,hr,rfl,rfl,rfl⟩:=hrel
  by_cases hrp:r < p
  ·have hrd':decide (r < p)=true:=decide_eq_true hrp
   have hrI:(r:Int) < (p:Int):=by omega
   obtain ⟨A1,c1,hcell,-,-⟩:=HRW0.out r hrp
   have cO:=hcell _ HZ0.out
   obtain ⟨m,hm⟩:∃ m,m=(os.getD r []).length:=⟨_,rfl⟩
   obtain ⟨s,hs⟩:∃ s,s=sumR os r:=⟨_,rfl⟩
   obtain ⟨s2,hs2⟩:∃ s2,s2=s+m:=⟨_,rfl⟩
   have hs2b:s2≤i:=by rw [hs2,hs,hm];exact HSM.out.2 r hrp
   have ts:(s:Int)+(m:Int)=(s2:Int):=by omega
   have ws:IntKind.i64.wrap (s2:Int)=(s2:Int):=by simp [IntKind.wrap,IntKind.signed,IntKind.bits];omega
   have wr1:IntKind.i64.wrap ((r:Int)+1)=(r:Int)+1:=by simp [IntKind.wrap,IntKind.signed,IntKind.bits];omega
   have HS2:Hid (s2=sumR os (r+1)):=by show _=_;rw [hs2,hs,hm];rfl
   rw [← hm] at cO
   rw [← hs]
   clear hcell hm hs hs2
   go_wp2_with fail
   go_roundw
   case rel=>exact ⟨r+1,by omega,by go_num,by rw [HS2.out],by first | rfl | trivial⟩
   case measure=>simp [intOf];omega
  ·obtain rfl:p=r:=by omega
   have hrd':decide (p < p)=false:=by simp
   rw [HSM.out.1]
   obtain ⟨w1,rfl⟩:∃ w1:World,w1=wr:=⟨_,rfl⟩
   have hmk:=run_make_one (P:=Tryz.prog) 26 3 i0 (.int .i64 0) 8 Tryz.underlying26 hi0 hz0 hz1 hz2 rfl .i64 .i64 i (by omega) (by omega) w1
   have hrep:(List.replicate i (Value.int .i64 0)).toArray=Array.replicate i (.int .i64 0):=by simp
   rw [hrep] at hmk
   have hal1:=(Below.refl w1.heap.size w1).alloc (Nat.le_refl _) (.cells (Array.replicate i (Value.int .i64 0)) 3)
   have hO:(w1.alloc (.cells (Array.replicate i (Value.int .i64 0)) 3)).ownsRow w1.heap.size 3 1 (.slice (some ⟨w1.heap.size,0,none⟩) i i) i (I64 (List.replicate i 0)):=by
    have:=World.ownsRow_lit (base:=w1.heap.size) (e:=3) (size:=1) w1 (Array.replicate i (Value.int .i64 0)) i (Nat.le_refl _) (by simp [maxLen];omega) (by simp)
    rw [show I64 (List.replicate i 0)=List.replicate i (.int .i64 0) by simp [I64]]
    simpa using this
   have hX:Blk ((w1.alloc (.cells (Array.replicate i (Value.int .i64 0)) 3)).alloc (.cells #[.slice (some ⟨w1.heap.size,0,none⟩) i i,.int .i64 root,.int .i64 lone] 28)) (w1.heap.size+1) 28 #[.slice (some ⟨w1.heap.size,0,none⟩) i i,.int .i64 root,.int .i64 lone]:=by
    have:=Blk.new (w1.alloc (.cells (Array.replicate i (Value.int .i64 0)) 3)) 28 #[.slice (some ⟨w1.heap.size,0,none⟩) i i,.int .i64 root,.int .i64 lone]
    rwa [show (w1.alloc (.cells (Array.replicate i (Value.int .i64 0)) 3)).heap.size=w1.heap.size+1 by simp] at this
   have hal2:Below w1.heap.size w1 ((w1.alloc (.cells (Array.replicate i (Value.int .i64 0)) 3)).alloc (.cells #[.slice (some ⟨w1.heap.size,0,none⟩) i i,.int .i64 root,.int .i64 lone] 28)):=hal1.alloc (by simp) _
   have hO2:=own_below hO ((Below.refl _ _).alloc (Nat.le_refl _) (.cells #[.slice (some ⟨w1.heap.size,0,none⟩) i i,.int .i64 root,.int .i64 lone] 28))
   obtain ⟨w5,hw5⟩:∃ w5,w5=(w1.alloc (.cells (Array.replicate i (Value.int .i64 0)) 3)).alloc (.cells #[.slice (some ⟨w1.heap.size,0,none⟩) i i,.int .i64 root,.int .i64 lone] 28):=⟨_,rfl⟩
   rw [← hw5] at hX hal2 hO2
   obtain ⟨gy,hgy⟩:∃ gy,gy=w1.heap.size:=⟨_,rfl⟩
   have hgw:w.heap.size < gy:=by rw [hgy];exact HX0.out.lt
   have HRW:Hid (∀ q,q < p→∃ A c,(∀ W,Below gy w5 W→W.cell? ⟨g,q,none⟩=some (.slice A (os.getD q []).length c))∧Rd w5 gy A (os.getD q []).length (I64 (ofN (os.getD q [])))∧∀ j,j < (os.getD q []).length→(os.getD q []).getD j 0 < i):=fun q hq=>by
    obtain ⟨A,c,q1,q2,q3⟩:=HRW0.out q hq
    have z:=HZ0.out.trans (hal2.mono HZ0.out.size)
    exact ⟨A,c,fun W m=>q1 W (z.trans (m.mono (by omega))),(q2.below z).up (by omega),q3⟩
   have hw5s:gy+1 < w5.heap.size:=by rw [hgy];exact hX.lt
   have HZ5:Hid (Below w.heap.size w w5):=HZ0.out.trans (hal2.mono HZ0.out.size)
   have HX5:Hid (Blk w5 w.heap.size 28 #[.slice none 0 0,.int .i64 0,.int .i64 0]):=HX0.out.below hal2
   have HBX:=Lib.hid hX
   have HOY:=Lib.hid hO2
   rw [← hgy] at HBX HOY
   have HG5:=Lib.hid (And.intro hw5 hgy)
   clear hX hO2 hal1 hal2 hO hrep HRW0 HSM HX0 HZ0 hw5 hgy
   go_upto_region 8 with fail
   rw [← HG5.out.1,← HG5.out.2]
   clear hmk
   go_wp2_with fail
   go_loopw [12,13,14,15,34] (fun _ _ _ _ idx wz=>∃ (r:Nat) (y:List Int),r≤p∧idx=.int .i64 (r:Int)∧Hid (y.length=i∧Told os y r 0)∧Hid (wz.ownsRow gy 3 1 (.slice (some ⟨gy,0,none⟩) i i) i (I64 y))∧Hid (Below gy w5 wz) ∧
    Hid (Blk wz (gy+1) 28 #[.slice (some ⟨gy,0,none⟩) i i,.int .i64 root,.int .i64 lone])) (fun _ _ _ _ x _=>p - (intOf x).toNat)
   case atStart=>exact ⟨0,List.replicate i 0,by omega,rfl,⟨by simp,fun _ _ h=>absurd h (by omega),fun _ h=>absurd h (by omega)⟩,HOY.out,Below.refl _ _,HBX.out⟩
   case round =>
    clear HOY HBX
    obtain ⟨wz,rfl⟩:∃ wz:World,wz=wr:=⟨_,rfl⟩
    obtain ⟨r,y,hr,rfl,HY,HOW,HBW,HBX⟩:=hrel
    by_cases hrp:r < p
    ·have hrd':decide (r < p)=true:=decide_eq_true hrp
     have hrI:(r:Int) < (p:Int):=by omega
     obtain ⟨A1,c1,hcell,hrd,hlt1⟩:=HRW.out r hrp
     obtain ⟨row,hrow⟩:∃ row,row=os.getD r []:=⟨_,rfl⟩
     rw [← hrow] at hcell hrd hlt1
     obtain ⟨m,hm⟩:∃ m,m=row.length:=⟨_,rfl⟩
     rw [← hm] at hcell hrd hlt1
     have hmi:m≤i:=by rw [hm,hrow];exact HLEN.out.2 r hrp
     have cO:=hcell wz HBW.out
     have HRD:=Lib.hid hrd
     have HLT:=Lib.hid hlt1
     have HRO:=Lib.hid (And.intro hrow hm)
     clear hcell hrd hlt1 hrow hm
     go_wp2_with fail
     go_loopw [13,14,15,40] (fun _ _ _ jx wq=>∃ (j:Nat) (y:List Int),j≤m∧jx=.int .i64 (j:Int)∧Hid (y.length=i∧Told os y r j)∧Hid (wq.ownsRow gy 3 1 (.slice (some ⟨gy,0,none⟩) i i) i (I64 y))∧Hid (Below gy w5 wq) ∧
      Hid (Blk wq (gy+1) 28 #[.slice (some ⟨gy,0,none⟩) i i,.int .i64 root,.int .i64 lone])) (fun _ _ _ x _=>m - (intOf x).toNat)
     case atStart=>exact ⟨0,y,by omega,rfl,HY.out,HOW.out,HBW.out,HBX.out⟩
     case round =>
      clear HY HOW HBW HBX cO y
      obtain ⟨wq,rfl⟩:∃ wq:World,wq=wr:=⟨_,rfl⟩
      obtain ⟨j,y,hj,rfl,HY,HOW,HBW,HBX⟩:=hrel
      by_cases hjm:j < m
      ·have hjd:decide (j < m)=true:=decide_eq_true hjm
       have hjI:(j:Int) < (m:Int):=by omega
       obtain ⟨b,o,rfl,hb,hc⟩:=HRD.out.i64 (by omega)
       obtain ⟨hrow,hm⟩:=HRO.out
       obtain ⟨x,hx⟩:∃ x,x=row.getD j 0:=⟨_,rfl⟩
       obtain ⟨x0,hx0⟩:∃ x0,x0=row.getD 0 0:=⟨_,rfl⟩
       obtain ⟨jn,hjn⟩:∃ jn,jn=j+1:=⟨_,rfl⟩
       have hxi:x < i:=by rw [hx];exact HLT.out j hjm
       have cX:wq.cell? ⟨b,o+j,none⟩=some (.int .i64 (x:Int)):=by
        rw [hx,← ofN_get];exact (HBW.out.cell (p:=⟨b,o+j,none⟩) hb).trans (hc j hjm)
       have c0:wq.cell? ⟨b,o,none⟩=some (.int .i64 (x0:Int)):=by
        rw [hx0,← ofN_get];exact (HBW.out.cell (p:=⟨b,o,none⟩) hb).trans (hc 0 (by omega))
       have cY:=own_cellI HOW.out x hxi
       have fY:=HOW.out.frozenAt x
       have bx0:=HBX.out.cell 0
       simp at bx0
       have hxI:(x:Int) < (i:Int):=by omega
       have tj:(j:Int)+1=(jn:Int):=by omega
       have wj:IntKind.i64.wrap (jn:Int)=(jn:Int):=by simp [IntKind.wrap,IntKind.signed,IntKind.bits];omega
       have m0:(0:Int) < (m:Int):=by omega
       have MS:=fun u:Value=>Mod.setCell (p:=⟨gy,x,none⟩) (Mod.refl (fun k=>k=gy) wq) (fun _=>rfl) u
       have zr:zR os x=nxR row j:=by
        have:=zR_at HND.out.1 (r:=r) (i:=j) (by rw [HLEN.out.1];exact hrp) (by rw [← hrow,← hm];exact hjm)
        rw [← hrow,← hx] at this;exact this
       have FIN:Hid (∀ z:Nat,zR os x=z→Hid ((y.set x (z:Int)).length=i∧Told os (y.set x (z:Int)) r (j+1))∧Hid ((wq.setCell ⟨gy,x,none⟩ (.int .i64 (z:Int))).ownsRow gy 3 1 (.slice (some ⟨gy,0,none⟩) i i) i (I64 (y.set x (z:Int))))∧Hid (Below gy w5 (wq.setCell ⟨gy,x,none⟩ (.int .i64 (z:Int)))) ∧
         Hid (Blk (wq.setCell ⟨gy,x,none⟩ (.int .i64 (z:Int))) (gy+1) 28 #[.slice (some ⟨gy,0,none⟩) i i,.int .i64 root,.int .i64 lone])):=fun z hz =>
        ⟨⟨by rw [List.length_set];exact HY.out.1,told_put HY.out.2 (by rw [← hrow,hx]) (by rw [HY.out.1];exact hxi) hz⟩,own_setI HOW.out x (z:Int),HBW.out.setCell (p:=⟨gy,x,none⟩) (Nat.le_refl _) _,HBX.out.mod (MS _) (by omega)⟩
       by_cases hjl:jn < m
       ·have hjld:decide (jn < m)=true:=decide_eq_true hjl
        have hjlI:(jn:Int) < (m:Int):=by omega
        obtain ⟨x1,hx1⟩:∃ x1,x1=row.getD jn 0:=⟨_,rfl⟩
        have cN:wq.cell? ⟨b,o+jn,none⟩=some (.int .i64 (x1:Int)):=by
         rw [hx1,← ofN_get];exact (HBW.out.cell (p:=⟨b,o+jn,none⟩) hb).trans (hc jn hjl)
        obtain ⟨F1,F2,F3,F4⟩:=FIN.out x1 (by rw [zr];unfold nxR;rw [if_pos (by omega),hx1,hjn])
        clear MS zr FIN hc hx hx0 hx1 HY HOW HBW HBX hrow hm
        clear hjn
        go_wp2_with fail
        go_roundw
        case rel=>exact ⟨j+1,_,by omega,by go_num,F1,F2,F3,F4⟩
        case measure=>simp [intOf];omega
       ·have hjld:decide (jn < m)=false:=decide_eq_false hjl
        have hjlI:¬ (jn:Int) < (m:Int):=by omega
        obtain ⟨F1,F2,F3,F4⟩:=FIN.out x0 (by rw [zr];unfold nxR;rw [if_neg (by omega),hx0])
        clear MS zr FIN hc hx hx0 HY HOW HBW HBX hrow hm
        clear hjn
        go_wp2_with fail
        go_roundw
        case rel=>exact ⟨j+1,_,by omega,by go_num,F1,F2,F3,F4⟩
        case measure=>simp [intOf];omega
      ·obtain rfl:j=m:=by omega
       have hjd:decide (j < j)=false:=by simp
       have HT:Hid (y.length=i∧Told os y (r+1) 0):=⟨HY.out.1,told_row (by rw [← HRO.out.1,← HRO.out.2];exact HY.out.2)⟩
       have wr1:IntKind.i64.wrap ((r:Int)+1)=(r:Int)+1:=by simp [IntKind.wrap,IntKind.signed,IntKind.bits];omega
       go_wp2_with fail
       go_roundw
       case rel=>exact ⟨r+1,y,by omega,by go_num,HT,HOW,HBW,HBX⟩
       case measure=>simp [intOf];omega
    ·obtain rfl:r=p:=by omega
     have hrd':decide (r < r)=false:=by simp
     have hy:=told_all (n:=i) (by rw [HLEN.out.1];exact HY.out.2) HY.out.1 HND.out.2
     have HF:Hid (wz.ownsRow gy 3 1 (.slice (some ⟨gy,0,none⟩) i i) i (I64 (ofN (zL os i)))):=by
      show World.ownsRow _ _ _ _ _ _ _
      rw [← hy];exact HOW.out
     have HZ6:Hid (Below w.heap.size w wz):=HZ5.out.trans (HBW.out.mono (by omega))
     have HR6:Hid (Blk wz w.heap.size 28 #[.slice none 0 0,.int .i64 0,.int .i64 0]):=(HBW.out.block w.heap.size (by omega)).trans HX5.out
     have x0:=HBX.out.cell 0
     have x1:=HBX.out.cell 1
     have x2:=HBX.out.cell 2
     have q0:=HR6.out.cell 0
     have q1:=HR6.out.cell 1
     have q2:=HR6.out.cell 2
     have f0:=HR6.out.frozen 0
     have f1:=HR6.out.frozen 1
     have f2:=HR6.out.frozen 2
     simp at x0 x1 x2 q0 q1 q2
     clear hy HY HOW HBW
     go_wp2_with fail
     obtain ⟨k1,k2,k3⟩:=box_ret (w:=w) (g:=w.heap.size) (RT:=root) (LF:=lone) (Nat.le_refl _) HZ6.out HR6.out HF.out
     refine bodyPost_ret (v:=.agg #[.slice (some ⟨gy,0,none⟩) i i,.int .i64 root,.int .i64 lone]) ?_ rfl ?_
     ·exact results_cell_row rfl _ _ w.heap.size 28 _ (0,0) _ rfl k1 Tryz.underlying28 rfl HINF.out
     ·have hzl:=zL_len os i
      refine ⟨some ⟨gy,0,none⟩,i,?_,?_,?_,?_,k3⟩
      ·rw [hzl]
      ·rw [hzl];exact Nat.le_refl _
      ·simp [maxLen];omega
      ·rw [hzl];exact k2.base_le' (by omega)
section
variable {w w':World} {base c:Nat} {A:Option Addr} {ps:List GEl}
theorem GRow.nil (w:World) (base:Nat):GRow w base none 0 [] :=
 ⟨World.ownsRow_nil _ _ _ _,fun j hj=>by simp at hj,fun i j hi=>by simp at hi⟩
theorem GRow.snocW (h:GRow w base A c ps) (hbase:base≤w.heap.size) (hn:ps.length≤1000000) {Av:Option Addr} {cv:Nat} {v:List Nat} (hv:w.ownsRow base 3 1 (.slice Av v.length cv) v.length (I64 (ofN v)))
  (hd:∀ j,j < ps.length→∀ k,(ps.getD j gE0).1.ownBlock=some k→(Value.slice Av v.length cv).ownBlock≠some k) :
  ∃ A1 c1 w2,(Builtin.append_ #[68,68] 68 #[.slice A ps.length c,.slice (some ⟨w.heap.size,0,none⟩) 1 1]).run Tryz.prog (w.alloc (.cells #[.slice Av v.length cv] 26))=.ok (.slice A1 (ps.length+1) c1) w2 ∧
   GRow w2 base A1 c1 (ps++[(.slice Av v.length cv,v)])∧Below base w w2∧Mod (fun q=>some q=(Value.slice A ps.length c).ownBlock) w w2:=by
 obtain ⟨i0,hi0,hz0,hz1,hz2⟩:=info_parts info_ints
 have hal:Below w.heap.size w (w.alloc (.cells #[.slice Av v.length cv] 26)):=(Below.refl _ _).alloc (Nat.le_refl _) _
 have h1:=h.below hal
 have rd:=Rd.new w 26 #[.slice Av v.length cv] 1 [.slice Av v.length cv] rfl rfl
 obtain ⟨v',w2,hrun,hnew,hgr,hob⟩:=run_append_rd (P:=Tryz.prog) (w.alloc (.cells #[.slice Av v.length cv] 26)) base 68 68 26 i0 (.slice none 0 0) 24 Tryz.underlying68 hi0 hz0 hz1 hz2 rfl _ ps.length _ h1.own (w.heap.size+1) (some ⟨w.heap.size,0,none⟩) 1 1 _ rd (by intro u hu;rw [List.mem_singleton] at hu;subst hu;rfl) (by simp only [maxLen];omega) (by omega) (by simp;omega)
 obtain ⟨A1,c1,rfl,_,_⟩:=own_form hnew
 have MG:=Mod.ofGrown hgr
 have hl:(ps++[((.slice Av v.length cv,v):GEl)]).length=ps.length+1:=by simp
 have gl:∀ j,j < ps.length→(ps++[((.slice Av v.length cv,v):GEl)]).getD j gE0=ps.getD j gE0:=fun j hj=>by rw [List.getD_eq_getElem?_getD,List.getElem?_append_left hj,← List.getD_eq_getElem?_getD]
 have gr:(ps++[((.slice Av v.length cv,v):GEl)]).getD ps.length gE0=(.slice Av v.length cv,v):=by simp [List.getD_eq_getElem?_getD]
 refine ⟨A1,c1,w2,hrun,⟨?_,fun j hj=>?_,fun i j hi hj hij k hk=>?_⟩,?_⟩
 ·rw [hl]
  have:gcs (ps++[((.slice Av v.length cv,v):GEl)])=gcs ps++[.slice Av v.length cv]:=by simp [gcs]
  rw [this];exact hnew
 ·rw [hl] at hj
  by_cases e:j < ps.length
  ·rw [gl j e]
   exact ⟨(h.inn j e).1,own_mod (h1.inn j e).2 MG fun k hk q=>own_own_neG (h1.inn j e).2 h1.own (by decide) hk q.symm⟩
  ·obtain rfl:j=ps.length:=by omega
   rw [gr]
   exact ⟨⟨Av,cv,rfl⟩,own_mod (own_below hv hal) MG fun k hk q=>own_own_neG (own_below hv hal) h1.own (by decide) hk q.symm⟩
 ·rw [hl] at hi hj
  by_cases e1:i < ps.length
  ·rw [gl i e1] at hk
   by_cases e2:j < ps.length
   ·rw [gl j e2];exact h.dj i j e1 e2 hij k hk
   ·obtain rfl:j=ps.length:=by omega
    rw [gr];exact hd i e1 k hk
  ·obtain rfl:i=ps.length:=by omega
   rw [gr] at hk
   have e2:j < ps.length:=by omega
   rw [gl j e2]
   exact fun c=>hd j e2 k c hk
 ·exact ⟨((Below.refl base w).alloc hbase _).trans (Below.appended h1.own hgr (by simp;omega)),(Mod.none_ hal _).trans MG fun _ _ q=>q⟩
end
end Go.Proofs.YtdinmjciippchaaGreat
