/- Rows in a row, all of them growing. -/
import Derived.Test.YtijbdnhlpbcabaaGreatDoorZg24
import Derived.Test.YtijbdnhlpbcabaaGreatDoorZPNames
import Derived.Test.YtijbdnhlpbcabaaGreatDoorZg27
open Go.RowKit
set_option linter.unusedVariables false
set_option linter.unusedSimpArgs false
namespace Go.Proofs.YtijbdnhlpbcabaaGreatDoor
set_option maxRecDepth 100000
abbrev GEl:=Value × List Nat
abbrev gE0:GEl:=(Value.bool false,[])
def gcs (ps:List GEl):List Value:=ps.map (·.1)
theorem gcs_get (ps:List GEl) (j:Nat) (h:j < ps.length):(gcs ps)[j]?=some (ps.getD j gE0).1:=by
 unfold gcs
 rw [List.getElem?_map,List.getD_eq_getElem?_getD,List.getElem?_eq_getElem h];rfl
theorem gcs_set (ps:List GEl) (j:Nat) (v:Value) (D:List Nat):(gcs ps).set j v=gcs (ps.set j (v,D)):=by
 unfold gcs;rw [List.map_set]
theorem own_own_neG {w:World} {b b':Nat} {e e':TypeId} {s s' n n':Nat} {v v':Value} {xs xs':List Value} (h:w.ownsRow b e s v n xs) (h':w.ownsRow b' e' s' v' n' xs') (hne:e≠e') {q:Nat} (hq:v.ownBlock=some q) (hq':v'.ownBlock=some q):False:=by
 rcases h.2 with ⟨rfl,_⟩ | ⟨g,c,cur,rfl,_,hg,_⟩
 ·simp [Value.ownBlock] at hq
 ·rcases h'.2 with ⟨rfl,_⟩ | ⟨g',c',cur',rfl,_,hg',_⟩
  ·simp [Value.ownBlock] at hq'
  ·simp [Value.ownBlock] at hq hq'
   subst hq;subst hq'
   rw [hg] at hg'
   simp at hg'
   exact hne hg'.2
structure GRow (w:World) (base:Nat) (A:Option Addr) (c:Nat) (ps:List GEl):Prop where
 own:w.ownsRow base 25 1 (.slice A ps.length c) ps.length (gcs ps)
 inn:∀ j,j < ps.length→(∃ A' c',(ps.getD j gE0).1=.slice A' (ps.getD j gE0).2.length c')∧w.ownsRow base 3 1 (ps.getD j gE0).1 (ps.getD j gE0).2.length (I64 (ofN (ps.getD j gE0).2))
 dj:∀ i j,i < ps.length→j < ps.length→i≠j→∀ k,(ps.getD i gE0).1.ownBlock=some k→(ps.getD j gE0).1.ownBlock≠some k
section
variable {w w':World} {base c:Nat} {A:Option Addr} {ps:List GEl}
theorem GRow.below (h:GRow w base A c ps) (m:Below w.heap.size w w'):GRow w' base A c ps :=
 ⟨own_below h.own m,fun j hj=>⟨(h.inn j hj).1,own_below (h.inn j hj).2 m⟩,h.dj⟩
theorem GRow.one (w:World) (hb:base≤w.heap.size):GRow (w.alloc (.cells #[.slice none 0 0] 25)) base (some ⟨w.heap.size,0,none⟩) 1 [(.slice none 0 0,[])]:=by
 refine ⟨?_,fun j hj=>?_,fun i j hi hj hij=>?_⟩
 ·exact (World.ownsRow_lit (base:=w.heap.size) (e:=25) (size:=1) w #[.slice none 0 0] 1 (by omega) (by simp [maxLen]) (by simp)).base_le' hb
 ·obtain rfl:j=0:=by simp at hj;omega
  exact ⟨⟨none,0,rfl⟩,World.ownsRow_nil _ _ _ _⟩
 ·simp at hi hj;omega
theorem GRow.snocM (h:GRow w base A c ps) (hbase:base≤w.heap.size) (hn:ps.length≤1000000) :
  ∃ A1 c1 w2,(Builtin.append_ #[109,109] 109 #[.slice A ps.length c,.slice (some ⟨w.heap.size,0,none⟩) 1 1]).run Tryz.prog (w.alloc (.cells #[.slice none 0 0] 25))=.ok (.slice A1 (ps.length+1) c1) w2 ∧
   GRow w2 base A1 c1 (ps++[(.slice none 0 0,[])])∧Below base w w2∧Mod (fun q=>some q=(Value.slice A ps.length c).ownBlock) w w2:=by
 obtain ⟨i0,hi0,hz0,hz1,hz2⟩:=info_parts info_ints
 have hal:Below w.heap.size w (w.alloc (.cells #[.slice none 0 0] 25)):=(Below.refl _ _).alloc (Nat.le_refl _) _
 have h1:=h.below hal
 have rd:=Rd.new w 25 #[.slice none 0 0] 1 [.slice none 0 0] rfl rfl
 obtain ⟨v',w2,hrun,hnew,hgr,hob⟩:=run_append_rd (P:=Tryz.prog) (w.alloc (.cells #[.slice none 0 0] 25)) base 109 109 25 i0 (.slice none 0 0) 24 Tryz.underlying109 hi0 hz0 hz1 hz2 rfl _ ps.length _ h1.own (w.heap.size+1) (some ⟨w.heap.size,0,none⟩) 1 1 _ rd (by intro u hu;rw [List.mem_singleton] at hu;subst hu;rfl) (by simp only [maxLen];omega) (by omega) (by simp;omega)
 obtain ⟨A1,c1,rfl,_,_⟩:=own_form hnew
 have MG:=Mod.ofGrown hgr
 have hl:(ps++[((.slice none 0 0,[]):GEl)]).length=ps.length+1:=by simp
 have gl:∀ j,j < ps.length→(ps++[((.slice none 0 0,[]):GEl)]).getD j gE0=ps.getD j gE0:=fun j hj=>by rw [List.getD_eq_getElem?_getD,List.getElem?_append_left hj,← List.getD_eq_getElem?_getD]
 have gr:(ps++[((.slice none 0 0,[]):GEl)]).getD ps.length gE0=(.slice none 0 0,[]):=by simp [List.getD_eq_getElem?_getD]
 refine ⟨A1,c1,w2,hrun,⟨?_,fun j hj=>?_,fun i j hi hj hij k hk=>?_⟩,?_⟩
 ·rw [hl]
  have:gcs (ps++[((.slice none 0 0,[]):GEl)])=gcs ps++[.slice none 0 0]:=by simp [gcs]
  rw [this];exact hnew
 ·rw [hl] at hj
  by_cases e:j < ps.length
  ·rw [gl j e]
   exact ⟨(h.inn j e).1,own_mod (h1.inn j e).2 MG fun k hk q=>own_own_neG (h1.inn j e).2 h1.own (by decide) hk q.symm⟩
  ·obtain rfl:j=ps.length:=by omega
   rw [gr]
   exact ⟨⟨none,0,rfl⟩,World.ownsRow_nil _ _ _ _⟩
 ·rw [hl] at hi hj
  by_cases e1:i < ps.length
  ·rw [gl i e1] at hk
   by_cases e2:j < ps.length
   ·rw [gl j e2];exact h.dj i j e1 e2 hij k hk
   ·obtain rfl:j=ps.length:=by omega
    rw [gr];simp [Value.ownBlock]
  ·obtain rfl:i=ps.length:=by omega
   rw [gr] at hk
   simp [Value.ownBlock] at hk
 ·exact ⟨((Below.refl base w).alloc hbase _).trans (Below.appended h1.own hgr (by simp;omega)),(Mod.none_ hal _).trans MG fun _ _ q=>q⟩
theorem GRow.grow {g:Nat} (h:GRow w base (some ⟨g,0,none⟩) c ps) (hbase:base≤w.heap.size) {j d:Nat} (hj:j < ps.length) (hn:(ps.getD j gE0).2.length≤1000000) :
  ∃ A1 cj A2 c2 w2,(ps.getD j gE0).1=.slice A1 (ps.getD j gE0).2.length cj∧(Builtin.append_ #[25,25] 25 #[.slice A1 (ps.getD j gE0).2.length cj,.slice (some ⟨w.heap.size,0,none⟩) 1 1]).run Tryz.prog (w.alloc (.cells #[.int .i64 (d:Int)] 3))=.ok (.slice A2 ((ps.getD j gE0).2.length+1) c2) w2 ∧
   w2.cell? ⟨g,j,none⟩=some (.slice A1 (ps.getD j gE0).2.length cj)∧w2.frozen? ⟨g,j,none⟩=false ∧
   GRow (w2.setCell ⟨g,j,none⟩ (.slice A2 ((ps.getD j gE0).2.length+1) c2)) base (some ⟨g,0,none⟩) c (ps.set j (.slice A2 ((ps.getD j gE0).2.length+1) c2,(ps.getD j gE0).2++[d])) ∧
   Below base w (w2.setCell ⟨g,j,none⟩ (.slice A2 ((ps.getD j gE0).2.length+1) c2))∧Mod (fun q=>q=g∨some q=(ps.getD j gE0).1.ownBlock) w (w2.setCell ⟨g,j,none⟩ (.slice A2 ((ps.getD j gE0).2.length+1) c2)) ∧
   (∀ q,(Value.slice A2 ((ps.getD j gE0).2.length+1) c2).ownBlock=some q→(ps.getD j gE0).1.ownBlock=some q∨w.heap.size≤q):=by
 obtain ⟨i0,hi0,hz0,hz1,hz2⟩:=info_parts info_int
 obtain ⟨⟨A1,cj,e1⟩,oj⟩:=h.inn j hj
 have hal:Below w.heap.size w (w.alloc (.cells #[.int .i64 (d:Int)] 3)):=(Below.refl _ _).alloc (Nat.le_refl _) _
 have h1:=h.below hal
 have oj1:=own_below oj hal
 rw [e1] at oj1
 have rd:=Rd.new w 3 #[.int .i64 (d:Int)] 1 [.int .i64 (d:Int)] rfl rfl
 obtain ⟨v',w2,hrun,hnew,hgr,hob⟩:=run_append_rd (P:=Tryz.prog) (w.alloc (.cells #[.int .i64 (d:Int)] 3)) base 25 25 3 i0 (.int .i64 0) 8 Tryz.underlying25 hi0 hz0 hz1 hz2 rfl _ _ _ oj1 (w.heap.size+1) (some ⟨w.heap.size,0,none⟩) 1 1 _ rd (by simp [Value.oneCell']) (by simp only [maxLen];omega) (by omega) (by simp;omega)
 obtain ⟨A2,c2,rfl,_,_⟩:=own_form hnew
 have MG:=Mod.ofGrown hgr
 have ow1:=h1.own
 have ow2:=own_mod ow1 MG fun k hk q=>own_own_neG oj1 ow1 (by decide) q.symm hk
 have hgw:=(own_block h.own)
 have hcell:=ow2.cellAt j (by omega)
 rw [gcs_get ps j hj,e1] at hcell
 have hfz:=ow2.frozenAt j
 have MX:Mod (fun k=>k=g) w2 (w2.setCell ⟨g,j,none⟩ (.slice A2 ((ps.getD j gE0).2.length+1) c2)):=Mod.setCell (p:=⟨g,j,none⟩) (Mod.refl (fun k=>k=g) w2) (fun _=>rfl) _
 have new:∀ k,(Value.slice A2 ((ps.getD j gE0).2.length+1) c2).ownBlock=some k→(ps.getD j gE0).1.ownBlock=some k∨w.heap.size≤k:=fun k hk=>by
  rcases hob with q | q
  ·exact .inl (by rw [e1,← q];exact hk)
  ·rw [hk] at q
   have:=Option.some.inj q
   exact .inr (by simp at this;omega)
 have gs:∀ i,(ps.set j (.slice A2 ((ps.getD j gE0).2.length+1) c2,(ps.getD j gE0).2++[d])).getD i gE0=if i=j then (.slice A2 ((ps.getD j gE0).2.length+1) c2,(ps.getD j gE0).2++[d]) else ps.getD i gE0:=fun i=>getD_setR _ _ _ _ _ hj
 have ilt:∀ i,i < ps.length→∀ k,(ps.getD i gE0).1.ownBlock=some k→k < w.heap.size:=fun i hi k hk=>((h.inn i hi).2.lt k hk).2
 refine ⟨A1,cj,A2,c2,w2,e1,hrun,hcell,hfz,⟨?_,fun i hi=>?_,fun i k hi hk hik q hq=>?_⟩,?_⟩
 ·rw [List.length_set]
  have:=(ow2.stored j (.slice A2 ((ps.getD j gE0).2.length+1) c2)).1
  rw [gcs_set ps j _ ((ps.getD j gE0).2++[d])] at this
  exact this
 ·rw [List.length_set] at hi
  rw [gs]
  by_cases e:i=j
  ·rw [if_pos e]
   refine ⟨⟨A2,c2,by simp⟩,?_⟩
   have hl:((ps.getD j gE0).2++[d]).length=(ps.getD j gE0).2.length+1:=by simp
   show World.ownsRow _ _ _ _ _ _ _
   rw [hl,ofN_snocR]
   exact own_mod hnew MX fun k hk q=>own_own_neG hnew ow2 (by decide) hk (by rw [q];simp [Value.ownBlock])
  ·rw [if_neg e]
   have oi:=(h1.inn i hi).2
   have oi2:=own_mod oi MG fun k hk q=>h.dj i j hi hj e k hk (by rw [e1];exact q.symm)
   exact ⟨(h.inn i hi).1,own_mod oi2 MX fun k hk q=>own_own_neG oi2 ow2 (by decide) hk (by rw [q];simp [Value.ownBlock])⟩
 ·rw [List.length_set] at hi hk
  rw [gs] at hq ⊢
  by_cases e1':i=j
  ·rw [if_pos e1'] at hq
   rw [if_neg (fun c=>hik (e1'.trans c.symm))]
   rcases new q hq with n1 | n1
   ·exact h.dj j k hj hk (fun c=>hik (e1'.trans c)) q n1
   ·intro c;have:=ilt k hk q c;omega
  ·rw [if_neg e1'] at hq
   by_cases e2':k=j
   ·rw [if_pos e2']
    intro c
    rcases new q c with n1 | n1
    ·exact h.dj i j hi hj e1' q hq n1
    ·have:=ilt i hi q hq;omega
   ·rw [if_neg e2'];exact h.dj i k hi hk hik q hq
 ·refine ⟨?_,Mod.setCell (p:=⟨g,j,none⟩) ((Mod.none_ hal (fun q=>q=g∨some q=(ps.getD j gE0).1.ownBlock)).trans MG fun q _ hq=>.inr (by rw [e1];exact hq)) (fun _=>.inl rfl) _,new⟩
  have b1:Below base w (w.alloc (.cells #[.int .i64 (d:Int)] 3)):=(Below.refl _ _).alloc hbase _
  exact (b1.trans (Below.appended oj1 hgr (by simp;omega))).setCell (p:=⟨g,j,none⟩) hgw.1 _
end
end Go.Proofs.YtijbdnhlpbcabaaGreatDoor
namespace Go.Proofs.YtijbdnhlpbcabaaGreatDoor
set_option maxRecDepth 100000
structure DSt (w0 w:World) (B:Nat) (A:Option Addr) (c:Nat) (ps:List GEl) (As:Option Addr) (cs:Nat) (st:List Nat):Prop where
 g:GRow w B A c ps
 s:w.ownsRow B 3 1 (.slice As st.length cs) st.length (I64 (ofN st))
 dj:∀ j,j < ps.length→∀ k,(ps.getD j gE0).1.ownBlock=some k→(Value.slice As st.length cs).ownBlock≠some k
 bel:Below B w0 w
theorem GRow.modG {w w':World} {base c:Nat} {A:Option Addr} {ps:List GEl} {S:Nat→Prop} (h:GRow w base A c ps) (m:Mod S w w') (h1:∀ k,(Value.slice A ps.length c).ownBlock=some k→¬ S k) (h2:∀ j,j < ps.length→∀ k,(ps.getD j gE0).1.ownBlock=some k→¬ S k):GRow w' base A c ps :=
 ⟨own_mod h.own m h1,fun j hj=>⟨(h.inn j hj).1,own_mod (h.inn j hj).2 m (h2 j hj)⟩,h.dj⟩
section
variable {w0 w w':World} {B c cs:Nat} {A As:Option Addr} {ps:List GEl} {st:List Nat}
theorem DSt.below (h:DSt w0 w B A c ps As cs st) (hb:B≤w.heap.size) (m:Below w.heap.size w w'):DSt w0 w' B A c ps As cs st :=
 ⟨h.g.below m,own_below h.s m,h.dj,h.bel.trans (m.mono hb)⟩
theorem DSt.grow {g:Nat} (h:DSt w0 w B (some ⟨g,0,none⟩) c ps As cs st) (hb:B≤w.heap.size) {j d:Nat} (hj:j < ps.length) (hn:(ps.getD j gE0).2.length≤1000000) :
  ∃ A1 cj A2 c2 w2,(ps.getD j gE0).1=.slice A1 (ps.getD j gE0).2.length cj∧(Builtin.append_ #[25,25] 25 #[.slice A1 (ps.getD j gE0).2.length cj,.slice (some ⟨w.heap.size,0,none⟩) 1 1]).run Tryz.prog (w.alloc (.cells #[.int .i64 (d:Int)] 3))=.ok (.slice A2 ((ps.getD j gE0).2.length+1) c2) w2 ∧
   w2.cell? ⟨g,j,none⟩=some (.slice A1 (ps.getD j gE0).2.length cj)∧w2.frozen? ⟨g,j,none⟩=false ∧
   DSt w0 (w2.setCell ⟨g,j,none⟩ (.slice A2 ((ps.getD j gE0).2.length+1) c2)) B (some ⟨g,0,none⟩) c (ps.set j (.slice A2 ((ps.getD j gE0).2.length+1) c2,(ps.getD j gE0).2++[d])) As cs st:=by
 obtain ⟨A1,cj,A2,c2,w2,e1,hrun,hc,hf,hg,hbl,hm,hnew⟩:=h.g.grow hb (d:=d) hj hn
 refine ⟨A1,cj,A2,c2,w2,e1,hrun,hc,hf,hg,own_mod h.s hm (fun k hk q=>?_),fun i hi k hk=>?_,h.bel.trans hbl⟩
 ·rcases q with q | q
  ·exact own_own_neG h.s h.g.own (by decide) hk (by rw [q];simp [Value.ownBlock])
  ·exact h.dj j hj k q.symm hk
 ·rw [List.length_set] at hi
  rw [getD_setR _ _ _ _ _ hj] at hk
  by_cases e:i=j
  ·rw [if_pos e] at hk
   rcases hnew k hk with n1 | n1
   ·exact h.dj j hj k n1
   ·intro c;have:=(h.s.lt k c).2;omega
  ·rw [if_neg e] at hk;exact h.dj i hi k hk
theorem DSt.push (h:DSt w0 w B A c ps As cs st) (hb:B≤w.heap.size) (x:Nat) (hn:st.length≤1000000) :
  ∃ A2 c2 w2,(Builtin.append_ #[25,25] 25 #[.slice As st.length cs,.slice (some ⟨w.heap.size,0,none⟩) 1 1]).run Tryz.prog (w.alloc (.cells #[.int .i64 (x:Int)] 3))=.ok (.slice A2 (st.length+1) c2) w2 ∧
   DSt w0 w2 B A c ps A2 c2 (st++[x]):=by
 obtain ⟨i0,hi0,hz0,hz1,hz2⟩:=info_parts info_int
 have hal:Below w.heap.size w (w.alloc (.cells #[.int .i64 (x:Int)] 3)):=(Below.refl _ _).alloc (Nat.le_refl _) _
 have h1:=h.below hb hal
 have rd:=Rd.new w 3 #[.int .i64 (x:Int)] 1 [.int .i64 (x:Int)] rfl rfl
 obtain ⟨v',w2,hrun,hnew,hgr,hob⟩:=run_append_rd (P:=Tryz.prog) (w.alloc (.cells #[.int .i64 (x:Int)] 3)) B 25 25 3 i0 (.int .i64 0) 8 Tryz.underlying25 hi0 hz0 hz1 hz2 rfl _ _ _ h1.s (w.heap.size+1) (some ⟨w.heap.size,0,none⟩) 1 1 _ rd (by simp [Value.oneCell']) (by simp only [maxLen];omega) (by omega) (by simp;omega)
 obtain ⟨A2,c2,rfl,_,_⟩:=own_form hnew
 have MG:=Mod.ofGrown hgr
 have hl:(st++[x]).length=st.length+1:=by simp
 refine ⟨A2,c2,w2,hrun,h1.g.modG MG (fun k hk q=>own_own_neG h1.s h1.g.own (by decide) q.symm hk) (fun j hj k hk q=>h.dj j hj k hk q.symm),?_,fun j hj k hk=>?_,?_⟩
 ·rw [hl,ofN_snocR];exact hnew
 ·rw [hl]
  rcases hob with q | q
  ·rw [q];exact h.dj j hj k hk
  ·rw [q]
   intro c
   have:=Option.some.inj c
   have:=((h.g.inn j hj).2.lt k hk).2
   simp at *;omega
 ·exact (h.bel.alloc hb _).trans (Below.appended h1.s hgr (by simp;omega))
theorem DSt.snoc (h:DSt w0 w B A c ps As cs st) (hb:B≤w.heap.size) (hn:ps.length≤1000000) :
  ∃ A1 c1 w2,(Builtin.append_ #[109,109] 109 #[.slice A ps.length c,.slice (some ⟨w.heap.size,0,none⟩) 1 1]).run Tryz.prog (w.alloc (.cells #[.slice none 0 0] 25))=.ok (.slice A1 (ps.length+1) c1) w2 ∧
   DSt w0 w2 B A1 c1 (ps++[(.slice none 0 0,[])]) As cs st:=by
 obtain ⟨A1,c1,w2,hrun,hg,hbl,hm⟩:∃ A1 c1 w2,(Builtin.append_ #[109,109] 109 #[.slice A ps.length c,.slice (some ⟨w.heap.size,0,none⟩) 1 1]).run Tryz.prog (w.alloc (.cells #[.slice none 0 0] 25))=.ok (.slice A1 (ps.length+1) c1) w2 ∧
   GRow w2 B A1 c1 (ps++[(.slice none 0 0,[])])∧Below B w w2∧Mod (fun q=>some q=(Value.slice A ps.length c).ownBlock) w w2:=h.g.snocM hb hn
 refine ⟨A1,c1,w2,hrun,hg,own_mod h.s hm (fun k hk q=>own_own_neG h.s h.g.own (by decide) hk q.symm),fun j hj k hk=>?_,h.bel.trans hbl⟩
 rw [List.length_append] at hj
 by_cases e:j < ps.length
 ·rw [List.getD_eq_getElem?_getD,List.getElem?_append_left e,← List.getD_eq_getElem?_getD] at hk
  exact h.dj j e k hk
 ·obtain rfl:j=ps.length:=by simp at hj;omega
  simp [List.getD_eq_getElem?_getD,Value.ownBlock] at hk
theorem DSt.pop (h:DSt w0 w B A c ps As cs st) {k:Nat} (hk:st.length=k+1):DSt w0 w B A c ps As cs (st.take k):=by
 have oc:=own_cut h.s (show k≤st.length by omega) (by omega)
 have hl:(st.take k).length=k:=by rw [List.length_take];omega
 have hI:(I64 (ofN st)).take k=I64 (ofN (st.take k)):=by simp [I64,ofN,List.map_take]
 rw [hI] at oc
 refine ⟨h.g,by rw [hl];exact oc,fun j hj q hq=>?_,h.bel⟩
 have:=h.dj j hj q hq
 rw [hl]
 intro e
 refine this ?_
 cases As with
 | none=>simp [Value.ownBlock] at e
 | some a =>
   rcases h.s.2 with ⟨e1,_⟩ | ⟨g,cap,cur,e1,_⟩
   ·simp at e1
   ·simp only [Value.slice.injEq,Option.some.injEq] at e1
    obtain ⟨rfl,_,_⟩:=e1
    simpa [Value.ownBlock] using e
end
theorem nodup_leP {n:Nat} {Q:List Nat} (nd:Q.Nodup) (lt:∀ x∈Q,x < n):Q.length≤n:=by
 have:=List.Nodup.length_le_of_subset nd (l₂:=List.range n) fun x hx=>List.mem_range.2 (lt x hx)
 rwa [List.length_range] at this
structure Kys (ks:List Nat) (tw:Nat→Nat) (i:Nat) (os:List (List Nat)) (st:List Nat) (keys:List (Option Nat)):Prop where
 len:keys.length=os.length
 row:∀ r,r < os.length→os.getD r []=(plL ks tw (keys.getD r none) i).map (nmF ks tw)
 nd:keys.Nodup
 lt:∀ o,some o∈keys→o < i
 sl:∀ v∈st,v < keys.length
 sm:st.map (fun v=>keys.getD v none)=none :: (UU ks tw 0 i).map some
theorem key_inj {keys:List (Option Nat)} (h:keys.Nodup) {r v:Nat} (hr:r < keys.length) (hv:v < keys.length) (e:keys.getD r none=keys.getD v none):r=v:=by
 rw [List.getD_eq_getElem?_getD,List.getD_eq_getElem?_getD,List.getElem?_eq_getElem hr,List.getElem?_eq_getElem hv] at e
 exact (List.getElem_inj h).1 e
theorem cons_last (U:List Nat):(none :: U.map some).getLast?=some U.getLast?:=by
 rw [List.getLast?_cons,List.getLast?_map]
 cases U.getLast? <;> rfl
theorem Kys.top {ks:List Nat} {tw:Nat→Nat} {i:Nat} {os:List (List Nat)} {st:List Nat} {keys:List (Option Nat)} (h:Kys ks tw i os st keys) {k:Nat} (hk:st.length=k+1):keys.getD (st.getD k 0) none=ownP 0 ks tw i:=by
 have e:=congrArg List.getLast? h.sm
 rw [cons_last,List.getLast?_map,List.getLast?_eq_getElem?,hk,Nat.add_sub_cancel,List.getElem?_eq_getElem (by omega)] at e
 have e2:st.getD k 0=st[k]:=by rw [List.getD_eq_getElem?_getD,List.getElem?_eq_getElem (by omega)];rfl
 rw [e2]
 exact Option.some.inj e
theorem Kys.put {ks:List Nat} {tw:Nat→Nat} {i:Nat} {os:List (List Nat)} {st:List Nat} {keys:List (Option Nat)} (h:Kys ks tw i os st keys) {v:Nat} (hv:v < os.length) (ht:keys.getD v none=ownP 0 ks tw i) :
  ∀ r,r < os.length→(os.set v (os.getD v []++[nmF ks tw i])).getD r []=(plL ks tw (keys.getD r none) (i+1)).map (nmF ks tw):=fun r hr=>by
 rw [List.getD_eq_getElem?_getD,List.getElem?_set]
 by_cases e:v=r
 ·subst e
  rw [if_pos rfl,if_pos hv,Option.getD_some,plL_in ht.symm,List.map_append,h.row v hv];rfl
 ·rw [if_neg e,← List.getD_eq_getElem?_getD,plL_out (fun q=>e (key_inj h.nd (by rw [h.len];exact hv) (by rw [h.len];exact hr) (by rw [ht,q]))),h.row r hr]
theorem Kys.opn {ks:List Nat} {tw:Nat→Nat} {i:Nat} {os:List (List Nat)} {st:List Nat} {keys:List (Option Nat)} (h:Kys ks tw i os st keys) (P:Prg ks tw) (hi:i < ks.length) (hk:ks.getD i 0=0) {v:Nat} (hv:v < os.length) (ht:keys.getD v none=ownP 0 ks tw i) :
  Kys ks tw (i+1) (os.set v (os.getD v []++[nmF ks tw i])++[[]]) (st++[os.length]) (keys++[some i]):=by
 have lo:=h.len
 have hU:=UU_open (s:=0) P hi (by rw [hk]) ((P.opn i hi).1 (by rw [hk]))
 have gl:∀ x,x < keys.length→(keys++[some i]).getD x none=keys.getD x none:=fun x hx=>by
  rw [List.getD_eq_getElem?_getD,List.getElem?_append_left hx,← List.getD_eq_getElem?_getD]
 have ge:(keys++[some i]).getD os.length none=some i:=by
  rw [List.getD_eq_getElem?_getD,List.getElem?_append_right (by omega),lo,Nat.sub_self];rfl
 refine ⟨by simp [lo],fun r hr=>?_,?_,fun o ho=>?_,fun x hx=>?_,?_⟩
 ·rw [List.length_append,List.length_set] at hr
  by_cases e:r < os.length
  ·rw [gl r (by omega),List.getD_eq_getElem?_getD,List.getElem?_append_left (by rw [List.length_set];exact e),← List.getD_eq_getElem?_getD]
   exact h.put hv ht r e
  ·obtain rfl:r=os.length:=by simp at hr;omega
   rw [ge,List.getD_eq_getElem?_getD,List.getElem?_append_right (by rw [List.length_set];exact Nat.le_refl _),List.length_set,Nat.sub_self]
   have:plL ks tw (some i) (i+1)=[]:=by
    rw [List.eq_nil_iff_forall_not_mem]
    intro x hx
    obtain ⟨a,b⟩:=plL_mem.1 hx
    have:=(ownP_mem b).1
    omega
   rw [this];rfl
 ·rw [List.nodup_append]
  refine ⟨h.nd,by simp,fun a ha b hb e=>?_⟩
  simp at hb
  rw [e,hb] at ha
  have:=h.lt i ha
  omega
 ·rcases List.mem_append.1 ho with q | q
  ·have:=h.lt o q;omega
  ·simp at q;omega
 ·rw [List.length_append]
  rcases List.mem_append.1 hx with q | q
  ·have:=h.sl x q;simp;omega
  ·simp at q;simp;omega
 ·rw [hU,List.map_append,List.map_append,← List.cons_append,← h.sm]
  have e1:st.map (fun v=>(keys++[some i]).getD v none)=st.map (fun v=>keys.getD v none):=List.map_congr_left fun x hx=>gl x (h.sl x hx)
  rw [e1]
  simp only [List.map_cons,List.map_nil]
  rw [ge]
theorem Kys.shut {ks:List Nat} {tw:Nat→Nat} {i:Nat} {os:List (List Nat)} {st:List Nat} {keys:List (Option Nat)} (h:Kys ks tw i os st keys) (P:Prg ks tw) (hX:NX ks tw 0) (hi:i < ks.length) (hk:ks.getD i 0=1) {v:Nat} (hv:v < os.length) (ht:keys.getD v none=ownP 0 ks tw i) {k:Nat} (hst:st.length=k+1) :
  Kys ks tw (i+1) (os.set v (os.getD v []++[nmF ks tw i])) (st.take k) keys:=by
 have hc:tw i < i:=by
  have a:=P.opn i hi
  have ne:=P.ne i hi
  have:¬ i < tw i:=fun q=>by have:=a.2 q;omega
  omega
 have hU:=UU_last (s:=0) P hX hi (by rw [hk]) hc
 refine ⟨by simp [h.len],fun r hr=>h.put hv ht r (by simpa using hr),h.nd,fun o ho=>by have:=h.lt o ho;omega,fun x hx=>h.sl x (List.mem_of_mem_take hx),?_⟩
 rw [List.map_take,h.sm,hU,List.map_append,← List.cons_append]
 have hl:=congrArg List.length h.sm
 rw [hU] at hl
 simp at hl
 rw [List.take_append_of_le_length (by simp;omega),List.take_of_length_le (by simp;omega)]
theorem Kys.skip {ks:List Nat} {tw:Nat→Nat} {i:Nat} {os:List (List Nat)} {st:List Nat} {keys:List (Option Nat)} (h:Kys ks tw i os st keys) (P:Prg ks tw) (hi:i < ks.length) (hk:ks.getD i 0 / 2≠0) {v:Nat} (hv:v < os.length) (ht:keys.getD v none=ownP 0 ks tw i) :
  Kys ks tw (i+1) (os.set v (os.getD v []++[nmF ks tw i])) st keys:=by
 refine ⟨by simp [h.len],fun r hr=>h.put hv ht r (by simpa using hr),h.nd,fun o ho=>by have:=h.lt o ho;omega,h.sl,?_⟩
 rw [h.sm,UU_skip P hi hk]
structure DMt (ks:List Nat) (tw:Nat→Nat) (i:Nat) (ps:List GEl) (st:List Nat):Prop where
 fl:((ps.map (·.2)).flatten).Perm ((List.range i).map (nmF ks tw))
 stk:∀ x,x∈st→x < ps.length
 os:∃ S,OStk ks i S∧st.length=S.length+1
 pl:ps.length≤i+1
 sl:st.length≤i+1
 rl:∀ j,j < ps.length→(ps.getD j gE0).2.length≤i
 ky:∃ keys,Kys ks tw i (ps.map (·.2)) st keys
section
variable {ks:List Nat} {tw:Nat→Nat} {i:Nat} {ps:List GEl} {st:List Nat}
theorem DMt.nil (ks:List Nat) (tw:Nat→Nat):DMt ks tw 0 [(.slice none 0 0,[])] [0]:=by
 refine ⟨by simp,by simp,⟨[],OStk.nil ks,rfl⟩,by simp,by simp,fun j hj=>?_,[none],⟨rfl,fun r hr=>?_,by simp,fun o ho=>by simp at ho,by simp,rfl⟩⟩
 rotate_left
 ·obtain rfl:r=0:=by simp at hr;omega
  rfl
 obtain rfl:j=0:=by simp at hj;omega
 exact Nat.le_refl _
theorem snd_getD (ps:List GEl) (j:Nat) (h:j < ps.length):(ps.map (·.2)).getD j []=(ps.getD j gE0).2:=by
 rw [List.getD_eq_getElem?_getD,List.getElem?_map,List.getD_eq_getElem?_getD,List.getElem?_eq_getElem h];rfl
theorem put_snd (ps:List GEl) {v:Nat} (hv:v < ps.length) (x:Value) (y:Nat):(ps.set v (x,(ps.getD v gE0).2++[y])).map (·.2)=(ps.map (·.2)).set v ((ps.map (·.2)).getD v []++[y]):=by
 rw [List.map_set,snd_getD ps v hv]
theorem DMt.put (h:DMt ks tw i ps st) {v:Nat} (hv:v < ps.length) (x:Value) :
  (((ps.set v (x,(ps.getD v gE0).2++[nmF ks tw i])).map (·.2)).flatten).Perm ((List.range (i+1)).map (nmF ks tw)) ∧
  ∀ j,j < ps.length→((ps.set v (x,(ps.getD v gE0).2++[nmF ks tw i])).getD j gE0).2.length≤i+1:=by
 refine ⟨?_,fun j hj=>?_⟩
 ·have e:(ps.set v (x,(ps.getD v gE0).2++[nmF ks tw i])).map (·.2)=(ps.map (·.2)).set v ((ps.map (·.2)).getD v []++[nmF ks tw i]):=by
   rw [List.map_set,snd_getD ps v hv]
  rw [e,List.range_succ,List.map_append]
  exact (flat_set _ v _ (by simpa using hv)).trans (h.fl.append_right _)
 ·rw [getD_setR _ _ _ _ _ hv]
  by_cases e:j=v
  ·rw [if_pos e]
   have:=h.rl v hv
   show ((ps.getD v gE0).2++[nmF ks tw i]).length≤_
   rw [List.length_append]
   have h1:[nmF ks tw i].length=1:=rfl
   omega
  ·rw [if_neg e];have:=h.rl j hj;omega
theorem DMt.opn (h:DMt ks tw i ps st) (W:Wd ks tw) (hi:i < ks.length) (hk:ks.getD i 0=0) {v k:Nat} (hv:v < ps.length) (hst:st.length=k+1) (hvs:v=st.getD k 0) (x:Value) :
  DMt ks tw (i+1) (ps.set v (x,(ps.getD v gE0).2++[nmF ks tw i])++[(.slice none 0 0,[])]) (st++[ps.length]):=by
 obtain ⟨h1,h2⟩:=h.put hv x
 have hl:(ps.set v (x,(ps.getD v gE0).2++[nmF ks tw i])).length=ps.length:=by simp
 obtain ⟨keys,hky⟩:=h.ky
 refine ⟨?_,fun y hy=>?_,?_,?_,by rw [List.length_append];have:=h.sl;simp;omega,fun j hj=>?_,keys++[some i],?_⟩
 rotate_right
 ·have:=hky.opn W.P hi hk (v:=v) (by simpa using hv) (by rw [hvs];exact hky.top hst)
  rw [← put_snd ps hv x,List.length_map] at this
  rw [List.map_append];exact this
 ·rw [List.map_append]
  show ((_++[[]]).flatten).Perm _
  rw [flat_snoc];exact h1
 ·rw [List.length_append,hl]
  rcases List.mem_append.1 hy with q | q
  ·have:=h.stk y q;simp;omega
  ·simp at q;simp;omega
 ·obtain ⟨S,hS,hSl⟩:=h.os
  exact ⟨_,hS.push hi hk,by simp [hSl]⟩
 ·rw [List.length_append,hl];have:=h.pl;simp;omega
 ·rw [List.length_append,hl] at hj
  by_cases e:j < ps.length
  ·rw [List.getD_eq_getElem?_getD,List.getElem?_append_left (by rw [hl];exact e),← List.getD_eq_getElem?_getD];exact h2 j e
  ·obtain rfl:j=ps.length:=by simp at hj;omega
   rw [List.getD_eq_getElem?_getD,List.getElem?_append_right (by rw [hl];exact Nat.le_refl _),hl];simp
theorem DMt.shut (h:DMt ks tw i ps st) (W:Wd ks tw) (hB:Bal (exc (val (ownL 0 ks))) (ownL 0 ks).length) (hi:i < ks.length) (hk:ks.getD i 0=1) {v:Nat} (hv:v < ps.length) (x:Value) {k:Nat} (hst:st.length=k+1) (hvs:v=st.getD k 0) :
  DMt ks tw (i+1) (ps.set v (x,(ps.getD v gE0).2++[nmF ks tw i])) (st.take k):=by
 obtain ⟨keys,hky⟩:=h.ky
 obtain ⟨h1,h2⟩:=h.put hv x
 obtain ⟨S,hS,hSl⟩:=h.os
 obtain ⟨q1,q2⟩:=hS.pop hB hi hk
 exact ⟨h1,fun y hy=>by rw [List.length_set];exact h.stk y (List.mem_of_mem_take hy),⟨_,q2,by simp;omega⟩,by rw [List.length_set];have:=h.pl;omega,by have:=h.sl;first | omega | (rw [List.length_take];omega),fun j hj=>h2 j (by simpa using hj),keys,by
  have:=hky.shut W.P W.x0 hi hk (v:=v) (by simpa using hv) (by rw [hvs];exact hky.top hst) hst
  rw [← put_snd ps hv x] at this
  exact this⟩
theorem DMt.skip (h:DMt ks tw i ps st) (W:Wd ks tw) (hi:i < ks.length) (hk:ks.getD i 0 / 2≠0) {v k:Nat} (hv:v < ps.length) (hst:st.length=k+1) (hvs:v=st.getD k 0) (x:Value) :
  DMt ks tw (i+1) (ps.set v (x,(ps.getD v gE0).2++[nmF ks tw i])) st:=by
 obtain ⟨keys,hky⟩:=h.ky
 obtain ⟨h1,h2⟩:=h.put hv x
 obtain ⟨S,hS,hSl⟩:=h.os
 exact ⟨h1,fun y hy=>by rw [List.length_set];exact h.stk y hy,⟨_,hS.skip hi hk,hSl⟩,by rw [List.length_set];have:=h.pl;omega,by have:=h.sl;first | omega | (rw [List.length_take];omega),fun j hj=>h2 j (by simpa using hj),keys,by
  have:=hky.skip W.P hi hk (v:=v) (by simpa using hv) (by rw [hvs];exact hky.top hst)
  rw [← put_snd ps hv x] at this
  exact this⟩
theorem DMt.done (h:DMt ks tw ks.length ps st) (P:Prg ks tw):((ps.map (·.2)).flatten).Nodup∧∀ x,x∈(ps.map (·.2)).flatten↔x < ks.length:=by
 have nd:((List.range ks.length).map (nmF ks tw)).Nodup:=by
  rw [List.nodup_iff_pairwise_ne]
  rw [List.pairwise_map]
  refine List.Pairwise.imp_of_mem ?_ List.nodup_range
  intro a b ha hb hab e
  exact hab (nm_inj P (List.mem_range.1 ha) (List.mem_range.1 hb) e)
 refine ⟨h.fl.nodup_iff.2 nd,fun x=>?_⟩
 rw [h.fl.mem_iff]
 constructor
 ·intro hx
  obtain ⟨j,hj,rfl⟩:=List.mem_map.1 hx
  exact nm_lt P (List.mem_range.1 hj)
 ·intro hx
  have hsub:=nd
  by_cases q:x∈(List.range ks.length).map (nmF ks tw)
  ·exact q
  ·exfalso
   have h1:(x :: (List.range ks.length).map (nmF ks tw)).Nodup:=List.nodup_cons.2 ⟨q,nd⟩
   have h2:=nodup_leP (n:=ks.length) h1 fun y hy=>by
    rcases List.mem_cons.1 hy with e | e
    ·rw [e];exact hx
    ·obtain ⟨j,hj,rfl⟩:=List.mem_map.1 e
     exact nm_lt P (List.mem_range.1 hj)
   simp at h2
   omega
end
theorem DMt.turns {ks:List Nat} {tw:Nat→Nat} {ps:List GEl} {st:List Nat} (h:DMt ks tw ks.length ps st) (W:Wd ks tw):TurnW ks tw (zL (ps.map (·.2)) ks.length):=by
 obtain ⟨hnd,hmem⟩:=h.done W.P
 obtain ⟨keys,hky⟩:=h.ky
 refine ⟨zL_len _ _,fun j hj=>?_⟩
 have hx:=nm_lt W.P hj
 obtain ⟨r,k,hr,hk,e⟩:=mem_rows ((hmem _).2 hx)
 show (zL _ _).getD _ 0=_
 rw [zL_get _ hx,← e,zR_at hnd hr hk]
 have hrow:=hky.row r hr
 obtain ⟨L,hL⟩:∃ L,L=plL ks tw (keys.getD r none) ks.length:=⟨_,rfl⟩
 rw [← hL] at hrow
 rw [hrow] at hk e ⊢
 have hk':k < L.length:=by simpa using hk
 have gm:∀ i,i < L.length→(L.map (nmF ks tw)).getD i 0=nmF ks tw (L.getD i 0):=fun i hi=>by
  rw [List.getD_eq_getElem?_getD,List.getElem?_map,List.getD_eq_getElem?_getD,List.getElem?_eq_getElem hi];rfl
 have hm:L.getD k 0 < ks.length:=by
  have:L.getD k 0∈L:=by rw [List.getD_eq_getElem?_getD,List.getElem?_eq_getElem hk'];exact List.getElem_mem hk'
  rw [hL] at this
  exact (plL_mem.1 (by rw [← hL] at this ⊢;exact this)).1
 rw [gm k hk'] at e
 have ej:=nm_inj W.P hm hj e
 have nx:=W.next (q:=keys.getD r none) (k:=k) (j:=j) (by rw [← hL];exact hk') (by rw [← hL];exact ej)
 rw [← hL] at nx
 rw [← nx]
 unfold nxR
 rw [List.length_map]
 by_cases c:k+1 < L.length
 ·rw [if_pos c,if_pos c,gm _ c]
 ·rw [if_neg c,if_neg c,gm _ (by omega)]
def Told (os:List (List Nat)) (y:List Int) (r j:Nat):Prop :=
 (∀ r' i',r' < r→r' < os.length→i' < (os.getD r' []).length→y.getD ((os.getD r' []).getD i' 0) 0=((zR os ((os.getD r' []).getD i' 0):Nat):Int)) ∧
 ∀ i',i' < j→i' < (os.getD r []).length→y.getD ((os.getD r []).getD i' 0) 0=((zR os ((os.getD r []).getD i' 0):Nat):Int)
theorem told_put {os:List (List Nat)} {y:List Int} {r j x z:Nat} (h:Told os y r j) (hx:(os.getD r []).getD j 0=x) (hxy:x < y.length) (hz:zR os x=z):Told os (y.set x (z:Int)) r (j+1):=by
 have gs:∀ (b:Nat),(y.set x (z:Int)).getD b 0=if b=x then (z:Int) else y.getD b 0:=fun b=>by
  rw [List.getD_eq_getElem?_getD,List.getElem?_set]
  by_cases e:x=b
  ·subst e;simp [hxy]
  ·rw [if_neg e,if_neg (Ne.symm e),← List.getD_eq_getElem?_getD]
 refine ⟨fun r' i' h1 h2 h3=>?_,fun i' h1 h2=>?_⟩
 ·rw [gs]
  by_cases e:(os.getD r' []).getD i' 0=x
  ·rw [if_pos e,e,hz]
  ·rw [if_neg e];exact h.1 r' i' h1 h2 h3
 ·rw [gs]
  by_cases e:(os.getD r []).getD i' 0=x
  ·rw [if_pos e,e,hz]
  ·rw [if_neg e]
   by_cases c:i'=j
   ·subst c;exact absurd hx e
   ·exact h.2 i' (by omega) h2
theorem told_row {os:List (List Nat)} {y:List Int} {r:Nat} (h:Told os y r (os.getD r []).length):Told os y (r+1) 0 :=
 ⟨fun r' i' h1 h2 h3=>by
  by_cases e:r'=r
  ·subst e;exact h.2 i' h3 h3
  ·exact h.1 r' i' (by omega) h2 h3,fun i' h1=>absurd h1 (by omega)⟩
theorem told_all {os:List (List Nat)} {y:List Int} {n:Nat} (h:Told os y os.length 0) (hy:y.length=n) (hm:∀ x,x∈os.flatten↔x < n):y=ofN (zL os n):=by
 apply List.ext_getElem
 ·rw [ofN_len,zL_len,hy]
 ·intro i h1 h2
  have hi:i < n:=by omega
  have e1:y[i]=y.getD i 0:=by rw [List.getD_eq_getElem?_getD,List.getElem?_eq_getElem h1];rfl
  have e2:(ofN (zL os n))[i]=(((zL os n).getD i 0:Nat):Int):=by rw [← ofN_get,List.getD_eq_getElem?_getD,List.getElem?_eq_getElem h2];rfl
  rw [e1,e2,zL_get os hi]
  obtain ⟨r,k,hr,hk,e⟩:=mem_rows ((hm i).2 hi)
  rw [← e]
  exact h.1 r k hr hr hk
end Go.Proofs.YtijbdnhlpbcabaaGreatDoor
