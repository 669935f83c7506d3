/- Decode of the document: the rows around vertices and the stack while the letters are read. -/
import Derived.Test.YtijbdnhlpbcabaaGreatDoorZg26
import Derived.Test.YtijbdnhlpbcabaaGreatDoorZg28
import Derived.Test.YtijbdnhlpbcabaaGreatDoorZg17
import Derived.Deep.AppendLies
import Derived.BigRegion
import Derived.Test.YtijbdnhlpbcabaaGreatDoorZg6
open Go.RowKit
set_option linter.unusedVariables false
set_option linter.unusedSimpArgs false
namespace Go.Proofs.YtijbdnhlpbcabaaGreatDoor
set_option maxRecDepth 100000
structure DSt (w0 w:World) (B:Nat) (A:Option Addr) (c:Nat) (ps:List GEl) (As:Option Addr) (cs:Nat) (st:List Nat):Prop where
 g:GRow w B A c ps
 s:w.ownsRow B 3 1 (.slice As st.length cs) st.length (I64 (ofN st))
 dj:∀ j,j < ps.length→∀ k,(ps.getD j gE0).1.ownBlock=some k→(Value.slice As st.length cs).ownBlock≠some k
 bel:Below B w0 w
theorem GRow.modG {w w':World} {base c:Nat} {A:Option Addr} {ps:List GEl} {S:Nat→Prop} (h:GRow w base A c ps) (m:Mod S w w') (h1:∀ k,(Value.slice A ps.length c).ownBlock=some k→¬ S k) (h2:∀ j,j < ps.length→∀ k,(ps.getD j gE0).1.ownBlock=some k→¬ S k):GRow w' base A c ps :=
 ⟨own_mod h.own m h1,fun j hj=>⟨(h.inn j hj).1,own_mod (h.inn j hj).2 m (h2 j hj)⟩,h.dj⟩
section
variable {w0 w w':World} {B c cs:Nat} {A As:Option Addr} {ps:List GEl} {st:List Nat}
theorem DSt.below (h:DSt w0 w B A c ps As cs st) (hb:B≤w.heap.size) (m:Below w.heap.size w w'):DSt w0 w' B A c ps As cs st :=
 ⟨h.g.below m,own_below h.s m,h.dj,h.bel.trans (m.mono hb)⟩
theorem DSt.grow {g:Nat} (h:DSt w0 w B (some ⟨g,0,none⟩) c ps As cs st) (hb:B≤w.heap.size) {j d:Nat} (hj:j < ps.length) (hn:(ps.getD j gE0).2.length≤1000000) :
  ∃ A1 cj A2 c2 w2,(ps.getD j gE0).1=.slice A1 (ps.getD j gE0).2.length cj∧(Builtin.append_ #[25,25] 25 #[.slice A1 (ps.getD j gE0).2.length cj,.slice (some ⟨w.heap.size,0,none⟩) 1 1]).run Tryz.prog (w.alloc (.cells #[.int .i64 (d:Int)] 3))=.ok (.slice A2 ((ps.getD j gE0).2.length+1) c2) w2 ∧
   w2.cell? ⟨g,j,none⟩=some (.slice A1 (ps.getD j gE0).2.length cj)∧w2.frozen? ⟨g,j,none⟩=false ∧
   DSt w0 (w2.setCell ⟨g,j,none⟩ (.slice A2 ((ps.getD j gE0).2.length+1) c2)) B (some ⟨g,0,none⟩) c (ps.set j (.slice A2 ((ps.getD j gE0).2.length+1) c2,(ps.getD j gE0).2++[d])) As cs st:=by
 obtain ⟨A1,cj,A2,c2,w2,e1,hrun,hc,hf,hg,hbl,hm,hnew⟩:=h.g.grow hb (d:=d) hj hn
 refine ⟨A1,cj,A2,c2,w2,e1,hrun,hc,hf,hg,own_mod h.s hm (fun k hk q=>?_),fun i hi k hk=>?_,h.bel.trans hbl⟩
 ·rcases q with q | q
  ·exact own_own_neG h.s h.g.own (by decide) hk (by rw [q];simp [Value.ownBlock])
  ·exact h.dj j hj k q.symm hk
 ·rw [List.length_set] at hi
  rw [getD_setR _ _ _ _ _ hj] at hk
  by_cases e:i=j
  ·rw [if_pos e] at hk
   rcases hnew k hk with n1 | n1
   ·exact h.dj j hj k n1
   ·intro c;have:=(h.s.lt k c).2;omega
  ·rw [if_neg e] at hk;exact h.dj i hi k hk
theorem DSt.push (h:DSt w0 w B A c ps As cs st) (hb:B≤w.heap.size) (x:Nat) (hn:st.length≤1000000) :
  ∃ A2 c2 w2,(Builtin.append_ #[25,25] 25 #[.slice As st.length cs,.slice (some ⟨w.heap.size,0,none⟩) 1 1]).run Tryz.prog (w.alloc (.cells #[.int .i64 (x:Int)] 3))=.ok (.slice A2 (st.length+1) c2) w2 ∧
   DSt w0 w2 B A c ps A2 c2 (st++[x]):=by
 obtain ⟨i0,hi0,hz0,hz1,hz2⟩:=info_parts info_int
 have hal:Below w.heap.size w (w.alloc (.cells #[.int .i64 (x:Int)] 3)):=(Below.refl _ _).alloc (Nat.le_refl _) _
 have h1:=h.below hb hal
 have rd:=Rd.new w 3 #[.int .i64 (x:Int)] 1 [.int .i64 (x:Int)] rfl rfl
 obtain ⟨v',w2,hrun,hnew,hgr,hob⟩:=run_append_rd (P:=Tryz.prog) (w.alloc (.cells #[.int .i64 (x:Int)] 3)) B 25 25 3 i0 (.int .i64 0) 8 Tryz.underlying25 hi0 hz0 hz1 hz2 rfl _ _ _ h1.s (w.heap.size+1) (some ⟨w.heap.size,0,none⟩) 1 1 _ rd (by simp [Value.oneCell']) (by simp only [maxLen];omega) (by omega) (by simp;omega)
 obtain ⟨A2,c2,rfl,_,_⟩:=own_form hnew
 have MG:=Mod.ofGrown hgr
 have hl:(st++[x]).length=st.length+1:=by simp
 refine ⟨A2,c2,w2,hrun,h1.g.modG MG (fun k hk q=>own_own_neG h1.s h1.g.own (by decide) q.symm hk) (fun j hj k hk q=>h.dj j hj k hk q.symm),?_,fun j hj k hk=>?_,?_⟩
 ·rw [hl,ofN_snocR];exact hnew
 ·rw [hl]
  rcases hob with q | q
  ·rw [q];exact h.dj j hj k hk
  ·rw [q]
   intro c
   have:=Option.some.inj c
   have:=((h.g.inn j hj).2.lt k hk).2
   simp at *;omega
 ·exact (h.bel.alloc hb _).trans (Below.appended h1.s hgr (by simp;omega))
theorem DSt.snoc (h:DSt w0 w B A c ps As cs st) (hb:B≤w.heap.size) (hn:ps.length≤1000000) :
  ∃ A1 c1 w2,(Builtin.append_ #[109,109] 109 #[.slice A ps.length c,.slice (some ⟨w.heap.size,0,none⟩) 1 1]).run Tryz.prog (w.alloc (.cells #[.slice none 0 0] 25))=.ok (.slice A1 (ps.length+1) c1) w2 ∧
   DSt w0 w2 B A1 c1 (ps++[(.slice none 0 0,[])]) As cs st:=by
 obtain ⟨A1,c1,w2,hrun,hg,hbl,hm⟩:∃ A1 c1 w2,(Builtin.append_ #[109,109] 109 #[.slice A ps.length c,.slice (some ⟨w.heap.size,0,none⟩) 1 1]).run Tryz.prog (w.alloc (.cells #[.slice none 0 0] 25))=.ok (.slice A1 (ps.length+1) c1) w2 ∧
   GRow w2 B A1 c1 (ps++[(.slice none 0 0,[])])∧Below B w w2∧Mod (fun q=>some q=(Value.slice A ps.length c).ownBlock) w w2:=h.g.snocM hb hn
 refine ⟨A1,c1,w2,hrun,hg,own_mod h.s hm (fun k hk q=>own_own_neG h.s h.g.own (by decide) hk q.symm),fun j hj k hk=>?_,h.bel.trans hbl⟩
 rw [List.length_append] at hj
 by_cases e:j < ps.length
 ·rw [List.getD_eq_getElem?_getD,List.getElem?_append_left e,← List.getD_eq_getElem?_getD] at hk
  exact h.dj j e k hk
 ·obtain rfl:j=ps.length:=by simp at hj;omega
  simp [List.getD_eq_getElem?_getD,Value.ownBlock] at hk
theorem DSt.pop (h:DSt w0 w B A c ps As cs st) {k:Nat} (hk:st.length=k+1):DSt w0 w B A c ps As cs (st.take k):=by
 have oc:=own_cut h.s (show k≤st.length by omega) (by omega)
 have hl:(st.take k).length=k:=by rw [List.length_take];omega
 have hI:(I64 (ofN st)).take k=I64 (ofN (st.take k)):=by simp [I64,ofN,List.map_take]
 rw [hI] at oc
 refine ⟨h.g,by rw [hl];exact oc,fun j hj q hq=>?_,h.bel⟩
 have:=h.dj j hj q hq
 rw [hl]
 intro e
 refine this ?_
 cases As with
 | none=>simp [Value.ownBlock] at e
 | some a =>
   rcases h.s.2 with ⟨e1,_⟩ | ⟨g,cap,cur,e1,_⟩
   ·simp at e1
   ·simp only [Value.slice.injEq,Option.some.injEq] at e1
    obtain ⟨rfl,_,_⟩:=e1
    simpa [Value.ownBlock] using e
end
theorem nodup_leP {n:Nat} {Q:List Nat} (nd:Q.Nodup) (lt:∀ x∈Q,x < n):Q.length≤n:=by
 have:=List.Nodup.length_le_of_subset nd (l₂:=List.range n) fun x hx=>List.mem_range.2 (lt x hx)
 rwa [List.length_range] at this
structure Kys (ks:List Nat) (tw:Nat→Nat) (i:Nat) (os:List (List Nat)) (st:List Nat) (keys:List (Option Nat)):Prop where
 len:keys.length=os.length
 row:∀ r,r < os.length→os.getD r []=(plL ks tw (keys.getD r none) i).map (nmF ks tw)
 nd:keys.Nodup
 lt:∀ o,some o∈keys→o < i
 sl:∀ v∈st,v < keys.length
 sm:st.map (fun v=>keys.getD v none)=none :: (UU ks tw 0 i).map some
theorem key_inj {keys:List (Option Nat)} (h:keys.Nodup) {r v:Nat} (hr:r < keys.length) (hv:v < keys.length) (e:keys.getD r none=keys.getD v none):r=v:=by
 rw [List.getD_eq_getElem?_getD,List.getD_eq_getElem?_getD,List.getElem?_eq_getElem hr,List.getElem?_eq_getElem hv] at e
 exact (List.getElem_inj h).1 e
theorem cons_last (U:List Nat):(none :: U.map some).getLast?=some U.getLast?:=by
 rw [List.getLast?_cons,List.getLast?_map]
 cases U.getLast? <;> rfl
theorem Kys.top {ks:List Nat} {tw:Nat→Nat} {i:Nat} {os:List (List Nat)} {st:List Nat} {keys:List (Option Nat)} (h:Kys ks tw i os st keys) {k:Nat} (hk:st.length=k+1):keys.getD (st.getD k 0) none=ownP 0 ks tw i:=by
 have e:=congrArg List.getLast? h.sm
 rw [cons_last,List.getLast?_map,List.getLast?_eq_getElem?,hk,Nat.add_sub_cancel,List.getElem?_eq_getElem (by omega)] at e
 have e2:st.getD k 0=st[k]:=by rw [List.getD_eq_getElem?_getD,List.getElem?_eq_getElem (by omega)];rfl
 rw [e2]
 exact Option.some.inj e
theorem Kys.put {ks:List Nat} {tw:Nat→Nat} {i:Nat} {os:List (List Nat)} {st:List Nat} {keys:List (Option Nat)} (h:Kys ks tw i os st keys) {v:Nat} (hv:v < os.length) (ht:keys.getD v none=ownP 0 ks tw i) :
  ∀ r,r < os.length→(os.set v (os.getD v []++[nmF ks tw i])).getD r []=(plL ks tw (keys.getD r none) (i+1)).map (nmF ks tw):=fun r hr=>by
 rw [List.getD_eq_getElem?_getD,List.getElem?_set]
 by_cases e:v=r
 ·subst e
  rw [if_pos rfl,if_pos hv,Option.getD_some,plL_in ht.symm,List.map_append,h.row v hv];rfl
 ·rw [if_neg e,← List.getD_eq_getElem?_getD,plL_out (fun q=>e (key_inj h.nd (by rw [h.len];exact hv) (by rw [h.len];exact hr) (by rw [ht,q]))),h.row r hr]
theorem Kys.opn {ks:List Nat} {tw:Nat→Nat} {i:Nat} {os:List (List Nat)} {st:List Nat} {keys:List (Option Nat)} (h:Kys ks tw i os st keys) (P:Prg ks tw) (hi:i < ks.length) (hk:ks.getD i 0=0) {v:Nat} (hv:v < os.length) (ht:keys.getD v none=ownP 0 ks tw i) :
  Kys ks tw (i+1) (os.set v (os.getD v []++[nmF ks tw i])++[[]]) (st++[os.length]) (keys++[some i]):=by
 have lo:=h.len
 have hU:=UU_open (s:=0) P hi (by rw [hk]) ((P.opn i hi).1 (by rw [hk]))
 have gl:∀ x,x < keys.length→(keys++[some i]).getD x none=keys.getD x none:=fun x hx=>by
  rw [List.getD_eq_getElem?_getD,List.getElem?_append_left hx,← List.getD_eq_getElem?_getD]
 have ge:(keys++[some i]).getD os.length none=some i:=by
  rw [List.getD_eq_getElem?_getD,List.getElem?_append_right (by omega),lo,Nat.sub_self];rfl
 refine ⟨by simp [lo],fun r hr=>?_,?_,fun o ho=>?_,fun x hx=>?_,?_⟩
 ·rw [List.length_append,List.length_set] at hr
  by_cases e:r < os.length
  ·rw [gl r (by omega),List.getD_eq_getElem?_getD,List.getElem?_append_left (by rw [List.length_set];exact e),← List.getD_eq_getElem?_getD]
   exact h.put hv ht r e
  ·obtain rfl:r=os.length:=by simp at hr;omega
   rw [ge,List.getD_eq_getElem?_getD,List.getElem?_append_right (by rw [List.length_set];exact Nat.le_refl _),List.length_set,Nat.sub_self]
   have:plL ks tw (some i) (i+1)=[]:=by
    rw [List.eq_nil_iff_forall_not_mem]
    intro x hx
    obtain ⟨a,b⟩:=plL_mem.1 hx
    have:=(ownP_mem b).1
    omega
   rw [this];rfl
 ·rw [List.nodup_append]
  refine ⟨h.nd,by simp,fun a ha b hb e=>?_⟩
  simp at hb
  rw [e,hb] at ha
  have:=h.lt i ha
  omega
 ·rcases List.mem_append.1 ho with q | q
  ·have:=h.lt o q;omega
  ·simp at q;omega
 ·rw [List.length_append]
  rcases List.mem_append.1 hx with q | q
  ·have:=h.sl x q;simp;omega
  ·simp at q;simp;omega
 ·rw [hU,List.map_append,List.map_append,← List.cons_append,← h.sm]
  have e1:st.map (fun v=>(keys++[some i]).getD v none)=st.map (fun v=>keys.getD v none):=List.map_congr_left fun x hx=>gl x (h.sl x hx)
  rw [e1]
  simp only [List.map_cons,List.map_nil]
  rw [ge]
theorem Kys.shut {ks:List Nat} {tw:Nat→Nat} {i:Nat} {os:List (List Nat)} {st:List Nat} {keys:List (Option Nat)} (h:Kys ks tw i os st keys) (P:Prg ks tw) (hX:NX ks tw 0) (hi:i < ks.length) (hk:ks.getD i 0=1) {v:Nat} (hv:v < os.length) (ht:keys.getD v none=ownP 0 ks tw i) {k:Nat} (hst:st.length=k+1) :
  Kys ks tw (i+1) (os.set v (os.getD v []++[nmF ks tw i])) (st.take k) keys:=by
 have hc:tw i < i:=by
  have a:=P.opn i hi
  have ne:=P.ne i hi
  have:¬ i < tw i:=fun q=>by have:=a.2 q;omega
  omega
 have hU:=UU_last (s:=0) P hX hi (by rw [hk]) hc
 refine ⟨by simp [h.len],fun r hr=>h.put hv ht r (by simpa using hr),h.nd,fun o ho=>by have:=h.lt o ho;omega,fun x hx=>h.sl x (List.mem_of_mem_take hx),?_⟩
 rw [List.map_take,h.sm,hU,List.map_append,← List.cons_append]
 have hl:=congrArg List.length h.sm
 rw [hU] at hl
 simp at hl
 rw [List.take_append_of_le_length (by simp;omega),List.take_of_length_le (by simp;omega)]
theorem Kys.skip {ks:List Nat} {tw:Nat→Nat} {i:Nat} {os:List (List Nat)} {st:List Nat} {keys:List (Option Nat)} (h:Kys ks tw i os st keys) (P:Prg ks tw) (hi:i < ks.length) (hk:ks.getD i 0 / 2≠0) {v:Nat} (hv:v < os.length) (ht:keys.getD v none=ownP 0 ks tw i) :
  Kys ks tw (i+1) (os.set v (os.getD v []++[nmF ks tw i])) st keys:=by
 refine ⟨by simp [h.len],fun r hr=>h.put hv ht r (by simpa using hr),h.nd,fun o ho=>by have:=h.lt o ho;omega,h.sl,?_⟩
 rw [h.sm,UU_skip P hi hk]
structure DMt (ks:List Nat) (tw:Nat→Nat) (i:Nat) (ps:List GEl) (st:List Nat):Prop where
 fl:((ps.map (·.2)).flatten).Perm ((List.range i).map (nmF ks tw))
 stk:∀ x,x∈st→x < ps.length
 os:∃ S,OStk ks i S∧st.length=S.length+1
 pl:ps.length≤i+1
 sl:st.length≤i+1
 rl:∀ j,j < ps.length→(ps.getD j gE0).2.length≤i
 ky:∃ keys,Kys ks tw i (ps.map (·.2)) st keys
section
variable {ks:List Nat} {tw:Nat→Nat} {i:Nat} {ps:List GEl} {st:List Nat}
theorem DMt.nil (ks:List Nat) (tw:Nat→Nat):DMt ks tw 0 [(.slice none 0 0,[])] [0]:=by
 refine ⟨by simp,by simp,⟨[],OStk.nil ks,rfl⟩,by simp,by simp,fun j hj=>?_,[none],⟨rfl,fun r hr=>?_,by simp,fun o ho=>by simp at ho,by simp,rfl⟩⟩
 rotate_left
 ·obtain rfl:r=0:=by simp at hr;omega
  rfl
 obtain rfl:j=0:=by simp at hj;omega
 exact Nat.le_refl _
theorem snd_getD (ps:List GEl) (j:Nat) (h:j < ps.length):(ps.map (·.2)).getD j []=(ps.getD j gE0).2:=by
 rw [List.getD_eq_getElem?_getD,List.getElem?_map,List.getD_eq_getElem?_getD,List.getElem?_eq_getElem h];rfl
theorem put_snd (ps:List GEl) {v:Nat} (hv:v < ps.length) (x:Value) (y:Nat):(ps.set v (x,(ps.getD v gE0).2++[y])).map (·.2)=(ps.map (·.2)).set v ((ps.map (·.2)).getD v []++[y]):=by
 rw [List.map_set,snd_getD ps v hv]
theorem DMt.put (h:DMt ks tw i ps st) {v:Nat} (hv:v < ps.length) (x:Value) :
  (((ps.set v (x,(ps.getD v gE0).2++[nmF ks tw i])).map (·.2)).flatten).Perm ((List.range (i+1)).map (nmF ks tw)) ∧
  ∀ j,j < ps.length→((ps.set v (x,(ps.getD v gE0).2++[nmF ks tw i])).getD j gE0).2.length≤i+1:=by
 refine ⟨?_,fun j hj=>?_⟩
 ·have e:(ps.set v (x,(ps.getD v gE0).2++[nmF ks tw i])).map (·.2)=(ps.map (·.2)).set v ((ps.map (·.2)).getD v []++[nmF ks tw i]):=by
   rw [List.map_set,snd_getD ps v hv]
  rw [e,List.range_succ,List.map_append]
  exact (flat_set _ v _ (by simpa using hv)).trans (h.fl.append_right _)
 ·rw [getD_setR _ _ _ _ _ hv]
  by_cases e:j=v
  ·rw [if_pos e]
   have:=h.rl v hv
   show ((ps.getD v gE0).2++[nmF ks tw i]).length≤_
   rw [List.length_append]
   have h1:[nmF ks tw i].length=1:=rfl
   omega
  ·rw [if_neg e];have:=h.rl j hj;omega
theorem DMt.opn (h:DMt ks tw i ps st) (W:Wd ks tw) (hi:i < ks.length) (hk:ks.getD i 0=0) {v k:Nat} (hv:v < ps.length) (hst:st.length=k+1) (hvs:v=st.getD k 0) (x:Value) :
  DMt ks tw (i+1) (ps.set v (x,(ps.getD v gE0).2++[nmF ks tw i])++[(.slice none 0 0,[])]) (st++[ps.length]):=by
 obtain ⟨h1,h2⟩:=h.put hv x
 have hl:(ps.set v (x,(ps.getD v gE0).2++[nmF ks tw i])).length=ps.length:=by simp
 obtain ⟨keys,hky⟩:=h.ky
 refine ⟨?_,fun y hy=>?_,?_,?_,by rw [List.length_append];have:=h.sl;simp;omega,fun j hj=>?_,keys++[some i],?_⟩
 rotate_right
 ·have:=hky.opn W.P hi hk (v:=v) (by simpa using hv) (by rw [hvs];exact hky.top hst)
  rw [← put_snd ps hv x,List.length_map] at this
  rw [List.map_append];exact this
 ·rw [List.map_append]
  show ((_++[[]]).flatten).Perm _
  rw [flat_snoc];exact h1
 ·rw [List.length_append,hl]
  rcases List.mem_append.1 hy with q | q
  ·have:=h.stk y q;simp;omega
  ·simp at q;simp;omega
 ·obtain ⟨S,hS,hSl⟩:=h.os
  exact ⟨_,hS.push hi hk,by simp [hSl]⟩
 ·rw [List.length_append,hl];have:=h.pl;simp;omega
 ·rw [List.length_append,hl] at hj
  by_cases e:j < ps.length
  ·rw [List.getD_eq_getElem?_getD,List.getElem?_append_left (by rw [hl];exact e),← List.getD_eq_getElem?_getD];exact h2 j e
  ·obtain rfl:j=ps.length:=by simp at hj;omega
   rw [List.getD_eq_getElem?_getD,List.getElem?_append_right (by rw [hl];exact Nat.le_refl _),hl];simp
theorem DMt.shut (h:DMt ks tw i ps st) (W:Wd ks tw) (hB:Bal (exc (val (ownL 0 ks))) (ownL 0 ks).length) (hi:i < ks.length) (hk:ks.getD i 0=1) {v:Nat} (hv:v < ps.length) (x:Value) {k:Nat} (hst:st.length=k+1) (hvs:v=st.getD k 0) :
  DMt ks tw (i+1) (ps.set v (x,(ps.getD v gE0).2++[nmF ks tw i])) (st.take k):=by
 obtain ⟨keys,hky⟩:=h.ky
 obtain ⟨h1,h2⟩:=h.put hv x
 obtain ⟨S,hS,hSl⟩:=h.os
 obtain ⟨q1,q2⟩:=hS.pop hB hi hk
 exact ⟨h1,fun y hy=>by rw [List.length_set];exact h.stk y (List.mem_of_mem_take hy),⟨_,q2,by simp;omega⟩,by rw [List.length_set];have:=h.pl;omega,by have:=h.sl;first | omega | (rw [List.length_take];omega),fun j hj=>h2 j (by simpa using hj),keys,by
  have:=hky.shut W.P W.x0 hi hk (v:=v) (by simpa using hv) (by rw [hvs];exact hky.top hst) hst
  rw [← put_snd ps hv x] at this
  exact this⟩
theorem DMt.skip (h:DMt ks tw i ps st) (W:Wd ks tw) (hi:i < ks.length) (hk:ks.getD i 0 / 2≠0) {v k:Nat} (hv:v < ps.length) (hst:st.length=k+1) (hvs:v=st.getD k 0) (x:Value) :
  DMt ks tw (i+1) (ps.set v (x,(ps.getD v gE0).2++[nmF ks tw i])) st:=by
 obtain ⟨keys,hky⟩:=h.ky
 obtain ⟨h1,h2⟩:=h.put hv x
 obtain ⟨S,hS,hSl⟩:=h.os
 exact ⟨h1,fun y hy=>by rw [List.length_set];exact h.stk y hy,⟨_,hS.skip hi hk,hSl⟩,by rw [List.length_set];have:=h.pl;omega,by have:=h.sl;first | omega | (rw [List.length_take];omega),fun j hj=>h2 j (by simpa using hj),keys,by
  have:=hky.skip W.P hi hk (v:=v) (by simpa using hv) (by rw [hvs];exact hky.top hst)
  rw [← put_snd ps hv x] at this
  exact this⟩
theorem DMt.done (h:DMt ks tw ks.length ps st) (P:Prg ks tw):((ps.map (·.2)).flatten).Nodup∧∀ x,x∈(ps.map (·.2)).flatten↔x < ks.length:=by
 have nd:((List.range ks.length).map (nmF ks tw)).Nodup:=by
  rw [List.nodup_iff_pairwise_ne]
  rw [List.pairwise_map]
  refine List.Pairwise.imp_of_mem ?_ List.nodup_range
  intro a b ha hb hab e
  exact hab (nm_inj P (List.mem_range.1 ha) (List.mem_range.1 hb) e)
 refine ⟨h.fl.nodup_iff.2 nd,fun x=>?_⟩
 rw [h.fl.mem_iff]
 constructor
 ·intro hx
  obtain ⟨j,hj,rfl⟩:=List.mem_map.1 hx
  exact nm_lt P (List.mem_range.1 hj)
 ·intro hx
  have hsub:=nd
  by_cases q:x∈(List.range ks.length).map (nmF ks tw)
  ·exact q
  ·exfalso
   have h1:(x :: (List.range ks.length).map (nmF ks tw)).Nodup:=List.nodup_cons.2 ⟨q,nd⟩
   have h2:=nodup_leP (n:=ks.length) h1 fun y hy=>by
    rcases List.mem_cons.1 hy with e | e
    ·rw [e];exact hx
    ·obtain ⟨j,hj,rfl⟩:=List.mem_map.1 e
     exact nm_lt P (List.mem_range.1 hj)
   simp at h2
   omega
end
theorem DMt.turns {ks:List Nat} {tw:Nat→Nat} {ps:List GEl} {st:List Nat} (h:DMt ks tw ks.length ps st) (W:Wd ks tw):TurnW ks tw (zL (ps.map (·.2)) ks.length):=by
 obtain ⟨hnd,hmem⟩:=h.done W.P
 obtain ⟨keys,hky⟩:=h.ky
 refine ⟨zL_len _ _,fun j hj=>?_⟩
 have hx:=nm_lt W.P hj
 obtain ⟨r,k,hr,hk,e⟩:=mem_rows ((hmem _).2 hx)
 show (zL _ _).getD _ 0=_
 rw [zL_get _ hx,← e,zR_at hnd hr hk]
 have hrow:=hky.row r hr
 obtain ⟨L,hL⟩:∃ L,L=plL ks tw (keys.getD r none) ks.length:=⟨_,rfl⟩
 rw [← hL] at hrow
 rw [hrow] at hk e ⊢
 have hk':k < L.length:=by simpa using hk
 have gm:∀ i,i < L.length→(L.map (nmF ks tw)).getD i 0=nmF ks tw (L.getD i 0):=fun i hi=>by
  rw [List.getD_eq_getElem?_getD,List.getElem?_map,List.getD_eq_getElem?_getD,List.getElem?_eq_getElem hi];rfl
 have hm:L.getD k 0 < ks.length:=by
  have:L.getD k 0∈L:=by rw [List.getD_eq_getElem?_getD,List.getElem?_eq_getElem hk'];exact List.getElem_mem hk'
  rw [hL] at this
  exact (plL_mem.1 (by rw [← hL] at this ⊢;exact this)).1
 rw [gm k hk'] at e
 have ej:=nm_inj W.P hm hj e
 have nx:=W.next (q:=keys.getD r none) (k:=k) (j:=j) (by rw [← hL];exact hk') (by rw [← hL];exact ej)
 rw [← hL] at nx
 rw [← nx]
 unfold nxR
 rw [List.length_map]
 by_cases c:k+1 < L.length
 ·rw [if_pos c,if_pos c,gm _ c]
 ·rw [if_neg c,if_neg c,gm _ (by omega)]
def Told (os:List (List Nat)) (y:List Int) (r j:Nat):Prop :=
 (∀ r' i',r' < r→r' < os.length→i' < (os.getD r' []).length→y.getD ((os.getD r' []).getD i' 0) 0=((zR os ((os.getD r' []).getD i' 0):Nat):Int)) ∧
 ∀ i',i' < j→i' < (os.getD r []).length→y.getD ((os.getD r []).getD i' 0) 0=((zR os ((os.getD r []).getD i' 0):Nat):Int)
theorem told_put {os:List (List Nat)} {y:List Int} {r j x z:Nat} (h:Told os y r j) (hx:(os.getD r []).getD j 0=x) (hxy:x < y.length) (hz:zR os x=z):Told os (y.set x (z:Int)) r (j+1):=by
 have gs:∀ (b:Nat),(y.set x (z:Int)).getD b 0=if b=x then (z:Int) else y.getD b 0:=fun b=>by
  rw [List.getD_eq_getElem?_getD,List.getElem?_set]
  by_cases e:x=b
  ·subst e;simp [hxy]
  ·rw [if_neg e,if_neg (Ne.symm e),← List.getD_eq_getElem?_getD]
 refine ⟨fun r' i' h1 h2 h3=>?_,fun i' h1 h2=>?_⟩
 ·rw [gs]
  by_cases e:(os.getD r' []).getD i' 0=x
  ·rw [if_pos e,e,hz]
  ·rw [if_neg e];exact h.1 r' i' h1 h2 h3
 ·rw [gs]
  by_cases e:(os.getD r []).getD i' 0=x
  ·rw [if_pos e,e,hz]
  ·rw [if_neg e]
   by_cases c:i'=j
   ·subst c;exact absurd hx e
   ·exact h.2 i' (by omega) h2
theorem told_row {os:List (List Nat)} {y:List Int} {r:Nat} (h:Told os y r (os.getD r []).length):Told os y (r+1) 0 :=
 ⟨fun r' i' h1 h2 h3=>by
  by_cases e:r'=r
  ·subst e;exact h.2 i' h3 h3
  ·exact h.1 r' i' (by omega) h2 h3,fun i' h1=>absurd h1 (by omega)⟩
theorem told_all {os:List (List Nat)} {y:List Int} {n:Nat} (h:Told os y os.length 0) (hy:y.length=n) (hm:∀ x,x∈os.flatten↔x < n):y=ofN (zL os n):=by
 apply List.ext_getElem
 ·rw [ofN_len,zL_len,hy]
 ·intro i h1 h2
  have hi:i < n:=by omega
  have e1:y[i]=y.getD i 0:=by rw [List.getD_eq_getElem?_getD,List.getElem?_eq_getElem h1];rfl
  have e2:(ofN (zL os n))[i]=(((zL os n).getD i 0:Nat):Int):=by rw [← ofN_get,List.getD_eq_getElem?_getD,List.getElem?_eq_getElem h2];rfl
  rw [e1,e2,zL_get os hi]
  obtain ⟨r,k,hr,hk,e⟩:=mem_rows ((hm i).2 hi)
  rw [← e]
  exact h.1 r k hr hr hk
end Go.Proofs.YtijbdnhlpbcabaaGreatDoor
namespace Go.Proofs.YtijbdnhlpbcabaaGreatDoor
set_option maxRecDepth 100000
theorem step_append_runD {P:Program} (w:World) {ops:Array Oper} {o:Oper} {a:Act} {K:Act→World→Prop} {Q:Exit→Act→World→Prop} {E:Prop} (hw:Region.wanted o (yielded ops a.tmps)=true) (s x:Operand) (t:TypeId)
  (ho:o.op=.call { callee:=.builtin .append,args:=#[s,x],argTypes:=#[t,t] }) (v u v':Value) (w':World) (hs:a.eval s=v) (hx:a.eval x=u)
  (hr:(Builtin.append_ #[t,t] o.type #[v,u]).run P w=.ok v' w') (h:K (a.put o.dst v') w') :
  if Region.wanted o (yielded ops a.tmps)=true then Oper.wp P o a w K Q else E:=by
 rw [if_pos hw]
 unfold Oper.wp execOp
 simp only [ho,resolve,invoke,builtin,Sem.run_bind,Sem.run_pure,Result.andThen_ok,List.map_toArray,List.map_cons,List.map_nil,hs,hx,hr]
 exact h
set_option maxHeartbeats 16000000 in
theorem rdecode_p (A:Option Addr) (n c:Nat) (ks:List Nat) (w:World) (hr:Rd w w.heap.size A n (I64 (ofNB ks))) (hk:Kds ks) (hn:n≤20000) (hn0:0 < n) (hB0:Bal (exc (val (ownL 0 ks))) (ownL 0 ks).length) (hB1:Bal (exc (val (ownL 1 ks))) (ownL 1 ks).length) :
  Calls Tryz.prog 30 #[.slice A n c] w fun e w'=>∃ tw l b,Wd ks tw∧TurnW ks tw l∧Inv l b∧l.length=n∧NewRO w l 0 0 e w':=by
 obtain ⟨i0,hi0,hz0,hz1,hz2⟩:=info_parts info_int
 have hl:ks.length=n:=by have:=hr.len;rw [I64_len,ofN_lenB] at this;exact this
 have hal:=(Below.refl w.heap.size w).alloc (Nat.le_refl _) (.cells #[.slice none 0 0,.int .i64 0,.int .i64 0] 27)
 have NP:Hid (Calls Tryz.prog 38 #[.slice A n c] (w.alloc (.cells #[.slice none 0 0,.int .i64 0,.int .i64 0] 27)) (Names12P (w.alloc (.cells #[.slice none 0 0,.int .i64 0,.int .i64 0] 27)) ks n)) :=
  names12_p A n c ks _ (hr.more hal) hk hn hB0 hB1
 have HR:=Lib.hid hr
 have HK:=Lib.hid hk
 have HL:=Lib.hid hl
 have HB0:=Lib.hid hB0
 have HX0:=Lib.hid (Blk.new w 27 #[.slice none 0 0,.int .i64 0,.int .i64 0])
 have HZ0:=Lib.hid hal
 have HINF:=Lib.hid info_rmap
 have h0n:¬ n=0:=by omega
 have h0b:((n:Int) == 0)=false:=by simp;omega
 have h0d:decide (n=0)=false:=decide_eq_false h0n
 have h0I:¬ (n:Int)=0:=by omega
 clear hr hk hl hB0 hB1 hal
 go_enter Tryz.func30,Tryz.ntmps30
 go_wp2_with fail
 refine NP.out.mono ?_
 generalize w.alloc (.cells #[.slice none 0 0,.int .i64 0,.int .i64 0] 27)=w1 at *
 rintro e w2 ⟨tw,AN,cN,P,rfl,hcN,hmN,hN,b2⟩
 have HP:=Lib.hid P
 have HX2:=Lib.hid (HX0.out.below b2)
 have HN2:=Lib.hid (Rd.ofOwn hN)
 have HZ2:=Lib.hid (HZ0.out.trans (b2.mono HZ0.out.size))
 obtain ⟨B,hB⟩:∃ B,B=w2.heap.size:=⟨_,rfl⟩
 have HBB:=Lib.hid hB
 have HwB:Hid (w.heap.size < B):=by show _ < _;rw [hB];exact HX2.out.lt
 have G1:=GRow.one (base:=B) w2 (by omega)
 have hs1:(w2.alloc (.cells #[.slice none 0 0] 25)).heap.size=B+1:=by rw [hB];simp
 have hal2:Below (w2.alloc (.cells #[.slice none 0 0] 25)).heap.size (w2.alloc (.cells #[.slice none 0 0] 25)) ((w2.alloc (.cells #[.slice none 0 0] 25)).alloc (.cells #[.int .i64 0] 3)):=(Below.refl _ _).alloc (Nat.le_refl _) _
 have o2:((w2.alloc (.cells #[.slice none 0 0] 25)).alloc (.cells #[.int .i64 0] 3)).ownsRow B 3 1 (.slice (some ⟨B+1,0,none⟩) 1 1) 1 (I64 (ofN [0])):=by
  have:=World.ownsRow_lit (base:=B+1) (e:=3) (size:=1) (w2.alloc (.cells #[.slice none 0 0] 25)) #[.int .i64 0] 1 (by omega) (by simp [maxLen]) (by simp)
  rw [hs1] at this
  exact this.base_le' (by omega)
 have HS0:Hid (DSt w2 ((w2.alloc (.cells #[.slice none 0 0] 25)).alloc (.cells #[.int .i64 0] 3)) B (some ⟨w2.heap.size,0,none⟩) 1 [(.slice none 0 0,[])] (some ⟨w2.heap.size+1,0,none⟩) 1 [0]):=by
  refine ⟨G1.below hal2,by rw [← hB];exact o2,fun j hj k hk=>?_,?_⟩
  ·obtain rfl:j=0:=by simp at hj;omega
   simp [Value.ownBlock] at hk
  ·exact ((Below.refl B w2).alloc (by omega) _).alloc (by omega) _
 clear G1 hs1 hal2 o2 P b2 hN hcN hmN HX0 HZ0
 clear hB
 go_wp2_with fail
 generalize (w2.alloc (.cells #[.slice none 0 0] 25)).alloc (.cells #[.int .i64 0] 3)=w3 at *
 go_loopw [4,5,6,7,8,25] (fun o st6 i6 k7 v8 idx wr=>∃ (i g c3 cs:Nat) (As:Option Addr) (ps:List GEl) (st:List Nat) (q p:Nat),i≤n∧idx=.int .i64 (i:Int)∧o=.slice (some ⟨g,0,none⟩) p c3∧st6=.slice As q cs ∧
  Hid (p=ps.length∧q=st.length)∧Hid (DMt ks tw i ps st)∧Hid (DSt w2 wr B (some ⟨g,0,none⟩) c3 ps As cs st)) (fun _ _ _ _ _ i _=>n - (intOf i).toNat)
 case atStart=>exact ⟨0,w2.heap.size,1,1,_,[(.slice none 0 0,[])],[0],1,1,by omega,rfl,rfl,rfl,⟨rfl,rfl⟩,DMt.nil ks tw,HS0.out⟩
 case round =>
  clear HS0
  obtain ⟨i,g,c3,cs,As,ps,st,q,p,hi,rfl,rfl,rfl,HPQ,HM,HD⟩:=hrel
  by_cases hlt:i < n
  ·have hdk:decide (i < n)=true:=decide_eq_true hlt
   have hlti:(i:Int) < (n:Int):=by omega
   have hBw:B≤wr.heap.size:=by have:=HD.out.bel.size;have:=HBB.out;omega
   obtain ⟨ba,oa,rfl,hba,hca⟩:=HR.out.at_ (by omega)
   have cA:=hca i (by rw [I64_len,ofN_lenB,HL.out];exact hlt)
   obtain ⟨bn,on_,rfl,hbn,hcn⟩:=HN2.out.i64 (by omega)
   have cN:=hcn i hlt
   obtain ⟨kk,hkk⟩:∃ kk,kk=ks.getD i 0:=⟨_,rfl⟩
   obtain ⟨d,hd⟩:∃ d,d=nmF ks tw i:=⟨_,rfl⟩
   have BW:Below w.heap.size w wr:=HZ2.out.trans (HD.out.bel.mono (by have:=HwB.out;omega))
   have cA':wr.cell? ⟨ba,oa+i,none⟩=some (.int .i64 (kk:Int)):=by
    have c0:=(BW.cell (p:=⟨ba,oa+i,none⟩) hba).trans cA
    rw [c0,hkk];simp [I64,ofNB,List.getD_eq_getElem?_getD,List.getElem?_eq_getElem (show i < ks.length by rw [HL.out];exact hlt)]
   have cN':wr.cell? ⟨bn,on_+i,none⟩=some (.int .i64 (d:Int)):=by
    have c0:=(HD.out.bel.cell (p:=⟨bn,on_+i,none⟩) (by have:=HBB.out;show bn < B;omega)).trans cN
    rw [c0,ofN_get,nmL_get ks tw (by rw [HL.out];exact hlt),hd]
   obtain ⟨S,hS1,hS2⟩:=HM.out.os
   obtain ⟨hp,hq⟩:=HPQ.out
   obtain ⟨k,hkq⟩:∃ k,q=k+1:=⟨S.length,by omega⟩
   subst hkq
   have hpl:=HM.out.pl
   obtain ⟨v,hv⟩:∃ v,v=st.getD k 0:=⟨_,rfl⟩
   have hvp:v < ps.length:=HM.out.stk v (by rw [hv,List.getD_eq_getElem?_getD,List.getElem?_eq_getElem (by omega)];exact List.getElem_mem _)
   obtain ⟨gs,hgs,hgs1,_⟩:=own_some HD.out.s (by omega)
   subst hgs
   have cS:wr.cell? ⟨gs,k,none⟩=some (.int .i64 (v:Int)):=by
    have:=own_cellI HD.out.s k (by omega)
    rw [ofN_get,← hv] at this;exact this
   have cO:=HD.out.g.own.cellAt v (by omega)
   rw [gcs_get ps v hvp] at cO
   have hrl:=HM.out.rl v hvp
   have D1:=HD.out.below hBw ((Below.refl wr.heap.size wr).drew)
   obtain ⟨A1,cj,A2,c2,w4,e1,hrun0,hc4,hf4,hD4⟩:=D1.grow hBw hvp (d:=d) (by omega)
   obtain ⟨rl,hrle⟩:∃ rl,rl=(ps.getD v gE0).2.length:=⟨_,rfl⟩
   rw [e1] at cO
   rw [← hrle] at cO hrun0 hc4 hD4
   have hrun:(Builtin.append_ #[25,25] 25 #[.slice A1 rl cj,.slice (some ⟨wr.heap.size,0,none⟩) 1 1]).run Tryz.prog (wr.drew.alloc (.cells #[.int .i64 (d:Int)] 3))=.ok (.slice A2 (rl+1) c2) w4:=hrun0
   have HD4:=Lib.hid hD4
   have HV:=Lib.hid (And.intro hvp (And.intro hkk (And.intro hd hv)))
   have hvi:(v:Int) < (p:Int):=by omega
   have hkI:(k:Int) < ((k+1:Nat):Int):=by omega
   have tk:((k+1:Nat):Int) - 1=(k:Int):=by omega
   have tk2:(k:Int)+1 - 1=(k:Int):=by omega
   obtain ⟨_,_,_,hcs1,hcs2⟩:=own_form HD.out.s
   have hkm:k≤9223372036854775806:=by simp only [maxLen] at hcs2;omega
   have wk:IntKind.i64.wrap (k:Int)=(k:Int):=by simp [IntKind.wrap,IntKind.signed,IntKind.bits];omega
   have HOS:=Lib.hid hS2
   have hkk4:kk < 4:=by rw [hkk];exact HK.out.getD i
   clear hrun0 hD4 D1 hvp hkk hd hv hS1 hS2 cA hca hcn cN BW hrl hrle e1 hp hq hpl
   have cA2:wr.drew.cell? ⟨bn,on_+i,none⟩=some (.int .i64 (d:Int)):=cN'
   have cO2:wr.drew.cell? ⟨g,v,none⟩=some (.slice A1 rl cj):=cO
   have cO3:(wr.alloc (.cells #[.int .i64 (d:Int)] 3)).cell? ⟨g,v,none⟩=some (.slice A1 rl cj):=((Below.refl wr.heap.size wr).alloc (Nat.le_refl _) _).cell (p:=⟨g,v,none⟩) (own_block HD.out.g.own).2 |>.trans cO
   have cO4:(wr.alloc (.cells #[.int .i64 (d:Int)] 3)).drew.cell? ⟨g,v,none⟩=some (.slice A1 rl cj):=cO3
   have cO5:(wr.drew.alloc (.cells #[.int .i64 (d:Int)] 3)).cell? ⟨g,v,none⟩=some (.slice A1 rl cj):=cO3
   go_upto_region 10 with fail
   go_cut [] from 36 to 49 (fun wx=>Hid (DSt w2 wx B (some ⟨g,0,none⟩) c3 (ps.set v (.slice A2 (rl+1) c2,(ps.getD v gE0).2++[d])) (some ⟨gs,0,none⟩) cs st))
   case first =>
    go_region_law (first
     | (refine step_append_runD _ (by rfl) _ _ _ (by rfl) _ _ _ _ (by rfl) (by rfl) hrun ?_))
    all_goals (go_wp2_with fail)
    all_goals (go_meet)
    all_goals (exact HD4)
   case rest =>
    clear hrun cO cO2 cO3 cO4 cO5 cA2 cN' cA' hc4 hf4 HD4
    have HD5:=hcut
    clear hcut
    obtain ⟨hvp,hkk,hd,hvs⟩:=HV.out
    obtain ⟨hp,hq⟩:=HPQ.out
    obtain ⟨ps1,hps1⟩:∃ ps1,ps1=ps.set v (.slice A2 (rl+1) c2,(ps.getD v gE0).2++[d]):=⟨_,rfl⟩
    rw [← hps1] at HD5
    have hl1:ps1.length=p:=by rw [hps1,List.length_set,hp]
    have hBc:B≤wc.heap.size:=by have:=HD5.out.bel.size;have:=HBB.out;omega
    have hpi:p≤i+1:=by rw [hp];exact HM.out.pl
    have hil:i < ks.length:=by rw [HL.out];exact hlt
    have wi:IntKind.i64.wrap ((i:Int)+1)=(i:Int)+1:=by simp [IntKind.wrap,IntKind.signed,IntKind.bits];omega
    by_cases k0:kk=0
    ·have HM1:=HM.out.opn (tw:=tw) HP.out hil (by rw [← hkk];exact k0) hvp hq.symm hvs (.slice A2 (rl+1) c2)
     rw [← hd,← hps1,← hp] at HM1
     obtain ⟨A5,c5,w5,hrunS,hD6⟩:=HD5.out.push hBc p (by have:=HM.out.sl;omega)
     rw [← hq] at hrunS
     have hB5:B≤w5.heap.size:=by have:=hD6.bel.size;have:=HBB.out;omega
     obtain ⟨A6,c6,w6,hrunO,hD7⟩:=hD6.snoc hB5 (by omega)
     rw [hl1] at hrunO
     have hl7:(ps1++[((.slice none 0 0,[]):GEl)]).length=p+1:=by rw [List.length_append,hl1];rfl
     have o7:=hD7.g.own
     rw [hl7] at o7
     obtain ⟨g6,hg6,_⟩:=own_some o7 (by omega)
     subst hg6
     have HM7:=Lib.hid HM1
     have HD7:=Lib.hid hD7
     have HPQ7:Hid (p+1=(ps1++[((.slice none 0 0,[]):GEl)]).length∧k+1+1=(st++[p]).length):=⟨hl7.symm,by rw [List.length_append,← hq];rfl⟩
     subst k0
     clear HM1 hD6 hD7 o7 hl7 HD5 HM HD HPQ hps1 hp hq hvp hkk hd hvs HV hl1 hBc hB5
     go_upto_region 13 with (first
      | (at_builtin;go_must (refine wpList_append_runR rfl _ _ _ rfl _ _ _ _ rfl rfl hrunS ?_)))
     go_wp2_with (first
      | (at_builtin;go_must (refine wpList_append_runR rfl _ _ _ rfl _ _ _ _ rfl rfl hrunO ?_)))
     go_roundw
     case rel=>exact ⟨i+1,g6,c6,c5,A5,_,_,k+1+1,p+1,by omega,by go_num,rfl,rfl,HPQ7,HM7,HD7⟩
     case measure=>simp [intOf];omega
    ·have k0I:¬ (kk:Int)=0:=by omega
     have k0b:((kk:Int) == 0)=false:=by simp;omega
     have k0d:decide (kk=0)=false:=decide_eq_false k0
     by_cases k1:kk=1
     ·have HM7:=Lib.hid (HM.out.shut (tw:=tw) HP.out HB0.out hil (by rw [← hkk];exact k1) hvp (.slice A2 (rl+1) c2) hq.symm hvs)
      rw [← hd,← hps1] at HM7
      have HD7:=Lib.hid (HD5.out.pop hq.symm)
      have HPQ7:Hid (p=ps1.length∧k=(st.take k).length):=⟨hl1.symm,by rw [List.length_take];omega⟩
      have hkc:k≤cs:=by have:=(own_form HD5.out.s);obtain ⟨_,c',e,h1,_⟩:=this;simp only [Value.slice.injEq,true_and] at e;obtain ⟨_,rfl⟩:=e;omega
      have hkcI:(k:Int)≤(cs:Int):=by omega
      subst k1
      clear HD5 HM HD HPQ hps1 hp hq hvp hkk hd hvs HV hl1 hBc
      go_wp2_with fail
      go_roundw
      case rel=>exact ⟨i+1,g,c3,cs,_,_,_,k,p,by omega,by go_num,rfl,rfl,HPQ7,HM7,HD7⟩
      case measure=>simp [intOf];omega
     ·have k1I:¬ (kk:Int)=1:=by omega
      have k1b:((kk:Int) == 1)=false:=by simp;omega
      have k1d:decide (kk=1)=false:=decide_eq_false k1
      have HM7:=Lib.hid (HM.out.skip (tw:=tw) HP.out hil (by rw [← hkk];omega) hvp hq.symm hvs (.slice A2 (rl+1) c2))
      rw [← hd,← hps1] at HM7
      have HPQ7:Hid (p=ps1.length∧k+1=st.length):=⟨hl1.symm,hq⟩
      clear HM HD HPQ hps1 hp hq hvp hkk hd hvs HV hl1 hBc
      go_wp2_with fail
      go_roundw
      case rel=>exact ⟨i+1,g,c3,cs,_,_,_,k+1,p,by omega,by go_num,rfl,rfl,HPQ7,HM7,HD5⟩
      case measure=>simp [intOf];omega
  ·obtain rfl:i=n:=by omega
   have hdk:decide (i < i)=false:=by simp
   have hMn:DMt ks tw ks.length ps st:=by rw [HL.out];exact HM.out
   obtain ⟨hnd,hmem⟩:=hMn.done HP.out.P
   have hTW:=hMn.turns HP.out
   obtain ⟨os,hos⟩:∃ os,os=ps.map (·.2):=⟨_,rfl⟩
   rw [← hos] at hnd hmem hTW
   rw [HL.out] at hmem
   have hosl:os.length=ps.length:=by rw [hos,List.length_map]
   have hor:∀ r,r < ps.length→os.getD r []=(ps.getD r gE0).2:=fun r hr=>by rw [hos];exact snd_getD ps r hr
   obtain ⟨hp,hq⟩:=HPQ.out
   have hpb:p≤20001:=by have:=HM.out.pl;omega
   have hmk:=run_make_one (P:=Tryz.prog) 25 3 i0 (.int .i64 0) 8 Tryz.underlying25 hi0 hz0 hz1 hz2 rfl .i64 .i64 i (by omega) (by omega) wr
   have hrep:(List.replicate i (Value.int .i64 0)).toArray=Array.replicate i (.int .i64 0):=by simp
   rw [hrep] at hmk
   have hal1:=(Below.refl wr.heap.size wr).alloc (Nat.le_refl _) (.cells (Array.replicate i (Value.int .i64 0)) 3)
   have hO:(wr.alloc (.cells (Array.replicate i (Value.int .i64 0)) 3)).ownsRow wr.heap.size 3 1 (.slice (some ⟨wr.heap.size,0,none⟩) i i) i (I64 (List.replicate i 0)):=by
    have:=World.ownsRow_lit (base:=wr.heap.size) (e:=3) (size:=1) wr (Array.replicate i (Value.int .i64 0)) i (Nat.le_refl _) (by simp [maxLen];omega) (by simp)
    rw [show I64 (List.replicate i 0)=List.replicate i (.int .i64 0) by simp [I64]]
    simpa using this
   have hX:Blk ((wr.alloc (.cells (Array.replicate i (Value.int .i64 0)) 3)).alloc (.cells #[.slice (some ⟨wr.heap.size,0,none⟩) i i,.int .i64 0,.int .i64 0] 27)) (wr.heap.size+1) 27 #[.slice (some ⟨wr.heap.size,0,none⟩) i i,.int .i64 0,.int .i64 0]:=by
    have:=Blk.new (wr.alloc (.cells (Array.replicate i (Value.int .i64 0)) 3)) 27 #[.slice (some ⟨wr.heap.size,0,none⟩) i i,.int .i64 0,.int .i64 0]
    rwa [show (wr.alloc (.cells (Array.replicate i (Value.int .i64 0)) 3)).heap.size=wr.heap.size+1 by simp] at this
   have hal2:Below wr.heap.size wr ((wr.alloc (.cells (Array.replicate i (Value.int .i64 0)) 3)).alloc (.cells #[.slice (some ⟨wr.heap.size,0,none⟩) i i,.int .i64 0,.int .i64 0] 27)):=hal1.alloc (by simp) _
   have hO2:=own_below hO ((Below.refl _ _).alloc (Nat.le_refl _) (.cells #[.slice (some ⟨wr.heap.size,0,none⟩) i i,.int .i64 0,.int .i64 0] 27))
   have RW0:∀ r,r < p→∃ A c,(∀ W,Below wr.heap.size wr W→W.cell? ⟨g,r,none⟩=some (.slice A (os.getD r []).length c))∧Rd wr wr.heap.size A (os.getD r []).length (I64 (ofN (os.getD r [])))∧∀ j,j < (os.getD r []).length→(os.getD r []).getD j 0 < i:=fun r hr=>by
    have hr':r < ps.length:=by omega
    obtain ⟨⟨A,c,e⟩,ho⟩:=HD.out.g.inn r hr'
    have h0:=HD.out.g.own.cellAt r (by omega)
    rw [gcs_get ps r hr',e,← hor r hr'] at h0
    rw [e,← hor r hr'] at ho
    exact ⟨A,c,fun W m=>(m.cell (p:=⟨g,r,none⟩) (own_block HD.out.g.own).2).trans h0,Rd.ofOwn ho,fun j hj=>(hmem _).1 (rows_mem (by omega) hj)⟩
   have HLEN:Hid (os.length=p∧∀ r,r < p→(os.getD r []).length≤i):=⟨by omega,fun r hr=>by rw [hor r (by omega)];exact HM.out.rl r (by omega)⟩
   obtain ⟨w5,hw5⟩:∃ w5,w5=(wr.alloc (.cells (Array.replicate i (Value.int .i64 0)) 3)).alloc (.cells #[.slice (some ⟨wr.heap.size,0,none⟩) i i,.int .i64 0,.int .i64 0] 27):=⟨_,rfl⟩
   rw [← hw5] at hX hal2 hO2
   obtain ⟨gy,hgy⟩:∃ gy,gy=wr.heap.size:=⟨_,rfl⟩
   have HRW:Hid (∀ r,r < p→∃ A c,(∀ W,Below gy w5 W→W.cell? ⟨g,r,none⟩=some (.slice A (os.getD r []).length c))∧Rd w5 gy A (os.getD r []).length (I64 (ofN (os.getD r [])))∧∀ j,j < (os.getD r []).length→(os.getD r []).getD j 0 < i):=fun r hr=>by
    obtain ⟨A,c,q1,q2,q3⟩:=RW0 r hr
    rw [hgy]
    exact ⟨A,c,fun W m=>q1 W (hal2.trans m),q2.below hal2,q3⟩
   have hw5s:gy+1 < w5.heap.size:=by rw [hgy];exact hX.lt
   have HBg:Hid (B≤gy):=by show _≤_;have:=HD.out.bel.size;have:=HBB.out;omega
   have HZ5:Hid (Below w.heap.size w w5):=HZ2.out.trans ((HD.out.bel.trans (hal2.mono (by have:=HBg.out;omega))).mono (by have:=HwB.out;omega))
   have HX5:Hid (Blk w5 w.heap.size 27 #[.slice none 0 0,.int .i64 0,.int .i64 0]):=(HX2.out.below ((HD.out.bel.mono (Nat.le_of_eq HBB.out.symm)))).below hal2
   have HBX:=Lib.hid hX
   have HOY:=Lib.hid hO2
   have HND:=Lib.hid (And.intro hnd (And.intro hmem hTW))
   rw [← hgy] at HBX HOY
   clear hX hO2 hnd hmem hTW RW0 hal1 hal2 hO hos hosl hor hMn HM HD HPQ hp hq hrep
   go_upto_region 18 with fail
   rw [← hw5,← hgy]
   clear hw5 hgy hmk
   go_wp2_with fail
   go_loopw [11,12,13,14,73] (fun _ _ _ _ idx wz=>∃ (r:Nat) (y:List Int),r≤p∧idx=.int .i64 (r:Int)∧Hid (y.length=i∧Told os y r 0)∧Hid (wz.ownsRow gy 3 1 (.slice (some ⟨gy,0,none⟩) i i) i (I64 y))∧Hid (Below gy w5 wz) ∧
    Hid (Blk wz (gy+1) 27 #[.slice (some ⟨gy,0,none⟩) i i,.int .i64 0,.int .i64 0])) (fun _ _ _ _ x _=>p - (intOf x).toNat)
   case atStart=>exact ⟨0,List.replicate i 0,by omega,rfl,⟨by simp,fun _ _ h=>absurd h (by omega),fun _ h=>absurd h (by omega)⟩,HOY.out,Below.refl _ _,HBX.out⟩
   case round =>
    clear HOY HBX
    obtain ⟨wz,rfl⟩:∃ wz:World,wz=wr:=⟨_,rfl⟩
    obtain ⟨r,y,hr,rfl,HY,HOW,HBW,HBX⟩:=hrel
    by_cases hrp:r < p
    ·have hrd':decide (r < p)=true:=decide_eq_true hrp
     have hrI:(r:Int) < (p:Int):=by omega
     obtain ⟨A1,c1,hcell,hrd,hlt1⟩:=HRW.out r hrp
     obtain ⟨row,hrow⟩:∃ row,row=os.getD r []:=⟨_,rfl⟩
     rw [← hrow] at hcell hrd hlt1
     obtain ⟨m,hm⟩:∃ m,m=row.length:=⟨_,rfl⟩
     rw [← hm] at hcell hrd hlt1
     have hmi:m≤i:=by rw [hm,hrow];exact HLEN.out.2 r hrp
     have cO:=hcell wz HBW.out
     have HRD:=Lib.hid hrd
     have HLT:=Lib.hid hlt1
     have HRO:=Lib.hid (And.intro hrow hm)
     clear hcell hrd hlt1 hrow hm
     go_wp2_with fail
     go_loopw [12,13,14,79] (fun _ _ _ jx wq=>∃ (j:Nat) (y:List Int),j≤m∧jx=.int .i64 (j:Int)∧Hid (y.length=i∧Told os y r j)∧Hid (wq.ownsRow gy 3 1 (.slice (some ⟨gy,0,none⟩) i i) i (I64 y))∧Hid (Below gy w5 wq) ∧
      Hid (Blk wq (gy+1) 27 #[.slice (some ⟨gy,0,none⟩) i i,.int .i64 0,.int .i64 0])) (fun _ _ _ x _=>m - (intOf x).toNat)
     case atStart=>exact ⟨0,y,by omega,rfl,HY.out,HOW.out,HBW.out,HBX.out⟩
     case round =>
      clear HY HOW HBW HBX cO y
      obtain ⟨wq,rfl⟩:∃ wq:World,wq=wr:=⟨_,rfl⟩
      obtain ⟨j,y,hj,rfl,HY,HOW,HBW,HBX⟩:=hrel
      by_cases hjm:j < m
      ·have hjd:decide (j < m)=true:=decide_eq_true hjm
       have hjI:(j:Int) < (m:Int):=by omega
       obtain ⟨b,o,rfl,hb,hc⟩:=HRD.out.i64 (by omega)
       obtain ⟨hrow,hm⟩:=HRO.out
       obtain ⟨x,hx⟩:∃ x,x=row.getD j 0:=⟨_,rfl⟩
       obtain ⟨x0,hx0⟩:∃ x0,x0=row.getD 0 0:=⟨_,rfl⟩
       obtain ⟨jn,hjn⟩:∃ jn,jn=j+1:=⟨_,rfl⟩
       have hxi:x < i:=by rw [hx];exact HLT.out j hjm
       have cX:wq.cell? ⟨b,o+j,none⟩=some (.int .i64 (x:Int)):=by
        rw [hx,← ofN_get];exact (HBW.out.cell (p:=⟨b,o+j,none⟩) hb).trans (hc j hjm)
       have c0:wq.cell? ⟨b,o,none⟩=some (.int .i64 (x0:Int)):=by
        rw [hx0,← ofN_get];exact (HBW.out.cell (p:=⟨b,o,none⟩) hb).trans (hc 0 (by omega))
       have cY:=own_cellI HOW.out x hxi
       have fY:=HOW.out.frozenAt x
       have bx0:=HBX.out.cell 0
       simp at bx0
       have hxI:(x:Int) < (i:Int):=by omega
       have tj:(j:Int)+1=(jn:Int):=by omega
       have wj:IntKind.i64.wrap (jn:Int)=(jn:Int):=by simp [IntKind.wrap,IntKind.signed,IntKind.bits];omega
       have m0:(0:Int) < (m:Int):=by omega
       have MS:=fun u:Value=>Mod.setCell (p:=⟨gy,x,none⟩) (Mod.refl (fun k=>k=gy) wq) (fun _=>rfl) u
       have zr:zR os x=nxR row j:=by
        have:=zR_at HND.out.1 (r:=r) (i:=j) (by rw [HLEN.out.1];exact hrp) (by rw [← hrow,← hm];exact hjm)
        rw [← hrow,← hx] at this;exact this
       have FIN:Hid (∀ z:Nat,zR os x=z→Hid ((y.set x (z:Int)).length=i∧Told os (y.set x (z:Int)) r (j+1))∧Hid ((wq.setCell ⟨gy,x,none⟩ (.int .i64 (z:Int))).ownsRow gy 3 1 (.slice (some ⟨gy,0,none⟩) i i) i (I64 (y.set x (z:Int))))∧Hid (Below gy w5 (wq.setCell ⟨gy,x,none⟩ (.int .i64 (z:Int)))) ∧
         Hid (Blk (wq.setCell ⟨gy,x,none⟩ (.int .i64 (z:Int))) (gy+1) 27 #[.slice (some ⟨gy,0,none⟩) i i,.int .i64 0,.int .i64 0])):=fun z hz =>
        ⟨⟨by rw [List.length_set];exact HY.out.1,told_put HY.out.2 (by rw [← hrow,hx]) (by rw [HY.out.1];exact hxi) hz⟩,own_setI HOW.out x (z:Int),HBW.out.setCell (p:=⟨gy,x,none⟩) (Nat.le_refl _) _,HBX.out.mod (MS _) (by omega)⟩
       by_cases hjl:jn < m
       ·have hjld:decide (jn < m)=true:=decide_eq_true hjl
        have hjlI:(jn:Int) < (m:Int):=by omega
        obtain ⟨x1,hx1⟩:∃ x1,x1=row.getD jn 0:=⟨_,rfl⟩
        have cN:wq.cell? ⟨b,o+jn,none⟩=some (.int .i64 (x1:Int)):=by
         rw [hx1,← ofN_get];exact (HBW.out.cell (p:=⟨b,o+jn,none⟩) hb).trans (hc jn hjl)
        obtain ⟨F1,F2,F3,F4⟩:=FIN.out x1 (by rw [zr];unfold nxR;rw [if_pos (by omega),hx1,hjn])
        clear MS zr FIN hc hx hx0 hx1 HY HOW HBW HBX hrow hm
        clear hjn
        go_wp2_with fail
        go_roundw
        case rel=>exact ⟨j+1,_,by omega,by go_num,F1,F2,F3,F4⟩
        case measure=>simp [intOf];omega
       ·have hjld:decide (jn < m)=false:=decide_eq_false hjl
        have hjlI:¬ (jn:Int) < (m:Int):=by omega
        obtain ⟨F1,F2,F3,F4⟩:=FIN.out x0 (by rw [zr];unfold nxR;rw [if_neg (by omega),hx0])
        clear MS zr FIN hc hx hx0 HY HOW HBW HBX hrow hm
        clear hjn
        go_wp2_with fail
        go_roundw
        case rel=>exact ⟨j+1,_,by omega,by go_num,F1,F2,F3,F4⟩
        case measure=>simp [intOf];omega
      ·obtain rfl:j=m:=by omega
       have hjd:decide (j < j)=false:=by simp
       have HT:Hid (y.length=i∧Told os y (r+1) 0):=⟨HY.out.1,told_row (by rw [← HRO.out.1,← HRO.out.2];exact HY.out.2)⟩
       have wr1:IntKind.i64.wrap ((r:Int)+1)=(r:Int)+1:=by simp [IntKind.wrap,IntKind.signed,IntKind.bits];omega
       go_wp2_with fail
       go_roundw
       case rel=>exact ⟨r+1,y,by omega,by go_num,HT,HOW,HBW,HBX⟩
       case measure=>simp [intOf];omega
    ·obtain rfl:r=p:=by omega
     have hrd':decide (r < r)=false:=by simp
     have hy:=told_all (n:=i) (by rw [HLEN.out.1];exact HY.out.2) HY.out.1 HND.out.2.1
     have HF:Hid (wz.ownsRow gy 3 1 (.slice (some ⟨gy,0,none⟩) i i) i (I64 (ofN (zL os i)))):=by
      show World.ownsRow _ _ _ _ _ _ _
      rw [← hy];exact HOW.out
     have HZ6:Hid (Below w.heap.size w wz):=HZ5.out.trans (HBW.out.mono (by have:=HBg.out;have:=HwB.out;omega))
     have HR6:Hid (Blk wz w.heap.size 27 #[.slice none 0 0,.int .i64 0,.int .i64 0]):=(HBW.out.block w.heap.size (by have:=HBg.out;have:=HwB.out;omega)).trans HX5.out
     have x0:=HBX.out.cell 0
     have x1:=HBX.out.cell 1
     have x2:=HBX.out.cell 2
     have q0:=HR6.out.cell 0
     have q1:=HR6.out.cell 1
     have q2:=HR6.out.cell 2
     have f0:=HR6.out.frozen 0
     have f1:=HR6.out.frozen 1
     have f2:=HR6.out.frozen 2
     simp at x0 x1 x2 q0 q1 q2
     clear hy HY HOW HBW
     go_wp2_with fail
     obtain ⟨k1,k2,k3⟩:=box_ret (w:=w) (g:=w.heap.size) (RT:=0) (LF:=0) (Nat.le_refl _) HZ6.out HR6.out HF.out
     refine bodyPost_ret (v:=.agg #[.slice (some ⟨gy,0,none⟩) i i,.int .i64 0,.int .i64 0]) ?_ rfl ?_
     ·exact results_cell_row rfl _ _ w.heap.size 27 _ (0,0) _ rfl k1 Tryz.underlying27 rfl HINF.out
     ·obtain ⟨b,hb⟩:=zL_inv HND.out.1 HND.out.2.1
      have hzl:=zL_len os i
      refine ⟨tw,zL os i,b,HP.out,by have:=HND.out.2.2;rw [HL.out] at this;exact this,hb,hzl,some ⟨gy,0,none⟩,i,?_,?_,?_,?_,k3⟩
      ·rw [hzl]
      ·rw [hzl];exact Nat.le_refl _
      ·simp [maxLen];omega
      ·rw [hzl];exact k2.base_le' (by have:=HBg.out;have:=HwB.out;omega)
theorem wf_u16 {x:Int} (h:(Lit.int .u16 x).wf=true):∃ n:Nat,x=(n:Int)∧n < 65536:=by
 simp [Lit.wf,IntKind.min,IntKind.max,IntKind.signed,IntKind.bits] at h
 exact ⟨x.toNat,by omega,by omega⟩
end Go.Proofs.YtijbdnhlpbcabaaGreatDoor
