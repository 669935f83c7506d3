/- The document's mates, by a stack. -/
import Derived.Test.YtijbdnhlpbcabaaGreatDoorZg13
import Derived.Test.YtijbdnhlpbcabaaGreatDoorZg14
import Derived.Test.YtijbdnhlpbcabaaGreatDoorZg18
import Derived.BigQuiet
open Go.RowKit
set_option linter.unusedVariables false
namespace Go.Proofs.YtijbdnhlpbcabaaGreatDoor
set_option maxRecDepth 20000
theorem own_cut {w:World} {base:Nat} {e:TypeId} {A:Option Addr} {n c k:Nat} {xs:List Value} (h:w.ownsRow base e 1 (.slice A n c) n xs) (hk:k≤n) (h0:0 < n):w.ownsRow base e 1 (.slice A k c) k (xs.take k):=by
 refine ⟨by have:=h.1;simp;omega,?_⟩
 rcases h.2 with ⟨_,h'⟩ | ⟨g,cap,cur,hv,hb,hg,hle,hcm,hcs,ht⟩
 ·omega
 ·simp only [Value.slice.injEq,true_and] at hv
  obtain ⟨rfl,rfl⟩:=hv
  refine .inr ⟨g,c,cur,rfl,hb,hg,by omega,hcm,hcs,?_⟩
  rw [← ht,List.take_take]
  congr 1
  omega
theorem getDI_set' (y:List Int) (k j:Nat) (v:Int) (hk:k < y.length) (hj:j≠k):(y.set k v).getD j 0=y.getD j 0:=by rw [getDI_set y k j v hk,if_neg hj]
theorem getDI_set1 (y:List Int) (k:Nat) (v:Int) (hk:k < y.length):(y.set k v).getD k 0=v:=by rw [getDI_set y k k v hk,if_pos rfl]
def MatesP (w:World) (V m:Nat) (e:Ending) (w':World):Prop :=
 ∃ (Y Z:Option Addr) (cy cz:Nat) (y z:List Int),e=.returned (.tuple #[.slice Y m cy,.slice Z m cz])∧w'.ownsRow w.heap.size 3 1 (.slice Y m cy) m (I64 y)∧w'.ownsRow w.heap.size 3 1 (.slice Z m cz) m (I64 z) ∧
  (∀ i,i < m→MateOK (exc V) i (y.getD i 0)∧RoundOK (exc V) i (z.getD i 0))∧Below w.heap.size w w'
structure MSt (w w1 wr:World) (V m i k gy gz:Nat) (A6:Option Addr) (c6:Nat) (y z:List Int) (s:List Nat):Prop where
 st:Stack (exc V) i s
 sl:s.length=k
 kn:KnownP (exc V) i (fun p=>y.getD p 0) (fun p=>z.getD p 0)
 oy:wr.ownsRow w.heap.size 3 1 (.slice (some ⟨gy,0,none⟩) m m) m (I64 y)
 oz:wr.ownsRow w.heap.size 3 1 (.slice (some ⟨gz,0,none⟩) m m) m (I64 z)
 os:wr.ownsRow w1.heap.size 3 1 (.slice A6 k c6) k (I64 (ofNB s))
 bel:Below w.heap.size w wr
 yz:gy≠gz
 ly:gy < w1.heap.size
 lz:gz < w1.heap.size
 sz:w1.heap.size≤wr.heap.size
theorem MSt.leny {w w1 wr:World} {V m i k gy gz c6:Nat} {A6:Option Addr} {y z:List Int} {s:List Nat} (h:MSt w w1 wr V m i k gy gz A6 c6 y z s):y.length=m:=own_lenI h.oy
theorem MSt.lenz {w w1 wr:World} {V m i k gy gz c6:Nat} {A6:Option Addr} {y z:List Int} {s:List Nat} (h:MSt w w1 wr V m i k gy gz A6 c6 y z s):z.length=m:=own_lenI h.oz
theorem own_set_other {w:World} {base g:Nat} {v:Value} {n:Nat} {xs:List Value} {e:TypeId} (h:w.ownsRow base e 1 v n xs) (hg:v.ownBlock≠some g) (k:Nat) (u:Value):(w.setCell ⟨g,k,none⟩ u).ownsRow base e 1 v n xs :=
 own_mod h (Mod.setCell (p:=⟨g,k,none⟩) (Mod.refl (fun i=>i=g) w) (fun _=>rfl) _) fun i hi e=>hg (by rw [hi,e])
theorem own_block_ne {w:World} {base g:Nat} {v:Value} {n:Nat} {xs:List Value} {e:TypeId} (h:w.ownsRow base e 1 v n xs) (hg:g < base):v.ownBlock≠some g:=fun e=>by have:=(h.lt g e).1;omega
theorem MSt.setz {w w1 wr:World} {V m i k gy gz c6:Nat} {A6:Option Addr} {y z:List Int} {s:List Nat} (h:MSt w w1 wr V m i k gy gz A6 c6 y z s) (j:Nat) (v:Int)
  (hk:KnownP (exc V) i (fun p=>y.getD p 0) (fun p=>(z.set j v).getD p 0)):MSt w w1 (wr.setCell ⟨gz,j,none⟩ (.int .i64 v)) V m i k gy gz A6 c6 y (z.set j v) s :=
 ⟨h.st,h.sl,hk,own_set_other h.oy (by intro e;exact h.yz (by simpa [Value.ownBlock] using e)) _ _,own_setI h.oz j v,own_set_other h.os (own_block_ne h.os h.lz) _ _,h.bel.setCell (own_block h.oz).1 _,h.yz,h.ly,h.lz,by simp [World.setCell];exact h.sz⟩
theorem MSt.grow {w w1 W W':World} {V m i k gy gz c6 c':Nat} {A6 A':Option Addr} {y z:List Int} {s:List Nat} (h:MSt w w1 W V m i k gy gz A6 c6 y z s) (o:Obj)
  (ho:W'.ownsRow w1.heap.size 3 1 (.slice A' (k+1) c') (k+1) (I64 (ofNB s)++I64 [(i:Int)])) (hg:(W.alloc o).grownBy W' (Value.slice A6 k c6).ownBlock)
  (hs:Stack (exc V) (i+1) (s++[i])) (hk:KnownP (exc V) (i+1) (fun p=>y.getD p 0) (fun p=>z.getD p 0)):MSt w w1 W' V m (i+1) (k+1) gy gz A' c' y z (s++[i]):=by
 have hyo:=own_block_ne h.os h.ly
 have hzo:=own_block_ne h.os h.lz
 have h1:=(own_block h.oy).1
 refine ⟨hs,by rw [List.length_append,h.sl];rfl,hk,own_mod (h.oy.alloc o) (Mod.ofGrown hg) fun j hj e=>?_,own_mod (h.oz.alloc o) (Mod.ofGrown hg) fun j hj e=>?_,?_,?_,h.yz,h.ly,h.lz,by have h7:=hg.size;have h8:=h.sz;simp at h7;omega⟩
 ·have:gy=j:=by simpa [Value.ownBlock] using hj
  subst this;exact hyo e.symm
 ·have:gz=j:=by simpa [Value.ownBlock] using hj
  subst this;exact hzo e.symm
 ·rw [← I64_append] at ho
  rw [ofN_appendB]
  exact ho
 ·exact (h.bel.alloc h.bel.size o).trans ((Below.appended (h.os.alloc o) hg (by have:=h.sz;simp;omega)).mono (by have:=h.ly;omega))
theorem MSt.shut {w w1 wr:World} {V m i k gy gz c6:Nat} {A6:Option Addr} {y z:List Int} {s:List Nat} (h:MSt w w1 wr V m i (k+1) gy gz A6 c6 y z s) (hi:i < m) (hc:exc V (i+1)=exc V i - 1) :
  MSt w w1 (((wr.setCell ⟨gy,i,none⟩ (.int .i64 ((s.getD k 0:Nat):Int))).setCell ⟨gy,s.getD k 0,none⟩ (.int .i64 (i:Int))).setCell ⟨gz,i,none⟩ (.int .i64 (z.getD (s.getD k 0) 0))) V m (i+1) k gy gz A6 c6
   ((y.set i ((s.getD k 0:Nat):Int)).set (s.getD k 0) (i:Int)) (z.set i (z.getD (s.getD k 0) 0)) (s.take k):=by
 have hE:=exc_Exc V
 have hly:=h.leny
 have hlz:=h.lenz
 obtain ⟨hs,hp⟩:=h.st.pop hc (by rw [h.sl];omega)
 rw [h.sl,Nat.add_sub_cancel] at hs hp
 have hlt:=hp.lt
 have hl2:(y.set i ((s.getD k 0:Nat):Int)).length=m:=by rw [List.length_set];exact hly
 have h1:=(own_block h.oy).1
 have h2:=(own_block h.oz).1
 have nyz:∀ w':World,w'.ownsRow w.heap.size 3 1 (.slice (some ⟨gz,0,none⟩) m m) m (I64 z)→(Value.slice (some ⟨gz,0,none⟩) m m).ownBlock≠some gy:=fun _ _ e=>h.yz (by simpa [Value.ownBlock] using e.symm)
 have nzy:(Value.slice (some ⟨gy,0,none⟩) m m).ownBlock≠some gz:=fun e=>h.yz (by simpa [Value.ownBlock] using e)
 have o1:=own_setI h.oy i ((s.getD k 0:Nat):Int)
 have o2:=own_setI o1 (s.getD k 0) (i:Int)
 have o3:=own_set_other o2 nzy i (.int .i64 (z.getD (s.getD k 0) 0))
 have q1:=own_set_other (own_set_other h.oz (nyz _ h.oz) i (.int .i64 ((s.getD k 0:Nat):Int))) (nyz _ h.oz) (s.getD k 0) (.int .i64 (i:Int))
 have q2:=own_setI q1 i (z.getD (s.getD k 0) 0)
 have oc:=own_cut h.os (show k≤k+1 by omega) (by omega)
 rw [I64_take,← ofN_takeB] at oc
 have c1:=own_set_other (own_set_other (own_set_other oc (own_block_ne oc h.ly) i (.int .i64 ((s.getD k 0:Nat):Int))) (own_block_ne oc h.ly) (s.getD k 0) (.int .i64 (i:Int))) (own_block_ne oc h.lz) i (.int .i64 (z.getD (s.getD k 0) 0))
 refine ⟨hs,by rw [List.length_take,h.sl];omega,h.kn.pop hE hp (fun p p1 p2=>?_) ?_ ?_ (fun p p1=>getDI_set' z i p _ (by omega) p1) (getDI_set1 z i _ (by omega)),o3,q2,c1,((h.bel.setCell h1 _).setCell h1 _).setCell h2 _,h.yz,h.ly,h.lz,by simp [World.setCell];exact h.sz⟩
 ·show ((y.set i _).set _ _).getD p 0=y.getD p 0
  rw [getDI_set' _ _ p _ (by omega) p2,getDI_set' y i p _ (by omega) p1]
 ·show ((y.set i _).set _ _).getD i 0=_
  rw [getDI_set' _ _ i _ (by omega) (by omega),getDI_set1 y i _ (by omega)]
 ·exact getDI_set1 _ _ _ (by omega)
theorem two_made (w:World) (m:Nat) (hm:m≤100000) (gy gz:Nat) (h:gy=w.heap.size∧gz=w.heap.size+1∨gy=w.heap.size+1∧gz=w.heap.size) (V:Nat) :
  MSt w ((w.alloc (.cells (Array.replicate m (.int .i64 0)) 3)).alloc (.cells (Array.replicate m (.int .i64 0)) 3)).drew ((w.alloc (.cells (Array.replicate m (.int .i64 0)) 3)).alloc (.cells (Array.replicate m (.int .i64 0)) 3)).drew V m 0 0 gy gz none 0 (List.replicate m 0) (List.replicate m 0) []:=by
 have hml:m≤maxLen:=by simp only [maxLen];omega
 have o1:=own_made w 3 m (.int .i64 0) hml
 have o2:=own_made (w.alloc (.cells (Array.replicate m (.int .i64 0)) 3)) 3 m (.int .i64 0) hml
 rw [List.toArray_replicate] at o1 o2
 rw [← I64_replicate] at o1 o2
 have hz:(w.alloc (.cells (Array.replicate m (.int .i64 0)) 3)).heap.size=w.heap.size+1:=by simp
 rw [hz] at o2
 have p1:=(o1.alloc (.cells (Array.replicate m (.int .i64 0)) 3)).drew
 have p2:=(o2.base_le' (base':=w.heap.size) (by omega)).drew
 have hb:Below w.heap.size w ((w.alloc (.cells (Array.replicate m (.int .i64 0)) 3)).alloc (.cells (Array.replicate m (.int .i64 0)) 3)).drew:=(((Below.refl _ _).alloc (Nat.le_refl _) _).alloc (by simp) _).trans ((Below.refl _ _).drew)
 have hs:((w.alloc (.cells (Array.replicate m (.int .i64 0)) 3)).alloc (.cells (Array.replicate m (.int .i64 0)) 3)).drew.heap.size=w.heap.size+1+1:=by
  show ((w.alloc _).alloc _).heap.size=_
  simp
 rcases h with ⟨rfl,rfl⟩ | ⟨rfl,rfl⟩
 ·exact ⟨Stack.nil (exc_Exc V),rfl,KnownP.zero _ _ _,p1,p2,World.ownsRow_nil _ _ _ _,hb,by omega,by rw [hs];omega,by rw [hs];omega,Nat.le_refl _⟩
 ·exact ⟨Stack.nil (exc_Exc V),rfl,KnownP.zero _ _ _,p2,p1,World.ownsRow_nil _ _ _ _,hb,by omega,by rw [hs];omega,by rw [hs];omega,Nat.le_refl _⟩
set_option maxHeartbeats 8000000 in
theorem mates_pB (A:Option Addr) (m c:Nat) (l:List Nat) (w:World) (hr:Rd w w.heap.size A m (I64 (ofNB l))) (hb:Bin l) (hm:m≤100000) (hB:Bal (exc (val l)) m) :
  Calls Tryz.prog 111 #[.slice A m c] w (MatesP w (val l) m):=by
 obtain ⟨i0,hi0,hz0,hz1,hz2⟩:=info_parts info_int
 have HR:=Lib.hid hr
 have HBN:=Lib.hid hb
 have HBL:=Lib.hid hB
 have HE:=Lib.hid (exc_Exc (val l))
 have HX:=Lib.hid (fun i=>exc_list hb i)
 clear hr hb hB
 have hmk:∀ w,(Instr.makeSlice 25 (.int .i64 (m:Int)) (.int .i64 (m:Int))).run Tryz.prog w=.ok (.slice (some ⟨w.heap.size,0,none⟩) m m) (w.alloc (.cells (List.replicate m (.int .i64 0)).toArray 3)):=fun w =>
  run_make_one 25 3 i0 (.int .i64 0) 8 Tryz.underlying25 hi0 hz0 hz1 hz2 rfl .i64 .i64 m (by omega) (by omega) w
 go_enter Tryz.func111,Tryz.ntmps111
 go_upto_region 1 with fail
 go_cut [4,5] from 10 to 15 (fun s t wx=>∃ gy gz,s=.slice (some ⟨gy,0,none⟩) m m∧t=.slice (some ⟨gz,0,none⟩) m m∧Hid (MSt w wx wx (val l) m 0 0 gy gz none 0 (List.replicate m 0) (List.replicate m 0) []))
 case first =>
  go_region
  all_goals (
   go_wp2_with fail
   go_meet
   first
    | exact ⟨_,_,rfl,rfl,two_made w m hm _ _ (.inl ⟨rfl,rfl⟩) _⟩
    | exact ⟨_,_,rfl,rfl,two_made w m hm _ _ (.inr ⟨rfl,rfl⟩) _⟩)
 case rest =>
  obtain ⟨gy,gz,rfl,rfl,hst⟩:=hcut
  clear hmk
  go_wp2_with fail
  go_loopw [6,18] (fun v x wr=>∃ (i k c6:Nat) (A6:Option Addr) (y z:List Int) (s:List Nat),x=.int .i64 (i:Int)∧v=.slice A6 k c6∧i≤m∧k≤i∧k≤c6∧c6≤9223372036854775807∧Hid (MSt w wc wr (val l) m i k gy gz A6 c6 y z s)) (fun _ x _=>m - (intOf x).toNat)
  case atStart=>exact ⟨0,0,0,none,_,_,_,rfl,rfl,by omega,by omega,by omega,by omega,hst.out⟩
  case round =>
   clear hst
   obtain ⟨i,k,c6,A6,y,z,s,rfl,rfl,him,hki,hkc,hc6,hm6⟩:=hrel
   by_cases hlt:i < m
   ·obtain ⟨b',o,e,_,k1⟩:=(HR.out.below hm6.out.bel).i64 (by omega)
    subst e
    have t1:=k1 i hlt
    rw [ofN_getB] at t1
    have hx:=HX.out i
    have hb2:=HBN.out.getD i
    clear k1
    generalize l.getD i 0=b at *
    have HXI:=Lib.hid hx
    clear hx
    have hly:=hm6.out.leny
    have hlz:=hm6.out.lenz
    have HLY:=Lib.hid hly
    have HLZ:=Lib.hid hlz
    have gzc:wr.cell? ⟨gz,i,none⟩=some (.int .i64 (z.getD i 0)):=own_cellI hm6.out.oz i hlt
    have gzf:wr.frozen? ⟨gz,i,none⟩=false:=hm6.out.oz.frozenAt i
    clear hly hlz
    by_cases hb1:b=1
    ·subst hb1
     have t2:wr.cell? ⟨b',o+i,none⟩=some (.int .i64 1):=t1
     have HO:Hid (exc (val l) (i+1)=exc (val l) i+1):=by show _=_;rw [HXI.out];rfl
     clear t1
     by_cases hk0:k=0
     ·subst hk0
      have M1:Hid (MSt w wc (wr.setCell ⟨gz,i,none⟩ (.int .i64 (-1))) (val l) m i 0 gy gz A6 c6 y (z.set i (-1)) s):=hm6.out.setz i (-1) ⟨hm6.out.kn.close,hm6.out.kn.open_,fun p hp=>by
       show RoundOK _ _ ((z.set i (-1)).getD p 0)
       rw [getDI_set' z i p _ (by rw [HLZ.out];exact hlt) (by omega)];exact hm6.out.kn.round p hp⟩
      have KN:Hid (KnownP (exc (val l)) (i+1) (fun p=>y.getD p 0) (fun p=>(z.set i (-1)).getD p 0)):=hm6.out.kn.push HE.out hm6.out.st HO.out (fun p hp=>getDI_set' z i p _ (by rw [HLZ.out];exact hlt) hp) (by rw [if_pos hm6.out.sl];exact getDI_set1 z i _ (by rw [HLZ.out];exact hlt))
      have bA:=(Below.refl (wr.setCell ⟨gz,i,none⟩ (.int .i64 (-1))).heap.size (wr.setCell ⟨gz,i,none⟩ (.int .i64 (-1)))).alloc (Nat.le_refl _) (.cells #[.int .i64 (i:Int)] 3)
      have hsz:(wr.setCell ⟨gz,i,none⟩ (.int .i64 (-1))).heap.size=wr.heap.size:=by simp [World.setCell]
      have ownA:=own_below M1.out.os bA
      have rA:=Rd.new (wr.setCell ⟨gz,i,none⟩ (.int .i64 (-1))) 3 #[.int .i64 (i:Int)] 1 (I64 [(i:Int)]) (by simp [I64]) (by simp)
      rw [hsz] at rA
      have e1:0+1≤maxLen:=by simp only [maxLen];omega
      have e2:(0+1)*8≤140737488355328:=by omega
      have e3:wc.heap.size≤((wr.setCell ⟨gz,i,none⟩ (.int .i64 (-1))).alloc (.cells #[.int .i64 (i:Int)] 3)).heap.size:=by have:=M1.out.sz;simp only [World.size_alloc];omega
      clear hsz
      go_wp2_with (first
       | (at_builtin;go_must (refine wpList_append_rd _ rfl _ _ 25 rfl wc.heap.size 3 i0 (.int .i64 0) 8 Tryz.underlying25 hi0 hz0 hz1 hz2 rfl (.slice A6 0 c6) 0 (I64 (ofNB s)) rfl ownA (wr.heap.size+1) (some ⟨wr.heap.size,0,none⟩) 1 1 (I64 [(i:Int)]) rfl rA (I64_one _) e1 e2 e3 ?_)))
      intro A7 c7 w7 hc7 hm7 hown7 hg7 _
      have M7:=Lib.hid (M1.out.grow _ hown7 hg7 (hm6.out.st.push HO.out) KN.out)
      have hm79:c7≤9223372036854775807:=by unfold maxLen at hm7;omega
      clear bA ownA rA e1 e2 e3 hown7 hg7
      go_wp2_with fail
      go_roundw
      case rel=>exact ⟨i+1,0+1,c7,A7,_,_,_,by go_num,rfl,by omega,by omega,hc7,hm79,M7.out⟩
      case measure=>simp [intOf];omega
     ·obtain ⟨k',rfl⟩:∃ k',k=k'+1:=⟨k - 1,by omega⟩
      obtain ⟨g6,e6,g61,g62⟩:=own_some hm6.out.os (by omega)
      subst e6
      have hgz6:gz≠g6:=by have:=hm6.out.lz;omega
      have q1:wr.cell? ⟨g6,k',none⟩=some (.int .i64 ((s.getD k' 0:Nat):Int)):=by
       have:=own_cellI hm6.out.os k' (by omega)
       rw [ofN_getB] at this
       exact this
      obtain ⟨v,hv⟩:∃ v:Int,v=((s.getD k' 0:Nat):Int):=⟨_,rfl⟩
      rw [← hv] at q1
      have q2:(wr.setCell ⟨gz,i,none⟩ (.int .i64 (-1))).cell? ⟨g6,k',none⟩=some (.int .i64 v):=by rw [← q1];exact World.cell?_setCell_other _ _ _ _ (by first | (simp;omega) | simp | (simp;exact hgz6))
      have M0:Hid (MSt w wc (wr.setCell ⟨gz,i,none⟩ (.int .i64 (-1))) (val l) m i (k'+1) gy gz (some ⟨g6,0,none⟩) c6 y (z.set i (-1)) s):=hm6.out.setz i (-1) ⟨hm6.out.kn.close,hm6.out.kn.open_,fun p hp=>by
       show RoundOK _ _ ((z.set i (-1)).getD p 0)
       rw [getDI_set' z i p _ (by rw [HLZ.out];exact hlt) (by omega)];exact hm6.out.kn.round p hp⟩
      have f2:(wr.setCell ⟨gz,i,none⟩ (.int .i64 (-1))).frozen? ⟨gz,i,none⟩=false:=M0.out.oz.frozenAt i
      have M1:Hid (MSt w wc ((wr.setCell ⟨gz,i,none⟩ (.int .i64 (-1))).setCell ⟨gz,i,none⟩ (.int .i64 v)) (val l) m i (k'+1) gy gz (some ⟨g6,0,none⟩) c6 y ((z.set i (-1)).set i v) s):=M0.out.setz i v ⟨hm6.out.kn.close,hm6.out.kn.open_,fun p hp=>by
       show RoundOK _ _ (((z.set i (-1)).set i v).getD p 0)
       rw [getDI_set' _ i p _ (by rw [List.length_set,HLZ.out];exact hlt) (by omega),getDI_set' z i p _ (by rw [HLZ.out];exact hlt) (by omega)];exact hm6.out.kn.round p hp⟩
      have KN:Hid (KnownP (exc (val l)) (i+1) (fun p=>y.getD p 0) (fun p=>((z.set i (-1)).set i v).getD p 0)):=hm6.out.kn.push HE.out hm6.out.st HO.out (fun p hp=>by
        show ((z.set i (-1)).set i v).getD p 0=z.getD p 0
        rw [getDI_set' _ i p _ (by rw [List.length_set,HLZ.out];exact hlt) hp,getDI_set' z i p _ (by rw [HLZ.out];exact hlt) hp])
       (by rw [if_neg (by rw [hm6.out.sl];omega),hm6.out.sl,Nat.add_sub_cancel,← hv];exact getDI_set1 _ i _ (by rw [List.length_set,HLZ.out];exact hlt))
      have hkI:(0:Int) < ((k':Int)+1):=by omega
      clear hv q1 M0
      have bA:=(Below.refl ((wr.setCell ⟨gz,i,none⟩ (.int .i64 (-1))).setCell ⟨gz,i,none⟩ (.int .i64 v)).heap.size ((wr.setCell ⟨gz,i,none⟩ (.int .i64 (-1))).setCell ⟨gz,i,none⟩ (.int .i64 v))).alloc (Nat.le_refl _) (.cells #[.int .i64 (i:Int)] 3)
      have hsz:((wr.setCell ⟨gz,i,none⟩ (.int .i64 (-1))).setCell ⟨gz,i,none⟩ (.int .i64 v)).heap.size=wr.heap.size:=by simp [World.setCell]
      have ownA:=own_below M1.out.os bA
      have rA:=Rd.new ((wr.setCell ⟨gz,i,none⟩ (.int .i64 (-1))).setCell ⟨gz,i,none⟩ (.int .i64 v)) 3 #[.int .i64 (i:Int)] 1 (I64 [(i:Int)]) (by simp [I64]) (by simp)
      rw [hsz] at rA
      have e1:k'+1+1≤maxLen:=by simp only [maxLen];omega
      have e2:(k'+1+1)*8≤140737488355328:=by omega
      have e3:wc.heap.size≤(((wr.setCell ⟨gz,i,none⟩ (.int .i64 (-1))).setCell ⟨gz,i,none⟩ (.int .i64 v)).alloc (.cells #[.int .i64 (i:Int)] 3)).heap.size:=by have:=M1.out.sz;simp only [World.size_alloc];omega
      clear hsz
      go_wp2_with (first
       | (at_builtin;go_must (refine wpList_append_rd _ rfl _ _ 25 rfl wc.heap.size 3 i0 (.int .i64 0) 8 Tryz.underlying25 hi0 hz0 hz1 hz2 rfl (.slice (some ⟨g6,0,none⟩) (k'+1) c6) (k'+1) (I64 (ofNB s)) rfl ownA (wr.heap.size+1) (some ⟨wr.heap.size,0,none⟩) 1 1 (I64 [(i:Int)]) rfl rA (I64_one _) e1 e2 e3 ?_)))
      intro A7 c7 w7 hc7 hm7 hown7 hg7 _
      have M7:=Lib.hid (M1.out.grow _ hown7 hg7 (hm6.out.st.push HO.out) KN.out)
      have hm79:c7≤9223372036854775807:=by unfold maxLen at hm7;omega
      clear bA ownA rA e1 e2 e3 hown7 hg7
      go_wp2_with fail
      go_roundw
      case rel=>exact ⟨i+1,k'+1+1,c7,A7,_,_,_,by go_num,rfl,by omega,by omega,hc7,hm79,M7.out⟩
      case measure=>simp [intOf];omega
    ·obtain rfl:b=0:=by omega
     have t2:wr.cell? ⟨b',o+i,none⟩=some (.int .i64 0):=t1
     have HO:Hid (exc (val l) (i+1)=exc (val l) i - 1):=by show _=_;rw [HXI.out];show exc (val l) i+(2*0 - 1)=_;omega
     have hk1:0 < k:=by
      have h1:=HBL.out.1 (i+1) (by omega)
      have h2:=hm6.out.st.1
      rw [hm6.out.sl] at h2
      rw [HO.out] at h1
      omega
     obtain ⟨k',rfl⟩:∃ k',k=k'+1:=⟨k - 1,by omega⟩
     obtain ⟨g6,e6,g61,g62⟩:=own_some hm6.out.os (by omega)
     subst e6
     have q1:wr.cell? ⟨g6,k',none⟩=some (.int .i64 ((s.getD k' 0:Nat):Int)):=by
      have:=own_cellI hm6.out.os k' (by omega)
      rw [ofN_getB] at this
      exact this
     have M7:=Lib.hid (hm6.out.shut hlt HO.out)
     have hoi:s.getD k' 0 < i:=(hm6.out.st.2 k' (by rw [hm6.out.sl];omega)).1
     have gzo:wr.cell? ⟨gz,s.getD k' 0,none⟩=some (.int .i64 (z.getD (s.getD k' 0) 0)):=own_cellI hm6.out.oz _ (by omega)
     have gyc:wr.cell? ⟨gy,i,none⟩=some (.int .i64 (y.getD i 0)):=own_cellI hm6.out.oy i hlt
     have gyo:wr.cell? ⟨gy,s.getD k' 0,none⟩=some (.int .i64 (y.getD (s.getD k' 0) 0)):=own_cellI hm6.out.oy _ (by omega)
     have gyf:∀ j,wr.frozen? ⟨gy,j,none⟩=false:=fun j=>hm6.out.oy.frozenAt j
     have gyf1:=gyf i
     have gyf2:=gyf (s.getD k' 0)
     have hyz:=hm6.out.yz
     have hoI:((s.getD k' 0:Nat):Int) < (m:Int):=by omega
     clear t1 gyf
     generalize s.getD k' 0=ob at *
     generalize z.getD ob 0=zo at *
     go_wp2_with fail
     all_goals first
      | (exfalso;omega)
      | (go_roundw
         case rel=>exact ⟨i+1,k',c6,_,_,_,_,by go_num,rfl,by omega,by omega,by omega,hc6,M7.out⟩
         case measure=>simp [intOf];omega)
   ·obtain rfl:i=m:=by omega
    go_wp2_with fail
    go_ret2
    exact ⟨_,_,_,_,y,z,rfl,hm6.out.oy,hm6.out.oz,fun i hi=>hm6.out.kn.done HE.out HBL.out i hi,hm6.out.bel⟩
def OwnersP (w:World) (ks:List Nat) (n:Nat) (e:Ending) (w':World):Prop :=
 ∃ (Y:Option Addr) (cy:Nat) (y:List Int),e=.returned (.slice Y n cy)∧w'.ownsRow w.heap.size 3 1 (.slice Y n cy) n (I64 y)∧(∀ i,i < n→OwnAt ks i (y.getD i 0))∧Below w.heap.size w w'
structure OSt (w w1 wr:World) (ks:List Nat) (n i k gy:Nat) (A6:Option Addr) (c6:Nat) (y:List Int) (S:List Nat):Prop where
 st:OStk ks i S
 sl:S.length=k
 kn:∀ j,j < i→OwnAt ks j (y.getD j 0)
 oy:wr.ownsRow w.heap.size 3 1 (.slice (some ⟨gy,0,none⟩) n n) n (I64 y)
 os:wr.ownsRow w1.heap.size 3 1 (.slice A6 k c6) k (I64 (ofNB S))
 bel:Below w.heap.size w wr
 ly:gy < w1.heap.size
 sz:w1.heap.size≤wr.heap.size
theorem OSt.leny {w w1 wr:World} {ks:List Nat} {n i k gy c6:Nat} {A6:Option Addr} {y:List Int} {S:List Nat} (h:OSt w w1 wr ks n i k gy A6 c6 y S):y.length=n:=own_lenI h.oy
theorem OSt.put {w w1 wr:World} {ks:List Nat} {n i k gy c6:Nat} {A6:Option Addr} {y:List Int} {S:List Nat} (h:OSt w w1 wr ks n i k gy A6 c6 y S) (hi:i < n) (v:Int):OSt w w1 (wr.setCell ⟨gy,i,none⟩ (.int .i64 v)) ks n i k gy A6 c6 (y.set i v) S :=
 ⟨h.st,h.sl,fun j hj=>by rw [getDI_set' y i j v (by rw [h.leny];exact hi) (by omega)];exact h.kn j hj,own_setI h.oy i v,own_set_other h.os (own_block_ne h.os h.ly) _ _,h.bel.setCell (own_block h.oy).1 _,h.ly,by simp [World.setCell];exact h.sz⟩
theorem OSt.next {w w1 wr:World} {ks:List Nat} {n i k gy c6:Nat} {A6:Option Addr} {y:List Int} {S:List Nat} (h:OSt w w1 wr ks n i k gy A6 c6 y S) (ho:OwnAt ks i (y.getD i 0)) (hs:OStk ks (i+1) S):OSt w w1 wr ks n (i+1) k gy A6 c6 y S :=
 ⟨hs,h.sl,fun j hj=>by
  by_cases e:j=i
  ·subst e;exact ho
  ·exact h.kn j (by omega),h.oy,h.os,h.bel,h.ly,h.sz⟩
theorem OSt.shut {w w1 wr:World} {ks:List Nat} {n i k gy c6:Nat} {A6:Option Addr} {y:List Int} {S:List Nat} (h:OSt w w1 wr ks n i (k+1) gy A6 c6 y S) (ho:OwnAt ks i (y.getD i 0)) (hs:OStk ks (i+1) (S.take (S.length - 1))):OSt w w1 wr ks n (i+1) k gy A6 c6 y (S.take k):=by
 have e:S.length - 1=k:=by rw [h.sl];omega
 rw [e] at hs
 have oc:=own_cut h.os (show k≤k+1 by omega) (by omega)
 rw [I64_take,← ofN_takeB] at oc
 exact ⟨hs,by rw [List.length_take,h.sl];omega,fun j hj=>by
  by_cases e:j=i
  ·subst e;exact ho
  ·exact h.kn j (by omega),h.oy,oc,h.bel,h.ly,h.sz⟩
theorem OSt.grow {w w1 W W':World} {ks:List Nat} {n i k gy c6 c':Nat} {A6 A':Option Addr} {y:List Int} {S:List Nat} (h:OSt w w1 W ks n i k gy A6 c6 y S) (o:Obj)
  (hs:OStk ks (i+1) (S++[i])) (hoi:OwnAt ks i (y.getD i 0))
  (ho:W'.ownsRow w1.heap.size 3 1 (.slice A' (k+1) c') (k+1) (I64 (ofNB S)++I64 [(i:Int)])) (hg:(W.alloc o).grownBy W' (Value.slice A6 k c6).ownBlock):OSt w w1 W' ks n (i+1) (k+1) gy A' c' y (S++[i]):=by
 have hyo:=own_block_ne h.os h.ly
 have h1:=(own_block h.oy).1
 refine ⟨hs,by rw [List.length_append,h.sl];rfl,fun j hj=>?_,own_mod (h.oy.alloc o) (Mod.ofGrown hg) fun j hj e=>?_,?_,?_,h.ly,by have h7:=hg.size;have h8:=h.sz;simp at h7;omega⟩
 ·by_cases e:j=i
  ·subst e;exact hoi
  ·exact h.kn j (by omega)
 ·have:gy=j:=by simpa [Value.ownBlock] using hj
  subst this;exact hyo e.symm
 ·rw [← I64_append] at ho
  rw [ofN_appendB]
  exact ho
 ·exact (h.bel.alloc h.bel.size o).trans ((Below.appended (h.os.alloc o) hg (by have:=h.sz;simp;omega)).mono (by have:=h.ly;omega))
set_option maxHeartbeats 8000000 in
theorem owners_p (A:Option Addr) (n c:Nat) (ks:List Nat) (w:World) (hr:Rd w w.heap.size A n (I64 (ofNB ks))) (hk:Kds ks) (hn:n≤100000) (hB:Bal (exc (val (ownL 0 ks))) (ownL 0 ks).length) :
  Calls Tryz.prog 73 #[.slice A n c] w (OwnersP w ks n):=by
 obtain ⟨i0,hi0,hz0,hz1,hz2⟩:=info_parts info_int
 have HL:Hid (ks.length=n):=by have:=hr.len;rw [I64_len,ofN_lenB] at this;exact this
 have HR:=Lib.hid hr
 have HK:=Lib.hid hk
 have HB0:=Lib.hid hB
 have HT:Hid (∀ i S,i < n→OStk ks i S→OwnAt ks i (topP S)):=fun i S hi hs=>hs.own hk hB (by rw [HL.out];exact hi)
 clear hr hk hB
 have hml:n≤maxLen:=by simp only [maxLen];omega
 have hmk:∀ w,(Instr.makeSlice 25 (.int .i64 (n:Int)) (.int .i64 (n:Int))).run Tryz.prog w=.ok (.slice (some ⟨w.heap.size,0,none⟩) n n) (w.alloc (.cells (List.replicate n (.int .i64 0)).toArray 3)):=fun w =>
  run_make_one 25 3 i0 (.int .i64 0) 8 Tryz.underlying25 hi0 hz0 hz1 hz2 rfl .i64 .i64 n (by omega) (by omega) w
 have hrep:(List.replicate n (Value.int .i64 0)).toArray=Array.replicate n (.int .i64 0):=by rw [List.toArray_replicate]
 have M0:Hid (OSt w (w.alloc (.cells (Array.replicate n (.int .i64 0)) 3)) (w.alloc (.cells (Array.replicate n (.int .i64 0)) 3)) ks n 0 0 w.heap.size none 0 (List.replicate n 0) []):=by
  have o1:=own_made w 3 n (.int .i64 0) hml
  rw [List.toArray_replicate,← I64_replicate] at o1
  exact ⟨OStk.nil ks,rfl,fun j hj=>absurd hj (by omega),o1,World.ownsRow_nil _ _ _ _,(Below.refl _ _).alloc (Nat.le_refl _) _,by simp,Nat.le_refl _⟩
 rw [hrep] at hmk
 clear hrep
 go_enter Tryz.func73,Tryz.ntmps73
 go_wp2_with fail
 clear hmk
 obtain ⟨gy,hgy⟩:∃ gy,gy=w.heap.size:=⟨_,rfl⟩
 rw [← hgy] at M0 ⊢
 have HGY:=Lib.hid hgy
 clear hgy
 generalize w.alloc (.cells (Array.replicate n (.int .i64 0)) 3)=w1 at *
 go_loopw [4,12] (fun v x wr=>∃ (i k c6:Nat) (A6:Option Addr) (y:List Int) (S:List Nat),x=.int .i64 (i:Int)∧v=.slice A6 k c6∧i≤n∧k≤i∧k≤c6∧c6≤9223372036854775807∧Hid (OSt w w1 wr ks n i k gy A6 c6 y S)) (fun _ x _=>n - (intOf x).toNat)
 case atStart=>exact ⟨0,0,0,none,_,_,rfl,rfl,by omega,by omega,by omega,by omega,M0⟩
 case round =>
  clear M0
  obtain ⟨i,k,c6,A6,y,S,rfl,rfl,hin,hki,hkc,hc6,HS⟩:=hrel
  by_cases hlt:i < n
  ·obtain ⟨b',o,e,_,k1⟩:=(HR.out.below HS.out.bel).i64 (by omega)
   subst e
   have t1:=k1 i hlt
   rw [ofN_getB] at t1
   have hx4:=HK.out.getD i
   have HOW:=Lib.hid (HT.out i S hlt HS.out.st)
   obtain ⟨x,hx⟩:∃ x,x=ks.getD i 0:=⟨_,rfl⟩
   have HXX:=Lib.hid hx
   rw [← hx] at t1 hx4
   clear k1 hx
   have HLY:=Lib.hid HS.out.leny
   have gyc:wr.cell? ⟨gy,i,none⟩=some (.int .i64 (y.getD i 0)):=own_cellI HS.out.oy i hlt
   have gyf:wr.frozen? ⟨gy,i,none⟩=false:=HS.out.oy.frozenAt i
   by_cases hk0:k=0
   ·subst hk0
    have M1:Hid (OSt w w1 (wr.setCell ⟨gy,i,none⟩ (.int .i64 (-1))) ks n i 0 gy A6 c6 (y.set i (-1)) S):=HS.out.put hlt (-1)
    have OA:Hid (OwnAt ks i ((y.set i (-1)).getD i 0)):=by
     have h1:=HOW.out
     unfold topP at h1
     rw [if_pos HS.out.sl] at h1
     rw [getDI_set1 y i _ (by rw [HLY.out];exact hlt)];exact h1
    clear HOW HS
    rcases (by omega:x=0∨x=1∨x=2∨x=3) with rfl | rfl | rfl | rfl
    ·have SN:Hid (OStk ks (i+1) (S++[i])):=M1.out.st.push (by rw [HL.out];exact hlt) HXX.out.symm
     have bA:=(Below.refl (wr.setCell ⟨gy,i,none⟩ (.int .i64 (-1))).heap.size (wr.setCell ⟨gy,i,none⟩ (.int .i64 (-1)))).alloc (Nat.le_refl _) (.cells #[.int .i64 (i:Int)] 3)
     have hsz:(wr.setCell ⟨gy,i,none⟩ (.int .i64 (-1))).heap.size=wr.heap.size:=by simp [World.setCell]
     have ownA:=own_below M1.out.os bA
     have rA:=Rd.new (wr.setCell ⟨gy,i,none⟩ (.int .i64 (-1))) 3 #[.int .i64 (i:Int)] 1 (I64 [(i:Int)]) (by simp [I64]) (by simp)
     rw [hsz] at rA
     have e1:0+1≤maxLen:=by simp only [maxLen];omega
     have e2:(0+1)*8≤140737488355328:=by omega
     have e3:w1.heap.size≤((wr.setCell ⟨gy,i,none⟩ (.int .i64 (-1))).alloc (.cells #[.int .i64 (i:Int)] 3)).heap.size:=by have:=M1.out.sz;simp only [World.size_alloc];omega
     clear hsz
     go_wp2_with (first
      | (at_builtin;go_must (refine wpList_append_rd _ rfl _ _ 25 rfl w1.heap.size 3 i0 (.int .i64 0) 8 Tryz.underlying25 hi0 hz0 hz1 hz2 rfl (.slice A6 (0) c6) (0) (I64 (ofNB S)) rfl ownA (wr.heap.size+1) (some ⟨wr.heap.size,0,none⟩) 1 1 (I64 [(i:Int)]) rfl rA (I64_one _) e1 e2 e3 ?_)))
     intro A7 c7 w7 hc7 hm7 hown7 hg7 _
     have M7:=Lib.hid (M1.out.grow _ SN.out OA.out hown7 hg7)
     have hm79:c7≤9223372036854775807:=by unfold maxLen at hm7;omega
     clear bA ownA rA e1 e2 e3 hown7 hg7
     go_wp2_with fail
     go_roundw
     case rel=>exact ⟨i+1,0+1,c7,A7,_,_,by go_num,rfl,by omega,by omega,hc7,hm79,M7⟩
     case measure=>simp [intOf];omega
    ·exfalso
     have:=(M1.out.st.pop HB0.out (by rw [HL.out];exact hlt) HXX.out.symm).1
     have:=M1.out.sl
     omega
    ·have M7:=Lib.hid (M1.out.next OA.out (M1.out.st.skip (by rw [HL.out];exact hlt) (by rw [← HXX.out];decide)))
     go_wp2_with fail
     go_roundw
     case rel=>exact ⟨i+1,0,c6,_,_,_,by go_num,rfl,by omega,by omega,by omega,hc6,M7⟩
     case measure=>simp [intOf];omega
    ·have M7:=Lib.hid (M1.out.next OA.out (M1.out.st.skip (by rw [HL.out];exact hlt) (by rw [← HXX.out];decide)))
     go_wp2_with fail
     go_roundw
     case rel=>exact ⟨i+1,0,c6,_,_,_,by go_num,rfl,by omega,by omega,by omega,hc6,M7⟩
     case measure=>simp [intOf];omega
   ·obtain ⟨k',rfl⟩:∃ k',k=k'+1:=⟨k - 1,by omega⟩
    obtain ⟨g6,e6,g61,g62⟩:=own_some HS.out.os (by omega)
    subst e6
    have hgy6:gy≠g6:=by have:=HS.out.ly;omega
    have q1:wr.cell? ⟨g6,k',none⟩=some (.int .i64 ((S.getD k' 0:Nat):Int)):=by
     have:=own_cellI HS.out.os k' (by omega)
     rw [ofN_getB] at this
     exact this
    obtain ⟨v,hv⟩:∃ v:Int,v=((S.getD k' 0:Nat):Int):=⟨_,rfl⟩
    rw [← hv] at q1
    have q2:(wr.setCell ⟨gy,i,none⟩ (.int .i64 (-1))).cell? ⟨g6,k',none⟩=some (.int .i64 v):=by rw [← q1];exact World.cell?_setCell_other _ _ _ _ (by first | (simp;omega) | simp | (simp;exact hgy6))
    have M0:Hid (OSt w w1 (wr.setCell ⟨gy,i,none⟩ (.int .i64 (-1))) ks n i (k'+1) gy (some ⟨g6,0,none⟩) c6 (y.set i (-1)) S):=HS.out.put hlt (-1)
    have f2:(wr.setCell ⟨gy,i,none⟩ (.int .i64 (-1))).frozen? ⟨gy,i,none⟩=false:=M0.out.oy.frozenAt i
    have M1:Hid (OSt w w1 ((wr.setCell ⟨gy,i,none⟩ (.int .i64 (-1))).setCell ⟨gy,i,none⟩ (.int .i64 v)) ks n i (k'+1) gy (some ⟨g6,0,none⟩) c6 ((y.set i (-1)).set i v) S):=M0.out.put hlt v
    have OA:Hid (OwnAt ks i (((y.set i (-1)).set i v).getD i 0)):=by
     have h1:=HOW.out
     unfold topP at h1
     rw [if_neg (by rw [HS.out.sl];omega),HS.out.sl,Nat.add_sub_cancel,← hv] at h1
     rw [getDI_set1 _ i _ (by rw [List.length_set,HLY.out];exact hlt)];exact h1
    have hkI:(0:Int) < ((k':Int)+1):=by omega
    clear hv q1 M0 HOW HS
    rcases (by omega:x=0∨x=1∨x=2∨x=3) with rfl | rfl | rfl | rfl
    ·have SN:Hid (OStk ks (i+1) (S++[i])):=M1.out.st.push (by rw [HL.out];exact hlt) HXX.out.symm
     have bA:=(Below.refl ((wr.setCell ⟨gy,i,none⟩ (.int .i64 (-1))).setCell ⟨gy,i,none⟩ (.int .i64 v)).heap.size ((wr.setCell ⟨gy,i,none⟩ (.int .i64 (-1))).setCell ⟨gy,i,none⟩ (.int .i64 v))).alloc (Nat.le_refl _) (.cells #[.int .i64 (i:Int)] 3)
     have hsz:((wr.setCell ⟨gy,i,none⟩ (.int .i64 (-1))).setCell ⟨gy,i,none⟩ (.int .i64 v)).heap.size=wr.heap.size:=by simp [World.setCell]
     have ownA:=own_below M1.out.os bA
     have rA:=Rd.new ((wr.setCell ⟨gy,i,none⟩ (.int .i64 (-1))).setCell ⟨gy,i,none⟩ (.int .i64 v)) 3 #[.int .i64 (i:Int)] 1 (I64 [(i:Int)]) (by simp [I64]) (by simp)
     rw [hsz] at rA
     have e1:k'+1+1≤maxLen:=by simp only [maxLen];omega
     have e2:(k'+1+1)*8≤140737488355328:=by omega
     have e3:w1.heap.size≤(((wr.setCell ⟨gy,i,none⟩ (.int .i64 (-1))).setCell ⟨gy,i,none⟩ (.int .i64 v)).alloc (.cells #[.int .i64 (i:Int)] 3)).heap.size:=by have:=M1.out.sz;simp only [World.size_alloc];omega
     clear hsz
     go_wp2_with (first
      | (at_builtin;go_must (refine wpList_append_rd _ rfl _ _ 25 rfl w1.heap.size 3 i0 (.int .i64 0) 8 Tryz.underlying25 hi0 hz0 hz1 hz2 rfl (.slice (some ⟨g6,0,none⟩) (k'+1) c6) (k'+1) (I64 (ofNB S)) rfl ownA (wr.heap.size+1) (some ⟨wr.heap.size,0,none⟩) 1 1 (I64 [(i:Int)]) rfl rA (I64_one _) e1 e2 e3 ?_)))
     intro A7 c7 w7 hc7 hm7 hown7 hg7 _
     have M7:=Lib.hid (M1.out.grow _ SN.out OA.out hown7 hg7)
     have hm79:c7≤9223372036854775807:=by unfold maxLen at hm7;omega
     clear bA ownA rA e1 e2 e3 hown7 hg7
     go_wp2_with fail
     go_roundw
     case rel=>exact ⟨i+1,k'+1+1,c7,A7,_,_,by go_num,rfl,by omega,by omega,hc7,hm79,M7⟩
     case measure=>simp [intOf];omega
    ·have SP:=M1.out.st.pop HB0.out (by rw [HL.out];exact hlt) HXX.out.symm
     have M7:=Lib.hid (M1.out.shut OA.out SP.2)
     clear SP
     go_wp2_with fail
     all_goals first
      | (exfalso;omega)
      | (go_roundw
         case rel=>exact ⟨i+1,k',c6,_,_,_,by go_num,rfl,by omega,by omega,by omega,hc6,M7⟩
         case measure=>simp [intOf];omega)
    ·have M7:=Lib.hid (M1.out.next OA.out (M1.out.st.skip (by rw [HL.out];exact hlt) (by rw [← HXX.out];decide)))
     go_wp2_with fail
     go_roundw
     case rel=>exact ⟨i+1,k'+1,c6,_,_,_,by go_num,rfl,by omega,by omega,by omega,hc6,M7⟩
     case measure=>simp [intOf];omega
    ·have M7:=Lib.hid (M1.out.next OA.out (M1.out.st.skip (by rw [HL.out];exact hlt) (by rw [← HXX.out];decide)))
     go_wp2_with fail
     go_roundw
     case rel=>exact ⟨i+1,k'+1,c6,_,_,_,by go_num,rfl,by omega,by omega,by omega,hc6,M7⟩
     case measure=>simp [intOf];omega
  ·obtain rfl:i=n:=by omega
   go_wp2_with fail
   go_ret
   exact ⟨_,_,y,rfl,HS.out.oy,HS.out.kn,HS.out.bel⟩
def Mates4P (w:World) (ks:List Nat) (n:Nat) (e:Ending) (w':World):Prop :=
 ∃ (Y:Option Addr) (cy:Nat) (y:List Int),e=.returned (.slice Y n cy)∧w'.ownsRow w.heap.size 3 1 (.slice Y n cy) n (I64 y)∧(∀ i,i < n→MatI ks i (y.getD i 0))∧Below w.heap.size w w'
structure M4St (w wr:World) (ks:List Nat) (n s j gy:Nat) (y:List Int):Prop where
 oy:wr.ownsRow w.heap.size 3 1 (.slice (some ⟨gy,0,none⟩) n n) n (I64 y)
 d0:∀ p,p < n→ks.getD p 0 / 2 < s→MatI ks p (y.getD p 0)
 d1:∀ p,p < n→ks.getD p 0 / 2=s→ah s ks p < j→MatI ks p (y.getD p 0)
 bel:Below w.heap.size w wr
theorem M4St.leny {w wr:World} {ks:List Nat} {n s j gy:Nat} {y:List Int} (h:M4St w wr ks n s j gy y):y.length=n:=own_lenI h.oy
theorem M4St.put {w wr:World} {ks:List Nat} {n s j gy:Nat} {y:List Int} (h:M4St w wr ks n s j gy y) (hn:ks.length=n) {p:Nat} (hp:p < n) (hs:ks.getD p 0 / 2=s) (ha:ah s ks p=j) {v:Int} (hv:MatI ks p v) :
  M4St w (wr.setCell ⟨gy,p,none⟩ (.int .i64 v)) ks n s (j+1) gy (y.set p v):=by
 have hl:=h.leny
 have key:∀ x,MatI ks x (y.getD x 0)→MatI ks x ((y.set p v).getD x 0):=fun x hx=>by
  by_cases e:x=p
  ·subst e;rw [getDI_set1 y x v (by omega)];exact hv
  ·rw [getDI_set' y p x v (by omega) e];exact hx
 refine ⟨own_setI h.oy p v,fun x h1 h2=>key x (h.d0 x h1 h2),fun x h1 h2 h3=>?_,h.bel.setCell (own_block h.oy).1 _⟩
 by_cases e:ah s ks x=j
 ·have:x=p:=ah_uniq s ks x p (by omega) (by omega) h2 hs (by omega)
  subst this
  rw [getDI_set1 y x v (by omega)];exact hv
 ·exact key x (h.d1 x h1 h2 (by omega))
theorem M4St.below {w wr w':World} {ks:List Nat} {n s j gy:Nat} {y:List Int} (h:M4St w wr ks n s j gy y) (b:Below wr.heap.size wr w'):M4St w w' ks n s j gy y :=
 ⟨own_below h.oy b,h.d0,h.d1,h.bel.trans (b.mono h.bel.size)⟩
theorem M4St.done {w wr:World} {ks:List Nat} {n s j gy:Nat} {y:List Int} (h:M4St w wr ks n s j gy y) (hn:ks.length=n) (hj:j=(ownL s ks).length):M4St w wr ks n (s+1) 0 gy y :=
 ⟨h.oy,fun p h1 h2=>by
  by_cases e:ks.getD p 0 / 2=s
  ·exact h.d1 p h1 e (by rw [hj];exact ah_lt s ks p (by omega) e)
  ·exact h.d0 p h1 (by omega),fun p _ _ h3=>by omega,h.bel⟩
set_option maxHeartbeats 8000000 in
theorem mates4_p (A:Option Addr) (n c:Nat) (ks:List Nat) (w:World) (hr:Rd w w.heap.size A n (I64 (ofNB ks))) (hk:Kds ks) (hn:n≤100000) (hB0:Bal (exc (val (ownL 0 ks))) (ownL 0 ks).length) (hB1:Bal (exc (val (ownL 1 ks))) (ownL 1 ks).length) :
  Calls Tryz.prog 72 #[.slice A n c] w (Mates4P w ks n):=by
 obtain ⟨i0,hi0,hz0,hz1,hz2⟩:=info_parts info_int
 have hl:ks.length=n:=by have:=hr.len;rw [I64_len,ofN_lenB] at this;exact this
 have HL:=Lib.hid hl
 have HR:=Lib.hid hr
 have HK:=Lib.hid hk
 have HB:Hid (∀ s,s < 2→Bal (exc (val (ownL s ks))) (ownL s ks).length):=fun s hs=>by
  rcases (by omega:s=0∨s=1) with rfl | rfl
  ·exact hB0
  ·exact hB1
 have hoN:∀ s,(ownL s ks).length≤n:=fun s=>by have h1:=ah_le s ks ks.length (Nat.le_refl _);rw [ah_all] at h1;omega
 have HON:=Lib.hid hoN
 have ST:=Lib.hid (fun (s:Nat) (W:World) (hs:s < 2) (m:Below w.heap.size w W)=>sort_p A n c s ks W ((hr.below m).up m.size) hk hs hn)
 have MT:=Lib.hid (fun (A1:Option Addr) (c1 s:Nat) (W:World) (hs:s < 2) (h1:Rd W W.heap.size A1 (ownL s ks).length (I64 (ofNB (ownL s ks))))=>mates_pB A1 (ownL s ks).length c1 (ownL s ks) W h1 (ownL_bin s ks) (by have:=hoN s;omega) (HB.out s hs))
 clear hr hk hB0 hB1 hoN hl
 have hml:n≤maxLen:=by simp only [maxLen];omega
 have hmk:∀ w,(Instr.makeSlice 25 (.int .i64 (n:Int)) (.int .i64 (n:Int))).run Tryz.prog w=.ok (.slice (some ⟨w.heap.size,0,none⟩) n n) (w.alloc (.cells (List.replicate n (.int .i64 0)).toArray 3)):=fun w =>
  run_make_one 25 3 i0 (.int .i64 0) 8 Tryz.underlying25 hi0 hz0 hz1 hz2 rfl .i64 .i64 n (by omega) (by omega) w
 have hrep:(List.replicate n (Value.int .i64 0)).toArray=Array.replicate n (.int .i64 0):=by rw [List.toArray_replicate]
 have M0:Hid (M4St w (w.alloc (.cells (Array.replicate n (.int .i64 0)) 3)) ks n 0 0 w.heap.size (List.replicate n 0)):=by
  have o1:=own_made w 3 n (.int .i64 0) hml
  rw [List.toArray_replicate,← I64_replicate] at o1
  exact ⟨o1,fun p _ h=>absurd h (by omega),fun p _ _ h=>absurd h (by omega),(Below.refl _ _).alloc (Nat.le_refl _) _⟩
 rw [hrep] at hmk
 clear hrep
 go_enter Tryz.func72,Tryz.ntmps72
 go_wp2_with fail
 clear hmk
 obtain ⟨gy,hgy⟩:∃ gy,gy=w.heap.size:=⟨_,rfl⟩
 have hgz:gy < (w.alloc (.cells (Array.replicate n (.int .i64 0)) 3)).heap.size:=by rw [hgy];simp
 rw [← hgy] at M0 ⊢
 clear hgy
 generalize w.alloc (.cells (Array.replicate n (.int .i64 0)) 3)=w1 at *
 go_loopw [4] (fun x wr=>∃ (s:Nat) (y:List Int),x=.int .i64 (s:Int)∧s≤2∧gy < wr.heap.size∧Hid (M4St w wr ks n s 0 gy y)) (fun x _=>2 - (intOf x).toNat)
 case atStart=>exact ⟨0,_,rfl,by omega,hgz,M0⟩
 case round =>
  clear M0 hgz
  obtain ⟨s,y,rfl,hs,hgz,HS⟩:=hrel
  by_cases hlt:s < 2
  ·have SO:=Lib.hid (ST.out s wr hlt HS.out.bel)
   have hdl:decide ((s:Int) < 2)=true:=decide_eq_true (by omega)
   go_wp2_with fail
   refine SO.out.mono ?_
   rintro e w2 ⟨A1,c1,A2,c2,rfl,o1,o2,b2⟩
   have MA:=Lib.hid (MT.out A1 c1 s w2 hlt (Rd.ofOwn o1))
   have S2:=Lib.hid (HS.out.below b2)
   have O2:=Lib.hid o2
   have Z2:=Lib.hid b2.size
   clear o1 o2 b2 HS SO
   go_wp2_with fail
   refine MA.out.mono ?_
   rintro e w3 ⟨Y,Z,cy,cz,ym,zm,rfl,oy,oz,hmz,b3⟩
   have S3:=Lib.hid (S2.out.below b3)
   have OM:=Lib.hid (Rd.ofOwn oy)
   have OA:=Lib.hid (Rd.ofOwn (own_below O2.out b3))
   have HMZ:Hid (∀ i,i < (ownL s ks).length→MateOK (exc (val (ownL s ks))) i (ym.getD i 0)):=fun i hi=>(hmz i hi).1
   have BM:Hid (0 < (ownL s ks).length→¬ inBlk Y gy):=fun h0 ⟨a,ea,ei⟩=>by
    obtain ⟨g,e,h1,_⟩:=own_some oy h0
    rw [e] at ea
    have:=Option.some.inj ea
    subst this
    have:=Z2.out
    simp at ei
    omega
   have BA:Hid (0 < (ownL s ks).length→¬ inBlk A2 gy):=fun h0 ⟨a,ea,ei⟩=>by
    obtain ⟨g,e,h1,_⟩:=own_some O2.out h0
    rw [e] at ea
    have:=Option.some.inj ea
    subst this
    simp at ei
    omega
   have hgz3:gy < w3.heap.size:=by have:=Z2.out;have:=b3.size;omega
   have hol:=HON.out s
   obtain ⟨q,hq⟩:∃ q,q=(ownL s ks).length:=⟨_,rfl⟩
   rw [← hq] at OM OA HMZ BM BA hol ⊢
   have HQ:=Lib.hid hq
   clear oy oz hmz b3 S2 O2 Z2 MA hq
   have hq3:Hid (Mod (fun i=>i=gy) w3 w3):=Mod.refl _ _
   go_wp2_with fail
   go_loopw [31] (fun x wr=>∃ (j:Nat) (y:List Int),x=.int .i64 (j:Int)∧j≤q∧Hid (M4St w wr ks n s j gy y)∧Hid (Mod (fun i=>i=gy) w3 wr)) (fun x _=>q - (intOf x).toNat)
   case atStart=>exact ⟨0,_,rfl,by omega,S3,hq3⟩
   case round =>
    clear S3 hq3
    obtain ⟨j,y,rfl,hj,HS,HM⟩:=hrel
    by_cases hjl:j < q
    ·obtain ⟨b1,o1,e,_,k1⟩:=(OM.out.mod HM.out (Nat.le_refl _) fun h0 i hi he=>BM.out h0 (he ▸ hi)).i64 (by omega)
     subst e
     obtain ⟨b2,o2,e,_,k2⟩:=(OA.out.mod HM.out (Nat.le_refl _) fun h0 i hi he=>BA.out h0 (he ▸ hi)).i64 (by omega)
     subst e
     obtain ⟨p,hp,hps,hpa,hpe⟩:=atN_back (ks:=ks) (s:=s) (y:=j) (by rw [← HQ.out];exact hjl)
     have hm:=HMZ.out j hjl
     rw [← hpa] at hm
     obtain ⟨z,hz,hzl,hmi⟩:=matI_of hp hps (HB.out s hlt) hm
     rw [hpa] at hz
     rw [← HQ.out] at hzl
     have t1:=k1 j hjl
     rw [hz] at t1
     have t2:=k2 j hjl
     rw [ofN_getB,hpe] at t2
     have t3:=k2 z hzl
     rw [ofN_getB] at t3
     have hpn:p < n:=by have:=HL.out;omega
     have S4:=Lib.hid (HS.out.put HL.out hpn hps hpa hmi)
     obtain ⟨v,hv⟩:∃ v:Nat,v=(atN s ks ks.length).getD z 0:=⟨_,rfl⟩
     rw [← hv] at t3 S4
     have gyc:wr.cell? ⟨gy,p,none⟩=some (.int .i64 (y.getD p 0)):=own_cellI HS.out.oy p hpn
     have gyf:wr.frozen? ⟨gy,p,none⟩=false:=HS.out.oy.frozenAt p
     have M4:Hid (Mod (fun i=>i=gy) w3 (wr.setCell ⟨gy,p,none⟩ (.int .i64 (v:Int)))):=HM.out.setCell (p:=⟨gy,p,none⟩) (fun _=>rfl) _
     clear k1 k2 hm hmi hz hv hpa hpe hp hps HS HM
     go_wp2_with fail
     go_roundw
     case rel=>exact ⟨j+1,_,by go_num,by omega,S4,M4⟩
     case measure=>simp [intOf];omega
    ·obtain rfl:j=q:=by omega
     have S5:=Lib.hid (HS.out.done HL.out HQ.out)
     have hgz5:gy < wr.heap.size:=by have:=HM.out.size;omega
     go_wp2_with fail
     go_roundw
     case rel=>exact ⟨s+1,_,by go_num,by omega,hgz5,S5⟩
     case measure=>simp [intOf];omega
  ·obtain rfl:s=2:=by omega
   have HF:Hid (∀ i,i < n→MatI ks i (y.getD i 0)):=fun i hi=>HS.out.d0 i hi (by have:=HK.out.getD i;omega)
   go_wp2_with fail
   go_ret
   exact ⟨_,_,y,rfl,HS.out.oy,HF.out,HS.out.bel⟩
def Good4P (w:World) (ks:List Nat) (e:Ending) (w':World):Prop:=Below w.heap.size w w'∧∃ r:Bool,e=.returned (.bool r)∧(r=true↔Bal (exc (val (ownL 0 ks))) (ownL 0 ks).length∧Bal (exc (val (ownL 1 ks))) (ownL 1 ks).length)
set_option maxHeartbeats 2000000 in
theorem good4_p (A:Option Addr) (n c:Nat) (ks:List Nat) (w:World) (hr:Rd w w.heap.size A n (I64 (ofNB ks))) (hk:Kds ks) (hn:n≤100000) :
  Calls Tryz.prog 71 #[.slice A n c] w (Good4P w ks):=by
 have hl:ks.length=n:=by have:=hr.len;rw [I64_len,ofN_lenB] at this;exact this
 have hoN:∀ s,(ownL s ks).length≤100000:=fun s=>by have h1:=ah_le s ks ks.length (Nat.le_refl _);rw [ah_all] at h1;omega
 have S0:=Lib.hid (sort_p A n c 0 ks w hr hk (by decide) hn)
 have S1:=Lib.hid (fun (W:World) (m:Below w.heap.size w W)=>sort_p A n c 1 ks W ((hr.below m).up m.size) hk (by decide) hn)
 clear hr hk hl
 go_enter Tryz.func71,Tryz.ntmps71
 go_wp2_with fail
 refine S0.out.mono ?_
 rintro e w1 ⟨A1,c1,A2,c2,rfl,o1,o2,b1⟩
 have T1:=Lib.hid (S1.out w1 b1)
 have O1:=Lib.hid (Rd.ofOwn o1)
 have B1:=Lib.hid b1
 clear o1 o2 b1 S0 S1
 go_wp2_with fail
 refine T1.out.mono ?_
 rintro e w2 ⟨A3,c3,A4,c4,rfl,o3,o4,b2⟩
 have G0:=Lib.hid (good_p A1 (ownL 0 ks).length c1 _ (ownL 0 ks) w2 (O1.out.below b2) (ownL_bin 0 ks) (by have:=hoN 0;omega))
 have G1:=Lib.hid (good_p A3 (ownL 1 ks).length c3 _ (ownL 1 ks) w2 (Rd.ofOwn o3) (ownL_bin 1 ks) (by have:=hoN 1;omega))
 have B2:Hid (Below w.heap.size w w2):=B1.out.trans (b2.mono B1.out.size)
 clear o3 o4 b2 T1 O1 B1 hoN
 go_wp2_with fail
 refine G0.out.mono ?_
 rintro e w3 ⟨rfl,r,rfl,hr⟩
 have HR:=Lib.hid hr
 clear hr G0
 cases r with
 | false =>
   go_wp2_with fail
   go_ret
   exact ⟨B2.out,false,rfl,by
    constructor
    ·intro h;cases h
    ·intro h;exact absurd (HR.out.2 h.1) (by decide)⟩
 | true =>
   have HB:=Lib.hid (HR.out.1 rfl)
   go_wp2_with fail
   refine G1.out.mono ?_
   rintro e w4 ⟨rfl,r,rfl,hr⟩
   have HR1:=Lib.hid hr
   clear hr G1
   go_wp2_with fail
   go_ret
   exact ⟨B2.out,r,rfl,by
    constructor
    ·intro h;exact ⟨HB.out,HR1.out.1 h⟩
    ·intro h;exact HR1.out.2 h.2⟩
set_option maxRecDepth 100000
def Names12P (w:World) (ks:List Nat) (n:Nat) (e:Ending) (w':World):Prop :=
 ∃ tw A c,Wd ks tw∧e=.returned (.slice A n c)∧n≤c∧c≤maxLen∧w'.ownsRow w.heap.size 3 1 (.slice A n c) n (I64 (ofN (nmL ks tw)))∧Below w.heap.size w w'
set_option maxHeartbeats 8000000 in
theorem names12_p (A:Option Addr) (n c:Nat) (ks:List Nat) (w:World) (hr:Rd w w.heap.size A n (I64 (ofNB ks))) (hk:Kds ks) (hn:n≤20000) (hB0:Bal (exc (val (ownL 0 ks))) (ownL 0 ks).length) (hB1:Bal (exc (val (ownL 1 ks))) (ownL 1 ks).length) :
  Calls Tryz.prog 38 #[.slice A n c] w (Names12P w ks n):=by
 obtain ⟨i0,hi0,hz0,hz1,hz2⟩:=info_parts info_int
 have hl:ks.length=n:=by have:=hr.len;rw [I64_len,ofN_lenB] at this;exact this
 have hmk:=run_make_one (P:=Tryz.prog) 25 3 i0 (.int .i64 0) 8 Tryz.underlying25 hi0 hz0 hz1 hz2 rfl .i64 .i64 n (by omega) (by omega) w
 have hrep:(List.replicate n (Value.int .i64 0)).toArray=Array.replicate n (.int .i64 0):=by simp
 rw [hrep] at hmk
 have hal:=(Below.refl w.heap.size w).alloc (Nat.le_refl _) (.cells (Array.replicate n (Value.int .i64 0)) 3)
 have hO:(w.alloc (.cells (Array.replicate n (Value.int .i64 0)) 3)).ownsRow w.heap.size 3 1 (.slice (some ⟨w.heap.size,0,none⟩) n n) n (I64 (List.replicate n 0)):=by
  have:=World.ownsRow_lit (base:=w.heap.size) (e:=3) (size:=1) w (Array.replicate n (Value.int .i64 0)) n (Nat.le_refl _) (by simp [maxLen];omega) (by simp)
  rw [show I64 (List.replicate n 0)=List.replicate n (.int .i64 0) by simp [I64]]
  simpa using this
 clear hrep
 have M4:Hid (Calls Tryz.prog 72 #[.slice A n c] (w.alloc (.cells (Array.replicate n (Value.int .i64 0)) 3)) (Mates4P (w.alloc (.cells (Array.replicate n (Value.int .i64 0)) 3)) ks n)) :=
  mates4_p A n c ks _ (hr.more hal) hk (by omega) hB0 hB1
 have HO:=Lib.hid hO
 have HB:=Lib.hid hal
 have HR:=Lib.hid hr
 have HK:=Lib.hid hk
 have HL:=Lib.hid hl
 have HW:Hid ((w.alloc (.cells (Array.replicate n (Value.int .i64 0)) 3)).heap.size=w.heap.size+1):=by show _=_;simp
 clear hr hk hB0 hB1 hal hO hl
 go_enter Tryz.func38,Tryz.ntmps38
 go_wp2_with fail
 clear hmk
 refine M4.out.mono ?_
 generalize w.alloc (.cells (Array.replicate n (Value.int .i64 0)) 3)=w1 at *
 rintro e w2 ⟨Y,cy,ym,rfl,hY,hM,b2⟩
 obtain ⟨P,hty⟩:=prg_of HK.out ym (by rw [HL.out];exact hM)
 obtain ⟨tw,htw⟩:∃ tw:Nat→Nat,tw=fun j=>(ym.getD j 0).toNat:=⟨_,rfl⟩
 rw [← htw] at P
 have W:Wd ks tw:=Wd.of P fun i hi=>by
  obtain ⟨q,e,m⟩:=hM i (by rw [← HL.out];exact hi)
  rw [htw]
  show MateAt ks i (ym.getD i 0).toNat
  rw [e];exact m
 have hty':∀ j,j < n→ym.getD j 0=((tw j:Nat):Int):=fun j hj=>by rw [htw];exact hty j (by rw [HL.out];exact hj)
 have HP:=Lib.hid P
 have HWD:=Lib.hid W
 have HTY:=Lib.hid hty'
 have HYO:=Lib.hid hY
 have HO2:=Lib.hid (own_below HO.out b2)
 have HB2:=Lib.hid (HB.out.trans (b2.mono HB.out.size))
 clear P W hty htw hty' hY hM b2 M4 HO HB
 have hhw:w.heap.size+1≤w2.heap.size:=by have:=own_block HO2.out;omega
 have HTK:Hid (∀ j,j < n→ks.getD j 0 < 4∧tw j < n∧tw j≠j):=fun j hj=>⟨HK.out.getD j,by have:=HP.out.lt j (by rw [HL.out];exact hj);rw [HL.out] at this;exact this,HP.out.ne j (by rw [HL.out];exact hj)⟩
 go_wp2_with fail
 go_loopw [5,6,7,15] (fun n5 i6 k7 idx wr=>∃ (i:Nat) (y:List Int),i≤n∧idx=.int .i64 (i:Int)∧n5=.int .i64 ((2*opN ks i:Nat):Int)∧Hid (y.length=n∧NmI ks tw y i∧opN ks i≤i) ∧
  Hid (wr.ownsRow w.heap.size 3 1 (.slice (some ⟨w.heap.size,0,none⟩) n n) n (I64 y))∧Hid (Mod (fun k=>k=w.heap.size) w2 wr)) (fun _ _ _ i _=>n - (intOf i).toNat)
 case atStart=>exact ⟨0,List.replicate n 0,by omega,rfl,rfl,⟨by simp,fun j hj=>by omega,by simp [opN]⟩,HO2.out,Mod.refl _ _⟩
 case round =>
  clear HO2
  obtain ⟨i,y,hi,rfl,rfl,HY,HOW,HMW⟩:=hrel
  by_cases hlt:i < n
  ·have hdk:decide (i < n)=true:=decide_eq_true hlt
   have hlti:(i:Int) < (n:Int):=by omega
   obtain ⟨ba,oa,rfl,hba,hca⟩:=HR.out.at_ (by omega)
   have cA:=hca i (by rw [I64_len,ofN_lenB,HL.out];exact hlt)
   have BW:Below w.heap.size w wr:=HB2.out.trans (HMW.out.belowB HB2.out.size fun k hk e=>by omega)
   obtain ⟨gy,hgy,hgy1,_⟩:=own_some HYO.out (by omega)
   subst hgy
   have OY:wr.ownsRow w1.heap.size 3 1 (.slice (some ⟨gy,0,none⟩) n cy) n (I64 ym):=own_mod HYO.out HMW.out fun k hk e=>by
    simp [Value.ownBlock] at hk
    have:=HW.out;omega
   obtain ⟨kk,hkk⟩:∃ kk,kk=ks.getD i 0:=⟨_,rfl⟩
   obtain ⟨t,ht⟩:∃ t,t=tw i:=⟨_,rfl⟩
   obtain ⟨q,hq⟩:∃ q,q=2*opN ks i:=⟨_,rfl⟩
   obtain ⟨hk4,ht1,ht2⟩:=HTK.out i hlt
   rw [← hkk] at hk4
   rw [← ht] at ht1 ht2
   have cA':wr.cell? ⟨ba,oa+i,none⟩=some (.int .i64 (kk:Int)):=by
    have c0:=(BW.cell (p:=⟨ba,oa+i,none⟩) hba).trans cA
    rw [c0,hkk];simp [I64,ofNB,List.getD_eq_getElem?_getD,List.getElem?_eq_getElem (show i < ks.length by rw [HL.out];exact hlt)]
   have cY:wr.cell? ⟨gy,i,none⟩=some (.int .i64 (t:Int)):=by
    rw [own_cellI OY i hlt,HTY.out i hlt,ht]
   have fO:=HOW.out.frozenAt i
   have cO:=own_cellI HOW.out i hlt
   have hyl:=HY.out.1
   have o1:=own_setI HOW.out i (q:Int)
   have cO2:=own_cellI o1 t ht1
   have fO2:=o1.frozenAt t
   have o2:=own_setI o1 t ((q+1:Nat):Int)
   have M2:Mod (fun k=>k=w.heap.size) w2 ((wr.setCell ⟨w.heap.size,i,none⟩ (.int .i64 (q:Int))).setCell ⟨w.heap.size,t,none⟩ (.int .i64 ((q+1:Nat):Int))) :=
    Mod.setCell (p:=⟨w.heap.size,t,none⟩) (Mod.setCell (p:=⟨w.heap.size,i,none⟩) HMW.out (fun _=>rfl) _) (fun _=>rfl) _
   obtain ⟨r,hr⟩:∃ r,r=kk%2:=⟨_,rfl⟩
   have r1:(kk:Int).tmod 2=(r:Int):=by rw [Int.tmod_eq_emod_of_nonneg (by omega),hr];rfl
   have r2:(kk:Int)%2=(r:Int):=by rw [hr];rfl
   have wr2:IntKind.i64.wrap (r:Int)=(r:Int):=by simp [IntKind.wrap,IntKind.signed,IntKind.bits];omega
   have hti:(t:Int) < (n:Int):=by omega
   have hqb:q≤40000:=by have:=HY.out.2.2;omega
   have hs:(kk%2=0→opN ks (i+1)=opN ks i+1)∧(¬ kk%2=0→opN ks (i+1)=opN ks i):=by
    show (_→opN ks i+_=_)∧(_→opN ks i+_=_)
    rw [← hkk]
    exact ⟨fun c=>by rw [if_pos c],fun c=>by rw [if_neg c];rfl⟩
   have hop:=HY.out.2.2
   by_cases hr0:r=0
   ·have HY1:Hid (((y.set i (q:Int)).set t ((q+1:Nat):Int)).length=n∧NmI ks tw ((y.set i (q:Int)).set t ((q+1:Nat):Int)) (i+1)∧opN ks (i+1)≤i+1):=by
     refine ⟨by simp [hyl],?_,by rw [hs.1 (by omega)];omega⟩
     have:=nm_step HP.out (y:=y) (i:=i) (by rw [hyl,HL.out]) (by rw [HL.out];exact hlt) (by rw [← hkk];omega) HY.out.2.1
     rw [← hq,← ht] at this
     exact this
    have HO3:=Lib.hid o2
    have HM3:=Lib.hid M2
    obtain ⟨q1,hq1⟩:∃ q1,q1=q+1:=⟨_,rfl⟩
    obtain ⟨q2,hq2⟩:∃ q2,q2=q+2:=⟨_,rfl⟩
    rw [← hq1] at HO3 HM3 HY1
    have t1:(q:Int)+1=(q1:Int):=by omega
    have t2:(q:Int)+2=(q2:Int):=by omega
    have w1':IntKind.i64.wrap (q1:Int)=(q1:Int):=by simp [IntKind.wrap,IntKind.signed,IntKind.bits];omega
    have w2':IntKind.i64.wrap (q2:Int)=(q2:Int):=by simp [IntKind.wrap,IntKind.signed,IntKind.bits];omega
    have HQ2:Hid (q2=2*opN ks (i+1)):=by show _=_;rw [hs.1 (by omega)];omega
    rw [← hq]
    subst hr0
    clear o1 o2 M2 HY HOW HMW hs hq hq1 hq2 hkk ht hr BW OY hop hyl cA
    go_wp2_with fail
    go_roundw
    case rel=>exact ⟨i+1,_,by omega,by go_num,by rw [HQ2.out],HY1,HO3,HM3⟩
    case measure=>simp [intOf];omega
   ·have hr0':¬ (r:Int)=0:=by omega
    have hrb:((r:Int) == 0)=false:=by simp;omega
    have hrd:decide (r=0)=false:=decide_eq_false hr0
    have HY1:Hid (y.length=n∧NmI ks tw y (i+1)∧opN ks (i+1)≤i+1) :=
     ⟨hyl,nm_skip (by rw [← hkk];omega) HY.out.2.1,by rw [hs.2 (by omega)];omega⟩
    have HQ2:Hid (q=2*opN ks (i+1)):=by show _=_;rw [hs.2 (by omega)];omega
    rw [← hq]
    clear o1 o2 M2 HY hs hq hkk ht BW OY hop hyl cA cO cO2 fO fO2 cY hr
    go_wp2_with fail
    go_roundw
    case rel=>exact ⟨i+1,y,by omega,by go_num,by rw [HQ2.out],HY1,HOW,HMW⟩
    case measure=>simp [intOf];omega
  ·obtain rfl:i=n:=by omega
   have hdk:decide (i < i)=false:=by simp
   have hY:=nm_done HP.out (y:=y) (by rw [HY.out.1,HL.out]) (by rw [HL.out];exact HY.out.2.1)
   have BW:Hid (Below w.heap.size w wr):=HB2.out.trans (HMW.out.belowB HB2.out.size fun k hk e=>by omega)
   have HF:Hid (wr.ownsRow w.heap.size 3 1 (.slice (some ⟨w.heap.size,0,none⟩) i i) i (I64 (ofN (nmL ks tw)))):=by
    show World.ownsRow _ _ _ _ _ _ _
    rw [← hY];exact HOW.out
   clear hY HY HOW HMW
   go_wp2_with fail
   go_ret
   exact ⟨tw,_,i,HWD.out,rfl,Nat.le_refl _,by simp [maxLen];omega,HF.out,BW.out⟩
end Go.Proofs.YtijbdnhlpbcabaaGreatDoor
