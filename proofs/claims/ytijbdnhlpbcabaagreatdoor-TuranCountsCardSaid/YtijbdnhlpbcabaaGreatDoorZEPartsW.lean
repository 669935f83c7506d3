/- Genus, Planar, Connected of a map. made: a map of numbers, and the document's (layer 8). The document's names of parts, while they sink. The document's Names of parts. The document's count of orbits in a part. The document's Parts. The document's Parts: the walk. -/
import Derived.Test.YtijbdnhlpbcabaaGreatDoorZEParts
import Derived.Test.YtijbdnhlpbcabaaGreatDoorZg3
open Go.RowKit
set_option linter.unusedVariables false
namespace Go.Proofs.YtijbdnhlpbcabaaGreatDoor
set_option maxRecDepth 20000
noncomputable def pgen (l:List Nat) (j:Nat):Nat:=if j < pN l then (pG l j).toNat else 0
noncomputable def genusTo (l:List Nat) (k:Nat):Nat:=((List.range k).map (pgen l)).sum
noncomputable def genusN (l:List Nat):Nat:=genusTo l (pN l)
theorem genusTo_next (l:List Nat) (k:Nat):genusTo l (k+1)=genusTo l k+pgen l k:=by
 unfold genusTo;rw [List.range_succ,List.map_append,List.sum_append];simp
theorem genusTo_lone (l:List Nat):∀ c,genusTo l (pN l+c)=genusN l
 | 0=>rfl
 | c+1=>by
   rw [← Nat.add_assoc,genusTo_next,genusTo_lone l c]
   unfold pgen;rw [if_neg (by omega)];rfl
theorem pN_le (l:List Nat):pN l≤l.length:=pn_le _ _
section
variable {l b:List Nat}
theorem pgen_is (h:Inv l b) (he:l.length%2=0) (hp:Inv (phiL l) (phiB l b)) (j:Nat):pcL l (5*j+4)=(pgen l j:Int)∧pgen l j≤l.length:=by
 unfold pcL pgen
 rw [show (5*j+4) / 5=j by omega]
 by_cases hj:j < pN l
 ·rw [if_pos hj,if_pos hj,pc_4,if_pos hj]
  obtain ⟨G,hG,hE⟩:=pG_is h he hp hj
  have:=pE_le l j l.length
  have:=pN_le l
  rw [hG]
  exact ⟨by omega,by omega⟩
 ·rw [if_neg hj,if_neg hj,if_neg (by omega),if_neg (by omega),if_neg (by omega)]
  exact ⟨rfl,by omega⟩
theorem genusTo_le (h:Inv l b) (he:l.length%2=0) (hp:Inv (phiL l) (phiB l b)):∀ k,genusTo l k≤k*l.length
 | 0=>by simp [genusTo]
 | k+1=>by
   rw [genusTo_next,Nat.add_mul,Nat.one_mul]
   have:=genusTo_le h he hp k
   have:=(pgen_is h he hp k).2
   omega
end
set_option maxHeartbeats 4000000 in
theorem genus_p (g:Nat) (l b:List Nat) (root:Int) (lone:Nat) (w:World) (h:MapAt w g l b root lone) :
  Calls Tryz.prog 77 #[.pointer (some ⟨g,0,none⟩)] w fun e w'=>e=.returned (.int .i64 (genusN l:Int))∧Below w.heap.size w w':=by
 have hle:=h.2.1
 have hln:lone≤65536:=by have:=h.1.2.2;omega
 have hev:=h.1.1
 have hinv:Inv l b∧Inv (phiL l) (phiB l b):=by obtain ⟨_,_,p,A,c,S,d,q,A',c',S',d',hb,hp,hq,_⟩:=h;exact ⟨hp.1,hq.1⟩
 have HG:=Lib.hid (fun j=>pgen_is hinv.1 hev hinv.2 j)
 have HGT:=Lib.hid (fun k=>genusTo_le hinv.1 hev hinv.2 k)
 have PT:=Lib.hid (parts_p g l b root lone w h)
 have HINF:=Lib.hid info_part5
 have hpn:=pN_le l
 have HEND:=Lib.hid (genusTo_lone l lone)
 have HN0:Hid (genusTo l 0=0):=rfl
 generalize hc:pN l+lone=c at *
 have hcl:c≤200000:=by omega
 have HGTc:Hid (∀ k,k≤c→genusTo l k≤30000000000):=fun k hk=>by
  have h1:=HGT.out k
  have h2:k*l.length≤200000*131072:=Nat.mul_le_mul (by omega) hle
  omega
 clear h hev hinv hc hpn HGT
 go_enter Tryz.func77,Tryz.ntmps77
 go_wp2_with fail
 refine PT.out.mono ?_
 rintro e w1 ⟨A,c3,rfl,hc3,hm3,hown,hb1⟩
 have HO:=Lib.hid hown
 have HB1:=Lib.hid hb1
 have hs1:=hb1.size
 clear hown hb1 PT
 go_wp2_with fail
 go_loopw [3,9] (fun s3 i wr=>∃ (k:Nat),k≤c∧s3=.int .i64 (genusTo l k:Int)∧i=.int .i64 (k:Int)∧Hid (Below w1.heap.size w1 wr)) (fun _ i _=>c - (intOf i).toNat)
 case atStart=>exact ⟨0,by omega,by rw [HN0.out];rfl,rfl,Below.refl _ _⟩
 case round =>
  obtain ⟨k,hk,rfl,rfl,HB⟩:=hrel
  by_cases hkc:k < c
  ·obtain ⟨g3,rfl,hg3,hg3'⟩:=own_some5 HO.out (show 0 < c by omega)
   have hO:=own_below HO.out HB.out
   have cl:∀ f,f < 5→wr.cell? ⟨g3,k*5+f,none⟩=some (.int .i64 (pcL l (5*k+f))):=fun f hf=>by
    rw [own_cell5 hO _ (by omega),Nat.mul_comm k 5,partsC_get _ _ _ _ hkc hf]
   have c0:=cl 0 (by omega)
   have c1:=cl 1 (by omega)
   have c2:=cl 2 (by omega)
   have c3':=cl 3 (by omega)
   have c4:=cl 4 (by omega)
   rw [(HG.out k).1] at c4
   rw [Nat.add_zero,Nat.add_zero] at c0
   have hpl:=(HG.out k).2
   have hgt:=HGTc.out k (by omega)
   have HNX:=Lib.hid (genusTo_next l k)
   have hdk:decide (k < c)=true:=by rw [decide_eq_true_iff];exact hkc
   have hsw:=HB.out.size
   generalize pcL l (5*k)=v0 at c0
   generalize pcL l (5*k+1)=v1 at c1
   generalize pcL l (5*k+2)=v2 at c2
   generalize pcL l (5*k+3)=v3 at c3'
   generalize pgen l k=v4 at *
   generalize hgk:genusTo l k=G at *
   clear cl hO hgk
   go_wp2_with fail
   go_roundw
   case rel=>exact ⟨k+1,by omega,by rw [HNX.out];go_num,by go_num,HB.out.alloc hsw _⟩
   case measure=>simp [intOf];omega
  ·obtain rfl:k=c:=by omega
   have HE:Hid (genusTo l k=genusN l):=HEND.out
   go_wp2_with fail
   go_ret
   exact ⟨by rw [HE.out];rfl,HB1.out.trans (HB.out.mono hs1)⟩
theorem connected_p (g:Nat) (l b:List Nat) (root:Int) (lone:Nat) (w:World) (h:MapAt w g l b root lone) :
  Calls Tryz.prog 36 #[.pointer (some ⟨g,0,none⟩)] w fun e w'=>e=.returned (.bool (decide (pN l+lone=1)))∧Below w.heap.size w w':=by
 have PT:=Lib.hid (parts_p g l b root lone w h)
 generalize pN l+lone=c at *
 have hcc:((c:Int) == 1)=decide (c=1):=by
  by_cases e:c=1
  ·subst e;rfl
  ·rw [decide_eq_false e,beq_eq_false_iff_ne];omega
 have HCC:=Lib.hid hcc
 clear h hcc
 go_enter Tryz.func36,Tryz.ntmps36
 go_wp2_with fail
 refine PT.out.mono ?_
 rintro e w1 ⟨A,c3,rfl,hc3,hm3,hown,hb1⟩
 have hb:=hb1
 clear hown PT
 go_wp2_with fail
 go_ret
 exact ⟨by rw [HCC.out];rfl,hb⟩
theorem planar_p (g:Nat) (l b:List Nat) (root:Int) (lone:Nat) (w:World) (h:MapAt w g l b root lone) :
  Calls Tryz.prog 35 #[.pointer (some ⟨g,0,none⟩)] w fun e w'=>e=.returned (.bool (decide (genusN l=0)))∧Below w.heap.size w w':=by
 have GN:=Lib.hid (genus_p g l b root lone w h)
 generalize genusN l=c at *
 have hcc:((c:Int) == 0)=decide (c=0):=by
  by_cases e:c=0
  ·subst e;rfl
  ·rw [decide_eq_false e,beq_eq_false_iff_ne];omega
 have HCC:=Lib.hid hcc
 clear h hcc
 go_enter Tryz.func35,Tryz.ntmps35
 go_wp2_with fail
 refine GN.out.mono ?_
 rintro e w1 ⟨rfl,hb1⟩
 go_wp2_with fail
 go_ret
 exact ⟨by rw [HCC.out];rfl,hb1⟩
end Go.Proofs.YtijbdnhlpbcabaaGreatDoor
namespace Go.Proofs.YtijbdnhlpbcabaaGreatDoor
set_option maxRecDepth 20000
end Go.Proofs.YtijbdnhlpbcabaaGreatDoor
namespace Go.Proofs.YtijbdnhlpbcabaaGreatDoor
set_option maxRecDepth 20000
theorem getDN_set (y:List Nat) (k j v:Nat) (hk:k < y.length):(y.set k v).getD j 0=if j=k then v else y.getD j 0:=by
 rw [List.getD_eq_getElem?_getD,List.getD_eq_getElem?_getD,List.getElem?_set]
 by_cases h:k=j
 ·subst h;simp [hk]
 ·simp [h,Ne.symm h]
section
variable {l b N:List Nat}
end
theorem ofN_setN (N:List Nat) (i v:Nat):(ofN N).set i (v:Int)=ofN (N.set i v):=by simp [ofN,List.map_set]
end Go.Proofs.YtijbdnhlpbcabaaGreatDoor
namespace Go.Proofs.YtijbdnhlpbcabaaGreatDoor
set_option maxRecDepth 20000
end Go.Proofs.YtijbdnhlpbcabaaGreatDoor
namespace Go.Proofs.YtijbdnhlpbcabaaGreatDoor
set_option maxRecDepth 20000
theorem leads_orb {l b:List Nat} (h:Inv l b) {k:Nat} (hk:k < l.length):Leads l k↔∀ x,x∈orb l k→k≤x:=by
 rw [leads_least h (Nat.le_of_lt hk)]
 have hq:=(sgL_pf h).eqv
 constructor
 ·intro H x hx
  have hxl:=orb_lt h hk hx
  obtain ⟨t,e⟩:=(mem_orb h hk).1 hx
  rcases Nat.lt_or_ge x k with c | c
  ·exact absurd (hq.symm _ _ hk hxl ⟨t,by rw [sgL_it];exact e⟩) (H x c)
  ·exact c
 ·intro H j hj o
  obtain ⟨t,e⟩:=hq.symm _ _ (by omega) hk o
  have:=H j ((mem_orb h hk).2 ⟨t,by rw [← sgL_it];exact e⟩)
  omega
end Go.Proofs.YtijbdnhlpbcabaaGreatDoor
namespace Go.Proofs.YtijbdnhlpbcabaaGreatDoor
set_option maxRecDepth 20000
section
variable {l b:List Nat}
theorem pq_mate (h:Inv l b) (he:l.length%2=0) {e:Nat} (hE:2*e+1 < l.length):pq l (2*e+1)=pq l (2*e):=by
 have hpf:=sgL_pf h
 unfold pq
 rw [prt_iff (part_eqv h he) hE (by omega)]
 exact (part_eqv h he).symm _ _ (by omega) hE (gk_edge hpf e _ (by omega))
theorem num_two (h:Inv l b) (he:l.length%2=0) (j:Nat):num (fun d=>pq l d=j) l.length=2*pE l j l.length:=by
 have key:∀ k,k≤l.length / 2→num (fun d=>pq l d=j) (2*k)=2*pE l j (2*k):=fun k=>by
  induction k with
  | zero=>intro _;simp [num,pE]
  | succ k ih =>
    intro hk
    have ih':=ih (by omega)
    have hm:=pq_mate h he (show 2*k+1 < l.length by omega)
    rw [show 2*(k+1)=2*k+1+1 by omega]
    have n1:pE l j (2*k+1+1)=pE l j (2*k+1):=pE_else (.inl (by omega))
    rw [n1]
    by_cases e:pq l (2*k)=j
    ·have a1:=(num_next (fun d=>pq l d=j) (2*k)).1 e
     have a2:=(num_next (fun d=>pq l d=j) (2*k+1)).1 (by rw [hm];exact e)
     have a3:=pE_yes (l:=l) (k:=2*k) (by omega)
     rw [e] at a3
     omega
    ·have a1:=(num_next (fun d=>pq l d=j) (2*k)).2 e
     have a2:=(num_next (fun d=>pq l d=j) (2*k+1)).2 (by rw [hm];exact e)
     have a3:pE l j (2*k+1)=pE l j (2*k):=pE_else (.inr e)
     omega
 have:=key (l.length / 2) (Nat.le_refl _)
 rwa [show 2*(l.length / 2)=l.length by omega] at this
theorem enames_get (l:List Nat) {d:Nat} (hd:d < l.length):(enames l).getD d 0=pq l d:=by unfold enames prts;rw [map_rangeN _ _ _ hd];rfl
end
end Go.Proofs.YtijbdnhlpbcabaaGreatDoor
namespace Go.Proofs.YtijbdnhlpbcabaaGreatDoor
set_option maxRecDepth 20000
end Go.Proofs.YtijbdnhlpbcabaaGreatDoor
