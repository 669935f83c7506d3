/- What maps answer. The document's examples of maps. What New refuses, and what the document says of it. Rows of integers that come in to a statement. DartMakes: of any list, root and count there is a map, or it is refused. What maps that are answer of a dart. -/
import Derived.Test.YtajjgpkahljjmaaGreatDoorZg2
import Derived.Test.YtajjgpkahljjmaaGreatDoorZg1
import Derived.Laws.ResultCell
import Derived.Deep.RegionLaw
import Derived.Deep.AppendLies
open Go.RowKit
set_option linter.unusedVariables false
namespace Go.Proofs.YtajjgpkahljjmaaGreatDoor
set_option maxRecDepth 20000
theorem info_names:(Tryz.prog.info? 78).map (·.size)=some 3:=by kernel_rfl
def VPost (w:World) (l b:List Nat) (e:Ending) (w':World):Prop :=
 ∃ p A c S d,e=.returned (.agg #[.pointer (some ⟨p,0,none⟩),.slice A l.length c,.slice S (sizes l).length d])∧PermAt w' p l b∧Rd w' w'.heap.size A l.length (I64 (ofN (names l)))∧Rd w' w'.heap.size S (sizes l).length (I64 (ofN (sizes l)))∧Below w.heap.size w w'
set_option maxHeartbeats 1000000 in
theorem verts_p (g:Nat) (l b:List Nat) (root lone:Int) (w:World) (h:MapAt w g l b root lone) :
  Calls Tryz.prog 75 #[.pointer (some ⟨g,0,none⟩)] w (VPost w l b):=by
 obtain ⟨h1,h2,p,A,c,S,d,q,A',c',S',d',hb,hp,hq,r1,r2,r3,r4⟩:=h
 have n0:=hb.cell 0
 have n1:=hb.cell 1
 have n2:=hb.cell 2
 have hgl:=hb.lt
 simp at n0 n1 n2
 have HP:=Lib.hid hp
 have HQ:=Lib.hid hq
 have R1:=Lib.hid r1
 have R2:=Lib.hid r2
 have R3:=Lib.hid r3
 have R4:=Lib.hid r4
 have HINF:=Lib.hid info_names
 clear hb hp hq r1 r2 r3 r4
 go_enter Tryz.func75,Tryz.ntmps75
 go_wp2_with fail
 have hb2:=(Below.refl w.heap.size w).alloc (Nat.le_refl _) (.cells #[.pointer (some ⟨p,0,none⟩),.slice A l.length c,.slice S (sizes l).length d] 78)
 refine bodyPost_ret (results_cell_row rfl _ _ w.heap.size 78 _ (0,0) _ rfl (Blk.new w _ _) Tryz.underlying78 rfl HINF.out) rfl ?_
 exact ⟨p,A,c,S,d,rfl,HP.out.below hb2,R1.out.more hb2,R2.out.more hb2,hb2⟩
set_option maxHeartbeats 1000000 in
theorem faces_p (g:Nat) (l b:List Nat) (root lone:Int) (w:World) (h:MapAt w g l b root lone) :
  Calls Tryz.prog 80 #[.pointer (some ⟨g,0,none⟩)] w (VPost w (phiL l) (phiB l b)):=by
 obtain ⟨h1,h2,p,A,c,S,d,q,A',c',S',d',hb,hp,hq,r1,r2,r3,r4⟩:=h
 have n0:=hb.cell 3
 have n1:=hb.cell 4
 have n2:=hb.cell 5
 have hgl:=hb.lt
 simp at n0 n1 n2
 have HP:=Lib.hid hp
 have HQ:=Lib.hid hq
 have R1:=Lib.hid r1
 have R2:=Lib.hid r2
 have R3:=Lib.hid r3
 have R4:=Lib.hid r4
 have HINF:=Lib.hid info_names
 clear hb hp hq r1 r2 r3 r4
 go_enter Tryz.func80,Tryz.ntmps80
 go_wp2_with fail
 have hb2:=(Below.refl w.heap.size w).alloc (Nat.le_refl _) (.cells #[.pointer (some ⟨q,0,none⟩),.slice A' l.length c',.slice S' (sizes (phiL l)).length d'] 78)
 refine bodyPost_ret (results_cell_row rfl _ _ w.heap.size 78 _ (0,0) _ rfl (Blk.new w _ _) Tryz.underlying78 rfl HINF.out) rfl ?_
 exact ⟨q,A',c',S',d',by rw [phiL_len],HQ.out.below hb2,by rw [phiL_len];exact R3.out.more hb2,R4.out.more hb2,hb2⟩
theorem root_p (g:Nat) (l b:List Nat) (root lone:Int) (w:World) (h:MapAt w g l b root lone) :
  Calls Tryz.prog 33 #[.pointer (some ⟨g,0,none⟩)] w fun e w'=>e=.returned (.int .i64 root)∧w=w':=by
 obtain ⟨h1,h2,p,A,c,S,d,q,A',c',S',d',hb,_⟩:=h
 have n0:=hb.cell 6
 simp at n0
 clear hb
 go_enter Tryz.func33,Tryz.ntmps33
 go_wp2_with fail
 go_ret
 exact ⟨rfl,rfl⟩
theorem lone_p (g:Nat) (l b:List Nat) (root lone:Int) (w:World) (h:MapAt w g l b root lone) :
  Calls Tryz.prog 34 #[.pointer (some ⟨g,0,none⟩)] w fun e w'=>e=.returned (.int .i64 lone)∧w=w':=by
 obtain ⟨h1,h2,p,A,c,S,d,q,A',c',S',d',hb,_⟩:=h
 have n0:=hb.cell 7
 simp at n0
 clear hb
 go_enter Tryz.func34,Tryz.ntmps34
 go_wp2_with fail
 go_ret
 exact ⟨rfl,rfl⟩
theorem darts_p (g:Nat) (l b:List Nat) (root lone:Int) (w:World) (h:MapAt w g l b root lone) :
  Calls Tryz.prog 40 #[.pointer (some ⟨g,0,none⟩)] w fun e w'=>e=.returned (.int .i64 (l.length:Int))∧Below w.heap.size w w':=by
 have VS:=Lib.hid (verts_p g l b root lone w h)
 have F0:=fld0
 have F2:=fld2
 have H:=Lib.hid h
 clear h
 go_enter Tryz.func40,Tryz.ntmps40
 go_wp2_with fail
 refine VS.out.mono ?_
 rintro e w1 ⟨p,A,c,S,d,rfl,hp,r1,r2,b1⟩
 have LN:=Lib.hid (len_p p _ _ w1 hp)
 clear hp r1 r2
 go_wp2_with fail
 refine LN.out.mono ?_
 rintro e w2 ⟨rfl,rfl⟩
 go_wp2_with fail
 go_ret
 exact ⟨rfl,b1⟩
theorem edges_p (g:Nat) (l b:List Nat) (root lone:Int) (w:World) (h:MapAt w g l b root lone) :
  Calls Tryz.prog 21 #[.pointer (some ⟨g,0,none⟩)] w fun e w'=>e=.returned (.int .i64 ((l.length / 2:Nat):Int))∧Below w.heap.size w w':=by
 have DS:=Lib.hid (darts_p g l b root lone w h)
 have hn:=h.2.1
 obtain ⟨x,hx⟩:∃ x,x=l.length / 2:=⟨_,rfl⟩
 have hx2:(l.length:Int) / 2=(x:Int):=by omega
 have hx3:x≤1000000:=by omega
 rw [← hx]
 clear h hx
 go_enter Tryz.func21,Tryz.ntmps21
 go_wp2_with fail
 refine DS.out.mono ?_
 rintro e w1 ⟨rfl,b1⟩
 go_wp2_with fail
 go_ret
 exact ⟨rfl,b1⟩
theorem sizes_le (l:List Nat):(sizes l).length≤l.length:=by unfold sizes;rw [sizesTo_len];exact met_le l l.length
theorem vertices_p (g:Nat) (l b:List Nat) (root lone:Int) (w:World) (h:MapAt w g l b root lone) :
  Calls Tryz.prog 44 #[.pointer (some ⟨g,0,none⟩)] w fun e w'=>e=.returned (.int .i64 (((sizes l).length:Int)+lone))∧Below w.heap.size w w':=by
 have VS:=Lib.hid (verts_p g l b root lone w h)
 have F0:=fld0
 have F2:=fld2
 have H:=Lib.hid h
 have hz:=sizes_le l
 have hn:=h.2.1
 have hl1:=h.1.2.1
 have hl2:=h.1.2.2
 clear h
 go_enter Tryz.func44,Tryz.ntmps44
 go_wp2_with fail
 refine VS.out.mono ?_
 rintro e w1 ⟨p,A,c,S,d,rfl,hp,r1,r2,b1⟩
 have LO:=Lib.hid (lone_p g l b root lone w1 (H.out.below b1))
 clear hp r1 r2
 go_wp2_with fail
 refine LO.out.mono ?_
 rintro e w2 ⟨rfl,rfl⟩
 go_wp2_with fail
 go_ret
 exact ⟨rfl,b1⟩
theorem borders_p (g:Nat) (l b:List Nat) (root lone:Int) (w:World) (h:MapAt w g l b root lone) :
  Calls Tryz.prog 43 #[.pointer (some ⟨g,0,none⟩)] w fun e w'=>e=.returned (.int .i64 ((sizes (phiL l)).length:Int))∧Below w.heap.size w w':=by
 have VS:=Lib.hid (faces_p g l b root lone w h)
 have F0:=fld0
 have F2:=fld2
 have H:=Lib.hid h
 clear h
 go_enter Tryz.func43,Tryz.ntmps43
 go_wp2_with fail
 refine VS.out.mono ?_
 rintro e w1 ⟨p,A,c,S,d,rfl,hp,r1,r2,b1⟩
 clear hp r1 r2
 go_wp2_with fail
 go_ret
 exact ⟨rfl,b1⟩
end Go.Proofs.YtajjgpkahljjmaaGreatDoor
namespace Go.Proofs.YtajjgpkahljjmaaGreatDoor
set_option maxRecDepth 20000
end Go.Proofs.YtajjgpkahljjmaaGreatDoor
namespace Go.Proofs.YtajjgpkahljjmaaGreatDoor
set_option maxRecDepth 20000
end Go.Proofs.YtajjgpkahljjmaaGreatDoor
namespace Go.Proofs.YtajjgpkahljjmaaGreatDoor
set_option maxRecDepth 20000
def Z8 (l:List Int):List Value:=l.map fun (x:Int)=>Value.int .u8 x
theorem row_k (k:IntKind) {w:World} {a:Option Addr} {len cap:Nat} {zs:List Int}
  (h:(a=none∧len=0∧cap=0∧zs=[]) ∨
    ∃ x,a=some x∧len≤cap∧cap≤maxLen∧zs.length=cap∧(∀ i,i < zs.length→w.cell? (x.add i)=some (.int k (zs.getD i 0)))∧∀ n∈zs,(Lit.int k n).wf=true) :
  len≤cap∧cap≤maxLen∧Rd w w.heap.size a len ((zs.take len).map (Value.int k))∧∀ x∈zs.take len,(Lit.int k x).wf=true:=by
 rcases h with ⟨rfl,rfl,rfl,rfl⟩ | ⟨x,rfl,hl,hm,hz,hc,hw⟩
 ·exact ⟨Nat.le_refl _,Nat.zero_le _,Rd.nil _ _ _,by simp⟩
 ·refine ⟨hl,hm,⟨by simp;omega,fun h0=>?_⟩,fun x hx=>hw x (List.mem_of_mem_take hx)⟩
  obtain ⟨b,o,sp⟩:=x
  obtain rfl:sp=none:=by simpa [Addr.add] using World.cell?_spot (hc 0 (by omega))
  refine ⟨b,o,rfl,World.block_lt_of_cell? _ _ (hc 0 (by omega)),fun j hj=>?_⟩
  have hj':j < len:=by simp at hj;omega
  have:=hc j (by omega)
  have e:(⟨b,o,none⟩:Addr).add j=⟨b,o+j,none⟩:=by unfold Addr.add;split <;> simp_all
  rw [e] at this
  rw [this]
  have hjz:j < zs.length:=by omega
  simp [List.getD_eq_getElem?_getD,List.getElem?_eq_getElem hjz]
theorem row_z8 {w:World} {a:Option Addr} {len cap:Nat} {zs:List Int}
  (h:(a=none∧len=0∧cap=0∧zs=[]) ∨
    ∃ x,a=some x∧len≤cap∧cap≤maxLen∧zs.length=cap∧(∀ i,i < zs.length→w.cell? (x.add i)=some (.int .u8 (zs.getD i 0)))∧∀ n∈zs,(Lit.int .u8 n).wf=true) :
  len≤cap∧cap≤maxLen∧∃ x:List Int,Rd w w.heap.size a len (Z8 x)∧∀ b∈x,0≤b∧b < 256 :=
 let ⟨a,b,c,d⟩:=row_k .u8 h
 ⟨a,b,zs.take len,c,fun b hb=>by
  have:=d b hb
  simp [Lit.wf,IntKind.min,IntKind.max,IntKind.bits,IntKind.signed] at this
  omega⟩
theorem wf_u8 {x:Int} (h:(Lit.int .u8 x).wf=true):∃ n:Nat,x=(n:Int)∧n < 256:=by
 simp [Lit.wf,IntKind.min,IntKind.max,IntKind.bits,IntKind.signed] at h
 exact ⟨x.toNat,by omega,by omega⟩
end Go.Proofs.YtajjgpkahljjmaaGreatDoor
namespace Go.Proofs.YtajjgpkahljjmaaGreatDoor
set_option maxRecDepth 20000
end Go.Proofs.YtajjgpkahljjmaaGreatDoor
namespace Go.Proofs.YtajjgpkahljjmaaGreatDoor
set_option maxRecDepth 20000
theorem sigma_in (g:Nat) (l b:List Nat) (root lone:Int) (i:Nat) (w:World) (h:MapAt w g l b root lone) (hi:i < l.length) :
  Calls Tryz.prog 104 #[.pointer (some ⟨g,0,none⟩),.int .i64 (i:Int)] w fun e w'=>e=.returned (.int .i64 ((l.getD i 0:Nat):Int))∧Below w.heap.size w w':=by
 have VS:=Lib.hid (verts_p g l b root lone w h)
 have F0:=fld0
 have HP1:=Lib.hid h.1
 have hlen:=phiL_len l
 have HI:=Lib.hid hi
 have HLN:=Lib.hid hlen
 clear h hlen hi
 go_enter Tryz.func104,Tryz.ntmps104
 go_wp2_with fail
 refine VS.out.mono ?_
 rintro e w1 ⟨p,A,c,S,d,rfl,hp,r1,r2,b1⟩
 have CC:=Lib.hid (at_in p _ _ i w1 hp HI.out)
 clear hp r1 r2
 go_wp2_with fail
 refine CC.out.mono ?_
 rintro e w2 ⟨rfl,rfl⟩
 go_wp2_with fail
 go_ret
 exact ⟨rfl,b1⟩
end Go.Proofs.YtajjgpkahljjmaaGreatDoor
namespace Go.Proofs.YtajjgpkahljjmaaGreatDoor
set_option maxRecDepth 20000
theorem info_rmap:(Tryz.prog.info? 27).map (·.size)=some 3:=by kernel_rfl
def RMap (lo:Nat) (w:World) (l b:List Nat) (root lone:Int) (v:Value):Prop :=
 Inv l b∧∃ A c,inLo lo A∧v=.agg #[.slice A l.length c,.int .i64 root,.int .i64 lone]∧l.length≤c∧c≤maxLen∧Rd w w.heap.size A l.length (I64 (ofN l))
set_option maxHeartbeats 2000000 in
theorem any_p (k r m c B:Nat) (A:Option Addr) (by_:List Int) (w:World) (h:Rd w B A m (Z8 by_)) (hb:∀ x∈by_,0≤x∧x < 256) (hB:B≤w.heap.size) (hk:k≤100) (hr:r < 256) (hm:m≤9223372036854775807) :
  Calls Tryz.prog 11 #[.int .i64 (k:Int),.slice A m c,.int .u8 (r:Int)] w fun e w'=>∃ v l b root,e=.returned v∧RMap w.heap.size w' l b root 0 v∧l.length=2*k∧RootOk root (2*k)∧Below w.heap.size w w':=by
 have hb0:=(Below.refl w.heap.size w).alloc (Nat.le_refl _) (.cells #[.slice none 0 0,.int .i64 0,.int .i64 0] 27)
 obtain ⟨n2,hn2⟩:∃ n2,n2=2*k:=⟨_,rfl⟩
 rw [← hn2]
 have MX:=Lib.hid (mix_p n2 m c B A by_ _ (h.below (hb0.mono hB)) hb (by omega) hm)
 have HINF:=Lib.hid info_rmap
 have hk2:2*(k:Int)=(n2:Int):=by omega
 have HN2:=Lib.hid hn2
 clear h hb hn2
 go_enter Tryz.func11,Tryz.ntmps11
 go_wp2_with fail
 refine MX.out.mono ?_
 rintro e w2 ⟨l,b,hinv,hl,A2,c2,rfl,hc2,hm2,hown,b2⟩
 have hR:Blk w2 w.heap.size 27 #[.slice none 0 0,.int .i64 0,.int .i64 0]:=(b2.block w.heap.size (by simp)).trans (Blk.new w _ _)
 have hs2:w.heap.size < w2.heap.size:=hR.lt
 have B2:Hid (Below w.heap.size w w2):=hb0.trans (b2.mono (by simp))
 rw [ofN_len,hl] at hown hc2 ⊢
 have HA:Hid (Rd w2 w2.heap.size A2 n2 (I64 (ofN l))):=Rd.ofOwn hown
 have HNA:Hid (0 < n2→∃ q,A2=some ⟨q,0,none⟩∧w.heap.size < q):=fun h0=>by
  obtain ⟨q,e,h1,_⟩:=own_some hown h0
  refine ⟨q,e,?_⟩
  simp at h1;omega
 have HLA:=Lib.hid ((own_inLo hown).le (show w.heap.size≤_ by simp))
 have HI:=Lib.hid hinv
 have HL:=Lib.hid hl
 have r0:=hR.cell 0
 have r1:=hR.cell 1
 have r2:=hR.cell 2
 have f0:=hR.frozen 0
 have f1:=hR.frozen 1
 have f2:=hR.frozen 2
 simp at r0 r1 r2
 have HR:=Lib.hid hR
 have HM2:=Lib.hid hm2
 have hn9:n2≤200:=by have:=HN2.out;omega
 clear hown b2 hb0 hinv hl hR MX hm2
 have fin:Hid (∀ (root:Int),RootOk root n2→∀ o w4,w4=(((w2.setCell ⟨w.heap.size,0,none⟩ (.slice A2 n2 c2)).setCell ⟨w.heap.size,1,none⟩ (.int .i64 root)).setCell ⟨w.heap.size,2,none⟩ (.int .i64 0)).alloc o →
   Blk w4 w.heap.size 27 #[.slice A2 n2 c2,.int .i64 root,.int .i64 0]∧RMap w.heap.size w4 l b root 0 (.agg #[.slice A2 n2 c2,.int .i64 root,.int .i64 0])∧Below w.heap.size w w4):=by
  intro root hroot o w4 hw4
  subst hw4
  have MM:Mod (fun i=>i=w.heap.size) w2 (((w2.setCell ⟨w.heap.size,0,none⟩ (.slice A2 n2 c2)).setCell ⟨w.heap.size,1,none⟩ (.int .i64 root)).setCell ⟨w.heap.size,2,none⟩ (.int .i64 0)) :=
   Mod.setCell (p:=⟨w.heap.size,2,none⟩) (Mod.setCell (p:=⟨w.heap.size,1,none⟩) (Mod.setCell (p:=⟨w.heap.size,0,none⟩) (Mod.refl (fun i=>i=w.heap.size) w2) (fun _=>rfl) _) (fun _=>rfl) _) (fun _=>rfl) _
  have ba:=(Below.refl _ (((w2.setCell ⟨w.heap.size,0,none⟩ (.slice A2 n2 c2)).setCell ⟨w.heap.size,1,none⟩ (.int .i64 root)).setCell ⟨w.heap.size,2,none⟩ (.int .i64 0))).alloc (Nat.le_refl _) o
  have hBw:=B2.out.trans (MM.belowB (Nat.le_of_lt hs2) fun i hi hf=>by omega)
  refine ⟨?_,⟨HI.out,A2,c2,HLA.out,by rw [HL.out],by rw [HL.out];exact hc2,HM2.out,?_⟩,hBw.trans (ba.mono hBw.size)⟩
  ·have:=((HR.out.set_ 0 (.slice A2 n2 c2)).set_ 1 (.int .i64 root)).set_ 2 (.int .i64 0)
   exact Blk.alloc (by simpa using this) o
  ·rw [HL.out]
   exact ((HA.out.mod MM (Nat.le_refl _) (fun h0 k hk hf=>by
    obtain ⟨q,e,hq⟩:=HNA.out h0
    obtain ⟨a,e2,rfl⟩:=hk
    rw [e] at e2
    cases e2
    simp at hf;omega)).up MM.size).more ba
 rcases Nat.eq_zero_or_pos k with h0 | h0
 ·have hkI:¬ (0:Int) < (k:Int):=by omega
  have hroot:RootOk (-1) n2:=.inl ⟨by have:=HN2.out;omega,rfl⟩
  go_wp2_with fail
  obtain ⟨g1,g2,g3⟩:=fin.out (-1) hroot _ _ rfl
  refine bodyPost_ret (results_cell_row rfl _ _ w.heap.size 27 _ (0,0) _ rfl g1 Tryz.underlying27 rfl HINF.out) rfl ?_
  exact ⟨_,l,b,-1,rfl,g2,HL.out,hroot,g3⟩
 ·have hkI:(0:Int) < (k:Int):=by omega
  obtain ⟨q,hq,hqn⟩:∃ q:Nat,(r:Int)%(n2:Int)=(q:Int)∧q < n2:=by
   have hn0:0 < n2:=by have:=HN2.out;omega
   refine ⟨r%n2,by rw [Int.natCast_emod],Nat.mod_lt _ hn0⟩
  have hroot:RootOk (q:Int) n2:=.inr ⟨by omega,by omega,by omega⟩
  have hn0:¬ (n2:Int)=0:=by omega
  go_wp2_with fail
  obtain ⟨g1,g2,g3⟩:=fin.out (q:Int) hroot _ _ rfl
  refine bodyPost_ret (results_cell_row rfl _ _ w.heap.size 27 _ (0,0) _ rfl g1 Tryz.underlying27 rfl HINF.out) rfl ?_
  exact ⟨_,l,b,q,rfl,g2,HL.out,hroot,g3⟩
end Go.Proofs.YtajjgpkahljjmaaGreatDoor
namespace Go.Proofs.YtajjgpkahljjmaaGreatDoor
set_option maxRecDepth 20000
end Go.Proofs.YtajjgpkahljjmaaGreatDoor
namespace Go.Proofs.YtajjgpkahljjmaaGreatDoor
set_option maxRecDepth 20000
theorem name_in (p:Nat) (l b:List Nat) (A S:Option Addr) (c k d i:Nat) (w:World) (hp:PermAt w p l b) (hr:Rd w w.heap.size A l.length (I64 (ofN (names l)))) (hi:i < l.length) :
  Calls Tryz.prog 81 #[.agg #[.pointer (some ⟨p,0,none⟩),.slice A l.length c,.slice S k d],.int .i64 (i:Int)] w fun e w'=>e=.returned (.int .i64 ((nameOf l i:Nat):Int))∧Below w.heap.size w w':=by
 have hb:=(Below.refl w.heap.size w).alloc (Nat.le_refl _) (.cells #[.pointer (some ⟨p,0,none⟩),.slice A l.length c,.slice S k d] 78)
 have LN:=Lib.hid (len_p p l b _ (hp.below hb))
 obtain ⟨b',o,rfl,_,k1⟩:=(hr.more hb).i64 (by omega)
 have t1:=k1 i hi
 rw [ofN_get,names_get _ _ hi] at t1
 have hlt:¬ (l.length:Int)≤(i:Int):=by omega
 have hl9:=hp.2.1
 clear hp hr k1
 generalize nameOf l i=x at *
 go_enter Tryz.func81,Tryz.ntmps81
 go_wp2_with fail
 refine LN.out.mono ?_
 rintro e w2 ⟨rfl,rfl⟩
 go_wp2_with fail
 go_ret
 exact ⟨rfl,hb⟩
theorem vertex_in (g:Nat) (l b:List Nat) (root lone:Int) (i:Nat) (w:World) (h:MapAt w g l b root lone) (hi:i < l.length) :
  Calls Tryz.prog 46 #[.pointer (some ⟨g,0,none⟩),.int .i64 (i:Int)] w fun e w'=>e=.returned (.int .i64 ((nameOf l i:Nat):Int))∧Below w.heap.size w w':=by
 have VS:=Lib.hid (verts_p g l b root lone w h)
 have HLN:=Lib.hid (phiL_len l)
 have HI:=Lib.hid hi
 clear h hi
 go_enter Tryz.func46,Tryz.ntmps46
 go_wp2_with fail
 refine VS.out.mono ?_
 rintro e w1 ⟨p,A,c,S,d,rfl,hp,r1,r2,b1⟩
 have CC:=Lib.hid (name_in p l _ A S c (sizes l).length d i w1 hp r1 HI.out)
 clear hp r1 r2
 go_wp2_with fail
 refine CC.out.mono ?_
 rintro e w2 ⟨rfl,b2⟩
 go_wp2_with fail
 go_ret
 exact ⟨rfl,b1.trans (b2.mono b1.size)⟩
theorem face_in (g:Nat) (l b:List Nat) (root lone:Int) (i:Nat) (w:World) (h:MapAt w g l b root lone) (hi:i < l.length) :
  Calls Tryz.prog 114 #[.pointer (some ⟨g,0,none⟩),.int .i64 (i:Int)] w fun e w'=>e=.returned (.int .i64 ((nameOf (phiL l) i:Nat):Int))∧Below w.heap.size w w':=by
 have VS:=Lib.hid (faces_p g l b root lone w h)
 have HLN:=Lib.hid (phiL_len l)
 have HI:=Lib.hid hi
 clear h hi
 go_enter Tryz.func114,Tryz.ntmps114
 go_wp2_with fail
 refine VS.out.mono ?_
 rintro e w1 ⟨p,A,c,S,d,rfl,hp,r1,r2,b1⟩
 have CC:=Lib.hid (name_in p (phiL l) _ A S c (sizes (phiL l)).length d i w1 hp r1 (by rw [HLN.out];exact HI.out))
 clear hp r1 r2
 go_wp2_with fail
 refine CC.out.mono ?_
 rintro e w2 ⟨rfl,b2⟩
 go_wp2_with fail
 go_ret
 exact ⟨rfl,b1.trans (b2.mono b1.size)⟩
theorem mate_in (g:Nat) (l b:List Nat) (root lone:Int) (i:Nat) (w:World) (h:MapAt w g l b root lone) (hi:i < l.length) :
  Calls Tryz.prog 87 #[.pointer (some ⟨g,0,none⟩),.int .i64 (i:Int)] w fun e w'=>e=.returned (.int .i64 ((mateN i:Nat):Int))∧Below w.heap.size w w':=by
 have DS:=Lib.hid (darts_p g l b root lone w h)
 have MT:=Lib.hid (fun w'=>mate_p i w' (by have:=h.2.1;omega))
 have hlt:¬ (l.length:Int)≤(i:Int):=by omega
 clear h hi
 generalize mateN i=x at *
 go_enter Tryz.func87,Tryz.ntmps87
 go_wp2_with fail
 refine DS.out.mono ?_
 rintro e w1 ⟨rfl,b1⟩
 go_wp2_with fail
 refine (MT.out _).mono ?_
 rintro e w2 ⟨rfl,rfl⟩
 go_wp2_with fail
 go_ret
 exact ⟨rfl,b1⟩
theorem mate_out (g:Nat) (l b:List Nat) (root lone:Int) (i:Int) (w:World) (h:MapAt w g l b root lone) (hi:i < 0∨(l.length:Int)≤i) :
  Calls Tryz.prog 87 #[.pointer (some ⟨g,0,none⟩),.int .i64 i] w fun e w'=>e=.returned (.int .i64 (-1))∧Below w.heap.size w w':=by
 have DS:=Lib.hid (darts_p g l b root lone w h)
 clear h
 by_cases h0:i < 0
 ·go_enter Tryz.func87,Tryz.ntmps87
  go_wp2_with fail
  go_ret
  exact ⟨rfl,Below.refl _ _⟩
 ·have h1:(l.length:Int)≤i:=by omega
  clear hi
  go_enter Tryz.func87,Tryz.ntmps87
  go_wp2_with fail
  refine DS.out.mono ?_
  rintro e w1 ⟨rfl,b1⟩
  go_wp2_with fail
  go_ret
  exact ⟨rfl,b1⟩
theorem rmate_p (i:Nat) (w:World) (hi:i≤1000000) :
  Calls Tryz.prog 95 #[.int .i64 (i:Int)] w fun e w'=>e=.returned (.int .i64 ((mateN i:Nat):Int))∧w=w':=by
 rw [mateN_eq]
 by_cases h:i%2=0
 ·rw [if_pos h]
  have h1:(i:Int)%2=0:=by omega
  clear h
  go_enter Tryz.func95,Tryz.ntmps95
  go_wp2
  go_ret
  exact ⟨by simp,rfl⟩
 ·rw [if_neg h]
  have h1:(i:Int)%2=1:=by omega
  have h2:((i - 1:Nat):Int)=(i:Int) - 1:=by omega
  rw [h2]
  clear h h2
  go_enter Tryz.func95,Tryz.ntmps95
  go_wp2
  go_ret
  exact ⟨rfl,rfl⟩
end Go.Proofs.YtajjgpkahljjmaaGreatDoor
namespace Go.Proofs.YtajjgpkahljjmaaGreatDoor
set_option maxRecDepth 20000
theorem take_oneN (l:List Nat) (k:Nat) (h:k < l.length):l.take (k+1)=l.take k++[l.getD k 0]:=by
 rw [← List.take_append_getElem h,List.getD_eq_getElem?_getD,List.getElem?_eq_getElem h];rfl
theorem phiL_get (l:List Nat) (k:Nat) (hk:k < l.length):(phiL l).getD k 0=l.getD (mateN k) 0:=by
 unfold phiL
 rw [comp_get _ _ _ (by rw [mateL_len];exact hk),mateL_get _ _ hk]
set_option maxHeartbeats 4000000 in
theorem rphi_p (A:Option Addr) (c:Nat) (l:List Nat) (root lone:Int) (w:World) (h:Rd w w.heap.size A l.length (I64 (ofN l))) (he:l.length%2=0) (hn:l.length≤100000) :
  Calls Tryz.prog 92 #[.agg #[.slice A l.length c,.int .i64 root,.int .i64 lone]] w (NewI64 w (ofN (phiL l))):=by
 obtain ⟨i0,hi0,hz0,hz1,hz2⟩:=info_parts info_int
 have hb0:=(Below.refl w.heap.size w).alloc (Nat.le_refl _) (.cells #[.slice A l.length c,.int .i64 root,.int .i64 lone] 27)
 have H:=Lib.hid (h.below hb0)
 have HBX:=Lib.hid (Blk.new w 27 #[.slice A l.length c,.int .i64 root,.int .i64 lone])
 have HE:=Lib.hid he
 have HPL:=Lib.hid (phiL_len l)
 clear h he
 go_enter Tryz.func92,Tryz.ntmps92
 go_wp2_with fail
 generalize hw1:w.alloc (.cells #[.slice A l.length c,.int .i64 root,.int .i64 lone] 27)=w1 at *
 have hs1:w1.heap.size=w.heap.size+1:=by rw [← hw1];simp
 clear hw1
 go_loopw [3,8] (fun v i wr=>∃ (k:Nat) (Av:Option Addr) (cv:Nat),k≤l.length∧i=.int .i64 (k:Int)∧v=.slice Av k cv∧Hid (wr.ownsRow (w.heap.size+1) 3 1 (.slice Av k cv) k (I64 (ofN ((phiL l).take k))))∧Hid (Below (w.heap.size+1) w1 wr)) (fun _ i _=>l.length - (intOf i).toNat)
 case atStart=>exact ⟨0,none,0,by omega,rfl,rfl,World.ownsRow_nil _ _ _ _,Below.refl _ _⟩
 case round =>
  obtain ⟨k,Av,cv,hk,rfl,rfl,hown,hbl⟩:=hrel
  by_cases hlt:k < l.length
  ·have hml:=mateN_lt HE.out hlt
   have hr:=H.out.below (hbl.out.mono (by omega))
   obtain ⟨b',o,rfl,hb'l,k1⟩:=hr.i64 (by omega)
   have t1:=k1 (mateN k) hml
   rw [ofN_get] at t1
   have hbx:=(hbl.out.block w.heap.size (by omega)).trans HBX.out
   have x0:wr.cell? ⟨w.heap.size,0,none⟩=some (.slice (some ⟨b',o,none⟩) l.length c):=Blk.cell hbx 0
   have MT:=Lib.hid (fun w'=>rmate_p k w' (by omega))
   have NX:Hid (I64 (ofN ((phiL l).take k))++I64 [((l.getD (mateN k) 0:Nat):Int)]=I64 (ofN ((phiL l).take (k+1)))):=by
    show _=_
    rw [take_oneN _ _ (by rw [HPL.out];exact hlt),phiL_get _ _ hlt,ofN_append,I64_append];rfl
   have hsr:=hbl.out.size
   have hbw:w.heap.size < wr.heap.size:=by omega
   have hbw2:b' < wr.heap.size:=by omega
   have t2:k+1≤maxLen:=by simp only [maxLen];omega
   have t3:(k+1)*8≤140737488355328:=by omega
   have hmI:((mateN k:Nat):Int) < (l.length:Int):=by omega
   have hmI0:(0:Int)≤((mateN k:Nat):Int):=Int.natCast_nonneg _
   clear hr k1 hbx
   generalize mateN k=mk at *
   generalize l.getD mk 0=x at *
   go_wp2_with fail
   go_region_law (first
    | (refine step_append_lies _ (by rfl) _ _ _ (by rfl) (w.heap.size+1) 3 i0 _ 1 8 Tryz.underlying25 hi0 hz0 hz1 hz2 rfl (by omega) (.slice Av k cv) k (I64 (ofN ((phiL l).take k))) (by rfl) ((hown.out.alloc _).drew)
        ⟨wr.heap.size,0,none⟩ 1 1 [.int .i64 (x:Int)] (by rfl) (by rfl) (World.news_of_block (cs:=#[.int .i64 (x:Int)]) (t:=3) (fr:=(0,0)) (heap_alloc_new wr _)) (by simp [Value.oneCell'])
        (by omega) t2 t3 (by simp;omega) (wr.heap.size+1) (by simp) ?_;intro gg cap w3 hown1 hgrow hat hlt3
       have hbx3:Below (w.heap.size+1) wr w3:=((Below.refl _ _).alloc (by omega) (.cells #[.int .i64 (x:Int)] 3)).drew.trans (Below.appended ((hown.out.alloc _).drew) hgrow (by simp;omega))
       have HO3:=Lib.hid hown1
       have HB3:=Lib.hid hbx3
       clear hown1 hgrow hat hbx3)
    | (go_simp;go_at_call 95;refine (MT.out _).mono ?_;rintro e w' ⟨rfl,rfl⟩))
   all_goals (
    go_wp2_with fail
    have HO4:Hid (w3.ownsRow (w.heap.size+1) 3 1 (.slice (some ⟨gg,0,none⟩) (k+1) cap) (k+1) (I64 (ofN ((phiL l).take (k+1))))):=by
     have:=HO3.out
     rw [show [Value.int .i64 (x:Int)]=I64 [(x:Int)] from rfl,NX.out] at this
     exact this
    go_roundw
    case rel=>exact ⟨k+1,_,cap,by omega,by go_num,rfl,HO4.out,hbl.out.trans HB3.out⟩
    case measure=>simp [intOf];omega)
  ·obtain rfl:k=l.length:=by omega
   have e1:(phiL l).take l.length=phiL l:=List.take_of_length_le (by rw [HPL.out];exact Nat.le_refl _)
   rw [e1] at hown
   have hB:Below w.heap.size w wr:=hb0.trans (hbl.out.mono (Nat.le_succ _))
   clear hb0 e1
   go_wp2_with fail
   go_ret
   refine .mk rfl ?_ hB
   rw [ofN_len,HPL.out]
   exact hown.out.base_le' (Nat.le_succ _)
end Go.Proofs.YtajjgpkahljjmaaGreatDoor
