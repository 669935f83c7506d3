/- What maps answer. The document's examples of maps. What New refuses, and what the document says of it. Rows of integers that come in to a statement. DartMakes: of any list, root and count there is a map, or it is refused. What maps that are answer of a dart. -/
import Derived.Test.YtijbdnhlpbcabaaGreatDoorZg2
import Derived.Test.YtijbdnhlpbcabaaGreatDoorZg1
import Derived.Laws.ResultCell
import Derived.Deep.RegionLaw
import Derived.Deep.AppendLies
open Go.RowKit
set_option linter.unusedVariables false
namespace Go.Proofs.YtijbdnhlpbcabaaGreatDoor
set_option maxRecDepth 20000
theorem info_names:(Tryz.prog.info? 78).map (·.size)=some 3:=by kernel_rfl
def VPost (w:World) (l b:List Nat) (e:Ending) (w':World):Prop :=
 ∃ p A c S d,e=.returned (.agg #[.pointer (some ⟨p,0,none⟩),.slice A l.length c,.slice S (sizes l).length d])∧PermAt w' p l b∧Rd w' w'.heap.size A l.length (I64 (ofN (names l)))∧Rd w' w'.heap.size S (sizes l).length (I64 (ofN (sizes l)))∧Below w.heap.size w w'
set_option maxHeartbeats 1000000 in
theorem verts_p (g:Nat) (l b:List Nat) (root lone:Int) (w:World) (h:MapAt w g l b root lone) :
  Calls Tryz.prog 75 #[.pointer (some ⟨g,0,none⟩)] w (VPost w l b):=by
 obtain ⟨h1,h2,p,A,c,S,d,q,A',c',S',d',hb,hp,hq,r1,r2,r3,r4⟩:=h
 have n0:=hb.cell 0
 have n1:=hb.cell 1
 have n2:=hb.cell 2
 have hgl:=hb.lt
 simp at n0 n1 n2
 have HP:=Lib.hid hp
 have HQ:=Lib.hid hq
 have R1:=Lib.hid r1
 have R2:=Lib.hid r2
 have R3:=Lib.hid r3
 have R4:=Lib.hid r4
 have HINF:=Lib.hid info_names
 clear hb hp hq r1 r2 r3 r4
 go_enter Tryz.func75,Tryz.ntmps75
 go_wp2_with fail
 have hb2:=(Below.refl w.heap.size w).alloc (Nat.le_refl _) (.cells #[.pointer (some ⟨p,0,none⟩),.slice A l.length c,.slice S (sizes l).length d] 78)
 refine bodyPost_ret (results_cell_row rfl _ _ w.heap.size 78 _ (0,0) _ rfl (Blk.new w _ _) Tryz.underlying78 rfl HINF.out) rfl ?_
 exact ⟨p,A,c,S,d,rfl,HP.out.below hb2,R1.out.more hb2,R2.out.more hb2,hb2⟩
set_option maxHeartbeats 1000000 in
theorem faces_p (g:Nat) (l b:List Nat) (root lone:Int) (w:World) (h:MapAt w g l b root lone) :
  Calls Tryz.prog 80 #[.pointer (some ⟨g,0,none⟩)] w (VPost w (phiL l) (phiB l b)):=by
 obtain ⟨h1,h2,p,A,c,S,d,q,A',c',S',d',hb,hp,hq,r1,r2,r3,r4⟩:=h
 have n0:=hb.cell 3
 have n1:=hb.cell 4
 have n2:=hb.cell 5
 have hgl:=hb.lt
 simp at n0 n1 n2
 have HP:=Lib.hid hp
 have HQ:=Lib.hid hq
 have R1:=Lib.hid r1
 have R2:=Lib.hid r2
 have R3:=Lib.hid r3
 have R4:=Lib.hid r4
 have HINF:=Lib.hid info_names
 clear hb hp hq r1 r2 r3 r4
 go_enter Tryz.func80,Tryz.ntmps80
 go_wp2_with fail
 have hb2:=(Below.refl w.heap.size w).alloc (Nat.le_refl _) (.cells #[.pointer (some ⟨q,0,none⟩),.slice A' l.length c',.slice S' (sizes (phiL l)).length d'] 78)
 refine bodyPost_ret (results_cell_row rfl _ _ w.heap.size 78 _ (0,0) _ rfl (Blk.new w _ _) Tryz.underlying78 rfl HINF.out) rfl ?_
 exact ⟨q,A',c',S',d',by rw [phiL_len],HQ.out.below hb2,by rw [phiL_len];exact R3.out.more hb2,R4.out.more hb2,hb2⟩
theorem root_p (g:Nat) (l b:List Nat) (root lone:Int) (w:World) (h:MapAt w g l b root lone) :
  Calls Tryz.prog 33 #[.pointer (some ⟨g,0,none⟩)] w fun e w'=>e=.returned (.int .i64 root)∧w=w':=by
 obtain ⟨h1,h2,p,A,c,S,d,q,A',c',S',d',hb,_⟩:=h
 have n0:=hb.cell 6
 simp at n0
 clear hb
 go_enter Tryz.func33,Tryz.ntmps33
 go_wp2_with fail
 go_ret
 exact ⟨rfl,rfl⟩
theorem lone_p (g:Nat) (l b:List Nat) (root lone:Int) (w:World) (h:MapAt w g l b root lone) :
  Calls Tryz.prog 34 #[.pointer (some ⟨g,0,none⟩)] w fun e w'=>e=.returned (.int .i64 lone)∧w=w':=by
 obtain ⟨h1,h2,p,A,c,S,d,q,A',c',S',d',hb,_⟩:=h
 have n0:=hb.cell 7
 simp at n0
 clear hb
 go_enter Tryz.func34,Tryz.ntmps34
 go_wp2_with fail
 go_ret
 exact ⟨rfl,rfl⟩
theorem darts_p (g:Nat) (l b:List Nat) (root lone:Int) (w:World) (h:MapAt w g l b root lone) :
  Calls Tryz.prog 40 #[.pointer (some ⟨g,0,none⟩)] w fun e w'=>e=.returned (.int .i64 (l.length:Int))∧Below w.heap.size w w':=by
 have VS:=Lib.hid (verts_p g l b root lone w h)
 have F0:=fld0
 have F2:=fld2
 have H:=Lib.hid h
 clear h
 go_enter Tryz.func40,Tryz.ntmps40
 go_wp2_with fail
 refine VS.out.mono ?_
 rintro e w1 ⟨p,A,c,S,d,rfl,hp,r1,r2,b1⟩
 have LN:=Lib.hid (len_p p _ _ w1 hp)
 clear hp r1 r2
 go_wp2_with fail
 refine LN.out.mono ?_
 rintro e w2 ⟨rfl,rfl⟩
 go_wp2_with fail
 go_ret
 exact ⟨rfl,b1⟩
theorem edges_p (g:Nat) (l b:List Nat) (root lone:Int) (w:World) (h:MapAt w g l b root lone) :
  Calls Tryz.prog 21 #[.pointer (some ⟨g,0,none⟩)] w fun e w'=>e=.returned (.int .i64 ((l.length / 2:Nat):Int))∧Below w.heap.size w w':=by
 have DS:=Lib.hid (darts_p g l b root lone w h)
 have hn:=h.2.1
 obtain ⟨x,hx⟩:∃ x,x=l.length / 2:=⟨_,rfl⟩
 have hx2:(l.length:Int) / 2=(x:Int):=by omega
 have hx3:x≤1000000:=by omega
 rw [← hx]
 clear h hx
 go_enter Tryz.func21,Tryz.ntmps21
 go_wp2_with fail
 refine DS.out.mono ?_
 rintro e w1 ⟨rfl,b1⟩
 go_wp2_with fail
 go_ret
 exact ⟨rfl,b1⟩
theorem sizes_le (l:List Nat):(sizes l).length≤l.length:=by unfold sizes;rw [sizesTo_len];exact met_le l l.length
theorem vertices_p (g:Nat) (l b:List Nat) (root lone:Int) (w:World) (h:MapAt w g l b root lone) :
  Calls Tryz.prog 44 #[.pointer (some ⟨g,0,none⟩)] w fun e w'=>e=.returned (.int .i64 (((sizes l).length:Int)+lone))∧Below w.heap.size w w':=by
 have VS:=Lib.hid (verts_p g l b root lone w h)
 have F0:=fld0
 have F2:=fld2
 have H:=Lib.hid h
 have hz:=sizes_le l
 have hn:=h.2.1
 have hl1:=h.1.2.1
 have hl2:=h.1.2.2
 clear h
 go_enter Tryz.func44,Tryz.ntmps44
 go_wp2_with fail
 refine VS.out.mono ?_
 rintro e w1 ⟨p,A,c,S,d,rfl,hp,r1,r2,b1⟩
 have LO:=Lib.hid (lone_p g l b root lone w1 (H.out.below b1))
 clear hp r1 r2
 go_wp2_with fail
 refine LO.out.mono ?_
 rintro e w2 ⟨rfl,rfl⟩
 go_wp2_with fail
 go_ret
 exact ⟨rfl,b1⟩
end Go.Proofs.YtijbdnhlpbcabaaGreatDoor
namespace Go.Proofs.YtijbdnhlpbcabaaGreatDoor
set_option maxRecDepth 20000
end Go.Proofs.YtijbdnhlpbcabaaGreatDoor
namespace Go.Proofs.YtijbdnhlpbcabaaGreatDoor
set_option maxRecDepth 20000
end Go.Proofs.YtijbdnhlpbcabaaGreatDoor
namespace Go.Proofs.YtijbdnhlpbcabaaGreatDoor
set_option maxRecDepth 20000
def Z8 (l:List Int):List Value:=l.map fun (x:Int)=>Value.int .u8 x
theorem row_k (k:IntKind) {w:World} {a:Option Addr} {len cap:Nat} {zs:List Int}
  (h:(a=none∧len=0∧cap=0∧zs=[]) ∨
    ∃ x,a=some x∧len≤cap∧cap≤maxLen∧zs.length=cap∧(∀ i,i < zs.length→w.cell? (x.add i)=some (.int k (zs.getD i 0)))∧∀ n∈zs,(Lit.int k n).wf=true) :
  len≤cap∧cap≤maxLen∧Rd w w.heap.size a len ((zs.take len).map (Value.int k))∧∀ x∈zs.take len,(Lit.int k x).wf=true:=by
 rcases h with ⟨rfl,rfl,rfl,rfl⟩ | ⟨x,rfl,hl,hm,hz,hc,hw⟩
 ·exact ⟨Nat.le_refl _,Nat.zero_le _,Rd.nil _ _ _,by simp⟩
 ·refine ⟨hl,hm,⟨by simp;omega,fun h0=>?_⟩,fun x hx=>hw x (List.mem_of_mem_take hx)⟩
  obtain ⟨b,o,sp⟩:=x
  obtain rfl:sp=none:=by simpa [Addr.add] using World.cell?_spot (hc 0 (by omega))
  refine ⟨b,o,rfl,World.block_lt_of_cell? _ _ (hc 0 (by omega)),fun j hj=>?_⟩
  have hj':j < len:=by simp at hj;omega
  have:=hc j (by omega)
  have e:(⟨b,o,none⟩:Addr).add j=⟨b,o+j,none⟩:=by unfold Addr.add;split <;> simp_all
  rw [e] at this
  rw [this]
  have hjz:j < zs.length:=by omega
  simp [List.getD_eq_getElem?_getD,List.getElem?_eq_getElem hjz]
theorem row_z8 {w:World} {a:Option Addr} {len cap:Nat} {zs:List Int}
  (h:(a=none∧len=0∧cap=0∧zs=[]) ∨
    ∃ x,a=some x∧len≤cap∧cap≤maxLen∧zs.length=cap∧(∀ i,i < zs.length→w.cell? (x.add i)=some (.int .u8 (zs.getD i 0)))∧∀ n∈zs,(Lit.int .u8 n).wf=true) :
  len≤cap∧cap≤maxLen∧∃ x:List Int,Rd w w.heap.size a len (Z8 x)∧∀ b∈x,0≤b∧b < 256 :=
 let ⟨a,b,c,d⟩:=row_k .u8 h
 ⟨a,b,zs.take len,c,fun b hb=>by
  have:=d b hb
  simp [Lit.wf,IntKind.min,IntKind.max,IntKind.bits,IntKind.signed] at this
  omega⟩
theorem wf_u8 {x:Int} (h:(Lit.int .u8 x).wf=true):∃ n:Nat,x=(n:Int)∧n < 256:=by
 simp [Lit.wf,IntKind.min,IntKind.max,IntKind.bits,IntKind.signed] at h
 exact ⟨x.toNat,by omega,by omega⟩
end Go.Proofs.YtijbdnhlpbcabaaGreatDoor
namespace Go.Proofs.YtijbdnhlpbcabaaGreatDoor
set_option maxRecDepth 20000
theorem mlist_p (g:Nat) (l b:List Nat) (root lone:Int) (w:World) (h:MapAt w g l b root lone) :
  Calls Tryz.prog 32 #[.pointer (some ⟨g,0,none⟩)] w (NewI64 w (ofN l)):=by
 have VS:=Lib.hid (verts_p g l b root lone w h)
 have F0:=fld0
 clear h
 go_enter Tryz.func32,Tryz.ntmps32
 go_wp2_with fail
 refine VS.out.mono ?_
 rintro e w1 ⟨p,A,c,S,d,rfl,hp,r1,r2,b1⟩
 have LS:=Lib.hid (list_p p l b w1 hp)
 clear hp r1 r2
 go_wp2_with fail
 refine LS.out.mono ?_
 rintro e w2 ⟨A2,c2,rfl,hc2,hm2,hown,b2⟩
 go_wp2_with fail
 go_ret
 exact ⟨A2,c2,rfl,hc2,hm2,hown.base_le' b1.size,b1.trans (b2.mono b1.size)⟩
end Go.Proofs.YtijbdnhlpbcabaaGreatDoor
namespace Go.Proofs.YtijbdnhlpbcabaaGreatDoor
set_option maxRecDepth 20000
theorem sigma_in (g:Nat) (l b:List Nat) (root lone:Int) (i:Nat) (w:World) (h:MapAt w g l b root lone) (hi:i < l.length) :
  Calls Tryz.prog 104 #[.pointer (some ⟨g,0,none⟩),.int .i64 (i:Int)] w fun e w'=>e=.returned (.int .i64 ((l.getD i 0:Nat):Int))∧Below w.heap.size w w':=by
 have VS:=Lib.hid (verts_p g l b root lone w h)
 have F0:=fld0
 have HP1:=Lib.hid h.1
 have hlen:=phiL_len l
 have HI:=Lib.hid hi
 have HLN:=Lib.hid hlen
 clear h hlen hi
 go_enter Tryz.func104,Tryz.ntmps104
 go_wp2_with fail
 refine VS.out.mono ?_
 rintro e w1 ⟨p,A,c,S,d,rfl,hp,r1,r2,b1⟩
 have CC:=Lib.hid (at_in p _ _ i w1 hp HI.out)
 clear hp r1 r2
 go_wp2_with fail
 refine CC.out.mono ?_
 rintro e w2 ⟨rfl,rfl⟩
 go_wp2_with fail
 go_ret
 exact ⟨rfl,b1⟩
end Go.Proofs.YtijbdnhlpbcabaaGreatDoor
namespace Go.Proofs.YtijbdnhlpbcabaaGreatDoor
set_option maxRecDepth 20000
theorem info_rmap:(Tryz.prog.info? 27).map (·.size)=some 3:=by kernel_rfl
end Go.Proofs.YtijbdnhlpbcabaaGreatDoor
namespace Go.Proofs.YtijbdnhlpbcabaaGreatDoor
set_option maxRecDepth 20000
end Go.Proofs.YtijbdnhlpbcabaaGreatDoor
namespace Go.Proofs.YtijbdnhlpbcabaaGreatDoor
set_option maxRecDepth 20000
theorem name_in (p:Nat) (l b:List Nat) (A S:Option Addr) (c k d i:Nat) (w:World) (hp:PermAt w p l b) (hr:Rd w w.heap.size A l.length (I64 (ofN (names l)))) (hi:i < l.length) :
  Calls Tryz.prog 81 #[.agg #[.pointer (some ⟨p,0,none⟩),.slice A l.length c,.slice S k d],.int .i64 (i:Int)] w fun e w'=>e=.returned (.int .i64 ((nameOf l i:Nat):Int))∧Below w.heap.size w w':=by
 have hb:=(Below.refl w.heap.size w).alloc (Nat.le_refl _) (.cells #[.pointer (some ⟨p,0,none⟩),.slice A l.length c,.slice S k d] 78)
 have LN:=Lib.hid (len_p p l b _ (hp.below hb))
 obtain ⟨b',o,rfl,_,k1⟩:=(hr.more hb).i64 (by omega)
 have t1:=k1 i hi
 rw [ofN_get,names_get _ _ hi] at t1
 have hlt:¬ (l.length:Int)≤(i:Int):=by omega
 have hl9:=hp.2.1
 clear hp hr k1
 generalize nameOf l i=x at *
 go_enter Tryz.func81,Tryz.ntmps81
 go_wp2_with fail
 refine LN.out.mono ?_
 rintro e w2 ⟨rfl,rfl⟩
 go_wp2_with fail
 go_ret
 exact ⟨rfl,hb⟩
theorem vertex_in (g:Nat) (l b:List Nat) (root lone:Int) (i:Nat) (w:World) (h:MapAt w g l b root lone) (hi:i < l.length) :
  Calls Tryz.prog 46 #[.pointer (some ⟨g,0,none⟩),.int .i64 (i:Int)] w fun e w'=>e=.returned (.int .i64 ((nameOf l i:Nat):Int))∧Below w.heap.size w w':=by
 have VS:=Lib.hid (verts_p g l b root lone w h)
 have HLN:=Lib.hid (phiL_len l)
 have HI:=Lib.hid hi
 clear h hi
 go_enter Tryz.func46,Tryz.ntmps46
 go_wp2_with fail
 refine VS.out.mono ?_
 rintro e w1 ⟨p,A,c,S,d,rfl,hp,r1,r2,b1⟩
 have CC:=Lib.hid (name_in p l _ A S c (sizes l).length d i w1 hp r1 HI.out)
 clear hp r1 r2
 go_wp2_with fail
 refine CC.out.mono ?_
 rintro e w2 ⟨rfl,b2⟩
 go_wp2_with fail
 go_ret
 exact ⟨rfl,b1.trans (b2.mono b1.size)⟩
theorem face_in (g:Nat) (l b:List Nat) (root lone:Int) (i:Nat) (w:World) (h:MapAt w g l b root lone) (hi:i < l.length) :
  Calls Tryz.prog 114 #[.pointer (some ⟨g,0,none⟩),.int .i64 (i:Int)] w fun e w'=>e=.returned (.int .i64 ((nameOf (phiL l) i:Nat):Int))∧Below w.heap.size w w':=by
 have VS:=Lib.hid (faces_p g l b root lone w h)
 have HLN:=Lib.hid (phiL_len l)
 have HI:=Lib.hid hi
 clear h hi
 go_enter Tryz.func114,Tryz.ntmps114
 go_wp2_with fail
 refine VS.out.mono ?_
 rintro e w1 ⟨p,A,c,S,d,rfl,hp,r1,r2,b1⟩
 have CC:=Lib.hid (name_in p (phiL l) _ A S c (sizes (phiL l)).length d i w1 hp r1 (by rw [HLN.out];exact HI.out))
 clear hp r1 r2
 go_wp2_with fail
 refine CC.out.mono ?_
 rintro e w2 ⟨rfl,b2⟩
 go_wp2_with fail
 go_ret
 exact ⟨rfl,b1.trans (b2.mono b1.size)⟩
theorem mate_in (g:Nat) (l b:List Nat) (root lone:Int) (i:Nat) (w:World) (h:MapAt w g l b root lone) (hi:i < l.length) :
  Calls Tryz.prog 87 #[.pointer (some ⟨g,0,none⟩),.int .i64 (i:Int)] w fun e w'=>e=.returned (.int .i64 ((mateN i:Nat):Int))∧Below w.heap.size w w':=by
 have DS:=Lib.hid (darts_p g l b root lone w h)
 have MT:=Lib.hid (fun w'=>mate_p i w' (by have:=h.2.1;omega))
 have hlt:¬ (l.length:Int)≤(i:Int):=by omega
 clear h hi
 generalize mateN i=x at *
 go_enter Tryz.func87,Tryz.ntmps87
 go_wp2_with fail
 refine DS.out.mono ?_
 rintro e w1 ⟨rfl,b1⟩
 go_wp2_with fail
 refine (MT.out _).mono ?_
 rintro e w2 ⟨rfl,rfl⟩
 go_wp2_with fail
 go_ret
 exact ⟨rfl,b1⟩
theorem mate_out (g:Nat) (l b:List Nat) (root lone:Int) (i:Int) (w:World) (h:MapAt w g l b root lone) (hi:i < 0∨(l.length:Int)≤i) :
  Calls Tryz.prog 87 #[.pointer (some ⟨g,0,none⟩),.int .i64 i] w fun e w'=>e=.returned (.int .i64 (-1))∧Below w.heap.size w w':=by
 have DS:=Lib.hid (darts_p g l b root lone w h)
 clear h
 by_cases h0:i < 0
 ·go_enter Tryz.func87,Tryz.ntmps87
  go_wp2_with fail
  go_ret
  exact ⟨rfl,Below.refl _ _⟩
 ·have h1:(l.length:Int)≤i:=by omega
  clear hi
  go_enter Tryz.func87,Tryz.ntmps87
  go_wp2_with fail
  refine DS.out.mono ?_
  rintro e w1 ⟨rfl,b1⟩
  go_wp2_with fail
  go_ret
  exact ⟨rfl,b1⟩
end Go.Proofs.YtijbdnhlpbcabaaGreatDoor
namespace Go.Proofs.YtijbdnhlpbcabaaGreatDoor
set_option maxRecDepth 20000
theorem phiL_get (l:List Nat) (k:Nat) (hk:k < l.length):(phiL l).getD k 0=l.getD (mateN k) 0:=by
 unfold phiL
 rw [comp_get _ _ _ (by rw [mateL_len];exact hk),mateL_get _ _ hk]
end Go.Proofs.YtijbdnhlpbcabaaGreatDoor
