/- treeOf, walked. -/
import Derived.Test.YtajjgpkahljjmaaGreatDoorZg9
import Derived.Test.YtajjgpkahljjmaaGreatDoorZg7
import Derived.Test.YtajjgpkahljjmaaGreatDoorZg8
open Go.RowKit
set_option linter.unusedVariables false
namespace Go.Proofs.YtajjgpkahljjmaaGreatDoor
set_option maxRecDepth 20000
theorem leaf0_p (w:World) (A:Option Addr) (m c L:Nat) (hm:m+1=2*L) (hL:L≤100000) :
  Calls Tryz.prog 205 #[.slice A m c,.int .i64 0] w fun e w'=>e=.returned (.int .i64 (L:Int))∧w=w':=by
 have:=leaf_p w A m c 0 (by omega) (by omega)
 rw [show m / 2+1+0=L by omega] at this
 exact this
def TreePost (w:World) (E:Nat→Int) (n B:Nat) (e:Ending) (w':World):Prop :=
 ∃ t H M T,e=.returned (.slice (some ⟨t,0,none⟩) M M)∧M+1=2*2 ^ H∧Lvs B H∧w.heap.size≤t∧Blk w' t 227 (ndArr T M)∧TreeOK E n H (fun x=>T (x - 1))∧Below w.heap.size w w'
def leavesTo (E:Nat→Int) (n K i:Nat) (U:Nat→Int × Int):Prop:=∀ j,j < i→U (K+j)=nd E n j (j+1)
def nodesFrom (E:Nat→Int) (n H x:Nat) (U:Nat→Int × Int):Prop:=∀ y h a,x < y→h≤H→y*2 ^ h=2 ^ H+a→a < 2 ^ H→U (y - 1)=nd E n a (a+2 ^ h)
theorem nodesFrom.leaves {E:Nat→Int} {n K H:Nat} {U:Nat→Int × Int} (hK:K+1=2 ^ H) (h:leavesTo E n K (K+1) U):nodesFrom E n H K U:=fun y k a hy hk he ha=>by
 cases k with
 | zero =>
   rw [Nat.pow_zero,Nat.mul_one] at he
   have:=h a (by omega)
   rw [show y - 1=K+a by omega,this]
 | succ k =>
   have:=node_kids hk he ha
   have hp:0 < 2 ^ k:=Nat.two_pow_pos k
   have:=node_end hk he ha
   exfalso
   have h1:2 ^ H≤y:=by omega
   have h2:=Nat.mul_le_mul h1 (show 2≤2 ^ (k+1) by rw [pow_up];omega)
   omega
theorem nodesFrom.next {E:Nat→Int} {n H x:Nat} {U:Nat→Int × Int} (h:nodesFrom E n H x U) (hx1:1≤x) (hx:x < 2 ^ H):nodesFrom E n H (x - 1) (upd U (x - 1) (joinN (U (2*x - 1)) (U (2*x+1 - 1)))):=fun y k a hy hk he ha=>by
 by_cases e:y=x
 ·subst e
  cases k with
  | zero=>rw [Nat.pow_zero,Nat.mul_one] at he;omega
  | succ k =>
    obtain ⟨k1,k2,k3⟩:=node_kids hk he ha
    have h1:=h (2*y) k a (by omega) (by omega) k1 ha
    have h2:=h (2*y+1) k (a+2 ^ k) (by omega) (by omega) k2 k3
    unfold upd
    rw [if_pos rfl,h1,h2,nd_join E n _ _ _ (Nat.le_add_right _ _) (Nat.le_add_right _ _),pow_up,show a+2 ^ k+2 ^ k=a+2*2 ^ k by omega]
 ·unfold upd
  rw [if_neg (by omega)]
  exact h y k a (by omega) hk he ha
theorem nodesFrom.fits {E:Nat→Int} (hE:Exc E) {n H x:Nat} (hn:n≤1000000) {U:Nat→Int × Int} (h:nodesFrom E n H x U) {y:Nat} (hy:x < y) (hy2:y < 2*2 ^ H):Fits (U (y - 1)):=by
 obtain ⟨k,a,h1,h2,h3⟩:=node_ex H y (by omega) hy2
 rw [h y k a hy h1 h2 h3]
 exact nd_fits hE hn _ _
set_option maxHeartbeats 4000000 in
theorem treeOf_p (E:Nat→Int) (hE:Exc E) (bb B cc n:Nat) (w:World) (hN:Nul w) (hn:n≤1000000) (hB:B=(n+511) / 512) (hb:Blk w bb 227 (ndArr (fun k=>nd E n k (k+1)) B)) :
  Calls Tryz.prog 197 #[.slice (some ⟨bb,0,none⟩) B cc] w (TreePost w E n B):=by
 have HB:=Lib.hid hB
 have hB9:B≤4096:=by omega
 have HN:=Lib.hid hN
 have HE:=Lib.hid hE
 have HBB:=Lib.hid hb
 have hbl:=hb.lt
 clear hB hN hE hb
 go_enter Tryz.func197,Tryz.ntmps197
 go_wp2_with fail
 refine (nodesFor_p _ B (by omega)).mono ?_
 rintro e w1 ⟨H,L,M,rfl,hM,hL1,hL9,hLH,hlv,rfl⟩
 obtain ⟨K,rfl⟩:∃ K,L=K+1:=⟨L - 1,by omega⟩
 have HLH:=Lib.hid hLH
 have HLV:=Lib.hid hlv
 have hBK:B≤K+1:=by have:=hlv.1;omega
 have HM:=Lib.hid hM
 have hKM:K < M:=by omega
 have hM9:M≤100000:=by omega
 have hMKI:(M:Int) - (K:Int)=(K:Int)+1:=by omega
 have hMK:M - K=K+1:=by omega
 have eK:((K+1:Nat):Int) - 1=(K:Int):=by omega
 clear hLH hlv hM hL1
 have MK:=run_make_nodes 190 (by kernel_rfl) M (by omega) w
 have hbn:=Blk.new w 227 (ndArr (fun _=>(0,0)) M)
 have HT:=Lib.hid hbn
 have HB1:=Lib.hid (HBB.out.alloc (.cells (ndArr (fun _=>(0,0)) M) 227))
 have L0:=Lib.hid (leaf0_p (w.alloc (.cells (ndArr (fun _=>(0,0)) M) 227)) (some ⟨w.heap.size,0,none⟩) M M (K+1) (by have:=HM.out;omega) (by omega))
 clear hbn
 go_wp2_with (first
  | (go_at_call 205;refine L0.out.mono ?_;rintro e w' ⟨rfl,rfl⟩)
  | (with_reducible refine wpList_copy_nodes rfl (.tmp 16) (.tmp 17) 190 189 rfl (by kernel_rfl) w.heap.size K (K+1) (K+1) bb B cc M rfl rfl (fun _=>(0,0)) (fun k=>nd E n k (k+1)) HT.out HB1.out (by omega) (by omega) ?_))
 intro w3 h3 m3
 have hb3:Hid (Below w.heap.size w w3):=((Below.refl _ _).alloc (Nat.le_refl _) _).trans (m3.out.belowB (by simp) fun i hi e=>by omega)
 have hs3:w.heap.size < w3.heap.size:=by have:=m3.out.size;simp at this;omega
 have L3:Hid (leavesTo E n K B (laid (fun _=>(0,0)) (fun k=>nd E n k (k+1)) K B)):=fun j hj=>by
  unfold laid
  rw [if_neg (by omega),if_pos (by omega),show K+j - K=j by omega]
 generalize hU0:laid (fun _=>(0,0)) (fun k=>nd E n k (k+1)) K B=U0 at *
 generalize hS:w.heap.size=S at *
 clear hU0 HT HB1 MK L0 m3 HBB
 go_wp2_with fail
 go_loopw [5] (fun x wr=>∃ (i:Nat) (U:Nat→Int × Int),B≤i∧i≤K+1∧x=.int .i64 (i:Int)∧Hid (Blk wr S 227 (ndArr U M))∧Hid (leavesTo E n K i U)∧Hid (Below S w wr)) (fun x _=>K+1 - (intOf x).toNat)
 case atStart=>exact ⟨B,U0,by omega,by omega,rfl,h3.out,L3.out,hb3.out⟩
 case round =>
  clear h3 hb3 L3
  obtain ⟨i,U,hBi,hi,rfl,hblk,hlv,hbel⟩:=hrel
  by_cases hlt:i < K+1
  ·have c1:=(hbel.out.cell (p:=⟨1,0,none⟩) (by show 1 < S;have:=HN.out.lt;omega)).trans HN.out.s
   have c2:=(hbel.out.cell (p:=⟨1,1,none⟩) (by show 1 < S;have:=HN.out.lt;omega)).trans HN.out.l
   have f1:=hblk.out.frozen (K*2+i*2)
   have f2:=hblk.out.frozen (K*2+i*2+1)
   have d1:wr.cell? ⟨S,K*2+i*2,none⟩=some (.int .i32 (U (K+i)).1):=by rw [hblk.out.cell,← Nat.add_mul];exact (ndArr_get U M (K+i) (by have:=HM.out;omega)).1
   have d2:wr.cell? ⟨S,K*2+i*2+1,none⟩=some (.int .i32 (U (K+i)).2):=by rw [hblk.out.cell,← Nat.add_mul];exact (ndArr_get U M (K+i) (by have:=HM.out;omega)).2
   have hz:1≠S:=by have:=HN.out.lt;omega
   go_wp2_with fail
   have hki:K+i < M:=by have:=HM.out;omega
   have NB:Hid (Blk ((wr.setCell ⟨S,K*2+i*2,none⟩ (.int .i32 0)).setCell ⟨S,K*2+i*2+1,none⟩ (.int .i32 2147483647)) S 227 (ndArr (upd U (K+i) nul) M)):=by
    have h1:=(hblk.out.set_ (K*2+i*2) (.int .i32 0)).set_ (K*2+i*2+1) (.int .i32 2147483647)
    have h2:=ndArr_set U M (K+i) nul hki
    rw [Nat.add_mul] at h2
    exact h2 ▸ h1
   have NL:Hid (leavesTo E n K (i+1) (upd U (K+i) nul)):=fun j hj=>by
    unfold upd
    by_cases e:j=i
    ·subst e
     rw [if_pos rfl,nd_nul (.inl (by have:=HB.out;omega))]
    ·rw [if_neg (by omega)];exact hlv.out j (by omega)
   have ND:Hid (Below S w ((wr.setCell ⟨S,K*2+i*2,none⟩ (.int .i32 0)).setCell ⟨S,K*2+i*2+1,none⟩ (.int .i32 2147483647))):=(hbel.out.setCell (Nat.le_refl _) _).setCell (Nat.le_refl _) _
   clear c1 c2 f1 f2 d1 d2
   go_roundw
   case rel=>exact ⟨i+1,_,by omega,by omega,by go_num,NB.out,NL.out,ND.out⟩
   case measure=>simp [intOf];omega
  ·obtain rfl:i=K+1:=by omega
   have NF:=Lib.hid (nodesFrom.leaves HLH.out hlv.out)
   have L1:=Lib.hid (leaf0_p wr (some ⟨S,0,none⟩) M M (K+1) (by have:=HM.out;omega) (by omega))
   go_wp2_with (go_at_call 205;refine L1.out.mono ?_;rintro e w' ⟨rfl,rfl⟩)
   clear L1 hlv
   have HBL:=Lib.hid hblk.out
   have HBE:=Lib.hid hbel.out
   clear hblk hbel
   go_loopw [6] (fun x wq=>∃ (k:Nat) (U:Nat→Int × Int),k≤K∧x=.int .i64 (k:Int)∧Hid (Blk wq S 227 (ndArr U M))∧Hid (nodesFrom E n H k U)∧Hid (Below S w wq)) (fun x _=>(intOf x).toNat)
   case atStart=>exact ⟨K,U,by omega,rfl,HBL.out,NF.out,HBE.out⟩
   case round =>
    clear HBL NF HBE
    obtain ⟨k,U2,hk,rfl,hblk,hnf,hbel⟩:=hrel
    by_cases hk0:0 < k
    ·obtain ⟨p,rfl⟩:∃ p,k=p+1:=⟨k - 1,by omega⟩
     have hHM:=HM.out
     have hpl:=HLH.out
     have e1:((2*(p+1):Nat):Int)=2*((p:Int)+1):=by omega
     have e2:((2*(p+1)+1:Nat):Int)=2*((p:Int)+1)+1:=by omega
     have hSq:S < wr.heap.size:=hblk.out.lt
     have A1:=Lib.hid (nodeAt_p wr S M M (2*(p+1)) U2 (RdT.ofBlk hblk.out) (by omega) (by omega) (by omega) hSq)
     rw [e1] at A1
     have F1:=Lib.hid (hnf.out.fits HE.out hn (y:=2*(p+1)) (by omega) (by omega))
     have F2:=Lib.hid (hnf.out.fits HE.out hn (y:=2*(p+1)+1) (by omega) (by omega))
     have NX:=Lib.hid (hnf.out.next (by omega) (by omega))
     rw [show p+1 - 1=p by omega] at NX
     obtain ⟨u1,hu1⟩:∃ u,u=U2 (2*(p+1) - 1):=⟨_,rfl⟩
     obtain ⟨u2,hu2⟩:∃ u,u=U2 (2*(p+1)+1 - 1):=⟨_,rfl⟩
     rw [← hu1] at A1 F1 NX
     rw [← hu2] at F2 NX
     have HU2:=Lib.hid hu2
     have hpM:p < M:=by omega
     have ep:((p+1:Nat):Int) - 1=(p:Int):=by omega
     clear hu1 hu2 e1 hHM hpl
     go_wp2_with fail
     refine A1.out.mono ?_
     rintro e w5 ⟨rfl,b5⟩
     have hB5:=Lib.hid (hblk.out.below b5)
     have A2:=Lib.hid (nodeAt_p w5 S M M (2*(p+1)+1) U2 (RdT.ofBlk hB5.out) (by omega) (by have:=HM.out;have:=HLH.out;omega) (by omega) hB5.out.lt)
     rw [e2,← HU2.out] at A2
     have HE5:Hid (Below S w w5):=hbel.out.trans (b5.mono (by omega))
     clear b5 e2 A1
     go_wp2_with fail
     refine A2.out.mono ?_
     rintro e w6 ⟨rfl,b6⟩
     have hB6:=Lib.hid (hB5.out.below b6)
     have HE6:Hid (Below S w w6):=HE5.out.trans (b6.mono (by have:=hB5.out.lt;omega))
     have JN:=Lib.hid (join_p w6 u1 u2 (HN.out.below (by have:=HN.out.lt;omega) HE6.out) F1.out F2.out)
     clear b6 A2 hB5
     go_wp2_with fail
     refine JN.out.mono ?_
     rintro e w7 ⟨rfl,b7⟩
     have hB7:=Lib.hid (hB6.out.below b7)
     have HE7:Hid (Below S w w7):=HE6.out.trans (b7.mono (by have:=hB6.out.lt;omega))
     clear b7 JN hB6
     have f1:=hB7.out.frozen (p*2)
     have f2:=hB7.out.frozen (p*2+1)
     have d1:w7.cell? ⟨S,p*2,none⟩=some (.int .i32 (U2 p).1):=by rw [hB7.out.cell];exact (ndArr_get U2 M p hpM).1
     have d2:w7.cell? ⟨S,p*2+1,none⟩=some (.int .i32 (U2 p).2):=by rw [hB7.out.cell];exact (ndArr_get U2 M p hpM).2
     generalize hj:joinN u1 u2=u3 at *
     obtain ⟨s3,l3⟩:=u3
     unfold ndv
     have HJ:=Lib.hid hj
     clear hj
     go_wp2_with fail
     have NB:Hid (Blk ((w7.setCell ⟨S,p*2,none⟩ (.int .i32 s3)).setCell ⟨S,p*2+1,none⟩ (.int .i32 l3)) S 227 (ndArr (upd U2 p (s3,l3)) M)):=by
      have h1:=(hB7.out.set_ (p*2) (.int .i32 s3)).set_ (p*2+1) (.int .i32 l3)
      have h2:=ndArr_set U2 M p (s3,l3) hpM
      exact h2 ▸ h1
     have ND:Hid (Below S w ((w7.setCell ⟨S,p*2,none⟩ (.int .i32 s3)).setCell ⟨S,p*2+1,none⟩ (.int .i32 l3))):=(HE7.out.setCell (Nat.le_refl _) _).setCell (Nat.le_refl _) _
     clear f1 f2 d1 d2
     go_roundw
     case rel=>exact ⟨p,_,by omega,rfl,NB.out,NX.out,ND.out⟩
     case measure=>simp [intOf]
    ·obtain rfl:k=0:=by omega
     go_wp2_with fail
     go_ret
     exact ⟨S,H,M,U2,rfl,by have:=HM.out;have:=HLH.out;omega,HLV.out,by omega,hblk.out,fun x h a h1 h2 h3=>hnf.out x h a (by have:=(node_end h1 h2 h3).2.1;omega) h1 h2 h3,by rw [hS];exact hbel.out⟩
theorem blk_ty {w:World} {i:Nat} {T U:TypeId} {cs ds:Array Value} (h:Blk w i T cs) (k:Blk w i U ds):T=U:=by
 unfold Blk at h k
 rw [h] at k
 simp at k
 exact k.2
theorem IdxAt.off {w w':World} {S:Nat→Prop} {g V n q:Nat} {d:Bool} (h:IdxAt w g V n d q) (m:Mod S w w') (hS:∀ i,S i→∃ T cs,Blk w i T cs∧T≠171∧T≠139∧T≠157):IdxAt w' g V n d q:=by
 obtain ⟨h1,h2,A,c,H,h3,h4,h5⟩:=h
 refine ⟨h1,h2,A,c,H,h3.mod m fun hx=>?_,own_mod h4 m fun k hk hx=>?_,?_⟩
 ·obtain ⟨T,cs,hb,e1,_,_⟩:=hS g hx
  exact e1 (blk_ty hb h3)
 ·obtain ⟨T,cs,hb,_,e2,_⟩:=hS k hx
  exact own_ne h4 hb (Ne.symm e2) hk
 ·cases d with
  | false=>exact h5
  | true =>
    obtain ⟨S',c',e,ho⟩:=h5
    exact ⟨S',c',e,own_mod ho m fun k hk hx=>by
     obtain ⟨T,cs,hb,_,_,e3⟩:=hS k hx
     exact own_ne ho hb (Ne.symm e3) hk⟩
theorem own_blk {w:World} {base n:Nat} {e:TypeId} {v:Value} {xs:List Value} (h:w.ownsRow base e 1 v n xs) {k:Nat} (hk:v.ownBlock=some k):∃ cs,Blk w k e cs:=by
 rcases h.2 with ⟨rfl,_⟩ | ⟨g,cap,cur,rfl,_,hg,_⟩
 ·simp [Value.ownBlock] at hk
 ·have:k=g:=by simpa [Value.ownBlock] using hk.symm
  subst this
  exact ⟨cur,hg⟩
def exc (V i:Nat):Int:=2*((pop V i:Nat):Int) - (i:Int)
theorem exc_next (V i:Nat):exc V (i+1)=exc V i+(2*((V / 2 ^ i%2:Nat):Int) - 1):=by
 unfold exc
 have h:pop V (i+1)=pop V i+V / 2 ^ i%2:=by
  rw [pop_add]
  congr 1
  simp [pop,numL,List.range_succ]
 omega
theorem exc_Exc (V:Nat):Exc (exc V):=⟨by unfold exc;simp [pop,numL],fun i=>by have:=exc_next V i;omega⟩
def TDir (w:World) (p V n:Nat) (d:Bool) (H:Value):Prop :=
 match d with
 | false=>H=.slice none 0 0
 | true=>∃ S M K T,p < S∧H=.slice (some ⟨S,0,none⟩) M M∧Blk w S 227 (ndArr T M)∧TreeOK (exc V) n K (fun x=>T (x - 1))∧M+1=2*2 ^ K∧Lvs ((n+511) / 512) K
def PAt (w:World) (p g V n:Nat) (d:Bool) (q:Nat):Prop :=
 g < p∧(∃ r k,k≤q∧IdxAt w g V n r k)∧∃ H,Blk w p 192 #[.pointer (some ⟨g,0,none⟩),.int .u32 (b01 d),.int .i32 0,.int .u32 0,H,.int .i64 (b01 d)]∧TDir w p V n d H
theorem TDir.mod {w w':World} {S:Nat→Prop} {p V n:Nat} {d:Bool} {H:Value} (h:TDir w p V n d H) (m:Mod S w w') (hs:∀ i,S i→i≤p):TDir w' p V n d H:=by
 cases d with
 | false=>exact h
 | true =>
   obtain ⟨S',M,K,T,h1,h2,h3,h4⟩:=h
   exact ⟨S',M,K,T,h1,h2,h3.mod m fun hx=>by have:=hs S' hx;omega,h4⟩
theorem PAt.below {w w':World} {p g V n q:Nat} {d:Bool} (h:PAt w p g V n d q) (m:Below w.heap.size w w'):PAt w' p g V n d q:=by
 obtain ⟨h1,⟨r,k,hk,hx⟩,H,hb,ht⟩:=h
 exact ⟨h1,⟨r,k,hk,hx.below m⟩,H,hb.below m,ht.mod (Mod.none_ m (fun _=>False)) fun _ h=>h.elim⟩
theorem PAt.ask {w w':World} {p g V n q k:Nat} {d r:Bool} (h:PAt w p g V n d q) (hx:IdxAt w' g V n r (k+1)) (hk:k≤q) (m:Mod (fun i=>i=g) w w'):PAt w' p g V n d (q+1):=by
 obtain ⟨h1,_,H,hb,ht⟩:=h
 exact ⟨h1,⟨r,k+1,by omega,hx⟩,H,hb.mod m (by omega),ht.mod m fun i hi=>by omega⟩
theorem PAt.le {w:World} {p g V n q q':Nat} {d:Bool} (h:PAt w p g V n d q) (hq:q≤q'):PAt w p g V n d q':=by
 obtain ⟨h1,⟨r,k,hk,hx⟩,h2⟩:=h
 exact ⟨h1,⟨r,k,by omega,hx⟩,h2⟩
theorem PAt.idx {w:World} {p g V n q:Nat} {d:Bool} (h:PAt w p g V n d q):w.cell? ⟨p,0,none⟩=some (.pointer (some ⟨g,0,none⟩)):=by
 obtain ⟨_,_,H,hb,_⟩:=h
 exact hb.cell 0
theorem PAt.lt {w:World} {p g V n q:Nat} {d:Bool} (h:PAt w p g V n d q):p < w.heap.size:=by
 obtain ⟨_,_,H,hb,_⟩:=h
 exact hb.lt
theorem PAt.n9 {w:World} {p g V n q:Nat} {d:Bool} (h:PAt w p g V n d q):n≤1000000:=by
 obtain ⟨_,⟨r,k,hk,hx⟩,_⟩:=h
 exact hx.2.1
def PIx (w:World) (p g V n q:Nat):Prop:=g < p∧(∃ r k,k≤q∧IdxAt w g V n r k)∧w.cell? ⟨p,0,none⟩=some (.pointer (some ⟨g,0,none⟩))
theorem PAt.ix {w:World} {p g V n q:Nat} {d:Bool} (h:PAt w p g V n d q):PIx w p g V n q:=⟨h.1,h.2.1,h.idx⟩
theorem PIx.idx {w:World} {p g V n q:Nat} (h:PIx w p g V n q):w.cell? ⟨p,0,none⟩=some (.pointer (some ⟨g,0,none⟩)):=h.2.2
theorem PIx.n9 {w:World} {p g V n q:Nat} (h:PIx w p g V n q):n≤1000000:=by
 obtain ⟨_,⟨r,k,hk,hx⟩,_⟩:=h
 exact hx.2.1
theorem PIx.below {w w':World} {p g V n q:Nat} (h:PIx w p g V n q) (m:Below w.heap.size w w'):PIx w' p g V n q:=by
 obtain ⟨h1,⟨r,k,hk,hx⟩,h3⟩:=h
 exact ⟨h1,⟨r,k,hk,hx.below m⟩,(m.cell (p:=⟨p,0,none⟩) (World.block_lt_of_cell? _ _ h3)).trans h3⟩
section
variable (p g V n q:Nat) (d:Bool) (w:World)
theorem plen_p (h:PIx w p g V n q):Calls Tryz.prog 145 #[.pointer (some ⟨p,0,none⟩)] w fun e w'=>e=.returned (.int .i64 (n:Int))∧w=w':=by
 have c0:=h.idx
 obtain ⟨_,⟨r,k,hk,hx⟩,_⟩:=h
 have XL:=Lib.hid (xlen_p g V n k r w hx)
 clear hx
 go_enter Tryz.func145,Tryz.ntmps145
 go_wp2_with fail
 refine XL.out.mono ?_
 rintro e w' ⟨rfl,rfl⟩
 go_wp2
 go_ret
 exact ⟨rfl,rfl⟩
theorem popen_in (i:Nat) (h:PIx w p g V n q) (hi:i < n):Calls Tryz.prog 126 #[.pointer (some ⟨p,0,none⟩),.int .i64 (i:Int)] w fun e w'=>e=.returned (.bool (decide (V / 2 ^ i%2=1)))∧w=w':=by
 have c0:=h.idx
 obtain ⟨_,⟨r,k,hk,hx⟩,_⟩:=h
 have XA:=Lib.hid (xat_in g V n k i r w hx hi)
 have hb:V / 2 ^ i%2=0∨V / 2 ^ i%2=1:=by omega
 clear hx
 rcases hb with hb | hb
 ·rw [hb] at XA ⊢
  go_enter Tryz.func126,Tryz.ntmps126
  go_wp2_with fail
  refine XA.out.mono ?_
  rintro e w' ⟨rfl,rfl⟩
  go_wp2
  go_ret
  exact ⟨rfl,rfl⟩
 ·rw [hb] at XA ⊢
  go_enter Tryz.func126,Tryz.ntmps126
  go_wp2_with fail
  refine XA.out.mono ?_
  rintro e w' ⟨rfl,rfl⟩
  go_wp2
  go_ret
  exact ⟨rfl,rfl⟩
theorem change_f (i:Nat) (h:PIx w p g V n q) (hi:i < n):Calls Tryz.prog 146 #[.pointer (some ⟨p,0,none⟩),.int .i64 (i:Int),.int .i64 1] w fun e w'=>e=.returned (.int .i64 (exc V (i+1) - exc V i))∧w=w':=by
 have OP:=Lib.hid (popen_in p g V n q w i h hi)
 have BO:=Lib.hid (bitOn_f w (i:Int))
 have hx:=exc_next V i
 have hb:V / 2 ^ i%2=0∨V / 2 ^ i%2=1:=by omega
 clear h
 rcases hb with hb | hb
 ·rw [hb] at OP hx
  rw [show exc V (i+1) - exc V i=-1 by omega]
  clear hx
  go_enter Tryz.func146,Tryz.ntmps146
  go_wp2_with (first
   | (go_at_call 159;refine BO.out.mono ?_;rintro e w' ⟨rfl,rfl⟩)
   | (go_at_call 126;refine OP.out.mono ?_;rintro e w' ⟨rfl,rfl⟩))
  go_ret
  exact ⟨rfl,rfl⟩
 ·rw [hb] at OP hx
  rw [show exc V (i+1) - exc V i=1 by omega]
  clear hx
  go_enter Tryz.func146,Tryz.ntmps146
  go_wp2_with (first
   | (go_at_call 159;refine BO.out.mono ?_;rintro e w' ⟨rfl,rfl⟩)
   | (go_at_call 126;refine OP.out.mono ?_;rintro e w' ⟨rfl,rfl⟩))
  go_ret
  exact ⟨rfl,rfl⟩
theorem change_b (i:Nat) (h:PIx w p g V n q) (hi:i < n):Calls Tryz.prog 146 #[.pointer (some ⟨p,0,none⟩),.int .i64 ((i:Int)+1),.int .i64 (-1)] w fun e w'=>e=.returned (.int .i64 (exc V i - exc V (i+1)))∧w=w':=by
 have OP:=Lib.hid (popen_in p g V n q w i h hi)
 have hn:=h.n9
 have BO:=Lib.hid (bitOn_b w ((i:Int)+1) (by omega) (by omega))
 rw [show (i:Int)+1 - 1=(i:Int) by omega] at BO
 have hx:=exc_next V i
 have hb:V / 2 ^ i%2=0∨V / 2 ^ i%2=1:=by omega
 clear h
 rcases hb with hb | hb
 ·rw [hb] at OP hx
  rw [show exc V i - exc V (i+1)=1 by omega]
  clear hx
  go_enter Tryz.func146,Tryz.ntmps146
  go_wp2_with (first
   | (go_at_call 159;refine BO.out.mono ?_;rintro e w' ⟨rfl,rfl⟩)
   | (go_at_call 126;refine OP.out.mono ?_;rintro e w' ⟨rfl,rfl⟩))
  go_ret
  exact ⟨rfl,rfl⟩
 ·rw [hb] at OP hx
  rw [show exc V i - exc V (i+1)=-1 by omega]
  clear hx
  go_enter Tryz.func146,Tryz.ntmps146
  go_wp2_with (first
   | (go_at_call 159;refine BO.out.mono ?_;rintro e w' ⟨rfl,rfl⟩)
   | (go_at_call 126;refine OP.out.mono ?_;rintro e w' ⟨rfl,rfl⟩))
  go_ret
  exact ⟨rfl,rfl⟩
theorem pexc_yes (i:Nat) (h:PAt w p g V n d q) (hi:i≤n) (hq:q≤1000000):Calls Tryz.prog 185 #[.pointer (some ⟨p,0,none⟩),.int .i64 (i:Int)] w fun e w'=>e=.returned (.tuple #[.int .i64 (exc V i),.int .i64 0])∧PAt w' p g V n d (q+1)∧Mod (fun i=>i=g) w w':=by
 have c0:=h.idx
 have hn:=h.n9
 have HP:=Lib.hid h
 obtain ⟨_,⟨r,k,hk,hx⟩,_⟩:=h
 have RK:=Lib.hid (rank_yes g V n k i r 1 w hx (by omega) (.inr rfl) hi)
 have hcb:cb 1 V i=pop V i:=by unfold cb;rw [if_neg (by decide)]
 rw [hcb] at RK
 have hle:=pop_le V i
 have HX:Hid (((pop V i:Nat):Int) - ((i:Int) - ((pop V i:Nat):Int))=exc V i):=by show _=_;unfold exc;omega
 clear hx hcb
 generalize pop V i=u at *
 go_enter Tryz.func185,Tryz.ntmps185
 go_wp2_with fail
 refine RK.out.mono ?_
 rintro e w2 ⟨rfl,h2,m2⟩
 have H2:=Lib.hid (HP.out.ask h2 hk m2)
 have M2:=Lib.hid m2
 clear h2 m2 RK
 go_wp2
 go_ret2
 exact ⟨by rw [← HX.out];rfl,H2.out,M2.out⟩
theorem excess_p (i:Nat) (h:PAt w p g V n d q) (hi:i≤n) (hq:q≤1000000):Calls Tryz.prog 174 #[.pointer (some ⟨p,0,none⟩),.int .i64 (i:Int)] w fun e w'=>e=.returned (.int .i64 (exc V i))∧PAt w' p g V n d (q+1)∧Mod (fun i=>i=g) w w':=by
 have PX:=Lib.hid (pexc_yes p g V n q d w i h hi hq)
 clear h
 go_enter Tryz.func174,Tryz.ntmps174
 go_wp2_with fail
 refine PX.out.mono ?_
 rintro e w2 ⟨rfl,h2,m2⟩
 have H2:=Lib.hid h2
 have M2:=Lib.hid m2
 clear h2 m2 PX
 go_wp2
 go_ret
 exact ⟨rfl,H2.out,M2.out⟩
end
end Go.Proofs.YtajjgpkahljjmaaGreatDoor
namespace Go.Proofs.YtajjgpkahljjmaaGreatDoor
set_option maxRecDepth 20000
theorem min_two (a b:Nat) (ha:a≤2000000) (hb:b≤2000000):∀ w,(Builtin.min_ #[3,3] 3 #[.int .i64 (a:Int),.int .i64 (b:Int)]).run Tryz.prog w=.ok (.int .i64 ((min a b:Nat):Int)) w:=fun w=>by
 simp [Builtin.min_,Builtin.min2]
 repeat' split
 all_goals omega
theorem mn_bound {E:Nat→Int} (hE:Exc E) {n:Nat} (hn:n≤1000000) (a k:Nat) (h:a+k≤n):-1000000≤mn E a k∧mn E a k≤1000000:=by
 obtain ⟨i,h1,h2,h3⟩:=mn_at E a k
 have:=hE.bound i
 omega
set_option maxHeartbeats 4000000 in
theorem measure_p (p g V n q b:Nat) (w:World) (h:PIx w p g V n q) (hb:512*b < n) :
  Calls Tryz.prog 196 #[.pointer (some ⟨p,0,none⟩),.int .i64 (b:Int)] w fun e w'=>e=.returned (ndv (nd (exc V) n b (b+1)))∧Below w.heap.size w w':=by
 have hn:=h.n9
 have hE:=exc_Exc V
 obtain ⟨L,hL⟩:∃ L,min (512*(b+1)) n=L:=⟨_,rfl⟩
 have hL1:512*b < L:=by omega
 have hL2:L≤n:=by omega
 have PL:=Lib.hid fun w' (b':Below w.heap.size w w')=>plen_p p g V n q w' (h.below b')
 have PC:=Lib.hid fun w' (b':Below w.heap.size w w') i (hi:i < n)=>change_f p g V n q w' i (h.below b') hi
 have HE:=Lib.hid hE
 have HN:Hid (nd (exc V) n b (b+1)=(exc V L - exc V (512*b),mn (exc V) (512*b) (L - 512*b) - exc V (512*b))):=by show _=_;rw [nd_real hb (by omega),hL]
 have MT:=min_two (512*(b+1)) n (by omega) (by omega)
 rw [hL] at MT
 rw [show ((512*(b+1):Nat):Int)=((b:Int)+1)*512 by omega] at MT
 have hx0:=hE.bound (512*b)
 have HINF:=Lib.hid info_node
 have e0:(b:Int)*512=((512*b:Nat):Int):=by omega
 obtain ⟨o,ho⟩:∃ o,512*b=o:=⟨_,rfl⟩
 rw [ho] at HN hL1 hx0 e0
 generalize hx:exc V o=x at *
 have HX:=Lib.hid hx
 have ho9:o≤n:=by omega
 clear h hE hL ho hx hb
 go_enter Tryz.func196,Tryz.ntmps196
 go_wp2_with fail
 have hb5:=Blk.new (w.alloc (.cells #[.int .i32 0,.int .i32 0] 227)) 227 #[.int .i32 0,.int .i32 0]
 rw [World.size_alloc] at hb5
 have HB5:=Lib.hid hb5
 have HB4:Hid (Blk ((w.alloc (.cells #[.int .i32 0,.int .i32 0] 227)).alloc (.cells #[.int .i32 0,.int .i32 0] 227)) w.heap.size 227 #[.int .i32 0,.int .i32 0]):=(Blk.new w _ _).alloc _
 clear hb5
 go_loopw [6] (fun v wr=>∃ (i:Nat) (s l:Int),o≤i∧i≤L∧v=.int .i64 (i:Int)∧-2000000≤s∧s≤2000000∧-2000000≤l∧l≤0∧Hid (s=exc V i - x)∧Hid (l=mn (exc V) o (i - o) - x)∧Hid (Blk wr (w.heap.size+1) 227 #[.int .i32 s,.int .i32 l])∧Hid (Blk wr w.heap.size 227 #[.int .i32 0,.int .i32 0])∧Hid (Below w.heap.size w wr)) (fun v _=>L - (intOf v).toNat)
 case atStart=>exact ⟨o,0,0,by omega,by omega,by first | rfl | exact congrArg (Value.int .i64) e0,by omega,by omega,by omega,by omega,by show _=_;rw [HX.out];omega,by show _=_;rw [Nat.sub_self];show _=exc V o - x;rw [HX.out];omega,HB5.out,HB4.out,((Below.refl _ _).alloc (Nat.le_refl _) _).alloc (by simp) _⟩
 case round =>
  clear HB5 HB4
  obtain ⟨i,s,l,hoi,hiL,rfl,hs1,hs2,hl1,hl2,hs,hl,hblk,hres,hbel⟩:=hrel
  by_cases hlt:i < L
  ·have c0:wr.cell? ⟨w.heap.size+1,0,none⟩=some (.int .i32 s):=hblk.out.cell 0
   have c1:wr.cell? ⟨w.heap.size+1,1,none⟩=some (.int .i32 l):=hblk.out.cell 1
   have f0:=hblk.out.frozen 0
   have f1:=hblk.out.frozen 1
   have hz:w.heap.size+1 < wr.heap.size:=hblk.out.lt
   obtain ⟨y,hy⟩:∃ y,exc V (i+1) - exc V i=y:=⟨_,rfl⟩
   have hy1:-1≤y∧y≤1:=by have:=HE.out.step i;omega
   have C1:=Lib.hid fun w' b'=>PC.out w' b' i (by omega)
   rw [hy] at C1
   have NS:Hid (s+y=exc V (i+1) - x):=by show _=_;have:=hs.out;omega
   have NM:Hid ((if s+y < l then s+y else l)=mn (exc V) o (i+1 - o) - x):=by
    show _=_
    rw [show i+1 - o=(i - o)+1 by omega]
    show _=min (mn (exc V) o (i - o)) (exc V (o+(i - o)+1)) - x
    rw [show o+(i - o)+1=i+1 by omega]
    have:=hl.out
    have:=NS.out
    split <;> omega
   have hb9:=HE.out.bound (i+1)
   have hm9:=mn_bound HE.out hn o (i+1 - o) (by omega)
   have hns:-2000000≤s+y∧s+y≤2000000:=by have:=NS.out;omega
   have hnm:-2000000≤(if s+y < l then s+y else l)∧(if s+y < l then s+y else l)≤0:=by split <;> omega
   have HNM:=Lib.hid hnm
   clear hnm
   clear hy hs hl hb9 hm9
   go_wp2_with (first
    | (go_at_call 145;refine (PL.out _ hbel.out).mono ?_;rintro e w' ⟨rfl,rfl⟩))
   go_region_with (first
    | (go_at_call 146;refine (C1.out _ (below_draws hbel.out 1)).mono ?_;rintro e w9 ⟨rfl,rfl⟩))
   all_goals (
    go_wp2_with fail
    generalize hu:(if s+y < l then s+y else l)=u at *
    have nb:Blk (((wr.drewN 1).setCell ⟨w.heap.size+1,0,none⟩ (.int .i32 (s+y))).setCell ⟨w.heap.size+1,1,none⟩ (.int .i32 u)) (w.heap.size+1) 227 #[.int .i32 (s+y),.int .i32 u]:=by
     have:=((hblk.out.drewN 1).set_ 0 (.int .i32 (s+y))).set_ 1 (.int .i32 u)
     simpa using this
    have nr:Blk (((wr.drewN 1).setCell ⟨w.heap.size+1,0,none⟩ (.int .i32 (s+y))).setCell ⟨w.heap.size+1,1,none⟩ (.int .i32 u)) w.heap.size 227 #[.int .i32 0,.int .i32 0] :=
     (hres.out.drewN 1).mod (S:=fun i=>i=w.heap.size+1) (Mod.setCell (p:=⟨w.heap.size+1,1,none⟩) (Mod.setCell (p:=⟨w.heap.size+1,0,none⟩) (Mod.refl (fun i=>i=w.heap.size+1) (wr.drewN 1)) (fun _=>rfl) _) (fun _=>rfl) _) (by omega)
    have nd':Below w.heap.size w (((wr.drewN 1).setCell ⟨w.heap.size+1,0,none⟩ (.int .i32 (s+y))).setCell ⟨w.heap.size+1,1,none⟩ (.int .i32 u)):=((below_draws hbel.out 1).setCell (by simp) _).setCell (by simp) _
    go_roundw
    case rel=>exact ⟨i+1,s+y,u,by omega,by omega,by go_num,by omega,by omega,HNM.out.1,HNM.out.2,NS.out,NM.out,nb,nr,nd'⟩
    case measure=>simp [intOf];omega)
  ·obtain rfl:i=L:=by omega
   have c0:wr.cell? ⟨w.heap.size+1,0,none⟩=some (.int .i32 s):=hblk.out.cell 0
   have c1:wr.cell? ⟨w.heap.size+1,1,none⟩=some (.int .i32 l):=hblk.out.cell 1
   have r0:wr.cell? ⟨w.heap.size,0,none⟩=some (.int .i32 0):=hres.out.cell 0
   have r1:wr.cell? ⟨w.heap.size,1,none⟩=some (.int .i32 0):=hres.out.cell 1
   have f0:=hres.out.frozen 0
   have f1:=hres.out.frozen 1
   have hz:w.heap.size+1 < wr.heap.size:=hblk.out.lt
   go_wp2_with (first
    | (go_at_call 145;refine (PL.out _ hbel.out).mono ?_;rintro e w' ⟨rfl,rfl⟩))
   have nb:Blk ((wr.setCell ⟨w.heap.size,0,none⟩ (.int .i32 s)).setCell ⟨w.heap.size,1,none⟩ (.int .i32 l)) w.heap.size 227 #[.int .i32 s,.int .i32 l]:=by
    have:=(hres.out.set_ 0 (.int .i32 s)).set_ 1 (.int .i32 l)
    simpa using this
   refine bodyPost_ret (results_cell_row rfl _ _ w.heap.size 227 _ (0,0) _ rfl nb Tryz.underlying227 rfl HINF.out) rfl ?_
   refine ⟨?_,(hbel.out.setCell (Nat.le_refl _) _).setCell (Nat.le_refl _) _⟩
   rw [HN.out]
   show Ending.returned (Value.agg #[.int .i32 s,.int .i32 l])=Ending.returned (Value.agg #[.int .i32 _,.int .i32 _])
   rw [hs.out,hl.out]
set_option maxHeartbeats 4000000 in
theorem pbuild1_p (p g V n pb q:Nat) (x1 x2 x3:Value) (w:World) (hN:Nul w) (hx:PIx w p g V n q)
  (hb:Blk w p 192 #[.pointer (some ⟨g,0,none⟩),x1,x2,x3,.slice none 0 0,.int .i64 0]) (hp:Blk w pb 134 #[.pointer (some ⟨p,0,none⟩)]) :
  Calls Tryz.prog 194 #[.pointer (some ⟨pb,0,none⟩)] w fun e w'=>e=.returned (.tuple #[])∧∃ H,
   Blk w' p 192 #[.pointer (some ⟨g,0,none⟩),x1,x2,x3,H,.int .i64 1]∧TDir w' p V n true H∧Mod (fun i=>i=p) w w':=by
 have hn:=hx.n9
 obtain ⟨B,hB⟩:∃ B,B=(n+511) / 512:=⟨_,rfl⟩
 have hB9:B≤2000:=by omega
 have hgp:pb≠p:=fun e=>by
  subst e
  unfold Blk at hb hp
  rw [hb] at hp
  simp at hp
 have hpl:=hb.lt
 have hbl:=hp.lt
 have p0:w.cell? ⟨pb,0,none⟩=some (.pointer (some ⟨p,0,none⟩)):=hp.cell 0
 have PL:=Lib.hid (plen_p p g V n q w hx)
 have BF:=Lib.hid (blocksFor_p w n (by omega))
 rw [← hB] at BF
 have MS:=Lib.hid fun w' (b':Below w.heap.size w w') b hb=>measure_p p g V n q b w' (hx.below b') hb
 have MK:=run_make_nodes 189 (by kernel_rfl) B (by omega) w
 have hbn:=Blk.new w 227 (ndArr (fun _=>(0,0)) B)
 have HT:=Lib.hid hbn
 have HB:=Lib.hid hb
 have HPB:=Lib.hid hp
 have HBB:=Lib.hid hB
 have HN:=Lib.hid hN
 have HE:=Lib.hid (exc_Exc V)
 clear hN hx hb hp hbn hB
 go_enter Tryz.func194,Tryz.ntmps194
 go_wp2_with (first
  | (go_at_call 145;refine PL.out.mono ?_;rintro e w' ⟨rfl,rfl⟩)
  | (go_at_call 195;refine BF.out.mono ?_;rintro e w' ⟨rfl,rfl⟩))
 obtain ⟨S,hS⟩:∃ S,w.heap.size=S:=⟨_,rfl⟩
 rw [hS] at HT MS ⊢
 go_loopw [9] (fun v wr=>∃ (k:Nat) (U:Nat→Int × Int),k≤B∧v=.int .i64 (k:Int)∧Hid (Blk wr S 227 (ndArr U B))∧Hid (∀ j,j < k→U j=nd (exc V) n j (j+1))∧Hid (Below S w wr)) (fun v _=>B - (intOf v).toNat)
 case atStart=>exact ⟨0,_,by omega,rfl,HT.out,fun j hj=>by omega,(Below.refl _ _).alloc (by omega) _⟩
 case round =>
  clear HT MK
  obtain ⟨k,U,hk,rfl,hblk,hU,hbel⟩:=hrel
  have pw:wr.cell? ⟨pb,0,none⟩=some (.pointer (some ⟨p,0,none⟩)):=(hbel.out.cell (p:=⟨pb,0,none⟩) (by show pb < S;omega)).trans p0
  by_cases hlt:k < B
  ·have M1:=Lib.hid (MS.out wr hbel.out k (by have:=HBB.out;omega))
   clear p0
   go_wp2_with fail
   refine M1.out.mono ?_
   rintro e w2 ⟨rfl,b2⟩
   have hb2:=Lib.hid (hblk.out.below b2)
   have hbe2:Hid (Below S w w2):=hbel.out.trans (b2.mono (by have:=hblk.out.lt;omega))
   have f1:=hb2.out.frozen (k*2)
   have f2:=hb2.out.frozen (k*2+1)
   have d1:w2.cell? ⟨S,k*2,none⟩=some (.int .i32 (U k).1):=by rw [hb2.out.cell];exact (ndArr_get U B k hlt).1
   have d2:w2.cell? ⟨S,k*2+1,none⟩=some (.int .i32 (U k).2):=by rw [hb2.out.cell];exact (ndArr_get U B k hlt).2
   obtain ⟨u,hu⟩:∃ u,nd (exc V) n k (k+1)=u:=⟨_,rfl⟩
   rw [hu]
   have HU:=Lib.hid hu
   clear b2 M1 hu
   obtain ⟨s,l⟩:=u
   unfold ndv
   go_wp2_with fail
   have NB:Hid (Blk ((w2.setCell ⟨S,k*2,none⟩ (.int .i32 s)).setCell ⟨S,k*2+1,none⟩ (.int .i32 l)) S 227 (ndArr (upd U k (s,l)) B)):=by
    have h1:=(hb2.out.set_ (k*2) (.int .i32 s)).set_ (k*2+1) (.int .i32 l)
    have h2:=ndArr_set U B k (s,l) hlt
    exact h2 ▸ h1
   have NU:Hid (∀ j,j < k+1→upd U k (s,l) j=nd (exc V) n j (j+1)):=fun j hj=>by
    unfold upd
    by_cases e:j=k
    ·rw [if_pos e,e,HU.out]
    ·rw [if_neg e];exact hU.out j (by omega)
   have ND:Hid (Below S w ((w2.setCell ⟨S,k*2,none⟩ (.int .i32 s)).setCell ⟨S,k*2+1,none⟩ (.int .i32 l))):=(hbe2.out.setCell (Nat.le_refl _) _).setCell (Nat.le_refl _) _
   clear f1 f2 d1 d2
   go_roundw
   case rel=>exact ⟨k+1,_,by omega,by go_num,NB.out,NU.out,ND.out⟩
   case measure=>simp [intOf];omega
  ·obtain rfl:k=B:=by omega
   have TO:=Lib.hid fun w' (b':Below wr.heap.size wr w')=>treeOf_p (exc V) HE.out S k k n w' (HN.out.below (by have:=HN.out.lt;show 1 < S;omega) (hbel.out.trans (b'.mono (by have:=hblk.out.lt;omega)))) hn HBB.out
    (by have:=hblk.out.below b';rw [ndArr_congr hU.out] at this;exact this)
   have HBW:Hid (Blk wr p 192 #[.pointer (some ⟨g,0,none⟩),x1,x2,x3,.slice none 0 0,.int .i64 0]):=HB.out.mod (Mod.ofBelow hbel.out) (by omega)
   have hpw:pb < wr.heap.size:=by have:=hblk.out.lt;omega
   have hppw:p < wr.heap.size:=by have:=hblk.out.lt;omega
   have hSw:S < wr.heap.size:=hblk.out.lt
   clear p0
   go_wp2_with fail
   go_region_with (first
    | (go_at_call 197
       refine (TO.out _ (Below.refl _ _).drew).mono ?_
       rintro e w3 ⟨t,K,M,T,rfl,hM,hlv,htl,hbt,hok,bt⟩
       have p3:w3.cell? ⟨pb,0,none⟩=some (.pointer (some ⟨p,0,none⟩)):=(bt.cell (p:=⟨pb,0,none⟩) hpw).trans pw
       have hb3:Blk w3 p 192 #[.pointer (some ⟨g,0,none⟩),x1,x2,x3,.slice none 0 0,.int .i64 0]:=(HBW.out.drewN 1).below bt
       have q4:w3.cell? ⟨p,4,none⟩=some (.slice none 0 0):=hb3.cell 4
       have f4:=hb3.frozen 4
       have HB3:=Lib.hid hb3
       have HTR:Hid (M+1=2*2 ^ K∧Lvs k K∧wr.heap.size≤t∧Blk w3 t 227 (ndArr T M)∧TreeOK (exc V) n K (fun x=>T (x - 1))∧Below wr.heap.size wr w3):=⟨hM,hlv,htl,hbt,hok,(Below.refl _ _).drew.trans bt⟩
       clear hM hlv htl hbt hok bt hb3))
   all_goals (
    have HB4:Hid (Blk (w3.setCell ⟨p,4,none⟩ (.slice (some ⟨t,0,none⟩) M M)) p 192 #[.pointer (some ⟨g,0,none⟩),x1,x2,x3,.slice (some ⟨t,0,none⟩) M M,.int .i64 0]):=by
     have:=HB3.out.set_ 4 (.slice (some ⟨t,0,none⟩) M M)
     show Blk _ _ _ _
     simpa using this
    have d5:(w3.setCell ⟨p,4,none⟩ (.slice (some ⟨t,0,none⟩) M M)).cell? ⟨p,5,none⟩=some (.int .i64 0):=HB4.out.cell 5
    have g5:=HB4.out.frozen 5
    have AD:=Lib.hid (add64 ⟨p,5,none⟩ 0 _ d5 g5 (by omega) (by omega))
    go_wp2_with fail
    refine AD.out.mono ?_
    rintro e w9 ⟨rfl,rfl⟩
    go_wp2_with fail
    have m4:Mod (fun i=>i=p) w3 ((w3.setCell ⟨p,4,none⟩ (.slice (some ⟨t,0,none⟩) M M)).setCell ⟨p,5,none⟩ (.int .i64 (0+1))):=Mod.setCell (p:=⟨p,5,none⟩) (Mod.setCell (p:=⟨p,4,none⟩) (Mod.refl (fun i=>i=p) w3) (fun _=>rfl) _) (fun _=>rfl) _
    obtain ⟨hM,hlv,htl,hbt,hok,bt⟩:=HTR.out
    have m3:Mod (fun i=>i=p) w w3:=(Mod.ofBelow (hbel.out.trans (bt.mono (by omega)))).mono fun i hi h=>by omega
    refine bodyPost_end (results_none rfl _ _ _) rfl ⟨rfl,.slice (some ⟨t,0,none⟩) M M,?_,⟨t,M,K,T,by omega,rfl,hbt.mod m4 (by omega),hok,hM,by rw [← HBB.out];exact hlv⟩,m3.trans m4 fun _ _ h=>h⟩
    have:=HB4.out.set_ 5 (.int .i64 (0+1))
    simpa using this)
set_option maxRecDepth 100000
theorem idx_off {w w':World} {p g V n k:Nat} {r:Bool} {cs:Array Value} (h:IdxAt w g V n r k) (hb:Blk w p 192 cs) (m:Mod (fun i=>i=p) w w'):IdxAt w' g V n r k :=
 h.off m fun i hi=>by subst hi;exact ⟨_,_,hb,by decide,by decide,by decide⟩
set_option maxHeartbeats 1600000 in
theorem pslow_p (p g V n pb q:Nat) (w:World) (hN:Nul w) (h:PAt w p g V n false q) (hp:Blk w pb 134 #[.pointer (some ⟨p,0,none⟩)]) (hpn:p≠1) :
  Calls Tryz.prog 183 #[.pointer (some ⟨p,1,none⟩),.func (.func 194) #[] #[.pointer (some ⟨pb,0,none⟩)]] w fun e w'=>e=.returned (.tuple #[])∧PAt w' p g V n true q∧Mod (fun i=>i=p) w w':=by
 have hix:=h.ix
 obtain ⟨hgp',⟨r,k,hk,hx⟩,H,hb,hd⟩:=h
 have hH:H=.slice none 0 0:=hd
 subst hH
 have hgp:pb≠p:=fun e=>by
  subst e
  unfold Blk at hb hp
  rw [hb] at hp
  simp at hp
 have c3:w.cell? ⟨p,1,none⟩=some (.int .u32 0):=hb.cell 1
 have c4:w.cell? ⟨p,2,none⟩=some (.int .i32 0):=hb.cell 2
 have f4:=hb.frozen 2
 have LK:=Lib.hid (lock_free ⟨p,2,none⟩ w c4 f4)
 have hb1:Blk (w.setCell ⟨p,2,none⟩ (.int .i32 1)) p 192 #[.pointer (some ⟨g,0,none⟩),.int .u32 0,.int .i32 1,.int .u32 0,.slice none 0 0,.int .i64 0]:=by
  have:=hb.set_ 2 (.int .i32 1)
  simpa [b01] using this
 have m1:Mod (fun i=>i=p) w (w.setCell ⟨p,2,none⟩ (.int .i32 1)):=Mod.setCell (p:=⟨p,2,none⟩) (Mod.refl (fun i=>i=p) w) (fun _=>rfl) _
 have hx1:PIx (w.setCell ⟨p,2,none⟩ (.int .i32 1)) p g V n q:=⟨hgp',⟨r,k,hk,idx_off hx hb m1⟩,hb1.cell 0⟩
 have hN1:Nul (w.setCell ⟨p,2,none⟩ (.int .i32 1)):=hN.mod m1 (Ne.symm hpn)
 have BD:=Lib.hid (pbuild1_p p g V n pb q (.int .u32 0) (.int .i32 1) (.int .u32 0) _ hN1 hx1 hb1 (hp.mod m1 hgp))
 have d3:(w.setCell ⟨p,2,none⟩ (.int .i32 1)).cell? ⟨p,1,none⟩=some (.int .u32 0):=hb1.cell 1
 have hl:=run_call_load (P:=Tryz.prog) Tryz.func190 (by kernel_rfl) (by kernel_rfl) (by kernel_rfl) .u32 (by kernel_rfl) d3
 have hnot:∀ (x:Bool) (w:World),(Op.unary .not (.bool x)).run Tryz.prog w=.ok (.bool (!x)) w:=fun _ _=>rfl
 have HX:=Lib.hid hx
 have HB:=Lib.hid hb
 have HM1:=Lib.hid m1
 clear hb hp hb1 m1 hx1 hix hN1 hN hd hx c4 f4
 generalize w.setCell ⟨p,2,none⟩ (.int .i32 1)=w1 at *
 go_enter_defers Tryz.func183,Tryz.ntmps183
 go_wp2_with fail
 refine LK.out.mono ?_
 rintro e w' ⟨rfl,rfl⟩
 go_wp2_with (first | (go_at_call 182;go_in))
 refine BD.out.mono ?_
 rintro e w2 ⟨rfl,H2,hb2,ht2,m2⟩
 have FIN:Hid (PAt ((w2.drew.setCell ⟨p,1,none⟩ (.int .u32 1)).setCell ⟨p,2,none⟩ (.int .i32 0)) p g V n true q∧Mod (fun i=>i=p) w ((w2.drew.setCell ⟨p,1,none⟩ (.int .u32 1)).setCell ⟨p,2,none⟩ (.int .i32 0))):=by
  have m3:Mod (fun i=>i=p) w2 ((w2.drew.setCell ⟨p,1,none⟩ (.int .u32 1)).setCell ⟨p,2,none⟩ (.int .i32 0)):=Mod.setCell (p:=⟨p,2,none⟩) (Mod.setCell (p:=⟨p,1,none⟩) (Mod.drew (Mod.refl (fun i=>i=p) w2)) (fun _=>rfl) _) (fun _=>rfl) _
  have hm:Mod (fun i=>i=p) w ((w2.drew.setCell ⟨p,1,none⟩ (.int .u32 1)).setCell ⟨p,2,none⟩ (.int .i32 0)):=(HM1.out.trans m2 fun _ _ h=>h).trans m3 fun _ _ h=>h
  refine ⟨⟨hgp',⟨r,k,hk,idx_off HX.out HB.out hm⟩,H2,?_,ht2.mod m3 fun i hi=>by omega⟩,hm⟩
  have:=((hb2.below (Below.refl _ _).drew).set_ 1 (.int .u32 1)).set_ 2 (.int .i32 0)
  simpa [b01] using this
 have e3:w2.cell? ⟨p,1,none⟩=some (.int .u32 0):=hb2.cell 1
 have e4:w2.cell? ⟨p,2,none⟩=some (.int .i32 1):=hb2.cell 2
 have g3:=hb2.frozen 1
 have g4:=hb2.frozen 2
 have HB2:=Lib.hid hb2
 clear hb2 ht2 m2 d3 hl
 go_wp2_with fail
 refine leaves_cons (f:=193) (args:=#[.pointer (some ⟨p,1,none⟩),.bool true]) (by simp) (by simp [go_sem]) ?_
 refine (store_deferred ⟨p,1,none⟩ (.int .u32 0) .returning _ e3 g3).mono ?_
 rintro e u' w'' ⟨rfl,rfl,rfl⟩
 refine leaves_cons (f:=192) (args:=#[.pointer (some ⟨p,2,none⟩)]) (by simp [settle]) (by simp [go_sem]) ?_
 refine (unlock_deferred ⟨p,2,none⟩ _ _ ?_ ?_).mono ?_
 ·exact (World.cell?_setCell_other _ ⟨p,1,none⟩ ⟨p,2,none⟩ _ (by simp)).trans e4
 ·exact ((HB2.out.below (Below.refl _ _).drew).set_ 1 (.int .u32 1)).frozen 2
 rintro e u' w'' ⟨rfl,rfl,rfl⟩
 have F:=FIN.out
 simp [Leaves,settle,results,Tryz.results183]
 exact F
set_option maxHeartbeats 1600000 in
theorem pdo_first (p g V n pb q:Nat) (w:World) (hN:Nul w) (h:PAt w p g V n false q) (hp:Blk w pb 134 #[.pointer (some ⟨p,0,none⟩)]) (hpn:p≠1) :
  Calls Tryz.prog 170 #[.pointer (some ⟨p,1,none⟩),.func (.func 194) #[] #[.pointer (some ⟨pb,0,none⟩)]] w fun e w'=>e=.returned (.tuple #[])∧PAt w' p g V n true q∧Mod (fun i=>i=p) w w':=by
 have SL:=Lib.hid (pslow_p p g V n pb q w hN h hp hpn)
 obtain ⟨_,_,H,hb,hd⟩:=h
 have c3:w.cell? ⟨p,1,none⟩=some (.int .u32 0):=hb.cell 1
 have hl:=run_call_load (P:=Tryz.prog) Tryz.func190 (by kernel_rfl) (by kernel_rfl) (by kernel_rfl) .u32 (by kernel_rfl) c3
 have hnot:∀ (x:Bool) (w:World),(Op.unary .not (.bool x)).run Tryz.prog w=.ok (.bool (!x)) w:=fun _ _=>rfl
 clear hb hd hp hN
 go_enter Tryz.func170,Tryz.ntmps170
 go_wp2_with (first | (go_at_call 182;go_in))
 refine SL.out.mono ?_
 rintro e w2 ⟨rfl,h2⟩
 have H2:=Lib.hid h2
 clear h2
 go_wp2_with fail
 exact bodyPost_end (results_none rfl _ _ _) rfl ⟨rfl,H2.out⟩
theorem pbuild_p (p g V n q:Nat) (d:Bool) (w:World) (hN:Nul w) (h:PAt w p g V n d q) (hpn:p≠1) :
  Calls Tryz.prog 184 #[.pointer (some ⟨p,0,none⟩)] w fun e w'=>e=.returned (.tuple #[])∧PAt w' p g V n true q∧Mod (fun i=>i=p) w w':=by
 have hmf:∀ (fn:Fn) (first cap:Array Value) (w:World),(Instr.makeFunc fn first cap).run Tryz.prog w=.ok (.func fn first cap) w:=fun _ _ _ _=>rfl
 have hbx:=(Below.refl w.heap.size w).alloc (Nat.le_refl _) (.cells #[.pointer (some ⟨p,0,none⟩)] 134)
 have h1:=h.below hbx
 have n1:=hN.bel hbx
 have m0:Mod (fun i=>i=p) w (w.alloc (.cells #[.pointer (some ⟨p,0,none⟩)] 134)):=Mod.alloc (Mod.refl _ w) _
 have hgl:=h.lt
 cases d with
 | false =>
   have DF:=Lib.hid (pdo_first p g V n w.heap.size q _ n1 h1 (Blk.new w _ _) hpn)
   have M0:=Lib.hid m0
   clear h h1 hbx m0 hN n1
   go_enter Tryz.func184,Tryz.ntmps184
   go_wp2_with fail
   refine DF.out.mono ?_
   rintro e w2 ⟨rfl,h2,m2⟩
   have H2:=Lib.hid h2
   have M2:Hid (Mod (fun i=>i=p) w w2):=M0.out.trans m2 fun _ _ h=>h
   clear h2 m2
   go_wp2_with fail
   exact bodyPost_end (results_none rfl _ _ _) rfl ⟨rfl,H2.out,M2.out⟩
 | true =>
   have c3:(w.alloc (.cells #[.pointer (some ⟨p,0,none⟩)] 134)).cell? ⟨p,1,none⟩=some (.int .u32 1):=by
    obtain ⟨_,_,H,hb,_⟩:=h1
    exact hb.cell 1
   have DD:=Lib.hid (fun fv=>do_done ⟨p,1,none⟩ fv _ c3)
   have M0:=Lib.hid m0
   have H1:=Lib.hid h1
   clear h h1 hbx m0 c3 hN n1
   go_enter Tryz.func184,Tryz.ntmps184
   go_wp2_with fail
   refine (DD.out _).mono ?_
   rintro e w2 ⟨rfl,rfl⟩
   go_wp2_with fail
   exact bodyPost_end (results_none rfl _ _ _) rfl ⟨rfl,H1.out,M0.out⟩
theorem ready_ok (p g V n q:Nat) (d:Bool) (a b l:Int) (w:World) (hN:Nul w) (h:PAt w p g V n d q) (hpn:p≠1) (h1:0≤a) (h2:a≤b) (h3:b≤l) :
  Calls Tryz.prog 173 #[.pointer (some ⟨p,0,none⟩),.int .i64 a,.int .i64 b,.int .i64 l] w fun e w'=>e=.returned (.int .i64 0)∧PAt w' p g V n true q∧Mod (fun i=>i=p) w w':=by
 have BP:=Lib.hid (pbuild_p p g V n q d w hN h hpn)
 have d1:decide (a < 0)=false:=decide_eq_false (by omega)
 have d2:decide (b < a)=false:=decide_eq_false (by omega)
 have d3:decide (l < b)=false:=decide_eq_false (by omega)
 clear h hN
 go_enter Tryz.func173,Tryz.ntmps173
 go_wp2_with fail
 refine BP.out.mono ?_
 rintro e w2 ⟨rfl,h2,m2⟩
 have H2:=Lib.hid h2
 have M2:=Lib.hid m2
 clear h2 m2 BP
 go_wp2_with fail
 go_ret
 exact ⟨rfl,H2.out,M2.out⟩
def ScanF (w:World) (p g V n q:Nat) (d:Bool) (i:Nat) (m:Int) (e:Ending) (w':World):Prop :=
 PAt w' p g V n d (q+1)∧Mod (fun i=>i=g) w w'∧∃ j:Nat,
  (e=.returned (.tuple #[.int .i64 (j:Int),.bool true])∧Fwd (exc V) i n m j) ∨
  (e=.returned (.tuple #[.int .i64 (j:Int),.bool false])∧j=512*(i / 512+1)∧j < n∧∀ k,i < k→k≤j→m < exc V k)
def ScanB (w:World) (p g V n q:Nat) (d:Bool) (a:Nat) (m:Int) (e:Ending) (w':World):Prop :=
 PAt w' p g V n d (q+1)∧Mod (fun i=>i=g) w w'∧∃ j:Nat,
  (e=.returned (.tuple #[.int .i64 (j:Int),.bool true])∧Bwd (exc V) a m j) ∨
  (e=.returned (.tuple #[.int .i64 (j:Int),.bool false])∧j=512*((a - 1) / 512)∧0 < j∧∀ k,j≤k→k < a→m < exc V k)
section
variable (p g V n q:Nat) (d:Bool) (w:World)
set_option maxHeartbeats 4000000 in
theorem scan_f (i:Nat) (m:Int) (h:PAt w p g V n d q) (hB:Bal (exc V) n) (hi:i < n) (hm:0≤m) (hq:q≤1000000) :
  Calls Tryz.prog 186 #[.pointer (some ⟨p,0,none⟩),.int .i64 (i:Int),.int .i64 1,.int .i64 m] w (ScanF w p g V n q d i m):=by
 have hn:=h.n9
 have EX:=Lib.hid (excess_p p g V n q d w i h (by omega) hq)
 have HB:=Lib.hid hB
 have HE:=Lib.hid (exc_Exc V)
 have BO:=Lib.hid fun w' (j:Nat)=>bitOn_f w' (j:Int)
 obtain ⟨b,hb,hb2⟩:∃ b:Nat,(i:Int) / 512=(b:Int)∧b=i / 512:=⟨i / 512,by omega,rfl⟩
 have HB2:=Lib.hid hb2
 have hbi:512*b≤i∧i < 512*(b+1):=by omega
 clear h hB hb2
 go_enter Tryz.func186,Tryz.ntmps186
 go_wp2_with (go_at_call 159;refine (BO.out _ _).mono ?_;rintro e w' ⟨rfl,rfl⟩)
 refine EX.out.mono ?_
 rintro e w2 ⟨rfl,h2,m2⟩
 have H2:=Lib.hid h2
 have M2:=Lib.hid m2
 have hbd:=HE.out.bound i
 obtain ⟨y0,hy0⟩:∃ y0,exc V i=y0:=⟨_,rfl⟩
 rw [hy0] at hbd ⊢
 have HY0:=Lib.hid hy0
 clear h2 m2 EX hy0
 go_wp2_with fail
 have HBQ:=Lib.hid hb
 clear hb
 go_loop [1,11] (fun v z=>∃ (j:Nat) (y:Int),v=.int .i64 (j:Int)∧z=.int .i64 y∧i≤j∧j < n∧j≤512*(b+1)∧-1000000≤y∧y≤1000000∧Hid (exc V j=y)∧Hid (∀ k,i < k→k≤j→m < exc V k)) (fun v _=>n - (intOf v).toNat)
 case atStart=>exact ⟨i,y0,rfl,rfl,by omega,by omega,by omega,by omega,by omega,HY0.out,fun k h1 h2=>by omega⟩
 case round =>
  clear hbd HY0
  obtain ⟨j,y,rfl,rfl,hij,hjn,hjb,hy1,hy2,hy,hab⟩:=hrel
  by_cases hin:j < 512*(b+1)
  ·have e1:(j:Int) / 512=(b:Int):=by omega
   have CH:=Lib.hid (change_f p g V n (q+1) w2 j H2.out.ix hjn)
   obtain ⟨s,hs⟩:∃ s,exc V (j+1) - exc V j=s:=⟨_,rfl⟩
   rw [hs] at CH
   have hst:=HE.out.step j
   have hs1:-1≤s∧s≤1:=by omega
   have HS:Hid (exc V (j+1)=y+s):=by show _=_;have:=hy.out;omega
   have hbd:=HE.out.bound (j+1)
   rw [HS.out] at hbd
   clear hs hst
   by_cases hle:y+s≤m
   ·have FW:Hid (Fwd (exc V) i n m (j+1)):=⟨by omega,by omega,by rw [HS.out];exact hle,fun k h1 h2=>hab.out k h1 (by omega)⟩
    go_wp2_with (first
     | (go_at_call 159;refine (BO.out _ _).mono ?_;rintro e w' ⟨rfl,rfl⟩)
     | (go_at_call 146;refine CH.out.mono ?_;rintro e w' ⟨rfl,rfl⟩))
    go_ret2
    exact ⟨H2.out,M2.out,j+1,.inl ⟨by rfl,FW.out⟩⟩
   ·have HAB:Hid (∀ k,i < k→k≤j+1→m < exc V k):=fun k h1 h2=>by
     by_cases e:k=j+1
     ·rw [e,HS.out];omega
     ·exact hab.out k h1 (by omega)
    have hjn2:j+1 < n:=by
     rcases Nat.lt_or_ge (j+1) n with g | g
     ·exact g
     ·exfalso
      have e:j+1=n:=by omega
      have h0:=HB.out.2
      rw [← e,HS.out] at h0
      omega
    have hdec:decide (y+s≤m)=false:=decide_eq_false hle
    clear hle
    go_wp2_with (first
     | (go_at_call 159;refine (BO.out _ _).mono ?_;rintro e w' ⟨rfl,rfl⟩)
     | (go_at_call 146;refine CH.out.mono ?_;rintro e w' ⟨rfl,rfl⟩))
    go_round
    case rel=>exact ⟨j+1,y+s,by go_num,rfl,by omega,by omega,by omega,by omega,by omega,HS.out,HAB.out⟩
    case measure=>simp [intOf];omega
  ·have hjj:j=512*(b+1):=by omega
   have e1:(j:Int) / 512=(b:Int)+1:=by omega
   have e2:((b:Int)+1 == (b:Int))=false:=by rw [beq_eq_false_iff_ne];omega
   have HJJ:=Lib.hid hjj
   clear hjj hin
   go_wp2_with (go_at_call 159;refine (BO.out _ _).mono ?_;rintro e w' ⟨rfl,rfl⟩)
   go_ret2
   exact ⟨H2.out,M2.out,j,.inr ⟨by rfl,by rw [← HB2.out,HJJ.out],by omega,hab.out⟩⟩
set_option maxHeartbeats 4000000 in
theorem scan_b (a:Nat) (m:Int) (h:PAt w p g V n d q) (ha:0 < a) (han:a≤n) (hm:0≤m) (hq:q≤1000000) :
  Calls Tryz.prog 186 #[.pointer (some ⟨p,0,none⟩),.int .i64 (a:Int),.int .i64 (-1),.int .i64 m] w (ScanB w p g V n q d a m):=by
 have hn:=h.n9
 have EX:=Lib.hid (excess_p p g V n q d w a h (by omega) hq)
 have HE:=Lib.hid (exc_Exc V)
 obtain ⟨i,rfl⟩:∃ i,a=i+1:=⟨a - 1,by omega⟩
 have BO:=Lib.hid fun w' (j:Nat) (hj:j≤1000000)=>bitOn_b w' ((j:Int)+1) (by omega) (by omega)
 obtain ⟨b,hb,hb2⟩:∃ b:Nat,(i:Int) / 512=(b:Int)∧b=i / 512:=⟨i / 512,by omega,rfl⟩
 have HB2:=Lib.hid hb2
 have hbi:512*b≤i∧i < 512*(b+1):=by omega
 have ei:∀ j:Nat,(j:Int)+1 - 1=(j:Int):=fun j=>by omega
 rw [show ((i+1:Nat):Int)=(i:Int)+1 by omega] at EX ⊢
 have B1:=Lib.hid fun w'=>BO.out w' i (by omega)
 rw [ei] at B1
 clear h hb2 ei
 go_enter Tryz.func186,Tryz.ntmps186
 go_wp2_with (go_at_call 159;refine (B1.out _).mono ?_;rintro e w' ⟨rfl,rfl⟩)
 refine EX.out.mono ?_
 rintro e w2 ⟨rfl,h2,m2⟩
 have H2:=Lib.hid h2
 have M2:=Lib.hid m2
 have hbd:=HE.out.bound (i+1)
 obtain ⟨y0,hy0⟩:∃ y0,exc V (i+1)=y0:=⟨_,rfl⟩
 rw [hy0] at hbd ⊢
 have HY0:=Lib.hid hy0
 clear h2 m2 EX hy0
 go_wp2_with fail
 have HBQ:=Lib.hid hb
 clear hb
 go_loop [1,11] (fun v z=>∃ (j:Nat) (y:Int),v=.int .i64 ((j:Int)+1)∧z=.int .i64 y∧j≤i∧512*b≤j+1∧-1000000≤y∧y≤1000000∧Hid (exc V (j+1)=y)∧Hid (∀ k,j+1≤k→k < i+1→m < exc V k)) (fun v _=>(intOf v).toNat)
 case atStart=>exact ⟨i,y0,rfl,rfl,by omega,by omega,by omega,by omega,HY0.out,fun k h1 h2=>by omega⟩
 case round =>
  clear hbd HY0 B1
  obtain ⟨j,y,rfl,rfl,hij,hjb,hy1,hy2,hy,hab⟩:=hrel
  have B2:=Lib.hid fun w'=>BO.out w' j (by omega)
  rw [show (j:Int)+1 - 1=(j:Int) by omega] at B2
  by_cases hin:512*b≤j
  ·have e1:(j:Int) / 512=(b:Int):=by omega
   have CH:=Lib.hid (change_b p g V n (q+1) w2 j H2.out.ix (by omega))
   obtain ⟨s,hs⟩:∃ s,exc V j - exc V (j+1)=s:=⟨_,rfl⟩
   rw [hs] at CH
   have hst:=HE.out.step j
   have hs1:-1≤s∧s≤1:=by omega
   have HS:Hid (exc V j=y+s):=by show _=_;have:=hy.out;omega
   have hbd:=HE.out.bound j
   rw [HS.out] at hbd
   have ej:(j:Int)+1+-1=(j:Int):=by omega
   clear hs hst
   by_cases hle:y+s≤m
   ·have FW:Hid (Bwd (exc V) (i+1) m j):=⟨by omega,by rw [HS.out];exact hle,fun k h1 h2=>hab.out k (by omega) h2⟩
    go_wp2_with (first
     | (go_at_call 159;refine (B2.out _).mono ?_;rintro e w' ⟨rfl,rfl⟩)
     | (go_at_call 146;refine CH.out.mono ?_;rintro e w' ⟨rfl,rfl⟩))
    go_ret2
    exact ⟨H2.out,M2.out,j,.inl ⟨by rfl,FW.out⟩⟩
   ·have HAB:Hid (∀ k,j≤k→k < i+1→m < exc V k):=fun k h1 h2=>by
     by_cases e:k=j
     ·rw [e,HS.out];omega
     ·exact hab.out k (by omega) h2
    have hj0:0 < j:=by
     rcases Nat.eq_zero_or_pos j with g | g
     ·exfalso
      have h0:=HE.out.zero
      rw [← g,HS.out] at h0
      omega
     ·exact g
    obtain ⟨j',rfl⟩:∃ j',j=j'+1:=⟨j - 1,by omega⟩
    have hdec:decide (y+s≤m)=false:=decide_eq_false hle
    clear hle
    go_wp2_with (first
     | (go_at_call 159;refine (B2.out _).mono ?_;rintro e w' ⟨rfl,rfl⟩)
     | (go_at_call 146;refine CH.out.mono ?_;rintro e w' ⟨rfl,rfl⟩))
    go_round
    case rel=>exact ⟨j',y+s,congrArg (Value.int .i64) (by omega),rfl,by omega,by omega,by omega,by omega,HS.out,HAB.out⟩
    case measure=>simp [intOf];omega
  ·have hj1:j+1=512*b:=by omega
   obtain ⟨b',rfl⟩:∃ b',b=b'+1:=⟨b - 1,by omega⟩
   have e1:(j:Int) / 512=(b':Int):=by omega
   have e2:((b':Int) == (b':Int)+1)=false:=by rw [beq_eq_false_iff_ne];omega
   have HJ1:=Lib.hid hj1
   clear hj1
   go_wp2_with (go_at_call 159;refine (B2.out _).mono ?_;rintro e w' ⟨rfl,rfl⟩)
   go_ret2
   exact ⟨H2.out,M2.out,j+1,.inr ⟨by rfl,by rw [HJ1.out,HB2.out];rfl,by omega,hab.out⟩⟩
end
end Go.Proofs.YtajjgpkahljjmaaGreatDoor
