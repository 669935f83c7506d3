/- build: the directory of parentheses is made. -/
import Derived.Test.YtajjgpkahljjmaaGreatDoorZg9
import Derived.Test.YtajjgpkahljjmaaGreatDoorZg7
open Go.RowKit
set_option linter.unusedVariables false
namespace Go.Proofs.YtajjgpkahljjmaaGreatDoor
set_option maxRecDepth 20000
set_option maxHeartbeats 4000000 in
theorem pbuild1_p (p g V n pb q:Nat) (x1 x2 x3:Value) (w:World) (hN:Nul w) (hx:PIx w p g V n q)
  (hb:Blk w p 192 #[.pointer (some ⟨g,0,none⟩),x1,x2,x3,.slice none 0 0,.int .i64 0]) (hp:Blk w pb 134 #[.pointer (some ⟨p,0,none⟩)]) :
  Calls Tryz.prog 194 #[.pointer (some ⟨pb,0,none⟩)] w fun e w'=>e=.returned (.tuple #[])∧∃ H,
   Blk w' p 192 #[.pointer (some ⟨g,0,none⟩),x1,x2,x3,H,.int .i64 1]∧TDir w' p V n true H∧Mod (fun i=>i=p) w w':=by
 have hn:=hx.n9
 obtain ⟨B,hB⟩:∃ B,B=(n+511) / 512:=⟨_,rfl⟩
 have hB9:B≤2000:=by omega
 have hgp:pb≠p:=fun e=>by
  subst e
  unfold Blk at hb hp
  rw [hb] at hp
  simp at hp
 have hpl:=hb.lt
 have hbl:=hp.lt
 have p0:w.cell? ⟨pb,0,none⟩=some (.pointer (some ⟨p,0,none⟩)):=hp.cell 0
 have PL:=Lib.hid (plen_p p g V n q w hx)
 have BF:=Lib.hid (blocksFor_p w n (by omega))
 rw [← hB] at BF
 have MS:=Lib.hid fun w' (b':Below w.heap.size w w') b hb=>measure_p p g V n q b w' (hx.below b') hb
 have MK:=run_make_nodes 189 (by kernel_rfl) B (by omega) w
 have hbn:=Blk.new w 227 (ndArr (fun _=>(0,0)) B)
 have HT:=Lib.hid hbn
 have HB:=Lib.hid hb
 have HPB:=Lib.hid hp
 have HBB:=Lib.hid hB
 have HN:=Lib.hid hN
 have HE:=Lib.hid (exc_Exc V)
 clear hN hx hb hp hbn hB
 go_enter Tryz.func194,Tryz.ntmps194
 go_wp2_with (first
  | (go_at_call 145;refine PL.out.mono ?_;rintro e w' ⟨rfl,rfl⟩)
  | (go_at_call 195;refine BF.out.mono ?_;rintro e w' ⟨rfl,rfl⟩))
 obtain ⟨S,hS⟩:∃ S,w.heap.size=S:=⟨_,rfl⟩
 rw [hS] at HT MS ⊢
 go_loopw [9] (fun v wr=>∃ (k:Nat) (U:Nat→Int × Int),k≤B∧v=.int .i64 (k:Int)∧Hid (Blk wr S 227 (ndArr U B))∧Hid (∀ j,j < k→U j=nd (exc V) n j (j+1))∧Hid (Below S w wr)) (fun v _=>B - (intOf v).toNat)
 case atStart=>exact ⟨0,_,by omega,rfl,HT.out,fun j hj=>by omega,(Below.refl _ _).alloc (by omega) _⟩
 case round =>
  clear HT MK
  obtain ⟨k,U,hk,rfl,hblk,hU,hbel⟩:=hrel
  have pw:wr.cell? ⟨pb,0,none⟩=some (.pointer (some ⟨p,0,none⟩)):=(hbel.out.cell (p:=⟨pb,0,none⟩) (by show pb < S;omega)).trans p0
  by_cases hlt:k < B
  ·have M1:=Lib.hid (MS.out wr hbel.out k (by have:=HBB.out;omega))
   clear p0
   go_wp2_with fail
   refine M1.out.mono ?_
   rintro e w2 ⟨rfl,b2⟩
   have hb2:=Lib.hid (hblk.out.below b2)
   have hbe2:Hid (Below S w w2):=hbel.out.trans (b2.mono (by have:=hblk.out.lt;omega))
   have f1:=hb2.out.frozen (k*2)
   have f2:=hb2.out.frozen (k*2+1)
   have d1:w2.cell? ⟨S,k*2,none⟩=some (.int .i32 (U k).1):=by rw [hb2.out.cell];exact (ndArr_get U B k hlt).1
   have d2:w2.cell? ⟨S,k*2+1,none⟩=some (.int .i32 (U k).2):=by rw [hb2.out.cell];exact (ndArr_get U B k hlt).2
   obtain ⟨u,hu⟩:∃ u,nd (exc V) n k (k+1)=u:=⟨_,rfl⟩
   rw [hu]
   have HU:=Lib.hid hu
   clear b2 M1 hu
   obtain ⟨s,l⟩:=u
   unfold ndv
   go_wp2_with fail
   have NB:Hid (Blk ((w2.setCell ⟨S,k*2,none⟩ (.int .i32 s)).setCell ⟨S,k*2+1,none⟩ (.int .i32 l)) S 227 (ndArr (upd U k (s,l)) B)):=by
    have h1:=(hb2.out.set_ (k*2) (.int .i32 s)).set_ (k*2+1) (.int .i32 l)
    have h2:=ndArr_set U B k (s,l) hlt
    exact h2 ▸ h1
   have NU:Hid (∀ j,j < k+1→upd U k (s,l) j=nd (exc V) n j (j+1)):=fun j hj=>by
    unfold upd
    by_cases e:j=k
    ·rw [if_pos e,e,HU.out]
    ·rw [if_neg e];exact hU.out j (by omega)
   have ND:Hid (Below S w ((w2.setCell ⟨S,k*2,none⟩ (.int .i32 s)).setCell ⟨S,k*2+1,none⟩ (.int .i32 l))):=(hbe2.out.setCell (Nat.le_refl _) _).setCell (Nat.le_refl _) _
   clear f1 f2 d1 d2
   go_roundw
   case rel=>exact ⟨k+1,_,by omega,by go_num,NB.out,NU.out,ND.out⟩
   case measure=>simp [intOf];omega
  ·obtain rfl:k=B:=by omega
   have TO:=Lib.hid fun w' (b':Below wr.heap.size wr w')=>treeOf_p (exc V) HE.out S k k n w' (HN.out.below (by have:=HN.out.lt;show 1 < S;omega) (hbel.out.trans (b'.mono (by have:=hblk.out.lt;omega)))) hn HBB.out
    (by have:=hblk.out.below b';rw [ndArr_congr hU.out] at this;exact this)
   have HBW:Hid (Blk wr p 192 #[.pointer (some ⟨g,0,none⟩),x1,x2,x3,.slice none 0 0,.int .i64 0]):=HB.out.mod (Mod.ofBelow hbel.out) (by omega)
   have hpw:pb < wr.heap.size:=by have:=hblk.out.lt;omega
   have hppw:p < wr.heap.size:=by have:=hblk.out.lt;omega
   have hSw:S < wr.heap.size:=hblk.out.lt
   clear p0
   go_wp2_with fail
   go_region_with (first
    | (go_at_call 197
       refine (TO.out _ (Below.refl _ _).drew).mono ?_
       rintro e w3 ⟨t,K,M,T,rfl,hM,hlv,htl,hbt,hok,bt⟩
       have p3:w3.cell? ⟨pb,0,none⟩=some (.pointer (some ⟨p,0,none⟩)):=(bt.cell (p:=⟨pb,0,none⟩) hpw).trans pw
       have hb3:Blk w3 p 192 #[.pointer (some ⟨g,0,none⟩),x1,x2,x3,.slice none 0 0,.int .i64 0]:=(HBW.out.drewN 1).below bt
       have q4:w3.cell? ⟨p,4,none⟩=some (.slice none 0 0):=hb3.cell 4
       have f4:=hb3.frozen 4
       have HB3:=Lib.hid hb3
       have HTR:Hid (M+1=2*2 ^ K∧Lvs k K∧wr.heap.size≤t∧Blk w3 t 227 (ndArr T M)∧TreeOK (exc V) n K (fun x=>T (x - 1))∧Below wr.heap.size wr w3):=⟨hM,hlv,htl,hbt,hok,(Below.refl _ _).drew.trans bt⟩
       clear hM hlv htl hbt hok bt hb3))
   all_goals (
    have HB4:Hid (Blk (w3.setCell ⟨p,4,none⟩ (.slice (some ⟨t,0,none⟩) M M)) p 192 #[.pointer (some ⟨g,0,none⟩),x1,x2,x3,.slice (some ⟨t,0,none⟩) M M,.int .i64 0]):=by
     have:=HB3.out.set_ 4 (.slice (some ⟨t,0,none⟩) M M)
     show Blk _ _ _ _
     simpa using this
    have d5:(w3.setCell ⟨p,4,none⟩ (.slice (some ⟨t,0,none⟩) M M)).cell? ⟨p,5,none⟩=some (.int .i64 0):=HB4.out.cell 5
    have g5:=HB4.out.frozen 5
    have AD:=Lib.hid (add64 ⟨p,5,none⟩ 0 _ d5 g5 (by omega) (by omega))
    go_wp2_with fail
    refine AD.out.mono ?_
    rintro e w9 ⟨rfl,rfl⟩
    go_wp2_with fail
    have m4:Mod (fun i=>i=p) w3 ((w3.setCell ⟨p,4,none⟩ (.slice (some ⟨t,0,none⟩) M M)).setCell ⟨p,5,none⟩ (.int .i64 (0+1))):=Mod.setCell (p:=⟨p,5,none⟩) (Mod.setCell (p:=⟨p,4,none⟩) (Mod.refl (fun i=>i=p) w3) (fun _=>rfl) _) (fun _=>rfl) _
    obtain ⟨hM,hlv,htl,hbt,hok,bt⟩:=HTR.out
    have m3:Mod (fun i=>i=p) w w3:=(Mod.ofBelow (hbel.out.trans (bt.mono (by omega)))).mono fun i hi h=>by omega
    refine bodyPost_end (results_none rfl _ _ _) rfl ⟨rfl,.slice (some ⟨t,0,none⟩) M M,?_,⟨t,M,K,T,by omega,rfl,hbt.mod m4 (by omega),hok,hM,by rw [← HBB.out];exact hlv⟩,m3.trans m4 fun _ _ h=>h⟩
    have:=HB4.out.set_ 5 (.int .i64 (0+1))
    simpa using this)
set_option maxRecDepth 100000
theorem idx_off {w w':World} {p g V n k:Nat} {r:Bool} {cs:Array Value} (h:IdxAt w g V n r k) (hb:Blk w p 192 cs) (m:Mod (fun i=>i=p) w w'):IdxAt w' g V n r k :=
 h.off m fun i hi=>by subst hi;exact ⟨_,_,hb,by decide,by decide,by decide⟩
set_option maxHeartbeats 1600000 in
theorem pslow_p (p g V n pb q:Nat) (w:World) (hN:Nul w) (h:PAt w p g V n false q) (hp:Blk w pb 134 #[.pointer (some ⟨p,0,none⟩)]) (hpn:p≠1) :
  Calls Tryz.prog 183 #[.pointer (some ⟨p,1,none⟩),.func (.func 194) #[] #[.pointer (some ⟨pb,0,none⟩)]] w fun e w'=>e=.returned (.tuple #[])∧PAt w' p g V n true q∧Mod (fun i=>i=p) w w':=by
 have hix:=h.ix
 obtain ⟨hgp',⟨r,k,hk,hx⟩,H,hb,hd⟩:=h
 have hH:H=.slice none 0 0:=hd
 subst hH
 have hgp:pb≠p:=fun e=>by
  subst e
  unfold Blk at hb hp
  rw [hb] at hp
  simp at hp
 have c3:w.cell? ⟨p,1,none⟩=some (.int .u32 0):=hb.cell 1
 have c4:w.cell? ⟨p,2,none⟩=some (.int .i32 0):=hb.cell 2
 have f4:=hb.frozen 2
 have LK:=Lib.hid (lock_free ⟨p,2,none⟩ w c4 f4)
 have hb1:Blk (w.setCell ⟨p,2,none⟩ (.int .i32 1)) p 192 #[.pointer (some ⟨g,0,none⟩),.int .u32 0,.int .i32 1,.int .u32 0,.slice none 0 0,.int .i64 0]:=by
  have:=hb.set_ 2 (.int .i32 1)
  simpa [b01] using this
 have m1:Mod (fun i=>i=p) w (w.setCell ⟨p,2,none⟩ (.int .i32 1)):=Mod.setCell (p:=⟨p,2,none⟩) (Mod.refl (fun i=>i=p) w) (fun _=>rfl) _
 have hx1:PIx (w.setCell ⟨p,2,none⟩ (.int .i32 1)) p g V n q:=⟨hgp',⟨r,k,hk,idx_off hx hb m1⟩,hb1.cell 0⟩
 have hN1:Nul (w.setCell ⟨p,2,none⟩ (.int .i32 1)):=hN.mod m1 (Ne.symm hpn)
 have BD:=Lib.hid (pbuild1_p p g V n pb q (.int .u32 0) (.int .i32 1) (.int .u32 0) _ hN1 hx1 hb1 (hp.mod m1 hgp))
 have d3:(w.setCell ⟨p,2,none⟩ (.int .i32 1)).cell? ⟨p,1,none⟩=some (.int .u32 0):=hb1.cell 1
 have hl:=run_call_load (P:=Tryz.prog) Tryz.func190 (by kernel_rfl) (by kernel_rfl) (by kernel_rfl) .u32 (by kernel_rfl) d3
 have hnot:∀ (x:Bool) (w:World),(Op.unary .not (.bool x)).run Tryz.prog w=.ok (.bool (!x)) w:=fun _ _=>rfl
 have HX:=Lib.hid hx
 have HB:=Lib.hid hb
 have HM1:=Lib.hid m1
 clear hb hp hb1 m1 hx1 hix hN1 hN hd hx c4 f4
 generalize w.setCell ⟨p,2,none⟩ (.int .i32 1)=w1 at *
 go_enter_defers Tryz.func183,Tryz.ntmps183
 go_wp2_with fail
 refine LK.out.mono ?_
 rintro e w' ⟨rfl,rfl⟩
 go_wp2_with (first | (go_at_call 182;go_in))
 refine BD.out.mono ?_
 rintro e w2 ⟨rfl,H2,hb2,ht2,m2⟩
 have FIN:Hid (PAt ((w2.drew.setCell ⟨p,1,none⟩ (.int .u32 1)).setCell ⟨p,2,none⟩ (.int .i32 0)) p g V n true q∧Mod (fun i=>i=p) w ((w2.drew.setCell ⟨p,1,none⟩ (.int .u32 1)).setCell ⟨p,2,none⟩ (.int .i32 0))):=by
  have m3:Mod (fun i=>i=p) w2 ((w2.drew.setCell ⟨p,1,none⟩ (.int .u32 1)).setCell ⟨p,2,none⟩ (.int .i32 0)):=Mod.setCell (p:=⟨p,2,none⟩) (Mod.setCell (p:=⟨p,1,none⟩) (Mod.drew (Mod.refl (fun i=>i=p) w2)) (fun _=>rfl) _) (fun _=>rfl) _
  have hm:Mod (fun i=>i=p) w ((w2.drew.setCell ⟨p,1,none⟩ (.int .u32 1)).setCell ⟨p,2,none⟩ (.int .i32 0)):=(HM1.out.trans m2 fun _ _ h=>h).trans m3 fun _ _ h=>h
  refine ⟨⟨hgp',⟨r,k,hk,idx_off HX.out HB.out hm⟩,H2,?_,ht2.mod m3 fun i hi=>by omega⟩,hm⟩
  have:=((hb2.below (Below.refl _ _).drew).set_ 1 (.int .u32 1)).set_ 2 (.int .i32 0)
  simpa [b01] using this
 have e3:w2.cell? ⟨p,1,none⟩=some (.int .u32 0):=hb2.cell 1
 have e4:w2.cell? ⟨p,2,none⟩=some (.int .i32 1):=hb2.cell 2
 have g3:=hb2.frozen 1
 have g4:=hb2.frozen 2
 have HB2:=Lib.hid hb2
 clear hb2 ht2 m2 d3 hl
 go_wp2_with fail
 refine leaves_cons (f:=193) (args:=#[.pointer (some ⟨p,1,none⟩),.bool true]) (by simp) (by simp [go_sem]) ?_
 refine (store_deferred ⟨p,1,none⟩ (.int .u32 0) .returning _ e3 g3).mono ?_
 rintro e u' w'' ⟨rfl,rfl,rfl⟩
 refine leaves_cons (f:=192) (args:=#[.pointer (some ⟨p,2,none⟩)]) (by simp [settle]) (by simp [go_sem]) ?_
 refine (unlock_deferred ⟨p,2,none⟩ _ _ ?_ ?_).mono ?_
 ·exact (World.cell?_setCell_other _ ⟨p,1,none⟩ ⟨p,2,none⟩ _ (by simp)).trans e4
 ·exact ((HB2.out.below (Below.refl _ _).drew).set_ 1 (.int .u32 1)).frozen 2
 rintro e u' w'' ⟨rfl,rfl,rfl⟩
 have F:=FIN.out
 simp [Leaves,settle,results,Tryz.results183]
 exact F
set_option maxHeartbeats 1600000 in
theorem pdo_first (p g V n pb q:Nat) (w:World) (hN:Nul w) (h:PAt w p g V n false q) (hp:Blk w pb 134 #[.pointer (some ⟨p,0,none⟩)]) (hpn:p≠1) :
  Calls Tryz.prog 170 #[.pointer (some ⟨p,1,none⟩),.func (.func 194) #[] #[.pointer (some ⟨pb,0,none⟩)]] w fun e w'=>e=.returned (.tuple #[])∧PAt w' p g V n true q∧Mod (fun i=>i=p) w w':=by
 have SL:=Lib.hid (pslow_p p g V n pb q w hN h hp hpn)
 obtain ⟨_,_,H,hb,hd⟩:=h
 have c3:w.cell? ⟨p,1,none⟩=some (.int .u32 0):=hb.cell 1
 have hl:=run_call_load (P:=Tryz.prog) Tryz.func190 (by kernel_rfl) (by kernel_rfl) (by kernel_rfl) .u32 (by kernel_rfl) c3
 have hnot:∀ (x:Bool) (w:World),(Op.unary .not (.bool x)).run Tryz.prog w=.ok (.bool (!x)) w:=fun _ _=>rfl
 clear hb hd hp hN
 go_enter Tryz.func170,Tryz.ntmps170
 go_wp2_with (first | (go_at_call 182;go_in))
 refine SL.out.mono ?_
 rintro e w2 ⟨rfl,h2⟩
 have H2:=Lib.hid h2
 clear h2
 go_wp2_with fail
 exact bodyPost_end (results_none rfl _ _ _) rfl ⟨rfl,H2.out⟩
theorem pbuild_p (p g V n q:Nat) (d:Bool) (w:World) (hN:Nul w) (h:PAt w p g V n d q) (hpn:p≠1) :
  Calls Tryz.prog 184 #[.pointer (some ⟨p,0,none⟩)] w fun e w'=>e=.returned (.tuple #[])∧PAt w' p g V n true q∧Mod (fun i=>i=p) w w':=by
 have hmf:∀ (fn:Fn) (first cap:Array Value) (w:World),(Instr.makeFunc fn first cap).run Tryz.prog w=.ok (.func fn first cap) w:=fun _ _ _ _=>rfl
 have hbx:=(Below.refl w.heap.size w).alloc (Nat.le_refl _) (.cells #[.pointer (some ⟨p,0,none⟩)] 134)
 have h1:=h.below hbx
 have n1:=hN.bel hbx
 have m0:Mod (fun i=>i=p) w (w.alloc (.cells #[.pointer (some ⟨p,0,none⟩)] 134)):=Mod.alloc (Mod.refl _ w) _
 have hgl:=h.lt
 cases d with
 | false =>
   have DF:=Lib.hid (pdo_first p g V n w.heap.size q _ n1 h1 (Blk.new w _ _) hpn)
   have M0:=Lib.hid m0
   clear h h1 hbx m0 hN n1
   go_enter Tryz.func184,Tryz.ntmps184
   go_wp2_with fail
   refine DF.out.mono ?_
   rintro e w2 ⟨rfl,h2,m2⟩
   have H2:=Lib.hid h2
   have M2:Hid (Mod (fun i=>i=p) w w2):=M0.out.trans m2 fun _ _ h=>h
   clear h2 m2
   go_wp2_with fail
   exact bodyPost_end (results_none rfl _ _ _) rfl ⟨rfl,H2.out,M2.out⟩
 | true =>
   have c3:(w.alloc (.cells #[.pointer (some ⟨p,0,none⟩)] 134)).cell? ⟨p,1,none⟩=some (.int .u32 1):=by
    obtain ⟨_,_,H,hb,_⟩:=h1
    exact hb.cell 1
   have DD:=Lib.hid (fun fv=>do_done ⟨p,1,none⟩ fv _ c3)
   have M0:=Lib.hid m0
   have H1:=Lib.hid h1
   clear h h1 hbx m0 c3 hN n1
   go_enter Tryz.func184,Tryz.ntmps184
   go_wp2_with fail
   refine (DD.out _).mono ?_
   rintro e w2 ⟨rfl,rfl⟩
   go_wp2_with fail
   exact bodyPost_end (results_none rfl _ _ _) rfl ⟨rfl,H1.out,M0.out⟩
theorem ready_ok (p g V n q:Nat) (d:Bool) (a b l:Int) (w:World) (hN:Nul w) (h:PAt w p g V n d q) (hpn:p≠1) (h1:0≤a) (h2:a≤b) (h3:b≤l) :
  Calls Tryz.prog 173 #[.pointer (some ⟨p,0,none⟩),.int .i64 a,.int .i64 b,.int .i64 l] w fun e w'=>e=.returned (.int .i64 0)∧PAt w' p g V n true q∧Mod (fun i=>i=p) w w':=by
 have BP:=Lib.hid (pbuild_p p g V n q d w hN h hpn)
 have d1:decide (a < 0)=false:=decide_eq_false (by omega)
 have d2:decide (b < a)=false:=decide_eq_false (by omega)
 have d3:decide (l < b)=false:=decide_eq_false (by omega)
 clear h hN
 go_enter Tryz.func173,Tryz.ntmps173
 go_wp2_with fail
 refine BP.out.mono ?_
 rintro e w2 ⟨rfl,h2,m2⟩
 have H2:=Lib.hid h2
 have M2:=Lib.hid m2
 clear h2 m2 BP
 go_wp2_with fail
 go_ret
 exact ⟨rfl,H2.out,M2.out⟩
def ScanF (w:World) (p g V n q:Nat) (d:Bool) (i:Nat) (m:Int) (e:Ending) (w':World):Prop :=
 PAt w' p g V n d (q+1)∧Mod (fun i=>i=g) w w'∧∃ j:Nat,
  (e=.returned (.tuple #[.int .i64 (j:Int),.bool true])∧Fwd (exc V) i n m j) ∨
  (e=.returned (.tuple #[.int .i64 (j:Int),.bool false])∧j=512*(i / 512+1)∧j < n∧∀ k,i < k→k≤j→m < exc V k)
def ScanB (w:World) (p g V n q:Nat) (d:Bool) (a:Nat) (m:Int) (e:Ending) (w':World):Prop :=
 PAt w' p g V n d (q+1)∧Mod (fun i=>i=g) w w'∧∃ j:Nat,
  (e=.returned (.tuple #[.int .i64 (j:Int),.bool true])∧Bwd (exc V) a m j) ∨
  (e=.returned (.tuple #[.int .i64 (j:Int),.bool false])∧j=512*((a - 1) / 512)∧0 < j∧∀ k,j≤k→k < a→m < exc V k)
section
variable (p g V n q:Nat) (d:Bool) (w:World)
set_option maxHeartbeats 4000000 in
theorem scan_f (i:Nat) (m:Int) (h:PAt w p g V n d q) (hB:Bal (exc V) n) (hi:i < n) (hm:0≤m) (hq:q≤1000000) :
  Calls Tryz.prog 186 #[.pointer (some ⟨p,0,none⟩),.int .i64 (i:Int),.int .i64 1,.int .i64 m] w (ScanF w p g V n q d i m):=by
 have hn:=h.n9
 have EX:=Lib.hid (excess_p p g V n q d w i h (by omega) hq)
 have HB:=Lib.hid hB
 have HE:=Lib.hid (exc_Exc V)
 have BO:=Lib.hid fun w' (j:Nat)=>bitOn_f w' (j:Int)
 obtain ⟨b,hb,hb2⟩:∃ b:Nat,(i:Int) / 512=(b:Int)∧b=i / 512:=⟨i / 512,by omega,rfl⟩
 have HB2:=Lib.hid hb2
 have hbi:512*b≤i∧i < 512*(b+1):=by omega
 clear h hB hb2
 go_enter Tryz.func186,Tryz.ntmps186
 go_wp2_with (go_at_call 159;refine (BO.out _ _).mono ?_;rintro e w' ⟨rfl,rfl⟩)
 refine EX.out.mono ?_
 rintro e w2 ⟨rfl,h2,m2⟩
 have H2:=Lib.hid h2
 have M2:=Lib.hid m2
 have hbd:=HE.out.bound i
 obtain ⟨y0,hy0⟩:∃ y0,exc V i=y0:=⟨_,rfl⟩
 rw [hy0] at hbd ⊢
 have HY0:=Lib.hid hy0
 clear h2 m2 EX hy0
 go_wp2_with fail
 have HBQ:=Lib.hid hb
 clear hb
 go_loop [1,11] (fun v z=>∃ (j:Nat) (y:Int),v=.int .i64 (j:Int)∧z=.int .i64 y∧i≤j∧j < n∧j≤512*(b+1)∧-1000000≤y∧y≤1000000∧Hid (exc V j=y)∧Hid (∀ k,i < k→k≤j→m < exc V k)) (fun v _=>n - (intOf v).toNat)
 case atStart=>exact ⟨i,y0,rfl,rfl,by omega,by omega,by omega,by omega,by omega,HY0.out,fun k h1 h2=>by omega⟩
 case round =>
  clear hbd HY0
  obtain ⟨j,y,rfl,rfl,hij,hjn,hjb,hy1,hy2,hy,hab⟩:=hrel
  by_cases hin:j < 512*(b+1)
  ·have e1:(j:Int) / 512=(b:Int):=by omega
   have CH:=Lib.hid (change_f p g V n (q+1) w2 j H2.out.ix hjn)
   obtain ⟨s,hs⟩:∃ s,exc V (j+1) - exc V j=s:=⟨_,rfl⟩
   rw [hs] at CH
   have hst:=HE.out.step j
   have hs1:-1≤s∧s≤1:=by omega
   have HS:Hid (exc V (j+1)=y+s):=by show _=_;have:=hy.out;omega
   have hbd:=HE.out.bound (j+1)
   rw [HS.out] at hbd
   clear hs hst
   by_cases hle:y+s≤m
   ·have FW:Hid (Fwd (exc V) i n m (j+1)):=⟨by omega,by omega,by rw [HS.out];exact hle,fun k h1 h2=>hab.out k h1 (by omega)⟩
    go_wp2_with (first
     | (go_at_call 159;refine (BO.out _ _).mono ?_;rintro e w' ⟨rfl,rfl⟩)
     | (go_at_call 146;refine CH.out.mono ?_;rintro e w' ⟨rfl,rfl⟩))
    go_ret2
    exact ⟨H2.out,M2.out,j+1,.inl ⟨by rfl,FW.out⟩⟩
   ·have HAB:Hid (∀ k,i < k→k≤j+1→m < exc V k):=fun k h1 h2=>by
     by_cases e:k=j+1
     ·rw [e,HS.out];omega
     ·exact hab.out k h1 (by omega)
    have hjn2:j+1 < n:=by
     rcases Nat.lt_or_ge (j+1) n with g | g
     ·exact g
     ·exfalso
      have e:j+1=n:=by omega
      have h0:=HB.out.2
      rw [← e,HS.out] at h0
      omega
    have hdec:decide (y+s≤m)=false:=decide_eq_false hle
    clear hle
    go_wp2_with (first
     | (go_at_call 159;refine (BO.out _ _).mono ?_;rintro e w' ⟨rfl,rfl⟩)
     | (go_at_call 146;refine CH.out.mono ?_;rintro e w' ⟨rfl,rfl⟩))
    go_round
    case rel=>exact ⟨j+1,y+s,by go_num,rfl,by omega,by omega,by omega,by omega,by omega,HS.out,HAB.out⟩
    case measure=>simp [intOf];omega
  ·have hjj:j=512*(b+1):=by omega
   have e1:(j:Int) / 512=(b:Int)+1:=by omega
   have e2:((b:Int)+1 == (b:Int))=false:=by rw [beq_eq_false_iff_ne];omega
   have HJJ:=Lib.hid hjj
   clear hjj hin
   go_wp2_with (go_at_call 159;refine (BO.out _ _).mono ?_;rintro e w' ⟨rfl,rfl⟩)
   go_ret2
   exact ⟨H2.out,M2.out,j,.inr ⟨by rfl,by rw [← HB2.out,HJJ.out],by omega,hab.out⟩⟩
set_option maxHeartbeats 4000000 in
theorem scan_b (a:Nat) (m:Int) (h:PAt w p g V n d q) (ha:0 < a) (han:a≤n) (hm:0≤m) (hq:q≤1000000) :
  Calls Tryz.prog 186 #[.pointer (some ⟨p,0,none⟩),.int .i64 (a:Int),.int .i64 (-1),.int .i64 m] w (ScanB w p g V n q d a m):=by
 have hn:=h.n9
 have EX:=Lib.hid (excess_p p g V n q d w a h (by omega) hq)
 have HE:=Lib.hid (exc_Exc V)
 obtain ⟨i,rfl⟩:∃ i,a=i+1:=⟨a - 1,by omega⟩
 have BO:=Lib.hid fun w' (j:Nat) (hj:j≤1000000)=>bitOn_b w' ((j:Int)+1) (by omega) (by omega)
 obtain ⟨b,hb,hb2⟩:∃ b:Nat,(i:Int) / 512=(b:Int)∧b=i / 512:=⟨i / 512,by omega,rfl⟩
 have HB2:=Lib.hid hb2
 have hbi:512*b≤i∧i < 512*(b+1):=by omega
 have ei:∀ j:Nat,(j:Int)+1 - 1=(j:Int):=fun j=>by omega
 rw [show ((i+1:Nat):Int)=(i:Int)+1 by omega] at EX ⊢
 have B1:=Lib.hid fun w'=>BO.out w' i (by omega)
 rw [ei] at B1
 clear h hb2 ei
 go_enter Tryz.func186,Tryz.ntmps186
 go_wp2_with (go_at_call 159;refine (B1.out _).mono ?_;rintro e w' ⟨rfl,rfl⟩)
 refine EX.out.mono ?_
 rintro e w2 ⟨rfl,h2,m2⟩
 have H2:=Lib.hid h2
 have M2:=Lib.hid m2
 have hbd:=HE.out.bound (i+1)
 obtain ⟨y0,hy0⟩:∃ y0,exc V (i+1)=y0:=⟨_,rfl⟩
 rw [hy0] at hbd ⊢
 have HY0:=Lib.hid hy0
 clear h2 m2 EX hy0
 go_wp2_with fail
 have HBQ:=Lib.hid hb
 clear hb
 go_loop [1,11] (fun v z=>∃ (j:Nat) (y:Int),v=.int .i64 ((j:Int)+1)∧z=.int .i64 y∧j≤i∧512*b≤j+1∧-1000000≤y∧y≤1000000∧Hid (exc V (j+1)=y)∧Hid (∀ k,j+1≤k→k < i+1→m < exc V k)) (fun v _=>(intOf v).toNat)
 case atStart=>exact ⟨i,y0,rfl,rfl,by omega,by omega,by omega,by omega,HY0.out,fun k h1 h2=>by omega⟩
 case round =>
  clear hbd HY0 B1
  obtain ⟨j,y,rfl,rfl,hij,hjb,hy1,hy2,hy,hab⟩:=hrel
  have B2:=Lib.hid fun w'=>BO.out w' j (by omega)
  rw [show (j:Int)+1 - 1=(j:Int) by omega] at B2
  by_cases hin:512*b≤j
  ·have e1:(j:Int) / 512=(b:Int):=by omega
   have CH:=Lib.hid (change_b p g V n (q+1) w2 j H2.out.ix (by omega))
   obtain ⟨s,hs⟩:∃ s,exc V j - exc V (j+1)=s:=⟨_,rfl⟩
   rw [hs] at CH
   have hst:=HE.out.step j
   have hs1:-1≤s∧s≤1:=by omega
   have HS:Hid (exc V j=y+s):=by show _=_;have:=hy.out;omega
   have hbd:=HE.out.bound j
   rw [HS.out] at hbd
   have ej:(j:Int)+1+-1=(j:Int):=by omega
   clear hs hst
   by_cases hle:y+s≤m
   ·have FW:Hid (Bwd (exc V) (i+1) m j):=⟨by omega,by rw [HS.out];exact hle,fun k h1 h2=>hab.out k (by omega) h2⟩
    go_wp2_with (first
     | (go_at_call 159;refine (B2.out _).mono ?_;rintro e w' ⟨rfl,rfl⟩)
     | (go_at_call 146;refine CH.out.mono ?_;rintro e w' ⟨rfl,rfl⟩))
    go_ret2
    exact ⟨H2.out,M2.out,j,.inl ⟨by rfl,FW.out⟩⟩
   ·have HAB:Hid (∀ k,j≤k→k < i+1→m < exc V k):=fun k h1 h2=>by
     by_cases e:k=j
     ·rw [e,HS.out];omega
     ·exact hab.out k (by omega) h2
    have hj0:0 < j:=by
     rcases Nat.eq_zero_or_pos j with g | g
     ·exfalso
      have h0:=HE.out.zero
      rw [← g,HS.out] at h0
      omega
     ·exact g
    obtain ⟨j',rfl⟩:∃ j',j=j'+1:=⟨j - 1,by omega⟩
    have hdec:decide (y+s≤m)=false:=decide_eq_false hle
    clear hle
    go_wp2_with (first
     | (go_at_call 159;refine (B2.out _).mono ?_;rintro e w' ⟨rfl,rfl⟩)
     | (go_at_call 146;refine CH.out.mono ?_;rintro e w' ⟨rfl,rfl⟩))
    go_round
    case rel=>exact ⟨j',y+s,congrArg (Value.int .i64) (by omega),rfl,by omega,by omega,by omega,by omega,HS.out,HAB.out⟩
    case measure=>simp [intOf];omega
  ·have hj1:j+1=512*b:=by omega
   obtain ⟨b',rfl⟩:∃ b',b=b'+1:=⟨b - 1,by omega⟩
   have e1:(j:Int) / 512=(b':Int):=by omega
   have e2:((b':Int) == (b':Int)+1)=false:=by rw [beq_eq_false_iff_ne];omega
   have HJ1:=Lib.hid hj1
   clear hj1
   go_wp2_with (go_at_call 159;refine (B2.out _).mono ?_;rintro e w' ⟨rfl,rfl⟩)
   go_ret2
   exact ⟨H2.out,M2.out,j+1,.inr ⟨by rfl,by rw [HJ1.out,HB2.out];rfl,by omega,hab.out⟩⟩
end
end Go.Proofs.YtajjgpkahljjmaaGreatDoor
namespace Go.Proofs.YtajjgpkahljjmaaGreatDoor
set_option maxRecDepth 20000
structure TrAt (w:World) (E:Nat→Int) (n S H M:Nat) (T:Nat→Int × Int):Prop where
 rd:RdT w S T M
 ok:TreeOK E n H (fun x=>T (x - 1))
 lt:S < w.heap.size
 hM:M+1=2*2 ^ H
 lv:Lvs ((n+511) / 512) H
theorem TrAt.below {w w':World} {E:Nat→Int} {n S H M:Nat} {T:Nat→Int × Int} (h:TrAt w E n S H M T) (m:Below w.heap.size w w'):TrAt w' E n S H M T :=
 ⟨h.rd.below h.lt m,h.ok,by have:=m.size;have:=h.lt;omega,h.hM,h.lv⟩
def Hang (H x h a:Nat):Prop:=x*2 ^ h=2 ^ H+a∧h≤H∧a < 2 ^ H
theorem Hang.log {H x h a:Nat} (k:Hang H x h a):Nat.log2 x=H - h:=by
 obtain ⟨h1,h2,h3⟩:=k
 have hp:0 < 2 ^ h:=Nat.two_pow_pos h
 have e1:2 ^ H=2 ^ (H - h)*2 ^ h:=by rw [← Nat.pow_add,show H - h+h=H by omega]
 have x0:x≠0:=fun e=>by subst e;have:=Nat.two_pow_pos H;omega
 have l1:2 ^ (H - h)≤x:=by
  rcases Nat.lt_or_ge x (2 ^ (H - h)) with g | g
  ·have:=Nat.mul_lt_mul_of_pos_right g hp;omega
  ·exact g
 have l2:x < 2 ^ (H - h+1):=by
  rcases Nat.lt_or_ge x (2 ^ (H - h+1)) with g | g
  ·exact g
  ·have:=Nat.mul_le_mul_right (2 ^ h) g
   rw [pow_up,Nat.mul_assoc,← e1] at this;omega
 have a1:=(Nat.le_log2 x0).2 l1
 have a2:=(Nat.log2_lt x0).2 l2
 omega
def posn (H x:Nat):Nat:=x*2 ^ (H - Nat.log2 x)
theorem Hang.posn {H x h a:Nat} (k:Hang H x h a):posn H x=2 ^ H+a:=by
 unfold Go.Proofs.YtajjgpkahljjmaaGreatDoor.posn
 rw [k.log,show H - (H - h)=h by have:=k.2.1;omega]
 exact k.1
theorem Has.sub {E:Nat→Int} {n a b c d:Nat} {m:Int} (h:Has E n b c m) (h1:a≤b) (h2:c≤d):Has E n a d m:=by
 obtain ⟨i,i1,i2,i3⟩:=h
 exact ⟨i,by omega,by omega,i3⟩
theorem Has.split {E:Nat→Int} {n a b c:Nat} {m:Int} (h:Has E n a c m) (hl:¬ Has E n a b m) (hbc:b≤c):Has E n b c m∧512*b < n:=by
 obtain ⟨i,i1,i2,i3⟩:=h
 by_cases hi:i≤min (512*b) n
 ·exact absurd ⟨i,i1,hi,i3⟩ hl
 ·exact ⟨⟨i,by omega,i2,i3⟩,by omega⟩
theorem Has.splitL {E:Nat→Int} {n a b c:Nat} {m:Int} (h:Has E n a c m) (hr:¬ Has E n b c m) (hab:a≤b):Has E n a b m:=by
 obtain ⟨i,i1,i2,i3⟩:=h
 by_cases hi:512*b≤i
 ·exact absurd ⟨i,hi,i2,i3⟩ hr
 ·exact ⟨i,i1,by omega,i3⟩
def NoHas (E:Nat→Int) (n j a:Nat) (m:Int):Prop:=∀ k,j≤k→k < a→¬ Has E n k (k+1) m
theorem NoHas.on {E:Nat→Int} {n j a b:Nat} {m:Int} (h:NoHas E n j a m) (k:¬ Has E n a b m):NoHas E n j b m:=fun i h1 h2 hi=>by
 rcases Nat.lt_or_ge i a with g | g
 ·exact h i h1 g hi
 ·exact k (hi.sub g (by omega))
theorem NoHas.back {E:Nat→Int} {n a b c:Nat} {m:Int} (h:NoHas E n b c m) (k:¬ Has E n a b m):NoHas E n a c m:=fun i h1 h2 hi=>by
 rcases Nat.lt_or_ge i b with g | g
 ·exact k (hi.sub h1 (by omega))
 ·exact h i g h2 hi
structure FirstB (E:Nat→Int) (n j:Nat) (m:Int) (r:Nat):Prop where
 le:j≤r
 lt:512*r < n
 has:Has E n r (r+1) m
 none_:NoHas E n j r m
structure LastB (E:Nat→Int) (n j:Nat) (m:Int) (r:Nat):Prop where
 le:r≤j
 has:Has E n r (r+1) m
 none_:NoHas E n (r+1) (j+1) m
theorem leafk_p (w:World) (A:Option Addr) (m c L k:Nat) (hm:m+1=2*L) (hL:L≤100000) (hk:k≤100000) :
  Calls Tryz.prog 205 #[.slice A m c,.int .i64 (k:Int)] w fun e w'=>e=.returned (.int .i64 ((L+k:Nat):Int))∧w=w':=by
 have:=leaf_p w A m c k (by omega) (by omega)
 rw [show m / 2+1+k=L+k by omega] at this
 exact this
theorem node_p {w:World} {E:Nat→Int} (hE:Exc E) {n S H M:Nat} {T:Nat→Int × Int} (h:TrAt w E n S H M T) (hn:n≤1000000) (c x k a:Nat) (hx:Hang H x k a) :
  Calls Tryz.prog 207 #[.slice (some ⟨S,0,none⟩) M c,.int .i64 (x:Int)] w fun e w'=>e=.returned (ndv (nd E n a (a+2 ^ k)))∧Below w.heap.size w w':=by
 have h1:=node_end hx.2.1 hx.1 hx.2.2
 have h2:=h.hM
 have h3:=h.lv.le (by omega)
 have:=nodeAt_p w S M c x T h.rd (by omega) (by omega) (by omega) h.lt
 rw [show T (x - 1)=_ from h.ok x k a hx.2.1 hx.1 hx.2.2] at this
 exact this
def FindF (w:World) (E:Nat→Int) (n j:Nat) (m:Int) (e:Ending) (w':World):Prop:=∃ r:Nat,e=.returned (.int .i64 (r:Int))∧FirstB E n j m r∧Below w.heap.size w w'
set_option maxHeartbeats 4000000 in
theorem find_f (w:World) (E:Nat→Int) (hE:Exc E) (n S H M:Nat) (T:Nat→Int × Int) (h:TrAt w E n S H M T) (hn:n≤1000000) (c j:Nat) (m:Int) (hj:512*j < n)
  (ht:∃ t,j≤t∧512*t < n∧Has E n t (t+1) m) :
  Calls Tryz.prog 198 #[.slice (some ⟨S,0,none⟩) M c,.int .i64 (j:Int),.int .i64 1,.int .i64 (E (512*j)),.int .i64 m] w (FindF w E n j m):=by
 obtain ⟨t,ht1,ht2,ht3⟩:=ht
 have HT3:=Lib.hid ht3
 have HE:=Lib.hid hE
 have HX:=Lib.hid h
 have hM:=h.hM
 have hL9:=h.lv.le (by omega)
 have hBL:=h.lv.1
 have LF:=Lib.hid (leafk_p w (some ⟨S,0,none⟩) M c (2 ^ H) j hM (by omega) (by omega))
 have L0:=Lib.hid fun w'=>leaf0_p w' (some ⟨S,0,none⟩) M c (2 ^ H) hM (by omega)
 have AT:=Lib.hid fun w' (b':Below w.heap.size w w') x k a (hx:Hang H x k a)=>node_p hE (h.below b') hn c x k a hx
 have hb0:=hE.bound (512*j)
 have hang0:Hid (Hang H (2 ^ H+j) 0 j):=⟨by rw [Nat.pow_zero,Nat.mul_one],by omega,by omega⟩
 have hp0:0 < 2 ^ H:=Nat.two_pow_pos H
 generalize hy0:E (512*j)=y0 at *
 have HY0:=Lib.hid hy0
 generalize hPL:2 ^ H=L at *
 have HPL:=Lib.hid hPL
 have htL:t < L:=by omega
 clear h hE ht3 hy0 hPL
 go_enter Tryz.func198,Tryz.ntmps198
 go_wp2_with fail
 refine LF.out.mono ?_
 rintro e w1 ⟨rfl,rfl⟩
 clear LF
 go_wp2_with fail
 go_loopw [3,11] (fun z v wr=>∃ (x k a:Nat) (y:Int),v=.int .i64 (x:Int)∧z=.int .i64 y∧-1000000≤y∧y≤1000000∧x≤2*L∧j≤a∧a≤t∧512*a < n∧Hid (y=E (512*a))∧Hid (Hang H x k a)∧Hid (NoHas E n j a m)∧Hid (Below w.heap.size w wr)) (fun _ v _=>2*L - posn H (intOf v).toNat)
 case atStart=>exact ⟨L+j,0,j,y0,rfl,rfl,by omega,by omega,by omega,by omega,by omega,by omega,HY0.out.symm,hang0.out,fun i h1 h2=>by omega,Below.refl _ _⟩
 case round =>
  clear hang0 HY0
  obtain ⟨x,k,a,y,rfl,rfl,hy1,hy2,hx9,hja,hat,han,hy,hh,hno,hbel⟩:=hrel
  have hend:=node_end hh.out.2.1 hh.out.1 hh.out.2.2
  rw [HPL.out] at hend
  have hpk:0 < 2 ^ k:=Nat.two_pow_pos k
  have A1:=Lib.hid (AT.out wr hbel.out x k a hh.out)
  have hfit:=nd_fits HE.out hn a (a+2 ^ k)
  have HI:=Lib.hid (has_iff (E:=E) (n:=n) (a:=a) (b:=a+2 ^ k) han (by omega) m)
  have ND:=Lib.hid (nd_end (E:=E) (n:=n) (a:=a) (b:=a+2 ^ k) han (by omega))
  rw [← hy.out] at HI ND
  obtain ⟨ee,hee⟩:∃ ee,a+2 ^ k=ee:=⟨_,rfl⟩
  rw [hee] at A1 hfit HI ND hend
  have hae:a < ee:=by omega
  have HP1:Hid (posn H x=L+a):=by show _=_;rw [hh.out.posn,HPL.out]
  obtain ⟨p,hp⟩:∃ p,nd E n a ee=p:=⟨_,rfl⟩
  rw [hp] at A1 hfit HI ND
  have HEE:=Lib.hid hee
  have HPN:=Lib.hid hp
  clear hp hee hpk
  obtain ⟨s,l⟩:=p
  have hs1:=hfit.a1
  have hs2:=hfit.a2
  have HFIT:=Lib.hid hfit
  simp only at hs1 hs2 HI ND
  clear hfit
  by_cases hhas:y+l≤m
  ·have HF:=Lib.hid fun w'=>has_f w' (s,l) y m HFIT.out (by omega)
   simp only at HF
   rw [show decide (y+l≤m)=true from decide_eq_true hhas] at HF
   have HHS:Hid (Has E n a (a+2 ^ k) m):=by show Has _ _ _ _ _;rw [HEE.out];exact HI.out.1 hhas
   clear hhas HI ND
   go_wp2_with fail
   refine A1.out.mono ?_
   rintro e w2 ⟨rfl,b2⟩
   have hb2:Hid (Below w.heap.size w w2):=hbel.out.trans (b2.mono hbel.out.size)
   clear A1 b2
   go_wp2_with fail
   refine (HF.out w2).mono ?_
   rintro e w3 ⟨rfl,b3⟩
   have hb3:Hid (Below w.heap.size w w3):=hb2.out.trans (b3.mono hb2.out.size)
   clear b3 hb2 HF
   go_wp2_with fail
   go_loopw [3,11] (fun z v wq=>∃ (x k a:Nat) (y:Int),v=.int .i64 (x:Int)∧z=.int .i64 y∧-1000000≤y∧y≤1000000∧x≤2*L∧j≤a∧512*a < n∧Hid (y=E (512*a))∧Hid (Hang H x k a)∧Hid (NoHas E n j a m)∧Hid (Has E n a (a+2 ^ k) m)∧Hid (Below w.heap.size w wq)) (fun _ v _=>2*L - (intOf v).toNat)
   case atStart=>exact ⟨x,k,a,y,rfl,rfl,by omega,by omega,by omega,by omega,by omega,hy.out,hh.out,hno.out,HHS.out,hb3.out⟩
   case round =>
    clear hy hh hno HHS hb3 hbel HEE HFIT hend HP1 hs1 hs2 hae hat han hja hx9 hy1 hy2
    obtain ⟨x,k,a,y,rfl,rfl,hy1,hy2,hx9,hja,han,hy,hh,hno,hhs,hbel⟩:=hrel
    cases k with
    | zero =>
      have hx:x=L+a:=by have:=hh.out.1;rw [Nat.pow_zero,HPL.out] at this;omega
      subst hx
      go_wp2_with (go_at_call 205;refine (L0.out _).mono ?_;rintro e w' ⟨rfl,rfl⟩)
      go_ret
      exact ⟨a,congrArg (fun z=>Ending.returned (.int .i64 z)) (by omega),⟨by omega,by omega,hhs.out,hno.out⟩,hbel.out⟩
    | succ k =>
      obtain ⟨q1,q2,q3⟩:=node_kids hh.out.2.1 hh.out.1 hh.out.2.2
      have hpk:0 < 2 ^ k:=Nat.two_pow_pos k
      have hk1:Hid (Hang H (x*2) k a):=⟨by rw [Nat.mul_comm x 2];exact q1,by have:=hh.out.2.1;omega,hh.out.2.2⟩
      have hk2:Hid (Hang H (x*2+1) k (a+2 ^ k)):=⟨by rw [Nat.mul_comm x 2];exact q2,by have:=hh.out.2.1;omega,q3⟩
      have hend:=node_end hk2.out.2.1 hk2.out.1 hk2.out.2.2
      rw [HPL.out] at hend
      have hxL:x < L:=by omega
      have hx1:1≤x:=(node_end hh.out.2.1 hh.out.1 hh.out.2.2).2.1
      have e2:((x*2:Nat):Int)=(x:Int)*2:=by omega
      have A1:=Lib.hid fun w' b'=>AT.out w' b' (x*2) k a hk1.out
      rw [e2] at A1
      have IF:=Lib.hid fun w'=>isFar_f w' (x*2) (by omega)
      rw [show decide (x*2%2=1)=false from decide_eq_false (by omega),e2] at IF
      have hfit:=nd_fits HE.out hn a (a+2 ^ k)
      have HI:=Lib.hid (has_iff (E:=E) (n:=n) (a:=a) (b:=a+2 ^ k) han (by omega) m)
      have ND:=Lib.hid (nd_end (E:=E) (n:=n) (a:=a) (b:=a+2 ^ k) han (by omega))
      rw [← hy.out] at HI ND
      have HH2:Hid (Has E n a (a+2 ^ k+2 ^ k) m):=by
       show Has _ _ _ _ _
       have:=hhs.out
       rw [pow_up] at this
       rw [show a+2 ^ k+2 ^ k=a+2*2 ^ k by omega]
       exact this
      obtain ⟨ee,hee⟩:∃ ee,a+2 ^ k=ee:=⟨_,rfl⟩
      rw [hee] at A1 hfit HI ND HH2 hk2
      have HEE:=Lib.hid hee
      have hae:a≤ee:=by omega
      obtain ⟨p,hp⟩:∃ p,nd E n a ee=p:=⟨_,rfl⟩
      rw [hp] at A1 hfit HI ND
      clear hp hee hpk q1 q2 q3 hh hhs hend e2
      obtain ⟨s,l⟩:=p
      have hs1:=hfit.a1
      have hs2:=hfit.a2
      have HFIT:=Lib.hid hfit
      simp only at hs1 hs2 HI ND
      clear hfit
      by_cases hl:y+l≤m
      ·have HF:=Lib.hid fun w'=>has_f w' (s,l) y m HFIT.out (by omega)
       unfold ndv at HF A1
       simp only at HF A1
       rw [show decide (y+l≤m)=true from decide_eq_true hl] at HF
       have HHS:Hid (Has E n a (a+2 ^ k) m):=by show Has _ _ _ _ _;rw [HEE.out];exact HI.out.1 hl
       clear hl HI ND HH2
       go_wp2_with (first
        | (go_at_call 205;refine (L0.out _).mono ?_;rintro e w' ⟨rfl,rfl⟩)
        | (go_at_call 209;refine (IF.out _).mono ?_;rintro e w' ⟨rfl,rfl⟩))
       refine (A1.out _ hbel.out).mono ?_
       rintro e w2 ⟨rfl,b2⟩
       have hb2:Hid (Below w.heap.size w w2):=hbel.out.trans (b2.mono hbel.out.size)
       clear A1 b2
       go_wp2_with fail
       refine (HF.out _).mono ?_
       rintro e w3 ⟨rfl,b3⟩
       have hb3:Hid (Below w.heap.size w w3):=(hb2.out.alloc hb2.out.size _).trans (b3.mono (by have:=hb2.out.size;simp;omega))
       clear b3 hb2 HF
       go_wp2_with fail
       go_roundw
       case rel=>exact ⟨x*2,k,a,y,by go_num,rfl,by omega,by omega,by omega,by omega,by omega,hy.out,hk1.out,hno.out,HHS.out,hb3.out⟩
       case measure=>simp [intOf];omega
      ·have HF:=Lib.hid fun w'=>has_f w' (s,l) y m HFIT.out (by omega)
       unfold ndv at HF A1
       simp only at HF A1
       rw [show decide (y+l≤m)=false from decide_eq_false hl] at HF
       have HNL:¬ Has E n a ee m:=fun g=>hl (HI.out.2 g)
       have hsp:=HH2.out.split HNL (Nat.le_add_right _ _)
       have hen:=hsp.2
       have HHS:Hid (Has E n ee (ee+2 ^ k) m):=hsp.1
       have HNO:Hid (NoHas E n j ee m):=hno.out.on HNL
       have NY:Hid (y+s=E (512*ee)):=by show _=_;rw [ND.out,Nat.min_eq_left (by omega)]
       have hb9:=HE.out.bound (512*ee)
       rw [← NY.out] at hb9
       clear hl HI ND HH2 HNL hsp
       go_wp2_with (first
        | (go_at_call 205;refine (L0.out _).mono ?_;rintro e w' ⟨rfl,rfl⟩)
        | (go_at_call 209;refine (IF.out _).mono ?_;rintro e w' ⟨rfl,rfl⟩))
       refine (A1.out _ hbel.out).mono ?_
       rintro e w2 ⟨rfl,b2⟩
       have hb2:Hid (Below w.heap.size w w2):=hbel.out.trans (b2.mono hbel.out.size)
       clear A1 b2
       go_wp2_with fail
       refine (HF.out _).mono ?_
       rintro e w3 ⟨rfl,b3⟩
       have hb3:Hid (Below w.heap.size w w3):=(hb2.out.alloc hb2.out.size _).trans (b3.mono (by have:=hb2.out.size;simp;omega))
       have hc3:w3.cell? ⟨w2.heap.size,0,none⟩=some (.int .i32 s):=(b3.cell (p:=⟨w2.heap.size,0,none⟩) (by simp)).trans ((Blk.new w2 _ _).cell 0)
       clear b3 hb2 HF
       go_wp2_with fail
       go_roundw
       case rel=>exact ⟨x*2+1,k,ee,y+s,by go_num,rfl,by omega,by omega,by omega,by omega,by omega,NY.out,hk2.out,HNO.out,HHS.out,hb3.out⟩
       case measure=>simp [intOf];omega
  ·have HF:=Lib.hid fun w'=>has_f w' (s,l) y m HFIT.out (by omega)
   simp only at HF
   rw [show decide (y+l≤m)=false from decide_eq_false hhas] at HF
   have HNL:¬ Has E n a ee m:=fun g=>hhas (HI.out.2 g)
   have het:ee≤t:=by
    rcases Nat.lt_or_ge t ee with g | g
    ·exact absurd (HT3.out.sub (show a≤t by omega) (show t+1≤ee by omega)) HNL
    ·exact g
   have HNO:Hid (NoHas E n j ee m):=hno.out.on HNL
   have NY:Hid (y+s=E (512*ee)):=by show _=_;rw [ND.out,Nat.min_eq_left (by omega)]
   have hb9:=HE.out.bound (512*ee)
   rw [← NY.out] at hb9
   have FS:=fld_nd (s,l)
   simp only at FS
   clear hhas HI ND HNL
   go_wp2_with fail
   refine A1.out.mono ?_
   rintro e w2 ⟨rfl,b2⟩
   have hb2:Hid (Below w.heap.size w w2):=hbel.out.trans (b2.mono hbel.out.size)
   clear A1 b2
   go_wp2_with fail
   refine (HF.out w2).mono ?_
   rintro e w3 ⟨rfl,b3⟩
   have hb3:Hid (Below w.heap.size w w3):=hb2.out.trans (b3.mono hb2.out.size)
   have A2:=Lib.hid (AT.out w3 hb3.out x k a hh.out)
   rw [HEE.out,HPN.out] at A2
   clear b3 hb2 HF
   go_wp2_with fail
   refine A2.out.mono ?_
   rintro e w4 ⟨rfl,b4⟩
   have hb4:Hid (Below w.heap.size w w4):=hb3.out.trans (b4.mono hb3.out.size)
   clear b4 hb3 A2
   go_wp2_with fail
   go_loop [11] (fun v=>∃ (x2 k2 a2:Nat),v=.int .i64 (x2:Int)∧x2≤2*L∧1≤x2∧Hid (Hang H x2 k2 a2)∧Hid (a2+2 ^ k2=ee)) (fun v=>(intOf v).toNat)
   case atStart=>exact ⟨x,k,a,rfl,by omega,by omega,hh.out,HEE.out⟩
   case round =>
    obtain ⟨x2,k2,a2,rfl,hx2,hx21,hh2,he2⟩:=hrel
    have IF:=Lib.hid fun w'=>isFar_f w' x2 (by omega)
    by_cases hodd:x2%2=1
    ·rw [show decide (x2%2=1)=true from decide_eq_true hodd] at IF
     obtain ⟨a3,u1,u2,u3,u4⟩:=up_forth hh2.out.1 hh2.out.2.2 hh2.out.2.1 hodd (by rw [he2.out,HPL.out];omega)
     have HH3:Hid (Hang H (x2 / 2) (k2+1) a3):=⟨u1,u3,u4⟩
     have HE3:Hid (a3+2 ^ (k2+1)=ee):=by show _=_;rw [u2,he2.out]
     have hx31:=(node_end u3 u1 u4).2.1
     clear hodd u1 u2 u3 u4
     go_wp2_with (go_at_call 209;refine (IF.out _).mono ?_;rintro e w' ⟨rfl,rfl⟩)
     go_round
     case rel=>exact ⟨x2 / 2,k2+1,a3,congrArg (Value.int .i64) (by omega),by omega,hx31,HH3.out,HE3.out⟩
     case measure=>simp [intOf];omega
    ·rw [show decide (x2%2=1)=false from decide_eq_false hodd] at IF
     have HH3:Hid (Hang H (x2+1) k2 ee):=⟨by rw [Nat.add_mul,hh2.out.1,Nat.one_mul,Nat.add_assoc,he2.out],hh2.out.2.1,by rw [HPL.out];omega⟩
     have HP2:Hid (posn H (x2+1)=L+ee):=by show _=_;rw [HH3.out.posn,HPL.out]
     have hx29:x2+1≤2*L:=by have:=node_end HH3.out.2.1 HH3.out.1 HH3.out.2.2;rw [HPL.out] at this;omega
     clear hodd
     go_wp2_with (go_at_call 209;refine (IF.out _).mono ?_;rintro e w' ⟨rfl,rfl⟩)
     go_roundw
     case rel=>exact ⟨x2+1,k2,ee,y+s,by go_num,rfl,by omega,by omega,by omega,by omega,by omega,by omega,NY.out,HH3.out,HNO.out,hb4.out⟩
     case measure =>
      show 2*L - posn H ((x2:Int)+1).toNat < 2*L - posn H ((x:Int)).toNat
      rw [show ((x2:Int)+1).toNat=x2+1 by omega,show ((x:Int)).toNat=x by omega,HP1.out,HP2.out]
      omega
end Go.Proofs.YtajjgpkahljjmaaGreatDoor
