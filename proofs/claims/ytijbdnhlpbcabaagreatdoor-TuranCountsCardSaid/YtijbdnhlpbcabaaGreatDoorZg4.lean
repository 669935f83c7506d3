/- takeLast: the last one of a list of ints. spread: a part is flooded. slices.Repeat of one int. euler.Names: of each dart its part. -/
import Derived.Test.YtijbdnhlpbcabaaGreatDoorZENames
import Derived.Test.YtijbdnhlpbcabaaGreatDoorZg1
import Derived.Test.YtijbdnhlpbcabaaGreatDoorZg3
import Derived.Laws.Bits64b
import Derived.Laws.CopyOwn
open Go.RowKit
set_option linter.unusedVariables false
namespace Go.Proofs.YtijbdnhlpbcabaaGreatDoor
set_option maxRecDepth 20000
theorem take_p (q g k c:Nat) (z:List Int) (x:Int) (B:Nat) (w:World) (hb:Blk w q 25 #[.slice (some ⟨g,0,none⟩) (k+1) c]) (hc:k+1≤c) (hr:w.cell? ⟨g,k,none⟩=some (.int .i64 x)) (hk:k < 9223372036854775807) :
  Calls Tryz.prog 156 #[.pointer (some ⟨q,0,none⟩)] w fun e w'=>e=.returned (.int .i64 x)∧w'=w.setCell ⟨q,0,none⟩ (.slice (some ⟨g,0,none⟩) k c):=by
 have s0:=hb.cell 0
 simp at s0
 have f0:=hb.frozen 0
 go_enter Tryz.func156,Tryz.ntmps156
 go_wp2_with fail
 go_ret
 exact ⟨rfl,rfl⟩
end Go.Proofs.YtijbdnhlpbcabaaGreatDoor
namespace Go.Proofs.YtijbdnhlpbcabaaGreatDoor
set_option maxRecDepth 20000
def sgL (l:List Nat):Nat→Nat:=fun i=>l.getD i 0
def part (l:List Nat):Nat→Nat→Prop:=gk (sgL l) (l.length / 2)
theorem sgL_pf {l b:List Nat} (h:Inv l b):PF l.length (sgL l):=⟨fun i hi=>h.lt i hi,fun i j hi hj e=>h.inj i j hi hj e⟩
theorem mt_mateN (i:Nat):mateN i=mt i:=by rw [mateN_eq];rfl
theorem spr_set {w:World} {base g:Nat} {v:Value} {n:Nat} {xs:List Value} {e:TypeId} (h:w.ownsRow base e 1 v n xs) (hg:v.ownBlock≠some g) (k:Nat) (u:Value):(w.setCell ⟨g,k,none⟩ u).ownsRow base e 1 v n xs :=
 own_mod h (Mod.setCell (p:=⟨g,k,none⟩) (Mod.refl (fun i=>i=g) w) (fun _=>rfl) _) fun i hi e=>hg (by rw [hi,e])
theorem spr_ne {w:World} {base g:Nat} {v:Value} {n:Nat} {xs:List Value} {e:TypeId} (h:w.ownsRow base e 1 v n xs) (hg:g < base):v.ownBlock≠some g:=fun e=>by have:=(h.lt g e).1;omega
structure SSt (w:World) (B gn n c:Nat) (l:List Nat) (d:Nat) (pt:Int) (N0:List Int) (E:Nat→Prop) (nm:List Int) (W:List Nat) (k:Nat) (Av:Option Addr) (cw:Nat) (wr:World):Prop where
 fl:Fl l.length (l.length / 2) (sgL l) N0 d pt E nm W
 wl:W.length=k
 on:wr.ownsRow B 3 1 (.slice (some ⟨gn,0,none⟩) n c) n (I64 nm)
 ow:wr.ownsRow w.heap.size 3 1 (.slice Av k cw) k (I64 (ofN W))
 bx:Blk wr (w.heap.size+1) 25 #[.slice Av k cw]
 be:Below B w wr
 lt:gn < w.heap.size
section
variable {w wr:World} {B gn n c:Nat} {l:List Nat} {d:Nat} {pt:Int} {N0:List Int} {E E':Nat→Prop} {nm nm':List Int} {W W1:List Nat} {k:Nat} {Av:Option Addr} {cw:Nat}
theorem SSt.put (h:SSt w B gn n c l d pt N0 E nm W k Av cw wr) (y:Nat):(wr.setCell ⟨gn,y,none⟩ (.int .i64 pt)).ownsRow B 3 1 (.slice (some ⟨gn,0,none⟩) n c) n (I64 (nm.set y pt)) ∧
  (wr.setCell ⟨gn,y,none⟩ (.int .i64 pt)).ownsRow w.heap.size 3 1 (.slice Av k cw) k (I64 (ofN W))∧Blk (wr.setCell ⟨gn,y,none⟩ (.int .i64 pt)) (w.heap.size+1) 25 #[.slice Av k cw]∧Below B w (wr.setCell ⟨gn,y,none⟩ (.int .i64 pt)):=by
 refine ⟨own_setI h.on y pt,spr_set h.ow (spr_ne h.ow h.lt) _ _,?_,h.be.setCell (own_block h.on).1 _⟩
 have hlt:=h.lt
 exact h.bx.mod (Mod.setCell (p:=⟨gn,y,none⟩) (Mod.refl (fun i=>i=gn) wr) (fun _=>rfl) _) (by omega)
theorem SSt.push {v1 v2:World} {y c':Nat} {A':Option Addr} (hB:B≤w.heap.size) (hlt:gn < w.heap.size) (hs:w.heap.size≤v1.heap.size) (h1:v1.ownsRow B 3 1 (.slice (some ⟨gn,0,none⟩) n c) n (I64 nm)) (h2:v1.ownsRow w.heap.size 3 1 (.slice Av k cw) k (I64 (ofN W)))
  (h3:Blk v1 (w.heap.size+1) 25 #[.slice Av k cw]) (h4:Below B w v1) (hk:W.length=k) (o:Obj)
  (ho:v2.ownsRow w.heap.size 3 1 (.slice A' (k+1) c') (k+1) (I64 (ofN W)++I64 [(y:Int)])) (hg:(v1.alloc o).grownBy v2 (Value.slice Av k cw).ownBlock)
  (f:Fl l.length (l.length / 2) (sgL l) N0 d pt E nm (W++[y])):SSt w B gn n c l d pt N0 E nm (W++[y]) (k+1) A' c' (v2.setCell ⟨w.heap.size+1,0,none⟩ (.slice A' (k+1) c')):=by
 have m:=Mod.ofGrown hg
 have hne:(Value.slice Av k cw).ownBlock≠some gn:=spr_ne h2 hlt
 have hnb:(Value.slice Av k cw).ownBlock≠some (w.heap.size+1):=own_ne h2 h3 (by decide)
 have b2:Blk v2 (w.heap.size+1) 25 #[.slice Av k cw]:=(h3.alloc o).mod m fun e=>hnb e.symm
 have n2:=own_mod (h1.alloc o) m fun i hi e=>by
  have:i=gn:=by simpa [Value.ownBlock] using hi.symm
  exact hne (by rw [← e,this])
 have e2:I64 (ofN W)++I64 [(y:Int)]=I64 (ofN (W++[y])):=by rw [ofN_append,I64_append];rfl
 rw [e2] at ho
 refine ⟨f,by simp [hk],spr_set n2 (by simp [Value.ownBlock];omega) _ _,spr_set ho (own_ne ho b2 (by decide)) _ _,?_,?_,hlt⟩
 ·have:=b2.set_ 0 (.slice A' (k+1) c')
  simpa using this
 ·exact ((h4.alloc (Nat.le_trans hB hs) o).trans (Below.appended (h2.alloc o) hg (by simp;omega) |>.mono hB)).setCell (by show B≤w.heap.size+1;omega) _
theorem SSt.pop {a g2:Nat} (hB:B≤w.heap.size) (h:SSt w B gn n c l d pt N0 (fun _=>False) nm (W++[a]) (k+1) (some ⟨g2,0,none⟩) cw wr) :
  SSt w B gn n c l d pt N0 (fun x=>x=a) nm W k (some ⟨g2,0,none⟩) cw (wr.setCell ⟨w.heap.size+1,0,none⟩ (.slice (some ⟨g2,0,none⟩) k cw))∧a < l.length∧part l d a:=by
 obtain ⟨f1,f2,f3⟩:=h.fl.pop
 have hk:W.length=k:=by have:=h.wl;simp at this;omega
 have hlt:=h.lt
 refine ⟨⟨f1,hk,spr_set h.on (by simp [Value.ownBlock];omega) _ _,?_,?_,h.be.setCell (by show B≤w.heap.size+1;omega) _,hlt⟩,f2,f3⟩
 ·refine spr_set ?_ (by simpa [Value.ownBlock] using own_ne h.ow h.bx (by decide)) _ _
  have:=h.ow
  rw [ofN_append,I64_append] at this
  exact ownsRow_pop (last:=I64 (ofN [a])) (by rw [I64_len,ofN_len,hk];omega) this
 ·have:=h.bx.set_ 0 (.slice (some ⟨g2,0,none⟩) k cw)
  simpa using this
theorem SSt.below {w':World} (hB:B≤w.heap.size) (h:SSt w B gn n c l d pt N0 E nm W k Av cw wr) (m:Below wr.heap.size wr w'):SSt w B gn n c l d pt N0 E nm W k Av cw w' :=
 ⟨h.fl,h.wl,own_below h.on m,own_below h.ow m,h.bx.below m,h.be.trans (m.mono (Nat.le_trans hB h.be.size)),h.lt⟩
end
def rowOf (wr:World) (gn n:Nat):List Int:=(List.range n).map fun i=>intOf ((wr.cell? ⟨gn,i,none⟩).getD (.bool false))
def spM (wr:World) (gn n q:Nat):Nat:=2*un (rowOf wr gn n)+lenOf ((wr.cell? ⟨q,0,none⟩).getD (.bool false))
theorem rowOf_is {wr:World} {B gn n c:Nat} {nm:List Int} (h:wr.ownsRow B 3 1 (.slice (some ⟨gn,0,none⟩) n c) n (I64 nm)):rowOf wr gn n=nm:=by
 have hl:=own_lenI h
 apply getDI_ext (by simp [rowOf,hl])
 intro i hi
 have hi:i < n:=by simpa [rowOf] using hi
 unfold rowOf
 rw [List.getD_eq_getElem?_getD,List.getElem?_map,List.getElem?_range hi]
 simp [own_cellI h i hi,intOf]
theorem SSt.meas {w wr:World} {B gn n c:Nat} {l:List Nat} {d:Nat} {pt:Int} {N0:List Int} {E:Nat→Prop} {nm:List Int} {W:List Nat} {k:Nat} {Av:Option Addr} {cw:Nat}
  (h:SSt w B gn n c l d pt N0 E nm W k Av cw wr):spM wr gn n (w.heap.size+1)=2*un nm+k:=by
 unfold spM
 rw [rowOf_is h.on,show wr.cell? ⟨w.heap.size+1,0,none⟩=some (.slice Av k cw) from h.bx.cell 0]
 simp [lenOf]
def SprPost (w:World) (B gn n c:Nat) (l:List Nat) (d:Nat) (pt:Int) (N0:List Int) (e:Ending) (w':World):Prop :=
 e=.returned (.tuple #[])∧∃ nm,w'.ownsRow B 3 1 (.slice (some ⟨gn,0,none⟩) n c) n (I64 nm)∧(∀ x,x < n→part l d x→nm.getD x 0=pt)∧(∀ x,x < n→¬ part l d x→nm.getD x 0=N0.getD x 0)∧Below B w w'
set_option maxHeartbeats 4000000 in
theorem spread_p (g:Nat) (l b:List Nat) (root lone:Int) (gn n c B d:Nat) (pt:Int) (N0:List Int) (w:World) (HM:Hid (∀ w',Below B w w'→MapAt w' g l b root lone)) (hB:B≤w.heap.size)
  (hown:w.ownsRow B 3 1 (.slice (some ⟨gn,0,none⟩) n c) n (I64 N0)) (hn:n=l.length) (hd:d < n) (hu:Hid (∀ x,x < n→part l d x→N0.getD x 0=-1)) (hp:0≤pt) :
  Calls Tryz.prog 137 #[.pointer (some ⟨g,0,none⟩),.slice (some ⟨gn,0,none⟩) n c,.int .i64 (d:Int),.int .i64 pt] w (SprPost w B gn n c l d pt N0):=by
 subst hn
 have h0:=HM.out w (Below.refl _ _)
 have hinv:Inv l b:=by obtain ⟨_,_,p,A,c,S,d,q,A',c',S',d',hb,hp,_⟩:=h0;exact hp.1
 have hev:l.length=2*(l.length / 2):=by have:=h0.1.1;omega
 have hle:=h0.2.1
 have HPF:=Lib.hid (sgL_pf hinv)
 have HEV:=Lib.hid hev
 clear hev h0 hinv
 obtain ⟨i0,hi0,hz0,hz1,hz2⟩:=info_parts info_int
 have hG:=own_block hown
 have hc0:=own_cellI hown d hd
 have hl0:=own_lenI hown
 have hfz:=hown.frozenAt d
 go_enter Tryz.func137,Tryz.ntmps137
 go_wp2_with fail
 go_loopw [9] (fun _ wr=>∃ (nm:List Int) (W:List Nat) (k:Nat) (Av:Option Addr) (cw:Nat),Hid (SSt w B gn l.length c l d pt N0 (fun _=>False) nm W k Av cw wr)∧Hid (2*un nm+k≤2*l.length+1)) (fun _ wr=>spM wr gn l.length (w.heap.size+1))
 case atStart =>
  refine ⟨N0.set d pt,[d],1,some ⟨w.heap.size,0,none⟩,1,?_,?_⟩
  rotate_left
  ·have:un (N0.set d pt)≤(N0.set d pt).length:=List.count_le_length
   rw [List.length_set,hl0] at this
   show _≤_
   omega
  have hsz:(w.setCell ⟨gn,d,none⟩ (.int .i64 pt)).heap.size=w.heap.size:=by simp [World.setCell]
  have hlit:=World.ownsRow_lit (base:=w.heap.size) (e:=3) (size:=1) (w.setCell ⟨gn,d,none⟩ (.int .i64 pt)) #[.int .i64 (d:Int)] 1 (by omega) (by simp [maxLen]) (by simp)
  have hbox:=Blk.new ((w.setCell ⟨gn,d,none⟩ (.int .i64 pt)).alloc (.cells #[.int .i64 (d:Int)] 3)) 25 #[.slice (some ⟨w.heap.size,0,none⟩) 1 1]
  rw [hsz] at hlit
  rw [show ((w.setCell ⟨gn,d,none⟩ (.int .i64 pt)).alloc (.cells #[.int .i64 (d:Int)] 3)).heap.size=w.heap.size+1 by simp [hsz]] at hbox
  exact ⟨Fl.start HPF.out HEV.out (by omega) (by omega) (fun x hx r=>hu.out x (by omega) r) (by omega),rfl,((own_setI hown d pt).alloc _).alloc _,hlit.alloc _,hbox,
   ((((Below.refl B w).setCell hG.1 _).alloc (by rw [hsz];exact hB) _).alloc (by simp [hsz];omega) _),hG.2⟩
 case round =>
  clear hown hc0 hl0 hfz
  obtain ⟨nm,W,k,Av,cw,HS,HM1⟩:=hrel
  have hbx:=HS.out.bx.cell 0
  simp at hbx
  by_cases hk:k=0
  ·subst hk
   go_wp2_with fail
   refine bodyPost_end (results_none rfl _ _ _) rfl ⟨rfl,nm,HS.out.on,fun x hx r=>?_,fun x hx r=>HS.out.fl.out x (by omega) r,HS.out.be⟩
   have hW:W=[]:=List.eq_nil_of_length_eq_zero HS.out.wl
   have f:=HS.out.fl
   rw [hW] at f
   exact f.done HPF.out HEV.out (by omega) x (by omega) r
  ·obtain ⟨k,rfl⟩:∃ j,k=j+1:=⟨k - 1,by omega⟩
   obtain ⟨g2,rfl,hg2⟩:=own_some HS.out.ow (by omega)
   obtain ⟨W,a,rfl⟩:∃ W1 a,W=W1++[a]:=by
    rcases List.eq_nil_or_concat W with h | ⟨L,x,h⟩
    ·have:=HS.out.wl;rw [h] at this;simp at this
    ·exact ⟨L,x,by simpa using h⟩
   obtain ⟨S1,ha,hpa⟩:=HS.out.pop hB
   have HS1:=Lib.hid S1
   have hMW:=Lib.hid HS.out.meas
   have hwk:W.length=k:=S1.wl
   have hcl:=own_cellI HS.out.ow k (by omega)
   rw [show (ofN (W++[a])).getD k 0=(a:Int) by rw [ofN_get,List.getD_eq_getElem?_getD,← hwk];simp] at hcl
   obtain ⟨_,_,he,hkc,hcm⟩:=own_form HS.out.ow
   simp only [Value.slice.injEq,true_and] at he
   rw [← he.2] at hkc hcm
   clear he hwk S1 hg2
   have hbb:=HS.out.bx
   have hpa':=Lib.hid hpa
   have hal:=Lib.hid ha
   simp only [maxLen] at hcm
   clear hpa
   have SG:=Lib.hid (Fl.sigma HPF.out HEV.out (show d < l.length by omega) hal.out hpa'.out)
   have MG:=Lib.hid (Fl.mate HPF.out HEV.out (show d < l.length by omega) hal.out hpa'.out)
   have SIG:Hid (∀ W',Below B w W'→Calls Tryz.prog 104 #[.pointer (some ⟨g,0,none⟩),.int .i64 (a:Int)] W' fun e w'=>e=.returned (.int .i64 ((l.getD a 0:Nat):Int))∧Below W'.heap.size W' w'):=fun W' h=>sigma_in g l b root lone a _ (HM.out _ h) hal.out
   have MAT:Hid (∀ W',Below B w W'→Calls Tryz.prog 87 #[.pointer (some ⟨g,0,none⟩),.int .i64 (a:Int)] W' fun e w'=>e=.returned (.int .i64 ((mt a:Nat):Int))∧Below W'.heap.size W' w'):=fun W' h=>by
    have:=mate_in g l b root lone a _ (HM.out _ h) hal.out
    rwa [mt_mateN] at this
   unfold sgL at SG
   obtain ⟨s,hs⟩:∃ s,s=l.getD a 0:=⟨_,rfl⟩
   obtain ⟨t,ht⟩:∃ t,t=mt a:=⟨_,rfl⟩
   rw [← hs] at SG SIG
   rw [← ht] at MG MAT
   have HSA:=Lib.hid hs
   have HTA:=Lib.hid ht
   clear hs ht
   have IX0:∀ W:World,(Instr.index 203 (.agg #[.int .i64 (s:Int),.int .i64 (t:Int)]) (.int .i64 0)).run Tryz.prog W=.ok (.int .i64 (s:Int)) W:=fun W=>by rfl
   have IX1:∀ W:World,(Instr.index 203 (.agg #[.int .i64 (s:Int),.int .i64 (t:Int)]) (.int .i64 1)).run Tryz.prog W=.ok (.int .i64 (t:Int)) W:=fun W=>by rfl
   go_wp2_with (first
    | (go_at_call 156;refine (take_p (w.heap.size+1) g2 k cw nm a 0 _ hbb hkc hcl (by omega)).mono ?_;rintro e w' ⟨rfl,rfl⟩)
    | (go_at_call 104;refine (SIG.out _ HS1.out.be).mono ?_;rintro e w1 ⟨rfl,hb1⟩;have HS2:=Lib.hid (HS1.out.below hB hb1))
    | (go_at_call 87;refine (MAT.out _ HS2.out.be).mono ?_;rintro e w2 ⟨rfl,hb2⟩;have HS3:=Lib.hid (HS2.out.below hB hb2)))
   clear hbx hcl hbb
   go_loopw [11,29] (fun _ i wr=>∃ (j:Int) (nm':List Int) (W:List Nat) (k':Nat) (Av:Option Addr) (cw:Nat),(j=0∨j=1∨j=2)∧i=.int .i64 j∧Hid (SSt w B gn l.length c l d pt N0 (fun x=>x=a) nm' W k' Av cw wr) ∧
    Hid (1≤j→nm'.getD s 0=pt)∧Hid (2≤j→nm'.getD t 0=pt)∧Hid (2*un nm'+k'≤2*un nm+k)) (fun _ i _=>2 - (intOf i).toNat)
   case atStart=>exact ⟨0,nm,W,k,some ⟨g2,0,none⟩,cw,.inl rfl,rfl,HS3,fun h=>absurd h (by omega),fun h=>absurd h (by omega),Nat.le_refl _⟩
   case round =>
    clear HS2 HS1 hb1 hb2
    obtain ⟨j,nm',W',k',Av',cw',hj,rfl,H,h1,h2,hm⟩:=hrel
    have H1:=hm.out
    have H2:=HM1.out
    have hk':k'≤262145:=by omega
    clear H1 H2
    have hlt:=H.out.lt
    have hwr:=H.out.be.size
    obtain hj | rfl:(j=0∨j=1)∨j=2:=by omega
    rotate_left
    ·clear hj
     go_wp2_with fail
     go_roundw
     case rel =>
      refine ⟨nm',W',k',Av',cw',?_,Nat.le_trans hm.out (by have:=HM1.out;omega)⟩
      obtain ⟨f,s1,s2,s3,s4,s5,s6⟩:=H.out
      exact ⟨f.close (by have:=h1.out (by omega);rw [HSA.out] at this;exact this) (by have:=h2.out (by omega);rw [HTA.out] at this;exact this),s1,s2,s3,s4,s5,s6⟩
     case measure =>
      rw [H.out.meas,hMW.out]
      have:=hm.out
      omega
    ·obtain rfl | rfl:=hj
     ·have hyl:=SG.out.1
      have hcy:=own_cellI H.out.on s (by omega)
      have hfy:=H.out.on.frozenAt s
      by_cases hu1:nm'.getD s 0=-1
      ·rw [hu1] at hcy
       obtain ⟨on1,ow1,bx1,be1⟩:=H.out.put s
       have f1:=bx1.frozen 0
       have c1:=bx1.cell 0
       simp at c1
       obtain ⟨F1,F2,F3⟩:=H.out.fl.put hyl SG.out.2 hu1 (by omega)
       have HF:=Lib.hid (And.intro F1 (And.intro F2 F3))
       have HW:=Lib.hid H.out.wl
       have HU:=Lib.hid (un_set nm' s pt (by rw [H.out.fl.len];omega) hu1 (by omega))
       have HON:=Lib.hid on1
       have HOW:=Lib.hid ow1
       have HBX:=Lib.hid bx1
       have HBE:=Lib.hid be1
       have hown3':=ow1.alloc (.cells #[.int .i64 (s:Int)] 3)
       have hvs:(wr.setCell ⟨gn,s,none⟩ (.int .i64 pt)).heap.size=wr.heap.size:=by simp [World.setCell]
       have r3:=Rd.new (wr.setCell ⟨gn,s,none⟩ (.int .i64 pt)) 3 #[.int .i64 (s:Int)] 1 (I64 [(s:Int)]) (by simp [I64]) (by simp)
       rw [hvs] at r3
       have t1:k'+1≤maxLen:=by simp only [maxLen];omega
       have t2:(k'+1)*8≤140737488355328:=by omega
       have t3:w.heap.size≤((wr.setCell ⟨gn,s,none⟩ (.int .i64 pt)).alloc (.cells #[.int .i64 (s:Int)] 3)).heap.size:=by simp [hvs];omega
       clear on1 ow1 bx1 be1 F1 F2 F3 hu1
       go_wp2_with (first
        | (at_builtin;go_must (refine wpList_append_rd _ rfl _ _ 25 rfl w.heap.size 3 i0 (.int .i64 0) 8 Tryz.underlying25 hi0 hz0 hz1 hz2 rfl (.slice Av' k' cw') k' (I64 (ofN W')) rfl hown3' (wr.heap.size+1) (some ⟨wr.heap.size,0,none⟩) 1 1 (I64 [(s:Int)]) rfl r3 (I64_one _) t1 t2 t3 ?_)))
       intro A6 c6 w6 hc6 hm6 hown6 hg6 _
       have b6:=(HBX.out.alloc (.cells #[.int .i64 (s:Int)] 3)).mod (Mod.ofGrown hg6) fun e=>own_ne HOW.out HBX.out (by decide) e.symm
       have f6:=b6.frozen 0
       have cb6:=b6.cell 0
       simp at cb6
       go_wp2_with fail
       go_roundw
       case rel =>
        refine ⟨1,nm'.set s pt,W'++[s],k'+1,A6,c6,by omega,rfl,SSt.push hB hlt (by rw [hvs];exact hwr) HON.out HOW.out HBX.out HBE.out HW.out _ hown6 hg6 HF.out.1,fun _=>HF.out.2.2,fun h=>absurd h (by omega),?_⟩
        have:=HU.out
        have:=hm.out
        show _≤_
        omega
       case measure=>simp [intOf]
      ·have hpy:=H.out.fl.old hyl SG.out.2 hu1
       rw [hpy] at hcy
       have hpt:(pt == -1)=false:=by rw [beq_eq_false_iff_ne];omega
       have HPY:=Lib.hid hpy
       clear hpy hu1
       go_wp2_with fail
       go_roundw
       case rel=>exact ⟨1,nm',W',k',Av',cw',by omega,rfl,H,fun _=>HPY.out,fun h=>absurd h (by omega),hm⟩
       case measure=>simp [intOf]
     ·have hyl:=MG.out.1
      have hcy:=own_cellI H.out.on t (by omega)
      have hfy:=H.out.on.frozenAt t
      by_cases hu1:nm'.getD t 0=-1
      ·rw [hu1] at hcy
       obtain ⟨on1,ow1,bx1,be1⟩:=H.out.put t
       have f1:=bx1.frozen 0
       have c1:=bx1.cell 0
       simp at c1
       obtain ⟨F1,F2,F3⟩:=H.out.fl.put hyl MG.out.2 hu1 (by omega)
       have HF:=Lib.hid (And.intro F1 (And.intro F2 F3))
       have HW:=Lib.hid H.out.wl
       have HU:=Lib.hid (un_set nm' t pt (by rw [H.out.fl.len];omega) hu1 (by omega))
       have HON:=Lib.hid on1
       have HOW:=Lib.hid ow1
       have HBX:=Lib.hid bx1
       have HBE:=Lib.hid be1
       have hown3':=ow1.alloc (.cells #[.int .i64 (t:Int)] 3)
       have hvs:(wr.setCell ⟨gn,t,none⟩ (.int .i64 pt)).heap.size=wr.heap.size:=by simp [World.setCell]
       have r3:=Rd.new (wr.setCell ⟨gn,t,none⟩ (.int .i64 pt)) 3 #[.int .i64 (t:Int)] 1 (I64 [(t:Int)]) (by simp [I64]) (by simp)
       rw [hvs] at r3
       have t1:k'+1≤maxLen:=by simp only [maxLen];omega
       have t2:(k'+1)*8≤140737488355328:=by omega
       have t3:w.heap.size≤((wr.setCell ⟨gn,t,none⟩ (.int .i64 pt)).alloc (.cells #[.int .i64 (t:Int)] 3)).heap.size:=by simp [hvs];omega
       clear on1 ow1 bx1 be1 F1 F2 F3 hu1
       go_wp2_with (first
        | (at_builtin;go_must (refine wpList_append_rd _ rfl _ _ 25 rfl w.heap.size 3 i0 (.int .i64 0) 8 Tryz.underlying25 hi0 hz0 hz1 hz2 rfl (.slice Av' k' cw') k' (I64 (ofN W')) rfl hown3' (wr.heap.size+1) (some ⟨wr.heap.size,0,none⟩) 1 1 (I64 [(t:Int)]) rfl r3 (I64_one _) t1 t2 t3 ?_)))
       intro A6 c6 w6 hc6 hm6 hown6 hg6 _
       have b6:=(HBX.out.alloc (.cells #[.int .i64 (t:Int)] 3)).mod (Mod.ofGrown hg6) fun e=>own_ne HOW.out HBX.out (by decide) e.symm
       have f6:=b6.frozen 0
       have cb6:=b6.cell 0
       simp at cb6
       go_wp2_with fail
       go_roundw
       case rel =>
        refine ⟨2,nm'.set t pt,W'++[t],k'+1,A6,c6,by omega,rfl,SSt.push hB hlt (by rw [hvs];exact hwr) HON.out HOW.out HBX.out HBE.out HW.out _ hown6 hg6 HF.out.1,fun _=>HF.out.2.1 _ (h1.out (by omega)),fun h=>HF.out.2.2,?_⟩
        have:=HU.out
        have:=hm.out
        show _≤_
        omega
       case measure=>simp [intOf]
      ·have hpy:=H.out.fl.old hyl MG.out.2 hu1
       rw [hpy] at hcy
       have hpt:(pt == -1)=false:=by rw [beq_eq_false_iff_ne];omega
       have HPY:=Lib.hid hpy
       clear hpy hu1
       go_wp2_with fail
       go_roundw
       case rel=>exact ⟨2,nm',W',k',Av',cw',by omega,rfl,H,fun _=>h1.out (by omega),fun h=>HPY.out,hm⟩
       case measure=>simp [intOf]
end Go.Proofs.YtijbdnhlpbcabaaGreatDoor
namespace Go.Proofs.YtijbdnhlpbcabaaGreatDoor
set_option maxRecDepth 20000
theorem and_low (a:Nat) (ha:a < 4294967296):bits .and .u64 (a:Int) 4294967295=(a:Int):=by
 have h:=bits_and_u64_nat a 4294967295 (by omega) (by omega)
 have e:a &&& 4294967295=a:=by rw [Nat.and_two_pow_sub_one_eq_mod a 32];omega
 rw [e] at h
 exact h
theorem mul64_p (n:Nat) (w:World) (hn:n < 4294967296) :
  Calls Tryz.prog 152 #[.int .u64 1,.int .u64 (n:Int)] w fun e w'=>e=.returned (.tuple #[.int .u64 0,.int .u64 (n:Int)])∧w=w':=by
 have h1:bits .and .u64 1 4294967295=1:=and_low 1 (by omega)
 have h2:=and_low n hn
 have h3:bits .and .u64 0 4294967295=0:=and_low 0 (by omega)
 have h4:(n:Int) / 4294967296=0:=by omega
 have h5:IntKind.u64.wrap (n:Int)=(n:Int):=by rw [IntKind.wrap_u64];omega
 have h6:IntKind.u64.wrap 0=0:=by rw [IntKind.wrap_u64];omega
 go_enter Tryz.func152,Tryz.ntmps152
 go_wp2_with fail
 go_ret2
 exact ⟨rfl,rfl⟩
theorem mul_p (n:Nat) (w:World) (hn:n < 4294967296) :
  Calls Tryz.prog 129 #[.int .u64 1,.int .u64 (n:Int)] w fun e w'=>e=.returned (.tuple #[.int .u64 0,.int .u64 (n:Int)])∧w=w':=by
 have M:=Lib.hid (fun w=>mul64_p n w hn)
 go_enter Tryz.func129,Tryz.ntmps129
 go_wp2_with (go_at_call 152;refine (M.out _).mono ?_;rintro e w' ⟨rfl,rfl⟩)
 go_ret2
 exact ⟨rfl,rfl⟩
def fillV (n k:Nat) (x:Int):List Int:=List.replicate k x++List.replicate (n - k) 0
theorem fillV_len (n k:Nat) (x:Int) (h:k≤n):(fillV n k x).length=n:=by simp [fillV];omega
theorem fillV_splice (n k m:Nat) (x:Int) (h:k+m≤n):splice (I64 (fillV n k x)) k (I64 (List.replicate m x))=I64 (fillV n (k+m) x):=by
 unfold splice
 rw [I64_len,List.length_replicate]
 have e1:(I64 (fillV n k x)).take k=I64 (List.replicate k x):=by
  rw [I64_take];unfold fillV;rw [List.take_left' (by simp)]
 have e2:(I64 (fillV n k x)).drop (k+m)=I64 (List.replicate (n - (k+m)) 0):=by
  unfold fillV I64
  rw [← List.map_drop,List.drop_append]
  simp
  omega
 rw [e1,e2,← I64_append,← I64_append]
 congr 1
 unfold fillV
 rw [← List.append_assoc,List.replicate_append_replicate]
theorem fillV_zero (n:Nat) (x:Int):fillV n 0 x=List.replicate n 0:=by simp [fillV]
theorem fillV_full (n:Nat) (x:Int):fillV n n x=List.replicate n x:=by simp [fillV]
theorem fillV_cell {w:World} {g n k:Nat} {x:Int} (h:w.heap[g]?=some (.cells (I64 (fillV n k x)).toArray 3 (0,0))) (m:Nat) (hm:m≤k) (j:Nat) (v:Value) (e:(I64 (List.replicate m x))[j]?=some v):w.cell? ((⟨g,0,none⟩:Addr).add j)=some v:=by
 have hj:j < m:=by
  have:=(List.getElem?_eq_some_iff.1 e).1
  rwa [I64_len,List.length_replicate] at this
 have:(⟨g,0,none⟩:Addr).add j=⟨g,j,none⟩:=by unfold Addr.add;split <;> simp_all
 rw [this,cell_of_row w g j _ _ _ h]
 have hv:v=.int .i64 x:=by
  rw [I64_get _ _ (by simpa using hj)] at e
  simp [List.getD_eq_getElem?_getD,hj] at e
  exact e.symm
 subst hv
 simp [I64,fillV,List.getElem?_append,show j < k by omega]
theorem copy_fill {w0 W:World} {B g n k m:Nat} {x:Int} {a:Addr} {sLen sCap dLen dCap:Nat} (hsz:(Tryz.prog.info? 3).map (·.size)=some 1) (hg:W.heap[g]?=some (.cells (I64 (fillV n k x)).toArray 3 (0,0))) (hm:m=Nat.min sLen dLen) (hkm:k+m≤n)
  (hsrc:∀ j v,(I64 (List.replicate m x))[j]?=some v→W.cell? (a.add j)=some v) (hb:Below B w0 W) (hBg:B≤g) :
  ∃ W2,(Builtin.copy_ #[25,25] 3 #[.slice (some ⟨g,k,none⟩) dLen dCap,.slice (some a) sLen sCap]).run Tryz.prog W=.ok (.int .i64 (m:Int)) W2∧W2.heap[g]?=some (.cells (I64 (fillV n (k+m) x)).toArray 3 (0,0))∧Below B w0 W2:=by
 have hlen:(I64 (List.replicate m x)).length=m:=by rw [I64_len,List.length_replicate]
 have h:=run_copy_row (P:=Tryz.prog) W 25 25 3 3 g k dLen dCap a sLen sCap (I64 (fillV n k x)).toArray 3 (I64 (List.replicate m x)) Tryz.underlying25 hsz hg (by rw [hlen];exact hm) hsrc (by rw [hlen];simp [I64_len,fillV_len n k x (by omega)];omega) (I64_one _)
 rw [hlen] at h
 refine ⟨_,h,?_,below_setRow hb hBg _⟩
 have e:=fillV_splice n k m x hkm
 unfold splice at e
 rw [hlen] at e
 rw [← e]
 have:=setRow_heap W g (I64 (fillV n k x)).toArray (((I64 (fillV n k x)).toArray.toList.take k++I64 (List.replicate m x)++(I64 (fillV n k x)).toArray.toList.drop (k+m)).toArray) 3 (0,0) hg
 simpa using this
set_option maxHeartbeats 1000000 in
theorem repeat_p (b:Nat) (n c:Nat) (x:Int) (B:Nat) (w:World) (hn:n≤131072) (hx:Rd w B (some ⟨b,0,none⟩) 1 (I64 [x])) (hB:B≤w.heap.size) :
  Calls Tryz.prog 101 #[.slice (some ⟨b,0,none⟩) 1 c,.int .i64 (n:Int)] w fun e w'=>e=.returned (.slice (some ⟨w.heap.size,0,none⟩) n n)∧w'.ownsRow w.heap.size 3 1 (.slice (some ⟨w.heap.size,0,none⟩) n n) n (I64 (List.replicate n x))∧Below w.heap.size w w':=by
 obtain ⟨i0,hi0,hz0,hz1,hz2⟩:=info_parts info_int
 have hmk:=run_make_one (P:=Tryz.prog) 25 3 i0 (.int .i64 0) 8 Tryz.underlying25 hi0 hz0 hz1 hz2 rfl .i64 .i64 n (by omega) (by omega)
 have M:=Lib.hid (fun w=>mul_p n w (by omega))
 have hsz:(Tryz.prog.info? 3).map (·.size)=some 1:=by rw [hi0];simp [hz1]
 obtain ⟨W1,hW1⟩:∃ W1:World,W1=w.alloc (.cells (List.replicate n (Value.int .i64 0)).toArray 3):=⟨_,rfl⟩
 have hmk1:=hmk w
 rw [← hW1] at hmk1
 clear hmk
 have hb1:Below w.heap.size w W1:=by rw [hW1];exact (Below.refl _ _).alloc (Nat.le_refl _) _
 have hg1:W1.heap[w.heap.size]?=some (.cells (I64 (fillV n 0 x)).toArray 3 (0,0)):=by
  rw [hW1,fillV_zero,I64_replicate]
  exact heap_alloc_new w _
 obtain ⟨m,hm⟩:∃ m,m=Nat.min 1 n:=⟨_,rfl⟩
 have hmn:m≤n:=by rw [hm];exact Nat.min_le_right _ _
 have hm1:m=0→n=0:=by intro h;rw [hm] at h;simp only [Nat.min_def] at h;split at h <;> omega
 have hsrc:∀ j v,(I64 (List.replicate m x))[j]?=some v→W1.cell? ((⟨b,0,none⟩:Addr).add j)=some v:=by
  intro j v e
  have hj:=(List.getElem?_eq_some_iff.1 e).1
  rw [I64_len,List.length_replicate] at hj
  have h1:m≤1:=by rw [hm];exact Nat.min_le_left _ _
  obtain rfl:j=0:=by omega
  refine ((hx.up hB).below hb1).cells rfl 0 v ?_
  obtain rfl:m=1:=by omega
  simpa [I64] using e
 obtain ⟨W2,hcp,hg2,hb2⟩:=copy_fill (sLen:=1) (sCap:=c) (dLen:=n) (dCap:=n) hsz hg1 hm (by omega) hsrc hb1 (Nat.le_refl _)
 rw [Nat.zero_add] at hg2
 have HG2:=Lib.hid hg2
 have HSZ:=Lib.hid hsz
 clear hg1 hsrc hm hx hW1 hg2 hsz
 go_enter Tryz.func101,Tryz.ntmps101
 go_wp2_with (first
  | (go_at_call 129;refine (M.out _).mono ?_;rintro e w' ⟨rfl,rfl⟩))
 clear hcp hmk1 hb1
 go_loopw [8] (fun i wr=>∃ k:Nat,k≤n∧(k=0→n=0)∧i=.int .i64 (k:Int)∧Hid (wr.heap[w.heap.size]?=some (.cells (I64 (fillV n k x)).toArray 3 (0,0)))∧Below w.heap.size w wr) (fun i _=>n - (intOf i).toNat)
 case atStart=>exact ⟨m,hmn,hm1,rfl,HG2,hb2⟩
 case round =>
  obtain ⟨k,hk,hk0,rfl,HG,hbl⟩:=hrel
  by_cases hkn:k=n
  ·subst hkn
   go_wp2_with fail
   go_ret
   refine ⟨rfl,⟨by simp [I64_len],.inr ⟨w.heap.size,k,(I64 (fillV k k x)).toArray,rfl,Nat.le_refl _,HG.out,Nat.le_refl _,by simp only [maxLen];omega,by simp [I64_len,fillV_len],?_⟩⟩,hbl⟩
   rw [fillV_full,Nat.mul_one,List.take_of_length_le (by simp [I64_len])]
  ·obtain ⟨m2,hm2⟩:∃ m,m=Nat.min k (n - k):=⟨_,rfl⟩
   have h1:m2≤k:=by rw [hm2];exact Nat.min_le_left _ _
   have h2:m2≤n - k:=by rw [hm2];exact Nat.min_le_right _ _
   have h3:0 < m2:=by rw [hm2];simp only [Nat.min_def];split <;> omega
   obtain ⟨W3,hcp,hg3,hb3⟩:=copy_fill (W:=wr.drew) (w0:=w) (B:=w.heap.size) (a:=⟨w.heap.size,0,none⟩) (sLen:=k) (sCap:=n) (dLen:=n - k) (dCap:=n - k) HSZ.out HG.out hm2 (by omega) (fun j v e=>fillV_cell (w:=wr.drew) HG.out m2 h1 j v e) hbl.drew (Nat.le_refl _)
   have HG3:=Lib.hid hg3
   have hkn2:¬ n=k:=by omega
   clear hg3 hm2
   have hlt:(k:Int) < (n:Int):=by omega
   have hsum:IntKind.i64.wrap ((k:Int)+(m2:Int))=((k+m2:Nat):Int):=by rw [IntKind.wrap_i64];omega
   go_wp2_with fail
   go_region_law (fail)
   all_goals (
    go_simp
    go_roundw
    case rel =>
     refine ⟨_,_,_,_,_,_,_,_,_,_,_,_,_,_,⟨k+m2,by omega,by omega,?_,HG3,hb3⟩,rfl⟩
     go_num
    case measure=>simp [intOf];omega)
end Go.Proofs.YtijbdnhlpbcabaaGreatDoor
namespace Go.Proofs.YtijbdnhlpbcabaaGreatDoor
set_option maxRecDepth 20000
theorem part_eqv {l b:List Nat} (h:Inv l b) (he:l.length%2=0):Eqv l.length (part l):=gk_eqv (sgL_pf h) (by omega) _ (Nat.le_refl _)
noncomputable def enames (l:List Nat):List Nat:=prts (part l) l.length
theorem enames_len (l:List Nat):(enames l).length=l.length:=by simp [enames,prts]
theorem pn_le (R:Nat→Nat→Prop) (k:Nat):pn R k≤k:=by
 unfold pn cls
 exact Nat.le_trans (List.length_filter_le _ _) (by simp)
set_option maxHeartbeats 4000000 in
theorem enames_p (g:Nat) (l b:List Nat) (root lone:Int) (w:World) (h:MapAt w g l b root lone) :
  Calls Tryz.prog 113 #[.pointer (some ⟨g,0,none⟩)] w (NewI64 w (ofN (enames l))):=by
 have hinv:Inv l b:=by obtain ⟨_,_,p,A,c,S,d,q,A',c',S',d',hb,hp,_⟩:=h;exact hp.1
 have HE:=Lib.hid (part_eqv hinv h.1.1)
 have hle:=h.2.1
 have HM:Hid (∀ w',Below w.heap.size w w'→MapAt w' g l b root lone):=fun w' m=>h.below m
 clear h hinv
 have HR:Hid (∀ w',Below (w.alloc (.cells #[.int .i64 (-1)] 3)).heap.size (w.alloc (.cells #[.int .i64 (-1)] 3)) w'→Rd w' (w.heap.size+1) (some ⟨w.heap.size,0,none⟩) 1 (I64 [-1])∧w.heap.size+1≤w'.heap.size∧Below w.heap.size w w'):=fun w' m=>by
  have e:(w.alloc (.cells #[.int .i64 (-1)] 3)).heap.size=w.heap.size+1:=by simp
  have r:=Rd.new w 3 #[.int .i64 (-1)] 1 (I64 [-1]) (by simp [I64]) (by simp)
  have z:=m.size
  have m':=m
  rw [e] at m z
  exact ⟨r.below m,z,((Below.refl _ _).alloc (Nat.le_refl _) _).trans (m.mono (by omega))⟩
 go_enter Tryz.func113,Tryz.ntmps113
 go_wp2_with (first
  | (go_at_call 40;refine (darts_p g l b root lone _ (HM.out _ (by first | exact (Below.refl _ _) | exact (Below.refl _ _).alloc (Nat.le_refl _) _))).mono ?_;rintro e w1 ⟨rfl,hb1⟩;have HR1:=Lib.hid (HR.out _ hb1))
  | (go_at_call 101;refine (repeat_p w.heap.size l.length 1 (-1) (w.heap.size+1) w1 hle HR1.out.1 HR1.out.2.1).mono ?_;rintro e w2 ⟨rfl,hown,hb2⟩))
 have hown2:=hown.base_le' (show w.heap.size≤w1.heap.size by have:=HR1.out.2.1;omega)
 have hbl2:Below w.heap.size w w2:=HR1.out.2.2.trans (hb2.mono (show w.heap.size≤w1.heap.size by have:=HR1.out.2.1;omega))
 have HO2:=Lib.hid hown2
 have HN:=Lib.hid (nst_zero (part l) l.length)
 clear hown hb2 hown2 hb1 HR1 HR
 generalize w1.heap.size=gn at *
 obtain ⟨n,hn⟩:∃ n,n=l.length:=⟨_,rfl⟩
 rw [← hn] at HO2 HE HN hle ⊢
 have HNN:=Lib.hid hn
 clear hn
 go_loopw [4,12] (fun pv i wr=>∃ (k p:Nat),k≤n∧p≤k∧pv=.int .i64 (p:Int)∧i=.int .i64 (k:Int)∧Hid (p=pn (part l) k)∧Hid (wr.ownsRow w.heap.size 3 1 (.slice (some ⟨gn,0,none⟩) n n) n (I64 (nst (part l) n k)))∧Below w.heap.size w wr) (fun _ i _=>n - (intOf i).toNat)
 case atStart =>
  refine ⟨0,0,by omega,by omega,rfl,rfl,?_,?_,hbl2⟩
  ·have:=pn_le (part l) 0;show _=_;omega
  ·show World.ownsRow _ _ _ _ _ _ _
   rw [HN.out];exact HO2.out
 case round =>
  obtain ⟨k,p,hk,hpk,rfl,rfl,HP,HO,hbl⟩:=hrel
  by_cases hkn:k=n
  ·subst hkn
   go_wp2_with fail
   go_ret
   have ho:=HO.out
   rw [nst_all HE.out] at ho
   have e:(prts (part l) k)=enames l:=by unfold enames;rw [HNN.out]
   rw [e] at ho
   refine .mk rfl ?_ hbl
   rw [ofN_len,enames_len,← HNN.out]
   exact ho
  ·have hlt:k < n:=by omega
   have hcell:=own_cellI HO.out k hlt
   by_cases hv:(nst (part l) n k).getD k 0=-1
   ·rw [hv] at hcell
    have HNEW:=Lib.hid (nst_new HE.out hlt hv)
    have SPR:Hid (Calls Tryz.prog 137 #[.pointer (some ⟨g,0,none⟩),.slice (some ⟨gn,0,none⟩) n n,.int .i64 (k:Int),.int .i64 (p:Int)] wr (SprPost wr w.heap.size gn n n l k p (nst (part l) n k))) :=
     spread_p g l b root lone gn n n w.heap.size k p (nst (part l) n k) wr (fun w' m=>HM.out w' (hbl.trans m)) hbl.size HO.out HNN.out hlt (fun x hx r=>HNEW.out.2.2.1 x hx r) (by omega)
    clear hv
    go_wp2_with (go_at_call 137;refine SPR.out.mono ?_;rintro e w3 ⟨rfl,nm,hown3,hi,ho,hb3⟩;have HO3:=Lib.hid hown3;have HI:=Lib.hid hi;have HOT:=Lib.hid ho;clear hown3 hi ho)
    go_roundw
    case rel =>
     refine ⟨k+1,p+1,by omega,by omega,by go_num,by go_num,?_,?_,hbl.trans hb3⟩
     ·show _=_;rw [HNEW.out.2.1,HP.out]
     ·have hl3:=own_lenI HO3.out
      have e:nm=nst (part l) n (k+1):=getDI_ext (by rw [nst_len,hl3]) fun x hx=>by
       have hx:x < n:=by omega
       by_cases r:part l k x
       ·rw [HI.out x hx r,HNEW.out.2.2.2.1 x hx r,HP.out]
       ·rw [HOT.out x hx r,HNEW.out.2.2.2.2 x hx r]
      rw [← e];exact HO3
    case measure=>simp [intOf];omega
   ·have HOLD:=Lib.hid (nst_old HE.out hlt hv)
    generalize (nst (part l) n k).getD k 0=v at *
    have hvb:(v == -1)=false:=by rw [beq_eq_false_iff_ne];exact hv
    go_wp2_with fail
    go_roundw
    case rel =>
     refine ⟨k+1,p,by omega,by omega,rfl,by go_num,?_,?_,hbl⟩
     ·show _=_;rw [HOLD.out.2.2,HP.out]
     ·rw [HOLD.out.2.1];exact HO
    case measure=>simp [intOf];omega
end Go.Proofs.YtijbdnhlpbcabaaGreatDoor
namespace Go.Proofs.YtijbdnhlpbcabaaGreatDoor
/-! ### the walk -/
def wKd (nm:Nat→Nat) (K:List Int) (M:List Bool) (d:Nat):Nat:=if K.getD (d / 2) 0=0 then 1 else if K.getD (d / 2) 0=2 then 3 else if M.getD (nm (mt d)) false=true then 2 else 0
def wK1 (K:List Int) (d k:Nat):List Int:=if k%2=0 then K.set (d / 2) k else K
def wM1 (nm:Nat→Nat) (M:List Bool) (d k:Nat):List Bool:=if k=0 then M.set (nm (mt d)) true else M
def wNx (sg:Nat→Nat) (d k:Nat):Nat:=if k < 2 then sg (mt d) else sg d
structure WS where
 d:Nat
 K:List Int
 M:List Bool
def WS.k (nm:Nat→Nat) (s:WS):Nat:=wKd nm s.K s.M s.d
def WS.next (sg nm:Nat→Nat) (s:WS):WS:=⟨wNx sg s.d (s.k nm),wK1 s.K s.d (s.k nm),wM1 nm s.M s.d (s.k nm)⟩
def wrun (sg nm:Nat→Nat) (m V r:Nat):Nat→WS
 | 0=>⟨r,List.replicate m (-1),(List.replicate V false).set (nm r) true⟩
 | j+1=>(wrun sg nm m V r j).next sg nm
def fK (sg:Nat→Nat) (K:List Int) (d:Nat):Nat:=sg (if K.getD (d / 2) 0=0 then mt d else d)
theorem mt_half (d:Nat):mt d / 2=d / 2:=by unfold mt;split <;> omega
theorem mt_mt' (d:Nat):mt (mt d)=d:=by unfold mt;split <;> split <;> omega
theorem mt_ne (d:Nat):mt d≠d:=by unfold mt;split <;> omega
theorem fK_pf {n m:Nat} {sg:Nat→Nat} (h:PF n sg) (hn:n=2*m) (K:List Int):PF n (fK sg K):=by
 refine ⟨fun i hi=>?_,fun i j hi hj e=>?_⟩
 ·unfold fK
  split
  ·exact h.lt _ (mt_lt hn hi)
  ·exact h.lt _ hi
 ·unfold fK at e
  have hi':=mt_lt hn hi
  have hj':=mt_lt hn hj
  split at e
  ·next a =>
   split at e
   ·have:=h.inj _ _ hi' hj' e
    have:=congrArg mt this
    rwa [mt_mt',mt_mt'] at this
   ·next c =>
    have:=h.inj _ _ hi' hj e
    rw [← this,mt_half] at c
    exact absurd a c
  ·next a =>
   split at e
   ·next c =>
    have:=h.inj _ _ hi hj' e
    rw [this,mt_half] at a
    exact absurd c a
   ·exact h.inj _ _ hi hj e
structure WOk (n m V:Nat) (sg nm:Nat→Nat) (r:Nat) (s:WS):Prop where
 lt:s.d < n
 kl:s.K.length=m
 ml:s.M.length=V
 ks:∀ e,e < m→s.K.getD e 0=-1∨s.K.getD e 0=0∨s.K.getD e 0=2
 md:s.M.getD (nm s.d) false=true
 me:∀ d,d < n→s.K.getD (d / 2) 0≠-1→s.M.getD (nm d) false=true
 mo:∀ x,x < n→(Orb (fK sg s.K) r x↔s.M.getD (nm x) false=true)
theorem getB_set (y:List Bool) (k j:Nat) (v:Bool) (hk:k < y.length):(y.set k v).getD j false=if j=k then v else y.getD j false:=by
 by_cases e:j=k
 ·subst e;simp [List.getD_eq_getElem?_getD,hk]
 ·rw [if_neg e];simp [List.getD_eq_getElem?_getD,Ne.symm e]
theorem getI_set (y:List Int) (k j:Nat) (v:Int) (hk:k < y.length):(y.set k v).getD j 0=if j=k then v else y.getD j 0:=by
 by_cases e:j=k
 ·subst e;simp [List.getD_eq_getElem?_getD,hk]
 ·rw [if_neg e];simp [List.getD_eq_getElem?_getD,Ne.symm e]
section
variable {n m V:Nat} {sg nm:Nat→Nat} {r:Nat}
theorem orb_same {f g:Nat→Nat} {S:Nat→Prop} (hs:∀ x,S x→f x=g x) (hc:∀ x,S x→S (g x)) {i:Nat} (hi:S i):∀ k,itf f k i=itf g k i∧S (itf g k i)
 | 0=>⟨rfl,hi⟩
 | k+1=>by
   obtain ⟨e,s⟩:=orb_same hs hc hi k
   exact ⟨by show f (itf f k i)=g (itf g k i);rw [e,hs _ s],hc _ s⟩
theorem nm_it (hs:PF n sg) (hnm:∀ x y,x < n→y < n→(nm x=nm y↔Orb sg x y)) {x:Nat} (hx:x < n):nm (sg x)=nm x:=((hnm x (sg x) hx (hs.lt x hx)).2 ⟨1,rfl⟩).symm
theorem WOk.start (hs:PF n sg) (hn:n=2*m) (hnm:∀ x y,x < n→y < n→(nm x=nm y↔Orb sg x y)) (hV:∀ x,x < n→nm x < V) (hr:r < n):WOk n m V sg nm r (wrun sg nm m V r 0):=by
 have hk:∀ e,e < m→(List.replicate m (-1:Int)).getD e 0=-1:=fun e he=>by simp [List.getD_eq_getElem?_getD,he]
 have hm:∀ x,((List.replicate V false).set (nm r) true).getD x false=decide (x=nm r):=fun x=>by
  rw [getB_set _ _ _ _ (by simpa using hV r hr)]
  by_cases c:x=nm r
  ·rw [if_pos c,decide_eq_true_iff.2 c]
  ·rw [if_neg c,decide_eq_false_iff_not.2 c]
   simp [List.getD_eq_getElem?_getD,List.getElem?_replicate]
   split <;> rfl
 refine ⟨hr,by simp [wrun],by simp [wrun],fun e he=>.inl (hk e he),?_,fun d hd c=>absurd (hk _ (by omega)) c,fun x hx=>?_⟩
 ·show _=true;rw [wrun,hm];simp
 ·show Orb (fK sg (List.replicate m (-1))) r x↔((List.replicate V false).set (nm r) true).getD (nm x) false=true
  rw [hm,decide_eq_true_iff]
  have hf:∀ y,y < n→fK sg (List.replicate m (-1)) y=sg y:=fun y hy=>by unfold fK;rw [if_neg (by rw [hk _ (by omega)];omega)]
  constructor
  ·rintro ⟨k,e⟩
   have:=(orb_same (S:=fun y=>y < n) hf (fun y hy=>hs.lt y hy) hr k).1
   exact ((hnm r x hr hx).2 ⟨k,by rw [← this];exact e⟩).symm
  ·intro e
   obtain ⟨k,e⟩:=(hnm r x hr hx).1 e.symm
   have:=(orb_same (S:=fun y=>y < n) hf (fun y hy=>hs.lt y hy) hr k).1
   exact ⟨k,by rw [this];exact e⟩
theorem WS.kinds (s:WS):(s.k nm=1∧s.K.getD (s.d / 2) 0=0)∨(s.k nm=3∧s.K.getD (s.d / 2) 0=2)∨(s.k nm=2∧s.K.getD (s.d / 2) 0≠0∧s.K.getD (s.d / 2) 0≠2∧s.M.getD (nm (mt s.d)) false=true)∨(s.k nm=0∧s.K.getD (s.d / 2) 0≠0∧s.K.getD (s.d / 2) 0≠2∧s.M.getD (nm (mt s.d)) false≠true):=by
 unfold WS.k wKd
 by_cases a:s.K.getD (s.d / 2) 0=0
 ·exact .inl ⟨by rw [if_pos a],a⟩
 ·by_cases c:s.K.getD (s.d / 2) 0=2
  ·exact .inr (.inl ⟨by rw [if_neg a,if_pos c],c⟩)
  ·by_cases q:s.M.getD (nm (mt s.d)) false=true
   ·exact .inr (.inr (.inl ⟨by rw [if_neg a,if_neg c,if_pos q],a,c,q⟩))
   ·exact .inr (.inr (.inr ⟨by rw [if_neg a,if_neg c,if_neg q],a,c,q⟩))
theorem WOk.next (hs:PF n sg) (hn:n=2*m) (hnm:∀ x y,x < n→y < n→(nm x=nm y↔Orb sg x y)) (hV:∀ x,x < n→nm x < V) (hr:r < n) {s:WS} (h:WOk n m V sg nm r s):WOk n m V sg nm r (s.next sg nm):=by
 have hd:=h.lt
 have hmd:mt s.d < n:=mt_lt hn hd
 have he:s.d / 2 < m:=by omega
 have nsg:∀ x,x < n→nm (sg x)=nm x:=fun x hx=>nm_it hs hnm hx
 unfold WS.next
 rcases s.kinds (nm:=nm) with ⟨k,a⟩ | ⟨k,a⟩ | ⟨k,a,c,q⟩ | ⟨k,a,c,q⟩
 ·rw [k]
  refine ⟨by show wNx sg s.d 1 < n;unfold wNx;rw [if_pos (by omega)];exact hs.lt _ hmd,h.kl,h.ml,h.ks,?_,h.me,h.mo⟩
  show s.M.getD (nm (wNx sg s.d 1)) false=true
  unfold wNx
  rw [if_pos (by omega),nsg _ hmd]
  exact h.me _ hmd (by rw [mt_half,a];omega)
 ·rw [k]
  refine ⟨by show wNx sg s.d 3 < n;unfold wNx;rw [if_neg (by omega)];exact hs.lt _ hd,h.kl,h.ml,h.ks,?_,h.me,h.mo⟩
  show s.M.getD (nm (wNx sg s.d 3)) false=true
  unfold wNx
  rw [if_neg (by omega),nsg _ hd]
  exact h.md
 ·rw [k]
  have hK:∀ e,(wK1 s.K s.d 2).getD e 0=if e=s.d / 2 then 2 else s.K.getD e 0:=fun e=>by
   unfold wK1;rw [if_pos (by omega)];exact getI_set _ _ _ _ (by rw [h.kl];exact he)
  refine ⟨by show wNx sg s.d 2 < n;unfold wNx;rw [if_neg (by omega)];exact hs.lt _ hd,by show (wK1 s.K s.d 2).length=m;unfold wK1;rw [if_pos (by omega),List.length_set];exact h.kl,h.ml,fun e hem=>?_,?_,fun d hdn=>?_,fun x hx=>?_⟩
  ·show (wK1 s.K s.d 2).getD e 0=-1∨_
   rw [hK]
   split
   ·exact .inr (.inr rfl)
   ·exact h.ks e hem
  ·show s.M.getD (nm (wNx sg s.d 2)) false=true
   unfold wNx
   rw [if_neg (by omega),nsg _ hd]
   exact h.md
  ·show (wK1 s.K s.d 2).getD (d / 2) 0≠-1→s.M.getD (nm d) false=true
   rw [hK]
   split
   ·next x =>
    intro _
    have:d=s.d∨d=mt s.d:=by unfold mt;split <;> omega
    rcases this with rfl | rfl
    ·exact h.md
    ·exact q
   ·exact h.me d hdn
  ·show Orb (fK sg (wK1 s.K s.d 2)) r x↔s.M.getD (nm x) false=true
   rw [← h.mo x hx]
   have:fK sg (wK1 s.K s.d 2)=fK sg s.K:=by
    funext y
    unfold fK
    rw [hK]
    by_cases c':y / 2=s.d / 2
    ·rw [if_pos c',if_neg (by omega),if_neg (by rw [c'];exact a)]
    ·rw [if_neg c']
   rw [this]
 ·rw [k]
  have q':s.M.getD (nm (mt s.d)) false=false:=by simpa using q
  have hK:∀ e,(wK1 s.K s.d 0).getD e 0=if e=s.d / 2 then 0 else s.K.getD e 0:=fun e=>by
   unfold wK1;rw [if_pos (by omega)];exact getI_set _ _ _ _ (by rw [h.kl];exact he)
  have hM:∀ v,(wM1 nm s.M s.d 0).getD v false=if v=nm (mt s.d) then true else s.M.getD v false:=fun v=>by
   unfold wM1;rw [if_pos rfl];exact getB_set _ _ _ _ (by rw [h.ml];exact hV _ hmd)
  have hfp:=fK_pf hs hn s.K
  refine ⟨by show wNx sg s.d 0 < n;unfold wNx;rw [if_pos (by omega)];exact hs.lt _ hmd,by show (wK1 s.K s.d 0).length=m;unfold wK1;rw [if_pos (by omega),List.length_set];exact h.kl,by show (wM1 nm s.M s.d 0).length=V;unfold wM1;rw [if_pos rfl,List.length_set];exact h.ml,fun e hem=>?_,?_,fun d hdn=>?_,fun x hx=>?_⟩
  ·show (wK1 s.K s.d 0).getD e 0=-1∨_
   rw [hK]
   split
   ·exact .inr (.inl rfl)
   ·exact h.ks e hem
  ·show (wM1 nm s.M s.d 0).getD (nm (wNx sg s.d 0)) false=true
   unfold wNx
   rw [if_pos (by omega),nsg _ hmd,hM,if_pos rfl]
  ·show (wK1 s.K s.d 0).getD (d / 2) 0≠-1→(wM1 nm s.M s.d 0).getD (nm d) false=true
   rw [hK,hM]
   intro x
   split
   ·rfl
   ·split at x
    ·next y z =>
     have:d=s.d∨d=mt s.d:=by unfold mt;split <;> omega
     rcases this with rfl | rfl
     ·exact h.md
     ·exact absurd rfl y
    ·exact h.me d hdn x
  ·show Orb (fK sg (wK1 s.K s.d 0)) r x↔(wM1 nm s.M s.d 0).getD (nm x) false=true
   have hd2:s.d=2*(s.d / 2)∨s.d=2*(s.d / 2)+1:=by omega
   have hsw:∀ y,swp s.d (mt s.d) y=if y / 2=s.d / 2 then mt y else y:=fun y=>by
    unfold swp mt
    repeat' split
    all_goals omega
   have hfe:fK sg (wK1 s.K s.d 0)=fun i=>fK sg s.K (swp s.d (mt s.d) i):=by
    funext y
    unfold fK
    rw [hK,hsw]
    by_cases c':y / 2=s.d / 2
    ·rw [if_pos c',if_pos rfl,if_pos c',if_neg (by rw [mt_half,c'];exact a)]
    ·rw [if_neg c',if_neg c']
   have hno:¬ Orb (fK sg s.K) s.d (mt s.d):=fun o=>by
    have hE:=hfp.eqv
    have o1:=(h.mo s.d hd).2 h.md
    have:=(h.mo (mt s.d) hmd).1 (hE.trans _ _ _ hr hd hmd o1 o)
    exact q this
   have hab:=orb_meet hfp hd hmd hno
   have hfp2:=(hfp.swap hd hmd).eqv
   have hj:joinR (Orb fun i=>fK sg s.K (swp s.d (mt s.d) i)) s.d (mt s.d) r x↔Orb (fun i=>fK sg s.K (swp s.d (mt s.d) i)) r x:=by
    constructor
    ·rintro (y | ⟨y1,y2⟩ | ⟨y1,y2⟩)
     ·exact y
     ·exact hfp2.trans _ _ _ hr hd hx y1 (hfp2.trans _ _ _ hd hmd hx hab y2)
     ·exact hfp2.trans _ _ _ hr hmd hx y1 (hfp2.trans _ _ _ hmd hd hx (hfp2.symm _ _ hd hmd hab) y2)
    ·exact .inl
   rw [hfe,← hj,← orb_join hfp hd hmd r x hr hx,hM]
   have hv:∀ y,y < n→nm y=nm (mt s.d)→fK sg s.K y=sg y:=fun y hy e=>by
    unfold fK
    by_cases z:s.K.getD (y / 2) 0=0
    ·have:=h.me y hy (by rw [z];omega)
     rw [e] at this
     exact absurd this q
    ·rw [if_neg z]
   have hnew:Orb (fK sg s.K) (mt s.d) x↔nm x=nm (mt s.d):=by
    have key:=fun t=>orb_same (f:=fK sg s.K) (g:=sg) (S:=fun y=>y < n∧nm y=nm (mt s.d)) (fun y hy=>hv y hy.1 hy.2) (fun y hy=>⟨hs.lt y hy.1,by rw [nsg y hy.1];exact hy.2⟩) (i:=mt s.d) ⟨hmd,rfl⟩ t
    constructor
    ·rintro ⟨t,e⟩
     have:=key t
     rw [← e,this.1];exact this.2.2
    ·intro e
     obtain ⟨t,e⟩:=(hnm _ _ hmd hx).1 e.symm
     exact ⟨t,by rw [(key t).1];exact e⟩
   have o1:=(h.mo s.d hd).2 h.md
   have o2:¬ Orb (fK sg s.K) r (mt s.d):=fun o=>q ((h.mo _ hmd).1 o)
   unfold joinR
   rw [h.mo x hx,hnew]
   constructor
   ·rintro (y | ⟨_,y⟩ | ⟨y,_⟩)
    ·split
     ·rfl
     ·exact y
    ·rw [if_pos y]
    ·exact absurd y o2
   ·intro y
    split at y
    ·next z=>exact .inr (.inl ⟨o1,z⟩)
    ·exact .inl y
theorem wok (hs:PF n sg) (hn:n=2*m) (hnm:∀ x y,x < n→y < n→(nm x=nm y↔Orb sg x y)) (hV:∀ x,x < n→nm x < V) (hr:r < n):∀ j,WOk n m V sg nm r (wrun sg nm m V r j)
 | 0=>.start hs hn hnm hV hr
 | j+1=>(wok hs hn hnm hV hr j).next hs hn hnm hV hr
end
section
variable {n m V:Nat} {sg nm:Nat→Nat} {r:Nat}
theorem wkeep (hs:PF n sg) (hn:n=2*m) (hnm:∀ x y,x < n→y < n→(nm x=nm y↔Orb sg x y)) (hV:∀ x,x < n→nm x < V) (hr:r < n) (e:Nat) (he:e < m) (j:Nat):∀ i,(wrun sg nm m V r j).K.getD e 0≠-1→(wrun sg nm m V r (j+i)).K.getD e 0=(wrun sg nm m V r j).K.getD e 0
 | 0,_=>rfl
 | i+1,h=>by
   have ih:=wkeep hs hn hnm hV hr e he j i h
   have hw:=wok hs hn hnm hV hr (j+i)
   rw [← ih] at h ⊢
   show ((wrun sg nm m V r (j+i)).next sg nm).K.getD e 0=_
   generalize wrun sg nm m V r (j+i)=s at *
   have hse:s.d / 2 < s.K.length:=by rw [hw.kl];have:=hw.lt;omega
   unfold WS.next
   rcases s.kinds (nm:=nm) with ⟨k,a⟩ | ⟨k,a⟩ | ⟨k,a,c,q⟩ | ⟨k,a,c,q⟩
   ·rw [k];rfl
   ·rw [k];rfl
   ·rw [k]
    show (wK1 s.K s.d 2).getD e 0=_
    unfold wK1
    rw [if_pos (by omega),getI_set _ _ _ _ hse]
    split
    ·next x=>subst x;rcases hw.ks _ he with y | y | y <;> omega
    ·rfl
   ·rw [k]
    show (wK1 s.K s.d 0).getD e 0=_
    unfold wK1
    rw [if_pos (by omega),getI_set _ _ _ _ hse]
    split
    ·next x=>subst x;rcases hw.ks _ he with y | y | y <;> omega
    ·rfl
theorem wkind (hs:PF n sg) (hn:n=2*m) (hnm:∀ x y,x < n→y < n→(nm x=nm y↔Orb sg x y)) (hV:∀ x,x < n→nm x < V) (hr:r < n) {i j:Nat} (hij:i < j) :
  (wrun sg nm m V r j).K.getD ((wrun sg nm m V r i).d / 2) 0=if (wrun sg nm m V r i).k nm < 2 then 0 else 2:=by
 have hw:=wok hs hn hnm hV hr i
 have he:(wrun sg nm m V r i).d / 2 < m:=by have:=hw.lt;omega
 have h1:(wrun sg nm m V r (i+1)).K.getD ((wrun sg nm m V r i).d / 2) 0=if (wrun sg nm m V r i).k nm < 2 then 0 else 2:=by
  show ((wrun sg nm m V r i).next sg nm).K.getD _ 0=_
  generalize wrun sg nm m V r i=s at *
  have hse:s.d / 2 < s.K.length:=by rw [hw.kl];exact he
  unfold WS.next
  rcases s.kinds (nm:=nm) with ⟨k,a⟩ | ⟨k,a⟩ | ⟨k,a,c,q⟩ | ⟨k,a,c,q⟩
  ·rw [k];exact a
  ·rw [k];exact a
  ·rw [k]
   show (wK1 s.K s.d 2).getD _ 0=_
   unfold wK1
   rw [if_pos (by omega),getI_set _ _ _ _ hse,if_pos rfl];rfl
  ·rw [k]
   show (wK1 s.K s.d 0).getD _ 0=_
   unfold wK1
   rw [if_pos (by omega),getI_set _ _ _ _ hse,if_pos rfl];rfl
 have h2:=wkeep hs hn hnm hV hr _ he (i+1) (j - (i+1)) (by rw [h1];split <;> omega)
 rw [show i+1+(j - (i+1))=j by omega] at h2
 rw [h2,h1]
theorem wnext (hs:PF n sg) (hn:n=2*m) (hnm:∀ x y,x < n→y < n→(nm x=nm y↔Orb sg x y)) (hV:∀ x,x < n→nm x < V) (hr:r < n) {i j:Nat} (hij:i < j) :
  (wrun sg nm m V r (i+1)).d=fK sg (wrun sg nm m V r j).K (wrun sg nm m V r i).d:=by
 have h:=wkind hs hn hnm hV hr hij
 unfold fK
 rw [h]
 show wNx sg (wrun sg nm m V r i).d ((wrun sg nm m V r i).k nm)=_
 unfold wNx
 split
 ·rw [if_pos rfl]
 ·rw [if_neg (by omega)]
theorem wback (hs:PF n sg) (hn:n=2*m) (hnm:∀ x y,x < n→y < n→(nm x=nm y↔Orb sg x y)) (hV:∀ x,x < n→nm x < V) (hr:r < n):∀ i j,i < j→(wrun sg nm m V r i).d=(wrun sg nm m V r j).d→(wrun sg nm m V r (j - i)).d=r
 | 0,j,_,e=>e.symm
 | i+1,j,h,e=>by
   have hfp:=fK_pf hs hn (wrun sg nm m V r j).K
   have e1:=wnext hs hn hnm hV hr (show i < j by omega)
   have e2:=wnext hs hn hnm hV hr (i:=j - 1) (j:=j) (by omega)
   rw [show j - 1+1=j by omega] at e2
   rw [e1,e2] at e
   have:=hfp.inj _ _ (wok hs hn hnm hV hr i).lt (wok hs hn hnm hV hr (j - 1)).lt e
   have:=wback hs hn hnm hV hr i (j - 1) (by omega) this
   rwa [show j - 1 - i=j - (i+1) by omega] at this
theorem wends (hs:PF n sg) (hn:n=2*m) (hnm:∀ x y,x < n→y < n→(nm x=nm y↔Orb sg x y)) (hV:∀ x,x < n→nm x < V) (hr:r < n):∃ N,1≤N∧N≤n∧(wrun sg nm m V r N).d=r∧∀ j,1≤j→j < N→(wrun sg nm m V r j).d≠r:=by
 have:∃ i j,i < j∧j≤n∧(wrun sg nm m V r i).d=(wrun sg nm m V r j).d:=Classical.byContradiction fun hx=>by
  have hinj:∀ a b,a < n+1→b < n+1→(wrun sg nm m V r a).d=(wrun sg nm m V r b).d→a=b:=fun a b ha hb e=>by
   rcases Nat.lt_trichotomy a b with x | x | x
   ·exact absurd ⟨a,b,x,by omega,e⟩ hx
   ·exact x
   ·exact absurd ⟨b,a,x,by omega,e.symm⟩ hx
  obtain ⟨k,hk,e⟩:=inj_surj (n+1) (fun k=>(wrun sg nm m V r k).d) (fun k _=>by have:=(wok hs hn hnm hV hr k).lt;show (wrun sg nm m V r k).d < n+1;omega) hinj n (by omega)
  have:=(wok hs hn hnm hV hr k).lt
  have e':(wrun sg nm m V r k).d=n:=e
  omega
 obtain ⟨i,j,hij,hjn,e⟩:=this
 have hb:=wback hs hn hnm hV hr i j hij e
 obtain ⟨N,hN,hp,hl⟩:=least_k (p:=fun k=>1≤k∧(wrun sg nm m V r k).d=r) (j - i) ⟨by omega,hb⟩
 exact ⟨N,hp.1,by omega,hp.2,fun k k1 k2 k3=>hl k k2 ⟨k1,k3⟩⟩
open Classical in
noncomputable def wN (sg nm:Nat→Nat) (m V r:Nat):Nat:=if h:∃ N,1≤N∧(wrun sg nm m V r N).d=r∧∀ j,1≤j→j < N→(wrun sg nm m V r j).d≠r then h.choose else 0
theorem wN_is (hs:PF n sg) (hn:n=2*m) (hnm:∀ x y,x < n→y < n→(nm x=nm y↔Orb sg x y)) (hV:∀ x,x < n→nm x < V) (hr:r < n) :
  1≤wN sg nm m V r∧wN sg nm m V r≤n∧(wrun sg nm m V r (wN sg nm m V r)).d=r∧∀ j,1≤j→j < wN sg nm m V r→(wrun sg nm m V r j).d≠r:=by
 obtain ⟨N,n1,n2,n3,n4⟩:=wends hs hn hnm hV hr
 have hx:∃ N,1≤N∧(wrun sg nm m V r N).d=r∧∀ j,1≤j→j < N→(wrun sg nm m V r j).d≠r:=⟨N,n1,n3,n4⟩
 have e:wN sg nm m V r=hx.choose:=by unfold wN;rw [dif_pos hx]
 obtain ⟨c1,c2,c3⟩:=hx.choose_spec
 rw [← e] at c1 c2 c3
 refine ⟨c1,?_,c2,c3⟩
 rcases Nat.lt_or_ge N (wN sg nm m V r) with x | x
 ·exact absurd n3 (c3 N n1 x)
 ·omega
theorem wonce (hs:PF n sg) (hn:n=2*m) (hnm:∀ x y,x < n→y < n→(nm x=nm y↔Orb sg x y)) (hV:∀ x,x < n→nm x < V) (hr:r < n) {i j:Nat} (hi:i < wN sg nm m V r) (hj:j < wN sg nm m V r) (e:(wrun sg nm m V r i).d=(wrun sg nm m V r j).d):i=j:=by
 obtain ⟨_,_,_,n4⟩:=wN_is hs hn hnm hV hr
 rcases Nat.lt_trichotomy i j with x | x | x
 ·exact absurd (wback hs hn hnm hV hr i j x e) (n4 _ (by omega) (by omega))
 ·exact x
 ·exact absurd (wback hs hn hnm hV hr j i x e.symm) (n4 _ (by omega) (by omega))
theorem worb (hs:PF n sg) (hn:n=2*m) (hnm:∀ x y,x < n→y < n→(nm x=nm y↔Orb sg x y)) (hV:∀ x,x < n→nm x < V) (hr:r < n) (N:Nat):∀ j,j≤N→itf (fK sg (wrun sg nm m V r N).K) j r=(wrun sg nm m V r j).d
 | 0,_=>rfl
 | j+1,h=>by
   rw [wnext hs hn hnm hV hr (show j < N by omega)]
   show fK _ _ (itf _ j r)=_
   rw [worb hs hn hnm hV hr N j (by omega)]
theorem wpart (hs:PF n sg) (hn:n=2*m) (hnm:∀ x y,x < n→y < n→(nm x=nm y↔Orb sg x y)) (hV:∀ x,x < n→nm x < V) (hr:r < n) {x:Nat} (hx:x < n):gk sg m r x↔∃ j,j < wN sg nm m V r∧(wrun sg nm m V r j).d=x:=by
 obtain ⟨n1,n2,n3,n4⟩:=wN_is hs hn hnm hV hr
 have hw:=wok hs hn hnm hV hr (wN sg nm m V r)
 have ho:∀ x,x < n→(Orb (fK sg (wrun sg nm m V r (wN sg nm m V r)).K) r x↔∃ j,j < wN sg nm m V r∧(wrun sg nm m V r j).d=x):=fun x hx=>by
  constructor
  ·rintro ⟨k,e⟩
   have hb:itf (fK sg (wrun sg nm m V r (wN sg nm m V r)).K) (wN sg nm m V r) r=r:=by rw [worb hs hn hnm hV hr _ _ (Nat.le_refl _)];exact n3
   have hmod:itf (fK sg (wrun sg nm m V r (wN sg nm m V r)).K) (k%wN sg nm m V r) r=x:=by
    have h1:=itf_mul hb (k / wN sg nm m V r)
    rw [← Nat.mod_add_div k (wN sg nm m V r),itf_add,Nat.mul_comm,h1] at e
    exact e
   have hlt:k%wN sg nm m V r < wN sg nm m V r:=Nat.mod_lt _ (by omega)
   exact ⟨_,hlt,by rw [← worb hs hn hnm hV hr _ _ (Nat.le_of_lt hlt)];exact hmod⟩
  ·rintro ⟨j,hj,e⟩
   exact ⟨j,by rw [worb hs hn hnm hV hr _ _ (Nat.le_of_lt hj)];exact e⟩
 rw [← ho x hx,hw.mo x hx]
 have hsS:∀ i,i < n→(wrun sg nm m V r (wN sg nm m V r)).M.getD (nm i) false=true→(wrun sg nm m V r (wN sg nm m V r)).M.getD (nm (sg i)) false=true:=fun i hi c=>by rw [nm_it hs hnm hi];exact c
 have hsm:∀ i,i < n→(wrun sg nm m V r (wN sg nm m V r)).M.getD (nm i) false=true→(wrun sg nm m V r (wN sg nm m V r)).M.getD (nm (mt i)) false=true:=fun i hi c=>by
  obtain ⟨j,hj,e⟩:=(ho i hi).1 ((hw.mo i hi).2 c)
  have hk:=wkind hs hn hnm hV hr hj
  refine hw.me (mt i) (mt_lt hn hi) ?_
  rw [mt_half,← e,hk]
  split <;> omega
 constructor
 ·intro g
  exact (part_closed hs hn (S:=fun i=>(wrun sg nm m V r (wN sg nm m V r)).M.getD (nm i) false=true) hsS hsm r x hr hx g).1 ((hw.mo r hr).1 ⟨0,rfl⟩)
 ·intro c
  obtain ⟨j,hj,e⟩:=(ho x hx).1 ((hw.mo x hx).2 c)
  have hE:=gk_eqv hs hn m (Nat.le_refl _)
  have key:∀ j,gk sg m r (wrun sg nm m V r j).d:=fun j=>by
   induction j with
   | zero=>exact hE.refl r hr
   | succ j ih =>
     have hl:=(wok hs hn hnm hV hr j).lt
     have hm:=mt_lt hn hl
     show gk sg m r (wNx sg _ _)
     unfold wNx
     split
     ·exact hE.trans _ _ _ hr hm (hs.lt _ hm) (hE.trans _ _ _ hr hl hm ih (gk_mt hs hn _ hl)) (gk_sig hs _ m)
     ·exact hE.trans _ _ _ hr hl (hs.lt _ hl) ih (gk_sig hs _ m)
  rw [← e];exact key j
end
end Go.Proofs.YtijbdnhlpbcabaaGreatDoor
