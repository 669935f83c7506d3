/- The document's mates of letters; whether letters are good. -/
import Derived.Test.YtajjgpkahljjmaaGreatDoorZg26
import Derived.Test.YtajjgpkahljjmaaGreatDoorZg18
import Derived.BigQuiet
import Derived.Test.YtajjgpkahljjmaaGreatDoorZg9
import Derived.Test.YtajjgpkahljjmaaGreatDoorZg17
open Go.RowKit
set_option linter.unusedVariables false
set_option linter.unusedSimpArgs false
namespace Go.Proofs.YtajjgpkahljjmaaGreatDoor
set_option maxRecDepth 20000
def Mates4P (w:World) (ks:List Nat) (n:Nat) (e:Ending) (w':World):Prop :=
 ∃ (Y:Option Addr) (cy:Nat) (y:List Int),e=.returned (.slice Y n cy)∧w'.ownsRow w.heap.size 3 1 (.slice Y n cy) n (I64 y)∧(∀ i,i < n→MatI ks i (y.getD i 0))∧Below w.heap.size w w'
structure M4St (w wr:World) (ks:List Nat) (n s j gy:Nat) (y:List Int):Prop where
 oy:wr.ownsRow w.heap.size 3 1 (.slice (some ⟨gy,0,none⟩) n n) n (I64 y)
 d0:∀ p,p < n→ks.getD p 0 / 2 < s→MatI ks p (y.getD p 0)
 d1:∀ p,p < n→ks.getD p 0 / 2=s→ah s ks p < j→MatI ks p (y.getD p 0)
 bel:Below w.heap.size w wr
theorem M4St.leny {w wr:World} {ks:List Nat} {n s j gy:Nat} {y:List Int} (h:M4St w wr ks n s j gy y):y.length=n:=own_lenI h.oy
theorem M4St.put {w wr:World} {ks:List Nat} {n s j gy:Nat} {y:List Int} (h:M4St w wr ks n s j gy y) (hn:ks.length=n) {p:Nat} (hp:p < n) (hs:ks.getD p 0 / 2=s) (ha:ah s ks p=j) {v:Int} (hv:MatI ks p v) :
  M4St w (wr.setCell ⟨gy,p,none⟩ (.int .i64 v)) ks n s (j+1) gy (y.set p v):=by
 have hl:=h.leny
 have key:∀ x,MatI ks x (y.getD x 0)→MatI ks x ((y.set p v).getD x 0):=fun x hx=>by
  by_cases e:x=p
  ·subst e;rw [getDI_set1 y x v (by omega)];exact hv
  ·rw [getDI_set' y p x v (by omega) e];exact hx
 refine ⟨own_setI h.oy p v,fun x h1 h2=>key x (h.d0 x h1 h2),fun x h1 h2 h3=>?_,h.bel.setCell (own_block h.oy).1 _⟩
 by_cases e:ah s ks x=j
 ·have:x=p:=ah_uniq s ks x p (by omega) (by omega) h2 hs (by omega)
  subst this
  rw [getDI_set1 y x v (by omega)];exact hv
 ·exact key x (h.d1 x h1 h2 (by omega))
theorem M4St.below {w wr w':World} {ks:List Nat} {n s j gy:Nat} {y:List Int} (h:M4St w wr ks n s j gy y) (b:Below wr.heap.size wr w'):M4St w w' ks n s j gy y :=
 ⟨own_below h.oy b,h.d0,h.d1,h.bel.trans (b.mono h.bel.size)⟩
theorem M4St.done {w wr:World} {ks:List Nat} {n s j gy:Nat} {y:List Int} (h:M4St w wr ks n s j gy y) (hn:ks.length=n) (hj:j=(ownL s ks).length):M4St w wr ks n (s+1) 0 gy y :=
 ⟨h.oy,fun p h1 h2=>by
  by_cases e:ks.getD p 0 / 2=s
  ·exact h.d1 p h1 e (by rw [hj];exact ah_lt s ks p (by omega) e)
  ·exact h.d0 p h1 (by omega),fun p _ _ h3=>by omega,h.bel⟩
set_option maxHeartbeats 8000000 in
theorem mates4_p (A:Option Addr) (n c:Nat) (ks:List Nat) (w:World) (hr:Rd w w.heap.size A n (I64 (ofNB ks))) (hk:Kds ks) (hn:n≤100000) (hB0:Bal (exc (val (ownL 0 ks))) (ownL 0 ks).length) (hB1:Bal (exc (val (ownL 1 ks))) (ownL 1 ks).length) :
  Calls Tryz.prog 72 #[.slice A n c] w (Mates4P w ks n):=by
 obtain ⟨i0,hi0,hz0,hz1,hz2⟩:=info_parts info_int
 have hl:ks.length=n:=by have:=hr.len;rw [I64_len,ofN_lenB] at this;exact this
 have HL:=Lib.hid hl
 have HR:=Lib.hid hr
 have HK:=Lib.hid hk
 have HB:Hid (∀ s,s < 2→Bal (exc (val (ownL s ks))) (ownL s ks).length):=fun s hs=>by
  rcases (by omega:s=0∨s=1) with rfl | rfl
  ·exact hB0
  ·exact hB1
 have hoN:∀ s,(ownL s ks).length≤n:=fun s=>by have h1:=ah_le s ks ks.length (Nat.le_refl _);rw [ah_all] at h1;omega
 have HON:=Lib.hid hoN
 have ST:=Lib.hid (fun (s:Nat) (W:World) (hs:s < 2) (m:Below w.heap.size w W)=>sort_p A n c s ks W ((hr.below m).up m.size) hk hs hn)
 have MT:=Lib.hid (fun (A1:Option Addr) (c1 s:Nat) (W:World) (hs:s < 2) (h1:Rd W W.heap.size A1 (ownL s ks).length (I64 (ofNB (ownL s ks))))=>mates_pB A1 (ownL s ks).length c1 (ownL s ks) W h1 (ownL_bin s ks) (by have:=hoN s;omega) (HB.out s hs))
 clear hr hk hB0 hB1 hoN hl
 have hml:n≤maxLen:=by simp only [maxLen];omega
 have hmk:∀ w,(Instr.makeSlice 25 (.int .i64 (n:Int)) (.int .i64 (n:Int))).run Tryz.prog w=.ok (.slice (some ⟨w.heap.size,0,none⟩) n n) (w.alloc (.cells (List.replicate n (.int .i64 0)).toArray 3)):=fun w =>
  run_make_one 25 3 i0 (.int .i64 0) 8 Tryz.underlying25 hi0 hz0 hz1 hz2 rfl .i64 .i64 n (by omega) (by omega) w
 have hrep:(List.replicate n (Value.int .i64 0)).toArray=Array.replicate n (.int .i64 0):=by rw [List.toArray_replicate]
 have M0:Hid (M4St w (w.alloc (.cells (Array.replicate n (.int .i64 0)) 3)) ks n 0 0 w.heap.size (List.replicate n 0)):=by
  have o1:=own_made w 3 n (.int .i64 0) hml
  rw [List.toArray_replicate,← I64_replicate] at o1
  exact ⟨o1,fun p _ h=>absurd h (by omega),fun p _ _ h=>absurd h (by omega),(Below.refl _ _).alloc (Nat.le_refl _) _⟩
 rw [hrep] at hmk
 clear hrep
 go_enter Tryz.func72,Tryz.ntmps72
 go_wp2_with fail
 clear hmk
 obtain ⟨gy,hgy⟩:∃ gy,gy=w.heap.size:=⟨_,rfl⟩
 have hgz:gy < (w.alloc (.cells (Array.replicate n (.int .i64 0)) 3)).heap.size:=by rw [hgy];simp
 rw [← hgy] at M0 ⊢
 clear hgy
 generalize w.alloc (.cells (Array.replicate n (.int .i64 0)) 3)=w1 at *
 go_loopw [4] (fun x wr=>∃ (s:Nat) (y:List Int),x=.int .i64 (s:Int)∧s≤2∧gy < wr.heap.size∧Hid (M4St w wr ks n s 0 gy y)) (fun x _=>2 - (intOf x).toNat)
 case atStart=>exact ⟨0,_,rfl,by omega,hgz,M0⟩
 case round =>
  clear M0 hgz
  obtain ⟨s,y,rfl,hs,hgz,HS⟩:=hrel
  by_cases hlt:s < 2
  ·have SO:=Lib.hid (ST.out s wr hlt HS.out.bel)
   have hdl:decide ((s:Int) < 2)=true:=decide_eq_true (by omega)
   go_wp2_with fail
   refine SO.out.mono ?_
   rintro e w2 ⟨A1,c1,A2,c2,rfl,o1,o2,b2⟩
   have MA:=Lib.hid (MT.out A1 c1 s w2 hlt (Rd.ofOwn o1))
   have S2:=Lib.hid (HS.out.below b2)
   have O2:=Lib.hid o2
   have Z2:=Lib.hid b2.size
   clear o1 o2 b2 HS SO
   go_wp2_with fail
   refine MA.out.mono ?_
   rintro e w3 ⟨Y,Z,cy,cz,ym,zm,rfl,oy,oz,hmz,b3⟩
   have S3:=Lib.hid (S2.out.below b3)
   have OM:=Lib.hid (Rd.ofOwn oy)
   have OA:=Lib.hid (Rd.ofOwn (own_below O2.out b3))
   have HMZ:Hid (∀ i,i < (ownL s ks).length→MateOK (exc (val (ownL s ks))) i (ym.getD i 0)):=fun i hi=>(hmz i hi).1
   have BM:Hid (0 < (ownL s ks).length→¬ inBlk Y gy):=fun h0 ⟨a,ea,ei⟩=>by
    obtain ⟨g,e,h1,_⟩:=own_some oy h0
    rw [e] at ea
    have:=Option.some.inj ea
    subst this
    have:=Z2.out
    simp at ei
    omega
   have BA:Hid (0 < (ownL s ks).length→¬ inBlk A2 gy):=fun h0 ⟨a,ea,ei⟩=>by
    obtain ⟨g,e,h1,_⟩:=own_some O2.out h0
    rw [e] at ea
    have:=Option.some.inj ea
    subst this
    simp at ei
    omega
   have hgz3:gy < w3.heap.size:=by have:=Z2.out;have:=b3.size;omega
   have hol:=HON.out s
   obtain ⟨q,hq⟩:∃ q,q=(ownL s ks).length:=⟨_,rfl⟩
   rw [← hq] at OM OA HMZ BM BA hol ⊢
   have HQ:=Lib.hid hq
   clear oy oz hmz b3 S2 O2 Z2 MA hq
   have hq3:Hid (Mod (fun i=>i=gy) w3 w3):=Mod.refl _ _
   go_wp2_with fail
   go_loopw [31] (fun x wr=>∃ (j:Nat) (y:List Int),x=.int .i64 (j:Int)∧j≤q∧Hid (M4St w wr ks n s j gy y)∧Hid (Mod (fun i=>i=gy) w3 wr)) (fun x _=>q - (intOf x).toNat)
   case atStart=>exact ⟨0,_,rfl,by omega,S3,hq3⟩
   case round =>
    clear S3 hq3
    obtain ⟨j,y,rfl,hj,HS,HM⟩:=hrel
    by_cases hjl:j < q
    ·obtain ⟨b1,o1,e,_,k1⟩:=(OM.out.mod HM.out (Nat.le_refl _) fun h0 i hi he=>BM.out h0 (he ▸ hi)).i64 (by omega)
     subst e
     obtain ⟨b2,o2,e,_,k2⟩:=(OA.out.mod HM.out (Nat.le_refl _) fun h0 i hi he=>BA.out h0 (he ▸ hi)).i64 (by omega)
     subst e
     obtain ⟨p,hp,hps,hpa,hpe⟩:=atN_back (ks:=ks) (s:=s) (y:=j) (by rw [← HQ.out];exact hjl)
     have hm:=HMZ.out j hjl
     rw [← hpa] at hm
     obtain ⟨z,hz,hzl,hmi⟩:=matI_of hp hps (HB.out s hlt) hm
     rw [hpa] at hz
     rw [← HQ.out] at hzl
     have t1:=k1 j hjl
     rw [hz] at t1
     have t2:=k2 j hjl
     rw [ofN_getB,hpe] at t2
     have t3:=k2 z hzl
     rw [ofN_getB] at t3
     have hpn:p < n:=by have:=HL.out;omega
     have S4:=Lib.hid (HS.out.put HL.out hpn hps hpa hmi)
     obtain ⟨v,hv⟩:∃ v:Nat,v=(atN s ks ks.length).getD z 0:=⟨_,rfl⟩
     rw [← hv] at t3 S4
     have gyc:wr.cell? ⟨gy,p,none⟩=some (.int .i64 (y.getD p 0)):=own_cellI HS.out.oy p hpn
     have gyf:wr.frozen? ⟨gy,p,none⟩=false:=HS.out.oy.frozenAt p
     have M4:Hid (Mod (fun i=>i=gy) w3 (wr.setCell ⟨gy,p,none⟩ (.int .i64 (v:Int)))):=HM.out.setCell (p:=⟨gy,p,none⟩) (fun _=>rfl) _
     clear k1 k2 hm hmi hz hv hpa hpe hp hps HS HM
     go_wp2_with fail
     go_roundw
     case rel=>exact ⟨j+1,_,by go_num,by omega,S4,M4⟩
     case measure=>simp [intOf];omega
    ·obtain rfl:j=q:=by omega
     have S5:=Lib.hid (HS.out.done HL.out HQ.out)
     have hgz5:gy < wr.heap.size:=by have:=HM.out.size;omega
     go_wp2_with fail
     go_roundw
     case rel=>exact ⟨s+1,_,by go_num,by omega,hgz5,S5⟩
     case measure=>simp [intOf];omega
  ·obtain rfl:s=2:=by omega
   have HF:Hid (∀ i,i < n→MatI ks i (y.getD i 0)):=fun i hi=>HS.out.d0 i hi (by have:=HK.out.getD i;omega)
   go_wp2_with fail
   go_ret
   exact ⟨_,_,y,rfl,HS.out.oy,HF.out,HS.out.bel⟩
set_option maxRecDepth 100000
def Names12P (w:World) (ks:List Nat) (n:Nat) (e:Ending) (w':World):Prop :=
 ∃ tw A c,Wd ks tw∧e=.returned (.slice A n c)∧n≤c∧c≤maxLen∧w'.ownsRow w.heap.size 3 1 (.slice A n c) n (I64 (ofN (nmL ks tw)))∧Below w.heap.size w w'
set_option maxHeartbeats 8000000 in
theorem names12_p (A:Option Addr) (n c:Nat) (ks:List Nat) (w:World) (hr:Rd w w.heap.size A n (I64 (ofNB ks))) (hk:Kds ks) (hn:n≤20000) (hB0:Bal (exc (val (ownL 0 ks))) (ownL 0 ks).length) (hB1:Bal (exc (val (ownL 1 ks))) (ownL 1 ks).length) :
  Calls Tryz.prog 38 #[.slice A n c] w (Names12P w ks n):=by
 obtain ⟨i0,hi0,hz0,hz1,hz2⟩:=info_parts info_int
 have hl:ks.length=n:=by have:=hr.len;rw [I64_len,ofN_lenB] at this;exact this
 have hmk:=run_make_one (P:=Tryz.prog) 25 3 i0 (.int .i64 0) 8 Tryz.underlying25 hi0 hz0 hz1 hz2 rfl .i64 .i64 n (by omega) (by omega) w
 have hrep:(List.replicate n (Value.int .i64 0)).toArray=Array.replicate n (.int .i64 0):=by simp
 rw [hrep] at hmk
 have hal:=(Below.refl w.heap.size w).alloc (Nat.le_refl _) (.cells (Array.replicate n (Value.int .i64 0)) 3)
 have hO:(w.alloc (.cells (Array.replicate n (Value.int .i64 0)) 3)).ownsRow w.heap.size 3 1 (.slice (some ⟨w.heap.size,0,none⟩) n n) n (I64 (List.replicate n 0)):=by
  have:=World.ownsRow_lit (base:=w.heap.size) (e:=3) (size:=1) w (Array.replicate n (Value.int .i64 0)) n (Nat.le_refl _) (by simp [maxLen];omega) (by simp)
  rw [show I64 (List.replicate n 0)=List.replicate n (.int .i64 0) by simp [I64]]
  simpa using this
 clear hrep
 have M4:Hid (Calls Tryz.prog 72 #[.slice A n c] (w.alloc (.cells (Array.replicate n (Value.int .i64 0)) 3)) (Mates4P (w.alloc (.cells (Array.replicate n (Value.int .i64 0)) 3)) ks n)) :=
  mates4_p A n c ks _ (hr.more hal) hk (by omega) hB0 hB1
 have HO:=Lib.hid hO
 have HB:=Lib.hid hal
 have HR:=Lib.hid hr
 have HK:=Lib.hid hk
 have HL:=Lib.hid hl
 have HW:Hid ((w.alloc (.cells (Array.replicate n (Value.int .i64 0)) 3)).heap.size=w.heap.size+1):=by show _=_;simp
 clear hr hk hB0 hB1 hal hO hl
 go_enter Tryz.func38,Tryz.ntmps38
 go_wp2_with fail
 clear hmk
 refine M4.out.mono ?_
 generalize w.alloc (.cells (Array.replicate n (Value.int .i64 0)) 3)=w1 at *
 rintro e w2 ⟨Y,cy,ym,rfl,hY,hM,b2⟩
 obtain ⟨P,hty⟩:=prg_of HK.out ym (by rw [HL.out];exact hM)
 obtain ⟨tw,htw⟩:∃ tw:Nat→Nat,tw=fun j=>(ym.getD j 0).toNat:=⟨_,rfl⟩
 rw [← htw] at P
 have W:Wd ks tw:=Wd.of P fun i hi=>by
  obtain ⟨q,e,m⟩:=hM i (by rw [← HL.out];exact hi)
  rw [htw]
  show MateAt ks i (ym.getD i 0).toNat
  rw [e];exact m
 have hty':∀ j,j < n→ym.getD j 0=((tw j:Nat):Int):=fun j hj=>by rw [htw];exact hty j (by rw [HL.out];exact hj)
 have HP:=Lib.hid P
 have HWD:=Lib.hid W
 have HTY:=Lib.hid hty'
 have HYO:=Lib.hid hY
 have HO2:=Lib.hid (own_below HO.out b2)
 have HB2:=Lib.hid (HB.out.trans (b2.mono HB.out.size))
 clear P W hty htw hty' hY hM b2 M4 HO HB
 have hhw:w.heap.size+1≤w2.heap.size:=by have:=own_block HO2.out;omega
 have HTK:Hid (∀ j,j < n→ks.getD j 0 < 4∧tw j < n∧tw j≠j):=fun j hj=>⟨HK.out.getD j,by have:=HP.out.lt j (by rw [HL.out];exact hj);rw [HL.out] at this;exact this,HP.out.ne j (by rw [HL.out];exact hj)⟩
 go_wp2_with fail
 go_loopw [5,6,7,15] (fun n5 i6 k7 idx wr=>∃ (i:Nat) (y:List Int),i≤n∧idx=.int .i64 (i:Int)∧n5=.int .i64 ((2*opN ks i:Nat):Int)∧Hid (y.length=n∧NmI ks tw y i∧opN ks i≤i) ∧
  Hid (wr.ownsRow w.heap.size 3 1 (.slice (some ⟨w.heap.size,0,none⟩) n n) n (I64 y))∧Hid (Mod (fun k=>k=w.heap.size) w2 wr)) (fun _ _ _ i _=>n - (intOf i).toNat)
 case atStart=>exact ⟨0,List.replicate n 0,by omega,rfl,rfl,⟨by simp,fun j hj=>by omega,by simp [opN]⟩,HO2.out,Mod.refl _ _⟩
 case round =>
  clear HO2
  obtain ⟨i,y,hi,rfl,rfl,HY,HOW,HMW⟩:=hrel
  by_cases hlt:i < n
  ·have hdk:decide (i < n)=true:=decide_eq_true hlt
   have hlti:(i:Int) < (n:Int):=by omega
   obtain ⟨ba,oa,rfl,hba,hca⟩:=HR.out.at_ (by omega)
   have cA:=hca i (by rw [I64_len,ofN_lenB,HL.out];exact hlt)
   have BW:Below w.heap.size w wr:=HB2.out.trans (HMW.out.belowB HB2.out.size fun k hk e=>by omega)
   obtain ⟨gy,hgy,hgy1,_⟩:=own_some HYO.out (by omega)
   subst hgy
   have OY:wr.ownsRow w1.heap.size 3 1 (.slice (some ⟨gy,0,none⟩) n cy) n (I64 ym):=own_mod HYO.out HMW.out fun k hk e=>by
    simp [Value.ownBlock] at hk
    have:=HW.out;omega
   obtain ⟨kk,hkk⟩:∃ kk,kk=ks.getD i 0:=⟨_,rfl⟩
   obtain ⟨t,ht⟩:∃ t,t=tw i:=⟨_,rfl⟩
   obtain ⟨q,hq⟩:∃ q,q=2*opN ks i:=⟨_,rfl⟩
   obtain ⟨hk4,ht1,ht2⟩:=HTK.out i hlt
   rw [← hkk] at hk4
   rw [← ht] at ht1 ht2
   have cA':wr.cell? ⟨ba,oa+i,none⟩=some (.int .i64 (kk:Int)):=by
    have c0:=(BW.cell (p:=⟨ba,oa+i,none⟩) hba).trans cA
    rw [c0,hkk];simp [I64,ofNB,List.getD_eq_getElem?_getD,List.getElem?_eq_getElem (show i < ks.length by rw [HL.out];exact hlt)]
   have cY:wr.cell? ⟨gy,i,none⟩=some (.int .i64 (t:Int)):=by
    rw [own_cellI OY i hlt,HTY.out i hlt,ht]
   have fO:=HOW.out.frozenAt i
   have cO:=own_cellI HOW.out i hlt
   have hyl:=HY.out.1
   have o1:=own_setI HOW.out i (q:Int)
   have cO2:=own_cellI o1 t ht1
   have fO2:=o1.frozenAt t
   have o2:=own_setI o1 t ((q+1:Nat):Int)
   have M2:Mod (fun k=>k=w.heap.size) w2 ((wr.setCell ⟨w.heap.size,i,none⟩ (.int .i64 (q:Int))).setCell ⟨w.heap.size,t,none⟩ (.int .i64 ((q+1:Nat):Int))) :=
    Mod.setCell (p:=⟨w.heap.size,t,none⟩) (Mod.setCell (p:=⟨w.heap.size,i,none⟩) HMW.out (fun _=>rfl) _) (fun _=>rfl) _
   obtain ⟨r,hr⟩:∃ r,r=kk%2:=⟨_,rfl⟩
   have r1:(kk:Int).tmod 2=(r:Int):=by rw [Int.tmod_eq_emod_of_nonneg (by omega),hr];rfl
   have r2:(kk:Int)%2=(r:Int):=by rw [hr];rfl
   have wr2:IntKind.i64.wrap (r:Int)=(r:Int):=by simp [IntKind.wrap,IntKind.signed,IntKind.bits];omega
   have hti:(t:Int) < (n:Int):=by omega
   have hqb:q≤40000:=by have:=HY.out.2.2;omega
   have hs:(kk%2=0→opN ks (i+1)=opN ks i+1)∧(¬ kk%2=0→opN ks (i+1)=opN ks i):=by
    show (_→opN ks i+_=_)∧(_→opN ks i+_=_)
    rw [← hkk]
    exact ⟨fun c=>by rw [if_pos c],fun c=>by rw [if_neg c];rfl⟩
   have hop:=HY.out.2.2
   by_cases hr0:r=0
   ·have HY1:Hid (((y.set i (q:Int)).set t ((q+1:Nat):Int)).length=n∧NmI ks tw ((y.set i (q:Int)).set t ((q+1:Nat):Int)) (i+1)∧opN ks (i+1)≤i+1):=by
     refine ⟨by simp [hyl],?_,by rw [hs.1 (by omega)];omega⟩
     have:=nm_step HP.out (y:=y) (i:=i) (by rw [hyl,HL.out]) (by rw [HL.out];exact hlt) (by rw [← hkk];omega) HY.out.2.1
     rw [← hq,← ht] at this
     exact this
    have HO3:=Lib.hid o2
    have HM3:=Lib.hid M2
    obtain ⟨q1,hq1⟩:∃ q1,q1=q+1:=⟨_,rfl⟩
    obtain ⟨q2,hq2⟩:∃ q2,q2=q+2:=⟨_,rfl⟩
    rw [← hq1] at HO3 HM3 HY1
    have t1:(q:Int)+1=(q1:Int):=by omega
    have t2:(q:Int)+2=(q2:Int):=by omega
    have w1':IntKind.i64.wrap (q1:Int)=(q1:Int):=by simp [IntKind.wrap,IntKind.signed,IntKind.bits];omega
    have w2':IntKind.i64.wrap (q2:Int)=(q2:Int):=by simp [IntKind.wrap,IntKind.signed,IntKind.bits];omega
    have HQ2:Hid (q2=2*opN ks (i+1)):=by show _=_;rw [hs.1 (by omega)];omega
    rw [← hq]
    subst hr0
    clear o1 o2 M2 HY HOW HMW hs hq hq1 hq2 hkk ht hr BW OY hop hyl cA
    go_wp2_with fail
    go_roundw
    case rel=>exact ⟨i+1,_,by omega,by go_num,by rw [HQ2.out],HY1,HO3,HM3⟩
    case measure=>simp [intOf];omega
   ·have hr0':¬ (r:Int)=0:=by omega
    have hrb:((r:Int) == 0)=false:=by simp;omega
    have hrd:decide (r=0)=false:=decide_eq_false hr0
    have HY1:Hid (y.length=n∧NmI ks tw y (i+1)∧opN ks (i+1)≤i+1) :=
     ⟨hyl,nm_skip (by rw [← hkk];omega) HY.out.2.1,by rw [hs.2 (by omega)];omega⟩
    have HQ2:Hid (q=2*opN ks (i+1)):=by show _=_;rw [hs.2 (by omega)];omega
    rw [← hq]
    clear o1 o2 M2 HY hs hq hkk ht BW OY hop hyl cA cO cO2 fO fO2 cY hr
    go_wp2_with fail
    go_roundw
    case rel=>exact ⟨i+1,y,by omega,by go_num,by rw [HQ2.out],HY1,HOW,HMW⟩
    case measure=>simp [intOf];omega
  ·obtain rfl:i=n:=by omega
   have hdk:decide (i < i)=false:=by simp
   have hY:=nm_done HP.out (y:=y) (by rw [HY.out.1,HL.out]) (by rw [HL.out];exact HY.out.2.1)
   have BW:Hid (Below w.heap.size w wr):=HB2.out.trans (HMW.out.belowB HB2.out.size fun k hk e=>by omega)
   have HF:Hid (wr.ownsRow w.heap.size 3 1 (.slice (some ⟨w.heap.size,0,none⟩) i i) i (I64 (ofN (nmL ks tw)))):=by
    show World.ownsRow _ _ _ _ _ _ _
    rw [← hY];exact HOW.out
   clear hY HY HOW HMW
   go_wp2_with fail
   go_ret
   exact ⟨tw,_,i,HWD.out,rfl,Nat.le_refl _,by simp [maxLen];omega,HF.out,BW.out⟩
theorem nm_pf {ks:List Nat} {tw:Nat→Nat} (P:Prg ks tw):PF ks.length (nmF ks tw):=⟨fun i hi=>nm_lt P hi,fun i j hi hj e=>nm_inj P hi hj e⟩
theorem nm_sur {ks:List Nat} {tw:Nat→Nat} (P:Prg ks tw) {d:Nat} (hd:d < ks.length):∃ i,i < ks.length∧nmF ks tw i=d:=by
 obtain ⟨k,hk,e⟩:=(nm_pf P).back hd
 cases k with
 | zero=>omega
 | succ k=>exact ⟨_,(nm_pf P).itlt hd k,e⟩
theorem nm_mt {ks:List Nat} {tw:Nat→Nat} (P:Prg ks tw) {i:Nat} (hi:i < ks.length):mt (nmF ks tw i)=nmF ks tw (tw i):=by
 have a:=P.opn i hi
 have b:=P.opn (tw i) (P.lt i hi)
 have t:=P.tt i hi
 have ne:=P.ne i hi
 rw [t] at b
 unfold nmF mt
 by_cases c:ks.getD i 0%2=0
 ·have d:¬ ks.getD (tw i) 0%2=0:=fun q=>by have:=a.1 c;have:=b.1 q;omega
  rw [if_pos c,if_neg d,if_pos (by omega),t]
 ·have d:ks.getD (tw i) 0%2=0:=b.2 (by have:¬ i < tw i:=fun q=>c (a.2 q);omega)
  rw [if_neg c,if_pos d,if_neg (by omega)]
  omega
theorem TurnW.wrd {ks:List Nat} {tw:Nat→Nat} {l:List Nat} (h:TurnW ks tw l) (W:Wd ks tw) (n0:0 < ks.length):Wrd ks tw (nmF ks tw) l :=
 ⟨W.P,W.x0,W.x1,n0,fun i hi=>by rw [h.1];exact nm_lt W.P hi,fun i j hi hj e=>nm_inj W.P hi hj e,fun i hi=>nm_mt W.P hi,fun i hi=>h.2 i hi⟩
theorem TurnW.inv {ks:List Nat} {tw:Nat→Nat} {l:List Nat} (h:TurnW ks tw l) (W:Wd ks tw):∃ b,Inv l b:=by
 refine pf_inv ?_
 rw [h.1]
 refine ⟨fun d hd=>?_,fun d e hd he q=>?_⟩
 ·obtain ⟨i,hi,rfl⟩:=nm_sur W.P hd
  rw [h.2 i hi]
  exact nm_lt W.P (nx_lt (by omega) i)
 ·obtain ⟨i,hi,rfl⟩:=nm_sur W.P hd
  obtain ⟨j,hj,rfl⟩:=nm_sur W.P he
  rw [h.2 i hi,h.2 j hj] at q
  have n0:0 < ks.length:=by omega
  have:=nm_inj W.P (nx_lt n0 i) (nx_lt n0 j) q
  rw [(nx_pf (s:=0) W.P n0).inj i j hi hj this]
theorem TurnW.uniq {ks:List Nat} {tw tw':Nat→Nat} {l l':List Nat} (h:TurnW ks tw l) (h':TurnW ks tw' l') (W:Wd ks tw) (W':Wd ks tw'):l=l':=by
 apply List.ext_getElem (by rw [h.1,h'.1])
 intro d h1 h2
 have g:∀ (v:List Nat) k (hk:k < v.length),v[k]=v.getD k 0:=fun v k hk=>by rw [List.getD_eq_getElem?_getD,List.getElem?_eq_getElem hk];rfl
 rw [g _ _ h1,g _ _ h2]
 obtain ⟨i,hi,e⟩:=nm_sur W.P (show d < ks.length by rw [← h.1];exact h1)
 have e':nmF ks tw' i=d:=by rw [← W.nm W' hi];exact e
 have a:=h.2 i hi
 have b:=h'.2 i hi
 rw [e] at a
 rw [e'] at b
 have nx:nxS 0 ks tw i=nxS 0 ks tw' i:=by unfold nxS;rw [W.uniq W' hi]
 have hb:l'.getD d 0=nmF ks tw' (nxS 0 ks tw' i):=b
 have ha:l.getD d 0=nmF ks tw (nxS 0 ks tw i):=a
 rw [ha,hb,← nx,W.nm W' (nx_lt (by omega) i)]
def TnI (ks:List Nat) (tw:Nat→Nat) (y:List Int) (j:Nat):Prop:=∀ i,i < j→y.getD (nmF ks tw (if ks.getD i 0 / 2=0 then tw i else i)) 0=((nmF ks tw ((i+1)%ks.length):Nat):Int)
theorem TnI.step {ks:List Nat} {tw:Nat→Nat} {y:List Int} {j:Nat} (h:TnI ks tw y j) (P:Prg ks tw) (hj:j < ks.length) (hy:y.length=ks.length) {d z:Nat} (hd:d=nmF ks tw (if ks.getD j 0 / 2=0 then tw j else j)) (hz:z=nmF ks tw ((j+1)%ks.length)):TnI ks tw (y.set d (z:Int)) (j+1):=fun i hi=>by
 have lt:∀ i,i < ks.length→(if ks.getD i 0 / 2=0 then tw i else i) < ks.length:=fun i hi=>by
  split
  ·exact P.lt i hi
  ·exact hi
 have inj:∀ i j,i < ks.length→j < ks.length→(if ks.getD i 0 / 2=0 then tw i else i)=(if ks.getD j 0 / 2=0 then tw j else j)→i=j:=fun i j hi hj e=>by
  have si:=P.sort i hi
  have sj:=P.sort j hj
  by_cases c:ks.getD i 0 / 2=0
  ·by_cases q:ks.getD j 0 / 2=0
   ·rw [if_pos c,if_pos q] at e
    rw [← P.tt i hi,e,P.tt j hj]
   ·rw [if_pos c,if_neg q] at e
    rw [e] at si;omega
  ·by_cases q:ks.getD j 0 / 2=0
   ·rw [if_neg c,if_pos q] at e
    rw [← e] at sj;omega
   ·rw [if_neg c,if_neg q] at e
    exact e
 rw [getI_set _ _ _ _ (by rw [hy,hd];exact nm_lt P (lt j hj))]
 by_cases e:i=j
 ·subst e;rw [if_pos hd.symm,hz]
 ·rw [if_neg (fun q=>e (inj i j (by omega) hj (nm_inj P (lt i (by omega)) (lt j hj) (by rw [q,hd])))),h i (by omega)]
theorem TnI.done {ks:List Nat} {tw:Nat→Nat} {y:List Int} (h:TnI ks tw y ks.length) (P:Prg ks tw) (hy:y.length=ks.length):∃ l,y=ofN l∧TurnW ks tw l:=by
 have key:∀ i,i < ks.length→y.getD (nmF ks tw i) 0=((nmF ks tw (nxS 0 ks tw i):Nat):Int):=fun i hi=>by
  unfold nxS
  by_cases c:ks.getD i 0 / 2=0
  ·have:=h (tw i) (P.lt i hi)
   rw [P.sort i hi,if_pos c,P.tt i hi] at this
   rw [this,if_pos c]
  ·have:=h i hi
   rw [if_neg c] at this
   rw [this,if_neg c]
 refine ⟨y.map Int.toNat,?_,by simp [hy],fun i hi=>?_⟩
 ·apply List.ext_getElem
  ·simp [ofN]
  ·intro d h1 h2
   obtain ⟨i,hi,e⟩:=nm_sur P (show d < ks.length by rw [← hy];exact h1)
   have:=key i hi
   rw [e,List.getD_eq_getElem?_getD,List.getElem?_eq_getElem h1] at this
   have t:y[d]=((nmF ks tw (nxS 0 ks tw i):Nat):Int):=this
   simp only [ofN,List.getElem_map,t]
   rfl
 ·show (y.map Int.toNat).getD _ 0=_
  have hl:nmF ks tw i < y.length:=by rw [hy];exact nm_lt P hi
  have:=key i hi
  rw [List.getD_eq_getElem?_getD,List.getElem?_eq_getElem hl] at this
  have t:y[nmF ks tw i]=((nmF ks tw (nxS 0 ks tw i):Nat):Int):=this
  rw [List.getD_eq_getElem?_getD,List.getElem?_map,List.getElem?_eq_getElem hl]
  show (y[nmF ks tw i]).toNat=_
  rw [t];rfl
section
variable {w0 w:World} {m gx p0 g0 p1 g1 q:Nat} {ks:List Nat} {tw:Nat→Nat}
def TNames (w0 w:World) (m gx p0 g0 p1 g1:Nat) (ks:List Nat) (q n:Nat) (l:List Nat) (e:Ending) (w':World):Prop :=
 ∃ A c,e=.returned (.slice A n c)∧n≤c∧c≤maxLen∧w'.ownsRow w.heap.size 3 1 (.slice A n c) n (I64 (ofN l))∧Mx w0 w' m gx p0 g0 p1 g1 ks q∧Mod (MxS gx p0 g0 p1 g1) w w'
set_option maxHeartbeats 8000000 in
theorem tnames_p (W:Wd ks tw) (h:Mx w0 w m gx p0 g0 p1 g1 ks q) (n:Nat) (hnk:ks.length=n) (hn:n≤20000) (hq:q≤200000) :
  Calls Tryz.prog 74 #[.agg #[.pointer (some ⟨m,0,none⟩)]] w (TNames w0 w m gx p0 g0 p1 g1 ks (q+7*n) n (nmL ks tw)):=by
 obtain ⟨i0,hi0,hz0,hz1,hz2⟩:=info_parts info_int
 have hal:=(Below.refl w.heap.size w).alloc (Nat.le_refl _) (.cells #[.pointer (some ⟨m,0,none⟩)] 94)
 have hB:=Blk.new w 94 #[.pointer (some ⟨m,0,none⟩)]
 have hM1:=(Mod.refl (MxS gx p0 g0 p1 g1) w).alloc (.cells #[.pointer (some ⟨m,0,none⟩)] 94)
 obtain ⟨w1,hw1⟩:∃ w1,w1=w.alloc (.cells #[.pointer (some ⟨m,0,none⟩)] 94):=⟨_,rfl⟩
 rw [← hw1] at hal hB hM1
 have hs1:w1.heap.size=w.heap.size+1:=by rw [hw1];simp
 have h1:=h.below hal
 have LN:=ilen_p h1
 rw [hnk] at LN
 have HLN:=Lib.hid LN
 have hmk:=run_make_one (P:=Tryz.prog) 25 3 i0 (.int .i64 0) 8 Tryz.underlying25 hi0 hz0 hz1 hz2 rfl .i64 .i64 n (by omega) (by omega) w1
 have hrep:(List.replicate n (Value.int .i64 0)).toArray=Array.replicate n (.int .i64 0):=by simp
 rw [hrep] at hmk
 have hal2:=(Below.refl w1.heap.size w1).alloc (Nat.le_refl _) (.cells (Array.replicate n (Value.int .i64 0)) 3)
 have hO:(w1.alloc (.cells (Array.replicate n (Value.int .i64 0)) 3)).ownsRow w1.heap.size 3 1 (.slice (some ⟨w1.heap.size,0,none⟩) n n) n (I64 (List.replicate n 0)):=by
  have:=World.ownsRow_lit (base:=w1.heap.size) (e:=3) (size:=1) w1 (Array.replicate n (Value.int .i64 0)) n (Nat.le_refl _) (by simp [maxLen];omega) (by simp)
  rw [show I64 (List.replicate n 0)=List.replicate n (.int .i64 0) by simp [I64]]
  simpa using this
 obtain ⟨w2,hw2⟩:∃ w2,w2=w1.alloc (.cells (Array.replicate n (Value.int .i64 0)) 3):=⟨_,rfl⟩
 rw [← hw2] at hal2 hO hmk
 have hM2:Hid (Mod (MxS gx p0 g0 p1 g1) w w2):=by show Mod _ _ _;rw [hw2];exact hM1.alloc _
 have h2:=Lib.hid (h1.below hal2)
 have hB2:=Lib.hid (hB.below hal2)
 have x0:w1.cell? ⟨w.heap.size,0,none⟩=some (.pointer (some ⟨m,0,none⟩)):=by have:=hB.cell 0;simpa using this
 obtain ⟨gr,hgr⟩:∃ gr,gr=w1.heap.size:=⟨_,rfl⟩
 rw [← hgr] at hO hmk
 have hg1:gr=w.heap.size+1:=by omega
 have HO:=Lib.hid hO
 have HW:=Lib.hid W
 have HLO:Hid (w0.heap.size≤w.heap.size∧∀ s,MxS gx p0 g0 p1 g1 s→s < w.heap.size):=⟨h.bel.size,fun s hs=>h.lts s hs⟩
 have hs2:gr < w2.heap.size:=by rw [hw2];simp;omega
 have HG1:=Lib.hid (And.intro hg1 hs2)
 have HNK:=Lib.hid hnk
 have HTK:Hid (∀ j,j < n→ks.getD j 0 < 4∧tw j < n∧tw j≠j):=fun j hj=>⟨W.P.kd.getD j,by have:=W.P.lt j (by omega);omega,W.P.ne j (by omega)⟩
 clear h h1 hal hal2 hO hB W LN hM1 hrep hg1 hs2 hnk hs1 hgr
 go_enter Tryz.func74,Tryz.ntmps74
 go_upto_region 1 with fail
 rw [← hw1]
 clear hw1
 go_upto_region 2 with (first | (refine HLN.out.mono ?_;rintro e wa ⟨rfl,rfl⟩))
 rw [← hw2]
 clear hw2 hmk HLN x0
 go_wp2_with fail
 go_loopw [4,5,6,13] (fun n4 i5 k6 idx wr=>∃ (i:Nat) (y:List Int),i≤n∧idx=.int .i64 (i:Int)∧n4=.int .i64 ((2*opN ks i:Nat):Int)∧Hid (y.length=n∧NmI ks tw y i∧opN ks i≤i) ∧
  Hid (wr.ownsRow gr 3 1 (.slice (some ⟨gr,0,none⟩) n n) n (I64 y))∧Hid (Mx w0 wr m gx p0 g0 p1 g1 ks (q+7*i))∧Hid (Mod (fun k=>MxS gx p0 g0 p1 g1 k∨k=gr) w2 wr)) (fun _ _ _ i _=>n - (intOf i).toNat)
 case atStart=>exact ⟨0,List.replicate n 0,by omega,rfl,rfl,⟨by simp,fun j hj=>by omega,by simp [opN]⟩,HO.out,h2.out,Mod.refl _ _⟩
 case round =>
  clear HO h2
  obtain ⟨i,y,hi,rfl,rfl,HY,HOW,HX,HMW⟩:=hrel
  by_cases hlt:i < n
  ·have hdk:decide (i < n)=true:=decide_eq_true hlt
   have hlti:(i:Int) < (n:Int):=by omega
   have hik:i < ks.length:=by rw [HNK.out];exact hlt
   have b0:=(HMW.out.cell (b:=w.heap.size) (by have:=HG1.out;omega) (fun c=>by have:=HG1.out;rcases c with c | c;(have:=HLO.out.2 _ c;omega);omega) 0).trans (by have:=hB2.out.cell 0;simpa using this)
   have AT:=iat_p HX.out i hik (by omega)
   obtain ⟨kk,hkk⟩:∃ kk,kk=ks.getD i 0:=⟨_,rfl⟩
   obtain ⟨t,ht⟩:∃ t,t=tw i:=⟨_,rfl⟩
   obtain ⟨qq,hqq⟩:∃ qq,qq=2*opN ks i:=⟨_,rfl⟩
   obtain ⟨hk4,ht1,ht2⟩:=HTK.out i hlt
   rw [← hkk] at hk4 AT
   rw [← ht] at ht1 ht2
   have HAT:=Lib.hid AT
   have hqb:qq≤40000:=by have:=HY.out.2.2;omega
   have hop:=HY.out.2.2
   have hyl:=HY.out.1
   have hs:(kk%2=0→opN ks (i+1)=opN ks i+1)∧(¬ kk%2=0→opN ks (i+1)=opN ks i):=by
    show (_→opN ks i+_=_)∧(_→opN ks i+_=_)
    rw [← hkk]
    exact ⟨fun c=>by rw [if_pos c],fun c=>by rw [if_neg c];rfl⟩
   clear AT
   rw [← hqq]
   go_wp2_with fail
   refine HAT.out.mono ?_
   rintro e wa ⟨rfl,ha,ma⟩
   have HA:=Lib.hid ha
   have hgw:gr < wr.heap.size∧w.heap.size < wr.heap.size:=by have:=HMW.out.size;have:=HG1.out;omega
   have hng:¬ MxS gx p0 g0 p1 g1 gr:=fun c=>by have:=HLO.out.2 _ c;have:=HG1.out;omega
   have hnw:¬ MxS gx p0 g0 p1 g1 w.heap.size:=fun c=>by have:=HLO.out.2 _ c;omega
   have OA:=Lib.hid (own_mod HOW.out ma fun k hk e=>hng (by simp [Value.ownBlock] at hk;rw [hk];exact e))
   have MWA:Hid (Mod (fun k=>MxS gx p0 g0 p1 g1 k∨k=gr) w2 wa):=HMW.out.trans ma fun k _ c=>.inl c
   have ba:=(ma.cell hgw.2 hnw 0).trans b0
   have hgwa:gr < wa.heap.size∧w.heap.size < wa.heap.size:=by have:=ma.size;omega
   have hkk4:kk=0∨kk=1∨kk=2∨kk=3:=by omega
   clear ha HAT b0 hgw HX HOW ma HMW
   rcases hkk4 with k0 | k0 | k0 | k0
   ·have HY1:Hid (((y.set i (qq:Int)).set t ((qq+1:Nat):Int)).length=n∧NmI ks tw ((y.set i (qq:Int)).set t ((qq+1:Nat):Int)) (i+1)∧opN ks (i+1)≤i+1):=by
     refine ⟨by simp [hyl],?_,by rw [hs.1 (by omega)];omega⟩
     have:=nm_step HW.out.P (y:=y) (i:=i) (by rw [hyl,HNK.out]) hik (by rw [← hkk];omega) HY.out.2.1
     rw [← hqq,← ht] at this
     exact this
    have HQ2:Hid (qq+2=2*opN ks (i+1)):=by show _=_;rw [hs.1 (by omega)];omega
    have PR:=tpair_p HW.out HA.out i hik (by omega)
    rw [← ht] at PR
    have HPR:=Lib.hid PR
    have MT:Hid (∀ W,Calls Tryz.prog 100 #[.int .i64 (qq:Int)] W fun e w'=>e=.returned (.int .i64 ((qq+1:Nat):Int))∧W=w'):=fun W=>by
     have:=tmate_p qq W (by omega)
     rwa [show mt qq=qq+1 by unfold mt;rw [if_pos (by omega)]] at this
    obtain ⟨q1,hq1⟩:∃ q1,q1=qq+1:=⟨_,rfl⟩
    obtain ⟨q2,hq2⟩:∃ q2,q2=qq+2:=⟨_,rfl⟩
    rw [← hq1] at MT HY1
    rw [← hq2] at HQ2
    have t2:(qq:Int)+2=(q2:Int):=by omega
    have w2':IntKind.i64.wrap (q2:Int)=(q2:Int):=by simp [IntKind.wrap,IntKind.signed,IntKind.bits];omega
    have hti:(t:Int) < (n:Int):=by omega
    have wi:IntKind.i64.wrap ((i:Int)+1)=(i:Int)+1:=by simp [IntKind.wrap,IntKind.signed,IntKind.bits];omega
    subst k0
    clear HY hs hqq hq1 hq2 hkk ht hop hyl PR HA hik
    go_upto_region 8 with fail
    go_wp2_with fail
    refine HPR.out.mono ?_
    rintro e wb ⟨rfl,hb,mb⟩
    go_wp2_with fail
    refine (MT.out _).mono ?_
    rintro e wc ⟨rfl,rfl⟩
    have OB:=own_mod OA.out mb fun k hk e=>hng (by simp [Value.ownBlock] at hk;rw [hk];exact e)
    have cO:=own_cellI OB i hlt
    have fO:=OB.frozenAt i
    have o1:=own_setI OB i (qq:Int)
    have cO2:=own_cellI o1 t ht1
    have fO2:=o1.frozenAt t
    have o2:=own_setI o1 t (q1:Int)
    have MS:=fun W u k=>Mod.setCell (p:=⟨gr,k,none⟩) (Mod.refl (fun k=>k=gr) W) (fun _=>rfl) u
    obtain ⟨cs1,bk1⟩:=own_blk OB (k:=gr) rfl
    have hb1:=hb.off (by decide) (MS wb (.int .i64 (qq:Int)) i) bk1 (by have:=HLO.out.1;have:=HG1.out;omega)
    obtain ⟨cs2,bk2⟩:=own_blk o1 (k:=gr) rfl
    have hb2:=hb1.off (by decide) (MS _ (.int .i64 (q1:Int)) t) bk2 (by have:=HLO.out.1;have:=HG1.out;omega)
    have HX1:=Lib.hid (hb2.le (q':=q+7*(i+1)) (by omega))
    have HO3:=Lib.hid o2
    have HM3:Hid (Mod (fun k=>MxS gx p0 g0 p1 g1 k∨k=gr) w2 ((wb.setCell ⟨gr,i,none⟩ (.int .i64 (qq:Int))).setCell ⟨gr,t,none⟩ (.int .i64 (q1:Int)))) :=
     Mod.setCell (p:=⟨gr,t,none⟩) (Mod.setCell (p:=⟨gr,i,none⟩) (MWA.out.trans mb fun k _ c=>.inl c) (fun _=>.inr rfl) _) (fun _=>.inr rfl) _
    clear hb hb1 hb2 MS bk1 bk2 o1 o2 OB mb
    go_wp2_with fail
    go_roundw
    case rel=>exact ⟨i+1,_,by omega,by go_num,by rw [HQ2.out],HY1,HO3,HX1,HM3⟩
    case measure=>simp [intOf];omega
   ·have HY1:Hid (y.length=n∧NmI ks tw y (i+1)∧opN ks (i+1)≤i+1) :=
     ⟨hyl,nm_skip (by rw [← hkk];omega) HY.out.2.1,by rw [hs.2 (by omega)];omega⟩
    have HQ2:Hid (qq=2*opN ks (i+1)):=by show _=_;rw [hs.2 (by omega)];omega
    have HX1:Hid (Mx w0 wa m gx p0 g0 p1 g1 ks (q+7*(i+1))):=HA.out.le (by omega)
    have wi:IntKind.i64.wrap ((i:Int)+1)=(i:Int)+1:=by simp [IntKind.wrap,IntKind.signed,IntKind.bits];omega
    subst k0
    clear HY hs hqq hkk ht hop hyl HA hik
    go_wp2_with fail
    go_roundw
    case rel=>exact ⟨i+1,y,by omega,by go_num,by rw [HQ2.out],HY1,OA,HX1,MWA⟩
    case measure=>simp [intOf];omega
   ·have HY1:Hid (((y.set i (qq:Int)).set t ((qq+1:Nat):Int)).length=n∧NmI ks tw ((y.set i (qq:Int)).set t ((qq+1:Nat):Int)) (i+1)∧opN ks (i+1)≤i+1):=by
     refine ⟨by simp [hyl],?_,by rw [hs.1 (by omega)];omega⟩
     have:=nm_step HW.out.P (y:=y) (i:=i) (by rw [hyl,HNK.out]) hik (by rw [← hkk];omega) HY.out.2.1
     rw [← hqq,← ht] at this
     exact this
    have HQ2:Hid (qq+2=2*opN ks (i+1)):=by show _=_;rw [hs.1 (by omega)];omega
    have PR:=tpair_p HW.out HA.out i hik (by omega)
    rw [← ht] at PR
    have HPR:=Lib.hid PR
    have MT:Hid (∀ W,Calls Tryz.prog 100 #[.int .i64 (qq:Int)] W fun e w'=>e=.returned (.int .i64 ((qq+1:Nat):Int))∧W=w'):=fun W=>by
     have:=tmate_p qq W (by omega)
     rwa [show mt qq=qq+1 by unfold mt;rw [if_pos (by omega)]] at this
    obtain ⟨q1,hq1⟩:∃ q1,q1=qq+1:=⟨_,rfl⟩
    obtain ⟨q2,hq2⟩:∃ q2,q2=qq+2:=⟨_,rfl⟩
    rw [← hq1] at MT HY1
    rw [← hq2] at HQ2
    have t2:(qq:Int)+2=(q2:Int):=by omega
    have w2':IntKind.i64.wrap (q2:Int)=(q2:Int):=by simp [IntKind.wrap,IntKind.signed,IntKind.bits];omega
    have hti:(t:Int) < (n:Int):=by omega
    have wi:IntKind.i64.wrap ((i:Int)+1)=(i:Int)+1:=by simp [IntKind.wrap,IntKind.signed,IntKind.bits];omega
    subst k0
    clear HY hs hqq hq1 hq2 hkk ht hop hyl PR HA hik
    go_upto_region 8 with fail
    go_wp2_with fail
    refine HPR.out.mono ?_
    rintro e wb ⟨rfl,hb,mb⟩
    go_wp2_with fail
    refine (MT.out _).mono ?_
    rintro e wc ⟨rfl,rfl⟩
    have OB:=own_mod OA.out mb fun k hk e=>hng (by simp [Value.ownBlock] at hk;rw [hk];exact e)
    have cO:=own_cellI OB i hlt
    have fO:=OB.frozenAt i
    have o1:=own_setI OB i (qq:Int)
    have cO2:=own_cellI o1 t ht1
    have fO2:=o1.frozenAt t
    have o2:=own_setI o1 t (q1:Int)
    have MS:=fun W u k=>Mod.setCell (p:=⟨gr,k,none⟩) (Mod.refl (fun k=>k=gr) W) (fun _=>rfl) u
    obtain ⟨cs1,bk1⟩:=own_blk OB (k:=gr) rfl
    have hb1:=hb.off (by decide) (MS wb (.int .i64 (qq:Int)) i) bk1 (by have:=HLO.out.1;have:=HG1.out;omega)
    obtain ⟨cs2,bk2⟩:=own_blk o1 (k:=gr) rfl
    have hb2:=hb1.off (by decide) (MS _ (.int .i64 (q1:Int)) t) bk2 (by have:=HLO.out.1;have:=HG1.out;omega)
    have HX1:=Lib.hid (hb2.le (q':=q+7*(i+1)) (by omega))
    have HO3:=Lib.hid o2
    have HM3:Hid (Mod (fun k=>MxS gx p0 g0 p1 g1 k∨k=gr) w2 ((wb.setCell ⟨gr,i,none⟩ (.int .i64 (qq:Int))).setCell ⟨gr,t,none⟩ (.int .i64 (q1:Int)))) :=
     Mod.setCell (p:=⟨gr,t,none⟩) (Mod.setCell (p:=⟨gr,i,none⟩) (MWA.out.trans mb fun k _ c=>.inl c) (fun _=>.inr rfl) _) (fun _=>.inr rfl) _
    clear hb hb1 hb2 MS bk1 bk2 o1 o2 OB mb
    go_wp2_with fail
    go_roundw
    case rel=>exact ⟨i+1,_,by omega,by go_num,by rw [HQ2.out],HY1,HO3,HX1,HM3⟩
    case measure=>simp [intOf];omega
   ·have HY1:Hid (y.length=n∧NmI ks tw y (i+1)∧opN ks (i+1)≤i+1) :=
     ⟨hyl,nm_skip (by rw [← hkk];omega) HY.out.2.1,by rw [hs.2 (by omega)];omega⟩
    have HQ2:Hid (qq=2*opN ks (i+1)):=by show _=_;rw [hs.2 (by omega)];omega
    have HX1:Hid (Mx w0 wa m gx p0 g0 p1 g1 ks (q+7*(i+1))):=HA.out.le (by omega)
    have wi:IntKind.i64.wrap ((i:Int)+1)=(i:Int)+1:=by simp [IntKind.wrap,IntKind.signed,IntKind.bits];omega
    subst k0
    clear HY hs hqq hkk ht hop hyl HA hik
    go_wp2_with fail
    go_roundw
    case rel=>exact ⟨i+1,y,by omega,by go_num,by rw [HQ2.out],HY1,OA,HX1,MWA⟩
    case measure=>simp [intOf];omega
  ·obtain rfl:i=n:=by omega
   have hdk:decide (i < i)=false:=by simp
   have hY:=nm_done HW.out.P (y:=y) (by rw [HY.out.1,HNK.out]) (by rw [HNK.out];exact HY.out.2.1)
   have HF:Hid (wr.ownsRow gr 3 1 (.slice (some ⟨gr,0,none⟩) i i) i (I64 (ofN (nmL ks tw)))):=by
    show World.ownsRow _ _ _ _ _ _ _
    rw [← hY];exact HOW.out
   have MF:Hid (Mod (MxS gx p0 g0 p1 g1) w wr):=(hM2.out.trans HMW.out fun k hk c=>by rcases c with c | c;exact c;(have:=HG1.out;omega))
   clear hY HY HOW HMW
   go_wp2_with fail
   go_ret
   exact ⟨_,i,rfl,Nat.le_refl _,by simp [maxLen];omega,HF.out.base_le' (by have:=HG1.out;omega),HX.out,MF.out⟩
end
end Go.Proofs.YtajjgpkahljjmaaGreatDoor
namespace Go.Proofs.YtajjgpkahljjmaaGreatDoor
set_option maxRecDepth 20000
section
variable {w0 w:World} {m gx p0 g0 p1 g1 q:Nat} {ks:List Nat} {tw:Nat→Nat}
end
end Go.Proofs.YtajjgpkahljjmaaGreatDoor
