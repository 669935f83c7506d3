/- The names of the places of a right word, and the turns of its map: the program's. -/
import Derived.Test.YtijbdnhlpbcabaaGreatDoorZg25
import Derived.Test.YtijbdnhlpbcabaaGreatDoorZg26
import Derived.Test.YtijbdnhlpbcabaaGreatDoorZg10
import Derived.Test.YtijbdnhlpbcabaaGreatDoorZg17
import Derived.Test.YtijbdnhlpbcabaaGreatDoorZg13
import Derived.Test.YtijbdnhlpbcabaaGreatDoorZg12
import Derived.Test.YtijbdnhlpbcabaaGreatDoorZg3
import Derived.Test.YtijbdnhlpbcabaaGreatDoorZg19
open Go.RowKit
set_option linter.unusedVariables false
set_option linter.unusedSimpArgs false
namespace Go.Proofs.YtijbdnhlpbcabaaGreatDoor
set_option maxRecDepth 20000
theorem nm_pf {ks:List Nat} {tw:Nat→Nat} (P:Prg ks tw):PF ks.length (nmF ks tw):=⟨fun i hi=>nm_lt P hi,fun i j hi hj e=>nm_inj P hi hj e⟩
theorem nm_sur {ks:List Nat} {tw:Nat→Nat} (P:Prg ks tw) {d:Nat} (hd:d < ks.length):∃ i,i < ks.length∧nmF ks tw i=d:=by
 obtain ⟨k,hk,e⟩:=(nm_pf P).back hd
 cases k with
 | zero=>omega
 | succ k=>exact ⟨_,(nm_pf P).itlt hd k,e⟩
theorem nm_mt {ks:List Nat} {tw:Nat→Nat} (P:Prg ks tw) {i:Nat} (hi:i < ks.length):mt (nmF ks tw i)=nmF ks tw (tw i):=by
 have a:=P.opn i hi
 have b:=P.opn (tw i) (P.lt i hi)
 have t:=P.tt i hi
 have ne:=P.ne i hi
 rw [t] at b
 unfold nmF mt
 by_cases c:ks.getD i 0%2=0
 ·have d:¬ ks.getD (tw i) 0%2=0:=fun q=>by have:=a.1 c;have:=b.1 q;omega
  rw [if_pos c,if_neg d,if_pos (by omega),t]
 ·have d:ks.getD (tw i) 0%2=0:=b.2 (by have:¬ i < tw i:=fun q=>c (a.2 q);omega)
  rw [if_neg c,if_pos d,if_neg (by omega)]
  omega
theorem TurnW.wrd {ks:List Nat} {tw:Nat→Nat} {l:List Nat} (h:TurnW ks tw l) (W:Wd ks tw) (n0:0 < ks.length):Wrd ks tw (nmF ks tw) l :=
 ⟨W.P,W.x0,W.x1,n0,fun i hi=>by rw [h.1];exact nm_lt W.P hi,fun i j hi hj e=>nm_inj W.P hi hj e,fun i hi=>nm_mt W.P hi,fun i hi=>h.2 i hi⟩
theorem TurnW.inv {ks:List Nat} {tw:Nat→Nat} {l:List Nat} (h:TurnW ks tw l) (W:Wd ks tw):∃ b,Inv l b:=by
 refine pf_inv ?_
 rw [h.1]
 refine ⟨fun d hd=>?_,fun d e hd he q=>?_⟩
 ·obtain ⟨i,hi,rfl⟩:=nm_sur W.P hd
  rw [h.2 i hi]
  exact nm_lt W.P (nx_lt (by omega) i)
 ·obtain ⟨i,hi,rfl⟩:=nm_sur W.P hd
  obtain ⟨j,hj,rfl⟩:=nm_sur W.P he
  rw [h.2 i hi,h.2 j hj] at q
  have n0:0 < ks.length:=by omega
  have:=nm_inj W.P (nx_lt n0 i) (nx_lt n0 j) q
  rw [(nx_pf (s:=0) W.P n0).inj i j hi hj this]
theorem TurnW.uniq {ks:List Nat} {tw tw':Nat→Nat} {l l':List Nat} (h:TurnW ks tw l) (h':TurnW ks tw' l') (W:Wd ks tw) (W':Wd ks tw'):l=l':=by
 apply List.ext_getElem (by rw [h.1,h'.1])
 intro d h1 h2
 have g:∀ (v:List Nat) k (hk:k < v.length),v[k]=v.getD k 0:=fun v k hk=>by rw [List.getD_eq_getElem?_getD,List.getElem?_eq_getElem hk];rfl
 rw [g _ _ h1,g _ _ h2]
 obtain ⟨i,hi,e⟩:=nm_sur W.P (show d < ks.length by rw [← h.1];exact h1)
 have e':nmF ks tw' i=d:=by rw [← W.nm W' hi];exact e
 have a:=h.2 i hi
 have b:=h'.2 i hi
 rw [e] at a
 rw [e'] at b
 have nx:nxS 0 ks tw i=nxS 0 ks tw' i:=by unfold nxS;rw [W.uniq W' hi]
 have hb:l'.getD d 0=nmF ks tw' (nxS 0 ks tw' i):=b
 have ha:l.getD d 0=nmF ks tw (nxS 0 ks tw i):=a
 rw [ha,hb,← nx,W.nm W' (nx_lt (by omega) i)]
def TnI (ks:List Nat) (tw:Nat→Nat) (y:List Int) (j:Nat):Prop:=∀ i,i < j→y.getD (nmF ks tw (if ks.getD i 0 / 2=0 then tw i else i)) 0=((nmF ks tw ((i+1)%ks.length):Nat):Int)
theorem TnI.step {ks:List Nat} {tw:Nat→Nat} {y:List Int} {j:Nat} (h:TnI ks tw y j) (P:Prg ks tw) (hj:j < ks.length) (hy:y.length=ks.length) {d z:Nat} (hd:d=nmF ks tw (if ks.getD j 0 / 2=0 then tw j else j)) (hz:z=nmF ks tw ((j+1)%ks.length)):TnI ks tw (y.set d (z:Int)) (j+1):=fun i hi=>by
 have lt:∀ i,i < ks.length→(if ks.getD i 0 / 2=0 then tw i else i) < ks.length:=fun i hi=>by
  split
  ·exact P.lt i hi
  ·exact hi
 have inj:∀ i j,i < ks.length→j < ks.length→(if ks.getD i 0 / 2=0 then tw i else i)=(if ks.getD j 0 / 2=0 then tw j else j)→i=j:=fun i j hi hj e=>by
  have si:=P.sort i hi
  have sj:=P.sort j hj
  by_cases c:ks.getD i 0 / 2=0
  ·by_cases q:ks.getD j 0 / 2=0
   ·rw [if_pos c,if_pos q] at e
    rw [← P.tt i hi,e,P.tt j hj]
   ·rw [if_pos c,if_neg q] at e
    rw [e] at si;omega
  ·by_cases q:ks.getD j 0 / 2=0
   ·rw [if_neg c,if_pos q] at e
    rw [← e] at sj;omega
   ·rw [if_neg c,if_neg q] at e
    exact e
 rw [getI_set _ _ _ _ (by rw [hy,hd];exact nm_lt P (lt j hj))]
 by_cases e:i=j
 ·subst e;rw [if_pos hd.symm,hz]
 ·rw [if_neg (fun q=>e (inj i j (by omega) hj (nm_inj P (lt i (by omega)) (lt j hj) (by rw [q,hd])))),h i (by omega)]
theorem TnI.done {ks:List Nat} {tw:Nat→Nat} {y:List Int} (h:TnI ks tw y ks.length) (P:Prg ks tw) (hy:y.length=ks.length):∃ l,y=ofN l∧TurnW ks tw l:=by
 have key:∀ i,i < ks.length→y.getD (nmF ks tw i) 0=((nmF ks tw (nxS 0 ks tw i):Nat):Int):=fun i hi=>by
  unfold nxS
  by_cases c:ks.getD i 0 / 2=0
  ·have:=h (tw i) (P.lt i hi)
   rw [P.sort i hi,if_pos c,P.tt i hi] at this
   rw [this,if_pos c]
  ·have:=h i hi
   rw [if_neg c] at this
   rw [this,if_neg c]
 refine ⟨y.map Int.toNat,?_,by simp [hy],fun i hi=>?_⟩
 ·apply List.ext_getElem
  ·simp [ofN]
  ·intro d h1 h2
   obtain ⟨i,hi,e⟩:=nm_sur P (show d < ks.length by rw [← hy];exact h1)
   have:=key i hi
   rw [e,List.getD_eq_getElem?_getD,List.getElem?_eq_getElem h1] at this
   have t:y[d]=((nmF ks tw (nxS 0 ks tw i):Nat):Int):=this
   simp only [ofN,List.getElem_map,t]
   rfl
 ·show (y.map Int.toNat).getD _ 0=_
  have hl:nmF ks tw i < y.length:=by rw [hy];exact nm_lt P hi
  have:=key i hi
  rw [List.getD_eq_getElem?_getD,List.getElem?_eq_getElem hl] at this
  have t:y[nmF ks tw i]=((nmF ks tw (nxS 0 ks tw i):Nat):Int):=this
  rw [List.getD_eq_getElem?_getD,List.getElem?_map,List.getElem?_eq_getElem hl]
  show (y[nmF ks tw i]).toNat=_
  rw [t];rfl
section
variable {w0 w:World} {m gx p0 g0 p1 g1 q:Nat} {ks:List Nat} {tw:Nat→Nat}
def TNames (w0 w:World) (m gx p0 g0 p1 g1:Nat) (ks:List Nat) (q n:Nat) (l:List Nat) (e:Ending) (w':World):Prop :=
 ∃ A c,e=.returned (.slice A n c)∧n≤c∧c≤maxLen∧w'.ownsRow w.heap.size 3 1 (.slice A n c) n (I64 (ofN l))∧Mx w0 w' m gx p0 g0 p1 g1 ks q∧Mod (MxS gx p0 g0 p1 g1) w w'
set_option maxHeartbeats 8000000 in
theorem tnames_p (W:Wd ks tw) (h:Mx w0 w m gx p0 g0 p1 g1 ks q) (n:Nat) (hnk:ks.length=n) (hn:n≤20000) (hq:q≤200000) :
  Calls Tryz.prog 74 #[.agg #[.pointer (some ⟨m,0,none⟩)]] w (TNames w0 w m gx p0 g0 p1 g1 ks (q+7*n) n (nmL ks tw)):=by
 obtain ⟨i0,hi0,hz0,hz1,hz2⟩:=info_parts info_int
 have hal:=(Below.refl w.heap.size w).alloc (Nat.le_refl _) (.cells #[.pointer (some ⟨m,0,none⟩)] 94)
 have hB:=Blk.new w 94 #[.pointer (some ⟨m,0,none⟩)]
 have hM1:=(Mod.refl (MxS gx p0 g0 p1 g1) w).alloc (.cells #[.pointer (some ⟨m,0,none⟩)] 94)
 obtain ⟨w1,hw1⟩:∃ w1,w1=w.alloc (.cells #[.pointer (some ⟨m,0,none⟩)] 94):=⟨_,rfl⟩
 rw [← hw1] at hal hB hM1
 have hs1:w1.heap.size=w.heap.size+1:=by rw [hw1];simp
 have h1:=h.below hal
 have LN:=ilen_p h1
 rw [hnk] at LN
 have HLN:=Lib.hid LN
 have hmk:=run_make_one (P:=Tryz.prog) 25 3 i0 (.int .i64 0) 8 Tryz.underlying25 hi0 hz0 hz1 hz2 rfl .i64 .i64 n (by omega) (by omega) w1
 have hrep:(List.replicate n (Value.int .i64 0)).toArray=Array.replicate n (.int .i64 0):=by simp
 rw [hrep] at hmk
 have hal2:=(Below.refl w1.heap.size w1).alloc (Nat.le_refl _) (.cells (Array.replicate n (Value.int .i64 0)) 3)
 have hO:(w1.alloc (.cells (Array.replicate n (Value.int .i64 0)) 3)).ownsRow w1.heap.size 3 1 (.slice (some ⟨w1.heap.size,0,none⟩) n n) n (I64 (List.replicate n 0)):=by
  have:=World.ownsRow_lit (base:=w1.heap.size) (e:=3) (size:=1) w1 (Array.replicate n (Value.int .i64 0)) n (Nat.le_refl _) (by simp [maxLen];omega) (by simp)
  rw [show I64 (List.replicate n 0)=List.replicate n (.int .i64 0) by simp [I64]]
  simpa using this
 obtain ⟨w2,hw2⟩:∃ w2,w2=w1.alloc (.cells (Array.replicate n (Value.int .i64 0)) 3):=⟨_,rfl⟩
 rw [← hw2] at hal2 hO hmk
 have hM2:Hid (Mod (MxS gx p0 g0 p1 g1) w w2):=by show Mod _ _ _;rw [hw2];exact hM1.alloc _
 have h2:=Lib.hid (h1.below hal2)
 have hB2:=Lib.hid (hB.below hal2)
 have x0:w1.cell? ⟨w.heap.size,0,none⟩=some (.pointer (some ⟨m,0,none⟩)):=by have:=hB.cell 0;simpa using this
 obtain ⟨gr,hgr⟩:∃ gr,gr=w1.heap.size:=⟨_,rfl⟩
 rw [← hgr] at hO hmk
 have hg1:gr=w.heap.size+1:=by omega
 have HO:=Lib.hid hO
 have HW:=Lib.hid W
 have HLO:Hid (w0.heap.size≤w.heap.size∧∀ s,MxS gx p0 g0 p1 g1 s→s < w.heap.size):=⟨h.bel.size,fun s hs=>h.lts s hs⟩
 have hs2:gr < w2.heap.size:=by rw [hw2];simp;omega
 have HG1:=Lib.hid (And.intro hg1 hs2)
 have HNK:=Lib.hid hnk
 have HTK:Hid (∀ j,j < n→ks.getD j 0 < 4∧tw j < n∧tw j≠j):=fun j hj=>⟨W.P.kd.getD j,by have:=W.P.lt j (by omega);omega,W.P.ne j (by omega)⟩
 clear h h1 hal hal2 hO hB W LN hM1 hrep hg1 hs2 hnk hs1 hgr
 go_enter Tryz.func74,Tryz.ntmps74
 go_upto_region 1 with fail
 rw [← hw1]
 clear hw1
 go_upto_region 2 with (first | (refine HLN.out.mono ?_;rintro e wa ⟨rfl,rfl⟩))
 rw [← hw2]
 clear hw2 hmk HLN x0
 go_wp2_with fail
 go_loopw [4,5,6,13] (fun n4 i5 k6 idx wr=>∃ (i:Nat) (y:List Int),i≤n∧idx=.int .i64 (i:Int)∧n4=.int .i64 ((2*opN ks i:Nat):Int)∧Hid (y.length=n∧NmI ks tw y i∧opN ks i≤i) ∧
  Hid (wr.ownsRow gr 3 1 (.slice (some ⟨gr,0,none⟩) n n) n (I64 y))∧Hid (Mx w0 wr m gx p0 g0 p1 g1 ks (q+7*i))∧Hid (Mod (fun k=>MxS gx p0 g0 p1 g1 k∨k=gr) w2 wr)) (fun _ _ _ i _=>n - (intOf i).toNat)
 case atStart=>exact ⟨0,List.replicate n 0,by omega,rfl,rfl,⟨by simp,fun j hj=>by omega,by simp [opN]⟩,HO.out,h2.out,Mod.refl _ _⟩
 case round =>
  clear HO h2
  obtain ⟨i,y,hi,rfl,rfl,HY,HOW,HX,HMW⟩:=hrel
  by_cases hlt:i < n
  ·have hdk:decide (i < n)=true:=decide_eq_true hlt
   have hlti:(i:Int) < (n:Int):=by omega
   have hik:i < ks.length:=by rw [HNK.out];exact hlt
   have b0:=(HMW.out.cell (b:=w.heap.size) (by have:=HG1.out;omega) (fun c=>by have:=HG1.out;rcases c with c | c;(have:=HLO.out.2 _ c;omega);omega) 0).trans (by have:=hB2.out.cell 0;simpa using this)
   have AT:=iat_p HX.out i hik (by omega)
   obtain ⟨kk,hkk⟩:∃ kk,kk=ks.getD i 0:=⟨_,rfl⟩
   obtain ⟨t,ht⟩:∃ t,t=tw i:=⟨_,rfl⟩
   obtain ⟨qq,hqq⟩:∃ qq,qq=2*opN ks i:=⟨_,rfl⟩
   obtain ⟨hk4,ht1,ht2⟩:=HTK.out i hlt
   rw [← hkk] at hk4 AT
   rw [← ht] at ht1 ht2
   have HAT:=Lib.hid AT
   have hqb:qq≤40000:=by have:=HY.out.2.2;omega
   have hop:=HY.out.2.2
   have hyl:=HY.out.1
   have hs:(kk%2=0→opN ks (i+1)=opN ks i+1)∧(¬ kk%2=0→opN ks (i+1)=opN ks i):=by
    show (_→opN ks i+_=_)∧(_→opN ks i+_=_)
    rw [← hkk]
    exact ⟨fun c=>by rw [if_pos c],fun c=>by rw [if_neg c];rfl⟩
   clear AT
   rw [← hqq]
   go_wp2_with fail
   refine HAT.out.mono ?_
   rintro e wa ⟨rfl,ha,ma⟩
   have HA:=Lib.hid ha
   have hgw:gr < wr.heap.size∧w.heap.size < wr.heap.size:=by have:=HMW.out.size;have:=HG1.out;omega
   have hng:¬ MxS gx p0 g0 p1 g1 gr:=fun c=>by have:=HLO.out.2 _ c;have:=HG1.out;omega
   have hnw:¬ MxS gx p0 g0 p1 g1 w.heap.size:=fun c=>by have:=HLO.out.2 _ c;omega
   have OA:=Lib.hid (own_mod HOW.out ma fun k hk e=>hng (by simp [Value.ownBlock] at hk;rw [hk];exact e))
   have MWA:Hid (Mod (fun k=>MxS gx p0 g0 p1 g1 k∨k=gr) w2 wa):=HMW.out.trans ma fun k _ c=>.inl c
   have ba:=(ma.cell hgw.2 hnw 0).trans b0
   have hgwa:gr < wa.heap.size∧w.heap.size < wa.heap.size:=by have:=ma.size;omega
   have hkk4:kk=0∨kk=1∨kk=2∨kk=3:=by omega
   clear ha HAT b0 hgw HX HOW ma HMW
   rcases hkk4 with k0 | k0 | k0 | k0
   ·have HY1:Hid (((y.set i (qq:Int)).set t ((qq+1:Nat):Int)).length=n∧NmI ks tw ((y.set i (qq:Int)).set t ((qq+1:Nat):Int)) (i+1)∧opN ks (i+1)≤i+1):=by
     refine ⟨by simp [hyl],?_,by rw [hs.1 (by omega)];omega⟩
     have:=nm_step HW.out.P (y:=y) (i:=i) (by rw [hyl,HNK.out]) hik (by rw [← hkk];omega) HY.out.2.1
     rw [← hqq,← ht] at this
     exact this
    have HQ2:Hid (qq+2=2*opN ks (i+1)):=by show _=_;rw [hs.1 (by omega)];omega
    have PR:=tpair_p HW.out HA.out i hik (by omega)
    rw [← ht] at PR
    have HPR:=Lib.hid PR
    have MT:Hid (∀ W,Calls Tryz.prog 100 #[.int .i64 (qq:Int)] W fun e w'=>e=.returned (.int .i64 ((qq+1:Nat):Int))∧W=w'):=fun W=>by
     have:=tmate_p qq W (by omega)
     rwa [show mt qq=qq+1 by unfold mt;rw [if_pos (by omega)]] at this
    obtain ⟨q1,hq1⟩:∃ q1,q1=qq+1:=⟨_,rfl⟩
    obtain ⟨q2,hq2⟩:∃ q2,q2=qq+2:=⟨_,rfl⟩
    rw [← hq1] at MT HY1
    rw [← hq2] at HQ2
    have t2:(qq:Int)+2=(q2:Int):=by omega
    have w2':IntKind.i64.wrap (q2:Int)=(q2:Int):=by simp [IntKind.wrap,IntKind.signed,IntKind.bits];omega
    have hti:(t:Int) < (n:Int):=by omega
    have wi:IntKind.i64.wrap ((i:Int)+1)=(i:Int)+1:=by simp [IntKind.wrap,IntKind.signed,IntKind.bits];omega
    subst k0
    clear HY hs hqq hq1 hq2 hkk ht hop hyl PR HA hik
    go_upto_region 8 with fail
    go_wp2_with fail
    refine HPR.out.mono ?_
    rintro e wb ⟨rfl,hb,mb⟩
    go_wp2_with fail
    refine (MT.out _).mono ?_
    rintro e wc ⟨rfl,rfl⟩
    have OB:=own_mod OA.out mb fun k hk e=>hng (by simp [Value.ownBlock] at hk;rw [hk];exact e)
    have cO:=own_cellI OB i hlt
    have fO:=OB.frozenAt i
    have o1:=own_setI OB i (qq:Int)
    have cO2:=own_cellI o1 t ht1
    have fO2:=o1.frozenAt t
    have o2:=own_setI o1 t (q1:Int)
    have MS:=fun W u k=>Mod.setCell (p:=⟨gr,k,none⟩) (Mod.refl (fun k=>k=gr) W) (fun _=>rfl) u
    obtain ⟨cs1,bk1⟩:=own_blk OB (k:=gr) rfl
    have hb1:=hb.off (by decide) (MS wb (.int .i64 (qq:Int)) i) bk1 (by have:=HLO.out.1;have:=HG1.out;omega)
    obtain ⟨cs2,bk2⟩:=own_blk o1 (k:=gr) rfl
    have hb2:=hb1.off (by decide) (MS _ (.int .i64 (q1:Int)) t) bk2 (by have:=HLO.out.1;have:=HG1.out;omega)
    have HX1:=Lib.hid (hb2.le (q':=q+7*(i+1)) (by omega))
    have HO3:=Lib.hid o2
    have HM3:Hid (Mod (fun k=>MxS gx p0 g0 p1 g1 k∨k=gr) w2 ((wb.setCell ⟨gr,i,none⟩ (.int .i64 (qq:Int))).setCell ⟨gr,t,none⟩ (.int .i64 (q1:Int)))) :=
     Mod.setCell (p:=⟨gr,t,none⟩) (Mod.setCell (p:=⟨gr,i,none⟩) (MWA.out.trans mb fun k _ c=>.inl c) (fun _=>.inr rfl) _) (fun _=>.inr rfl) _
    clear hb hb1 hb2 MS bk1 bk2 o1 o2 OB mb
    go_wp2_with fail
    go_roundw
    case rel=>exact ⟨i+1,_,by omega,by go_num,by rw [HQ2.out],HY1,HO3,HX1,HM3⟩
    case measure=>simp [intOf];omega
   ·have HY1:Hid (y.length=n∧NmI ks tw y (i+1)∧opN ks (i+1)≤i+1) :=
     ⟨hyl,nm_skip (by rw [← hkk];omega) HY.out.2.1,by rw [hs.2 (by omega)];omega⟩
    have HQ2:Hid (qq=2*opN ks (i+1)):=by show _=_;rw [hs.2 (by omega)];omega
    have HX1:Hid (Mx w0 wa m gx p0 g0 p1 g1 ks (q+7*(i+1))):=HA.out.le (by omega)
    have wi:IntKind.i64.wrap ((i:Int)+1)=(i:Int)+1:=by simp [IntKind.wrap,IntKind.signed,IntKind.bits];omega
    subst k0
    clear HY hs hqq hkk ht hop hyl HA hik
    go_wp2_with fail
    go_roundw
    case rel=>exact ⟨i+1,y,by omega,by go_num,by rw [HQ2.out],HY1,OA,HX1,MWA⟩
    case measure=>simp [intOf];omega
   ·have HY1:Hid (((y.set i (qq:Int)).set t ((qq+1:Nat):Int)).length=n∧NmI ks tw ((y.set i (qq:Int)).set t ((qq+1:Nat):Int)) (i+1)∧opN ks (i+1)≤i+1):=by
     refine ⟨by simp [hyl],?_,by rw [hs.1 (by omega)];omega⟩
     have:=nm_step HW.out.P (y:=y) (i:=i) (by rw [hyl,HNK.out]) hik (by rw [← hkk];omega) HY.out.2.1
     rw [← hqq,← ht] at this
     exact this
    have HQ2:Hid (qq+2=2*opN ks (i+1)):=by show _=_;rw [hs.1 (by omega)];omega
    have PR:=tpair_p HW.out HA.out i hik (by omega)
    rw [← ht] at PR
    have HPR:=Lib.hid PR
    have MT:Hid (∀ W,Calls Tryz.prog 100 #[.int .i64 (qq:Int)] W fun e w'=>e=.returned (.int .i64 ((qq+1:Nat):Int))∧W=w'):=fun W=>by
     have:=tmate_p qq W (by omega)
     rwa [show mt qq=qq+1 by unfold mt;rw [if_pos (by omega)]] at this
    obtain ⟨q1,hq1⟩:∃ q1,q1=qq+1:=⟨_,rfl⟩
    obtain ⟨q2,hq2⟩:∃ q2,q2=qq+2:=⟨_,rfl⟩
    rw [← hq1] at MT HY1
    rw [← hq2] at HQ2
    have t2:(qq:Int)+2=(q2:Int):=by omega
    have w2':IntKind.i64.wrap (q2:Int)=(q2:Int):=by simp [IntKind.wrap,IntKind.signed,IntKind.bits];omega
    have hti:(t:Int) < (n:Int):=by omega
    have wi:IntKind.i64.wrap ((i:Int)+1)=(i:Int)+1:=by simp [IntKind.wrap,IntKind.signed,IntKind.bits];omega
    subst k0
    clear HY hs hqq hq1 hq2 hkk ht hop hyl PR HA hik
    go_upto_region 8 with fail
    go_wp2_with fail
    refine HPR.out.mono ?_
    rintro e wb ⟨rfl,hb,mb⟩
    go_wp2_with fail
    refine (MT.out _).mono ?_
    rintro e wc ⟨rfl,rfl⟩
    have OB:=own_mod OA.out mb fun k hk e=>hng (by simp [Value.ownBlock] at hk;rw [hk];exact e)
    have cO:=own_cellI OB i hlt
    have fO:=OB.frozenAt i
    have o1:=own_setI OB i (qq:Int)
    have cO2:=own_cellI o1 t ht1
    have fO2:=o1.frozenAt t
    have o2:=own_setI o1 t (q1:Int)
    have MS:=fun W u k=>Mod.setCell (p:=⟨gr,k,none⟩) (Mod.refl (fun k=>k=gr) W) (fun _=>rfl) u
    obtain ⟨cs1,bk1⟩:=own_blk OB (k:=gr) rfl
    have hb1:=hb.off (by decide) (MS wb (.int .i64 (qq:Int)) i) bk1 (by have:=HLO.out.1;have:=HG1.out;omega)
    obtain ⟨cs2,bk2⟩:=own_blk o1 (k:=gr) rfl
    have hb2:=hb1.off (by decide) (MS _ (.int .i64 (q1:Int)) t) bk2 (by have:=HLO.out.1;have:=HG1.out;omega)
    have HX1:=Lib.hid (hb2.le (q':=q+7*(i+1)) (by omega))
    have HO3:=Lib.hid o2
    have HM3:Hid (Mod (fun k=>MxS gx p0 g0 p1 g1 k∨k=gr) w2 ((wb.setCell ⟨gr,i,none⟩ (.int .i64 (qq:Int))).setCell ⟨gr,t,none⟩ (.int .i64 (q1:Int)))) :=
     Mod.setCell (p:=⟨gr,t,none⟩) (Mod.setCell (p:=⟨gr,i,none⟩) (MWA.out.trans mb fun k _ c=>.inl c) (fun _=>.inr rfl) _) (fun _=>.inr rfl) _
    clear hb hb1 hb2 MS bk1 bk2 o1 o2 OB mb
    go_wp2_with fail
    go_roundw
    case rel=>exact ⟨i+1,_,by omega,by go_num,by rw [HQ2.out],HY1,HO3,HX1,HM3⟩
    case measure=>simp [intOf];omega
   ·have HY1:Hid (y.length=n∧NmI ks tw y (i+1)∧opN ks (i+1)≤i+1) :=
     ⟨hyl,nm_skip (by rw [← hkk];omega) HY.out.2.1,by rw [hs.2 (by omega)];omega⟩
    have HQ2:Hid (qq=2*opN ks (i+1)):=by show _=_;rw [hs.2 (by omega)];omega
    have HX1:Hid (Mx w0 wa m gx p0 g0 p1 g1 ks (q+7*(i+1))):=HA.out.le (by omega)
    have wi:IntKind.i64.wrap ((i:Int)+1)=(i:Int)+1:=by simp [IntKind.wrap,IntKind.signed,IntKind.bits];omega
    subst k0
    clear HY hs hqq hkk ht hop hyl HA hik
    go_wp2_with fail
    go_roundw
    case rel=>exact ⟨i+1,y,by omega,by go_num,by rw [HQ2.out],HY1,OA,HX1,MWA⟩
    case measure=>simp [intOf];omega
  ·obtain rfl:i=n:=by omega
   have hdk:decide (i < i)=false:=by simp
   have hY:=nm_done HW.out.P (y:=y) (by rw [HY.out.1,HNK.out]) (by rw [HNK.out];exact HY.out.2.1)
   have HF:Hid (wr.ownsRow gr 3 1 (.slice (some ⟨gr,0,none⟩) i i) i (I64 (ofN (nmL ks tw)))):=by
    show World.ownsRow _ _ _ _ _ _ _
    rw [← hY];exact HOW.out
   have MF:Hid (Mod (MxS gx p0 g0 p1 g1) w wr):=(hM2.out.trans HMW.out fun k hk c=>by rcases c with c | c;exact c;(have:=HG1.out;omega))
   clear hY HY HOW HMW
   go_wp2_with fail
   go_ret
   exact ⟨_,i,rfl,Nat.le_refl _,by simp [maxLen];omega,HF.out.base_le' (by have:=HG1.out;omega),HX.out,MF.out⟩
end
end Go.Proofs.YtijbdnhlpbcabaaGreatDoor
namespace Go.Proofs.YtijbdnhlpbcabaaGreatDoor
set_option maxRecDepth 20000
section
variable {w0 w:World} {m gx p0 g0 p1 g1 q:Nat} {ks:List Nat} {tw:Nat→Nat}
def TTurns (w0 w:World) (m gx p0 g0 p1 g1:Nat) (ks:List Nat) (tw:Nat→Nat) (q n:Nat) (e:Ending) (w':World):Prop :=
 ∃ l A c,TurnW ks tw l∧e=.returned (.slice A n c)∧n≤c∧c≤maxLen∧w'.ownsRow w.heap.size 3 1 (.slice A n c) n (I64 (ofN l))∧Mx w0 w' m gx p0 g0 p1 g1 ks q∧Mod (MxS gx p0 g0 p1 g1) w w'
set_option maxHeartbeats 8000000 in
theorem tturns_p (W:Wd ks tw) (h:Mx w0 w m gx p0 g0 p1 g1 ks q) (n:Nat) (hnk:ks.length=n) (hn:n≤20000) (hq:q≤200000) :
  Calls Tryz.prog 62 #[.agg #[.pointer (some ⟨m,0,none⟩)]] w (TTurns w0 w m gx p0 g0 p1 g1 ks tw (q+8*n) n):=by
 obtain ⟨i0,hi0,hz0,hz1,hz2⟩:=info_parts info_int
 have hal:=(Below.refl w.heap.size w).alloc (Nat.le_refl _) (.cells #[.pointer (some ⟨m,0,none⟩)] 94)
 have hB:=Blk.new w 94 #[.pointer (some ⟨m,0,none⟩)]
 have hM1:=(Mod.refl (MxS gx p0 g0 p1 g1) w).alloc (.cells #[.pointer (some ⟨m,0,none⟩)] 94)
 obtain ⟨w1,hw1⟩:∃ w1,w1=w.alloc (.cells #[.pointer (some ⟨m,0,none⟩)] 94):=⟨_,rfl⟩
 rw [← hw1] at hal hB hM1
 have hs1:w1.heap.size=w.heap.size+1:=by rw [hw1];simp
 have h1:=h.below hal
 have NM:=Lib.hid (tnames_p W h1 n hnk hn hq)
 have x0:w1.cell? ⟨w.heap.size,0,none⟩=some (.pointer (some ⟨m,0,none⟩)):=by have:=hB.cell 0;simpa using this
 have HLO:Hid (w0.heap.size≤w.heap.size∧∀ s,MxS gx p0 g0 p1 g1 s→s < w.heap.size):=⟨h.bel.size,fun s hs=>h.lts s hs⟩
 have HB1:=Lib.hid hB
 have HM1:=Lib.hid hM1
 have HW:=Lib.hid W
 have HNK:=Lib.hid hnk
 have HS1:=Lib.hid hs1
 have HTK:Hid (∀ j,j < n→ks.getD j 0 < 4∧nmF ks tw j < n∧nmF ks tw (tw j) < n):=fun j hj=>⟨W.P.kd.getD j,by have:=nm_lt W.P (i:=j) (by omega);omega,by have:=nm_lt W.P (i:=tw j) (W.P.lt j (by omega));omega⟩
 clear h h1 hal hB W hM1 hnk hs1
 go_enter Tryz.func62,Tryz.ntmps62
 go_upto_region 1 with fail
 rw [← hw1]
 clear hw1
 go_wp2_with fail
 refine NM.out.mono ?_
 rintro e w2 ⟨A2,c2,rfl,hc2,hm2,hO2,hx2,hmd2⟩
 have hnw:¬ MxS gx p0 g0 p1 g1 w.heap.size:=fun c=>by have:=HLO.out.2 _ c;omega
 have hmk:=run_make_one (P:=Tryz.prog) 25 3 i0 (.int .i64 0) 8 Tryz.underlying25 hi0 hz0 hz1 hz2 rfl .i64 .i64 n (by omega) (by omega) w2
 have hrep:(List.replicate n (Value.int .i64 0)).toArray=Array.replicate n (.int .i64 0):=by simp
 rw [hrep] at hmk
 have hal2:=(Below.refl w2.heap.size w2).alloc (Nat.le_refl _) (.cells (Array.replicate n (Value.int .i64 0)) 3)
 have hO:(w2.alloc (.cells (Array.replicate n (Value.int .i64 0)) 3)).ownsRow w2.heap.size 3 1 (.slice (some ⟨w2.heap.size,0,none⟩) n n) n (I64 (List.replicate n 0)):=by
  have:=World.ownsRow_lit (base:=w2.heap.size) (e:=3) (size:=1) w2 (Array.replicate n (Value.int .i64 0)) n (Nat.le_refl _) (by simp [maxLen];omega) (by simp)
  rw [show I64 (List.replicate n 0)=List.replicate n (.int .i64 0) by simp [I64]]
  simpa using this
 obtain ⟨w3,hw3⟩:∃ w3,w3=w2.alloc (.cells (Array.replicate n (Value.int .i64 0)) 3):=⟨_,rfl⟩
 rw [← hw3] at hal2 hO hmk
 have hM3:Hid (Mod (MxS gx p0 g0 p1 g1) w w3):=by show Mod _ _ _;rw [hw3];exact (HM1.out.trans hmd2 fun k _ c=>c).alloc _
 have h3:=Lib.hid (hx2.below hal2)
 have hB2:Blk w2 w.heap.size 94 #[.pointer (some ⟨m,0,none⟩)]:=HB1.out.mod hmd2 hnw
 have hB3:=Lib.hid (hB2.below hal2)
 have HN3:Hid (w3.ownsRow w1.heap.size 3 1 (.slice A2 n c2) n (I64 (ofN (nmL ks tw)))):=own_below hO2 hal2
 obtain ⟨gr,hgr⟩:∃ gr,gr=w2.heap.size:=⟨_,rfl⟩
 rw [← hgr] at hO hmk
 have hg1:w.heap.size < gr:=by have:=hmd2.size;have:=HS1.out;omega
 have HO:=Lib.hid hO
 have hs2:gr < w3.heap.size:=by rw [hw3];simp;omega
 have HG1:=Lib.hid (And.intro hg1 hs2)
 have HNB:Hid (∀ k,(Value.slice A2 n c2).ownBlock=some k→w.heap.size < k∧k < gr):=fun k hk=>by have:=hO2.lt k hk;have:=HS1.out;omega
 clear hal2 hO hrep hg1 hs2 hgr hO2 hx2 hmd2 hB2 NM HB1 HM1 hnw hc2 hm2
 go_upto_region 3 with fail
 rw [← hw3]
 clear hw3 hmk x0
 go_wp2_with fail
 go_loopw [5,6,7,8,16] (fun i5 d6 a7 k8 idx wr=>∃ (i:Nat) (y:List Int),i≤n∧idx=.int .i64 (i:Int)∧Hid (y.length=n∧TnI ks tw y i) ∧
  Hid (wr.ownsRow gr 3 1 (.slice (some ⟨gr,0,none⟩) n n) n (I64 y))∧Hid (Mx w0 wr m gx p0 g0 p1 g1 ks (q+7*n+i))∧Hid (Mod (fun k=>MxS gx p0 g0 p1 g1 k∨k=gr) w3 wr)) (fun _ _ _ _ i _=>n - (intOf i).toNat)
 case atStart=>exact ⟨0,List.replicate n 0,by omega,rfl,⟨by simp,fun j hj=>by omega⟩,HO.out,h3.out,Mod.refl _ _⟩
 case round =>
  clear HO h3
  obtain ⟨i,y,hi,rfl,HY,HOW,HX,HMW⟩:=hrel
  by_cases hlt:i < n
  ·have hdk:decide (i < n)=true:=decide_eq_true hlt
   have hlti:(i:Int) < (n:Int):=by omega
   have hik:i < ks.length:=by rw [HNK.out];exact hlt
   have hsz:=HMW.out.size
   obtain ⟨ga,hga,_,_⟩:=own_some HN3.out (by omega)
   subst hga
   have hgk:=HNB.out ga rfl
   have hns:∀ k,k=w.heap.size∨k=ga→¬ (MxS gx p0 g0 p1 g1 k∨k=gr):=fun k e c=>by
    have:=HG1.out
    rcases c with c | c
    ·have:=HLO.out.2 _ c;omega
    ·omega
   have b0:=(HMW.out.cell (b:=w.heap.size) (by have:=HG1.out;omega) (hns _ (.inl rfl)) 0).trans (by have:=hB3.out.cell 0;simpa using this)
   have ON:=own_mod HN3.out HMW.out fun k hk=>hns k (.inr (by simpa [Value.ownBlock] using hk.symm))
   obtain ⟨kk,hkk⟩:∃ kk,kk=ks.getD i 0:=⟨_,rfl⟩
   obtain ⟨d,hd⟩:∃ d,d=nmF ks tw i:=⟨_,rfl⟩
   obtain ⟨r,hr⟩:∃ r,r=(i+1)%n:=⟨_,rfl⟩
   obtain ⟨z,hz⟩:∃ z,z=nmF ks tw r:=⟨_,rfl⟩
   have hrn:r < n:=by rw [hr];exact Nat.mod_lt _ (by omega)
   have cN:wr.cell? ⟨ga,i,none⟩=some (.int .i64 (d:Int)):=by
    rw [own_cellI ON i hlt,ofN_get,nmL_get ks tw hik,hd]
   have cR0:wr.cell? ⟨ga,r,none⟩=some (.int .i64 (z:Int)):=by
    rw [own_cellI ON r hrn,ofN_get,nmL_get ks tw (by rw [HNK.out];exact hrn),hz]
   have AT:=iat_p HX.out i hik (by omega)
   obtain ⟨hk4,hd1,hd2⟩:=HTK.out i hlt
   rw [← hkk] at hk4 AT
   rw [← hd] at hd1
   have HAT:=Lib.hid AT
   have hrI1:((i:Int)+1)%(n:Int)=(r:Int):=by rw [hr];rfl
   have hrI2:((i:Int)+1).tmod (n:Int)=(r:Int):=by rw [Int.tmod_eq_emod_of_nonneg (by omega)];exact hrI1
   have h0n:¬ (n:Int)=0:=by omega
   have h0b:((n:Int) == 0)=false:=by simp;omega
   have h0N:¬ n=0:=by omega
   have h0d:decide (n=0)=false:=decide_eq_false h0N
   have wi:IntKind.i64.wrap ((i:Int)+1)=(i:Int)+1:=by simp [IntKind.wrap,IntKind.signed,IntKind.bits];omega
   have wrr:IntKind.i64.wrap (r:Int)=(r:Int):=by simp [IntKind.wrap,IntKind.signed,IntKind.bits];omega
   have HV:=Lib.hid (And.intro hkk (And.intro hd (And.intro hr hz)))
   have HSZ:Hid (gr < wr.heap.size∧ga < wr.heap.size∧w.heap.size < wr.heap.size):=by have:=HG1.out;exact ⟨by omega,by omega,by omega⟩
   have HNG:Hid (¬ MxS gx p0 g0 p1 g1 gr∧¬ MxS gx p0 g0 p1 g1 ga):=⟨fun c=>by have:=HLO.out.2 _ c;have:=HG1.out;omega,fun c=>by have:=HLO.out.2 _ c;omega⟩
   clear AT hkk hd hr hz hns hgk hsz ON
   go_wp2_with fail
   refine HAT.out.mono ?_
   rintro e wa ⟨rfl,ha,ma⟩
   have cR:=(ma.cell HSZ.out.2.1 HNG.out.2 r).trans cR0
   have OA:=own_mod HOW.out ma fun k hk e=>HNG.out.1 (by simp [Value.ownBlock] at hk;rw [hk];exact e)
   have MS:=fun u k=>Mod.setCell (p:=⟨gr,k,none⟩) (Mod.refl (fun k=>k=gr) wa) (fun _=>rfl) u
   obtain ⟨cs1,bk1⟩:=own_blk OA (k:=gr) rfl
   have FIN:Hid (∀ x,x < n→x=nmF ks tw (if ks.getD i 0 / 2=0 then tw i else i)→wa.cell? ⟨gr,x,none⟩=some (.int .i64 (y.getD x 0))∧wa.frozen? ⟨gr,x,none⟩=false ∧
     Hid ((y.set x (z:Int)).length=n∧TnI ks tw (y.set x (z:Int)) (i+1))∧Hid ((wa.setCell ⟨gr,x,none⟩ (.int .i64 (z:Int))).ownsRow gr 3 1 (.slice (some ⟨gr,0,none⟩) n n) n (I64 (y.set x (z:Int)))) ∧
     Hid (Mx w0 (wa.setCell ⟨gr,x,none⟩ (.int .i64 (z:Int))) m gx p0 g0 p1 g1 ks (q+7*n+(i+1)))∧Hid (Mod (fun k=>MxS gx p0 g0 p1 g1 k∨k=gr) w3 (wa.setCell ⟨gr,x,none⟩ (.int .i64 (z:Int))))):=fun x hx e =>
    ⟨own_cellI OA x hx,OA.frozenAt x,⟨by rw [List.length_set];exact HY.out.1,HY.out.2.step HW.out.P hik (by rw [HY.out.1,HNK.out]) e (by rw [HV.out.2.2.2,HV.out.2.2.1,HNK.out])⟩,own_setI OA x (z:Int),
     ha.off (by decide) (MS _ x) bk1 (by have:=HLO.out.1;have:=HG1.out;omega),Mod.setCell (p:=⟨gr,x,none⟩) (HMW.out.trans ma fun k _ c=>.inl c) (fun _=>.inr rfl) _⟩
   have hkk4:kk=0∨kk=1∨kk=2∨kk=3:=by omega
   have MT:Hid (∀ W,Calls Tryz.prog 100 #[.int .i64 (d:Int)] W fun e w'=>e=.returned (.int .i64 ((mt d:Nat):Int))∧W=w'):=fun W=>tmate_p d W (by omega)
   clear ha HAT b0 cR0 cN HX HOW ma HMW HY MS bk1 OA
   rcases hkk4 with k0 | k0 | k0 | k0
   ·obtain ⟨x,hx⟩:∃ x,x=mt d:=⟨_,rfl⟩
    have hxe:x=nmF ks tw (if ks.getD i 0 / 2=0 then tw i else i):=by
     rw [if_pos (by rw [← HV.out.1,k0]),hx,HV.out.2.1]
     exact nm_mt HW.out.P hik
    have hxn:x < n:=by
     rw [hx,HV.out.2.1,nm_mt HW.out.P hik];exact hd2
    obtain ⟨cX,fX,F1,F2,F3,F4⟩:=FIN.out x hxn hxe
    rw [← hx] at MT
    have hxI:(x:Int) < (n:Int):=by omega
    subst k0
    clear FIN hxe hx hik
    go_upto_region 9 with fail
    go_wp2_with fail
    refine (MT.out _).mono ?_
    rintro e wc ⟨rfl,rfl⟩
    go_wp2_with fail
    go_roundw
    case rel=>exact ⟨i+1,_,by omega,by go_num,F1,F2,F3,F4⟩
    case measure=>simp [intOf];omega
   ·obtain ⟨x,hx⟩:∃ x,x=mt d:=⟨_,rfl⟩
    have hxe:x=nmF ks tw (if ks.getD i 0 / 2=0 then tw i else i):=by
     rw [if_pos (by rw [← HV.out.1,k0]),hx,HV.out.2.1]
     exact nm_mt HW.out.P hik
    have hxn:x < n:=by
     rw [hx,HV.out.2.1,nm_mt HW.out.P hik];exact hd2
    obtain ⟨cX,fX,F1,F2,F3,F4⟩:=FIN.out x hxn hxe
    rw [← hx] at MT
    have hxI:(x:Int) < (n:Int):=by omega
    subst k0
    clear FIN hxe hx hik
    go_upto_region 9 with fail
    go_wp2_with fail
    refine (MT.out _).mono ?_
    rintro e wc ⟨rfl,rfl⟩
    go_wp2_with fail
    go_roundw
    case rel=>exact ⟨i+1,_,by omega,by go_num,F1,F2,F3,F4⟩
    case measure=>simp [intOf];omega
   ·have hxe:d=nmF ks tw (if ks.getD i 0 / 2=0 then tw i else i):=by
     rw [if_neg (by rw [← HV.out.1,k0];decide),HV.out.2.1]
    obtain ⟨cX,fX,F1,F2,F3,F4⟩:=FIN.out d hd1 hxe
    have hxI:(d:Int) < (n:Int):=by omega
    subst k0
    clear FIN hxe hik
    go_wp2_with fail
    go_roundw
    case rel=>exact ⟨i+1,_,by omega,by go_num,F1,F2,F3,F4⟩
    case measure=>simp [intOf];omega
   ·have hxe:d=nmF ks tw (if ks.getD i 0 / 2=0 then tw i else i):=by
     rw [if_neg (by rw [← HV.out.1,k0];decide),HV.out.2.1]
    obtain ⟨cX,fX,F1,F2,F3,F4⟩:=FIN.out d hd1 hxe
    have hxI:(d:Int) < (n:Int):=by omega
    subst k0
    clear FIN hxe hik
    go_wp2_with fail
    go_roundw
    case rel=>exact ⟨i+1,_,by omega,by go_num,F1,F2,F3,F4⟩
    case measure=>simp [intOf];omega
  ·obtain rfl:i=n:=by omega
   have hdk:decide (i < i)=false:=by simp
   obtain ⟨l,hl,ht⟩:=TnI.done (y:=y) (by rw [HNK.out];exact HY.out.2) HW.out.P (by rw [HY.out.1,HNK.out])
   have HF:Hid (wr.ownsRow gr 3 1 (.slice (some ⟨gr,0,none⟩) i i) i (I64 (ofN l))):=by
    show World.ownsRow _ _ _ _ _ _ _
    rw [← hl];exact HOW.out
   have HT:=Lib.hid ht
   have MF:Hid (Mod (MxS gx p0 g0 p1 g1) w wr):=(hM3.out.trans HMW.out fun k hk c=>by rcases c with c | c;exact c;(have:=HG1.out;omega))
   clear hl ht HY HOW HMW
   go_wp2_with fail
   go_ret
   exact ⟨l,_,i,HT.out,rfl,Nat.le_refl _,by simp [maxLen];omega,HF.out.base_le' (by have:=HG1.out;omega),HX.out.le (by omega),MF.out⟩
end
end Go.Proofs.YtijbdnhlpbcabaaGreatDoor
namespace Go.Proofs.YtijbdnhlpbcabaaGreatDoor
set_option maxRecDepth 20000
section
variable {w0 w w' wL:World} {m gx p0 g0 p1 g1 q:Nat} {ks:List Nat}
theorem Mx.rebase (h:Mx w0 w m gx p0 g0 p1 g1 ks q) (md:Mod (fun i=>i < w0.heap.size) w w') (hle:wL.heap.size≤w0.heap.size) (b:Below wL.heap.size wL w') (hN:Nul wL) (hT:Tab wL∧2 < wL.heap.size):Mx wL w' m gx p0 g0 p1 g1 ks q:=by
 obtain ⟨d,k,hk,hx⟩:=h.ix
 obtain ⟨d0,ha⟩:=h.pa
 obtain ⟨d1,hb⟩:=h.pb
 have lo:=h.lo
 exact ⟨h.blk.mod md (by omega),⟨d,k,hk,hx.mod md fun i hi=>by omega⟩,⟨d0,ha.mod md fun i hi=>by omega⟩,⟨d1,hb.mod md fun i hi=>by omega⟩,h.ne,⟨by omega,by omega,by omega,by omega⟩,h.kd,h.b0,h.b1,b,hN,hT⟩
end
end Go.Proofs.YtijbdnhlpbcabaaGreatDoor
namespace Go.Proofs.YtijbdnhlpbcabaaGreatDoor
set_option maxRecDepth 20000
theorem getDN_setU (y:List Nat) (k j v:Nat) (hk:k < y.length):(y.set k v).getD j 0=if j=k then v else y.getD j 0:=by
 rw [List.getD_eq_getElem?_getD,List.getD_eq_getElem?_getD,List.getElem?_set]
 by_cases h:k=j
 ·subst h;simp [hk]
 ·simp [h,Ne.symm h]
theorem own_setNU {w:World} {base:Nat} {g n c:Nat} {y:List Nat} (h:w.ownsRow base 3 1 (.slice (some ⟨g,0,none⟩) n c) n (I64 (ofN y))) (k v:Nat) :
  (w.setCell ⟨g,k,none⟩ (.int .i64 (v:Int))).ownsRow base 3 1 (.slice (some ⟨g,0,none⟩) n c) n (I64 (ofN (y.set k v))):=by
 rw [show ofN (y.set k v)=(ofN y).set k (v:Int) by simp [ofN,List.map_set]];exact own_setI h k _
end Go.Proofs.YtijbdnhlpbcabaaGreatDoor
namespace Go.Proofs.YtijbdnhlpbcabaaGreatDoor
set_option maxRecDepth 20000
set_option maxRecDepth 100000
def reRoot (p:List Nat) (root:Int):Int:=if root < 0 then -1 else ((p.getD root.toNat 0:Nat):Int)
theorem at_root (gp:Nat) (p q:List Nat) (root:Int) (w:World) (h:PermAt w gp p q) (hr:RootOk root p.length) :
  Calls Tryz.prog 103 #[.pointer (some ⟨gp,0,none⟩),.int .i64 root] w fun e w'=>e=.returned (.int .i64 (reRoot p root))∧w=w':=by
 rcases hr with ⟨h0,rfl⟩ | ⟨h0,h1,h2⟩
 ·exact at_out gp p q (-1) w h (.inl (by decide))
 ·obtain ⟨r,rfl⟩:∃ r:Nat,root=(r:Int):=⟨root.toNat,by omega⟩
  have:=at_in gp p q r w h (by omega)
  unfold reRoot
  rw [if_neg (by omega),Int.toNat_natCast]
  exact this
theorem reRoot_ok {n:Nat} {p q:List Nat} (h:Nam n p q) {root:Int} (hr:RootOk root n):RootOk (reRoot p root) n:=by
 unfold reRoot
 rcases hr with ⟨h0,rfl⟩ | ⟨h0,h1,h2⟩
 ·rw [if_pos (by decide)];exact .inl ⟨h0,rfl⟩
 ·rw [if_neg (by omega)]
  have:=h.lt (d:=root.toNat) (by omega)
  unfold sgL at this
  exact .inr ⟨h0,by omega,by omega⟩
def RelPost (w:World) (l b p q:List Nat) (root lone:Int) (e:Ending) (w':World):Prop :=
 (Nam l.length p q∧(∃ g',e=.returned (.tuple #[.pointer (some ⟨g',0,none⟩),.int .i64 0])∧MapAt w' g' (cjL p q l) (cjL p q b) (reRoot p root) lone)∧Below w.heap.size w w') ∨
 (¬ Nam l.length p q∧e=.returned (.tuple #[.pointer none,.int .i64 4])∧Below w.heap.size w w')
set_option maxHeartbeats 8000000 in
theorem relabel_p (g gp:Nat) (l b p q:List Nat) (root lone:Int) (w:World) (h:MapAt w g l b root lone) (kp:PermAt w gp p q) (hlen:p.length=l.length) (hi:Inv l b) (hip:Inv p q) (hr:RootOk root l.length) :
  Calls Tryz.prog 64 #[.pointer (some ⟨g,0,none⟩),.pointer (some ⟨gp,0,none⟩)] w (RelPost w l b p q root lone):=by
 have LN:=Lib.hid (len_p gp p q w kp)
 rw [hlen] at LN
 have DP:Hid (∀ W,Below w.heap.size w W→Calls Tryz.prog 40 #[.pointer (some ⟨g,0,none⟩)] W fun e w'=>e=.returned (.int .i64 (l.length:Int))∧Below W.heap.size W w'):=fun W m=>darts_p g l b root lone W (h.below m)
 have HM:=Lib.hid h
 have HK:=Lib.hid kp
 have HI:=Lib.hid hi
 have HIP:=Lib.hid hip
 have HPL:=Lib.hid hlen
 have HRT:=Lib.hid hr
 have HEV:Hid (l.length%2=0):=h.1.1
 have HLN:=Lib.hid h.1.2
 have hle:=h.2.1
 have hd0:decide (l.length=l.length)=true:=decide_eq_true rfl
 obtain ⟨i0,hi0,hz0,hz1,hz2⟩:=info_parts info_int
 have hmk:=run_make_one (P:=Tryz.prog) 25 3 i0 (.int .i64 0) 8 Tryz.underlying25 hi0 hz0 hz1 hz2 rfl .i64 .i64 l.length (by omega) (by omega)
 clear h kp hi hip hlen hr
 go_enter Tryz.func64,Tryz.ntmps64
 go_wp2_with fail
 refine LN.out.mono ?_
 rintro e w' ⟨rfl,rfl⟩
 have Z0:=Below.refl w.heap.size w
 go_wp2_with fail
 refine (DP.out _ Z0).mono ?_
 rintro e w0 ⟨rfl,b0⟩
 go_wp2_with fail
 refine (DP.out _ b0).mono ?_
 rintro e w1 ⟨rfl,b1⟩
 have B1:=Lib.hid (b0.trans (b1.mono b0.size))
 have OA:=Lib.hid (own_made w1 3 l.length (.int .i64 0) (by simp only [maxLen];omega))
 have BA:=Lib.hid ((Below.refl w1.heap.size w1).alloc (Nat.le_refl _) (.cells (List.replicate l.length (.int .i64 0)).toArray 3))
 clear b1 b0 Z0 DP LN
 go_wp2_with fail
 clear hmk
 go_loopw [24] (fun i wr=>∃ (k:Nat) (y:List Nat),k≤l.length∧i=.int .i64 (k:Int)∧Hid ((∀ j,j < k→sgL p (mt j)=mt (sgL p j))∧(∀ j,j < k→y.getD (sgL p j) 0=sgL p (sgL l j)))∧Hid (wr.ownsRow w1.heap.size 3 1 (.slice (some ⟨w1.heap.size,0,none⟩) l.length l.length) l.length (I64 (ofN y)))∧Hid (Below w1.heap.size w1 wr)) (fun i _=>l.length - (intOf i).toNat)
 case atStart=>exact ⟨0,List.replicate l.length 0,by omega,rfl,⟨fun j hj=>absurd hj (by omega),fun j hj=>absurd hj (by omega)⟩,Lib.hid (by simpa [I64,ofN] using OA.out),Lib.hid (by simpa using BA.out)⟩
 case round =>
  clear OA BA
  obtain ⟨k,y,hk,rfl,HY,HO,HB⟩:=hrel
  have hyl:Hid (y.length=l.length):=by show _=_;have:=own_lenI HO.out;rwa [ofN_len] at this
  by_cases hlt:k < l.length
  ·have hdk:decide (k < l.length)=true:=by rw [decide_eq_true_iff];exact hlt
   have HW:=Lib.hid (B1.out.trans (HB.out.mono B1.out.size))
   have hpk:sgL p k < l.length:=by have:=HIP.out.lt k (by rw [HPL.out];exact hlt);rw [HPL.out] at this;exact this
   have hmk:mt k < l.length:=mt_in HEV.out hlt
   have hlk:sgL l k < l.length:=HI.out.lt k hlt
   have BW:Hid (∀ W,Below wr.heap.size wr W→Below w.heap.size w W):=fun W m=>HW.out.trans (m.mono HW.out.size)
   have M1:Hid (∀ W,Below wr.heap.size wr W→Calls Tryz.prog 87 #[.pointer (some ⟨g,0,none⟩),.int .i64 (k:Int)] W fun e w'=>e=.returned (.int .i64 ((mt k:Nat):Int))∧Below W.heap.size W w'):=fun W m=>by
    have:=mate_in g l b root lone k W (HM.out.below (BW.out W m)) hlt
    rwa [mt_mateN] at this
   have P1:Hid (∀ W,Below wr.heap.size wr W→Calls Tryz.prog 103 #[.pointer (some ⟨gp,0,none⟩),.int .i64 ((mt k:Nat):Int)] W fun e w'=>e=.returned (.int .i64 ((sgL p (mt k):Nat):Int))∧W=w'):=fun W m=>at_in gp p q (mt k) W (HK.out.below (BW.out W m)) (by rw [HPL.out];exact hmk)
   have P2:Hid (∀ W,Below wr.heap.size wr W→Calls Tryz.prog 103 #[.pointer (some ⟨gp,0,none⟩),.int .i64 (k:Int)] W fun e w'=>e=.returned (.int .i64 ((sgL p k:Nat):Int))∧W=w'):=fun W m=>at_in gp p q k W (HK.out.below (BW.out W m)) (by rw [HPL.out];exact hlt)
   have M2:Hid (∀ W,Below wr.heap.size wr W→Calls Tryz.prog 87 #[.pointer (some ⟨g,0,none⟩),.int .i64 ((sgL p k:Nat):Int)] W fun e w'=>e=.returned (.int .i64 ((mt (sgL p k):Nat):Int))∧Below W.heap.size W w'):=fun W m=>by
    have:=mate_in g l b root lone (sgL p k) W (HM.out.below (BW.out W m)) hpk
    rwa [mt_mateN] at this
   have S1:Hid (∀ W,Below wr.heap.size wr W→Calls Tryz.prog 104 #[.pointer (some ⟨g,0,none⟩),.int .i64 (k:Int)] W fun e w'=>e=.returned (.int .i64 ((sgL l k:Nat):Int))∧Below W.heap.size W w'):=fun W m=>sigma_in g l b root lone k W (HM.out.below (BW.out W m)) hlt
   have P3:Hid (∀ W,Below wr.heap.size wr W→Calls Tryz.prog 103 #[.pointer (some ⟨gp,0,none⟩),.int .i64 ((sgL l k:Nat):Int)] W fun e w'=>e=.returned (.int .i64 ((sgL p (sgL l k):Nat):Int))∧W=w'):=fun W m=>at_in gp p q (sgL l k) W (HK.out.below (BW.out W m)) (by rw [HPL.out];exact hlk)
   have Z0:=Below.refl wr.heap.size wr
   by_cases hq:sgL p (mt k)=mt (sgL p k)
   ·have HY1:Hid ((∀ j,j < k+1→sgL p (mt j)=mt (sgL p j))∧(∀ j,j < k+1→(y.set (sgL p k) (sgL p (sgL l k))).getD (sgL p j) 0=sgL p (sgL l j))):=by
     refine ⟨fun j hj=>?_,fun j hj=>?_⟩
     ·by_cases e:j=k
      ·rw [e];exact hq
      ·exact HY.out.1 j (by omega)
     ·rw [getDN_setU _ _ _ _ (by rw [hyl.out];exact hpk)]
      by_cases e:j=k
      ·rw [if_pos (by rw [e]),e]
      ·have:sgL p j≠sgL p k:=fun c=>e (HIP.out.inj j k (by rw [HPL.out];omega) (by rw [HPL.out];exact hlt) c)
       rw [if_neg this];exact HY.out.2 j (by omega)
    generalize mt k=v1 at *
    generalize sgL p k=v2 at *
    rw [hq] at P1
    clear hq
    generalize mt v2=v3 at *
    generalize sgL l k=v4 at *
    generalize sgL p v4=v5 at *
    clear HY BW HM HK HI HIP HPL HRT HEV HLN hmk hlk
    have hdv:decide (v3=v3)=true:=decide_eq_true rfl
    go_wp2_with fail
    refine (M1.out _ Z0).mono ?_
    rintro e w2 ⟨rfl,z⟩
    have Z2:=Z0.trans (z.mono Z0.size)
    clear z
    go_wp2_with fail
    refine (P1.out _ Z2).mono ?_
    rintro e w' ⟨rfl,rfl⟩
    go_wp2_with fail
    refine (P2.out _ Z2).mono ?_
    rintro e w' ⟨rfl,rfl⟩
    go_wp2_with fail
    refine (M2.out _ Z2).mono ?_
    rintro e w3 ⟨rfl,z⟩
    have Z3:=Z2.trans (z.mono Z2.size)
    clear z
    go_wp2_with fail
    refine (P2.out _ Z3).mono ?_
    rintro e w' ⟨rfl,rfl⟩
    go_wp2_with fail
    refine (S1.out _ Z3).mono ?_
    rintro e w4 ⟨rfl,z⟩
    have Z4:=Z3.trans (z.mono Z3.size)
    clear z
    go_wp2_with fail
    refine (P3.out _ Z4).mono ?_
    rintro e w' ⟨rfl,rfl⟩
    have HO2:=Lib.hid (own_below HO.out Z4)
    have HB2:=Lib.hid (HB.out.trans (Z4.mono HB.out.size))
    have co:=own_cellI HO2.out v2 hpk
    have fo:=HO2.out.frozenAt v2
    generalize (ofN y).getD v2 0=u1 at co
    clear Z2 Z3 Z4 Z0 M1 M2 P1 P2 P3 S1 HO HB HW
    go_wp2_with fail
    have HO3:=Lib.hid (own_setNU HO2.out v2 v5)
    have HB3:=Lib.hid (HB2.out.setCell (p:=⟨w1.heap.size,v2,none⟩) (Nat.le_refl _) (.int .i64 (v5:Int)))
    go_roundw
    case rel=>exact ⟨k+1,y.set v2 v5,by omega,by go_num,HY1.out,HO3.out,HB3.out⟩
    case measure=>simp [intOf];omega
   ·have HNO:Hid (¬ Nam l.length p q):=fun c=>hq (c.mt k hlt)
    generalize mt k=v1 at *
    generalize sgL p k=v2 at *
    generalize sgL p v1=v6 at *
    generalize mt v2=v3 at *
    clear HY HM HK HI HIP HPL HRT HEV HLN hmk hlk S1 P3 BW
    have hdv:decide (v6=v3)=false:=decide_eq_false hq
    go_wp2_with fail
    refine (M1.out _ Z0).mono ?_
    rintro e w2 ⟨rfl,z⟩
    have Z2:=Z0.trans (z.mono Z0.size)
    clear z
    go_wp2_with fail
    refine (P1.out _ Z2).mono ?_
    rintro e w' ⟨rfl,rfl⟩
    go_wp2_with fail
    refine (P2.out _ Z2).mono ?_
    rintro e w' ⟨rfl,rfl⟩
    go_wp2_with fail
    refine (M2.out _ Z2).mono ?_
    rintro e w3 ⟨rfl,z⟩
    have Z3:=Z2.trans (z.mono Z2.size)
    clear z
    go_wp2_with fail
    go_ret2
    exact .inr ⟨HNO.out,rfl,HW.out.trans (Z3.mono HW.out.size)⟩
  ·obtain rfl:k=l.length:=by omega
   have hdk:decide (l.length < l.length)=false:=by simp
   have HN:Hid (Nam l.length p q):=⟨HIP.out,HPL.out,HEV.out,HY.out.1⟩
   have hye:y=cjL p q l:=by
    refine getD_ext (by rw [hyl.out,cjL_len]) fun i hi=>?_
    rw [hyl.out] at hi
    have:=HY.out.2 (sgL q i) (HN.out.lt' hi)
    rw [HN.out.pq hi] at this
    rw [this]
    exact (cjL_get p q l hi).symm
   subst hye
   have HR:=Lib.hid (Rd.ofOwn HO.out)
   have BR:=Lib.hid (B1.out.trans (HB.out.mono B1.out.size))
   have HMR:=Lib.hid (HM.out.below BR.out)
   have HKR:=Lib.hid (HK.out.below BR.out)
   have RP:Hid (∀ W,Below wr.heap.size wr W→Calls Tryz.prog 33 #[.pointer (some ⟨g,0,none⟩)] W fun e w'=>e=.returned (.int .i64 root)∧W=w'):=fun W m=>root_p g l b root lone W (HMR.out.below m)
   have LP:Hid (∀ W,Below wr.heap.size wr W→Calls Tryz.prog 34 #[.pointer (some ⟨g,0,none⟩)] W fun e w'=>e=.returned (.int .i64 lone)∧W=w'):=fun W m=>lone_p g l b root lone W (HMR.out.below m)
   have AP:Hid (∀ W,Below wr.heap.size wr W→Calls Tryz.prog 103 #[.pointer (some ⟨gp,0,none⟩),.int .i64 root] W fun e w'=>e=.returned (.int .i64 (reRoot p root))∧W=w'):=fun W m=>at_root gp p q root W (HKR.out.below m) (by rw [HPL.out];exact HRT.out)
   have NP:Hid (∀ W,Below wr.heap.size wr W→Calls Tryz.prog 12 #[.slice (some ⟨w1.heap.size,0,none⟩) l.length l.length,.int .i64 (reRoot p root),.int .i64 lone] W (NewMap W (cjL p q l) (cjL p q b) (reRoot p root) lone)):=fun W m=>new_ok _ l.length l.length (cjL p q l) (cjL p q b) (reRoot p root) lone W (HR.out.more m) (cj_inv HN.out HI.out) HEV.out hle (reRoot_ok HN.out HRT.out) HLN.out.1 HLN.out.2
   have Z0:=Below.refl wr.heap.size wr
   obtain ⟨rr,hrr⟩:∃ rr,reRoot p root=rr:=⟨_,rfl⟩
   rw [hrr] at AP NP
   clear hyl HY HO HB HMR HM HKR HK hlt hk
   go_wp2_with fail
   refine (RP.out _ Z0).mono ?_
   rintro e w' ⟨rfl,rfl⟩
   go_wp2_with fail
   refine (AP.out _ Z0).mono ?_
   rintro e w' ⟨rfl,rfl⟩
   go_wp2_with fail
   refine (LP.out _ Z0).mono ?_
   rintro e w' ⟨rfl,rfl⟩
   go_wp2_with fail
   refine (NP.out _ Z0).mono ?_
   rintro e w3 ⟨g3,rfl,hm3,b3,_⟩
   have HM3:=Lib.hid hm3
   have B3:=Lib.hid (BR.out.trans (b3.mono BR.out.size))
   clear hm3 b3
   go_wp2_with fail
   go_ret2
   exact .inl ⟨HN.out,⟨g3,rfl,by rw [hrr];exact HM3.out⟩,B3.out⟩
end Go.Proofs.YtijbdnhlpbcabaaGreatDoor
