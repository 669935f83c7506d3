/- Star and Seed of the program. -/
import Derived.Test.YtdinmjciippchaaGreatZg8
import Derived.Test.YtdinmjciippchaaGreatZg6
import Derived.Test.YtdinmjciippchaaGreatZg5
open Go.RowKit
set_option linter.unusedVariables false
namespace Go.Proofs.YtdinmjciippchaaGreat
set_option maxRecDepth 100000
def starS (l b:List Nat) (P:List Nat):Nat→List Nat × List Nat
 | 0=>(l,b)
 | j+1 =>
   let p:=starS l b P j
   let q:=(putL (edgL p.1) p.1.length (P.getD j 0),putB (edgL p.1) (edgL p.2) p.1.length (P.getD j 0))
   if j=0 then q else (putL q.1 (p.1.length+1) (l.length+1),putB q.1 q.2 (p.1.length+1) (l.length+1))
section
variable {l b:List Nat}
theorem star_one (h:Inv l b) {a:Nat} (ha:a < l.length):Inv (putL (edgL l) l.length a) (putB (edgL l) (edgL b) l.length a)∧(putL (edgL l) l.length a).length=l.length+2∧sgL (putL (edgL l) l.length a) (l.length+1)=l.length+1:=by
 have h1:=edg_new l (Nat.le_refl _) (show l.length < l.length+2 by omega)
 refine ⟨put_inv (edg_inv h) (by rw [edg_len];omega) (by rw [edg_len];omega) h1,by rw [put_len,edg_len],?_⟩
 rw [put_other (edg_inv h) (by rw [edg_len];omega) (by rw [edg_len];omega) h1 (by omega) (by omega)]
 exact edg_new l (by omega) (by omega)
theorem star_inv (h:Inv l b) {P:List Nat} (hP:∀ x,x∈P→x < l.length):∀ j,j≤P.length→Inv (starS l b P j).1 (starS l b P j).2∧(starS l b P j).1.length=l.length+2*j
 | 0,_=>⟨h,by simp [starS]⟩
 | j+1,hj=>by
   obtain ⟨h1,h2⟩:=star_inv h hP j (by omega)
   have hx:P.getD j 0 < l.length:=hP _ (by rw [List.getD_eq_getElem?_getD,List.getElem?_eq_getElem (show j < P.length by omega)];exact List.getElem_mem _)
   obtain ⟨q1,q2,q3⟩:=star_one h1 (a:=P.getD j 0) (by omega)
   unfold starS
   simp only
   by_cases c:j=0
   ·rw [if_pos c]
    exact ⟨q1,by rw [q2,h2];omega⟩
   ·rw [if_neg c]
    exact ⟨put_inv q1 (by rw [q2];omega) (by rw [q2];omega) q3,by rw [put_len,q2,h2];omega⟩
end
noncomputable def aheadN (l b:List Nat) (d:Nat):List Nat:=(orb (phiL l) d).map fun x=>b.getD x 0
noncomputable def starL (l b:List Nat) (d:Nat):List Nat:=(starS l b (aheadN l b d) (aheadN l b d).length).1
noncomputable def starB (l b:List Nat) (d:Nat):List Nat:=(starS l b (aheadN l b d) (aheadN l b d).length).2
theorem ahead_lt {l b:List Nat} (h:Inv l b) (he:l.length%2=0) {d:Nat} (hd:d < l.length):(∀ x,x∈orb (phiL l) d→x < l.length)∧(∀ x,x∈aheadN l b d→x < l.length)∧(orb (phiL l) d).length≤l.length∧1≤(orb (phiL l) d).length:=by
 have hp:=phi_inv h he
 have hdp:d < (phiL l).length:=by rw [phiL_len];exact hd
 have h1:∀ x,x∈orb (phiL l) d→x < l.length:=fun x hx=>by
  obtain ⟨t,ht⟩:=(mem_orb hp hdp).1 hx
  rw [← ht]
  have:=it_lt hp hdp t
  rwa [phiL_len] at this
 have h2:(orb (phiL l) d).length=per (phiL l) d:=by unfold orb;exact way_len _ _ _
 have h3:=per_le hp hdp
 have h4:=(per_is hp hdp).1
 rw [phiL_len] at h3
 refine ⟨h1,fun x hx=>?_,by omega,by omega⟩
 unfold aheadN at hx
 obtain ⟨y,hy,rfl⟩:=List.mem_map.1 hx
 exact h.lt' _ (h1 y hy)
set_option maxHeartbeats 8000000 in
theorem star_in (g:Nat) (l b:List Nat) (root lone:Int) (d:Nat) (w:World) (h:MapAt w g l b root lone) (hi:Inv l b) (hr:RootOk root l.length) (hd:d < l.length) (hn:l.length≤30000) :
  Calls Tryz.prog 50 #[.pointer (some ⟨g,0,none⟩),.int .i64 (d:Int)] w fun en w'=>∃ g',en=.returned (.tuple #[.pointer (some ⟨g',0,none⟩),.int .i64 0])∧MapAt w' g' (starL l b d) (starB l b d) root lone∧Below w.heap.size w w':=by
 have hev:=h.1.1
 have hn2:=h.2.1
 have hal:=(Below.refl w.heap.size w).alloc (Nat.le_refl _) (.cells #[.int .i64 (d:Int)] 3)
 have RP:Hid (Calls Tryz.prog 74 #[.pointer (some ⟨g,0,none⟩),.slice (some ⟨w.heap.size,0,none⟩) 1 1] (w.alloc (.cells #[.int .i64 (d:Int)] 3)) fun en w'=>en=.returned (.int .i64 0)∧Below w.heap.size w w'):=by
  have:=gready_p g l b root lone (some ⟨w.heap.size,0,none⟩) 1 1 [(d:Int)] (w.alloc (.cells #[.int .i64 (d:Int)] 3)) (h.below hal) ((Rd.new w 3 #[.int .i64 (d:Int)] 1 (I64 [(d:Int)]) (by simp [I64]) (by simp)).up (by simp)) (by omega)
  rw [rdy_one hd] at this
  exact this.mono fun en w' ⟨q1,q2⟩=>⟨q1,hal.trans (q2.mono (by simp))⟩
 have TP:Hid (∀ W,Below w.heap.size w W→Calls Tryz.prog 75 #[.pointer (some ⟨g,0,none⟩)] W fun en w'=>∃ gx,en=.returned (.pointer (some ⟨gx,0,none⟩))∧TurnsAt w' W.heap.size gx l b∧Below W.heap.size W w'):=fun W m=>turnsOf_p g l b root lone W (h.below m) hi
 obtain ⟨a1,a2,a3,a4⟩:=ahead_lt hi hev hd
 have HS:=Lib.hid (star_inv hi a2)
 have BP:Hid (∀ W,Below w.heap.size w W→Calls Tryz.prog 83 #[.pointer (some ⟨g,0,none⟩),.int .i64 (d:Int)] W (NewI64 W (ofN (orb (phiL l) d)))):=fun W m=>border_in g l b root lone d W (h.below m) hd
 have KP:Hid (∀ x,x∈orb (phiL l) d→∀ W,Below w.heap.size w W→Calls Tryz.prog 84 #[.pointer (some ⟨g,0,none⟩),.int .i64 (x:Int)] W fun e w'=>e=.returned (.int .i64 ((b.getD x 0:Nat):Int))∧Below W.heap.size W w'):=fun x hx W m=>mback_in g l b root lone x W (h.below m) (a1 x hx)
 obtain ⟨O,hO⟩:∃ O,O=orb (phiL l) d:=⟨_,rfl⟩
 obtain ⟨P,hP⟩:∃ P,P=aheadN l b d:=⟨_,rfl⟩
 obtain ⟨K,hK⟩:∃ K,K=O.length:=⟨_,rfl⟩
 have HPK:Hid (P.length=K∧∀ j,j < K→P.getD j 0=b.getD (O.getD j 0) 0):=by
  refine ⟨by rw [hP,hK,hO];simp [aheadN],fun j hj=>?_⟩
  rw [hP,hO]
  unfold aheadN
  rw [hK,hO] at hj
  simp [List.getD_eq_getElem?_getD,List.getElem?_eq_getElem hj]
 have HPL:Hid (∀ x,x∈P→x < l.length):=by rw [hP];exact a2
 have DR:Hid (∀ W Fr gx,TurnsF W Fr gx (starL l b d) (starB l b d)→Below w.heap.size w W→Calls Tryz.prog 78 #[.pointer (some ⟨gx,0,none⟩),.pointer (some ⟨g,0,none⟩)] W (NewMap W (starL l b d) (starB l b d) root lone)):=fun W Fr gx ht m=>by
  have hv:=HS.out _ (Nat.le_refl _)
  have hl:(aheadN l b d).length=(orb (phiL l) d).length:=by simp [aheadN]
  have hl2:(starL l b d).length=l.length+2*(orb (phiL l) d).length:=by have:=hv.2;unfold starL;rw [hl] at this ⊢;exact this
  exact drawn_p 0 gx g (starL l b d) (starB l b d) l b root lone W (ht.mono fun _ _ _=>Nat.zero_le _) (h.below m) hv.1 (by rw [hl2];omega) (by rw [hl2];omega) (by rw [hl2];exact root_more hr (by omega) (by omega))
 have HSL:Hid (starL l b d=(starS l b P K).1∧starB l b d=(starS l b P K).2):=by
  unfold starL starB
  rw [← hP]
  have:P.length=K:=HPK.out.1
  rw [this];exact ⟨rfl,rfl⟩
 rw [← hO] at BP KP a3 a4
 rw [← hP] at HS
 rw [← hK] at a3 a4
 have HOK:Hid (K=O.length):=hK
 have HOL:Hid ((ofN O).length=K):=by show _=_;rw [ofN_len];exact hK.symm
 obtain ⟨n,hnn⟩:∃ n,n=l.length:=⟨_,rfl⟩
 obtain ⟨n1,hn1⟩:∃ n1,n1=l.length+1:=⟨_,rfl⟩
 have e1:(n:Int)+1=(n1:Int):=by omega
 have we1:IntKind.i64.wrap (n1:Int)=(n1:Int):=by simp [IntKind.wrap,IntKind.signed,IntKind.bits];omega
 have HN:Hid (n=l.length∧n1=l.length+1):=⟨hnn,hn1⟩
 have NXP:Hid (∀ W base gx,TurnsAt W base gx l b→Calls Tryz.prog 82 #[.pointer (some ⟨gx,0,none⟩)] W fun en w'=>en=.returned (.int .i64 (n:Int))∧W=w'):=fun W base gx ht=>by
  have:=gnext_p base gx l b W ht
  rw [← HN.out.1] at this
  exact this
 have HEV:=Lib.hid hev
 clear h hal hi hr hn2 hev hnn hn1 hO hP hK a1 a2
 rw [HSL.out.1,HSL.out.2] at DR ⊢
 clear HSL
 go_enter Tryz.func50,Tryz.ntmps50
 go_wp2_with fail
 refine RP.out.mono ?_
 rintro en w1 ⟨rfl,b1⟩
 have B1:=Lib.hid b1
 clear b1 RP
 go_wp2_with fail
 refine (TP.out _ B1.out).mono ?_
 rintro en w2 ⟨gx,rfl,t2,b2⟩
 have B2:=B1.out.trans (b2.mono B1.out.size)
 clear b2 TP
 go_wp2_with fail
 refine (NXP.out _ _ _ t2).mono ?_
 rintro en w3 ⟨rfl,rfl⟩
 go_wp2_with fail
 refine (BP.out _ B2).mono ?_
 rintro en w4 ⟨A4,c4,rfl,hc4,hm4,hown4,b4⟩
 rw [HOL.out] at hc4 hown4 ⊢
 obtain ⟨X,rfl,hX,hXw⟩:=own_some hown4 (by omega)
 have B4:=B2.trans (b4.mono B2.size)
 have t4:TurnsF w4 (fun k=>w.heap.size≤k∧k≠X) gx l b:=(t2.mono (fun k hk q=>⟨Nat.le_trans B1.out.size q,by omega⟩)).below b4
 have S0:=Lib.hid (And.intro t4 (And.intro hown4 B4))
 have hXF:Hid (∀ W,Mod (fun k=>w.heap.size≤k∧k≠X) w4 W→(∀ j,j < K→W.cell? ⟨X,0+j,none⟩=some (.int .i64 ((O.getD j 0:Nat):Int)))∧Below w.heap.size w W):=fun W m=>by
  refine ⟨fun j hj=>?_,B4.trans (m.belowB B4.size fun i hi q=>by omega)⟩
  have:=own_cellI (own_mod hown4 m (fun k hk q=>by simp [Value.ownBlock] at hk;omega)) j hj
  rw [ofN_get] at this
  rw [Nat.zero_add];exact this
 have hX4:X < w4.heap.size:=hXw
 clear t2 b4 B2 hown4 t4 B4 NXP BP B1 hX hXw
 go_wp2_with fail
 go_loopw [29] (fun i wr=>∃ (j:Nat),j≤K∧i=.int .i64 (j:Int)∧Hid (TurnsF wr (fun k=>w.heap.size≤k∧k≠X) gx (starS l b P j).1 (starS l b P j).2)∧Hid (Mod (fun k=>w.heap.size≤k∧k≠X) w4 wr)) (fun i _=>K - (intOf i).toNat)
 case atStart=>exact ⟨0,by omega,rfl,S0.out.1,Mod.refl _ _⟩
 case round =>
  clear S0
  obtain ⟨j,hj,rfl,HT,HM⟩:=hrel
  by_cases hlt:j < K
  ·have hdk:decide (j < K)=true:=decide_eq_true hlt
   have cx:=(hXF.out _ HM.out).1 j hlt
   rw [Nat.zero_add] at cx
   have hsv:=HS.out j (by rw [HPK.out.1];exact hj)
   obtain ⟨m,hm⟩:∃ m,m=l.length+2*j:=⟨_,rfl⟩
   obtain ⟨m1,hm1⟩:∃ m1,m1=l.length+2*j+1:=⟨_,rfl⟩
   have hxm:O.getD j 0∈O:=by rw [List.getD_eq_getElem?_getD,List.getElem?_eq_getElem (by rw [← HOK.out];exact hlt)];exact List.getElem_mem _
   have KX:=Lib.hid (KP.out _ hxm)
   have hpj:=HPK.out.2 j hlt
   have hpl:P.getD j 0 < l.length:=HPL.out _ (by rw [List.getD_eq_getElem?_getD,List.getElem?_eq_getElem (by rw [HPK.out.1];exact hlt)];exact List.getElem_mem _)
   rw [← hpj] at KX
   have hso:=star_one hsv.1 (a:=P.getD j 0) (by rw [hsv.2];omega)
   have EP:Hid (Calls Tryz.prog 76 #[.pointer (some ⟨gx,0,none⟩)] wr fun en w'=>en=.returned (.tuple #[.int .i64 (m:Int),.int .i64 (m1:Int)])∧TurnsF w' (fun k=>w.heap.size≤k∧k≠X) gx (edgL (starS l b P j).1) (edgL (starS l b P j).2)∧Mod (fun k=>w.heap.size≤k∧k≠X) wr w'):=by
    have hsz:=HM.out.size
    have hbs:=(hXF.out _ HM.out).2.size
    have:=gedgeF_p (fun k=>w.heap.size≤k∧k≠X) gx _ _ wr HT.out (by rw [hsv.2];omega) (fun k hk=>⟨by omega,by omega⟩)
    rw [hsv.2,← hm1,← hm] at this
    exact this
   have P1:Hid (∀ W,TurnsF W (fun k=>w.heap.size≤k∧k≠X) gx (edgL (starS l b P j).1) (edgL (starS l b P j).2)→Calls Tryz.prog 77 #[.pointer (some ⟨gx,0,none⟩),.int .i64 (m:Int),.int .i64 ((P.getD j 0:Nat):Int)] W fun en w'=>en=.returned (.tuple #[])∧TurnsF w' (fun k=>w.heap.size≤k∧k≠X) gx (putL (edgL (starS l b P j).1) (starS l b P j).1.length (P.getD j 0)) (putB (edgL (starS l b P j).1) (edgL (starS l b P j).2) (starS l b P j).1.length (P.getD j 0))∧Mod (fun k=>w.heap.size≤k∧k≠X) W w'):=fun W ht=>by
    have:=gputF_p (fun k=>w.heap.size≤k∧k≠X) gx _ _ (starS l b P j).1.length (P.getD j 0) W ht (edg_inv hsv.1) (by rw [edg_len];omega) (by rw [edg_len,hsv.2];omega) (by rw [edg_len,hsv.2];omega)
    rw [hm]
    rw [hsv.2] at this ⊢
    exact this
   have P2:Hid (∀ W,TurnsF W (fun k=>w.heap.size≤k∧k≠X) gx (putL (edgL (starS l b P j).1) (starS l b P j).1.length (P.getD j 0)) (putB (edgL (starS l b P j).1) (edgL (starS l b P j).2) (starS l b P j).1.length (P.getD j 0))→Calls Tryz.prog 77 #[.pointer (some ⟨gx,0,none⟩),.int .i64 (m1:Int),.int .i64 (n1:Int)] W fun en w'=>en=.returned (.tuple #[])∧TurnsF w' (fun k=>w.heap.size≤k∧k≠X) gx (putL (putL (edgL (starS l b P j).1) (starS l b P j).1.length (P.getD j 0)) ((starS l b P j).1.length+1) (l.length+1)) (putB (putL (edgL (starS l b P j).1) (starS l b P j).1.length (P.getD j 0)) (putB (edgL (starS l b P j).1) (edgL (starS l b P j).2) (starS l b P j).1.length (P.getD j 0)) ((starS l b P j).1.length+1) (l.length+1))∧Mod (fun k=>w.heap.size≤k∧k≠X) W w'):=fun W ht=>by
    have:=gputF_p (fun k=>w.heap.size≤k∧k≠X) gx _ _ ((starS l b P j).1.length+1) (l.length+1) W ht hso.1 (by rw [hso.2.1];omega) (by rw [hso.2.1,hsv.2];omega) (by rw [hso.2.1,hsv.2];omega)
    rw [hm1,HN.out.2]
    rw [hsv.2] at this ⊢
    exact this
   have HST:Hid (starS l b P (j+1)=if j=0 then (putL (edgL (starS l b P j).1) (starS l b P j).1.length (P.getD j 0),putB (edgL (starS l b P j).1) (edgL (starS l b P j).2) (starS l b P j).1.length (P.getD j 0)) else (putL (putL (edgL (starS l b P j).1) (starS l b P j).1.length (P.getD j 0)) ((starS l b P j).1.length+1) (l.length+1),putB (putL (edgL (starS l b P j).1) (starS l b P j).1.length (P.getD j 0)) (putB (edgL (starS l b P j).1) (edgL (starS l b P j).2) (starS l b P j).1.length (P.getD j 0)) ((starS l b P j).1.length+1) (l.length+1))):=rfl
   have HMM:Hid (m1=n1↔j=0):=by
    have:=HN.out.2
    exact ⟨fun q=>by omega,fun q=>by omega⟩
   generalize (putL (putL (edgL (starS l b P j).1) (starS l b P j).1.length (P.getD j 0)) ((starS l b P j).1.length+1) (l.length+1))=L2 at *
   generalize (putB (putL (edgL (starS l b P j).1) (starS l b P j).1.length (P.getD j 0)) (putB (edgL (starS l b P j).1) (edgL (starS l b P j).2) (starS l b P j).1.length (P.getD j 0)) ((starS l b P j).1.length+1) (l.length+1))=B2 at *
   generalize (putL (edgL (starS l b P j).1) (starS l b P j).1.length (P.getD j 0))=L1 at *
   generalize (putB (edgL (starS l b P j).1) (edgL (starS l b P j).2) (starS l b P j).1.length (P.getD j 0))=B1 at *
   clear hsv hso hm hm1 hxm hpj hpl
   generalize P.getD j 0=pj at *
   generalize O.getD j 0=oj at *
   have hlti:(j:Int) < (K:Int):=by omega
   go_wp2_with fail
   refine EP.out.mono ?_
   rintro en u1 ⟨rfl,t5,m5⟩
   have M5:=Lib.hid (mod_self HM.out m5)
   have T5:=Lib.hid t5
   clear t5 m5 EP HT
   go_wp2_with fail
   refine (KX.out _ (hXF.out _ M5.out).2).mono ?_
   rintro en u2 ⟨rfl,z⟩
   have T6:=Lib.hid (T5.out.below z)
   have M6:=Lib.hid (mod_self M5.out (Mod.none_ z _))
   clear z T5 M5
   go_wp2_with fail
   refine (P1.out _ T6.out).mono ?_
   rintro en u3 ⟨rfl,t7,m7⟩
   have M7:=Lib.hid (mod_self M6.out m7)
   have T7:=Lib.hid t7
   clear t7 m7 T6 M6 P1
   by_cases c:j=0
   ·have hmm:m1=n1:=HMM.out.2 c
    have HT8:Hid (TurnsF u3 (fun k=>w.heap.size≤k∧k≠X) gx (starS l b P (j+1)).1 (starS l b P (j+1)).2):=by
     rw [HST.out,if_pos c];exact T7.out
    clear HST HMM T7 P2
    have hd1:((m1:Int) != (n1:Int))=false:=by simp [hmm]
    have hd2:(m1 != n1)=false:=by simp [hmm]
    have hd3:decide (m1=n1)=true:=decide_eq_true hmm
    clear hmm c
    go_wp2_with fail
    go_roundw
    case rel=>exact ⟨j+1,by omega,by go_num,HT8,M7⟩
    case measure=>simp [intOf];omega
   ·have hmm:m1≠n1:=fun q=>c (HMM.out.1 q)
    have hd1:((m1:Int) != (n1:Int))=true:=by simp;omega
    have hd2:(m1 != n1)=true:=by simp [hmm]
    have hd3:decide (m1=n1)=false:=decide_eq_false hmm
    go_wp2_with fail
    refine (P2.out _ T7.out).mono ?_
    rintro en u4 ⟨rfl,t8,m8⟩
    have M8:=Lib.hid (mod_self M7.out m8)
    have HT8:Hid (TurnsF u4 (fun k=>w.heap.size≤k∧k≠X) gx (starS l b P (j+1)).1 (starS l b P (j+1)).2):=by
     rw [HST.out,if_neg c];exact t8
    clear t8 m8 HST HMM T7 P2 M7
    go_wp2_with fail
    go_roundw
    case rel=>exact ⟨j+1,by omega,by go_num,HT8,M8⟩
    case measure=>simp [intOf];omega
  ·obtain rfl:j=K:=by omega
   have hdk:decide (j < j)=false:=by simp
   have BW:=Lib.hid (hXF.out _ HM.out).2
   go_wp2_with fail
   refine (DR.out _ _ _ HT.out BW.out).mono ?_
   rintro en w99 ⟨g9,rfl,m9,b9,lo9⟩
   have F:=Lib.hid (And.intro m9 (BW.out.trans (b9.mono BW.out.size)))
   clear m9 b9 lo9
   go_wp2_with fail
   go_ret2
   exact ⟨g9,rfl,F.out.1,F.out.2⟩
def sdL:List Nat:=[0,1]
theorem sd_inv:Inv sdL sdL:=by
 refine ⟨rfl,?_,?_,?_,?_⟩ <;> (intro i hi;have:i=0∨i=1:=by (simp [sdL] at hi;omega));all_goals (rcases this with rfl | rfl <;> decide)
set_option maxHeartbeats 4000000 in
theorem seed_p (w:World):Calls Tryz.prog 36 #[] w fun en w'=>∃ g',en=.returned (.pointer (some ⟨g',0,none⟩))∧MapAt w' g' sdL sdL 0 0∧Below w.heap.size w w':=by
 have r1:Rd (w.alloc (.cells #[.int .i64 0,.int .i64 1] 3)) (w.alloc (.cells #[.int .i64 0,.int .i64 1] 3)).heap.size (some ⟨w.heap.size,0,none⟩) 2 (I64 (ofN sdL)):=(Rd.new w 3 #[.int .i64 0,.int .i64 1] 2 _ (by simp [I64,ofN,sdL]) (by simp)).up (by simp)
 have N1:=Lib.hid (new_ok _ 2 2 sdL sdL 0 0 _ r1 sd_inv (by decide) (by omega) (.inr (by omega)) (by omega) (by omega))
 have HB:=Lib.hid ((Below.refl w.heap.size w).alloc (Nat.le_refl _) (.cells #[.int .i64 0,.int .i64 1] 3))
 clear r1
 go_enter Tryz.func36,Tryz.ntmps36
 go_wp2_with fail
 refine N1.out.mono ?_
 rintro e w1 ⟨g9,rfl,m9,b9,lo9⟩
 have F:=Lib.hid (And.intro m9 (HB.out.trans (b9.mono HB.out.size)))
 clear m9 b9 lo9
 go_wp2_with fail
 go_ret
 exact ⟨g9,rfl,F.out.1,F.out.2⟩
theorem met_sizesG {l b:List Nat} (h:Inv l b):(sizes l).length=metB l:=by rw [← met_is h];simp [sizes,sizesTo]
noncomputable def growE (k:Nat) (l:List Nat) (d e:Int):Int :=
 open Classical in
 if (d < 0∨(l.length:Int)≤d)∨(k=1∧(e < 0∨(l.length:Int)≤e)) then 1
 else if k=1∧nameOf (phiL l) (l.getD d.toNat 0)≠nameOf (phiL l) (l.getD e.toNat 0) then 8
 else if k=4∧¬ Flips l d.toNat then 8 else 0
noncomputable def growO (k:Nat) (l b:List Nat) (d e:Nat):List Nat × List Nat :=
 if k=0 then (leafL l d,leafB l b d) else if k=1 then (chordL l d e,chordB l b d e) else if k=2 then (splitL l b d,splitB l b d) else if k=3 then (starL l b d,starB l b d) else (flipL l b d,flipB l b d)
theorem growE_out {k:Nat} {l:List Nat} {d e:Int} (h:(d < 0∨(l.length:Int)≤d)∨(k=1∧(e < 0∨(l.length:Int)≤e))):growE k l d e=1:=by unfold growE;rw [if_pos h]
theorem growE_in {k:Nat} {l:List Nat} {d e:Int} (h:¬ ((d < 0∨(l.length:Int)≤d)∨(k=1∧(e < 0∨(l.length:Int)≤e)))) :
  (¬ (k=1∧nameOf (phiL l) (l.getD d.toNat 0)≠nameOf (phiL l) (l.getD e.toNat 0))→¬ (k=4∧¬ Flips l d.toNat)→growE k l d e=0) ∧
  (k=1→nameOf (phiL l) (l.getD d.toNat 0)≠nameOf (phiL l) (l.getD e.toNat 0)→growE k l d e=8)∧(k=4→¬ Flips l d.toNat→growE k l d e=8):=by
 unfold growE
 rw [if_neg h]
 refine ⟨fun h1 h2=>by rw [if_neg h1,if_neg h2],fun h1 h2=>by rw [if_pos ⟨h1,h2⟩],fun h1 h2=>?_⟩
 rw [if_neg (fun c=>by omega),if_pos ⟨h1,h2⟩]
def GrowR (k:Nat) (l b:List Nat) (root lone d e:Int) (w:World) (p:Option Addr) (x:Int) (w':World):Prop :=
 x=growE k l d e∧Below w.heap.size w w'∧((x=0∧∃ g',p=some ⟨g',0,none⟩∧MapAt w' g' (growO k l b d.toNat e.toNat).1 (growO k l b d.toNat e.toNat).2 root lone)∨(x≠0∧p=none))
def GrowA (k:Nat) (l b:List Nat) (root lone d e:Int) (w:World) (en:Ending) (w':World):Prop:=∃ p x,en=.returned (.tuple #[.pointer p,.int .i64 x])∧GrowR k l b root lone d e w p x w'
section
variable {g:Nat} {l b:List Nat} {root lone d e:Int} {w:World}
theorem leaf_a (h:MapAt w g l b root lone) (hi:Inv l b) (hr:RootOk root l.length) (hn:l.length≤30000) :
  Calls Tryz.prog 46 #[.pointer (some ⟨g,0,none⟩),.int .i64 d] w (GrowA 0 l b root lone d e w):=by
 by_cases ho:d < 0∨(l.length:Int)≤d
 ·exact (leaf_out g l b root lone d w h ho).mono fun en w' ⟨q1,q2⟩=>⟨none,1,q1,(growE_out (.inl ho)).symm,q2,.inr ⟨by omega,rfl⟩⟩
 ·obtain ⟨dn,rfl⟩:∃ dn:Nat,d=(dn:Int):=⟨d.toNat,by omega⟩
  refine (leaf_in g l b root lone dn w h hi hr (by omega) (by omega)).mono fun en w' ⟨g',q1,q2,q3⟩=>⟨_,0,q1,((growE_in (k:=0) (e:=e) (by omega)).1 (by omega) (by omega)).symm,q3,.inl ⟨rfl,g',rfl,?_⟩⟩
  rw [Int.toNat_natCast];exact q2
theorem split_a (h:MapAt w g l b root lone) (hi:Inv l b) (hr:RootOk root l.length) (hn:l.length≤30000) :
  Calls Tryz.prog 49 #[.pointer (some ⟨g,0,none⟩),.int .i64 d] w (GrowA 2 l b root lone d e w):=by
 by_cases ho:d < 0∨(l.length:Int)≤d
 ·exact (split_out g l b root lone d w h ho).mono fun en w' ⟨q1,q2⟩=>⟨none,1,q1,(growE_out (.inl ho)).symm,q2,.inr ⟨by omega,rfl⟩⟩
 ·obtain ⟨dn,rfl⟩:∃ dn:Nat,d=(dn:Int):=⟨d.toNat,by omega⟩
  refine (split_in g l b root lone dn w h hi hr (by omega) (by omega)).mono fun en w' ⟨g',q1,q2,q3⟩=>⟨_,0,q1,((growE_in (k:=2) (e:=e) (by omega)).1 (by omega) (by omega)).symm,q3,.inl ⟨rfl,g',rfl,?_⟩⟩
  rw [Int.toNat_natCast];exact q2
theorem star_a (h:MapAt w g l b root lone) (hi:Inv l b) (hr:RootOk root l.length) (hn:l.length≤30000) :
  Calls Tryz.prog 50 #[.pointer (some ⟨g,0,none⟩),.int .i64 d] w (GrowA 3 l b root lone d e w):=by
 by_cases ho:d < 0∨(l.length:Int)≤d
 ·exact (star_out g l b root lone d w h ho).mono fun en w' ⟨q1,q2⟩=>⟨none,1,q1,(growE_out (.inl ho)).symm,q2,.inr ⟨by omega,rfl⟩⟩
 ·obtain ⟨dn,rfl⟩:∃ dn:Nat,d=(dn:Int):=⟨d.toNat,by omega⟩
  refine (star_in g l b root lone dn w h hi hr (by omega) (by omega)).mono fun en w' ⟨g',q1,q2,q3⟩=>⟨_,0,q1,((growE_in (k:=3) (e:=e) (by omega)).1 (by omega) (by omega)).symm,q3,.inl ⟨rfl,g',rfl,?_⟩⟩
  rw [Int.toNat_natCast];exact q2
theorem flip_a (h:MapAt w g l b root lone) (hi:Inv l b) (hr:RootOk root l.length) (hn:l.length≤30000) :
  Calls Tryz.prog 51 #[.pointer (some ⟨g,0,none⟩),.int .i64 d] w (GrowA 4 l b root lone d e w):=by
 by_cases ho:d < 0∨(l.length:Int)≤d
 ·exact (flip_out g l b root lone d w h ho).mono fun en w' ⟨q1,q2⟩=>⟨none,1,q1,(growE_out (.inl ho)).symm,q2,.inr ⟨by omega,rfl⟩⟩
 ·obtain ⟨dn,rfl⟩:∃ dn:Nat,d=(dn:Int):=⟨d.toNat,by omega⟩
  have hE:=growE_in (k:=4) (l:=l) (d:=(dn:Int)) (e:=e) (by omega)
  rw [Int.toNat_natCast] at hE
  by_cases hf:Flips l dn
  ·refine (flip_in g l b root lone dn w h hi hr (by omega) (by omega) hf).mono fun en w' ⟨g',q1,q2,q3⟩=>⟨_,0,q1,(hE.1 (by omega) (fun c=>c.2 hf)).symm,q3,.inl ⟨rfl,g',rfl,?_⟩⟩
   rw [Int.toNat_natCast];exact q2
  ·exact (flip_no g l b root lone dn w h (by omega) hf).mono fun en w' ⟨q1,q2⟩=>⟨none,8,q1,(hE.2.2 rfl hf).symm,q2,.inr ⟨by omega,rfl⟩⟩
theorem chord_a (h:MapAt w g l b root lone) (hi:Inv l b) (hr:RootOk root l.length) (hn:l.length≤30000) :
  Calls Tryz.prog 48 #[.pointer (some ⟨g,0,none⟩),.int .i64 d,.int .i64 e] w (GrowA 1 l b root lone d e w):=by
 by_cases ho:(d < 0∨(l.length:Int)≤d)∨e < 0∨(l.length:Int)≤e
 ·exact (chord_out g l b root lone d e w h ho).mono fun en w' ⟨q1,q2⟩=>⟨none,1,q1,(growE_out (by omega)).symm,q2,.inr ⟨by omega,rfl⟩⟩
 ·obtain ⟨dn,rfl⟩:∃ dn:Nat,d=(dn:Int):=⟨d.toNat,by omega⟩
  obtain ⟨en',rfl⟩:∃ en':Nat,e=(en':Int):=⟨e.toNat,by omega⟩
  have hE:=growE_in (k:=1) (l:=l) (d:=(dn:Int)) (e:=(en':Int)) (by omega)
  rw [Int.toNat_natCast,Int.toNat_natCast] at hE
  by_cases hf:nameOf (phiL l) (l.getD dn 0)=nameOf (phiL l) (l.getD en' 0)
  ·refine (chord_in g l b root lone dn en' w h hi hr (by omega) (by omega) (by omega) hf).mono fun en w' ⟨g',q1,q2,q3⟩=>⟨_,0,q1,(hE.1 (fun c=>c.2 hf) (by omega)).symm,q3,.inl ⟨rfl,g',rfl,?_⟩⟩
   rw [Int.toNat_natCast,Int.toNat_natCast];exact q2
  ·exact (chord_two g l b root lone dn en' w h hi hr (by omega) (by omega) (by omega) hf).mono fun en w' ⟨q1,q2⟩=>⟨none,8,q1,(hE.2.1 rfl hf).symm,q2,.inr ⟨by omega,rfl⟩⟩
theorem growO_inv (hi:Inv l b) (hev:l.length%2=0) {k:Nat} {d e:Int} (hk:k < 5) (h0:growE k l d e=0):Inv (growO k l b d.toNat e.toNat).1 (growO k l b d.toNat e.toNat).2∧(growO k l b d.toNat e.toNat).1.length≤3*l.length∧(growO k l b d.toNat e.toNat).1.length%2=0∧l.length≤(growO k l b d.toNat e.toNat).1.length∧0 < l.length:=by
 have hin:¬ ((d < 0∨(l.length:Int)≤d)∨(k=1∧(e < 0∨(l.length:Int)≤e))):=fun c=>by rw [growE_out c] at h0;omega
 have hE:=growE_in hin
 have hd:d.toNat < l.length:=by omega
 have hk5:k=0∨k=1∨k=2∨k=3∨k=4:=by omega
 rcases hk5 with rfl | rfl | rfl | rfl | rfl
 ·obtain ⟨i1,i2⟩:=leaf_inv hi hd
  exact ⟨i1,by show (leafL l d.toNat).length≤_;omega,by show (leafL l d.toNat).length%2=0;omega,by show _≤(leafL l d.toNat).length;omega,by omega⟩
 ·have he:e.toNat < l.length:=by omega
  obtain ⟨i1,i2⟩:=chord_inv hi hd he
  exact ⟨i1,by show (chordL l d.toNat e.toNat).length≤_;omega,by show (chordL l d.toNat e.toNat).length%2=0;omega,by show _≤(chordL l d.toNat e.toNat).length;omega,by omega⟩
 ·obtain ⟨i1,i2⟩:=split_inv hi hev hd
  exact ⟨i1,by show (splitL l b d.toNat).length≤_;omega,by show (splitL l b d.toNat).length%2=0;omega,by show _≤(splitL l b d.toNat).length;omega,by omega⟩
 ·obtain ⟨a1,a2,a3,a4⟩:=ahead_lt hi hev hd
  obtain ⟨i1,i2⟩:=star_inv hi a2 _ (Nat.le_refl _)
  have hl:(aheadN l b d.toNat).length=(orb (phiL l) d.toNat).length:=by simp [aheadN]
  have i3:(starL l b d.toNat).length=l.length+2*(aheadN l b d.toNat).length:=i2
  exact ⟨i1,by show (starL l b d.toNat).length≤_;omega,by show (starL l b d.toNat).length%2=0;omega,by show _≤(starL l b d.toNat).length;omega,by omega⟩
 ·have hf:Flips l d.toNat:=Classical.byContradiction fun c=>by have:=hE.2.2 rfl c;omega
  obtain ⟨i1,i2⟩:=flip_inv hi hev hd hf.1
  exact ⟨i1,by show (flipL l b d.toNat).length≤_;omega,by show (flipL l b d.toNat).length%2=0;omega,by show _≤(flipL l b d.toNat).length;omega,by omega⟩
end
/-! ### the walk -/
def wKd (nm:Nat→Nat) (K:List Int) (M:List Bool) (d:Nat):Nat:=if K.getD (d / 2) 0=0 then 1 else if K.getD (d / 2) 0=2 then 3 else if M.getD (nm (mt d)) false=true then 2 else 0
def wK1 (K:List Int) (d k:Nat):List Int:=if k%2=0 then K.set (d / 2) k else K
def wM1 (nm:Nat→Nat) (M:List Bool) (d k:Nat):List Bool:=if k=0 then M.set (nm (mt d)) true else M
def wNx (sg:Nat→Nat) (d k:Nat):Nat:=if k < 2 then sg (mt d) else sg d
structure WS where
 d:Nat
 K:List Int
 M:List Bool
def WS.k (nm:Nat→Nat) (s:WS):Nat:=wKd nm s.K s.M s.d
def WS.next (sg nm:Nat→Nat) (s:WS):WS:=⟨wNx sg s.d (s.k nm),wK1 s.K s.d (s.k nm),wM1 nm s.M s.d (s.k nm)⟩
def wrun (sg nm:Nat→Nat) (m V r:Nat):Nat→WS
 | 0=>⟨r,List.replicate m (-1),(List.replicate V false).set (nm r) true⟩
 | j+1=>(wrun sg nm m V r j).next sg nm
def fK (sg:Nat→Nat) (K:List Int) (d:Nat):Nat:=sg (if K.getD (d / 2) 0=0 then mt d else d)
theorem mt_half (d:Nat):mt d / 2=d / 2:=by unfold mt;split <;> omega
theorem mt_mt' (d:Nat):mt (mt d)=d:=by unfold mt;split <;> split <;> omega
theorem fK_pf {n m:Nat} {sg:Nat→Nat} (h:PF n sg) (hn:n=2*m) (K:List Int):PF n (fK sg K):=by
 refine ⟨fun i hi=>?_,fun i j hi hj e=>?_⟩
 ·unfold fK
  split
  ·exact h.lt _ (mt_lt hn hi)
  ·exact h.lt _ hi
 ·unfold fK at e
  have hi':=mt_lt hn hi
  have hj':=mt_lt hn hj
  split at e
  ·next a =>
   split at e
   ·have:=h.inj _ _ hi' hj' e
    have:=congrArg mt this
    rwa [mt_mt',mt_mt'] at this
   ·next c =>
    have:=h.inj _ _ hi' hj e
    rw [← this,mt_half] at c
    exact absurd a c
  ·next a =>
   split at e
   ·next c =>
    have:=h.inj _ _ hi hj' e
    rw [this,mt_half] at a
    exact absurd c a
   ·exact h.inj _ _ hi hj e
structure WOk (n m V:Nat) (sg nm:Nat→Nat) (r:Nat) (s:WS):Prop where
 lt:s.d < n
 kl:s.K.length=m
 ml:s.M.length=V
 ks:∀ e,e < m→s.K.getD e 0=-1∨s.K.getD e 0=0∨s.K.getD e 0=2
 md:s.M.getD (nm s.d) false=true
 me:∀ d,d < n→s.K.getD (d / 2) 0≠-1→s.M.getD (nm d) false=true
 mo:∀ x,x < n→(Orb (fK sg s.K) r x↔s.M.getD (nm x) false=true)
theorem getB_set (y:List Bool) (k j:Nat) (v:Bool) (hk:k < y.length):(y.set k v).getD j false=if j=k then v else y.getD j false:=by
 by_cases e:j=k
 ·subst e;simp [List.getD_eq_getElem?_getD,hk]
 ·rw [if_neg e];simp [List.getD_eq_getElem?_getD,Ne.symm e]
theorem getI_set (y:List Int) (k j:Nat) (v:Int) (hk:k < y.length):(y.set k v).getD j 0=if j=k then v else y.getD j 0:=by
 by_cases e:j=k
 ·subst e;simp [List.getD_eq_getElem?_getD,hk]
 ·rw [if_neg e];simp [List.getD_eq_getElem?_getD,Ne.symm e]
section
variable {n m V:Nat} {sg nm:Nat→Nat} {r:Nat}
theorem orb_same {f g:Nat→Nat} {S:Nat→Prop} (hs:∀ x,S x→f x=g x) (hc:∀ x,S x→S (g x)) {i:Nat} (hi:S i):∀ k,itf f k i=itf g k i∧S (itf g k i)
 | 0=>⟨rfl,hi⟩
 | k+1=>by
   obtain ⟨e,s⟩:=orb_same hs hc hi k
   exact ⟨by show f (itf f k i)=g (itf g k i);rw [e,hs _ s],hc _ s⟩
theorem nm_it (hs:PF n sg) (hnm:∀ x y,x < n→y < n→(nm x=nm y↔Orb sg x y)) {x:Nat} (hx:x < n):nm (sg x)=nm x:=((hnm x (sg x) hx (hs.lt x hx)).2 ⟨1,rfl⟩).symm
theorem WOk.start (hs:PF n sg) (hn:n=2*m) (hnm:∀ x y,x < n→y < n→(nm x=nm y↔Orb sg x y)) (hV:∀ x,x < n→nm x < V) (hr:r < n):WOk n m V sg nm r (wrun sg nm m V r 0):=by
 have hk:∀ e,e < m→(List.replicate m (-1:Int)).getD e 0=-1:=fun e he=>by simp [List.getD_eq_getElem?_getD,he]
 have hm:∀ x,((List.replicate V false).set (nm r) true).getD x false=decide (x=nm r):=fun x=>by
  rw [getB_set _ _ _ _ (by simpa using hV r hr)]
  by_cases c:x=nm r
  ·rw [if_pos c,decide_eq_true_iff.2 c]
  ·rw [if_neg c,decide_eq_false_iff_not.2 c]
   simp [List.getD_eq_getElem?_getD,List.getElem?_replicate]
   split <;> rfl
 refine ⟨hr,by simp [wrun],by simp [wrun],fun e he=>.inl (hk e he),?_,fun d hd c=>absurd (hk _ (by omega)) c,fun x hx=>?_⟩
 ·show _=true;rw [wrun,hm];simp
 ·show Orb (fK sg (List.replicate m (-1))) r x↔((List.replicate V false).set (nm r) true).getD (nm x) false=true
  rw [hm,decide_eq_true_iff]
  have hf:∀ y,y < n→fK sg (List.replicate m (-1)) y=sg y:=fun y hy=>by unfold fK;rw [if_neg (by rw [hk _ (by omega)];omega)]
  constructor
  ·rintro ⟨k,e⟩
   have:=(orb_same (S:=fun y=>y < n) hf (fun y hy=>hs.lt y hy) hr k).1
   exact ((hnm r x hr hx).2 ⟨k,by rw [← this];exact e⟩).symm
  ·intro e
   obtain ⟨k,e⟩:=(hnm r x hr hx).1 e.symm
   have:=(orb_same (S:=fun y=>y < n) hf (fun y hy=>hs.lt y hy) hr k).1
   exact ⟨k,by rw [this];exact e⟩
theorem WS.kinds (s:WS):(s.k nm=1∧s.K.getD (s.d / 2) 0=0)∨(s.k nm=3∧s.K.getD (s.d / 2) 0=2)∨(s.k nm=2∧s.K.getD (s.d / 2) 0≠0∧s.K.getD (s.d / 2) 0≠2∧s.M.getD (nm (mt s.d)) false=true)∨(s.k nm=0∧s.K.getD (s.d / 2) 0≠0∧s.K.getD (s.d / 2) 0≠2∧s.M.getD (nm (mt s.d)) false≠true):=by
 unfold WS.k wKd
 by_cases a:s.K.getD (s.d / 2) 0=0
 ·exact .inl ⟨by rw [if_pos a],a⟩
 ·by_cases c:s.K.getD (s.d / 2) 0=2
  ·exact .inr (.inl ⟨by rw [if_neg a,if_pos c],c⟩)
  ·by_cases q:s.M.getD (nm (mt s.d)) false=true
   ·exact .inr (.inr (.inl ⟨by rw [if_neg a,if_neg c,if_pos q],a,c,q⟩))
   ·exact .inr (.inr (.inr ⟨by rw [if_neg a,if_neg c,if_neg q],a,c,q⟩))
theorem WOk.next (hs:PF n sg) (hn:n=2*m) (hnm:∀ x y,x < n→y < n→(nm x=nm y↔Orb sg x y)) (hV:∀ x,x < n→nm x < V) (hr:r < n) {s:WS} (h:WOk n m V sg nm r s):WOk n m V sg nm r (s.next sg nm):=by
 have hd:=h.lt
 have hmd:mt s.d < n:=mt_lt hn hd
 have he:s.d / 2 < m:=by omega
 have nsg:∀ x,x < n→nm (sg x)=nm x:=fun x hx=>nm_it hs hnm hx
 unfold WS.next
 rcases s.kinds (nm:=nm) with ⟨k,a⟩ | ⟨k,a⟩ | ⟨k,a,c,q⟩ | ⟨k,a,c,q⟩
 ·rw [k]
  refine ⟨by show wNx sg s.d 1 < n;unfold wNx;rw [if_pos (by omega)];exact hs.lt _ hmd,h.kl,h.ml,h.ks,?_,h.me,h.mo⟩
  show s.M.getD (nm (wNx sg s.d 1)) false=true
  unfold wNx
  rw [if_pos (by omega),nsg _ hmd]
  exact h.me _ hmd (by rw [mt_half,a];omega)
 ·rw [k]
  refine ⟨by show wNx sg s.d 3 < n;unfold wNx;rw [if_neg (by omega)];exact hs.lt _ hd,h.kl,h.ml,h.ks,?_,h.me,h.mo⟩
  show s.M.getD (nm (wNx sg s.d 3)) false=true
  unfold wNx
  rw [if_neg (by omega),nsg _ hd]
  exact h.md
 ·rw [k]
  have hK:∀ e,(wK1 s.K s.d 2).getD e 0=if e=s.d / 2 then 2 else s.K.getD e 0:=fun e=>by
   unfold wK1;rw [if_pos (by omega)];exact getI_set _ _ _ _ (by rw [h.kl];exact he)
  refine ⟨by show wNx sg s.d 2 < n;unfold wNx;rw [if_neg (by omega)];exact hs.lt _ hd,by show (wK1 s.K s.d 2).length=m;unfold wK1;rw [if_pos (by omega),List.length_set];exact h.kl,h.ml,fun e hem=>?_,?_,fun d hdn=>?_,fun x hx=>?_⟩
  ·show (wK1 s.K s.d 2).getD e 0=-1∨_
   rw [hK]
   split
   ·exact .inr (.inr rfl)
   ·exact h.ks e hem
  ·show s.M.getD (nm (wNx sg s.d 2)) false=true
   unfold wNx
   rw [if_neg (by omega),nsg _ hd]
   exact h.md
  ·show (wK1 s.K s.d 2).getD (d / 2) 0≠-1→s.M.getD (nm d) false=true
   rw [hK]
   split
   ·next x =>
    intro _
    have:d=s.d∨d=mt s.d:=by unfold mt;split <;> omega
    rcases this with rfl | rfl
    ·exact h.md
    ·exact q
   ·exact h.me d hdn
  ·show Orb (fK sg (wK1 s.K s.d 2)) r x↔s.M.getD (nm x) false=true
   rw [← h.mo x hx]
   have:fK sg (wK1 s.K s.d 2)=fK sg s.K:=by
    funext y
    unfold fK
    rw [hK]
    by_cases c':y / 2=s.d / 2
    ·rw [if_pos c',if_neg (by omega),if_neg (by rw [c'];exact a)]
    ·rw [if_neg c']
   rw [this]
 ·rw [k]
  have q':s.M.getD (nm (mt s.d)) false=false:=by simpa using q
  have hK:∀ e,(wK1 s.K s.d 0).getD e 0=if e=s.d / 2 then 0 else s.K.getD e 0:=fun e=>by
   unfold wK1;rw [if_pos (by omega)];exact getI_set _ _ _ _ (by rw [h.kl];exact he)
  have hM:∀ v,(wM1 nm s.M s.d 0).getD v false=if v=nm (mt s.d) then true else s.M.getD v false:=fun v=>by
   unfold wM1;rw [if_pos rfl];exact getB_set _ _ _ _ (by rw [h.ml];exact hV _ hmd)
  have hfp:=fK_pf hs hn s.K
  refine ⟨by show wNx sg s.d 0 < n;unfold wNx;rw [if_pos (by omega)];exact hs.lt _ hmd,by show (wK1 s.K s.d 0).length=m;unfold wK1;rw [if_pos (by omega),List.length_set];exact h.kl,by show (wM1 nm s.M s.d 0).length=V;unfold wM1;rw [if_pos rfl,List.length_set];exact h.ml,fun e hem=>?_,?_,fun d hdn=>?_,fun x hx=>?_⟩
  ·show (wK1 s.K s.d 0).getD e 0=-1∨_
   rw [hK]
   split
   ·exact .inr (.inl rfl)
   ·exact h.ks e hem
  ·show (wM1 nm s.M s.d 0).getD (nm (wNx sg s.d 0)) false=true
   unfold wNx
   rw [if_pos (by omega),nsg _ hmd,hM,if_pos rfl]
  ·show (wK1 s.K s.d 0).getD (d / 2) 0≠-1→(wM1 nm s.M s.d 0).getD (nm d) false=true
   rw [hK,hM]
   intro x
   split
   ·rfl
   ·split at x
    ·next y z =>
     have:d=s.d∨d=mt s.d:=by unfold mt;split <;> omega
     rcases this with rfl | rfl
     ·exact h.md
     ·exact absurd rfl y
    ·exact h.me d hdn x
  ·show Orb (fK sg (wK1 s.K s.d 0)) r x↔(wM1 nm s.M s.d 0).getD (nm x) false=true
   have hd2:s.d=2*(s.d / 2)∨s.d=2*(s.d / 2)+1:=by omega
   have hsw:∀ y,swp s.d (mt s.d) y=if y / 2=s.d / 2 then mt y else y:=fun y=>by
    unfold swp mt
    repeat' split
    all_goals omega
   have hfe:fK sg (wK1 s.K s.d 0)=fun i=>fK sg s.K (swp s.d (mt s.d) i):=by
    funext y
    unfold fK
    rw [hK,hsw]
    by_cases c':y / 2=s.d / 2
    ·rw [if_pos c',if_pos rfl,if_pos c',if_neg (by rw [mt_half,c'];exact a)]
    ·rw [if_neg c',if_neg c']
   have hno:¬ Orb (fK sg s.K) s.d (mt s.d):=fun o=>by
    have hE:=hfp.eqv
    have o1:=(h.mo s.d hd).2 h.md
    have:=(h.mo (mt s.d) hmd).1 (hE.trans _ _ _ hr hd hmd o1 o)
    exact q this
   have hab:=orb_meet hfp hd hmd hno
   have hfp2:=(hfp.swap hd hmd).eqv
   have hj:joinR (Orb fun i=>fK sg s.K (swp s.d (mt s.d) i)) s.d (mt s.d) r x↔Orb (fun i=>fK sg s.K (swp s.d (mt s.d) i)) r x:=by
    constructor
    ·rintro (y | ⟨y1,y2⟩ | ⟨y1,y2⟩)
     ·exact y
     ·exact hfp2.trans _ _ _ hr hd hx y1 (hfp2.trans _ _ _ hd hmd hx hab y2)
     ·exact hfp2.trans _ _ _ hr hmd hx y1 (hfp2.trans _ _ _ hmd hd hx (hfp2.symm _ _ hd hmd hab) y2)
    ·exact .inl
   rw [hfe,← hj,← orb_join hfp hd hmd r x hr hx,hM]
   have hv:∀ y,y < n→nm y=nm (mt s.d)→fK sg s.K y=sg y:=fun y hy e=>by
    unfold fK
    by_cases z:s.K.getD (y / 2) 0=0
    ·have:=h.me y hy (by rw [z];omega)
     rw [e] at this
     exact absurd this q
    ·rw [if_neg z]
   have hnew:Orb (fK sg s.K) (mt s.d) x↔nm x=nm (mt s.d):=by
    have key:=fun t=>orb_same (f:=fK sg s.K) (g:=sg) (S:=fun y=>y < n∧nm y=nm (mt s.d)) (fun y hy=>hv y hy.1 hy.2) (fun y hy=>⟨hs.lt y hy.1,by rw [nsg y hy.1];exact hy.2⟩) (i:=mt s.d) ⟨hmd,rfl⟩ t
    constructor
    ·rintro ⟨t,e⟩
     have:=key t
     rw [← e,this.1];exact this.2.2
    ·intro e
     obtain ⟨t,e⟩:=(hnm _ _ hmd hx).1 e.symm
     exact ⟨t,by rw [(key t).1];exact e⟩
   have o1:=(h.mo s.d hd).2 h.md
   have o2:¬ Orb (fK sg s.K) r (mt s.d):=fun o=>q ((h.mo _ hmd).1 o)
   unfold joinR
   rw [h.mo x hx,hnew]
   constructor
   ·rintro (y | ⟨_,y⟩ | ⟨y,_⟩)
    ·split
     ·rfl
     ·exact y
    ·rw [if_pos y]
    ·exact absurd y o2
   ·intro y
    split at y
    ·next z=>exact .inr (.inl ⟨o1,z⟩)
    ·exact .inl y
theorem wok (hs:PF n sg) (hn:n=2*m) (hnm:∀ x y,x < n→y < n→(nm x=nm y↔Orb sg x y)) (hV:∀ x,x < n→nm x < V) (hr:r < n):∀ j,WOk n m V sg nm r (wrun sg nm m V r j)
 | 0=>.start hs hn hnm hV hr
 | j+1=>(wok hs hn hnm hV hr j).next hs hn hnm hV hr
end
section
variable {n m V:Nat} {sg nm:Nat→Nat} {r:Nat}
theorem wkeep (hs:PF n sg) (hn:n=2*m) (hnm:∀ x y,x < n→y < n→(nm x=nm y↔Orb sg x y)) (hV:∀ x,x < n→nm x < V) (hr:r < n) (e:Nat) (he:e < m) (j:Nat):∀ i,(wrun sg nm m V r j).K.getD e 0≠-1→(wrun sg nm m V r (j+i)).K.getD e 0=(wrun sg nm m V r j).K.getD e 0
 | 0,_=>rfl
 | i+1,h=>by
   have ih:=wkeep hs hn hnm hV hr e he j i h
   have hw:=wok hs hn hnm hV hr (j+i)
   rw [← ih] at h ⊢
   show ((wrun sg nm m V r (j+i)).next sg nm).K.getD e 0=_
   generalize wrun sg nm m V r (j+i)=s at *
   have hse:s.d / 2 < s.K.length:=by rw [hw.kl];have:=hw.lt;omega
   unfold WS.next
   rcases s.kinds (nm:=nm) with ⟨k,a⟩ | ⟨k,a⟩ | ⟨k,a,c,q⟩ | ⟨k,a,c,q⟩
   ·rw [k];rfl
   ·rw [k];rfl
   ·rw [k]
    show (wK1 s.K s.d 2).getD e 0=_
    unfold wK1
    rw [if_pos (by omega),getI_set _ _ _ _ hse]
    split
    ·next x=>subst x;rcases hw.ks _ he with y | y | y <;> omega
    ·rfl
   ·rw [k]
    show (wK1 s.K s.d 0).getD e 0=_
    unfold wK1
    rw [if_pos (by omega),getI_set _ _ _ _ hse]
    split
    ·next x=>subst x;rcases hw.ks _ he with y | y | y <;> omega
    ·rfl
theorem wkind (hs:PF n sg) (hn:n=2*m) (hnm:∀ x y,x < n→y < n→(nm x=nm y↔Orb sg x y)) (hV:∀ x,x < n→nm x < V) (hr:r < n) {i j:Nat} (hij:i < j) :
  (wrun sg nm m V r j).K.getD ((wrun sg nm m V r i).d / 2) 0=if (wrun sg nm m V r i).k nm < 2 then 0 else 2:=by
 have hw:=wok hs hn hnm hV hr i
 have he:(wrun sg nm m V r i).d / 2 < m:=by have:=hw.lt;omega
 have h1:(wrun sg nm m V r (i+1)).K.getD ((wrun sg nm m V r i).d / 2) 0=if (wrun sg nm m V r i).k nm < 2 then 0 else 2:=by
  show ((wrun sg nm m V r i).next sg nm).K.getD _ 0=_
  generalize wrun sg nm m V r i=s at *
  have hse:s.d / 2 < s.K.length:=by rw [hw.kl];exact he
  unfold WS.next
  rcases s.kinds (nm:=nm) with ⟨k,a⟩ | ⟨k,a⟩ | ⟨k,a,c,q⟩ | ⟨k,a,c,q⟩
  ·rw [k];exact a
  ·rw [k];exact a
  ·rw [k]
   show (wK1 s.K s.d 2).getD _ 0=_
   unfold wK1
   rw [if_pos (by omega),getI_set _ _ _ _ hse,if_pos rfl];rfl
  ·rw [k]
   show (wK1 s.K s.d 0).getD _ 0=_
   unfold wK1
   rw [if_pos (by omega),getI_set _ _ _ _ hse,if_pos rfl];rfl
 have h2:=wkeep hs hn hnm hV hr _ he (i+1) (j - (i+1)) (by rw [h1];split <;> omega)
 rw [show i+1+(j - (i+1))=j by omega] at h2
 rw [h2,h1]
theorem wnext (hs:PF n sg) (hn:n=2*m) (hnm:∀ x y,x < n→y < n→(nm x=nm y↔Orb sg x y)) (hV:∀ x,x < n→nm x < V) (hr:r < n) {i j:Nat} (hij:i < j) :
  (wrun sg nm m V r (i+1)).d=fK sg (wrun sg nm m V r j).K (wrun sg nm m V r i).d:=by
 have h:=wkind hs hn hnm hV hr hij
 unfold fK
 rw [h]
 show wNx sg (wrun sg nm m V r i).d ((wrun sg nm m V r i).k nm)=_
 unfold wNx
 split
 ·rw [if_pos rfl]
 ·rw [if_neg (by omega)]
theorem wback (hs:PF n sg) (hn:n=2*m) (hnm:∀ x y,x < n→y < n→(nm x=nm y↔Orb sg x y)) (hV:∀ x,x < n→nm x < V) (hr:r < n):∀ i j,i < j→(wrun sg nm m V r i).d=(wrun sg nm m V r j).d→(wrun sg nm m V r (j - i)).d=r
 | 0,j,_,e=>e.symm
 | i+1,j,h,e=>by
   have hfp:=fK_pf hs hn (wrun sg nm m V r j).K
   have e1:=wnext hs hn hnm hV hr (show i < j by omega)
   have e2:=wnext hs hn hnm hV hr (i:=j - 1) (j:=j) (by omega)
   rw [show j - 1+1=j by omega] at e2
   rw [e1,e2] at e
   have:=hfp.inj _ _ (wok hs hn hnm hV hr i).lt (wok hs hn hnm hV hr (j - 1)).lt e
   have:=wback hs hn hnm hV hr i (j - 1) (by omega) this
   rwa [show j - 1 - i=j - (i+1) by omega] at this
theorem wends (hs:PF n sg) (hn:n=2*m) (hnm:∀ x y,x < n→y < n→(nm x=nm y↔Orb sg x y)) (hV:∀ x,x < n→nm x < V) (hr:r < n):∃ N,1≤N∧N≤n∧(wrun sg nm m V r N).d=r∧∀ j,1≤j→j < N→(wrun sg nm m V r j).d≠r:=by
 have:∃ i j,i < j∧j≤n∧(wrun sg nm m V r i).d=(wrun sg nm m V r j).d:=Classical.byContradiction fun hx=>by
  have hinj:∀ a b,a < n+1→b < n+1→(wrun sg nm m V r a).d=(wrun sg nm m V r b).d→a=b:=fun a b ha hb e=>by
   rcases Nat.lt_trichotomy a b with x | x | x
   ·exact absurd ⟨a,b,x,by omega,e⟩ hx
   ·exact x
   ·exact absurd ⟨b,a,x,by omega,e.symm⟩ hx
  obtain ⟨k,hk,e⟩:=inj_surj (n+1) (fun k=>(wrun sg nm m V r k).d) (fun k _=>by have:=(wok hs hn hnm hV hr k).lt;show (wrun sg nm m V r k).d < n+1;omega) hinj n (by omega)
  have:=(wok hs hn hnm hV hr k).lt
  have e':(wrun sg nm m V r k).d=n:=e
  omega
 obtain ⟨i,j,hij,hjn,e⟩:=this
 have hb:=wback hs hn hnm hV hr i j hij e
 obtain ⟨N,hN,hp,hl⟩:=least_k (p:=fun k=>1≤k∧(wrun sg nm m V r k).d=r) (j - i) ⟨by omega,hb⟩
 exact ⟨N,hp.1,by omega,hp.2,fun k k1 k2 k3=>hl k k2 ⟨k1,k3⟩⟩
open Classical in
noncomputable def wN (sg nm:Nat→Nat) (m V r:Nat):Nat:=if h:∃ N,1≤N∧(wrun sg nm m V r N).d=r∧∀ j,1≤j→j < N→(wrun sg nm m V r j).d≠r then h.choose else 0
theorem wN_is (hs:PF n sg) (hn:n=2*m) (hnm:∀ x y,x < n→y < n→(nm x=nm y↔Orb sg x y)) (hV:∀ x,x < n→nm x < V) (hr:r < n) :
  1≤wN sg nm m V r∧wN sg nm m V r≤n∧(wrun sg nm m V r (wN sg nm m V r)).d=r∧∀ j,1≤j→j < wN sg nm m V r→(wrun sg nm m V r j).d≠r:=by
 obtain ⟨N,n1,n2,n3,n4⟩:=wends hs hn hnm hV hr
 have hx:∃ N,1≤N∧(wrun sg nm m V r N).d=r∧∀ j,1≤j→j < N→(wrun sg nm m V r j).d≠r:=⟨N,n1,n3,n4⟩
 have e:wN sg nm m V r=hx.choose:=by unfold wN;rw [dif_pos hx]
 obtain ⟨c1,c2,c3⟩:=hx.choose_spec
 rw [← e] at c1 c2 c3
 refine ⟨c1,?_,c2,c3⟩
 rcases Nat.lt_or_ge N (wN sg nm m V r) with x | x
 ·exact absurd n3 (c3 N n1 x)
 ·omega
theorem wonce (hs:PF n sg) (hn:n=2*m) (hnm:∀ x y,x < n→y < n→(nm x=nm y↔Orb sg x y)) (hV:∀ x,x < n→nm x < V) (hr:r < n) {i j:Nat} (hi:i < wN sg nm m V r) (hj:j < wN sg nm m V r) (e:(wrun sg nm m V r i).d=(wrun sg nm m V r j).d):i=j:=by
 obtain ⟨_,_,_,n4⟩:=wN_is hs hn hnm hV hr
 rcases Nat.lt_trichotomy i j with x | x | x
 ·exact absurd (wback hs hn hnm hV hr i j x e) (n4 _ (by omega) (by omega))
 ·exact x
 ·exact absurd (wback hs hn hnm hV hr j i x e.symm) (n4 _ (by omega) (by omega))
theorem worb (hs:PF n sg) (hn:n=2*m) (hnm:∀ x y,x < n→y < n→(nm x=nm y↔Orb sg x y)) (hV:∀ x,x < n→nm x < V) (hr:r < n) (N:Nat):∀ j,j≤N→itf (fK sg (wrun sg nm m V r N).K) j r=(wrun sg nm m V r j).d
 | 0,_=>rfl
 | j+1,h=>by
   rw [wnext hs hn hnm hV hr (show j < N by omega)]
   show fK _ _ (itf _ j r)=_
   rw [worb hs hn hnm hV hr N j (by omega)]
theorem wpart (hs:PF n sg) (hn:n=2*m) (hnm:∀ x y,x < n→y < n→(nm x=nm y↔Orb sg x y)) (hV:∀ x,x < n→nm x < V) (hr:r < n) {x:Nat} (hx:x < n):gk sg m r x↔∃ j,j < wN sg nm m V r∧(wrun sg nm m V r j).d=x:=by
 obtain ⟨n1,n2,n3,n4⟩:=wN_is hs hn hnm hV hr
 have hw:=wok hs hn hnm hV hr (wN sg nm m V r)
 have ho:∀ x,x < n→(Orb (fK sg (wrun sg nm m V r (wN sg nm m V r)).K) r x↔∃ j,j < wN sg nm m V r∧(wrun sg nm m V r j).d=x):=fun x hx=>by
  constructor
  ·rintro ⟨k,e⟩
   have hb:itf (fK sg (wrun sg nm m V r (wN sg nm m V r)).K) (wN sg nm m V r) r=r:=by rw [worb hs hn hnm hV hr _ _ (Nat.le_refl _)];exact n3
   have hmod:itf (fK sg (wrun sg nm m V r (wN sg nm m V r)).K) (k%wN sg nm m V r) r=x:=by
    have h1:=itf_mul hb (k / wN sg nm m V r)
    rw [← Nat.mod_add_div k (wN sg nm m V r),itf_add,Nat.mul_comm,h1] at e
    exact e
   have hlt:k%wN sg nm m V r < wN sg nm m V r:=Nat.mod_lt _ (by omega)
   exact ⟨_,hlt,by rw [← worb hs hn hnm hV hr _ _ (Nat.le_of_lt hlt)];exact hmod⟩
  ·rintro ⟨j,hj,e⟩
   exact ⟨j,by rw [worb hs hn hnm hV hr _ _ (Nat.le_of_lt hj)];exact e⟩
 rw [← ho x hx,hw.mo x hx]
 have hsS:∀ i,i < n→(wrun sg nm m V r (wN sg nm m V r)).M.getD (nm i) false=true→(wrun sg nm m V r (wN sg nm m V r)).M.getD (nm (sg i)) false=true:=fun i hi c=>by rw [nm_it hs hnm hi];exact c
 have hsm:∀ i,i < n→(wrun sg nm m V r (wN sg nm m V r)).M.getD (nm i) false=true→(wrun sg nm m V r (wN sg nm m V r)).M.getD (nm (mt i)) false=true:=fun i hi c=>by
  obtain ⟨j,hj,e⟩:=(ho i hi).1 ((hw.mo i hi).2 c)
  have hk:=wkind hs hn hnm hV hr hj
  refine hw.me (mt i) (mt_lt hn hi) ?_
  rw [mt_half,← e,hk]
  split <;> omega
 constructor
 ·intro g
  exact (part_closed hs hn (S:=fun i=>(wrun sg nm m V r (wN sg nm m V r)).M.getD (nm i) false=true) hsS hsm r x hr hx g).1 ((hw.mo r hr).1 ⟨0,rfl⟩)
 ·intro c
  obtain ⟨j,hj,e⟩:=(ho x hx).1 ((hw.mo x hx).2 c)
  have hE:=gk_eqv hs hn m (Nat.le_refl _)
  have key:∀ j,gk sg m r (wrun sg nm m V r j).d:=fun j=>by
   induction j with
   | zero=>exact hE.refl r hr
   | succ j ih =>
     have hl:=(wok hs hn hnm hV hr j).lt
     have hm:=mt_lt hn hl
     show gk sg m r (wNx sg _ _)
     unfold wNx
     split
     ·exact hE.trans _ _ _ hr hm (hs.lt _ hm) (hE.trans _ _ _ hr hl hm ih (gk_mt hs hn _ hl)) (gk_sig hs _ m)
     ·exact hE.trans _ _ _ hr hl (hs.lt _ hl) ih (gk_sig hs _ m)
  rw [← e];exact key j
end
end Go.Proofs.YtdinmjciippchaaGreat
