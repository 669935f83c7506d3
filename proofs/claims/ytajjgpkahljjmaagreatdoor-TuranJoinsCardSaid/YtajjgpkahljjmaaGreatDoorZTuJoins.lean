/- TuranJoins: two right words, one behind the other, are right; a right word within a pair is right. -/
import Derived.Test.YtajjgpkahljjmaaGreatDoorZg35
import Derived.Test.YtajjgpkahljjmaaGreatDoorZg24
import Derived.Test.YtajjgpkahljjmaaGreatDoorZUApartM
import Derived.Test.YtajjgpkahljjmaaGreatDoorZg19
import Derived.Test.YtajjgpkahljjmaaGreatDoorZg1
open Go.RowKit
set_option linter.unusedVariables false
set_option linter.unusedSimpArgs false
namespace Go.Proofs.YtajjgpkahljjmaaGreatDoor
set_option maxRecDepth 20000
theorem ofw_p (A:Option Addr) (n c:Nat) (ks:List Nat) (w:World) (hr:Rd w w.heap.size A n (I64 (ofNB ks))) (hk:Kds ks) (hb:∀ i,inBlk A i→∃ cs,Blk w i 3 cs) (hn:n≤100000) :
  Calls Tryz.prog 26 #[.slice A n c] w fun e w'=>∃ g,e=.returned (.pointer (some ⟨g,0,none⟩))∧WordAt w' w.heap.size g ks∧Below w.heap.size w w':=by
 have MN:=Lib.hid (mnew_p w)
 have AD:Hid (∀ (g:Nat) (w1:World),WordAt w1 w.heap.size g []→Below w.heap.size w w1→Calls Tryz.prog 70 #[.pointer (some ⟨g,0,none⟩),.slice A n c] w1 fun e w'=>e=.returned (.int .i64 0)∧WordAt w' w.heap.size g ks∧Below w.heap.size w1 w'):=fun g w1 hw1 b1=>by
  have h1:=madd_p w.heap.size g [] A n c (ofNB ks) w1 (hw1.sep (fun i hi=>by obtain ⟨cs,h⟩:=hb i hi;exact ⟨cs,h.below b1⟩)) ((hr.below b1).up b1.size) (fun i hi=>by obtain ⟨cs,h⟩:=hb i hi;exact Nat.lt_of_lt_of_le h.lt b1.size) (by simp;omega)
  rw [if_pos (kd_of hk),if_pos (kd_of hk),toN_of] at h1
  exact h1
 clear hr hb
 go_enter Tryz.func26,Tryz.ntmps26
 go_wp2_with fail
 refine MN.out.mono ?_
 rintro e w1 ⟨g,rfl,hw1,b1⟩
 have A1:=Lib.hid (AD.out g w1 hw1 b1)
 have B1:=Lib.hid b1
 clear hw1 b1 MN AD
 go_wp2_with fail
 refine A1.out.mono ?_
 rintro e w2 ⟨rfl,hw2,b2⟩
 have W2:=Lib.hid hw2
 have B2:=Lib.hid (B1.out.trans b2)
 clear hw2 b2 A1 B1
 go_wp2_with fail
 go_ret
 exact ⟨g,rfl,W2.out,B2.out⟩
theorem jfaces_p (g:Nat) (l b:List Nat) (root lone:Int) (F:Nat) (w:World) (h:MapAt w g l b root lone) (hF:((sizes (phiL l)).length:Int)+lone=(F:Int)) (hb:F≤1000000) :
  Calls Tryz.prog 42 #[.pointer (some ⟨g,0,none⟩)] w fun e w'=>e=.returned (.int .i64 (F:Int))∧Below w.heap.size w w':=by
 have BP:=Lib.hid (borders_p g l b root lone w h)
 have LP:Hid (∀ W,Below w.heap.size w W→Calls Tryz.prog 34 #[.pointer (some ⟨g,0,none⟩)] W fun e w'=>e=.returned (.int .i64 lone)∧W=w'):=fun W z=>lone_p g l b root lone W (h.below z)
 obtain ⟨s,hs⟩:∃ s,s=(sizes (phiL l)).length:=⟨_,rfl⟩
 rw [← hs] at BP hF
 have wF:IntKind.i64.wrap (F:Int)=(F:Int):=by simp [IntKind.wrap,IntKind.signed,IntKind.bits];omega
 clear h hs
 go_enter Tryz.func42,Tryz.ntmps42
 go_wp2_with fail
 refine BP.out.mono ?_
 rintro e w1 ⟨rfl,b1⟩
 have B1:=Lib.hid b1
 have LP1:=Lib.hid (LP.out w1 b1)
 clear b1 LP
 go_wp2_with fail
 refine LP1.out.mono ?_
 rintro e w1 ⟨rfl,rfl⟩
 go_wp2_with fail
 go_ret
 exact ⟨by first | rfl | simp [hF,wF],B1.out⟩
theorem app_row (base:Nat) (w:World) (x y:List Nat) (A:Option Addr) (n c:Nat) (hx:x.length=n) (own:w.ownsRow base 3 1 (.slice A n c) n (I64 (ofN x))) (B:Nat) (A2:Option Addr) (m c2:Nat) (hy:y.length=m) (hr:Rd w B A2 m (I64 (ofN y))) (hn:n+m≤100000) (hbase:base≤w.heap.size) :
  ∃ A' c' w',(Builtin.append_ #[25,25] 25 #[.slice A n c,.slice A2 m c2]).run Tryz.prog w=.ok (.slice A' (n+m) c') w'∧w'.ownsRow base 3 1 (.slice A' (n+m) c') (n+m) (I64 (ofN (x++y)))∧Below base w w':=by
 obtain ⟨i0,hi0,hz0,hz1,hz2⟩:=info_parts info_int
 have one:∀ u∈I64 (ofN y),u.oneCell'=true:=fun u hu=>by
  unfold I64 at hu
  obtain ⟨z,_,rfl⟩:=List.mem_map.1 hu
  rfl
 obtain ⟨v',w',hrun,ho,hg,_⟩:=run_append_rd (P:=Tryz.prog) (w:=w) base 25 25 3 i0 (.int .i64 0) 8 Tryz.underlying25 hi0 hz0 hz1 hz2 rfl (.slice A n c) n (I64 (ofN x)) own B A2 m c2 (I64 (ofN y)) hr one (by simp [maxLen];omega) (by omega) hbase
 have e:I64 (ofN x)++I64 (ofN y)=I64 (ofN (x++y)):=by simp [I64,ofN]
 rw [e] at ho
 obtain ⟨A',c',rfl,_,_⟩:=own_form ho
 exact ⟨A',c',w',hrun,ho,Below.appended own hg hbase⟩
theorem own_int {w:World} {base n c:Nat} {A:Option Addr} {xs:List Value} (h:w.ownsRow base 3 1 (.slice A n c) n xs) (i:Nat) (hi:inBlk A i):∃ cs,Blk w i 3 cs:=by
 obtain ⟨a,rfl,rfl⟩:=hi
 rcases h.2 with ⟨h1,_⟩ | ⟨g,cap,cur,h1,_⟩
 ·simp at h1
 ·simp only [Value.slice.injEq,Option.some.injEq] at h1
  exact own_blk h (by rw [h1.1];rfl)
theorem planeEnc {k:Nat} {W W2:World} {e:Ending} (h:XIs (KPl k) W e W2) (hk:k≤100):∃ v ks tw,e=.returned v∧Hid (Wd ks tw∧RightW ks tw∧ks.length=2*k)∧Below W.heap.size W W2 ∧
  Hid (∀ W',Below W2.heap.size W2 W'→Calls Tryz.prog 15 #[v] W' fun e w'=>∃ A c,e=.returned (.tuple #[.slice A (2*k) c,.int .i64 0])∧Hid (w'.ownsRow W'.heap.size 3 1 (.slice A (2*k) c) (2*k) (I64 (ofN ks)))∧Below W'.heap.size W' w'):=by
 obtain ⟨v,l,b,root,lone,rfl,⟨hi,A,cA,_,rfl,hlc,hcA,hrA⟩,hl,he,hroot,hlone,hkp,b2⟩:=h
 have hE:=kpl_err hkp hi
 have hlen:l.length=2*k:=hkp.1
 obtain ⟨tw,hW,hR⟩:=word_right hi he hroot hE
 refine ⟨_,wordL l root,tw,rfl,⟨hW,hR,by rw [wordL_len,hlen]⟩,b2,fun W' z=>?_⟩
 refine (renc_p A cA l b root lone 0 W' (hrA.more z) hi he (by omega) (by omega) hroot hE).mono ?_
 rintro e w' (⟨q,_⟩ | ⟨_,A,c,rfl,_,_,ho,hb⟩)
 ·exact absurd rfl q
 ·rw [hlen] at ho ⊢
  exact ⟨A,c,rfl,ho,hb⟩
def MapN (W:World) (g E V F:Nat):Prop:=∀ W',Below W.heap.size W W' →
 Calls Tryz.prog 21 #[.pointer (some ⟨g,0,none⟩)] W' (fun e w'=>e=.returned (.int .i64 (E:Int))∧Below W'.heap.size W' w') ∧
 Calls Tryz.prog 44 #[.pointer (some ⟨g,0,none⟩)] W' (fun e w'=>e=.returned (.int .i64 (V:Int))∧Below W'.heap.size W' w') ∧
 Calls Tryz.prog 42 #[.pointer (some ⟨g,0,none⟩)] W' (fun e w'=>e=.returned (.int .i64 (F:Int))∧Below W'.heap.size W' w')
theorem MapN.below {W W2:World} {g E V F:Nat} (h:MapN W g E V F) (z:Below W.heap.size W W2):MapN W2 g E V F:=fun W' z'=>h W' (z.trans (z'.mono z.size))
theorem decN {w w':World} {e:Ending} {ks:List Nat} {tw:Nat→Nat} (h:DcPost w ks e w') (W:Wd ks tw) (R:RightW ks tw) (hn:ks.length≤1000):∃ g,e=.returned (.tuple #[.pointer (some ⟨g,0,none⟩),.int .i64 0])∧Below w.heap.size w w'∧MapN w' g (ks.length / 2) (cntK 1 ks+1) (cntK 3 ks+1) ∧
  ∃ l b,TurnW ks tw l∧Inv l b∧MapAt w' g l b (rootW ks.length) (loneW ks.length):=by
 rcases h with ⟨tw',l,b,W',_,T,hi,g,rfl,hm,hb,_⟩ | ⟨E,q,hE,_⟩
 ·obtain ⟨c1,c2⟩:=T.counts W' hi
  have T':TurnW ks tw l:=⟨T.1,fun i hi=>by
   have:=T.2 i hi
   have n0:0 < ks.length:=by omega
   have nx:nxS 0 ks tw i=nxS 0 ks tw' i:=by unfold nxS;rw [W.uniq W' hi]
   rw [nx,W.nm W' hi,W.nm W' (nx_lt n0 i)];exact this⟩
  refine ⟨g,rfl,hb,fun W1 z=>⟨?_,?_,?_⟩,l,b,T',hi,hm⟩
  ·have:=edges_p g l b _ _ W1 (hm.below z)
   rwa [T.1] at this
  ·have:=vertices_p g l b _ _ W1 (hm.below z)
   rwa [c1] at this
  ·exact jfaces_p g l b _ _ (cntK 3 ks+1) W1 (hm.below z) c2 (by have:=cntK_le 3 ks;omega)
 ·exact absurd (hE.ok W R) q
theorem in_deg {a:List Nat} {ta:Nat→Nat} {l b:List Nat} (A:Wd a ta) (T:TurnW ([0]++a++[1]) (twI a.length ta) l) (hi:Inv l b):degOf l (loneW ([0]++a++[1]).length) (nameOf l 0:Nat)=1:=by
 have ln:([0]++a++[1]).length=a.length+2:=by simp
 have W:=wd_in A
 have lw:loneW ([0]++a++[1]).length=0:=by unfold loneW;rw [if_neg (by omega)]
 have hl:=T.1
 rw [lw,deg_num hi 0 (by omega) (by omega)]
 have s0:sgL l 0=0:=by
  have z:=nm_zero W.P (by omega)
  have:=T.2 0 (by omega)
  rw [z] at this
  rw [this]
  have nx:nxS 0 ([0]++a++[1]) (twI a.length ta) 0=0:=by
   unfold nxS
   have z0:(([0]++a++[1]):List Nat).getD 0 0=0:=rfl
   rw [z0,if_pos (by decide),show twI a.length ta 0=a.length+1 from rfl,ln,Nat.mod_self]
  rw [nx,z]
 have orb:∀ x,Orb (sgL l) 0 x↔x=0:=fun x=>by
  constructor
  ·rintro ⟨k,rfl⟩
   induction k with
   | zero=>rfl
   | succ k ih=>show sgL l _=0;rw [ih,s0]
  ·rintro rfl;exact ⟨0,rfl⟩
 have:num (fun i=>Orb (sgL l) 0 i) l.length=1:=by
  obtain ⟨m,hm⟩:∃ m,l.length=m+1:=⟨a.length+1,by omega⟩
  rw [hm]
  have key:∀ m,num (fun i=>Orb (sgL l) 0 i) (m+1)=1:=fun m=>by
   induction m with
   | zero=>rw [(num_next _ 0).1 ((orb 0).2 rfl)];rfl
   | succ m ih=>rw [(num_next _ (m+1)).2 (fun q=>by have:=(orb _).1 q;omega),ih]
  exact key m
 rw [this];rfl
set_option maxHeartbeats 16000000 in
theorem turanJoins_walk (A0 B0:Option Addr) (n m c d na nb:Nat) (by_ to_:List Int) (w:World) (hT:MTabs w) (h0:Rd w w.heap.size A0 na (Z8 by_)) (hb0:∀ x∈by_,0≤x∧x < 256) (hac:na≤c) (hcm:c≤maxLen) (h1:Rd w w.heap.size B0 nb (Z8 to_)) (hb1:∀ x∈to_,0≤x∧x < 256) (hbd:nb≤d) (hdm:d≤maxLen) (hn:n < 65536) (hm:m < 65536) :
  Calls Tryz.prog 8 #[.int .u16 (n:Int),.int .u16 (m:Int),.slice A0 na c,.slice B0 nb d] w fun e w'=>e=.returned (.bool true)∧Below w.heap.size w w':=by
 unfold maxLen at hcm hdm
 have AW:=Lib.hid (tawake_p w hT)
 have HT:=Lib.hid hT
 have H0:=Lib.hid h0
 have HB0:=Lib.hid hb0
 have H1:=Lib.hid h1
 have HB1:=Lib.hid hb1
 obtain ⟨k,hk⟩:∃ k,k=n%25:=⟨_,rfl⟩
 have hk4:k < 25:=by omega
 have hk1:(n:Int)%25=(k:Int):=by omega
 have hk2:(n:Int).tmod 25=(k:Int):=by rw [Int.tmod_eq_emod_of_nonneg (by omega)];exact hk1
 have wk:IntKind.u16.wrap (k:Int)=(k:Int):=by simp [IntKind.wrap,IntKind.signed,IntKind.bits];omega
 have wk2:IntKind.i64.wrap (k:Int)=(k:Int):=by simp [IntKind.wrap,IntKind.signed,IntKind.bits];omega
 obtain ⟨j,hj⟩:∃ k,k=m%25:=⟨_,rfl⟩
 have hj4:j < 25:=by omega
 have hj1:(m:Int)%25=(j:Int):=by omega
 have hj2:(m:Int).tmod 25=(j:Int):=by rw [Int.tmod_eq_emod_of_nonneg (by omega)];exact hj1
 have wj:IntKind.u16.wrap (j:Int)=(j:Int):=by simp [IntKind.wrap,IntKind.signed,IntKind.bits];omega
 have wj2:IntKind.i64.wrap (j:Int)=(j:Int):=by simp [IntKind.wrap,IntKind.signed,IntKind.bits];omega
 clear hk hj hT h0 hb0 h1 hb1
 go_enter Tryz.func8,Tryz.ntmps8
 go_wp2_with fail
 refine AW.out.mono ?_
 rintro e w1 ⟨rfl,b1⟩
 have Z:=Lib.hid b1
 have PL:=Lib.hid (rplane_x A0 na c w.heap.size by_ k 0 w1 (H0.out.below b1) b1.size HB0.out (by omega) (by omega) (by omega))
 clear b1 AW
 go_wp2_with fail
 refine PL.out.mono ?_
 rintro e w2 hx
 obtain ⟨v,a,ta,rfl,HA,b2,RE⟩:=planeEnc hx (by omega)
 have RE2:=Lib.hid (RE.out w2 (Below.refl _ _))
 have Z2:=Lib.hid (Z.out.trans (b2.mono Z.out.size))
 obtain ⟨n1,hn1⟩:∃ n1,n1=2*k:=⟨_,rfl⟩
 rw [← hn1] at RE2 HA
 have hn1b:n1≤50:=by omega
 clear hx b2 RE Z PL hk1 hk2 wk wk2 hn1
 go_wp2_with fail
 refine RE2.out.mono ?_
 rintro e w3 ⟨A3,c3,rfl,HO3,b3⟩
 have Z3:=Lib.hid (Z2.out.trans (b3.mono Z2.out.size))
 have PL:=Lib.hid (rplane_x B0 nb d w.heap.size to_ j 0 w3 (H1.out.below Z3.out) Z3.out.size HB1.out (by omega) (by omega) (by omega))
 clear b3 RE2
 go_wp2_with fail
 refine PL.out.mono ?_
 rintro e w4 hx
 obtain ⟨v',b,tb,rfl,HB,b4,RE⟩:=planeEnc hx (by omega)
 have RE4:=Lib.hid (RE.out w4 (Below.refl _ _))
 have Z4:=Lib.hid (Z3.out.trans (b4.mono Z3.out.size))
 have OA4:Hid (w4.ownsRow w2.heap.size 3 1 (.slice A3 n1 c3) n1 (I64 (ofN a))):=own_below HO3.out b4
 obtain ⟨n2,hn2⟩:∃ n2,n2=2*j:=⟨_,rfl⟩
 rw [← hn2] at RE4 HB
 have hn2b:n2≤50:=by omega
 clear hx b4 RE Z3 PL hj1 hj2 wj wj2 hn2 HO3 Z2
 go_wp2_with fail
 refine RE4.out.mono ?_
 rintro e w5 ⟨B5,d5,rfl,HO5,b5⟩
 have Z5:=Lib.hid (Z4.out.trans (b5.mono Z4.out.size))
 have OA5:Hid (w5.ownsRow w2.heap.size 3 1 (.slice A3 n1 c3) n1 (I64 (ofN a))):=own_below OA4.out b5
 obtain ⟨hWA,hRA,hla⟩:=HA.out
 obtain ⟨hWB,hRB,hlb⟩:=HB.out
 have ROWA:Hid (∀ W,Below w5.heap.size w5 W→Rd W W.heap.size A3 n1 (I64 (ofN a))∧∀ i,inBlk A3 i→∃ cs,Blk W i 3 cs):=fun W z=>⟨Rd.ofOwn (own_below OA5.out z),own_int (own_below OA5.out z)⟩
 have ROWB:Hid (∀ W,Below w5.heap.size w5 W→Rd W W.heap.size B5 n2 (I64 (ofN b))∧∀ i,inBlk B5 i→∃ cs,Blk W i 3 cs):=fun W z=>⟨Rd.ofOwn (own_below HO5.out z),own_int (own_below HO5.out z)⟩
 have DEC:Hid (∀ (W:World) (g:Nat) (B:Nat) (ks:List Nat) (tw:Nat→Nat),Below w.heap.size w W→WordAt W B g ks→Wd ks tw→ks.length≤1000→Calls Tryz.prog 16 #[.pointer (some ⟨g,0,none⟩)] W (DcPost W ks)):=fun W g B ks tw z hw hW hl =>
  tdecode_p (some ⟨g,0,none⟩) ks W hW.P.kd (HT.out.below z) (tells_word _ g ks W hw (by omega)) _ rfl (by omega)
 have OFA:=Lib.hid (ofw_p A3 n1 c3 a w5 (ROWA.out w5 (Below.refl _ _)).1 hWA.P.kd (ROWA.out w5 (Below.refl _ _)).2 (by omega))
 clear b5 RE4 Z4 OA4 OA5 HO5 hWA hRA hla hWB hRB hlb
 go_wp2_with fail
 refine OFA.out.mono ?_
 rintro e w6 ⟨g6,rfl,hw6,b6⟩
 have Z6:=Lib.hid (Z5.out.trans (b6.mono Z5.out.size))
 have L6:=Lib.hid b6
 have DC6:=Lib.hid (DEC.out w6 g6 _ a ta Z6.out hw6 HA.out.1 (by have:=HA.out.2.2;omega))
 clear hw6 b6 OFA
 go_wp2_with fail
 refine DC6.out.mono ?_
 rintro e w7 h7
 obtain ⟨gp,rfl,b7,hp,_⟩:=decN h7 HA.out.1 HA.out.2.1 (by have:=HA.out.2.2;omega)
 have Z7:=Lib.hid (Z6.out.trans (b7.mono Z6.out.size))
 have L7:=Lib.hid (L6.out.trans (b7.mono L6.out.size))
 have HP7:=Lib.hid hp
 have OFB:=Lib.hid (ofw_p B5 n2 d5 b w7 (ROWB.out w7 L7.out).1 HB.out.1.P.kd (ROWB.out w7 L7.out).2 (by omega))
 clear h7 b7 hp DC6 Z6 L6
 go_wp2_with fail
 refine OFB.out.mono ?_
 rintro e w8 ⟨g8,rfl,hw8,b8⟩
 have Z8:=Lib.hid (Z7.out.trans (b8.mono Z7.out.size))
 have L8:=Lib.hid (L7.out.trans (b8.mono L7.out.size))
 have HP8:=Lib.hid (HP7.out.below b8)
 have DC8:=Lib.hid (DEC.out w8 g8 _ b tb Z8.out hw8 HB.out.1 (by have:=HB.out.2.2;omega))
 clear hw8 b8 OFB Z7 L7 HP7
 go_wp2_with fail
 refine DC8.out.mono ?_
 rintro e w9 h9
 obtain ⟨gq,rfl,b9,hq,_⟩:=decN h9 HB.out.1 HB.out.2.1 (by have:=HB.out.2.2;omega)
 have Z9:=Lib.hid (Z8.out.trans (b9.mono Z8.out.size))
 have L9:=Lib.hid (L8.out.trans (b9.mono L8.out.size))
 have HP9:=Lib.hid (HP8.out.below b9)
 have HQ9:=Lib.hid hq
 have CL:=Lib.hid (cloneI_any A3 n1 c3 _ (ofN a) w9 (ROWA.out w9 L9.out).1 (by omega))
 clear h9 b9 hq DC8 Z8 L8 HP8
 go_wp2_with fail
 refine CL.out.mono ?_
 rintro e w10 ⟨A10,c10,rfl,hc10,hm10,ho10,b10⟩
 have e10:(ofN a).length=n1:=by rw [ofN_len,HA.out.2.2]
 rw [e10] at ho10 hc10 ⊢
 have L10:=Lib.hid (L9.out.trans (b10.mono L9.out.size))
 obtain ⟨A11,c11,w11,hrun,ho11,b11⟩:=app_row w9.heap.size w10 a b A10 n1 c10 HA.out.2.2 ho10 _ B5 n2 d5 HB.out.2.2 (ROWB.out w10 L10.out).1 (by omega) b10.size
 have b911:Below w9.heap.size w9 w11:=b10.trans b11
 have Z11:=Lib.hid (Z9.out.trans (b911.mono Z9.out.size))
 have L11:=Lib.hid (L9.out.trans (b911.mono L9.out.size))
 have HP11:=Lib.hid (HP9.out.below b911)
 have HQ11:=Lib.hid (HQ9.out.below b911)
 have HWJ:=Lib.hid (And.intro (wd_app HA.out.1 HB.out.1) (right_app HA.out.1 HB.out.1 HA.out.2.1 HB.out.2.1))
 have OFJ:=Lib.hid (ofw_p A11 (n1+n2) c11 (a++b) w11 (Rd.ofOwn ho11) HWJ.out.1.P.kd (own_int ho11) (by omega))
 clear ho10 hc10 hm10 b10 ho11 b11 b911 e10 CL Z9 L9 HP9 HQ9 L10
 go_wp2_with (first
  | (at_builtin;go_must (refine wpList_append_runR rfl _ _ _ rfl _ _ _ _ rfl rfl hrun ?_)))
 clear hrun
 refine OFJ.out.mono ?_
 rintro e w12 ⟨g12,rfl,hw12,b12⟩
 have Z12:=Lib.hid (Z11.out.trans (b12.mono Z11.out.size))
 have L12:=Lib.hid (L11.out.trans (b12.mono L11.out.size))
 have HP12:=Lib.hid (HP11.out.below b12)
 have HQ12:=Lib.hid (HQ11.out.below b12)
 have hlj:(a++b).length=n1+n2:=by rw [List.length_append,HA.out.2.2,HB.out.2.2]
 have DC12:=Lib.hid (DEC.out w12 g12 _ (a++b) _ Z12.out hw12 HWJ.out.1 (by omega))
 have HLJ:=Lib.hid hlj
 clear hw12 b12 OFJ Z11 L11 HP11 HQ11 hlj
 go_wp2_with fail
 refine DC12.out.mono ?_
 rintro e w13 h13
 obtain ⟨gj,rfl,b13,hjm,_⟩:=decN h13 HWJ.out.1 HWJ.out.2 (by have:=HLJ.out;omega)
 have Z13:=Lib.hid (Z12.out.trans (b13.mono Z12.out.size))
 have L13:=Lib.hid (L12.out.trans (b13.mono L12.out.size))
 have HP13:=Lib.hid (HP12.out.below b13)
 have HQ13:=Lib.hid (HQ12.out.below b13)
 have HJ13:=Lib.hid hjm
 clear h13 b13 hjm DC12 Z12 L12 HP12 HQ12
 have al0:=(Below.refl w13.heap.size w13).alloc (Nat.le_refl _) (.cells #[.int .i64 0] 3)
 have o0:(w13.alloc (.cells #[.int .i64 0] 3)).ownsRow w13.heap.size 3 1 (.slice (some ⟨w13.heap.size,0,none⟩) 1 1) 1 (I64 (ofN [0])) :=
  World.ownsRow_lit (base:=w13.heap.size) (e:=3) (size:=1) w13 #[.int .i64 0] 1 (Nat.le_refl _) (by simp [maxLen]) (by simp)
 have L14:=L13.out.trans (al0.mono L13.out.size)
 obtain ⟨A15,c15,w15,hrun15,ho15,b15⟩:=app_row w13.heap.size (w13.alloc (.cells #[.int .i64 0] 3)) [0] a (some ⟨w13.heap.size,0,none⟩) 1 1 rfl o0 _ A3 n1 c3 HA.out.2.2 (ROWA.out _ L14).1 (by omega) al0.size
 have b1315:Below w13.heap.size w13 w15:=al0.trans b15
 have al1:=(Below.refl w15.heap.size w15).alloc (Nat.le_refl _) (.cells #[.int .i64 1] 3)
 have r1:Rd (w15.alloc (.cells #[.int .i64 1] 3)) (w15.heap.size+1) (some ⟨w15.heap.size,0,none⟩) 1 (I64 (ofN [1])):=Rd.new w15 3 #[.int .i64 1] 1 (I64 (ofN [1])) rfl rfl
 obtain ⟨A17,c17,w17,hrun17,ho17,b17⟩:=app_row w13.heap.size (w15.alloc (.cells #[.int .i64 1] 3)) ([0]++a) [1] A15 (1+n1) c15 (by rw [List.length_append,HA.out.2.2];rfl) (own_below ho15 al1) _ (some ⟨w15.heap.size,0,none⟩) 1 1 rfl r1 (by omega) (Nat.le_trans b1315.size al1.size)
 have b1317:Below w13.heap.size w13 w17:=(b1315.trans (al1.mono b1315.size)).trans b17
 have Z17:=Lib.hid (Z13.out.trans (b1317.mono Z13.out.size))
 have HP17:=Lib.hid (HP13.out.below b1317)
 have HQ17:=Lib.hid (HQ13.out.below b1317)
 have HJ17:=Lib.hid (HJ13.out.below b1317)
 have HWI:=Lib.hid (And.intro (wd_in HA.out.1) (right_in HA.out.1 HA.out.2.1))
 obtain ⟨nw,hnw⟩:∃ nw,nw=1+n1+1:=⟨_,rfl⟩
 have OFW:=Lib.hid (ofw_p A17 (1+n1+1) c17 ([0]++a++[1]) w17 (Rd.ofOwn ho17) HWI.out.1.P.kd (own_int ho17) (by omega))
 clear al0 o0 L14 ho15 b15 b1315 al1 r1 ho17 b17 b1317 Z13 L13 HP13 HQ13 HJ13 hnw
 go_wp2_with (first
  | (at_builtin;refine wpList_append_runR rfl _ _ _ rfl _ _ _ _ rfl rfl hrun15 ?_;clear hrun15)
  | (at_builtin;refine wpList_append_runR rfl _ _ _ rfl _ _ _ _ rfl rfl hrun17 ?_;clear hrun17))
 refine OFW.out.mono ?_
 rintro e w18 ⟨g18,rfl,hw18,b18⟩
 have Z18:=Lib.hid (Z17.out.trans (b18.mono Z17.out.size))
 have HP18:=Lib.hid (HP17.out.below b18)
 have HQ18:=Lib.hid (HQ17.out.below b18)
 have HJ18:=Lib.hid (HJ17.out.below b18)
 have hlw:([0]++a++[1]).length=n1+2:=by simp [HA.out.2.2]
 have DC18:=Lib.hid (DEC.out w18 g18 _ ([0]++a++[1]) _ Z18.out hw18 HWI.out.1 (by omega))
 have HLW:=Lib.hid hlw
 clear hw18 b18 OFW Z17 HP17 HQ17 HJ17 hlw
 go_wp2_with fail
 refine DC18.out.mono ?_
 rintro e w19 h19
 obtain ⟨gw,rfl,b19,hwm,l,bb,hTW,hIW,hMW⟩:=decN h19 HWI.out.1 HWI.out.2 (by have:=HLW.out;omega)
 have ZZ:=Lib.hid (Z18.out.trans (b19.mono Z18.out.size))
 have hdg:=in_deg HA.out.1 hTW hIW
 have hl0:0 < l.length:=by rw [hTW.1,HLW.out];omega
 obtain ⟨Ep,hEp⟩:∃ x,x=a.length / 2:=⟨_,rfl⟩
 obtain ⟨Eq,hEq⟩:∃ x,x=b.length / 2:=⟨_,rfl⟩
 obtain ⟨Ej,hEj⟩:∃ x,x=(a++b).length / 2:=⟨_,rfl⟩
 obtain ⟨Ew,hEw⟩:∃ x,x=([0]++a++[1]).length / 2:=⟨_,rfl⟩
 obtain ⟨Vp,hVp⟩:∃ x,x=cntK 1 a+1:=⟨_,rfl⟩
 obtain ⟨Vq,hVq⟩:∃ x,x=cntK 1 b+1:=⟨_,rfl⟩
 obtain ⟨Vj,hVj⟩:∃ x,x=cntK 1 (a++b)+1:=⟨_,rfl⟩
 obtain ⟨Vw,hVw⟩:∃ x,x=cntK 1 ([0]++a++[1])+1:=⟨_,rfl⟩
 obtain ⟨Fp,hFp⟩:∃ x,x=cntK 3 a+1:=⟨_,rfl⟩
 obtain ⟨Fq,hFq⟩:∃ x,x=cntK 3 b+1:=⟨_,rfl⟩
 obtain ⟨Fj,hFj⟩:∃ x,x=cntK 3 (a++b)+1:=⟨_,rfl⟩
 obtain ⟨Fw,hFw⟩:∃ x,x=cntK 3 ([0]++a++[1])+1:=⟨_,rfl⟩
 have MP:=Lib.hid (HP18.out.below b19)
 have MQ:=Lib.hid (HQ18.out.below b19)
 have MJ:=Lib.hid (HJ18.out.below b19)
 have MW:=Lib.hid hwm
 rw [← hEp,← hVp,← hFp] at MP
 rw [← hEq,← hVq,← hFq] at MQ
 rw [← hEj,← hVj,← hFj] at MJ
 rw [← hEw,← hVw,← hFw] at MW
 have evA:=opN_half HA.out.1.P
 have evB:=opN_half HB.out.1.P
 have laA:=HA.out.2.2
 have lbB:=HB.out.2.2
 have ljJ:=HLJ.out
 have lwW:=HLW.out
 have cA1:=cntK_le 1 a
 have cA3:=cntK_le 3 a
 have cB1:=cntK_le 1 b
 have cB3:=cntK_le 3 b
 rw [cntK_app] at hVj hFj
 rw [cntK_app,cntK_app,show cntK 1 [0]=0 from rfl,show cntK 1 [1]=1 from rfl] at hVw
 rw [cntK_app,cntK_app,show cntK 3 [0]=0 from rfl,show cntK 3 [1]=0 from rfl] at hFw
 have fE:(Ep:Int)+(Eq:Int)=(Ej:Int):=by omega
 have fV:(Vp:Int)+(Vq:Int)=(Vj:Int)+1:=by omega
 have fF:(Fp:Int)+(Fq:Int)=(Fj:Int)+1:=by omega
 have fEw:(Ep:Int)+1=(Ew:Int):=by omega
 have fVw:(Vp:Int)+1=(Vw:Int):=by omega
 have fFw:Fp=Fw:=by omega
 have BD:Ej≤200∧Ew≤200∧Vj≤200∧Vw≤200∧Fj≤200:=by omega
 obtain ⟨nm0,hnm0⟩:∃ x,x=nameOf l 0:=⟨_,rfl⟩
 have VX:Hid (∀ W,Below w19.heap.size w19 W→Calls Tryz.prog 46 #[.pointer (some ⟨gw,0,none⟩),.int .i64 0] W fun e w'=>e=.returned (.int .i64 (nm0:Int))∧Below W.heap.size W w'):=fun W z=>by
  have:=vertex_in gw l bb (rootW ([0]++a++[1]).length) (loneW ([0]++a++[1]).length) 0 W (hMW.below z) hl0
  rw [hnm0]
  exact this
 have DX:Hid (∀ W,Below w19.heap.size w19 W→Calls Tryz.prog 45 #[.pointer (some ⟨gw,0,none⟩),.int .i64 (nm0:Int)] W fun e w'=>e=.returned (.int .i64 1)∧Below W.heap.size W w'):=fun W z=>by
  have:=degree_p gw l bb (rootW ([0]++a++[1]).length) (loneW ([0]++a++[1]).length) (nameOf l 0:Nat) W (hMW.below z)
  rw [hdg] at this
  rw [hnm0]
  exact this
 have Y:=Lib.hid (Below.refl w19.heap.size w19)
 subst fFw
 clear hEp hEq hEj hEw hVp hVq hVj hVw hFp hFq hFj hFw evA evB laA lbB ljJ lwW cA1 cA3 cB1 cB3 hTW hIW hMW hdg hl0 hnm0 hwm b19 h19 DC18 HA HB HWJ HWI HLJ HLW HP18 HQ18 HJ18 ROWA ROWB DEC
 obtain ⟨hb1,hb2,hb3,hb4,hb5⟩:=BD
 obtain ⟨sV,hsV⟩:∃ x:Nat,x=Vj+1:=⟨_,rfl⟩
 obtain ⟨sF,hsF⟩:∃ x:Nat,x=Fj+1:=⟨_,rfl⟩
 have gV:(Vp:Int)+(Vq:Int)=(sV:Int):=by rw [fV,hsV];rfl
 have gF:(Fp:Int)+(Fq:Int)=(sF:Int):=by rw [fF,hsF];rfl
 have gV2:(sV:Int) - 1=(Vj:Int):=by rw [hsV];simp
 have gF2:(sF:Int) - 1=(Fj:Int):=by rw [hsF];simp
 have wr:∀ x:Nat,x≤300→IntKind.i64.wrap (x:Int)=(x:Int):=fun x hx=>by simp [IntKind.wrap,IntKind.signed,IntKind.bits];omega
 have wEj:=wr Ej (by omega)
 have wEw:=wr Ew (by omega)
 have wsV:=wr sV (by omega)
 have wsF:=wr sF (by omega)
 have wVj:=wr Vj (by omega)
 have wFj:=wr Fj (by omega)
 have wVw:=wr Vw (by omega)
 clear wr hsV hsF fV fF hb1 hb2 hb3 hb4 hb5
 have C0:=Lib.hid (MJ.out _ Y.out).1
 go_wp2_with fail
 refine C0.out.mono ?_
 rintro e v0 ⟨rfl,bz⟩
 replace Y:=Lib.hid (Y.out.trans (bz.mono Y.out.size))
 clear bz C0
 have C1:=Lib.hid (MP.out _ Y.out).1
 go_wp2_with fail
 refine C1.out.mono ?_
 rintro e v1 ⟨rfl,bz⟩
 replace Y:=Lib.hid (Y.out.trans (bz.mono Y.out.size))
 clear bz C1
 have C2:=Lib.hid (MQ.out _ Y.out).1
 go_wp2_with fail
 refine C2.out.mono ?_
 rintro e v2 ⟨rfl,bz⟩
 replace Y:=Lib.hid (Y.out.trans (bz.mono Y.out.size))
 clear bz C2
 have C3:=Lib.hid (MJ.out _ Y.out).2.1
 go_wp2_with fail
 refine C3.out.mono ?_
 rintro e v3 ⟨rfl,bz⟩
 replace Y:=Lib.hid (Y.out.trans (bz.mono Y.out.size))
 clear bz C3
 have C4:=Lib.hid (MP.out _ Y.out).2.1
 go_wp2_with fail
 refine C4.out.mono ?_
 rintro e v4 ⟨rfl,bz⟩
 replace Y:=Lib.hid (Y.out.trans (bz.mono Y.out.size))
 clear bz C4
 have C5:=Lib.hid (MQ.out _ Y.out).2.1
 go_wp2_with fail
 refine C5.out.mono ?_
 rintro e v5 ⟨rfl,bz⟩
 replace Y:=Lib.hid (Y.out.trans (bz.mono Y.out.size))
 clear bz C5
 have C6:=Lib.hid (MJ.out _ Y.out).2.2
 go_wp2_with fail
 refine C6.out.mono ?_
 rintro e v6 ⟨rfl,bz⟩
 replace Y:=Lib.hid (Y.out.trans (bz.mono Y.out.size))
 clear bz C6
 have C7:=Lib.hid (MP.out _ Y.out).2.2
 go_wp2_with fail
 refine C7.out.mono ?_
 rintro e v7 ⟨rfl,bz⟩
 replace Y:=Lib.hid (Y.out.trans (bz.mono Y.out.size))
 clear bz C7
 have C8:=Lib.hid (MQ.out _ Y.out).2.2
 go_wp2_with fail
 refine C8.out.mono ?_
 rintro e v8 ⟨rfl,bz⟩
 replace Y:=Lib.hid (Y.out.trans (bz.mono Y.out.size))
 clear bz C8
 have C9:=Lib.hid (MW.out _ Y.out).1
 go_wp2_with fail
 refine C9.out.mono ?_
 rintro e v9 ⟨rfl,bz⟩
 replace Y:=Lib.hid (Y.out.trans (bz.mono Y.out.size))
 clear bz C9
 have C10:=Lib.hid (MP.out _ Y.out).1
 go_wp2_with fail
 refine C10.out.mono ?_
 rintro e v10 ⟨rfl,bz⟩
 replace Y:=Lib.hid (Y.out.trans (bz.mono Y.out.size))
 clear bz C10
 have C11:=Lib.hid (MW.out _ Y.out).2.1
 go_wp2_with fail
 refine C11.out.mono ?_
 rintro e v11 ⟨rfl,bz⟩
 replace Y:=Lib.hid (Y.out.trans (bz.mono Y.out.size))
 clear bz C11
 have C12:=Lib.hid (MP.out _ Y.out).2.1
 go_wp2_with fail
 refine C12.out.mono ?_
 rintro e v12 ⟨rfl,bz⟩
 replace Y:=Lib.hid (Y.out.trans (bz.mono Y.out.size))
 clear bz C12
 have C13:=Lib.hid (MW.out _ Y.out).2.2
 go_wp2_with fail
 refine C13.out.mono ?_
 rintro e v13 ⟨rfl,bz⟩
 replace Y:=Lib.hid (Y.out.trans (bz.mono Y.out.size))
 clear bz C13
 have C14:=Lib.hid (MP.out _ Y.out).2.2
 go_wp2_with fail
 refine C14.out.mono ?_
 rintro e v14 ⟨rfl,bz⟩
 replace Y:=Lib.hid (Y.out.trans (bz.mono Y.out.size))
 clear bz C14
 have CV:=Lib.hid (VX.out _ Y.out)
 go_wp2_with fail
 refine CV.out.mono ?_
 rintro e vv ⟨rfl,bz⟩
 replace Y:=Lib.hid (Y.out.trans (bz.mono Y.out.size))
 have CD:=Lib.hid (DX.out _ Y.out)
 clear bz CV
 go_wp2_with fail
 refine CD.out.mono ?_
 rintro e vd ⟨rfl,bz⟩
 replace Y:=Lib.hid (Y.out.trans (bz.mono Y.out.size))
 clear bz CD
 go_wp2_with fail
 go_ret
 exact ⟨rfl,ZZ.out.trans (Y.out.mono ZZ.out.size)⟩
end Go.Proofs.YtajjgpkahljjmaaGreatDoor
