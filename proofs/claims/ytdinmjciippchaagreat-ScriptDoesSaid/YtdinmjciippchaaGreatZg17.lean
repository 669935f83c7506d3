/- The document's without: rows without a number. -/
import Derived.Test.YtdinmjciippchaaGreatZg16
import Derived.Test.YtdinmjciippchaaGreatZg14
import Derived.Test.YtdinmjciippchaaGreatZg7
import Derived.Test.YtdinmjciippchaaGreatZg8
open Go.RowKit
set_option linter.unusedVariables false
set_option linter.unusedSimpArgs false
namespace Go.Proofs.YtdinmjciippchaaGreat
set_option maxRecDepth 100000
theorem DSt.fresh {w0 w:World} {B c:Nat} {A:Option Addr} {ps:List GEl} (h:GRow w B A c ps) (hb:Below B w0 w):DSt w0 w B A c ps none 0 [] :=
 ⟨h,World.ownsRow_nil _ _ _ _,fun j hj k hk=>by simp [Value.ownBlock],hb⟩
theorem DSt.snocV {w0 w:World} {B c cs:Nat} {A As:Option Addr} {ps:List GEl} {st:List Nat} (h:DSt w0 w B A c ps As cs st) (hb:B≤w.heap.size) (hn:ps.length≤1000000) :
  ∃ A1 c1 w2,(Builtin.append_ #[68,68] 68 #[.slice A ps.length c,.slice (some ⟨w.heap.size,0,none⟩) 1 1]).run Tryz.prog (w.alloc (.cells #[.slice As st.length cs] 26))=.ok (.slice A1 (ps.length+1) c1) w2 ∧
   GRow w2 B A1 c1 (ps++[(.slice As st.length cs,st)])∧Below B w0 w2:=by
 obtain ⟨A1,c1,w2,h1,h2,h3,_⟩:=h.g.snocW hb hn h.s h.dj
 exact ⟨A1,c1,w2,h1,h2,h.bel.trans h3⟩
def OutP (w:World) (os:List (List Nat)) (p:Nat) (e:Ending) (w':World):Prop :=
 ∃ A c ps,e=.returned (.slice A p c)∧GRow w' w.heap.size A c ps∧ps.map (·.2)=os∧os.length=p∧Below w.heap.size w w'
theorem flt_snoc (d:Nat) (L:List Nat) (j:Nat) (h:j < L.length):(L.take (j+1)).filter (fun x=>decide (x≠d))=if L.getD j 0≠d then (L.take j).filter (fun x=>decide (x≠d))++[L.getD j 0] else (L.take j).filter (fun x=>decide (x≠d)):=by
 have e:L.take (j+1)=L.take j++[L.getD j 0]:=by rw [List.take_add_one,List.getD_eq_getElem?_getD,List.getElem?_eq_getElem h];rfl
 rw [e,List.filter_append]
 by_cases c:L.getD j 0≠d
 ·rw [if_pos c,List.filter_cons_of_pos (by simpa using c)];rfl
 ·rw [if_neg c,List.filter_cons_of_neg (by simpa using c)];simp
set_option maxHeartbeats 16000000 in
theorem rwithout_p (g p c d:Nat) (os:List (List Nat)) (w:World) (hR:RdRows w g os) (hp:os.length=p) (hpb:p≤40000) (hlb:∀ r,r < p→(os.getD r []).length≤20000) :
  Calls Tryz.prog 64 #[.slice (some ⟨g,0,none⟩) p c,.int .i64 (d:Int)] w (OutP w (os.map fun v=>v.filter fun x=>decide (x≠d)) p):=by
 have HP:=Lib.hid hp
 have HLB:=Lib.hid hlb
 have HRW0:Hid (∀ r,r < p→∃ A c,(∀ W,Below w.heap.size w W→W.cell? ⟨g,r,none⟩=some (.slice A (os.getD r []).length c))∧Rd w w.heap.size A (os.getD r []).length (I64 (ofN (os.getD r [])))):=fun r hr=>by
  obtain ⟨A,c,h1,h2⟩:=hR.2 r (by omega)
  exact ⟨A,c,fun W m=>(m.cell (p:=⟨g,r,none⟩) hR.1).trans h1,h2⟩
 clear hR hp hlb
 go_enter Tryz.func64,Tryz.ntmps64
 go_wp2_with fail
 go_loopw [5,7,8,10,13] (fun o _ _ _ idx wz=>∃ (r c1:Nat) (A1:Option Addr) (ps:List GEl),r≤p∧idx=.int .i64 (r:Int)∧o=.slice A1 r c1∧Hid (ps.length=r∧ps.map (·.2)=(os.take r).map fun v=>v.filter fun x=>decide (x≠d))∧Hid (GRow wz w.heap.size A1 c1 ps)∧Hid (Below w.heap.size w wz)) (fun _ _ _ _ x _=>p - (intOf x).toNat)
 case atStart=>exact ⟨0,0,none,[],by omega,rfl,rfl,⟨rfl,by simp⟩,GRow.nil _ _,Below.refl _ _⟩
 case round =>
  obtain ⟨wz,rfl⟩:∃ wz:World,wz=wr:=⟨_,rfl⟩
  obtain ⟨r,c1,A1,ps,hr,rfl,rfl,HPS,HG,HB⟩:=hrel
  by_cases hrp:r < p
  ·have hrd':decide (r < p)=true:=decide_eq_true hrp
   have hrI:(r:Int) < (p:Int):=by omega
   obtain ⟨Av,cv,hcell,hrd⟩:=HRW0.out r hrp
   have cO:=hcell _ HB.out
   obtain ⟨row,hrow⟩:∃ row,row=os.getD r []:=⟨_,rfl⟩
   have hml:=HLB.out r hrp
   rw [← hrow] at cO hrd hml
   obtain ⟨m,hm⟩:∃ m,m=row.length:=⟨_,rfl⟩
   rw [← hm] at cO hrd hml
   have HRD:=Lib.hid hrd
   have HRO:=Lib.hid (And.intro hrow hm)
   clear hcell hrd hrow hm
   go_wp2_with fail
   go_loopw [8,10,19] (fun s _ jx wq=>∃ (j cs q:Nat) (As:Option Addr) (st:List Nat),j≤m∧jx=.int .i64 (j:Int)∧s=.slice As q cs∧Hid (q=st.length∧q≤j∧st=(row.take j).filter fun x=>decide (x≠d))∧Hid (DSt w wq w.heap.size A1 c1 ps As cs st)) (fun _ _ x _=>m - (intOf x).toNat)
   case atStart=>exact ⟨0,0,0,none,[],by omega,rfl,rfl,⟨rfl,by omega,by simp⟩,DSt.fresh HG.out HB.out⟩
   case round =>
    clear HG HB cO
    obtain ⟨wq,rfl⟩:∃ wq:World,wq=wr:=⟨_,rfl⟩
    obtain ⟨j,cs,q,As,st,hj,rfl,rfl,HS,HD⟩:=hrel
    have hbw:w.heap.size≤wq.heap.size:=HD.out.bel.size
    by_cases hjm:j < m
    ·have hjd:decide (j < m)=true:=decide_eq_true hjm
     have hjI:(j:Int) < (m:Int):=by omega
     obtain ⟨b,o,rfl,hb,hc⟩:=HRD.out.i64 (by omega)
     obtain ⟨x,hx⟩:∃ x,x=row.getD j 0:=⟨_,rfl⟩
     have cX:wq.cell? ⟨b,o+j,none⟩=some (.int .i64 (x:Int)):=by
      rw [hx,← ofN_get];exact (HD.out.bel.cell (p:=⟨b,o+j,none⟩) hb).trans (hc j hjm)
     have wj1:IntKind.i64.wrap ((j:Int)+1)=(j:Int)+1:=by simp [IntKind.wrap,IntKind.signed,IntKind.bits];omega
     have hfs:=flt_snoc d row j (by have:=HRO.out.2;omega)
     rw [← hx] at hfs
     have hqj:=HS.out.2.1
     by_cases hxd:x=d
     ·have xb:((x:Int) == (d:Int))=true:=by rw [beq_iff_eq,hxd]
      have xd:decide (x=d)=true:=decide_eq_true hxd
      rw [if_neg (by simpa using hxd)] at hfs
      have HS2:Hid (q=st.length∧q≤j+1∧st=(row.take (j+1)).filter fun x=>decide (x≠d)):=⟨HS.out.1,by omega,HS.out.2.2.trans hfs.symm⟩
      clear hfs hx hc HS
      go_wp2_with fail
      go_roundw
      case rel=>exact ⟨j+1,cs,q,As,st,by omega,by go_num,rfl,HS2,HD⟩
      case measure=>simp [intOf];omega
     ·have xI:¬ (x:Int)=(d:Int):=by omega
      have xb:((x:Int) == (d:Int))=false:=by rw [beq_eq_false_iff_ne];exact xI
      have xd:decide (x=d)=false:=decide_eq_false hxd
      rw [if_pos hxd] at hfs
      obtain ⟨A5,c5,w5,hrun,hD5⟩:=HD.out.push hbw x (by have:=HS.out.1;omega)
      rw [← HS.out.1] at hrun
      have HS2:Hid (q+1=(st++[x]).length∧q+1≤j+1∧st++[x]=(row.take (j+1)).filter fun x=>decide (x≠d)):=⟨by rw [List.length_append,← HS.out.1];rfl,by omega,by rw [hfs,HS.out.2.2]⟩
      have HD5:=Lib.hid hD5
      clear hfs hx hc HS hD5 HD
      go_wp2_with (first
       | (at_builtin;go_must (refine wpList_append_runR rfl _ _ _ rfl _ _ _ _ rfl rfl hrun ?_)))
      go_roundw
      case rel=>exact ⟨j+1,c5,q+1,A5,_,by omega,by go_num,rfl,HS2,HD5⟩
      case measure=>simp [intOf];omega
    ·obtain rfl:j=m:=by omega
     have hjd:decide (j < j)=false:=by simp
     obtain ⟨A6,c6,w6,hrun,hG6,hB6⟩:=HD.out.snocV hbw (by have:=HPS.out.1;omega)
     rw [HPS.out.1,← HS.out.1] at hrun
     have hfin:st=row.filter fun x=>decide (x≠d):=by rw [HS.out.2.2,HRO.out.2,List.take_length]
     have HPS2:Hid ((ps++[((Value.slice As st.length cs,st):GEl)]).length=r+1∧(ps++[((Value.slice As st.length cs,st):GEl)]).map (·.2)=(os.take (r+1)).map fun v=>v.filter fun x=>decide (x≠d)):=by
      refine ⟨by rw [List.length_append,HPS.out.1];rfl,?_⟩
      have e:os.take (r+1)=os.take r++[os.getD r []]:=by
       rw [List.take_add_one,List.getD_eq_getElem?_getD,List.getElem?_eq_getElem (by have:=HP.out;omega)];rfl
      rw [e,List.map_append,List.map_append,HPS.out.2,← HRO.out.1]
      show _++[st]=_
      rw [hfin];rfl
     have HG6:=Lib.hid hG6
     have HB6:=Lib.hid hB6
     have wr1:IntKind.i64.wrap ((r:Int)+1)=(r:Int)+1:=by simp [IntKind.wrap,IntKind.signed,IntKind.bits];omega
     clear hG6 hB6 HD HS hfin HPS
     go_wp2_with (first
      | (at_builtin;go_must (refine wpList_append_runR rfl _ _ _ rfl _ _ _ _ rfl rfl hrun ?_)))
     go_roundw
     case rel=>exact ⟨r+1,c6,A6,_,by omega,by go_num,rfl,HPS2,HG6,HB6⟩
     case measure=>simp [intOf];omega
  ·obtain rfl:p=r:=by omega
   have hrd':decide (p < p)=false:=by simp
   go_wp2_with fail
   go_ret
   have h2:=HPS.out.2
   rw [show os.take p=os by rw [← HP.out,List.take_length]] at h2
   exact ⟨A1,c1,ps,rfl,HG.out,h2,by rw [List.length_map,HP.out],HB.out⟩
theorem GRow.baseLe {w:World} {base base' c:Nat} {A:Option Addr} {ps:List GEl} (h:GRow w base A c ps) (hb:base'≤base):GRow w base' A c ps :=
 ⟨h.own.base_le' hb,fun j hj=>⟨(h.inn j hj).1,(h.inn j hj).2.base_le' hb⟩,h.dj⟩
set_option maxHeartbeats 16000000 in
theorem rlists_p (A:Option Addr) (c:Nat) (l b:List Nat) (root lone:Int) (w:World) (h:Rd w w.heap.size A l.length (I64 (ofN l))) (hinv:Inv l b) (hn:l.length≤20000) :
  Calls Tryz.prog 62 #[.agg #[.slice A l.length c,.int .i64 root,.int .i64 lone]] w (OutP w ((leads l l.length).map (orb l)) (met l l.length)):=by
 obtain ⟨n,hnl⟩:∃ n,n=l.length:=⟨_,rfl⟩
 have hal:=(Below.refl w.heap.size w).alloc (Nat.le_refl _) (.cells #[.slice A l.length c,.int .i64 root,.int .i64 lone] 28)
 have HX:=Lib.hid (Blk.new w 28 #[.slice A l.length c,.int .i64 root,.int .i64 lone])
 have HZ:=Lib.hid hal
 have HR:=Lib.hid (h.more hal)
 have HI:=Lib.hid hinv
 have HN:=Lib.hid hnl
 rw [← hnl] at HX HZ HR
 have hn2:n≤20000:=by omega
 have HML:Hid (∀ k,k≤n→met l k≤20000):=fun k hk=>by
  have h1:(leads l k).length≤k:=by
   unfold leads;exact Nat.le_trans (List.length_filter_le _ _) (by simp)
  have:met l k=(leads l k).length:=rfl
  omega
 rw [← hnl]
 clear h hal hinv hn hnl
 go_enter Tryz.func62,Tryz.ntmps62
 go_upto_region 1 with fail
 generalize hw1:w.alloc (.cells #[.slice A n c,.int .i64 root,.int .i64 lone] 28)=w1 at *
 clear hw1
 have x0:=HX.out.cell 0
 simp at x0
 have NM:Hid (Calls Tryz.prog 31 #[.slice A n c] w1 (NewI64 w1 (ofN (names l)))):=by
  show Calls _ _ _ _ _
  have:=rnames_p A c w1.heap.size l b w1 (by rw [← HN.out];exact HR.out) HI.out (by rw [← HN.out];omega)
  rw [← HN.out] at this;exact this
 go_wp2_with fail
 refine NM.out.mono ?_
 rintro e w2 ⟨A3,c3,rfl,hc3,hm3,hown3,b2⟩
 have hnl:(ofN (names l)).length=n:=by rw [ofN_len,names_len,HN.out]
 rw [hnl] at hown3 ⊢
 have HX2:=Lib.hid (HX.out.below b2)
 have HR2:=Lib.hid (HR.out.below b2)
 have HZ2:=Lib.hid (HZ.out.trans (b2.mono HZ.out.size))
 have HO:=Lib.hid (Rd.ofOwn hown3)
 have hww:w.heap.size < w2.heap.size:=HX2.out.lt
 have hw12:=b2.size
 clear hown3 b2 NM HX HR HZ x0 hc3 hm3 hnl
 go_wp2_with fail
 go_loopw [3,5,6,12] (fun o _ _ idx wz=>∃ (k q c1:Nat) (A1:Option Addr) (ps:List GEl),k≤n∧idx=.int .i64 (k:Int)∧o=.slice A1 q c1∧Hid (q=met l k∧ps.length=q∧ps.map (·.2)=(leads l k).map (orb l))∧Hid (GRow wz w2.heap.size A1 c1 ps)∧Hid (Below w2.heap.size w2 wz)) (fun _ _ _ x _=>n - (intOf x).toNat)
 case atStart=>exact ⟨0,0,0,none,[],by omega,rfl,rfl,⟨(met_zero l).symm,rfl,by simp [leads]⟩,GRow.nil _ _,Below.refl _ _⟩
 case round =>
  obtain ⟨wz,rfl⟩:∃ wz:World,wz=wr:=⟨_,rfl⟩
  obtain ⟨k,q,c1,A1,ps,hk,rfl,rfl,HPS,HG,HB⟩:=hrel
  by_cases hkn:k < n
  ·have hkd:decide (k < n)=true:=decide_eq_true hkn
   have hkI:(k:Int) < (n:Int):=by omega
   have hkl:k < l.length:=by rw [← HN.out];exact hkn
   obtain ⟨b3,o3,rfl,hb3,hc⟩:=HO.out.i64 (by omega)
   obtain ⟨v,hv⟩:∃ v,v=nameOf l k:=⟨_,rfl⟩
   have cN:wz.cell? ⟨b3,o3+k,none⟩=some (.int .i64 (v:Int)):=by
    have:=(HB.out.cell (p:=⟨b3,o3+k,none⟩) hb3).trans (hc k hkn)
    rw [this,ofN_get,names_get _ _ hkl,hv]
   have y0:=(HX2.out.below HB.out).cell 0
   simp at y0
   have wk1:IntKind.i64.wrap ((k:Int)+1)=(k:Int)+1:=by simp [IntKind.wrap,IntKind.signed,IntKind.bits];omega
   have hqm:=HPS.out.1
   by_cases hl:Leads l k
   ·have hvq:v=q:=by rw [hv,hqm];exact name_lead HI.out hkl hl
    have OB:Hid (Calls Tryz.prog 65 #[.slice A n c,.int .i64 (k:Int)] wz (NewI64 wz (ofN (orb l k)))):=by
     show Calls _ _ _ _ _
     have:=rorbit_p A c w1.heap.size l b k wz (by rw [← HN.out];exact HR2.out.below (HB.out.mono (by omega))) HI.out (by rw [← HN.out];omega) hkl
     rw [← HN.out] at this;exact this
    have hm1:=met_lead l k hl
    have HL1:Hid (met l (k+1)=q+1∧leads l (k+1)=leads l k++[k]):=⟨by rw [hm1,hqm],by rw [leads_next,if_pos hl]⟩
    have vb:((v:Int) == (q:Int))=true:=by rw [beq_iff_eq,hvq]
    subst hvq
    clear hv hc hm1 hl vb
    go_wp2_with fail
    refine OB.out.mono ?_
    rintro e w4 ⟨A9,c9,rfl,hc9,hm9,hown9,b4⟩
    obtain ⟨ol,hol⟩:∃ ol,ol=(orb l k).length:=⟨_,rfl⟩
    have G4:=HG.out.below b4
    have hz4:w2.heap.size≤w4.heap.size:=by have:=HB.out.size;have:=b4.size;omega
    rw [ofN_len] at hown9 ⊢
    obtain ⟨A6,c6,w6,hrun,hG6,hB6,_⟩:=G4.snocW hz4 (by have:=HPS.out.2.1;have:=HML.out k hk;omega) (hown9.base_le' (by have:=HB.out.size;omega)) (fun j hj kk hkk e=>by
     have h1:=((HG.out.inn j hj).2.lt kk hkk).2
     have h2:=(hown9.lt kk e).1
     omega)
    rw [HPS.out.2.1,← hol] at hrun
    rw [← hol]
    have HPS2:Hid (v+1=met l (k+1)∧(ps++[((Value.slice A9 (orb l k).length c9,orb l k):GEl)]).length=v+1∧(ps++[((Value.slice A9 (orb l k).length c9,orb l k):GEl)]).map (·.2)=(leads l (k+1)).map (orb l)) :=
     ⟨HL1.out.1.symm,by rw [List.length_append,HPS.out.2.1];rfl,by rw [HL1.out.2,List.map_append,List.map_append,HPS.out.2.2];rfl⟩
    have HG6:=Lib.hid hG6
    have HB6:=Lib.hid ((HB.out.trans (b4.mono HB.out.size)).trans hB6)
    clear hG6 hB6 G4 hown9 b4 hol hqm HPS HG HB hc9 hm9
    go_wp2_with (first
     | (at_builtin;go_must (refine wpList_append_runR rfl _ _ _ rfl _ _ _ _ rfl rfl hrun ?_)))
    go_roundw
    case rel=>exact ⟨k+1,v+1,c6,A6,_,by omega,by go_num,rfl,HPS2,HG6,HB6⟩
    case measure=>simp [intOf];omega
   ·have hvq:¬ v=q:=by rw [hv,hqm];have:=name_not HI.out hkl hl;omega
    have vI:¬ (v:Int)=(q:Int):=by omega
    have vb:((v:Int) == (q:Int))=false:=by rw [beq_eq_false_iff_ne];exact vI
    have vd:decide (v=q)=false:=decide_eq_false hvq
    have HPS2:Hid (q=met l (k+1)∧ps.length=q∧ps.map (·.2)=(leads l (k+1)).map (orb l)):=⟨by rw [met_not l k hl];exact hqm,HPS.out.2.1,by rw [leads_next,if_neg hl,List.append_nil];exact HPS.out.2.2⟩
    clear hv hc hqm HPS hl
    go_wp2_with fail
    go_roundw
    case rel=>exact ⟨k+1,q,c1,A1,ps,by omega,by go_num,rfl,HPS2,HG,HB⟩
    case measure=>simp [intOf];omega
  ·obtain rfl:n=k:=by omega
   have hkd:decide (n < n)=false:=by simp
   have HF:=Lib.hid (HG.out.baseLe (base':=w.heap.size) (by omega))
   have HBF:=Lib.hid (HZ2.out.trans (HB.out.mono (by omega)))
   go_wp2_with fail
   go_ret
   obtain ⟨q1,q2,q3⟩:=HPS.out
   exact ⟨A1,c1,ps,by rw [q1];first | rfl | simp,HF.out,q3,by rw [List.length_map];rfl,HBF.out⟩
def aftL (at_ d:Nat) (v:List Nat):List Nat:=v.flatMap fun x=>if x=at_ then [x,d] else [x]
theorem aft_snoc (at_ d:Nat) (L:List Nat) (j:Nat) (h:j < L.length):aftL at_ d (L.take (j+1))=aftL at_ d (L.take j)++if L.getD j 0=at_ then [L.getD j 0,d] else [L.getD j 0]:=by
 have e:L.take (j+1)=L.take j++[L.getD j 0]:=by rw [List.take_add_one,List.getD_eq_getElem?_getD,List.getElem?_eq_getElem h];rfl
 rw [e]
 unfold aftL
 rw [List.flatMap_append]
 simp
set_option maxHeartbeats 16000000 in
theorem rafter_p (g p c at_ d:Nat) (os:List (List Nat)) (w:World) (hR:RdRows w g os) (hp:os.length=p) (hpb:p≤40000) (hlb:∀ r,r < p→(os.getD r []).length≤20000) :
  Calls Tryz.prog 63 #[.slice (some ⟨g,0,none⟩) p c,.int .i64 (at_:Int),.int .i64 (d:Int)] w (OutP w (os.map (aftL at_ d)) p):=by
 have HP:=Lib.hid hp
 have HLB:=Lib.hid hlb
 have HRW0:Hid (∀ r,r < p→∃ A c,(∀ W,Below w.heap.size w W→W.cell? ⟨g,r,none⟩=some (.slice A (os.getD r []).length c))∧Rd w w.heap.size A (os.getD r []).length (I64 (ofN (os.getD r [])))):=fun r hr=>by
  obtain ⟨A,c,h1,h2⟩:=hR.2 r (by omega)
  exact ⟨A,c,fun W m=>(m.cell (p:=⟨g,r,none⟩) hR.1).trans h1,h2⟩
 clear hR hp hlb
 go_enter Tryz.func63,Tryz.ntmps63
 go_wp2_with fail
 go_loopw [7,9,10,12,15] (fun o _ _ _ idx wz=>∃ (r c1:Nat) (A1:Option Addr) (ps:List GEl),r≤p∧idx=.int .i64 (r:Int)∧o=.slice A1 r c1∧Hid (ps.length=r∧ps.map (·.2)=(os.take r).map (aftL at_ d))∧Hid (GRow wz w.heap.size A1 c1 ps)∧Hid (Below w.heap.size w wz)) (fun _ _ _ _ x _=>p - (intOf x).toNat)
 case atStart=>exact ⟨0,0,none,[],by omega,rfl,rfl,⟨rfl,by simp⟩,GRow.nil _ _,Below.refl _ _⟩
 case round =>
  obtain ⟨wz,rfl⟩:∃ wz:World,wz=wr:=⟨_,rfl⟩
  obtain ⟨r,c1,A1,ps,hr,rfl,rfl,HPS,HG,HB⟩:=hrel
  by_cases hrp:r < p
  ·have hrd':decide (r < p)=true:=decide_eq_true hrp
   have hrI:(r:Int) < (p:Int):=by omega
   obtain ⟨Av,cv,hcell,hrd⟩:=HRW0.out r hrp
   have cO:=hcell _ HB.out
   obtain ⟨row,hrow⟩:∃ row,row=os.getD r []:=⟨_,rfl⟩
   have hml:=HLB.out r hrp
   rw [← hrow] at cO hrd hml
   obtain ⟨m,hm⟩:∃ m,m=row.length:=⟨_,rfl⟩
   rw [← hm] at cO hrd hml
   have HRD:=Lib.hid hrd
   have HRO:=Lib.hid (And.intro hrow hm)
   clear hcell hrd hrow hm
   go_wp2_with fail
   go_loopw [10,12,21] (fun s _ jx wq=>∃ (j cs q:Nat) (As:Option Addr) (st:List Nat),j≤m∧jx=.int .i64 (j:Int)∧s=.slice As q cs∧Hid (q=st.length∧q≤2*j∧st=aftL at_ d (row.take j))∧Hid (DSt w wq w.heap.size A1 c1 ps As cs st)) (fun _ _ x _=>m - (intOf x).toNat)
   case atStart=>exact ⟨0,0,0,none,[],by omega,rfl,rfl,⟨rfl,by omega,by simp [aftL]⟩,DSt.fresh HG.out HB.out⟩
   case round =>
    clear HG HB cO
    obtain ⟨wq,rfl⟩:∃ wq:World,wq=wr:=⟨_,rfl⟩
    obtain ⟨j,cs,q,As,st,hj,rfl,rfl,HS,HD⟩:=hrel
    have hbw:w.heap.size≤wq.heap.size:=HD.out.bel.size
    by_cases hjm:j < m
    ·have hjd:decide (j < m)=true:=decide_eq_true hjm
     have hjI:(j:Int) < (m:Int):=by omega
     obtain ⟨b,o,rfl,hb,hc⟩:=HRD.out.i64 (by omega)
     obtain ⟨x,hx⟩:∃ x,x=row.getD j 0:=⟨_,rfl⟩
     have cX:wq.cell? ⟨b,o+j,none⟩=some (.int .i64 (x:Int)):=by
      rw [hx,← ofN_get];exact (HD.out.bel.cell (p:=⟨b,o+j,none⟩) hb).trans (hc j hjm)
     have wj1:IntKind.i64.wrap ((j:Int)+1)=(j:Int)+1:=by simp [IntKind.wrap,IntKind.signed,IntKind.bits];omega
     have hfs:=aft_snoc at_ d row j (by have:=HRO.out.2;omega)
     rw [← hx] at hfs
     have hqj:=HS.out.2.1
     obtain ⟨A5,c5,w5,hrun,hD5⟩:=HD.out.push hbw x (by have:=HS.out.1;omega)
     rw [← HS.out.1] at hrun
     have hl5:q+1=(st++[x]).length:=by rw [List.length_append,← HS.out.1];rfl
     by_cases hxd:x=at_
     ·rw [if_pos hxd] at hfs
      have hxd':x=at_:=hxd
      clear hxd
      subst hxd'
      have xb:((x:Int) == (x:Int))=true:=by simp
      have xd:decide (x=x)=true:=by simp
      obtain ⟨A6,c6,w6,hrun2,hD6⟩:=hD5.push (by have:=hD5.bel.size;omega) d (by omega)
      rw [← hl5] at hrun2
      have HS2:Hid (q+1+1=(st++[x]++[d]).length∧q+1+1≤2*(j+1)∧st++[x]++[d]=aftL x d (row.take (j+1))):=⟨by rw [List.length_append,← hl5];rfl,by omega,by rw [hfs,HS.out.2.2,List.append_assoc];rfl⟩
      have HD6:=Lib.hid hD6
      clear hfs hx hc HS hD5 hD6 HD hl5
      go_upto_region 10 with (first
       | (at_builtin;go_must (refine wpList_append_runR rfl _ _ _ rfl _ _ _ _ rfl rfl hrun ?_)))
      go_wp2_with (first
       | (at_builtin;go_must (refine wpList_append_runR rfl _ _ _ rfl _ _ _ _ rfl rfl hrun2 ?_)))
      go_roundw
      case rel=>exact ⟨j+1,c6,q+1+1,A6,_,by omega,by go_num,rfl,HS2,HD6⟩
      case measure=>simp [intOf];omega
     ·have xI:¬ (x:Int)=(at_:Int):=by omega
      have xb:((x:Int) == (at_:Int))=false:=by rw [beq_eq_false_iff_ne];exact xI
      have xd:decide (x=at_)=false:=decide_eq_false hxd
      rw [if_neg hxd] at hfs
      have HS2:Hid (q+1=(st++[x]).length∧q+1≤2*(j+1)∧st++[x]=aftL at_ d (row.take (j+1))):=⟨hl5,by omega,by rw [hfs,HS.out.2.2]⟩
      have HD5:=Lib.hid hD5
      clear hfs hx hc HS hD5 HD hl5
      go_wp2_with (first
       | (at_builtin;go_must (refine wpList_append_runR rfl _ _ _ rfl _ _ _ _ rfl rfl hrun ?_)))
      go_roundw
      case rel=>exact ⟨j+1,c5,q+1,A5,_,by omega,by go_num,rfl,HS2,HD5⟩
      case measure=>simp [intOf];omega
    ·obtain rfl:j=m:=by omega
     have hjd:decide (j < j)=false:=by simp
     obtain ⟨A6,c6,w6,hrun,hG6,hB6⟩:=HD.out.snocV hbw (by have:=HPS.out.1;omega)
     rw [HPS.out.1,← HS.out.1] at hrun
     have hfin:st=aftL at_ d row:=by rw [HS.out.2.2,HRO.out.2,List.take_length]
     have HPS2:Hid ((ps++[((Value.slice As st.length cs,st):GEl)]).length=r+1∧(ps++[((Value.slice As st.length cs,st):GEl)]).map (·.2)=(os.take (r+1)).map (aftL at_ d)):=by
      refine ⟨by rw [List.length_append,HPS.out.1];rfl,?_⟩
      have e:os.take (r+1)=os.take r++[os.getD r []]:=by
       rw [List.take_add_one,List.getD_eq_getElem?_getD,List.getElem?_eq_getElem (by have:=HP.out;omega)];rfl
      rw [e,List.map_append,List.map_append,HPS.out.2,← HRO.out.1]
      show _++[st]=_
      rw [hfin];rfl
     have HG6:=Lib.hid hG6
     have HB6:=Lib.hid hB6
     have wr1:IntKind.i64.wrap ((r:Int)+1)=(r:Int)+1:=by simp [IntKind.wrap,IntKind.signed,IntKind.bits];omega
     clear hG6 hB6 HD HS hfin HPS
     go_wp2_with (first
      | (at_builtin;go_must (refine wpList_append_runR rfl _ _ _ rfl _ _ _ _ rfl rfl hrun ?_)))
     go_roundw
     case rel=>exact ⟨r+1,c6,A6,_,by omega,by go_num,rfl,HPS2,HG6,HB6⟩
     case measure=>simp [intOf];omega
  ·obtain rfl:p=r:=by omega
   have hrd':decide (p < p)=false:=by simp
   go_wp2_with fail
   go_ret
   have h2:=HPS.out.2
   rw [show os.take p=os by rw [← HP.out,List.take_length]] at h2
   exact ⟨A1,c1,ps,rfl,HG.out,h2,by rw [List.length_map,HP.out],HB.out⟩
theorem GRow.rdRows {w:World} {base g c:Nat} {ps:List GEl} (h:GRow w base (some ⟨g,0,none⟩) c ps):RdRows w g (ps.map (·.2)):=by
 refine ⟨(own_block h.own).2,fun r hr=>?_⟩
 rw [List.length_map] at hr
 obtain ⟨⟨A',c',e⟩,ho⟩:=h.inn r hr
 have h0:=h.own.cellAt r (by omega)
 rw [gcs_get ps r hr,e] at h0
 rw [e] at ho
 rw [snd_getD ps r hr]
 exact ⟨A',c',h0,Rd.ofOwn ho⟩
theorem zL_eq {os:List (List Nat)} {o:List Nat} {n:Nat} (hl:o.length=n) (hnd:os.flatten.Nodup) (hmem:∀ x,x∈os.flatten↔x < n)
  (h:∀ r k,r < os.length→k < (os.getD r []).length→o.getD ((os.getD r []).getD k 0) 0=nxR (os.getD r []) k):zL os n=o:=by
 apply List.ext_getElem
 ·rw [zL_len,hl]
 ·intro i h1 h2
  have hi:i < n:=by omega
  have e1:(zL os n)[i]=(zL os n).getD i 0:=by rw [List.getD_eq_getElem?_getD,List.getElem?_eq_getElem h1];rfl
  have e2:o[i]=o.getD i 0:=by rw [List.getD_eq_getElem?_getD,List.getElem?_eq_getElem h2];rfl
  rw [e1,e2,zL_get os hi]
  obtain ⟨r,k,hr,hk,e⟩:=mem_rows ((hmem i).2 hi)
  rw [← e,zR_at hnd hr hk,h r k hr hk]
def TellR (f:Nat→Nat) (v:List Nat):Prop:=∀ k,k < v.length→f (v.getD k 0)=nxR v k
structure Tells (os:List (List Nat)) (f:Nat→Nat) (S:Nat→Prop):Prop where
 nd:os.flatten.Nodup
 mem:∀ x,x∈os.flatten↔S x
 tell:∀ v,v∈os→TellR f v
def aftF (a d:Nat) (f:Nat→Nat) (x:Nat):Nat:=if x=a then d else if x=d then f a else f x
def witF (d:Nat) (f:Nat→Nat) (x:Nat):Nat:=if f x=d then f d else f x
def witL (d:Nat) (v:List Nat):List Nat:=v.filter fun x=>decide (x≠d)
theorem gD_mem {v:List Nat} {k:Nat} (h:k < v.length):v.getD k 0∈v:=by
 rw [List.getD_eq_getElem?_getD,List.getElem?_eq_getElem h];exact List.getElem_mem _
theorem gD_inj {v:List Nat} (nd:v.Nodup) {i j:Nat} (hi:i < v.length) (hj:j < v.length) (e:v.getD i 0=v.getD j 0):i=j:=by
 rw [List.getD_eq_getElem?_getD,List.getD_eq_getElem?_getD,List.getElem?_eq_getElem hi,List.getElem?_eq_getElem hj] at e
 exact (List.getElem_inj nd).1 e
theorem aft_none {a d:Nat}:∀ {v:List Nat},a ∉ v→aftL a d v=v
 | [],_=>rfl
 | x :: v,h=>by
   have h1:x≠a:=fun c=>h (by simp [c])
   have ih:=aft_none (a:=a) (d:=d) (v:=v) fun c=>h (by simp [c])
   unfold aftL at ih ⊢
   rw [List.flatMap_cons,if_neg h1,ih];rfl
theorem aft_app (a d:Nat) (u t:List Nat):aftL a d (u++t)=aftL a d u++aftL a d t:=by unfold aftL;rw [List.flatMap_append]
theorem aft_split {a d:Nat} {u t:List Nat} (hu:a ∉ u) (ht:a ∉ t):aftL a d (u++a :: t)=u++a :: d :: t:=by
 have e:aftL a d (a :: t)=[a,d]++aftL a d t:=by unfold aftL;rw [List.flatMap_cons,if_pos rfl]
 rw [aft_app,e,aft_none hu,aft_none ht];rfl
theorem wit_none {d:Nat} {v:List Nat} (h:d ∉ v):witL d v=v:=by
 unfold witL
 rw [List.filter_eq_self]
 intro x hx
 rw [decide_eq_true_iff]
 exact fun c=>h (c ▸ hx)
theorem wit_split {d:Nat} {u t:List Nat} (hu:d ∉ u) (ht:d ∉ t):witL d (u++d :: t)=u++t:=by
 have e:witL d (u++d :: t)=witL d u++witL d t:=by unfold witL;rw [List.filter_append,List.filter_cons];simp
 rw [e,wit_none hu,wit_none ht]
theorem gD_app (u t:List Nat) (k:Nat):(u++t).getD k 0=if k < u.length then u.getD k 0 else t.getD (k - u.length) 0:=by
 by_cases c:k < u.length
 ·rw [if_pos c];simp [List.getD_eq_getElem?_getD,List.getElem?_append_left c]
 ·rw [if_neg c];simp [List.getD_eq_getElem?_getD,List.getElem?_append_right (Nat.le_of_not_lt c)]
theorem gD_cons (a:Nat) (t:List Nat) (k:Nat):(a :: t).getD k 0=if k=0 then a else t.getD (k - 1) 0:=by
 cases k with
 | zero=>rfl
 | succ k=>simp [List.getD_eq_getElem?_getD]
theorem nd_split {a:Nat} {u t:List Nat} (nd:(u++a :: t).Nodup):a ∉ u∧a ∉ t:=by
 obtain ⟨h1,h2,h3⟩:=List.nodup_append.1 nd
 exact ⟨fun c=>h3 a c a (by simp) rfl,(List.nodup_cons.1 h2).1⟩
theorem aft_tell {f:Nat→Nat} {v:List Nat} {a d:Nat} (nd:v.Nodup) (hd:d ∉ v) (h:TellR f v):TellR (aftF a d f) (aftL a d v):=by
 by_cases ha:a∈v
 ·obtain ⟨u,t,rfl⟩:=List.append_of_mem ha
  obtain ⟨hu,ht⟩:=nd_split nd
  rw [aft_split hu ht]
  intro k hk
  have hda:d≠a:=fun c=>hd (by rw [c];exact ha)
  have pl:∀ j,j < (u++a :: t).length→j≠u.length→(u++a :: t).getD j 0≠a:=fun j hj hn c=>hn (gD_inj nd hj (by simp) (by rw [c,gD_app,if_neg (by omega),gD_cons,if_pos (by omega)]))
  have nod:∀ j,j < (u++a :: t).length→(u++a :: t).getD j 0≠d:=fun j hj c=>hd (c ▸ gD_mem hj)
  have G:∀ j,(u++a :: d :: t).getD j 0=if j≤u.length then (u++a :: t).getD j 0 else if j=u.length+1 then d else (u++a :: t).getD (j - 1) 0:=fun j=>by
   by_cases c1:j < u.length
   ·rw [if_pos (by omega),gD_app,gD_app,if_pos c1,if_pos c1]
   ·by_cases c2:j=u.length
    ·subst c2
     rw [if_pos (Nat.le_refl _),gD_app,gD_app,if_neg c1,if_neg c1,Nat.sub_self];rfl
    ·rw [if_neg (by omega),gD_app,if_neg c1,gD_cons,if_neg (by omega),gD_cons]
     by_cases c3:j=u.length+1
     ·rw [if_pos (by omega),if_pos c3]
     ·rw [if_neg (by omega),if_neg c3,gD_app,if_neg (by omega),gD_cons,if_neg (by omega)]
      congr 1;omega
  have lv:(u++a :: t).length=u.length+1+t.length:=by simp;omega
  have lw:(u++a :: d :: t).length=u.length+1+t.length+1:=by simp;omega
  rw [lw] at hk
  have ga:(u++a :: t).getD u.length 0=a:=by rw [gD_app,if_neg (by omega),gD_cons,if_pos (by omega)]
  unfold nxR
  rw [lw]
  by_cases c1:k < u.length
  ·have hf:=h k (by omega)
   unfold nxR at hf
   rw [lv,if_pos (by omega)] at hf
   rw [G k,if_pos (by omega),if_pos (by omega),G (k+1),if_pos (by omega)]
   unfold aftF
   rw [if_neg (pl k (by omega) (by omega)),if_neg (nod k (by omega)),hf]
  ·by_cases c2:k=u.length
   ·subst c2
    rw [G u.length,if_pos (by omega),if_pos (by omega),G (u.length+1),if_neg (by omega),if_pos rfl,ga]
    unfold aftF
    rw [if_pos rfl]
   ·by_cases c3:k=u.length+1
    ·subst c3
     have hf:=h u.length (by omega)
     unfold nxR at hf
     rw [lv,ga] at hf
     rw [G (u.length+1),if_neg (by omega),if_pos rfl]
     unfold aftF
     rw [if_neg hda,if_pos rfl,hf]
     by_cases c4:u.length+1 < u.length+1+t.length
     ·rw [if_pos c4,if_pos (by omega),G,if_neg (by omega),if_neg (by omega)];rfl
     ·rw [if_neg c4,if_neg (by omega),G,if_pos (by omega)]
    ·have hf:=h (k - 1) (by omega)
     unfold nxR at hf
     rw [lv,show k - 1+1=k by omega] at hf
     rw [G k,if_neg (by omega),if_neg c3]
     unfold aftF
     rw [if_neg (pl (k - 1) (by omega) (by omega)),if_neg (nod (k - 1) (by omega)),hf]
     by_cases c4:k < u.length+1+t.length
     ·rw [if_pos c4,if_pos (by omega),G,if_neg (by omega),if_neg (by omega)];rfl
     ·rw [if_neg c4,if_neg (by omega),G,if_pos (by omega)]
 ·rw [aft_none ha]
  intro k hk
  unfold aftF
  rw [if_neg (show ¬ v.getD k 0=a from fun c=>ha (c ▸ gD_mem hk)),if_neg (show ¬ v.getD k 0=d from fun c=>hd (c ▸ gD_mem hk))]
  exact h k hk
theorem wit_tell {f:Nat→Nat} {v:List Nat} {d:Nat} (nd:v.Nodup) (h:TellR f v):TellR (witF d f) (witL d v):=by
 have gm:∀ j,j < v.length→nxR v j∈v:=fun j hj=>by
  unfold nxR
  split
  ·next c=>exact gD_mem c
  ·exact gD_mem (by omega)
 by_cases hd:d∈v
 ·obtain ⟨u,t,rfl⟩:=List.append_of_mem hd
  obtain ⟨hu,ht⟩:=nd_split nd
  rw [wit_split hu ht]
  intro k hk
  have lv:(u++d :: t).length=u.length+1+t.length:=by simp;omega
  have lw:(u++t).length=u.length+t.length:=by simp
  rw [lw] at hk
  have gd:(u++d :: t).getD u.length 0=d:=by rw [gD_app,if_neg (by omega),gD_cons,if_pos (by omega)]
  have pl:∀ j,j < u.length+1+t.length→j≠u.length→(u++d :: t).getD j 0≠d:=fun j hj hn c=>hn (gD_inj nd (by omega) (by omega) (by rw [c,gd]))
  have G:∀ j,(u++t).getD j 0=if j < u.length then (u++d :: t).getD j 0 else (u++d :: t).getD (j+1) 0:=fun j=>by
   by_cases c1:j < u.length
   ·rw [if_pos c1,gD_app,gD_app,if_pos c1,if_pos c1]
   ·rw [if_neg c1,gD_app,gD_app,if_neg c1,if_neg (by omega),gD_cons,if_neg (by omega)]
    congr 1;omega
  have hfd:=h u.length (by omega)
  unfold nxR at hfd
  rw [lv,gd] at hfd
  unfold nxR
  rw [lw]
  by_cases c1:k < u.length
  ·have hf:=h k (by omega)
   unfold nxR at hf
   rw [lv,if_pos (by omega)] at hf
   rw [G k,if_pos c1]
   unfold witF
   by_cases c2:k+1=u.length
   ·rw [hf,c2,gd,if_pos rfl,hfd]
    by_cases c3:u.length+1 < u.length+1+t.length
    ·rw [if_pos c3,if_pos (by omega),G,if_neg (by omega)]
    ·rw [if_neg c3,if_neg (by omega),G,if_pos (by omega)]
   ·rw [hf,if_neg (pl _ (by omega) (by omega)),if_pos (by omega),G,if_pos (by omega)]
  ·have hf:=h (k+1) (by omega)
   unfold nxR at hf
   rw [lv] at hf
   rw [G k,if_neg c1]
   unfold witF
   rw [hf]
   by_cases c2:k+1 < u.length+t.length
   ·rw [if_pos (show k+1+1 < u.length+1+t.length by omega),if_neg (pl (k+1+1) (by omega) (by omega)),if_pos c2,G,if_neg (by omega)]
   ·rw [if_neg (show ¬ k+1+1 < u.length+1+t.length by omega),if_neg c2]
    by_cases c3:u.length=0
    ·have z:(u++d :: t).getD 0 0=d:=by have:=gd;rw [c3] at this;exact this
     rw [z,if_pos rfl,hfd,if_pos (by omega),G,if_neg (by omega),c3]
    ·rw [if_neg (pl 0 (by omega) (by omega)),G,if_pos (by omega)]
 ·rw [wit_none hd]
  intro k hk
  unfold witF
  rw [h k hk,if_neg (show ¬ nxR v k=d from fun c=>hd (c ▸ gm k hk))]
theorem row_nodup {os:List (List Nat)} (h:os.flatten.Nodup) {v:List Nat} (hv:v∈os):v.Nodup:=(List.pairwise_flatten.1 h).1 v hv
theorem row_mem {os:List (List Nat)} {v:List Nat} (hv:v∈os) {x:Nat} (hx:x∈v):x∈os.flatten:=List.mem_flatten.2 ⟨v,hv,hx⟩
theorem aft_flat (a d:Nat):∀ os:List (List Nat),(os.map (aftL a d)).flatten=aftL a d os.flatten
 | []=>rfl
 | v :: os=>by rw [List.map_cons,List.flatten_cons,List.flatten_cons,aft_app,aft_flat a d os]
theorem wit_flat (d:Nat):∀ os:List (List Nat),(os.map (witL d)).flatten=witL d os.flatten
 | []=>rfl
 | v :: os=>by
   rw [List.map_cons,List.flatten_cons,List.flatten_cons,wit_flat d os]
   unfold witL;rw [List.filter_append]
variable {os:List (List Nat)} {f g:Nat→Nat} {S T:Nat→Prop}
theorem Tells.congr (h:Tells os f S) (e:∀ x,S x→g x=f x) (hs:∀ x,S x↔T x):Tells os g T :=
 ⟨h.nd,fun x=>(h.mem x).trans (hs x),fun v hv k hk=>by rw [e _ ((h.mem _).1 (row_mem hv (gD_mem hk)))];exact h.tell v hv k hk⟩
theorem Tells.after (h:Tells os f S) {a d:Nat} (ha:S a) (hd:¬ S d):Tells (os.map (aftL a d)) (aftF a d f) (fun x=>S x∨x=d):=by
 have hdf:d ∉ os.flatten:=fun c=>hd ((h.mem d).1 c)
 have P:List.Perm (aftL a d os.flatten) (d :: os.flatten):=by
  obtain ⟨u,t,e⟩:=List.append_of_mem ((h.mem a).2 ha)
  have nd:=h.nd
  rw [e] at nd ⊢
  obtain ⟨hu,ht⟩:=nd_split nd
  rw [aft_split hu ht]
  have:u++a :: d :: t=(u++[a])++d :: t:=by simp
  rw [this]
  exact List.perm_middle.trans (by simp)
 refine ⟨?_,fun x=>?_,fun v hv=>?_⟩
 ·rw [aft_flat];exact P.nodup_iff.2 (List.nodup_cons.2 ⟨hdf,h.nd⟩)
 ·rw [aft_flat,P.mem_iff,List.mem_cons,h.mem];exact Or.comm
 ·obtain ⟨v0,hv0,rfl⟩:=List.mem_map.1 hv
  exact aft_tell (row_nodup h.nd hv0) (fun c=>hdf (row_mem hv0 c)) (h.tell v0 hv0)
theorem Tells.without (h:Tells os f S) (d:Nat):Tells (os.map (witL d)) (witF d f) (fun x=>S x∧x≠d):=by
 refine ⟨?_,fun x=>?_,fun v hv=>?_⟩
 ·rw [wit_flat];unfold witL;exact h.nd.filter _
 ·rw [wit_flat];unfold witL;rw [List.mem_filter,h.mem,decide_eq_true_iff]
 ·obtain ⟨v0,hv0,rfl⟩:=List.mem_map.1 hv
  exact wit_tell (row_nodup h.nd hv0) (h.tell v0 hv0)
theorem Tells.snoc (h:Tells os f S) {v:List Nat} (nd:v.Nodup) (hd:∀ x,x∈v→¬ S x) (ht:TellR f v):Tells (os++[v]) f (fun x=>S x∨x∈v):=by
 refine ⟨?_,fun x=>?_,fun u hu=>?_⟩
 ·rw [List.flatten_append,show [v].flatten=v by simp]
  exact List.nodup_append.2 ⟨h.nd,nd,fun a ha c hc e=>hd c hc (e ▸ (h.mem a).1 ha)⟩
 ·rw [List.flatten_append,show [v].flatten=v by simp,List.mem_append,h.mem]
 ·rcases List.mem_append.1 hu with q | q
  ·exact h.tell u q
  ·rw [List.mem_singleton] at q;rw [q];exact ht
theorem Tells.zL {o:List Nat} {n:Nat} (h:Tells os (sgL o) (fun x=>x < n)) (hl:o.length=n):zL os n=o :=
 zL_eq hl h.nd h.mem fun r k hr hk=>h.tell _ (by rw [List.getD_eq_getElem?_getD,List.getElem?_eq_getElem hr];exact List.getElem_mem _) k hk
theorem cons_tell {f:Nat→Nat} {v:List Nat} {a d:Nat} (nd:v.Nodup) (hd:d ∉ v) (h:TellR f v) (hv:0 < v.length) (hl:v.getD (v.length - 1) 0=a):TellR (aftF a d f) (d :: v):=by
 have ha:a∈v:=by rw [← hl];exact gD_mem (by omega)
 have hda:d≠a:=fun c=>hd (c ▸ ha)
 intro k hk
 rw [List.length_cons] at hk
 unfold nxR
 rw [List.length_cons,gD_cons,gD_cons,if_neg (show ¬ k+1=0 by omega),gD_cons,if_pos rfl,show k+1 - 1=k by omega]
 unfold aftF
 by_cases c0:k=0
 ·subst c0
  rw [if_pos rfl,if_neg hda,if_pos rfl,if_pos (by omega)]
  have:=h (v.length - 1) (by omega)
  rw [hl] at this
  rw [this];unfold nxR
  rw [if_neg (by omega)]
 ·rw [if_neg c0]
  by_cases c1:k=v.length
  ·rw [show k - 1=v.length - 1 by omega,hl,if_pos rfl,if_neg (by omega)]
  ·have n1:v.getD (k - 1) 0≠a:=fun c=>by have:=gD_inj nd (show k - 1 < v.length by omega) (show v.length - 1 < v.length by omega) (c.trans hl.symm);omega
   rw [if_neg n1,if_neg (show ¬ v.getD (k - 1) 0=d from fun c=>hd (c ▸ gD_mem (show k - 1 < v.length by omega))),if_pos (by omega),h (k - 1) (by omega)]
   unfold nxR
   rw [if_pos (by omega),show k - 1+1=k by omega]
section
variable {l b:List Nat}
theorem lists_tell (h:Inv l b):Tells ((leads l l.length).map (orb l)) (sgL l) (fun x=>x < l.length):=by
 have lp:∀ i,i < l.length→(orb l i).length=per l i:=fun i hi=>way_len _ _ _
 refine ⟨?_,fun x=>?_,fun v hv=>?_⟩
 ·refine List.pairwise_flatten.2 ⟨fun o ho=>?_,?_⟩
  ·obtain ⟨i,hi,rfl⟩:=List.mem_map.1 ho
   exact orb_nodup h (mem_leads.1 hi).1
  ·refine List.pairwise_map.2 ?_
   have:(leads l l.length).Pairwise (· < ·):=List.Pairwise.filter _ List.pairwise_lt_range
   refine this.imp_of_mem fun {i j} hi hj hij x hx y hy e=>?_
   subst e
   obtain ⟨i1,i2⟩:=mem_leads.1 hi
   obtain ⟨j1,j2⟩:=mem_leads.1 hj
   have:=lead_unique h i1 j1 i2 j2 hx hy
   omega
 ·simp only [List.mem_flatten,List.mem_map]
  constructor
  ·rintro ⟨_,⟨i,hi,rfl⟩,hx⟩
   exact orb_lt h (mem_leads.1 hi).1 hx
  ·intro hx
   obtain ⟨i,h1,h2,h3⟩:=exists_lead h hx
   exact ⟨_,⟨i,mem_leads.2 ⟨by omega,h2⟩,rfl⟩,h3⟩
 ·obtain ⟨i,hi,rfl⟩:=List.mem_map.1 hv
  have hi1:=(mem_leads.1 hi).1
  intro k hk
  have hp:=per_is h hi1
  rw [lp i hi1] at hk
  unfold nxR
  rw [lp i hi1]
  have g:∀ j,j < per l i→(orb l i).getD j 0=it l j i:=fun j hj=>way_get l i _ j hj
  rw [g k hk]
  by_cases c:k+1 < per l i
  ·rw [if_pos c,g _ c];rfl
  ·rw [if_neg c,g 0 hp.1]
   have:k+1=per l i:=by omega
   have e:=hp.2.1
   rw [← this] at e
   exact e
theorem sg_put {o ob:List Nat} (h:Inv o ob) {d a:Nat} (hd:d < o.length) (ha:a < o.length) (al:sgL o d=d) (x:Nat):sgL (putL o d a) x=aftF a d (sgL o) x:=by
 rw [put_get h hd ha al]
 unfold swp aftF
 by_cases c:x=d
 ·rw [if_pos c]
  by_cases c2:x=a
  ·rw [if_pos c2,← c2,c];exact al
  ·rw [if_neg c2,if_pos c]
 ·rw [if_neg c]
  by_cases c2:x=a
  ·rw [if_pos c2,if_pos c2];exact al
  ·rw [if_neg c2,if_neg c2,if_neg c]
theorem sg_tak {o ob:List Nat} (h:Inv o ob) {d:Nat} (hd:d < o.length) {x:Nat} (hx:x < o.length) (hxd:x≠d):sgL (takL o ob d) x=witF d (sgL o) x:=by
 rw [tak_get h hd]
 unfold swp witF
 rw [if_neg hxd]
 by_cases c:x=sgL ob d
 ·have e:sgL o x=d:=by rw [c];exact h.bl d hd
  rw [if_pos c,if_pos e]
 ·rw [if_neg c,if_neg (fun e=>c (by rw [← e];exact (h.lb x hx).symm))]
theorem tells_put {os:List (List Nat)} {S T:Nat→Prop} {o ob:List Nat} (h:Inv o ob) (t:Tells os (sgL o) S) {d a:Nat} (hd:d < o.length) (ha:a < o.length) (al:sgL o d=d) (sa:S a) (sd:¬ S d) (hT:∀ x,(S x∨x=d)↔T x):Tells (os.map (aftL a d)) (sgL (putL o d a)) T :=
 (t.after sa sd).congr (fun x _=>sg_put h hd ha al x) hT
theorem tells_tak {os:List (List Nat)} {S T:Nat→Prop} {o ob:List Nat} (h:Inv o ob) (t:Tells os (sgL o) S) {d:Nat} (hd:d < o.length) (sl:∀ x,S x→x < o.length) (hT:∀ x,(S x∧x≠d)↔T x):Tells (os.map (witL d)) (sgL (takL o ob d)) T :=
 (t.without d).congr (fun x hx=>sg_tak h hd (sl x hx.1) hx.2) hT
end
end Go.Proofs.YtdinmjciippchaaGreat
namespace Go.Proofs.YtdinmjciippchaaGreat
set_option maxRecDepth 20000
structure Rot (l:List Nat) (d e p q r s:Nat):Prop where
 ep:sgL l e=p
 pq:sgL l (mt p)=q
 qd:sgL l (mt q)=d
 dr:sgL l d=r
 rs:sgL l (mt r)=s
 se:sgL l (mt s)=e
structure Six (n d e p q r s:Nat):Prop where
 me:e=mt d
 ln:d < n∧e < n∧p < n∧q < n∧r < n∧s < n
 de:d≠e
 dp:d≠p
 dq:d≠q
 dr:d≠r
 ds:d≠s
 ep:e≠p
 eq:e≠q
 er:e≠r
 es:e≠s
 pq:p≠q
 pr:p≠r
 ps:p≠s
 qr:q≠r
 qs:q≠s
 rs:r≠s
section
variable {l b:List Nat} {d e p q r s:Nat}
theorem mt_ltG {n a:Nat} (hn:n%2=0) (ha:a < n):mt a < n:=by unfold mt;split <;> omega
theorem flips_six (h:Inv l b) (he:l.length%2=0) (hd:d < l.length) (hf:Flips l d):∃ p q r s,Six l.length d (mt d) p q r s∧Rot l d (mt d) p q r s:=by
 obtain ⟨t1,t2,hne⟩:=hf
 have hp:=phi_inv h he
 have hlen:=phiL_len l
 have hm:=mt_ltG he hd
 rw [mt_mateN] at t2 hne
 have tri:∀ a,a < l.length→TriD l a→∃ p q,p < l.length∧q < l.length∧sgL l (mt a)=p∧sgL l (mt p)=q∧sgL l (mt q)=a∧a≠p∧p≠q∧a≠q∧nameOf (phiL l) p=nameOf (phiL l) a∧nameOf (phiL l) q=nameOf (phiL l) a:=fun a ha ht=>by
  have h3:per (phiL l) a=3:=by
   have:(orb (phiL l) a).length=per (phiL l) a:=by unfold orb;exact way_len _ _ _
   unfold TriD at ht;omega
  have hap:a < (phiL l).length:=by rw [hlen];exact ha
  obtain ⟨p1,p2,p3⟩:=per_is hp hap
  have l1:=it_lt hp hap 1
  have l2:=it_lt hp hap 2
  rw [hlen] at l1 l2
  have i1:it (phiL l) 1 a=sgL l (mt a):=phi_at l ha
  have i2:it (phiL l) 2 a=sgL l (mt (sgL l (mt a))):=by
   show (phiL l).getD (it (phiL l) 1 a) 0=_
   rw [i1];rw [i1] at l1;exact phi_at l l1
  have i3:it (phiL l) 3 a=sgL l (mt (sgL l (mt (sgL l (mt a))))):=by
   show (phiL l).getD (it (phiL l) 2 a) 0=_
   rw [i2];rw [i2] at l2;exact phi_at l l2
  have a1:=p3 1 (by omega)
  have a2:=p3 2 (by omega)
  rw [h3] at p2
  have hn:∀ k,nameOf (phiL l) (it (phiL l) k a)=nameOf (phiL l) a:=fun k=>by
   have hk:=it_lt hp hap k
   have:it (phiL l) k a∈orb (phiL l) a:=(mem_orb hp hap).2 ⟨k,rfl⟩
   unfold nameOf
   rw [lead_of_mem hp hap this]
  refine ⟨it (phiL l) 1 a,it (phiL l) 2 a,l1,l2,i1.symm,by rw [i1,i2],?_,fun k=>a1 (by omega) k.symm,fun k=>?_,fun k=>a2 (by omega) k.symm,hn 1,hn 2⟩
  ·rw [i2,← i3];exact p2
  ·have:it (phiL l) 3 a=it (phiL l) 2 a:=by
    show (phiL l).getD (it (phiL l) 2 a) 0=(phiL l).getD (it (phiL l) 1 a) 0
    rw [← k]
   rw [p2] at this
   exact a2 (by omega) this.symm
 obtain ⟨p,q,lp,lq,e1,e2,e3,n1,n2,n3,m1,m2⟩:=tri d hd t1
 obtain ⟨r,s,lr,ls,f1,f2,f3,k1,k2,k3,j1,j2⟩:=tri (mt d) hm t2
 rw [mt_mt] at f1
 have dif:∀ a c,nameOf (phiL l) a=nameOf (phiL l) d→nameOf (phiL l) c=nameOf (phiL l) (mt d)→a≠c:=fun a c x y k=>hne (by rw [← x,k,y])
 exact ⟨p,q,r,s,⟨rfl,⟨hd,hm,lp,lq,lr,ls⟩,dif _ _ rfl rfl,n1,n3,dif _ _ rfl j1,dif _ _ rfl j2,(dif _ _ m1 rfl).symm,(dif _ _ m2 rfl).symm,k1,k3,n2,dif _ _ m1 j1,dif _ _ m1 j2,dif _ _ m2 j1,dif _ _ m2 j2,k2⟩,⟨e1,e2,e3,f1,f2,f3⟩⟩
end
end Go.Proofs.YtdinmjciippchaaGreat
