/- The document's walk. -/
import Derived.Test.YtajjgpkahljjmaaGreatDoorZg19
import Derived.BigQuiet
import Derived.Test.YtajjgpkahljjmaaGreatDoorZg3
import Derived.Laws.Concat
set_option linter.unusedVariables false
open Go.RowKit
namespace Go.Proofs.YtajjgpkahljjmaaGreatDoor
set_option maxRecDepth 20000
open Go.RowKit Go.Maps
def wdl (sg nm:Nat→Nat) (m V r:Nat):Nat→List Int
 | 0=>[]
 | j+1=>wdl sg nm m V r j++[((wrun sg nm m V r j).d:Int)]
def wkl (sg nm:Nat→Nat) (m V r:Nat):Nat→List Int
 | 0=>[]
 | j+1=>wkl sg nm m V r j++[(((wrun sg nm m V r j).k nm:Nat):Int)]
def RWPost (w:World) (N:Nat) (Ld Lk:List Int) (e:Ending) (w':World):Prop :=
 ∃ A1 c1 A2 c2,e=.returned (.tuple #[.slice A1 N c1,.slice A2 N c2])∧w'.ownsRow w.heap.size 3 1 (.slice A1 N c1) N (I64 Ld)∧w'.ownsRow w.heap.size 3 1 (.slice A2 N c2) N (I64 Lk)∧Below w.heap.size w w'
structure RSt (w:World) (B g1 g2:Nat) (A1:Option Addr) (c1:Nat) (A2:Option Addr) (c2 j:Nat) (Ld Lk K:List Int) (M:List Bool) (W:World):Prop where
 o1:W.ownsRow B 3 1 (.slice A1 j c1) j (I64 Ld)
 o2:W.ownsRow B 3 1 (.slice A2 j c2) j (I64 Lk)
 dj:∀ k,(Value.slice A1 j c1).ownBlock=some k→(Value.slice A2 j c2).ownBlock≠some k
 mf:∃ D n,n≤j∧OwnM W g1 n D∧MF D K
 mm:∃ D n,n≤j+1∧OwnM W g2 n D∧MM D M
 be:Below B w W
set_option maxHeartbeats 8000000 in
theorem rwalk_p (A:Option Addr) (c:Nat) (l b:List Nat) (root lone:Int) (r M V:Nat) (w:World) (h:Rd w w.heap.size A l.length (I64 (ofN l))) (hi:Inv l b) (he:l.length%2=0) (hr:r < l.length) (hn:l.length≤100000) (hM:M=l.length / 2) (hV:(sizes l).length≤V) (hV2:V≤200000) :
  Calls Tryz.prog 59 #[.agg #[.slice A l.length c,.int .i64 root,.int .i64 lone],.int .i64 (r:Int)] w (RWPost w (wN (sgL l) (nameOf l) M V r) (wdl (sgL l) (nameOf l) M V r (wN (sgL l) (nameOf l) M V r)) (wkl (sgL l) (nameOf l) M V r (wN (sgL l) (nameOf l) M V r))):=by
 obtain ⟨i0,hi0,hz0,hz1,hz2⟩:=info_parts info_int
 have hvl:=nm_ltW hi hV
 have hmm:=@run_makeMap Tryz.prog
 have hb0:=(Below.refl w.heap.size w).alloc (Nat.le_refl _) (.cells #[.slice A l.length c,.int .i64 root,.int .i64 lone] 27)
 have H:=Lib.hid (h.below hb0)
 have HBX:=Lib.hid (Blk.new w 27 #[.slice A l.length c,.int .i64 root,.int .i64 lone])
 have HB0:=Lib.hid hb0
 have HE:=Lib.hid he
 have HI:=Lib.hid hi
 obtain ⟨N,hN⟩:∃ N,N=wN (sgL l) (nameOf l) M V r:=⟨_,rfl⟩
 have hc:=(walk_counts hi he hvl hr).1
 rw [← hM,← hN] at hc
 have hNQ:Hid (num (fun d=>pq l d=pq l r) l.length=N):=by show _=_;rw [num_two hi he,← hc]
 have hwn:=wN_is (m:=l.length / 2) (sgL_pf hi) (by omega) (nm_ok hi) hvl hr
 rw [← hM,← hN] at hwn
 have HWN:=Lib.hid hwn
 have HWK:Hid (∀ j:Nat,WOk l.length M V (sgL l) (nameOf l) r (wrun (sgL l) (nameOf l) M V r j)):=by rw [hM];exact wok (sgL_pf hi) (by omega) (nm_ok hi) hvl hr
 have NP:Hid (∀ W,Below w.heap.size w W→Calls Tryz.prog 91 #[.agg #[.slice A l.length c,.int .i64 root,.int .i64 lone]] W (NewI64 W (ofN (enames l)))):=fun W z=>renames_p A c l b root lone W ((h.below z).up z.size) hi he hn
 have VP:Hid (∀ W,Below w.heap.size w W→Calls Tryz.prog 94 #[.slice A l.length c] W (NewI64 W (ofN (names l)))):=fun W z=>rnames_p A c w.heap.size l b W (h.below z) hi (by omega)
 have hNl:N≤100000:=Nat.le_trans hwn.2.1 hn
 have HM:=Lib.hid hM
 have HVL:=Lib.hid hvl
 have HA:=Lib.hid h
 have HEN:Hid (∀ d,d < l.length→(enames l).getD d 0=pq l d):=fun d hd=>by unfold enames prts;rw [map_rangeN _ _ _ hd];rfl
 have hpql:∀ d,pq l d≤100000000∨True:=fun d=>.inr trivial
 rw [← hN]
 clear h he hi hb0 hN hc hwn hM hvl hV hpql
 go_enter Tryz.func59,Tryz.ntmps59
 go_upto_region 1 with fail
 have hx0:(w.alloc (.cells #[.slice A l.length c,.int .i64 root,.int .i64 lone] 27)).heap.size=w.heap.size+1:=by simp
 have HX0:=Lib.hid hx0
 generalize w.alloc (.cells #[.slice A l.length c,.int .i64 root,.int .i64 lone] 27)=w1 at *
 have SK:Hid (∀ W,Below w1.heap.size w1 W→W.cell? ⟨w.heap.size,0,none⟩=some (.slice A l.length c)∧W.cell? ⟨w.heap.size,1,none⟩=some (.int .i64 root)∧W.cell? ⟨w.heap.size,2,none⟩=some (.int .i64 lone)):=fun W z=>by
  have h0:=(HBX.out.below z).cell 0
  have h1:=(HBX.out.below z).cell 1
  have h2:=(HBX.out.below z).cell 2
  exact ⟨by simpa using h0,by simpa using h1,by simpa using h2⟩
 obtain ⟨x0,x1,x2⟩:=SK.out _ (Below.refl _ _)
 clear hx0
 go_wp2_with fail
 refine (NP.out _ HB0.out).mono ?_
 rintro e w2 ⟨AN,cN,rfl,hcN,hmN,ownN,z⟩
 rw [ofN_len,enames_len] at ownN ⊢
 have HON:=Lib.hid ownN
 have Z2:=Lib.hid ((Below.refl w1.heap.size w1).trans z)
 clear z ownN hcN hmN NP x0 x1 x2
 go_wp2_with fail
 go_loopw [7,24] (fun s i wr=>∃ (k y:Nat),k≤l.length∧y≤k∧s=.int .i64 (y:Int)∧i=.int .i64 (k:Int)∧Hid (y=num (fun d=>pq l d=pq l r) k)∧wr=w2) (fun _ i _=>l.length - (intOf i).toNat)
 case atStart=>exact ⟨0,0,by omega,by omega,rfl,rfl,rfl,rfl⟩
 case round =>
  obtain ⟨k,y,hk,hyk,rfl,rfl,HY,rfl⟩:=hrel
  obtain ⟨gn,rfl,_⟩:=own_some HON.out (by omega)
  have hcr:=own_cellI HON.out r hr
  rw [ofN_get,HEN.out r hr] at hcr
  by_cases hlt:k < l.length
  ·have hck:=own_cellI HON.out k hlt
   rw [ofN_get,HEN.out k hlt] at hck
   have NX:=Lib.hid (num_next (fun d=>pq l d=pq l r) k)
   by_cases hq:pq l k=pq l r
   ·rw [hq] at hck
    have hn2:=NX.out.1 hq
    rw [← HY.out] at hn2
    have HN2:=Lib.hid hn2
    clear hq hn2
    generalize pq l r=q at *
    go_wp2_with fail
    go_roundw
    case rel=>exact ⟨k+1,y+1,by omega,by omega,by go_num,by go_num,HN2.out.symm,trivial⟩
    case measure=>simp [intOf];omega
   ·have hn2:=NX.out.2 hq
    rw [← HY.out] at hn2
    have HN2:=Lib.hid hn2
    clear hn2
    generalize pq l r=q at *
    generalize pq l k=q2 at *
    have hqb:((q2:Int) == (q:Int))=false:=by rw [beq_eq_false_iff_ne];omega
    go_wp2_with fail
    go_roundw
    case rel=>exact ⟨k+1,y,by omega,by omega,rfl,by go_num,HN2.out.symm,trivial⟩
    case measure=>simp [intOf];omega
  ·obtain rfl:k=l.length:=by omega
   have hy:=HY.out
   rw [hNQ.out] at hy
   subst hy
   have hkN:y≤100000:=hNl
   have RDN:=Lib.hid (Rd.ofOwn HON.out)
   obtain ⟨x0,x1,x2⟩:=SK.out _ Z2.out
   have hsz2:=Z2.out.size
   clear HY hcr
   have HB2:Hid (Below w.heap.size w wr):=HB0.out.trans (Z2.out.mono HB0.out.size)
   go_wp2_with fail
   refine (VP.out _ HB2).mono ?_
   rintro e w3 ⟨AV,cV,rfl,hcV,hmV,ownV,z⟩
   rw [ofN_len,names_len] at ownV ⊢
   obtain ⟨gv,rfl,_⟩:=own_some ownV (by omega)
   have B3:Hid (Below w.heap.size w w3):=HB2.out.trans (z.mono HB2.out.size)
   have Z3:Hid (Below w1.heap.size w1 w3):=Z2.out.trans (z.mono hsz2)
   have HOV:=Lib.hid ownV
   have HAw:=Lib.hid (HA.out.below B3.out)
   clear z ownV hcV hmV VP HB2 RDN HON x0 x1 x2
   have hs1:(w3.alloc (.map #[] 0)).heap.size=w3.heap.size+1:=by simp
   obtain ⟨v0,hv0⟩:∃ v0,v0=nameOf l r:=⟨_,rfl⟩
   have hv0V:v0 < V:=by rw [hv0];exact HVL.out r hr
   have hcv:=own_cellI HOV.out r hr
   rw [ofN_get,names_get _ _ hr,← hv0] at hcv
   have OW1:OwnM (w3.alloc (.map #[] 0)) w3.heap.size 0 (.map []):=World.ownsMap_made _ _ _ _
   have OW2:OwnM ((w3.alloc (.map #[] 0)).alloc (.map #[] 0)) (w3.heap.size+1) 0 (.map []):=by
    rw [← hs1];exact World.ownsMap_made _ _ _ _
   obtain ⟨w5,hrun5,ow5,gr5⟩:=put_m OW2 (by omega) v0 (by omega) 1 (by omega)
   have ow51:=World.ownsMap.kept (World.ownsMap.alloc OW1 (.map #[] 0)) gr5 (by simp)
   have bx5:Below w3.heap.size w3 w5:=(((Below.refl w3.heap.size w3).alloc (Nat.le_refl _) (.map #[] 0)).alloc (by simp) (.map #[] 0)).grown gr5 (by simp;omega) (fun j hj=>by cases hj;omega)
   have hg5:w3.heap.size+1 < w5.heap.size:=ow5.lt
   obtain ⟨sg,hsg⟩:∃ sg,sg=sgL l:=⟨_,rfl⟩
   obtain ⟨nm,hnm⟩:∃ nm,nm=nameOf l:=⟨_,rfl⟩
   have S0:Hid (RSt w3 w3.heap.size w3.heap.size (w3.heap.size+1) none 0 none 0 0 (wdl sg nm M V r 0) (wkl sg nm M V r 0) (wrun sg nm M V r 0).K (wrun sg nm M V r 0).M w5) :=
    ⟨World.ownsRow_nil _ _ _ _,World.ownsRow_nil _ _ _ _,fun k hk=>by simp [Value.ownBlock] at hk,⟨_,_,Nat.le_refl _,ow51,MF.zero M⟩,⟨_,_,Nat.le_refl _,ow5,by
     have:=(MM.zero V).put (v:=v0) (by simpa using hv0V)
     rw [hv0,← hnm] at this
     rw [hv0,← hnm]
     exact this⟩,bx5⟩
   have SK3:Hid (∀ W,Below w3.heap.size w3 W→W.cell? ⟨w.heap.size,0,none⟩=some (.slice A l.length c)∧W.cell? ⟨w.heap.size,1,none⟩=some (.int .i64 root)∧W.cell? ⟨w.heap.size,2,none⟩=some (.int .i64 lone)):=fun W zz=>SK.out W (Z3.out.trans (zz.mono Z3.out.size))
   have HA3:Hid (∀ W,Below w3.heap.size w3 W→Rd W w3.heap.size A l.length (I64 (ofN l))):=fun W zz=>(HAw.out.up B3.out.size).below zz
   have HV3:Hid (∀ W,Below w3.heap.size w3 W→∀ k,k < l.length→W.cell? ⟨gv,k,none⟩=some (.int .i64 ((nameOf l k:Nat):Int))):=fun W zz k hk=>by
    have:=own_cellI (own_below HOV.out zz) k hk
    rwa [ofN_get,names_get _ _ hk] at this
   rw [← hsg,← hnm] at HWN HWK ⊢
   rw [← hnm] at HV3 HVL
   have HS:=Lib.hid (And.intro hsg hnm)
   have hv0I:(0:Int)≤(v0:Int):=by omega
   clear ow51 ow5 gr5 OW1 OW2 bx5 SK Z2 Z3 HBX HB0 hsg hnm hv0 HX0 hsz2
   go_wp2_with fail
   clear hrun5 hcv hmm
   go_loopw [13,14,15] (fun s t dd wr=>∃ (j c1 c2:Nat) (A1 A2:Option Addr),j≤y∧s=.slice A1 j c1∧t=.slice A2 j c2∧dd=.int .i64 ((wrun sg nm M V r j).d:Int)∧Hid (RSt w3 w3.heap.size w3.heap.size (w3.heap.size+1) A1 c1 A2 c2 j (wdl sg nm M V r j) (wkl sg nm M V r j) (wrun sg nm M V r j).K (wrun sg nm M V r j).M wr)) (fun s _ _ _=>y - lenOf s)
   case atStart=>exact ⟨0,0,0,none,none,by omega,rfl,rfl,rfl,S0.out⟩
   case round =>
    clear S0
    obtain ⟨j,c1,c2,A1,A2,hj,rfl,rfl,rfl,HR⟩:=hrel
    have hw:=HWK.out j
    have hwl:=hw.lt
    have hkl:=hw.kl
    have hmL:=hw.ml
    have hks:=hw.ks
    have hev:l.length=2*M:=by have:=HE.out;have:=HM.out;omega
    have hml:mt (wrun sg nm M V r j).d < l.length:=mt_lt hev hwl
    obtain ⟨o1x,o2x,djx,⟨D1,n1,hn1,mfx,HMF0⟩,⟨D2,n2,hn2,mmx,HMM0⟩,hbx⟩:=HR.out
    by_cases hlt:j < y
    ·have hdk:decide (j < y)=true:=by rw [decide_eq_true_iff];exact hlt
     have hlti:(j:Int) < (y:Int):=by omega
     have t2:j+1≤maxLen:=by simp only [maxLen];omega
     have t3:(j+1)*8≤140737488355328:=by omega
     have hvr:=HV3.out _ hbx _ hml
     have HNV:=HVL.out _ hml
     have hK1:(wrun sg nm M V r (j+1)).K=wK1 (wrun sg nm M V r j).K (wrun sg nm M V r j).d ((wrun sg nm M V r j).k nm):=rfl
     have hM1:(wrun sg nm M V r (j+1)).M=wM1 nm (wrun sg nm M V r j).M (wrun sg nm M V r j).d ((wrun sg nm M V r j).k nm):=rfl
     have hD1:(wrun sg nm M V r (j+1)).d=wNx sg (wrun sg nm M V r j).d ((wrun sg nm M V r j).k nm):=rfl
     have hLD:wdl sg nm M V r (j+1)=wdl sg nm M V r j++[((wrun sg nm M V r j).d:Int)]:=rfl
     have hLK:wkl sg nm M V r (j+1)=wkl sg nm M V r j++[(((wrun sg nm M V r j).k nm:Nat):Int)]:=rfl
     have hlk:=look_f mfx HMF0 ((wrun sg nm M V r j).d / 2) (by omega) (by omega)
     have hmt:=look_met mmx HMM0 (nm (mt (wrun sg nm M V r j).d)) (by omega) (by omega)
     have hkse:=hks ((wrun sg nm M V r j).d / 2) (by omega)
     have hel:(wrun sg nm M V r j).d / 2 < (wrun sg nm M V r j).K.length:=by omega
     have hvl2:nm (mt (wrun sg nm M V r j).d) < (wrun sg nm M V r j).M.length:=by omega
     have hsg:=HS.out.1
     have hkk:=(wrun sg nm M V r j).kinds (nm:=nm)
     obtain ⟨d,hd⟩:∃ d,d=(wrun sg nm M V r j).d:=⟨_,rfl⟩
     obtain ⟨K,hK⟩:∃ K,K=(wrun sg nm M V r j).K:=⟨_,rfl⟩
     obtain ⟨MB,hMB⟩:∃ MB,MB=(wrun sg nm M V r j).M:=⟨_,rfl⟩
     obtain ⟨md,hmd⟩:∃ md,md=mt d:=⟨_,rfl⟩
     obtain ⟨ed,hed⟩:∃ ed,ed=d / 2:=⟨_,rfl⟩
     obtain ⟨vv,hvv⟩:∃ vv,vv=nm md:=⟨_,rfl⟩
     have hdl:d < l.length:=by omega
     rw [← hd,← hmd] at hml
     rw [← hd,← hmd,← hvv] at hvr HNV hmt hvl2
     rw [← hd,← hK,← hed] at hlk
     rw [← hK,← hd] at hK1 hkse hel
     rw [← hed] at hkse hel
     rw [← hMB,← hd] at hM1
     rw [← hMB] at hmt hvl2 HMM0
     rw [← hK] at HMF0
     rw [← hd] at hD1 hLD hkk ⊢
     rw [← hK,← hMB,← hmd,← hvv,← hed] at hkk
     have HLD:=Lib.hid hLD
     have MT:Hid (∀ W,Calls Tryz.prog 95 #[.int .i64 (d:Int)] W fun e w'=>e=.returned (.int .i64 (md:Int))∧W=w'):=fun W=>by
      have:=rmate_p d W (by omega)
      rw [mt_mateN,← hmd] at this
      exact this
     have e1:(d:Int) / 2=(ed:Int):=by omega
     have e2:(d:Int).tdiv 2=(ed:Int):=by rw [Int.tdiv_eq_ediv_of_nonneg (by omega)];exact e1
     have ew:IntKind.i64.wrap (ed:Int)=(ed:Int):=by simp [IntKind.wrap,IntKind.signed,IntKind.bits];omega
     have hmI:(md:Int) < (l.length:Int):=by omega
     have hdI:(d:Int) < (l.length:Int):=by omega
     have hHED:=Lib.hid hed
     have hHMD:=Lib.hid hmd
     have hHVV:=Lib.hid hvv
     have hMBl:MB.length=V:=by rw [hMB];exact hmL
     have hvv9:vv≤1000000:=by omega
     clear hMBl hw hwl hkl hmL hks hev hd hK hMB hLD HNV
     rcases hkk with ⟨k,a⟩ | ⟨k,a⟩ | ⟨k,a,c0,q⟩ | ⟨k,a,c0,q⟩
     ·rw [k] at hK1 hM1 hD1 hLK
      have hlk':(Instr.lookup 129 (.map (some w3.heap.size)) (.int .i64 (ed:Int)) true).run Tryz.prog wr=.ok (.tuple #[.int .i64 0,.bool true]) wr:=by rw [a] at hlk;simpa using hlk
      have HMF:Hid (MF D1 (wrun sg nm M V r (j+1)).K):=by rw [hK1];exact HMF0
      have HMM:Hid (MM D2 (wrun sg nm M V r (j+1)).M):=by rw [hM1];exact HMM0
      have HNX:Hid ((wrun sg nm M V r (j+1)).d=l.getD md 0):=by rw [hD1,hsg,hHMD.out];rfl
      have HLK:Hid (wkl sg nm M V r (j+1)=wkl sg nm M V r j++[1]):=by rw [hLK];rfl
      have hn1:n1≤j+1:=by omega
      have hn2:n2≤j+1+1:=by omega
      clear hK1 hM1 hD1 hLK hlk hmt hkse hel hvl2 hvr a k HMF0 HMM0 hmd hed hvv hsg HR
      obtain ⟨wx,hwx⟩:∃ wx,wx=wr:=⟨_,rfl⟩
      subst hwx
      have hown3:=o1x.alloc (.cells #[.int .i64 (d:Int)] 3)
      have r3:=Rd.new wx 3 #[.int .i64 (d:Int)] 1 (I64 [(d:Int)]) (by simp [I64]) (by simp)
      have t4:w3.heap.size≤(wx.alloc (.cells #[.int .i64 (d:Int)] 3)).heap.size:=by have:=hbx.size;simp;omega
      have HX:=Lib.hid (And.intro o2x (And.intro mfx (And.intro mmx hbx)))
      have HDJ:=Lib.hid djx
      clear o2x mfx mmx hbx djx
      go_wp2_with (first
       | (at_builtin;go_must (refine wpList_append_rd _ rfl _ _ 25 rfl w3.heap.size 3 i0 (.int .i64 0) 8 Tryz.underlying25 hi0 hz0 hz1 hz2 rfl (.slice A1 j c1) j (I64 (wdl sg nm M V r j)) rfl hown3 (wx.heap.size+1) (some ⟨wx.heap.size,0,none⟩) 1 1 (I64 [(d:Int)]) rfl r3 (I64_one _) t2 t3 t4 ?_)))
      intro A6 c6 w6 hc6 hm6 hown6 hg6 hb6
      rw [← I64_append,← HLD.out] at hown6
      have MG:=Mod.ofGrown hg6
      have o26:=own_mod (HX.out.1.alloc (.cells #[.int .i64 (d:Int)] 3)) MG (fun q hq e=>HDJ.out q e.symm hq)
      have dj6:Hid (∀ k,(Value.slice A6 (j+1) c6).ownBlock=some k→(Value.slice A2 j c2).ownBlock≠some k):=fun k hk=>by
       rcases hb6 with q | q
       ·exact HDJ.out k (by rw [← q];exact hk)
       ·intro q2
        have:=(HX.out.1.lt k q2).2
        rw [hk] at q
        have q3:=Option.some.inj q
        (try simp at q3)
        omega
      have mf6:=World.ownsMap.kept (World.ownsMap.alloc HX.out.2.1 (.cells #[.int .i64 (d:Int)] 3)) hg6 (fun e=>own_map_ne hown3 (World.ownsMap.alloc HX.out.2.1 _) e.symm)
      have mm6:=World.ownsMap.kept (World.ownsMap.alloc HX.out.2.2.1 (.cells #[.int .i64 (d:Int)] 3)) hg6 (fun e=>own_map_ne hown3 (World.ownsMap.alloc HX.out.2.2.1 _) e.symm)
      have hb6':=(HX.out.2.2.2.alloc HX.out.2.2.2.size (.cells #[.int .i64 (d:Int)] 3)).trans (Below.appended hown3 hg6 t4)
      have H6:=Lib.hid (And.intro hown6 (And.intro mf6 (And.intro mm6 hb6')))
      have hown3':=o26.alloc (.cells #[.int .i64 1] 3)
      have r3':=Rd.new w6 3 #[.int .i64 1] 1 (I64 [1]) (by simp [I64]) (by simp)
      have t4':w3.heap.size≤(w6.alloc (.cells #[.int .i64 1] 3)).heap.size:=by have:=hb6'.size;simp;omega
      clear hown6 mf6 mm6 hb6' o26 MG hown3 r3 t4 HX HDJ hb6 hg6 hc6 hm6 o1x
      go_wp2_with (first
       | (at_builtin;go_must (refine wpList_append_rd _ rfl _ _ 25 rfl w3.heap.size 3 i0 (.int .i64 0) 8 Tryz.underlying25 hi0 hz0 hz1 hz2 rfl (.slice A2 j c2) j (I64 (wkl sg nm M V r j)) rfl hown3' (w6.heap.size+1) (some ⟨w6.heap.size,0,none⟩) 1 1 (I64 [1]) rfl r3' (I64_one _) t2 t3 t4' ?_)))
      intro A7 c7 w7 hc7 hm7 hown7 hg7 hb7
      rw [← I64_append,← HLK.out] at hown7
      have MG:=Mod.ofGrown hg7
      have o17:=own_mod (H6.out.1.alloc (.cells #[.int .i64 1] 3)) MG (fun q hq e=>dj6.out q hq e.symm)
      have dj7:Hid (∀ k,(Value.slice A6 (j+1) c6).ownBlock=some k→(Value.slice A7 (j+1) c7).ownBlock≠some k):=fun k hk q2=>by
       rcases hb7 with q | q
       ·exact dj6.out k hk (by rw [← q];exact q2)
       ·have:=(H6.out.1.lt k hk).2
        rw [q2] at q
        have q3:=Option.some.inj q
        (try simp at q3)
        omega
      have mf7:=World.ownsMap.kept (World.ownsMap.alloc H6.out.2.1 (.cells #[.int .i64 1] 3)) hg7 (fun e=>own_map_ne hown3' (World.ownsMap.alloc H6.out.2.1 _) e.symm)
      have mm7:=World.ownsMap.kept (World.ownsMap.alloc H6.out.2.2.1 (.cells #[.int .i64 1] 3)) hg7 (fun e=>own_map_ne hown3' (World.ownsMap.alloc H6.out.2.2.1 _) e.symm)
      have hb7':=(H6.out.2.2.2.alloc H6.out.2.2.2.size (.cells #[.int .i64 1] 3)).trans (Below.appended hown3' hg7 t4')
      have R7:Hid (RSt w3 w3.heap.size w3.heap.size (w3.heap.size+1) A6 c6 A7 c7 (j+1) (wdl sg nm M V r (j+1)) (wkl sg nm M V r (j+1)) (wrun sg nm M V r (j+1)).K (wrun sg nm M V r (j+1)).M w7) :=
       ⟨o17,hown7,dj7.out,⟨_,_,hn1,mf7,HMF.out⟩,⟨_,_,hn2,mm7,HMM.out⟩,hb7'⟩
      obtain ⟨x0,x1,x2⟩:=SK3.out _ hb7'
      have ha:=HA3.out _ hb7'
      clear o17 hown7 mf7 mm7 hb7' MG hown3' r3' t4' H6 dj6 dj7 hb7 hg7 hc7 hm7
      obtain ⟨ba,oa,rfl,_,kka⟩:=ha.i64 (by omega)
      have y0:=kka md hml
      rw [ofN_get] at y0
      have HY0:Hid ((wrun sg nm M V r (j+1)).d=l.getD md 0):=HNX.out
      clear kka
      have hmI:(md:Int) < (l.length:Int):=by omega
      generalize l.getD md 0=yy at *
      go_wp2_with fail
      refine (MT.out _).mono ?_
      rintro e w' ⟨rfl,rfl⟩
      go_wp2_with fail
      go_roundw
      case rel=>exact ⟨j+1,c6,c7,A6,A7,by omega,rfl,rfl,by rw [HY0.out],R7.out⟩
      case measure=>simp [lenOf];omega
     ·rw [k] at hK1 hM1 hD1 hLK
      have hlk':(Instr.lookup 129 (.map (some w3.heap.size)) (.int .i64 (ed:Int)) true).run Tryz.prog wr=.ok (.tuple #[.int .i64 2,.bool true]) wr:=by rw [a] at hlk;simpa using hlk
      have HMF:Hid (MF D1 (wrun sg nm M V r (j+1)).K):=by rw [hK1];exact HMF0
      have HMM:Hid (MM D2 (wrun sg nm M V r (j+1)).M):=by rw [hM1];exact HMM0
      have HNX:Hid ((wrun sg nm M V r (j+1)).d=l.getD d 0):=by rw [hD1,hsg];rfl
      have HLK:Hid (wkl sg nm M V r (j+1)=wkl sg nm M V r j++[3]):=by rw [hLK];rfl
      have hn1:n1≤j+1:=by omega
      have hn2:n2≤j+1+1:=by omega
      clear hK1 hM1 hD1 hLK hlk hmt hkse hel hvl2 hvr a k HMF0 HMM0 hmd hed hvv hsg HR
      obtain ⟨wx,hwx⟩:∃ wx,wx=wr:=⟨_,rfl⟩
      subst hwx
      have hown3:=o1x.alloc (.cells #[.int .i64 (d:Int)] 3)
      have r3:=Rd.new wx 3 #[.int .i64 (d:Int)] 1 (I64 [(d:Int)]) (by simp [I64]) (by simp)
      have t4:w3.heap.size≤(wx.alloc (.cells #[.int .i64 (d:Int)] 3)).heap.size:=by have:=hbx.size;simp;omega
      have HX:=Lib.hid (And.intro o2x (And.intro mfx (And.intro mmx hbx)))
      have HDJ:=Lib.hid djx
      clear o2x mfx mmx hbx djx
      go_wp2_with (first
       | (at_builtin;go_must (refine wpList_append_rd _ rfl _ _ 25 rfl w3.heap.size 3 i0 (.int .i64 0) 8 Tryz.underlying25 hi0 hz0 hz1 hz2 rfl (.slice A1 j c1) j (I64 (wdl sg nm M V r j)) rfl hown3 (wx.heap.size+1) (some ⟨wx.heap.size,0,none⟩) 1 1 (I64 [(d:Int)]) rfl r3 (I64_one _) t2 t3 t4 ?_)))
      intro A6 c6 w6 hc6 hm6 hown6 hg6 hb6
      rw [← I64_append,← HLD.out] at hown6
      have MG:=Mod.ofGrown hg6
      have o26:=own_mod (HX.out.1.alloc (.cells #[.int .i64 (d:Int)] 3)) MG (fun q hq e=>HDJ.out q e.symm hq)
      have dj6:Hid (∀ k,(Value.slice A6 (j+1) c6).ownBlock=some k→(Value.slice A2 j c2).ownBlock≠some k):=fun k hk=>by
       rcases hb6 with q | q
       ·exact HDJ.out k (by rw [← q];exact hk)
       ·intro q2
        have:=(HX.out.1.lt k q2).2
        rw [hk] at q
        have q3:=Option.some.inj q
        (try simp at q3)
        omega
      have mf6:=World.ownsMap.kept (World.ownsMap.alloc HX.out.2.1 (.cells #[.int .i64 (d:Int)] 3)) hg6 (fun e=>own_map_ne hown3 (World.ownsMap.alloc HX.out.2.1 _) e.symm)
      have mm6:=World.ownsMap.kept (World.ownsMap.alloc HX.out.2.2.1 (.cells #[.int .i64 (d:Int)] 3)) hg6 (fun e=>own_map_ne hown3 (World.ownsMap.alloc HX.out.2.2.1 _) e.symm)
      have hb6':=(HX.out.2.2.2.alloc HX.out.2.2.2.size (.cells #[.int .i64 (d:Int)] 3)).trans (Below.appended hown3 hg6 t4)
      have H6:=Lib.hid (And.intro hown6 (And.intro mf6 (And.intro mm6 hb6')))
      have hown3':=o26.alloc (.cells #[.int .i64 3] 3)
      have r3':=Rd.new w6 3 #[.int .i64 3] 1 (I64 [3]) (by simp [I64]) (by simp)
      have t4':w3.heap.size≤(w6.alloc (.cells #[.int .i64 3] 3)).heap.size:=by have:=hb6'.size;simp;omega
      clear hown6 mf6 mm6 hb6' o26 MG hown3 r3 t4 HX HDJ hb6 hg6 hc6 hm6 o1x
      go_wp2_with (first
       | (at_builtin;go_must (refine wpList_append_rd _ rfl _ _ 25 rfl w3.heap.size 3 i0 (.int .i64 0) 8 Tryz.underlying25 hi0 hz0 hz1 hz2 rfl (.slice A2 j c2) j (I64 (wkl sg nm M V r j)) rfl hown3' (w6.heap.size+1) (some ⟨w6.heap.size,0,none⟩) 1 1 (I64 [3]) rfl r3' (I64_one _) t2 t3 t4' ?_)))
      intro A7 c7 w7 hc7 hm7 hown7 hg7 hb7
      rw [← I64_append,← HLK.out] at hown7
      have MG:=Mod.ofGrown hg7
      have o17:=own_mod (H6.out.1.alloc (.cells #[.int .i64 3] 3)) MG (fun q hq e=>dj6.out q hq e.symm)
      have dj7:Hid (∀ k,(Value.slice A6 (j+1) c6).ownBlock=some k→(Value.slice A7 (j+1) c7).ownBlock≠some k):=fun k hk q2=>by
       rcases hb7 with q | q
       ·exact dj6.out k hk (by rw [← q];exact q2)
       ·have:=(H6.out.1.lt k hk).2
        rw [q2] at q
        have q3:=Option.some.inj q
        (try simp at q3)
        omega
      have mf7:=World.ownsMap.kept (World.ownsMap.alloc H6.out.2.1 (.cells #[.int .i64 3] 3)) hg7 (fun e=>own_map_ne hown3' (World.ownsMap.alloc H6.out.2.1 _) e.symm)
      have mm7:=World.ownsMap.kept (World.ownsMap.alloc H6.out.2.2.1 (.cells #[.int .i64 3] 3)) hg7 (fun e=>own_map_ne hown3' (World.ownsMap.alloc H6.out.2.2.1 _) e.symm)
      have hb7':=(H6.out.2.2.2.alloc H6.out.2.2.2.size (.cells #[.int .i64 3] 3)).trans (Below.appended hown3' hg7 t4')
      have R7:Hid (RSt w3 w3.heap.size w3.heap.size (w3.heap.size+1) A6 c6 A7 c7 (j+1) (wdl sg nm M V r (j+1)) (wkl sg nm M V r (j+1)) (wrun sg nm M V r (j+1)).K (wrun sg nm M V r (j+1)).M w7) :=
       ⟨o17,hown7,dj7.out,⟨_,_,hn1,mf7,HMF.out⟩,⟨_,_,hn2,mm7,HMM.out⟩,hb7'⟩
      obtain ⟨x0,x1,x2⟩:=SK3.out _ hb7'
      have ha:=HA3.out _ hb7'
      clear o17 hown7 mf7 mm7 hb7' MG hown3' r3' t4' H6 dj6 dj7 hb7 hg7 hc7 hm7
      obtain ⟨ba,oa,rfl,_,kka⟩:=ha.i64 (by omega)
      have y0:=kka d hdl
      rw [ofN_get] at y0
      have HY0:Hid ((wrun sg nm M V r (j+1)).d=l.getD d 0):=HNX.out
      clear kka
      generalize l.getD d 0=yy at *
      go_wp2_with fail
      go_roundw
      case rel=>exact ⟨j+1,c6,c7,A6,A7,by omega,rfl,rfl,by rw [HY0.out],R7.out⟩
      case measure=>simp [lenOf];omega
     ·rw [k] at hK1 hM1 hD1 hLK
      have hk1:K.getD ed 0=-1:=by rcases hkse with x | x | x;exact x;exact absurd x a;exact absurd x c0
      have hlk':(Instr.lookup 129 (.map (some w3.heap.size)) (.int .i64 (ed:Int)) true).run Tryz.prog wr=.ok (.tuple #[.int .i64 0,.bool false]) wr:=by rw [hk1] at hlk;simpa using hlk
      have hmt':(Instr.lookup 129 (.map (some (w3.heap.size+1))) (.int .i64 (vv:Int)) false).run Tryz.prog wr=.ok (.int .i64 1) wr:=by rw [q] at hmt;simpa using hmt
      obtain ⟨u1,hrun1,of1,gr1⟩:=put_m mfx (by omega) ed (by omega) 2 (by omega)
      have HMF:Hid (MF (D1.put (kI ed) (.lit (.int .i64 2))) (wrun sg nm M V r (j+1)).K):=by
       rw [hK1]
       have:=HMF0.put hel 2 (by omega)
       unfold wK1
       rw [if_pos (by omega),← hed];exact this
      have HMM:Hid (MM D2 (wrun sg nm M V r (j+1)).M):=by rw [hM1];exact HMM0
      have HNX:Hid ((wrun sg nm M V r (j+1)).d=l.getD d 0):=by rw [hD1,hsg];rfl
      have HLK:Hid (wkl sg nm M V r (j+1)=wkl sg nm M V r j++[2]):=by rw [hLK];rfl
      have hn1:n1+1≤j+1:=by omega
      have hn2:n2≤j+1+1:=by omega
      have o1u:=own_mod o1x (Mod.ofGrown gr1) (fun x hx e=>own_map_ne o1x mfx (by rw [hx];exact e))
      have o2u:=own_mod o2x (Mod.ofGrown gr1) (fun x hx e=>own_map_ne o2x mfx (by rw [hx];exact e))
      have mmu:=World.ownsMap.kept mmx gr1 (by intro e;have:=Option.some.inj e;omega)
      have hbu:=hbx.grown gr1 hbx.size (fun x hx=>by cases hx;exact Nat.le_refl _)
      clear hK1 hM1 hD1 hLK hlk hmt hkse hel hvl2 a c0 q k HMF0 HMM0 hmd hed hvv hsg HR o1x o2x mfx mmx hbx hk1 gr1
      have o1x:=o1u
      have o2x:=o2u
      have mfx:=of1
      have mmx:=mmu
      have hbx:=hbu
      clear o1u o2u of1 mmu hbu
      obtain ⟨wx,hwx⟩:∃ wx,wx=u1:=⟨_,rfl⟩
      subst hwx
      go_wp2_with fail
      refine (MT.out _).mono ?_
      rintro e w' ⟨rfl,rfl⟩
      have hown3:=o1x.alloc (.cells #[.int .i64 (d:Int)] 3)
      have r3:=Rd.new wx 3 #[.int .i64 (d:Int)] 1 (I64 [(d:Int)]) (by simp [I64]) (by simp)
      have t4:w3.heap.size≤(wx.alloc (.cells #[.int .i64 (d:Int)] 3)).heap.size:=by have:=hbx.size;simp;omega
      have HX:=Lib.hid (And.intro o2x (And.intro mfx (And.intro mmx hbx)))
      have HDJ:=Lib.hid djx
      clear o2x mfx mmx hbx djx
      go_wp2_with (first
       | (at_builtin;go_must (refine wpList_append_rd _ rfl _ _ 25 rfl w3.heap.size 3 i0 (.int .i64 0) 8 Tryz.underlying25 hi0 hz0 hz1 hz2 rfl (.slice A1 j c1) j (I64 (wdl sg nm M V r j)) rfl hown3 (wx.heap.size+1) (some ⟨wx.heap.size,0,none⟩) 1 1 (I64 [(d:Int)]) rfl r3 (I64_one _) t2 t3 t4 ?_)))
      intro A6 c6 w6 hc6 hm6 hown6 hg6 hb6
      rw [← I64_append,← HLD.out] at hown6
      have MG:=Mod.ofGrown hg6
      have o26:=own_mod (HX.out.1.alloc (.cells #[.int .i64 (d:Int)] 3)) MG (fun q hq e=>HDJ.out q e.symm hq)
      have dj6:Hid (∀ k,(Value.slice A6 (j+1) c6).ownBlock=some k→(Value.slice A2 j c2).ownBlock≠some k):=fun k hk=>by
       rcases hb6 with q | q
       ·exact HDJ.out k (by rw [← q];exact hk)
       ·intro q2
        have:=(HX.out.1.lt k q2).2
        rw [hk] at q
        have q3:=Option.some.inj q
        (try simp at q3)
        omega
      have mf6:=World.ownsMap.kept (World.ownsMap.alloc HX.out.2.1 (.cells #[.int .i64 (d:Int)] 3)) hg6 (fun e=>own_map_ne hown3 (World.ownsMap.alloc HX.out.2.1 _) e.symm)
      have mm6:=World.ownsMap.kept (World.ownsMap.alloc HX.out.2.2.1 (.cells #[.int .i64 (d:Int)] 3)) hg6 (fun e=>own_map_ne hown3 (World.ownsMap.alloc HX.out.2.2.1 _) e.symm)
      have hb6':=(HX.out.2.2.2.alloc HX.out.2.2.2.size (.cells #[.int .i64 (d:Int)] 3)).trans (Below.appended hown3 hg6 t4)
      have H6:=Lib.hid (And.intro hown6 (And.intro mf6 (And.intro mm6 hb6')))
      have hown3':=o26.alloc (.cells #[.int .i64 2] 3)
      have r3':=Rd.new w6 3 #[.int .i64 2] 1 (I64 [2]) (by simp [I64]) (by simp)
      have t4':w3.heap.size≤(w6.alloc (.cells #[.int .i64 2] 3)).heap.size:=by have:=hb6'.size;simp;omega
      clear hown6 mf6 mm6 hb6' o26 MG hown3 r3 t4 HX HDJ hb6 hg6 hc6 hm6 o1x
      go_wp2_with (first
       | (at_builtin;go_must (refine wpList_append_rd _ rfl _ _ 25 rfl w3.heap.size 3 i0 (.int .i64 0) 8 Tryz.underlying25 hi0 hz0 hz1 hz2 rfl (.slice A2 j c2) j (I64 (wkl sg nm M V r j)) rfl hown3' (w6.heap.size+1) (some ⟨w6.heap.size,0,none⟩) 1 1 (I64 [2]) rfl r3' (I64_one _) t2 t3 t4' ?_)))
      intro A7 c7 w7 hc7 hm7 hown7 hg7 hb7
      rw [← I64_append,← HLK.out] at hown7
      have MG:=Mod.ofGrown hg7
      have o17:=own_mod (H6.out.1.alloc (.cells #[.int .i64 2] 3)) MG (fun q hq e=>dj6.out q hq e.symm)
      have dj7:Hid (∀ k,(Value.slice A6 (j+1) c6).ownBlock=some k→(Value.slice A7 (j+1) c7).ownBlock≠some k):=fun k hk q2=>by
       rcases hb7 with q | q
       ·exact dj6.out k hk (by rw [← q];exact q2)
       ·have:=(H6.out.1.lt k hk).2
        rw [q2] at q
        have q3:=Option.some.inj q
        (try simp at q3)
        omega
      have mf7:=World.ownsMap.kept (World.ownsMap.alloc H6.out.2.1 (.cells #[.int .i64 2] 3)) hg7 (fun e=>own_map_ne hown3' (World.ownsMap.alloc H6.out.2.1 _) e.symm)
      have mm7:=World.ownsMap.kept (World.ownsMap.alloc H6.out.2.2.1 (.cells #[.int .i64 2] 3)) hg7 (fun e=>own_map_ne hown3' (World.ownsMap.alloc H6.out.2.2.1 _) e.symm)
      have hb7':=(H6.out.2.2.2.alloc H6.out.2.2.2.size (.cells #[.int .i64 2] 3)).trans (Below.appended hown3' hg7 t4')
      have R7:Hid (RSt w3 w3.heap.size w3.heap.size (w3.heap.size+1) A6 c6 A7 c7 (j+1) (wdl sg nm M V r (j+1)) (wkl sg nm M V r (j+1)) (wrun sg nm M V r (j+1)).K (wrun sg nm M V r (j+1)).M w7) :=
       ⟨o17,hown7,dj7.out,⟨_,_,hn1,mf7,HMF.out⟩,⟨_,_,hn2,mm7,HMM.out⟩,hb7'⟩
      obtain ⟨x0,x1,x2⟩:=SK3.out _ hb7'
      have ha:=HA3.out _ hb7'
      clear o17 hown7 mf7 mm7 hb7' MG hown3' r3' t4' H6 dj6 dj7 hb7 hg7 hc7 hm7
      obtain ⟨ba,oa,rfl,_,kka⟩:=ha.i64 (by omega)
      have y0:=kka d hdl
      rw [ofN_get] at y0
      have HY0:Hid ((wrun sg nm M V r (j+1)).d=l.getD d 0):=HNX.out
      clear kka
      generalize l.getD d 0=yy at *
      go_wp2_with fail
      go_roundw
      case rel=>exact ⟨j+1,c6,c7,A6,A7,by omega,rfl,rfl,by rw [HY0.out],R7.out⟩
      case measure=>simp [lenOf];omega
     ·rw [k] at hK1 hM1 hD1 hLK
      have hk1:K.getD ed 0=-1:=by rcases hkse with x | x | x;exact x;exact absurd x a;exact absurd x c0
      have hlk':(Instr.lookup 129 (.map (some w3.heap.size)) (.int .i64 (ed:Int)) true).run Tryz.prog wr=.ok (.tuple #[.int .i64 0,.bool false]) wr:=by rw [hk1] at hlk;simpa using hlk
      have hmt':(Instr.lookup 129 (.map (some (w3.heap.size+1))) (.int .i64 (vv:Int)) false).run Tryz.prog wr=.ok (.int .i64 0) wr:=by rw [if_neg q] at hmt;exact hmt
      obtain ⟨u0,hrun0,om0,gr0⟩:=put_m mmx (by omega) vv (by omega) 1 (by omega)
      have mf0:=World.ownsMap.kept mfx gr0 (by intro e;have:=Option.some.inj e;omega)
      obtain ⟨u1,hrun1,of1,gr1⟩:=put_m mf0 (by omega) ed (by omega) 0 (by omega)
      have HMF:Hid (MF (D1.put (kI ed) (.lit (.int .i64 0))) (wrun sg nm M V r (j+1)).K):=by
       rw [hK1]
       have:=HMF0.put hel 0 (by omega)
       unfold wK1
       rw [if_pos (by omega),← hed];exact this
      have HMM:Hid (MM (D2.put (kI vv) (.lit (.int .i64 1))) (wrun sg nm M V r (j+1)).M):=by
       rw [hM1]
       have:=HMM0.put hvl2
       unfold wM1
       rw [if_pos rfl,← hmd,← hvv];exact this
      have HNX:Hid ((wrun sg nm M V r (j+1)).d=l.getD md 0):=by rw [hD1,hsg,hHMD.out];rfl
      have HLK:Hid (wkl sg nm M V r (j+1)=wkl sg nm M V r j++[0]):=by rw [hLK];rfl
      have hn1:n1+1≤j+1:=by omega
      have hn2:n2+1≤j+1+1:=by omega
      have o1v:=own_mod o1x (Mod.ofGrown gr0) (fun x hx e=>own_map_ne o1x mmx (by rw [hx];exact e))
      have o2v:=own_mod o2x (Mod.ofGrown gr0) (fun x hx e=>own_map_ne o2x mmx (by rw [hx];exact e))
      have hbv:=hbx.grown gr0 hbx.size (fun x hx=>by cases hx;omega)
      have o1u:=own_mod o1v (Mod.ofGrown gr1) (fun x hx e=>own_map_ne o1v mf0 (by rw [hx];exact e))
      have o2u:=own_mod o2v (Mod.ofGrown gr1) (fun x hx e=>own_map_ne o2v mf0 (by rw [hx];exact e))
      have mmu:=World.ownsMap.kept om0 gr1 (by intro e;have:=Option.some.inj e;omega)
      have hbu:=hbv.grown gr1 hbv.size (fun x hx=>by cases hx;exact Nat.le_refl _)
      clear hK1 hM1 hD1 hLK hlk hmt hkse hel hvl2 a c0 q k HMF0 HMM0 hmd hed hvv hsg HR o1x o2x mfx mmx hbx hk1 gr1 gr0 o1v o2v hbv mf0 om0
      have o1x:=o1u
      have o2x:=o2u
      have mfx:=of1
      have mmx:=mmu
      have hbx:=hbu
      clear o1u o2u of1 mmu hbu
      obtain ⟨wx,hwx⟩:∃ wx,wx=u1:=⟨_,rfl⟩
      subst hwx
      go_wp2_with fail
      refine (MT.out _).mono ?_
      rintro e w' ⟨rfl,rfl⟩
      go_wp2_with fail
      refine (MT.out _).mono ?_
      rintro e w' ⟨rfl,rfl⟩
      have hown3:=o1x.alloc (.cells #[.int .i64 (d:Int)] 3)
      have r3:=Rd.new wx 3 #[.int .i64 (d:Int)] 1 (I64 [(d:Int)]) (by simp [I64]) (by simp)
      have t4:w3.heap.size≤(wx.alloc (.cells #[.int .i64 (d:Int)] 3)).heap.size:=by have:=hbx.size;simp;omega
      have HX:=Lib.hid (And.intro o2x (And.intro mfx (And.intro mmx hbx)))
      have HDJ:=Lib.hid djx
      clear o2x mfx mmx hbx djx
      go_wp2_with (first
       | (at_builtin;go_must (refine wpList_append_rd _ rfl _ _ 25 rfl w3.heap.size 3 i0 (.int .i64 0) 8 Tryz.underlying25 hi0 hz0 hz1 hz2 rfl (.slice A1 j c1) j (I64 (wdl sg nm M V r j)) rfl hown3 (wx.heap.size+1) (some ⟨wx.heap.size,0,none⟩) 1 1 (I64 [(d:Int)]) rfl r3 (I64_one _) t2 t3 t4 ?_)))
      intro A6 c6 w6 hc6 hm6 hown6 hg6 hb6
      rw [← I64_append,← HLD.out] at hown6
      have MG:=Mod.ofGrown hg6
      have o26:=own_mod (HX.out.1.alloc (.cells #[.int .i64 (d:Int)] 3)) MG (fun q hq e=>HDJ.out q e.symm hq)
      have dj6:Hid (∀ k,(Value.slice A6 (j+1) c6).ownBlock=some k→(Value.slice A2 j c2).ownBlock≠some k):=fun k hk=>by
       rcases hb6 with q | q
       ·exact HDJ.out k (by rw [← q];exact hk)
       ·intro q2
        have:=(HX.out.1.lt k q2).2
        rw [hk] at q
        have q3:=Option.some.inj q
        (try simp at q3)
        omega
      have mf6:=World.ownsMap.kept (World.ownsMap.alloc HX.out.2.1 (.cells #[.int .i64 (d:Int)] 3)) hg6 (fun e=>own_map_ne hown3 (World.ownsMap.alloc HX.out.2.1 _) e.symm)
      have mm6:=World.ownsMap.kept (World.ownsMap.alloc HX.out.2.2.1 (.cells #[.int .i64 (d:Int)] 3)) hg6 (fun e=>own_map_ne hown3 (World.ownsMap.alloc HX.out.2.2.1 _) e.symm)
      have hb6':=(HX.out.2.2.2.alloc HX.out.2.2.2.size (.cells #[.int .i64 (d:Int)] 3)).trans (Below.appended hown3 hg6 t4)
      have H6:=Lib.hid (And.intro hown6 (And.intro mf6 (And.intro mm6 hb6')))
      have hown3':=o26.alloc (.cells #[.int .i64 0] 3)
      have r3':=Rd.new w6 3 #[.int .i64 0] 1 (I64 [0]) (by simp [I64]) (by simp)
      have t4':w3.heap.size≤(w6.alloc (.cells #[.int .i64 0] 3)).heap.size:=by have:=hb6'.size;simp;omega
      clear hown6 mf6 mm6 hb6' o26 MG hown3 r3 t4 HX HDJ hb6 hg6 hc6 hm6 o1x
      go_wp2_with (first
       | (at_builtin;go_must (refine wpList_append_rd _ rfl _ _ 25 rfl w3.heap.size 3 i0 (.int .i64 0) 8 Tryz.underlying25 hi0 hz0 hz1 hz2 rfl (.slice A2 j c2) j (I64 (wkl sg nm M V r j)) rfl hown3' (w6.heap.size+1) (some ⟨w6.heap.size,0,none⟩) 1 1 (I64 [0]) rfl r3' (I64_one _) t2 t3 t4' ?_)))
      intro A7 c7 w7 hc7 hm7 hown7 hg7 hb7
      rw [← I64_append,← HLK.out] at hown7
      have MG:=Mod.ofGrown hg7
      have o17:=own_mod (H6.out.1.alloc (.cells #[.int .i64 0] 3)) MG (fun q hq e=>dj6.out q hq e.symm)
      have dj7:Hid (∀ k,(Value.slice A6 (j+1) c6).ownBlock=some k→(Value.slice A7 (j+1) c7).ownBlock≠some k):=fun k hk q2=>by
       rcases hb7 with q | q
       ·exact dj6.out k hk (by rw [← q];exact q2)
       ·have:=(H6.out.1.lt k hk).2
        rw [q2] at q
        have q3:=Option.some.inj q
        (try simp at q3)
        omega
      have mf7:=World.ownsMap.kept (World.ownsMap.alloc H6.out.2.1 (.cells #[.int .i64 0] 3)) hg7 (fun e=>own_map_ne hown3' (World.ownsMap.alloc H6.out.2.1 _) e.symm)
      have mm7:=World.ownsMap.kept (World.ownsMap.alloc H6.out.2.2.1 (.cells #[.int .i64 0] 3)) hg7 (fun e=>own_map_ne hown3' (World.ownsMap.alloc H6.out.2.2.1 _) e.symm)
      have hb7':=(H6.out.2.2.2.alloc H6.out.2.2.2.size (.cells #[.int .i64 0] 3)).trans (Below.appended hown3' hg7 t4')
      have R7:Hid (RSt w3 w3.heap.size w3.heap.size (w3.heap.size+1) A6 c6 A7 c7 (j+1) (wdl sg nm M V r (j+1)) (wkl sg nm M V r (j+1)) (wrun sg nm M V r (j+1)).K (wrun sg nm M V r (j+1)).M w7) :=
       ⟨o17,hown7,dj7.out,⟨_,_,hn1,mf7,HMF.out⟩,⟨_,_,hn2,mm7,HMM.out⟩,hb7'⟩
      obtain ⟨x0,x1,x2⟩:=SK3.out _ hb7'
      have ha:=HA3.out _ hb7'
      clear o17 hown7 mf7 mm7 hb7' MG hown3' r3' t4' H6 dj6 dj7 hb7 hg7 hc7 hm7
      obtain ⟨ba,oa,rfl,_,kka⟩:=ha.i64 (by omega)
      have y0:=kka md hml
      rw [ofN_get] at y0
      have HY0:Hid ((wrun sg nm M V r (j+1)).d=l.getD md 0):=HNX.out
      clear kka
      have hmI:(md:Int) < (l.length:Int):=by omega
      generalize l.getD md 0=yy at *
      go_wp2_with fail
      refine (MT.out _).mono ?_
      rintro e w' ⟨rfl,rfl⟩
      go_wp2_with fail
      go_roundw
      case rel=>exact ⟨j+1,c6,c7,A6,A7,by omega,rfl,rfl,by rw [HY0.out],R7.out⟩
      case measure=>simp [lenOf];omega
    ·obtain rfl:j=y:=by omega
     have hdk:decide (j < j)=false:=by simp
     have ho1:=Lib.hid (o1x.base_le' B3.out.size)
     have ho2:=Lib.hid (o2x.base_le' B3.out.size)
     have hbb:=Lib.hid (B3.out.trans (hbx.mono B3.out.size))
     clear o1x o2x djx mfx mmx hbx HMF0 HMM0 HR
     go_wp2_with fail
     go_ret2
     rw [← HS.out.1,← HS.out.2]
     exact ⟨A1,c1,A2,c2,rfl,ho1.out,ho2.out,hbb.out⟩


open Go.RowKit Go.Maps
def wkn (sg nm:Nat→Nat) (m V r:Nat):Nat→List Nat
 | 0=>[]
 | j+1=>wkn sg nm m V r j++[(wrun sg nm m V r j).k nm]
theorem wkl_wkn (sg nm:Nat→Nat) (m V r:Nat):∀ j,wkl sg nm m V r j=ofN (wkn sg nm m V r j)
 | 0=>rfl
 | j+1=>by
   unfold wkl wkn
   rw [wkl_wkn sg nm m V r j,ofN_append];rfl
theorem wk_lt (sg nm:Nat→Nat) (m V r j:Nat):(wrun sg nm m V r j).k nm < 4:=by
 rcases (wrun sg nm m V r j).kinds (nm:=nm) with ⟨a,_⟩ | ⟨a,_⟩ | ⟨a,_⟩ | ⟨a,_⟩ <;> omega
theorem wkn_lt (sg nm:Nat→Nat) (m V r:Nat):∀ j,∀ x∈wkn sg nm m V r j,x < 4
 | 0,x,h=>by simp [wkn] at h
 | j+1,x,h=>by
   unfold wkn at h
   rcases List.mem_append.1 h with y | y
   ·exact wkn_lt sg nm m V r j x y
   ·simp at y;rw [y];exact wk_lt sg nm m V r j
theorem wstk_mono (sg nm:Nat→Nat) (m V r i:Nat):∀ N k,k≤N→i < 2*k→(wst sg nm m V r N).getD i 0=(wst sg nm m V r k).getD i 0
 | 0,k,h,hi=>by omega
 | N+1,k,h,hi=>by
   rcases Nat.lt_or_ge N k with c | c
   ·rw [show k=N+1 by omega]
   ·rw [← wstk_mono sg nm m V r i N k c hi]
    have:=wst_len sg nm m V r N
    rw [show wst sg nm m V r (N+1)=wst sg nm m V r N++[((wrun sg nm m V r N).d:Int),(((wrun sg nm m V r N).k nm:Nat):Int)] from rfl]
    rw [List.getD_eq_getElem?_getD,List.getElem?_append_left (by omega),← List.getD_eq_getElem?_getD]
theorem wst_dk (sg nm:Nat→Nat) (m V r:Nat) {N k:Nat} (h:k < N):(wst sg nm m V r N).getD (2*k) 0=((wrun sg nm m V r k).d:Int)∧(wst sg nm m V r N).getD (2*k+1) 0=(((wrun sg nm m V r k).k nm:Nat):Int):=by
 rw [wstk_mono sg nm m V r _ N (k+1) (by omega) (by omega),wstk_mono sg nm m V r _ N (k+1) (by omega) (by omega)]
 have:=wst_len sg nm m V r k
 unfold wst
 constructor
 ·rw [List.getD_eq_getElem?_getD,List.getElem?_append_right (by omega),this,Nat.sub_self];rfl
 ·rw [List.getD_eq_getElem?_getD,List.getElem?_append_right (by omega),this,show 2*k+1 - 2*k=1 by omega];rfl
theorem kindsN_wkn (sg nm:Nat→Nat) (m V r N:Nat):∀ k,k≤N→kindsN (wst sg nm m V r N) k=wkn sg nm m V r k
 | 0,_=>rfl
 | k+1,h=>by
   have h2:=(wst_dk sg nm m V r (show k < N by omega)).2
   have h4:=wk_lt sg nm m V r k
   unfold kindsN wkn
   rw [h2,if_pos ⟨by omega,by omega⟩,kindsN_wkn sg nm m V r N k (by omega),Int.toNat_natCast]
end Go.Proofs.YtajjgpkahljjmaaGreatDoor
