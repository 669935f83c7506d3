/- The document's others: the vertices that an edge isn't at, each by its darts. -/
import Derived.Test.YtdinmjciippchaaGreatZg21
import Derived.Test.YtdinmjciippchaaGreatZg22
import Derived.Test.YtdinmjciippchaaGreatZg2
import Derived.Test.YtdinmjciippchaaGreatZPMake
import Derived.Test.YtdinmjciippchaaGreatZg4
import Derived.Test.YtdinmjciippchaaGreatZUCut
import Derived.Test.YtdinmjciippchaaGreatZg5
import Derived.Test.YtdinmjciippchaaGreatZg1
import Derived.Test.YtdinmjciippchaaGreatZg3
set_option linter.unusedVariables false
open Go.RowKit
namespace Go.Proofs.YtdinmjciippchaaGreat
set_option maxRecDepth 100000
open Go.RowKit Go.Maps
section
variable {l b:List Nat}
theorem lead_name (h:Inv l b) {k:Nat} (hk:k < l.length):Leads l k↔∀ d,d < k→nameOf l d≠nameOf l k:=by
 constructor
 ·intro H d hd c
  obtain ⟨t,ht⟩:=(name_iff h (by omega) hk).1 c
  exact H d hd ((mem_orb h (by omega)).2 ⟨t,by rw [← sgL_it];exact ht⟩)
 ·intro H d hd c
  obtain ⟨t,ht⟩:=(mem_orb h (by omega)).1 c
  exact H d hd ((name_iff h (by omega) hk).2 ⟨t,by rw [sgL_it];exact ht⟩)
theorem oth_yes (h:Inv l b) {e k:Nat} (hk:k < l.length) (n0:nameOf l k≠nameOf l (2*e)) (n1:nameOf l k≠nameOf l (2*e+1)) (hn:∀ d,d < k→nameOf l d≠nameOf l k):othN l e (k+1)=othN l e k++[orb l k]:=by
 unfold othN
 rw [leads_next,if_pos ((lead_name h hk).2 hn),List.filter_append,List.map_append]
 congr 1
 have:decide (nameOf l k≠nameOf l (2*e)∧nameOf l k≠nameOf l (2*e+1))=true:=decide_eq_true ⟨n0,n1⟩
 simp only [List.filter_cons,this,List.filter_nil,if_pos,List.map_cons,List.map_nil]
theorem oth_no (h:Inv l b) {e k:Nat} (hk:k < l.length) (hc:nameOf l k=nameOf l (2*e)∨nameOf l k=nameOf l (2*e+1)∨∃ d,d < k∧nameOf l d=nameOf l k):othN l e (k+1)=othN l e k:=by
 unfold othN
 rw [leads_next]
 by_cases c:Leads l k
 ·have hn:=(lead_name h hk).1 c
  rw [if_pos c,List.filter_append,List.filter_cons_of_neg,List.filter_nil,List.append_nil]
  intro q
  have:=of_decide_eq_true q
  rcases hc with q | q | ⟨d,d1,d2⟩
  ·exact this.1 q
  ·exact this.2 q
  ·exact hn d d1 d2
 ·rw [if_neg c,List.append_nil]
theorem oth_len (l:List Nat) (e k:Nat):(othN l e k).length≤k:=by
 unfold othN
 rw [List.length_map]
 have h1:=List.length_filter_le (fun d=>decide (nameOf l d≠nameOf l (2*e)∧nameOf l d≠nameOf l (2*e+1))) (leads l k)
 have h2:=List.length_filter_le (fun i=>decide (Leads l i)) (List.range k)
 rw [List.length_range] at h2
 unfold leads at h1 ⊢
 omega
end
set_option maxHeartbeats 4000000 in
theorem others_p (A:Option Addr) (c:Nat) (l b:List Nat) (root lone:Int) (e:Nat) (w:World) (h:Rd w w.heap.size A l.length (I64 (ofN l))) (hinv:Inv l b) (hn:l.length≤100000) (he:e < l.length / 2) :
  Calls Tryz.prog 68 #[.agg #[.slice A l.length c,.int .i64 root,.int .i64 lone],.int .i64 (e:Int)] w (NewRows w (othN l e l.length)):=by
 have hb0:=(Below.refl w.heap.size w).alloc (Nat.le_refl _) (.cells #[.slice A l.length c,.int .i64 root,.int .i64 lone] 28)
 have HX:=Lib.hid (Blk.new w 28 #[.slice A l.length c,.int .i64 root,.int .i64 lone])
 have HR:=Lib.hid (h.more hb0)
 have HB0:=Lib.hid hb0
 obtain ⟨i0,hi0,hz0,hz1,hz2⟩:=info_parts info_ints
 have RO:Hid (∀ d,d < l.length→∀ W,Below (w.alloc (.cells #[.slice A l.length c,.int .i64 root,.int .i64 lone] 28)).heap.size (w.alloc (.cells #[.slice A l.length c,.int .i64 root,.int .i64 lone] 28)) W→Calls Tryz.prog 65 #[.slice A l.length c,.int .i64 (d:Int)] W (NewI64 W (ofN (orb l d)))):=fun d hd W m=>rorbit_p A c _ l b d W (HR.out.more m) hinv (by omega) hd
 have RN:Hid (∀ W,Below (w.alloc (.cells #[.slice A l.length c,.int .i64 root,.int .i64 lone] 28)).heap.size (w.alloc (.cells #[.slice A l.length c,.int .i64 root,.int .i64 lone] 28)) W→Calls Tryz.prog 31 #[.slice A l.length c] W (NewI64 W (ofN (names l)))):=fun W m=>rnames_p A c _ l b W (HR.out.more m) hinv (by omega)
 have HI:=Lib.hid hinv
 have HNL:Hid (∀ d,d < l.length→nameOf l d < l.length):=fun d hd=>by
  have h1:=name_lt hinv hd
  have h2:=met_le l l.length
  have h3:(orbits l).length=met l l.length:=by simp [orbits,met]
  omega
 obtain ⟨a0,ha0⟩:∃ a0,a0=2*e:=⟨_,rfl⟩
 obtain ⟨a1,ha1⟩:∃ a1,a1=2*e+1:=⟨_,rfl⟩
 have i1:2*(e:Int)=(a0:Int):=by omega
 have i2:(a0:Int)+1=(a1:Int):=by omega
 have l0:a0 < l.length:=by omega
 have l1:a1 < l.length:=by omega
 have HA:=Lib.hid (And.intro ha0 ha1)
 have l0i:(a0:Int) < (l.length:Int):=by omega
 have l1i:(a1:Int) < (l.length:Int):=by omega
 have w0i:IntKind.i64.wrap (a0:Int)=(a0:Int):=by simp [IntKind.wrap,IntKind.signed,IntKind.bits];omega
 have w1i:IntKind.i64.wrap (a1:Int)=(a1:Int):=by simp [IntKind.wrap,IntKind.signed,IntKind.bits];omega
 clear h hb0 HR hinv ha0 ha1
 go_enter Tryz.func68,Tryz.ntmps68
 go_wp2_with fail
 generalize hw3:w.alloc (.cells #[.slice A l.length c,.int .i64 root,.int .i64 lone] 28)=w3 at *
 have hs3:w3.heap.size=w.heap.size+1:=by rw [← hw3];simp
 have x0:w3.cell? ⟨w.heap.size,0,none⟩=some (.slice A l.length c):=HX.out.cell 0
 clear hw3 HX
 have Z0:=Below.refl w3.heap.size w3
 go_wp2_with fail
 refine (RN.out _ Z0).mono ?_
 rintro en w1 ⟨A1,c1,rfl,hc1,hm1,hown1,b1⟩
 rw [ofN_len,names_len] at hc1 hown1 ⊢
 obtain ⟨gv,rfl,_,hgv⟩:=own_some hown1 (by omega)
 have HOV:=Lib.hid hown1
 have Z1:Hid (Below w3.heap.size w3 w1):=b1
 have x01:w1.cell? ⟨w.heap.size,0,none⟩=some (.slice A l.length c):=(b1.cell (p:=⟨w.heap.size,0,none⟩) (show w.heap.size < w3.heap.size by omega)).trans x0
 have hs1:=b1.size
 clear b1 hown1 RN Z0 x0
 obtain ⟨v0,hv0⟩:∃ v0,v0=nameOf l a0:=⟨_,rfl⟩
 obtain ⟨v1,hv1⟩:∃ v1,v1=nameOf l a1:=⟨_,rfl⟩
 have hv0l:v0 < l.length:=by rw [hv0];exact HNL.out _ l0
 have hv1l:v1 < l.length:=by rw [hv1];exact HNL.out _ l1
 have hcv0:=own_cellI HOV.out a0 l0
 have hcv1:=own_cellI HOV.out a1 l1
 rw [ofN_get,names_get _ _ l0,← hv0] at hcv0
 rw [ofN_get,names_get _ _ l1,← hv1] at hcv1
 have HV:=Lib.hid (And.intro hv0 hv1)
 clear hv0 hv1
 have hmm:=@run_makeMap Tryz.prog
 have OW1:OwnM (w1.alloc (.map #[] 0)).drew w1.heap.size 0 (.map []):=World.ownsMap.drew (World.ownsMap_made _ _ _ _)
 have cell_more:∀ W:World,Below w1.heap.size w1 W→∀ o,W.cell? ⟨gv,o,none⟩=w1.cell? ⟨gv,o,none⟩:=fun W m o=>m.cell (p:=⟨gv,o,none⟩) hgv
 have bz:Below w1.heap.size w1 (w1.alloc (.map #[] 0)).drew:=((Below.refl w1.heap.size w1).alloc (Nat.le_refl _) (.map #[] 0)).drew
 obtain ⟨w5,hrun5,ow5,gr5⟩:=put_m OW1 (by omega) v0 (by omega) 1 (by omega)
 obtain ⟨w6,hrun6,ow6,gr6⟩:=put_m ow5 (by omega) v1 (by omega) 1 (by omega)
 obtain ⟨w7,hrun7,ow7,gr7⟩:=put_m OW1 (by omega) v1 (by omega) 1 (by omega)
 obtain ⟨w8,hrun8,ow8,gr8⟩:=put_m ow7 (by omega) v0 (by omega) 1 (by omega)
 have bz5:=bz.grown gr5 (by simp) (fun j hj=>by cases hj;omega)
 have bz7:=bz.grown gr7 (by simp) (fun j hj=>by cases hj;omega)
 have bz6:=bz5.grown gr6 bz5.size (fun j hj=>by cases hj;omega)
 have bz8:=bz7.grown gr8 bz7.size (fun j hj=>by cases hj;omega)
 have M0:=MM.zero l.length
 have M5:=M0.put (v:=v0) (by simpa using hv0l)
 have M6:=M5.put (v:=v1) (by simpa using hv1l)
 have M7:=M0.put (v:=v1) (by simpa using hv1l)
 have M8:=M7.put (v:=v0) (by simpa using hv0l)
 have C0a:=(cell_more _ bz a0).trans hcv0
 have C0b:=(cell_more _ bz a1).trans hcv1
 have C5a:=(cell_more _ bz5 a0).trans hcv0
 have C5b:=(cell_more _ bz5 a1).trans hcv1
 have C7a:=(cell_more _ bz7 a0).trans hcv0
 have C7b:=(cell_more _ bz7 a1).trans hcv1
 have FIN6:Hid (OwnM w6 w1.heap.size 2 ((((DataW.map []:DataW Unit).put (kI v0) (.lit (.int .i64 1))).put (kI v1) (.lit (.int .i64 1))))∧Below w1.heap.size w1 w6):=⟨ow6,bz6⟩
 have FIN8:Hid (OwnM w8 w1.heap.size 2 ((((DataW.map []:DataW Unit).put (kI v1) (.lit (.int .i64 1))).put (kI v0) (.lit (.int .i64 1))))∧Below w1.heap.size w1 w8):=⟨ow8,bz8⟩
 have MS0:Hid (MM ((((DataW.map []:DataW Unit).put (kI v0) (.lit (.int .i64 1))).put (kI v1) (.lit (.int .i64 1)))) (((List.replicate l.length false).set v0 true).set v1 true)):=M6
 have MS1:Hid (MM ((((DataW.map []:DataW Unit).put (kI v1) (.lit (.int .i64 1))).put (kI v0) (.lit (.int .i64 1)))) (((List.replicate l.length false).set v1 true).set v0 true)):=M8
 clear ow5 ow6 ow7 ow8 gr5 gr6 gr7 gr8 bz bz5 bz6 bz7 bz8 M0 M5 M6 M7 M8 OW1 cell_more
 go_upto_region 3 with fail
 go_cut [7] from 13 to 25 (fun s wx=>s=.map (some w1.heap.size)∧∃ D M,Hid (OwnM wx w1.heap.size 2 D∧Below w1.heap.size w1 wx)∧Hid (MM D M)∧Hid (M.length=l.length∧∀ v,M.getD v false=true↔v=v0∨v=v1))
 case first =>
  have gs:∀ a c:Nat,a < l.length→c < l.length→((((List.replicate l.length false).set a true).set c true).length=l.length∧∀ v,(((List.replicate l.length false).set a true).set c true).getD v false=true↔v=a∨v=c):=fun a c ha hc=>by
   refine ⟨by simp,fun v=>?_⟩
   rw [getB_set _ _ _ _ (by simpa using hc)]
   by_cases q:v=c
   ·rw [if_pos q];simp [q]
   ·rw [if_neg q,getB_set _ _ _ _ (by simpa using ha)]
    by_cases q2:v=a
    ·rw [if_pos q2];simp [q2]
    ·rw [if_neg q2]
     simp [q,q2,List.getD_eq_getElem?_getD,List.getElem?_replicate]
     split <;> rfl
  have LL0:=Lib.hid (gs v0 v1 hv0l hv1l)
  have LL1:Hid ((((List.replicate l.length false).set v1 true).set v0 true).length=l.length∧∀ v,(((List.replicate l.length false).set v1 true).set v0 true).getD v false=true↔v=v0∨v=v1) :=
   ⟨(gs v1 v0 hv1l hv0l).1,fun v=>((gs v1 v0 hv1l hv0l).2 v).trans Or.comm⟩
  clear gs
  go_region_with (fail)
  all_goals (
   go_wp2_with fail
   go_meet
   first
    | exact ⟨rfl,_,_,FIN6,MS0,LL0⟩
    | exact ⟨rfl,_,_,FIN8,MS1,LL1⟩)
 case rest =>
  obtain ⟨rfl,D0,M0,HD0,HM0,HL0⟩:=hcut
  clear hrun5 hrun6 hrun7 hrun8 FIN6 FIN8 MS0 MS1 C0a C0b C5a C5b C7a C7b hcv0 hcv1 hmm
  generalize hgm:w1.heap.size=gm at *
  have HB1:Hid (Below w.heap.size w wc):=(HB0.out.trans (Z1.out.mono HB0.out.size)).trans (HD0.out.2.mono (by have:=HB0.out.size;omega))
  have hgc:=HD0.out.2.size
  have xw:Hid (∀ W,Below gm w1 W→W.cell? ⟨w.heap.size,0,none⟩=some (.slice A l.length c)):=fun W m=>(m.cell (p:=⟨w.heap.size,0,none⟩) (show w.heap.size < gm by omega)).trans x01
  have NC:Hid (∀ W,Below gm w1 W→∀ k,k < l.length→W.cell? ⟨gv,k,none⟩=some (.int .i64 ((nameOf l k:Nat):Int))):=fun W m k hk=>by
   have:=own_cellI HOV.out k hk
   rw [ofN_get,names_get _ _ hk] at this
   exact (m.cell (p:=⟨gv,k,none⟩) hgv).trans this
  have ROO:Hid (∀ d,d < l.length→∀ W,Below gm w1 W→Calls Tryz.prog 65 #[.slice A l.length c,.int .i64 (d:Int)] W (NewI64 W (ofN (orb l d)))):=fun d hd W m=>RO.out d hd W (Z1.out.trans (m.mono hs1))
  clear RO x01
  go_wp2_with fail
  go_loopw [5,28] (fun s i wr=>∃ (k q cv n:Nat) (Av:Option Addr) (vs:List Value) (D:DataW Unit) (M:List Bool),k≤l.length∧i=.int .i64 (k:Int)∧s=.slice Av q cv∧Hid (q=(othN l e k).length)∧q≤k∧n≤2+k∧Hid (OwnM wr gm n D)∧Hid (MM D M)∧Hid (M.length=l.length∧∀ v,M.getD v false=true↔v=v0∨v=v1∨∃ d,d < k∧nameOf l d=v)∧Hid (wr.ownsRow gm 26 1 (.slice Av q cv) q vs)∧Hid (RowsOwn wr gm vs (othN l e k))∧Hid (Below gm w1 wr)) (fun _ i _=>l.length - (intOf i).toNat)
  case atStart =>
   refine ⟨0,0,0,2,none,[],D0,M0,by omega,rfl,rfl,?_,by omega,by omega,HD0.out.1,HM0,?_,World.ownsRow_nil _ _ _ _,?_,HD0.out.2⟩
   ·show _=_;simp [othN,leads]
   ·exact ⟨HL0.out.1,fun v=>(HL0.out.2 v).trans ⟨fun h=>h.elim .inl (fun h=>.inr (.inl h)),fun h=>by
     rcases h with h | h | ⟨d,d1,_⟩
     ·exact .inl h
     ·exact .inr h
     ·omega⟩⟩
   ·show RowsOwn _ _ _ _
    have:othN l e 0=[]:=by simp [othN,leads]
    rw [this]
    exact ⟨rfl,fun k hk=>by simp at hk⟩
  case round =>
   clear HD0 HM0 HL0
   obtain ⟨k,q,cv,n,Av,vs,D,M,hk,rfl,rfl,HQ,hqk,hnk,HD,HM,HL,HO,HR,HB⟩:=hrel
   by_cases hlt:k < l.length
   ·have hdk:decide (k < l.length)=true:=by rw [decide_eq_true_iff];exact hlt
    have hnc:=NC.out _ HB.out k hlt
    have hvl:=HNL.out k hlt
    have hvm:nameOf l k < M.length:=by rw [HL.out.1];exact hvl
    have lk:=look_met HD.out HM.out (nameOf l k) hvm (by omega)
    have hx0:=xw.out _ HB.out
    have FY:Hid (nameOf l k≠nameOf l a0→nameOf l k≠nameOf l a1→(∀ d,d < k→nameOf l d≠nameOf l k)→othN l e (k+1)=othN l e k++[orb l k]):=by
     rw [HA.out.1,HA.out.2];exact oth_yes HI.out hlt
    have FN:Hid (nameOf l k=nameOf l a0∨nameOf l k=nameOf l a1∨(∃ d,d < k∧nameOf l d=nameOf l k)→othN l e (k+1)=othN l e k):=by
     rw [HA.out.1,HA.out.2];exact oth_no HI.out hlt
    have RK:=Lib.hid (ROO.out k hlt)
    have HBS:gm≤wr.heap.size:=by have:=HB.out.size;omega
    by_cases hM:M.getD (nameOf l k) false=true
    ·rw [if_pos hM] at lk
     have hc:=(HL.out.2 _).1 hM
     rw [HV.out.1,HV.out.2] at hc
     have hF:=FN.out hc
     have HQ2:Hid (q=(othN l e (k+1)).length):=by show _=_;rw [hF];exact HQ.out
     have HR2:Hid (RowsOwn wr gm vs (othN l e (k+1))):=by show RowsOwn _ _ _ _;rw [hF];exact HR.out
     have HL2:Hid (M.length=l.length∧∀ v,M.getD v false=true↔v=v0∨v=v1∨∃ d,d < k+1∧nameOf l d=v):=⟨HL.out.1,fun v=>(HL.out.2 v).trans ⟨fun h=>by
       rcases h with h | h | ⟨d,d1,d2⟩
       ·exact .inl h
       ·exact .inr (.inl h)
       ·exact .inr (.inr ⟨d,by omega,d2⟩),fun h=>by
       rcases h with h | h | ⟨d,d1,d2⟩
       ·exact .inl h
       ·exact .inr (.inl h)
       ·by_cases c:d=k
        ·rw [c] at d2
         rw [← d2]
         exact (HL.out.2 _).1 hM
        ·exact .inr (.inr ⟨d,by omega,d2⟩)⟩⟩
     clear hM hc hF FY FN HQ HR HL
     generalize nameOf l k=v at *
     go_wp2_with fail
     go_roundw
     case rel=>exact ⟨k+1,q,cv,n,Av,vs,D,M,by omega,by go_num,rfl,HQ2,by omega,by omega,HD,HM,HL2,HO,HR2,HB⟩
     case measure=>simp [intOf];omega
    ·rw [if_neg hM] at lk
     have hc:¬ (nameOf l k=v0∨nameOf l k=v1∨∃ d,d < k∧nameOf l d=nameOf l k):=fun h=>hM ((HL.out.2 _).2 h)
     rw [HV.out.1,HV.out.2] at hc
     have hF:=FY.out (fun q=>hc (.inl q)) (fun q=>hc (.inr (.inl q))) (fun d hd q=>hc (.inr (.inr ⟨d,hd,q⟩)))
     obtain ⟨w5,hrun5,ow5,gr5⟩:=put_m HD.out (by omega) (nameOf l k) (by omega) 1 (by omega)
     have bz5:=HB.out.grown gr5 HBS (fun j hj=>by cases hj;omega)
     have HM5:=Lib.hid (HM.out.put (v:=nameOf l k) hvm)
     have HL5:Hid ((M.set (nameOf l k) true).length=l.length∧∀ v,(M.set (nameOf l k) true).getD v false=true↔v=v0∨v=v1∨∃ d,d < k+1∧nameOf l d=v):=⟨by rw [List.length_set];exact HL.out.1,fun v=>by
       rw [getB_set _ _ _ _ hvm]
       by_cases c:v=nameOf l k
       ·rw [if_pos c];exact ⟨fun _=>.inr (.inr ⟨k,by omega,c.symm⟩),fun _=>rfl⟩
       ·rw [if_neg c]
        refine (HL.out.2 v).trans ⟨fun h=>?_,fun h=>?_⟩
        ·rcases h with h | h | ⟨d,d1,d2⟩
         ·exact .inl h
         ·exact .inr (.inl h)
         ·exact .inr (.inr ⟨d,by omega,d2⟩)
        ·rcases h with h | h | ⟨d,d1,d2⟩
         ·exact .inl h
         ·exact .inr (.inl h)
         ·by_cases c2:d=k
          ·exact absurd (by rw [← d2,c2]) c
          ·exact .inr (.inr ⟨d,by omega,d2⟩)⟩
     have mg5:=Mod.ofGrown gr5
     have HO5:=Lib.hid (own_mod HO.out mg5 (fun j hj c=>own_map_ne HO.out HD.out (by rw [hj];exact c)))
     have HR5:=Lib.hid (HR.out.mod mg5 (fun A n c xs j ho hj c2=>own_map_ne ho HD.out (by rw [hj];exact c2)))
     have HOW5:=Lib.hid ow5
     have HB5:=Lib.hid bz5
     have hx5:=xw.out _ bz5
     have HF:=Lib.hid hF
     have hs5:gm≤w5.heap.size:=by have:=bz5.size;omega
     clear hM hc hF FY FN HM HL HO HR HD ow5 bz5 gr5 mg5 HB
     generalize nameOf l k=v at *
     generalize M.set v true=M5 at *
     go_wp2_with fail
     refine (RK.out _ HB5.out).mono ?_
     rintro en w7 ⟨A7,c7,rfl,hc7,hm7,hown7,b7⟩
     rw [ofN_len] at hc7 hown7 ⊢
     have HB7:Hid (Below gm w1 w7):=HB5.out.trans (b7.mono hs5)
     have hov:=(own_below HO5.out b7).alloc (.cells #[.slice A7 (orb l k).length c7] 26)
     have r3:=Rd.new w7 26 #[.slice A7 (orb l k).length c7] 1 [.slice A7 (orb l k).length c7] (by simp) (by simp)
     have t1:q+1≤maxLen:=by simp only [maxLen];omega
     have t2:(q+1)*24≤140737488355328:=by omega
     have t3:gm≤(w7.alloc (.cells #[.slice A7 (orb l k).length c7] 26)).heap.size:=by have:=HB7.out.size;simp;omega
     have h1s:∀ u∈[Value.slice A7 (orb l k).length c7],u.oneCell'=true:=by intro u hu;simp at hu;subst hu;rfl
     have H7:=Lib.hid (And.intro hown7 b7)
     have HC7:=Lib.hid hc7
     clear hown7 b7 hx5 hc7
     go_wp2_with (first
      | (at_builtin;go_must (refine wpList_append_rd _ rfl _ _ 68 rfl gm 26 i0 (.slice none 0 0) 24 Tryz.underlying68 hi0 hz0 hz1 hz2 rfl (.slice Av q cv) q vs rfl hov (w7.heap.size+1) (some ⟨w7.heap.size,0,none⟩) 1 1 [.slice A7 (orb l k).length c7] rfl r3 h1s t1 t2 t3 ?_)))
     intro A6 c6 w6 hc6 hm6 hown6 hg6 _
     have m6:=Mod.ofGrown hg6
     have hb8:Below w7.heap.size w7 (w7.alloc (.cells #[.slice A7 (orb l k).length c7] 26)):=(Below.refl _ _).alloc (Nat.le_refl _) _
     have hbF:Below gm w1 w6:=(HB7.out.trans (hb8.mono (by have:=HB7.out.size;omega))).trans (Below.appended hov hg6 t3)
     have hq2:Hid (q+1=(othN l e (k+1)).length):=by show _=_;rw [HF.out,List.length_append,← HQ.out];rfl
     have HOM:Hid (OwnM w6 gm (n+1) (D.put (kI v) (.lit (.int .i64 1)))):=by
      have o7:=own_map_below (own_map_below HOW5.out H7.out.2) hb8
      exact World.ownsMap.kept o7 hg6 (fun c=>own_map_ne hov o7 c.symm)
     have HRF:Hid (RowsOwn w6 gm (vs++[.slice A7 (orb l k).length c7]) (othN l e (k+1))):=by
      show RowsOwn _ _ _ _
      rw [HF.out]
      have r5:=((HR5.out.below H7.out.2).below hb8).mod m6 (fun A n c xs q ho hq hx=>own_own_ne ho hov (by decide) q hq hx.symm)
      have o8:=own_below H7.out.1 hb8
      have o9:=own_mod o8 m6 (fun q hq hx=>own_own_ne o8 hov (by decide) q hq hx.symm)
      exact r5.snoc HC7.out (o9.base_le' (by have:=HB5.out.size;omega))
     have HO6:=Lib.hid hown6
     have HBF:=Lib.hid hbF
     clear hown6 hbF m6 hb8 hg6 hov r3 H7 HR5 HO5 HOW5 HF
     go_wp2_with fail
     go_roundw
     case rel=>exact ⟨k+1,q+1,c6,n+1,A6,_,_,M5,by omega,by go_num,rfl,hq2,by omega,by omega,HOM,HM5,HL5,HO6,HRF,HBF⟩
     case measure=>simp [intOf];omega
   ·obtain rfl:k=l.length:=by omega
    have hdk:decide (l.length < l.length)=false:=by simp
    have hqc:q≤cv:=by
     obtain ⟨_,_,e9,h1,_⟩:=own_form HO.out
     simp at e9
     omega
    have BF:Hid (Below w.heap.size w wr):=(HB0.out.trans (Z1.out.mono HB0.out.size)).trans (HB.out.mono (by have:=HB0.out.size;omega))
    have HGW:Hid (w.heap.size≤gm):=by show _≤_;omega
    have HHQ:=HQ
    clear HQ
    go_wp2_with fail
    go_ret
    have hq:=HHQ.out
    refine ⟨Av,cv,vs,by rw [← hq];rfl,by rw [← hq];exact hqc,by rw [← hq];exact HO.out.base_le' HGW.out,?_,BF.out⟩
    obtain ⟨r1,r2⟩:=HR.out
    exact ⟨r1,fun j hj=>by
     obtain ⟨A,c,h1,h2,h3⟩:=r2 j hj
     exact ⟨A,c,h1,h2,h3.base_le' HGW.out⟩⟩
set_option maxRecDepth 20000
section
variable {l b:List Nat}
end
/-! ### Then -/


def bothA (l:List Nat) (e:Nat):Prop:=sgL l (2*e)=2*e∧sgL l (2*e+1)=2*e+1
section
variable {l b:List Nat}
theorem itf_const {f:Nat→Nat} {x:Nat} (h:f x=x):∀ k,itf f k x=x
 | 0=>rfl
 | k+1=>by show f (itf f k x)=x;rw [itf_const h k,h]
theorem both_deg (h:Inv l b) (lone:Int) (hl:0≤lone) {e:Nat} (hE:2*e+2≤l.length):degOf l lone (nameOf l (2*e):Nat)+degOf l lone (nameOf l (2*e+1):Nat)=2↔bothA l e:=by
 have ha:2*e < l.length:=by omega
 have hc:2*e+1 < l.length:=by omega
 have hpf:=sgL_pf h
 have hq:=hpf.eqv
 rw [deg_num h lone hl ha,deg_num h lone hl hc]
 have na:=num_less (Q:=fun i=>Orb (sgL l) (2*e) i) ha (hq.refl _ ha)
 have nc:=num_less (Q:=fun i=>Orb (sgL l) (2*e+1) i) hc (hq.refl _ hc)
 have hna:=num_none (n:=l.length) (Q:=fun i=>Orb (sgL l) (2*e) i∧i≠2*e)
 have hnc:=num_none (n:=l.length) (Q:=fun i=>Orb (sgL l) (2*e+1) i∧i≠2*e+1)
 constructor
 ·intro q
  have q0:=hna.1 (by omega)
  have q1:=hnc.1 (by omega)
  exact ⟨Classical.byContradiction fun c=>q0 _ (hpf.lt _ ha) ⟨⟨1,rfl⟩,c⟩,Classical.byContradiction fun c=>q1 _ (hpf.lt _ hc) ⟨⟨1,rfl⟩,c⟩⟩
 ·rintro ⟨s0,s1⟩
  have q0:=hna.2 (fun y hy ⟨⟨k,r⟩,c⟩=>c (by rw [itf_const s0] at r;exact r.symm))
  have q1:=hnc.2 (fun y hy ⟨⟨k,r⟩,c⟩=>c (by rw [itf_const s1] at r;exact r.symm))
  omega
end
end Go.Proofs.YtdinmjciippchaaGreat
