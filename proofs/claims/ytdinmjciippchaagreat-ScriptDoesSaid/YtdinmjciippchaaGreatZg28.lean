/- Of: the steps of the walk of a map. -/
import Derived.Test.YtdinmjciippchaaGreatZg27
import Derived.Test.YtdinmjciippchaaGreatZg6
import Derived.Test.YtdinmjciippchaaGreatZg12
import Derived.Test.YtdinmjciippchaaGreatZg3
import Derived.Deep.RegionHeld3
import Derived.Deep.DeepCutAuto
open Go.RowKit
set_option linter.unusedVariables false
set_option linter.unusedSimpArgs false
namespace Go.Proofs.YtdinmjciippchaaGreat
set_option maxRecDepth 20000
theorem info_step:(Tryz.prog.info? 136).map (fun i=>(i.zero,i.size,i.bytes))=some (some (.agg #[.int .i64 0,.int .i64 0]),2,16):=by kernel_rfl
def wst (sg nm:Nat→Nat) (m V r:Nat):Nat→List Int
 | 0=>[]
 | j+1=>wst sg nm m V r j++[((wrun sg nm m V r j).d:Int),(((wrun sg nm m V r j).k nm:Nat):Int)]
theorem wst_len (sg nm:Nat→Nat) (m V r:Nat):∀ j,(wst sg nm m V r j).length=2*j
 | 0=>rfl
 | j+1=>by simp [wst,wst_len sg nm m V r j];omega
theorem nm_ok {l b:List Nat} (h:Inv l b):∀ x y,x < l.length→y < l.length→(nameOf l x=nameOf l y↔Orb (sgL l) x y):=fun x y hx hy=>by
 constructor
 ·exact name_orb h hx hy
 ·rintro ⟨t,ht⟩
  have hm:y∈orb l x:=(mem_orb h hx).2 ⟨t,by rw [← sgL_it];exact ht⟩
  unfold nameOf
  rw [lead_of_mem h hx hm]
theorem nm_ltW {l b:List Nat} (h:Inv l b) {V:Nat} (hV:(sizes l).length≤V):∀ x,x < l.length→nameOf l x < V:=fun x hx=>by
 have:=name_lt h hx
 rw [← sizes_len] at this
 omega
def WalkPost (w:World) (N:Nat) (L:List Int) (e:Ending) (w':World):Prop :=
 ∃ A c,e=.returned (.tuple #[.slice A N c,.int .i64 0])∧w'.ownsRow w.heap.size 136 2 (.slice A N c) N (I64 L)∧Below w.heap.size w w'
set_option maxHeartbeats 8000000 in
theorem walkOf_p (g:Nat) (l b:List Nat) (root lone:Int) (r m V:Nat) (w:World) (h:MapAt w g l b root lone) (hi:Inv l b) (hr:r < l.length) (hm:m=l.length / 2) (hV:(V:Int)=((sizes l).length:Int)+lone) :
  Calls Tryz.prog 126 #[.pointer (some ⟨g,0,none⟩),.int .i64 (r:Int)] w (WalkPost w (wN (sgL l) (nameOf l) m V r) (wst (sgL l) (nameOf l) m V r (wN (sgL l) (nameOf l) m V r))):=by
 have hle:=h.2.1
 have hev:=h.1.1
 have hlo:=h.1.2.1
 have hVs:(sizes l).length≤V:=by omega
 obtain ⟨i0,hi0,hz0,hz1,hz2⟩:=info_parts info_step
 obtain ⟨md,hmd⟩:∃ md,md=mateN r:=⟨_,rfl⟩
 have MP:=Lib.hid (mate_in g l b root lone r w h hr)
 rw [← hmd] at MP
 have hmd1:¬ (md:Int)=-1:=by omega
 have hmd2:((md:Int) == -1)=false:=by rw [beq_eq_false_iff_ne];exact hmd1
 have FP:Hid (∀ W,Below w.heap.size w W→Calls Tryz.prog 130 #[.pointer (some ⟨g,0,none⟩),.int .i64 (r:Int)] W (FromPost W g m V r (nameOf l))):=fun W z=>wfrom_p g l b root lone r m V W (h.below z) hr hm hV (nm_ltW hi hVs r hr)
 have HM:Hid (∀ W',Below w.heap.size w W'→MapAt W' g l b root lone):=fun W' z=>h.below z
 have hvl:=nm_ltW hi hVs
 have LK:Hid (∀ (gk ck gm cm d:Nat) (K:List Int) (M:List Bool) (W:World),Below w.heap.size w W→d < l.length→WMem w.heap.size gk ck gm cm m V K M W→Calls Tryz.prog 131 #[wval g gk ck gm cm m V,.int .i64 (d:Int)] W fun e w'=>e=.returned (.int .i64 ((wKd (nameOf l) K M d:Nat):Int))∧WMem w.heap.size gk ck gm cm m V (wK1 K d (wKd (nameOf l) K M d)) (wM1 (nameOf l) M d (wKd (nameOf l) K M d)) w'∧Mod (fun i=>i=gk∨i=gm) W w') :=
  fun gk ck gm cm d K M W z hd H=>wlook_p w.heap.size g l b root lone w gk ck gm cm m V d K M W HM z (Nat.le_refl _) hd hm hvl H
 have NP:Hid (∀ (gk ck gm cm d k:Nat) (W:World),Below w.heap.size w W→d < l.length→k < 4→Calls Tryz.prog 132 #[wval g gk ck gm cm m V,.agg #[.int .i64 (d:Int),.int .i64 (k:Int)]] W fun e w'=>e=.returned (.int .i64 ((wNx (sgL l) d k:Nat):Int))∧Below W.heap.size W w') :=
  fun gk ck gm cm d k W z hd hk=>wnext_p w.heap.size g l b root lone w gk ck gm cm m V d k W HM z (Nat.le_refl _) hd hk
 have HWK:Hid (∀ j:Nat,WOk l.length m V (sgL l) (nameOf l) r (wrun (sgL l) (nameOf l) m V r j)):=wok (sgL_pf hi) (by omega) (nm_ok hi) hvl hr
 have HWN:Hid (1≤wN (sgL l) (nameOf l) m V r∧wN (sgL l) (nameOf l) m V r≤l.length∧(wrun (sgL l) (nameOf l) m V r (wN (sgL l) (nameOf l) m V r)).d=r∧∀ j:Nat,1≤j→j < wN (sgL l) (nameOf l) m V r→(wrun (sgL l) (nameOf l) m V r j).d≠r):=wN_is (sgL_pf hi) (by omega) (nm_ok hi) hvl hr
 have hNl:wN (sgL l) (nameOf l) m V r≤131072:=Nat.le_trans HWN.out.2.1 hle
 clear h hi hm hV hvl hmd hev hlo hVs hle HM
 generalize sgL l=sg at *
 generalize nameOf l=nm at *
 generalize hN:wN sg nm m V r=N at *
 clear hN
 go_enter Tryz.func126,Tryz.ntmps126
 go_wp2_with fail
 refine MP.out.mono ?_
 rintro e w1 ⟨rfl,z1⟩
 have FF:=Lib.hid (FP.out w1 z1)
 clear MP FP
 go_wp2_with fail
 refine FF.out.mono ?_
 rintro e w2 ⟨gk,ck,gm,cm,rfl,hw2,z2⟩
 have hsz1:=z1.size
 have H2:Hid (WMem w.heap.size gk ck gm cm m V (wrun sg nm m V r 0).K (wrun sg nm m V r 0).M w2):=⟨hw2.ok.base_le' hsz1,hw2.om.base_le' hsz1⟩
 have Z2:=Lib.hid (z1.trans (z2.mono hsz1))
 have hz2':=z2.size
 clear FF hw2 z1 z2
 go_wp2_with fail
 have HB0:=Lib.hid (Blk.new w2 141 #[.pointer (some ⟨g,0,none⟩),.slice (some ⟨gk,0,none⟩) m ck,.slice (some ⟨gm,0,none⟩) V cm])
 have HS0:=Lib.hid (H2.out.below ((Below.refl w2.heap.size w2).alloc (Nat.le_refl _) (.cells #[.pointer (some ⟨g,0,none⟩),.slice (some ⟨gk,0,none⟩) m ck,.slice (some ⟨gm,0,none⟩) V cm] 141)))
 have ZB0:=Lib.hid (Z2.out.trans (((Below.refl w2.heap.size w2).alloc (Nat.le_refl _) (.cells #[.pointer (some ⟨g,0,none⟩),.slice (some ⟨gk,0,none⟩) m ck,.slice (some ⟨gm,0,none⟩) V cm] 141)).mono Z2.out.size))
 clear H2 Z2
 go_loopw [7,8] (fun s at_ wr=>∃ (j:Nat) (A:Option Addr) (c:Nat),j < N∧s=.slice A j c∧at_=.int .i64 ((wrun sg nm m V r j).d:Int)∧Hid (WMem w.heap.size gk ck gm cm m V (wrun sg nm m V r j).K (wrun sg nm m V r j).M wr) ∧
  Hid (wr.ownsRow w.heap.size 136 2 (.slice A j c) j (I64 (wst sg nm m V r j)))∧Hid (Below w.heap.size w wr)∧Hid (Blk wr w2.heap.size 141 #[.pointer (some ⟨g,0,none⟩),.slice (some ⟨gk,0,none⟩) m ck,.slice (some ⟨gm,0,none⟩) V cm])) (fun s _ _=>N - lenOf s)
 case atStart=>exact ⟨0,none,0,HWN.out.1,rfl,rfl,HS0.out,World.ownsRow_nil _ _ _ _,ZB0.out,HB0.out⟩
 case round =>
  clear HS0 ZB0 HB0
  obtain ⟨j,A,c,hj,rfl,rfl,HS,HO,HB,HX⟩:=hrel
  have hwk:=(HWK.out j).lt
  have HD:Hid (∃ d,d=(wrun sg nm m V r j).d):=⟨_,rfl⟩
  obtain ⟨d,hd⟩:=HD.out
  obtain ⟨k,hk⟩:∃ k,k=(wrun sg nm m V r j).k nm:=⟨_,rfl⟩
  obtain ⟨d',hd'⟩:∃ d',d'=wNx sg d k:=⟨_,rfl⟩
  have hk4:k < 4:=by rw [hk];rcases (wrun sg nm m V r j).kinds (nm:=nm) with ⟨a,_⟩ | ⟨a,_⟩ | ⟨a,_⟩ | ⟨a,_⟩ <;> omega
  have LK1:=Lib.hid (LK.out gk ck gm cm _ _ _ wr HB.out hwk HS.out)
  rw [show wKd nm (wrun sg nm m V r j).K (wrun sg nm m V r j).M (wrun sg nm m V r j).d=k from hk.symm,← hd] at LK1
  have HK1:Hid (wK1 (wrun sg nm m V r j).K d k=(wrun sg nm m V r (j+1)).K):=by show _=_;rw [hd,hk];rfl
  have HM1:Hid (wM1 nm (wrun sg nm m V r j).M d k=(wrun sg nm m V r (j+1)).M):=by show _=_;rw [hd,hk];rfl
  have HD1:Hid ((wrun sg nm m V r (j+1)).d=d'):=by show _=_;rw [hd',hd,hk];rfl
  have HL1:Hid (wst sg nm m V r (j+1)=wst sg nm m V r j++[(d:Int),(k:Int)]):=by show _=_;rw [hd,hk];rfl
  rw [HK1.out,HM1.out] at LK1
  have NP1:Hid (∀ W,Below w.heap.size w W→Calls Tryz.prog 132 #[wval g gk ck gm cm m V,.agg #[.int .i64 (d:Int),.int .i64 (k:Int)]] W fun e w'=>e=.returned (.int .i64 (d':Int))∧Below W.heap.size W w'):=fun W z=>by
   rw [hd'];exact NP.out gk ck gm cm d k W z (by rw [hd];exact hwk) hk4
  rw [← hd]
  have nk:=own_ne HS.out.ok HX.out (by decide)
  have nm':=own_ne HS.out.om HX.out (by decide)
  have HX3:Hid (∀ W,Mod (fun i=>i=gk∨i=gm) wr W→Blk W w2.heap.size 141 #[.pointer (some ⟨g,0,none⟩),.slice (some ⟨gk,0,none⟩) m ck,.slice (some ⟨gm,0,none⟩) V cm]):=fun W z=>HX.out.mod z (by
   rintro (e | e)
   ·exact nk (by rw [e];rfl)
   ·exact nm' (by rw [e];rfl))
  have HO3:Hid (∀ W,Mod (fun i=>i=gk∨i=gm) wr W→W.ownsRow w.heap.size 136 2 (.slice A j c) j (I64 (wst sg nm m V r j))):=fun W z=>own_mod HO.out z (fun q hq=>by
   rintro (e | e)
   ·exact own_own_ne HO.out HS.out.ok (by decide) q hq (by rw [e];rfl)
   ·exact own_own_ne HO.out HS.out.om (by decide) q hq (by rw [e];rfl))
  have HB3:Hid (∀ W,Mod (fun i=>i=gk∨i=gm) wr W→Below w.heap.size w W):=fun W z=>HB.out.trans (z.belowB HB.out.size (fun i hi=>by
   have h1:=(own_block HS.out.ok).1
   have h2:=(own_block HS.out.om).1
   rintro (e | e) <;> omega))
  have c0:=HX.out.cell 0
  have c1:=HX.out.cell 1
  have c2:=HX.out.cell 2
  simp at c0 c1 c2
  have HDR:Hid (d'=r↔j+1=N):=by
   rw [← HD1.out]
   constructor
   ·intro e
    rcases Nat.lt_or_ge (j+1) N with x | x
    ·exact absurd e (HWN.out.2.2.2 _ (by omega) x)
    ·omega
   ·intro e
    rw [e];exact HWN.out.2.2.1
  clear hd hk hd' HD HX HO HB HS LK NP nk nm' hwk HK1 HM1
  go_wp2_with fail
  refine LK1.out.mono ?_
  rintro e w3 ⟨rfl,hs3,hm3⟩
  have HX4:=Lib.hid (HX3.out w3 hm3)
  have HO4:=Lib.hid (HO3.out w3 hm3)
  have HB4:=Lib.hid (HB3.out w3 hm3)
  have HS4:=Lib.hid hs3
  have hs1:(w3.alloc (.cells #[.int .i64 (d:Int),.int .i64 (k:Int)] 136)).heap.size=w3.heap.size+1:=by simp
  have ZA:=(Below.refl w3.heap.size w3).alloc (Nat.le_refl _) (.cells #[.int .i64 (d:Int),.int .i64 (k:Int)] 136)
  have ZB:=Lib.hid (ZA.alloc ZA.size (.cells #[.int .i64 (d:Int),.int .i64 (k:Int)] 136))
  have BS:=Lib.hid ((Blk.new w3 136 #[.int .i64 (d:Int),.int .i64 (k:Int)]).alloc (.cells #[.int .i64 (d:Int),.int .i64 (k:Int)] 136))
  have hown3:=own_below HO4.out ZB.out
  have hnw:=World.news_of_block (heap_alloc_new (w3.alloc (.cells #[.int .i64 (d:Int),.int .i64 (k:Int)] 136)) (.cells #[.int .i64 (d:Int),.int .i64 (k:Int)] 136))
  rw [hs1] at hnw
  have h1s:∀ u∈([.int .i64 (d:Int),.int .i64 (k:Int)]:List Value),u.oneCell'=true:=by simp [Value.oneCell']
  have t1:j+1≤maxLen:=by simp only [maxLen];omega
  have t2:(j+1)*16≤140737488355328:=by omega
  have hsw:=HB4.out.size
  have t3:w.heap.size≤((w3.alloc (.cells #[.int .i64 (d:Int),.int .i64 (k:Int)] 136)).alloc (.cells #[.int .i64 (d:Int),.int .i64 (k:Int)] 136)).heap.size:=by simp;omega
  clear hs3 hm3 LK1 HX3 HO3 HB3 ZA
  go_wp2_with (first
   | (at_builtin;go_must (refine wpList_append_lies _ rfl _ _ 132 rfl w.heap.size 136 i0 (.agg #[.int .i64 0,.int .i64 0]) 2 16 Tryz.underlying132 hi0 hz0 hz1 hz2 rfl (by decide) (.slice A j c) j _ rfl hown3 ⟨w3.heap.size+1,0,none⟩ 1 1 [.int .i64 (d:Int),.int .i64 (k:Int)] rfl rfl hnw h1s (by decide) t1 t2 t3 _ rfl ?_)))
  intro g3 c6 w6 hown6 hg6 _ hg3'
  have e6:I64 (wst sg nm m V r j)++[.int .i64 (d:Int),.int .i64 (k:Int)]=I64 (wst sg nm m V r (j+1)):=by rw [HL1.out,I64_append];rfl
  rw [e6] at hown6
  have MG:=Mod.ofGrown hg6
  have HX6:=Lib.hid ((HX4.out.below ZB.out).mod MG (fun e=>own_ne hown3 (HX4.out.below ZB.out) (by decide) e.symm))
  have BS6:=Lib.hid (BS.out.mod MG (fun e=>by have:=(HO4.out.lt _ e.symm).2;omega))
  have HS6:Hid (WMem w.heap.size gk ck gm cm m V (wrun sg nm m V r (j+1)).K (wrun sg nm m V r (j+1)).M w6) :=
   ⟨own_mod (own_below HS4.out.ok ZB.out) MG (fun q hq e=>own_own_ne hown3 (own_below HS4.out.ok ZB.out) (by decide) q e.symm hq),own_mod (own_below HS4.out.om ZB.out) MG (fun q hq e=>own_own_ne hown3 (own_below HS4.out.om ZB.out) (by decide) q e.symm hq)⟩
  have HB6:=Lib.hid ((HB4.out.trans (ZB.out.mono hsw)).trans (MG.belowB t3 (fun i hi e=>by have:=(hown3.lt i e.symm).1;omega)))
  have HO6:=Lib.hid hown6
  have hj6:j+1≤c6:=by
   obtain ⟨_,_,he,hkc,_⟩:=own_form hown6
   simp only [Value.slice.injEq,true_and] at he
   omega
  have c0:=HX6.out.cell 0
  have c1:=HX6.out.cell 1
  have c2:=HX6.out.cell 2
  have s0:=BS6.out.cell 0
  have s1:=BS6.out.cell 1
  simp at c0 c1 c2 s0 s1
  have NP6:=Lib.hid (NP1.out w6 HB6.out)
  clear hown6 hg6 MG hown3 hnw h1s t1 t2 t3 ZB BS BS6 HX4 HO4 HB4 HS4 NP1 hg3' e6 hsw hs1
  generalize w3.heap.size=bs at *
  by_cases he:d'=r
  ·have hjn:=HDR.out.1 he
   have heb:((d':Int) == (r:Int))=true:=by rw [beq_iff_eq];omega
   subst he
   go_wp2_with fail
   refine NP6.out.mono ?_
   rintro e w7 ⟨rfl,z⟩
   go_wp2_with fail
   go_ret2
   rw [← hjn]
   exact ⟨some ⟨g3,0,none⟩,c6,rfl,own_below HO6.out z,HB6.out.trans (z.mono HB6.out.size)⟩
  ·have hjn:j+1 < N:=by
    have:=HDR.out
    rcases Nat.lt_or_ge (j+1) N with x | x
    ·exact x
    ·exact absurd (this.2 (by omega)) he
   have heb:((d':Int) == (r:Int))=false:=by rw [beq_eq_false_iff_ne];omega
   have hei:¬ (d':Int)=(r:Int):=by omega
   go_wp2_with fail
   refine NP6.out.mono ?_
   rintro e w7 ⟨rfl,z⟩
   have HX7:=Lib.hid (HX6.out.below z)
   have HO7:=Lib.hid (own_below HO6.out z)
   have HS7:=Lib.hid (HS6.out.below z)
   have HB7:=Lib.hid (HB6.out.trans (z.mono HB6.out.size))
   clear z HX6 HO6 HS6 HB6 NP6 c0 c1 c2 s0 s1
   go_wp2_with fail
   go_roundw
   case rel=>exact ⟨j+1,_,c6,hjn,rfl,by rw [HD1.out],HS7.out,HO7.out,HB7.out,HX7.out⟩
   case measure=>simp [lenOf];omega
/-! ### how many steps of each kind -/
section
variable {n m V:Nat} {sg nm:Nat→Nat} {r:Nat}
theorem num_less' {n a:Nat} {Q R:Nat→Prop} (ha:a < n) (q:Q a) (h:∀ i,i < n→(R i↔Q i∧i≠a)):num R n+1=num Q n:=by
 unfold num
 exact @filter_less (List.range n) (List.nodup_range) Q R (fun _=>Classical.propDecidable _) (fun _=>Classical.propDecidable _) a (by simpa using ha) q fun i hi=>h i (by simpa using hi)
theorem num_same {n:Nat} {Q R:Nat→Prop} (h:∀ i,i < n→(R i↔Q i)):num R n=num Q n:=by
 unfold num
 congr 1
 apply List.filter_congr
 intro i hi
 have:=h i (by simpa using hi)
 simp [this]
theorem num_noneW {n:Nat} {Q:Nat→Prop} (h:∀ i,i < n→¬ Q i):num Q n=0:=by
 unfold num
 rw [List.length_eq_zero_iff,List.filter_eq_nil_iff]
 intro i hi
 have:=h i (by simpa using hi)
 simpa using this
noncomputable def wcn (sg nm:Nat→Nat) (m V r q j:Nat):Nat:=num (fun i=>(wrun sg nm m V r i).k nm=q) j
theorem wcn_is (hs:PF n sg) (hn:n=2*m) (hnm:∀ x y,x < n→y < n→(nm x=nm y↔Orb sg x y)) (hV:∀ x,x < n→nm x < V) (hr:r < n) (q:Nat) (hq:q=0∨q=2):∀ j,wcn sg nm m V r q j=num (fun e=>(wrun sg nm m V r j).K.getD e 0=(q:Int)) m
 | 0=>by
   have h0:wcn sg nm m V r q 0=0:=rfl
   rw [h0]
   refine (num_noneW fun e he=>?_).symm
   show (List.replicate m (-1:Int)).getD e 0≠_
   have:(List.replicate m (-1:Int)).getD e 0=-1:=by simp [List.getD_eq_getElem?_getD,he]
   rw [this];omega
 | j+1=>by
   have ih:=wcn_is hs hn hnm hV hr q hq j
   have hw:=wok hs hn hnm hV hr j
   have hN:=num_next (fun i=>(wrun sg nm m V r i).k nm=q) j
   unfold wcn at ih ⊢
   have hse:(wrun sg nm m V r j).d / 2 < m:=by have:=hw.lt;omega
   have hK:(wrun sg nm m V r (j+1)).K=wK1 (wrun sg nm m V r j).K (wrun sg nm m V r j).d ((wrun sg nm m V r j).k nm):=rfl
   rw [hK]
   generalize wrun sg nm m V r j=s at *
   have hsl:s.d / 2 < s.K.length:=by rw [hw.kl];exact hse
   rcases s.kinds (nm:=nm) with ⟨k,a⟩ | ⟨k,a⟩ | ⟨k,a,c,_⟩ | ⟨k,a,c,_⟩
   ·rw [hN.2 (by rw [k];omega),ih,k];rfl
   ·rw [hN.2 (by rw [k];omega),ih,k];rfl
   ·rw [k]
    have hK2:∀ e,(wK1 s.K s.d 2).getD e 0=if e=s.d / 2 then 2 else s.K.getD e 0:=fun e=>by
     unfold wK1;rw [if_pos (by omega)];exact getI_set _ _ _ _ hsl
    have hkq:(s.k nm=q)↔q=2:=by rw [k];exact eq_comm
    by_cases c2:q=2
    ·rw [hN.1 (hkq.2 c2),ih]
     refine num_less' hse (by rw [hK2,if_pos rfl,c2];rfl) fun e he=>?_
     rw [hK2]
     by_cases x:e=s.d / 2
     ·rw [if_pos x]
      subst c2
      exact ⟨fun y=>absurd (by rw [← x];exact y) c,fun y=>absurd x y.2⟩
     ·rw [if_neg x];exact ⟨fun y=>⟨y,x⟩,fun y=>y.1⟩
    ·rw [hN.2 (fun y=>c2 (hkq.1 y)),ih]
     refine num_same fun e he=>?_
     rw [hK2]
     by_cases x:e=s.d / 2
     ·rw [if_pos x,x]
      have:q=0:=by omega
      subst this
      exact ⟨fun y=>absurd y a,fun y=>absurd y (by decide)⟩
     ·rw [if_neg x]
   ·rw [k]
    have hK2:∀ e,(wK1 s.K s.d 0).getD e 0=if e=s.d / 2 then 0 else s.K.getD e 0:=fun e=>by
     unfold wK1;rw [if_pos (by omega)];exact getI_set _ _ _ _ hsl
    have hkq:(s.k nm=q)↔q=0:=by rw [k];exact eq_comm
    by_cases c2:q=0
    ·rw [hN.1 (hkq.2 c2),ih]
     refine num_less' hse (by rw [hK2,if_pos rfl,c2];rfl) fun e he=>?_
     rw [hK2]
     by_cases x:e=s.d / 2
     ·rw [if_pos x]
      subst c2
      exact ⟨fun y=>absurd (by rw [← x];exact y) a,fun y=>absurd x y.2⟩
     ·rw [if_neg x];exact ⟨fun y=>⟨y,x⟩,fun y=>y.1⟩
    ·rw [hN.2 (fun y=>c2 (hkq.1 y)),ih]
     refine num_same fun e he=>?_
     rw [hK2]
     by_cases x:e=s.d / 2
     ·rw [if_pos x,x]
      have:q=2:=by omega
      subst this
      exact ⟨fun y=>absurd y c,fun y=>absurd y (by decide)⟩
     ·rw [if_neg x]
theorem one_lead (hs:PF n sg) (hnm:∀ x y,x < n→y < n→(nm x=nm y↔Orb sg x y)) {x:Nat} (hx:x < n):∃ p,p < n∧Least (Orb sg) p∧nm p=nm x∧∀ q,q < n→Least (Orb sg) q→nm q=nm x→q=p:=by
 obtain ⟨p,h1,h2,h3⟩:=least_ex hs.eqv x hx
 have hp:p < n:=by omega
 refine ⟨p,hp,h3,(hnm p x hp hx).2 h2,fun q hq l e=>?_⟩
 have hqp:Orb sg q p:=hs.eqv.trans _ _ _ hq hx hp ((hnm q x hq hx).1 e) (hs.eqv.symm _ _ hp hx h2)
 exact least_uniq hs.eqv hq hp hqp l h3
theorem wmet (hs:PF n sg) (hn:n=2*m) (hnm:∀ x y,x < n→y < n→(nm x=nm y↔Orb sg x y)) (hV:∀ x,x < n→nm x < V) (hr:r < n):∀ j,num (fun d=>Least (Orb sg) d∧(wrun sg nm m V r j).M.getD (nm d) false=true) n=wcn sg nm m V r 0 j+1
 | 0=>by
   have h0:wcn sg nm m V r 0 0=0:=rfl
   rw [h0]
   obtain ⟨p,hp,l,e,u⟩:=one_lead hs hnm hr
   have hm:∀ x,((List.replicate V false).set (nm r) true).getD x false=decide (x=nm r):=fun x=>by
    rw [getB_set _ _ _ _ (by simpa using hV r hr)]
    by_cases c:x=nm r
    ·rw [if_pos c,decide_eq_true_iff.2 c]
    ·rw [if_neg c,decide_eq_false_iff_not.2 c]
     simp [List.getD_eq_getElem?_getD,List.getElem?_replicate]
     split <;> rfl
   have:num (fun _=>False) n+1=num (fun d=>Least (Orb sg) d∧(wrun sg nm m V r 0).M.getD (nm d) false=true) n:=by
    refine num_less' hp ⟨l,?_⟩ fun i hi=>⟨False.elim,fun ⟨⟨a,b⟩,c⟩=>c (u i hi a ?_)⟩
    ·show ((List.replicate V false).set (nm r) true).getD _ false=true
     rw [hm,e];simp
    ·have b':((List.replicate V false).set (nm r) true).getD (nm i) false=true:=b
     rw [hm,decide_eq_true_iff] at b'
     exact b'
   rw [← this,num_noneW fun _ _=>id]
 | j+1=>by
   have ih:=wmet hs hn hnm hV hr j
   have hw:=wok hs hn hnm hV hr j
   have hN:=num_next (fun i=>(wrun sg nm m V r i).k nm=0) j
   unfold wcn at ih ⊢
   have hM:(wrun sg nm m V r (j+1)).M=wM1 nm (wrun sg nm m V r j).M (wrun sg nm m V r j).d ((wrun sg nm m V r j).k nm):=rfl
   rw [hM]
   generalize wrun sg nm m V r j=s at *
   have hmd:mt s.d < n:=mt_lt hn hw.lt
   by_cases k:s.k nm=0
   ·rw [hN.1 k,← ih,k]
    have c:s.M.getD (nm (mt s.d)) false≠true:=by
     rcases s.kinds (nm:=nm) with ⟨q,_⟩ | ⟨q,_⟩ | ⟨q,_⟩ | ⟨_,_,_,c⟩
     ·rw [k] at q;omega
     ·rw [k] at q;omega
     ·rw [k] at q;omega
     ·exact c
    have hM2:∀ v,(wM1 nm s.M s.d 0).getD v false=if v=nm (mt s.d) then true else s.M.getD v false:=fun v=>by
     unfold wM1;rw [if_pos rfl];exact getB_set _ _ _ _ (by rw [hw.ml];exact hV _ hmd)
    obtain ⟨p,hp,l,e,u⟩:=one_lead hs hnm hmd
    refine (num_less' hp ⟨l,by rw [hM2,if_pos e]⟩ fun i hi=>?_).symm
    rw [hM2]
    constructor
    ·rintro ⟨a,b⟩
     refine ⟨⟨a,?_⟩,fun x=>c ?_⟩
     ·split
      ·rfl
      ·exact b
     ·rw [← e,← x];exact b
    ·rintro ⟨⟨a,b⟩,x⟩
     refine ⟨a,?_⟩
     split at b
     ·next y=>exact absurd (u i hi a y) x
     ·exact b
   ·rw [hN.2 k,← ih]
    unfold wM1
    rw [if_neg k]
end
theorem num_lt (N:Nat):∀ n,N≤n→num (fun j=>j < N) n=N
 | 0,h=>by have:N=0:=by omega
           subst this;rfl
 | n+1,h=>by
   rcases Nat.lt_or_ge n N with c | c
   ·rw [(num_next (fun j=>j < N) n).1 c]
    have:num (fun j=>j < N) n=num (fun _=>True) n:=num_same fun i hi=>⟨fun _=>trivial,fun _=>by omega⟩
    have h2:∀ k,num (fun _=>True) k=k:=fun k=>by
     induction k with
     | zero=>rfl
     | succ k ih=>rw [(num_next (fun _=>True) k).1 trivial,ih]
    rw [this,h2];omega
   ·rw [(num_next (fun j=>j < N) n).2 (by omega),num_lt N n c]
theorem num_or {P Q:Nat→Prop} (h:∀ e,P e→¬ Q e):∀ k,num P k+num Q k=num (fun e=>P e∨Q e) k
 | 0=>rfl
 | k+1=>by
   have ih:=num_or h k
   by_cases p:P k
   ·rw [(num_next P k).1 p,(num_next Q k).2 (h k p),(num_next (fun e=>P e∨Q e) k).1 (.inl p)];omega
   ·rw [(num_next P k).2 p]
    by_cases q:Q k
    ·rw [(num_next Q k).1 q,(num_next (fun e=>P e∨Q e) k).1 (.inr q)];omega
    ·rw [(num_next Q k).2 q,(num_next (fun e=>P e∨Q e) k).2 (fun x=>x.elim p q)];omega
theorem num_evens (P:Nat→Prop):∀ m,num (fun d=>P d∧d%2=0) (2*m)=num (fun e=>P (2*e)) m
 | 0=>rfl
 | m+1=>by
   have ih:=num_evens P m
   rw [show 2*(m+1)=2*m+1+1 by omega,(num_next (fun d=>P d∧d%2=0) (2*m+1)).2 (fun x=>by have:=x.2;omega)]
   by_cases p:P (2*m)
   ·rw [(num_next (fun d=>P d∧d%2=0) (2*m)).1 ⟨p,by omega⟩,(num_next (fun e=>P (2*e)) m).1 p,ih]
   ·rw [(num_next (fun d=>P d∧d%2=0) (2*m)).2 (fun x=>p x.1),(num_next (fun e=>P (2*e)) m).2 p,ih]
section
variable {l b:List Nat}
theorem wmark (h:Inv l b) (he:l.length%2=0) {V:Nat} (hV:∀ x,x < l.length→nameOf l x < V) {r:Nat} (hr:r < l.length) {x:Nat} (hx:x < l.length) :
  part l r x↔(wrun (sgL l) (nameOf l) (l.length / 2) V r (wN (sgL l) (nameOf l) (l.length / 2) V r)).M.getD (nameOf l x) false=true:=by
 have hs:=sgL_pf h
 have hn:l.length=2*(l.length / 2):=by omega
 have hw:=wok hs hn (nm_ok h) hV hr (wN (sgL l) (nameOf l) (l.length / 2) V r)
 obtain ⟨n1,n2,n3,n4⟩:=wN_is hs hn (nm_ok h) hV hr
 refine (wpart hs hn (nm_ok h) hV hr hx).trans ?_
 rw [← hw.mo x hx]
 constructor
 ·rintro ⟨j,hj,e⟩
  exact ⟨j,by rw [worb hs hn (nm_ok h) hV hr _ _ (Nat.le_of_lt hj)];exact e⟩
 ·rintro ⟨k,e⟩
  have hb:itf (fK (sgL l) (wrun (sgL l) (nameOf l) (l.length / 2) V r (wN (sgL l) (nameOf l) (l.length / 2) V r)).K) (wN (sgL l) (nameOf l) (l.length / 2) V r) r=r:=by rw [worb hs hn (nm_ok h) hV hr _ _ (Nat.le_refl _)];exact n3
  have h1:=itf_mul hb (k / wN (sgL l) (nameOf l) (l.length / 2) V r)
  have hlt:k%wN (sgL l) (nameOf l) (l.length / 2) V r < wN (sgL l) (nameOf l) (l.length / 2) V r:=Nat.mod_lt _ (by omega)
  refine ⟨_,hlt,?_⟩
  rw [← worb hs hn (nm_ok h) hV hr _ _ (Nat.le_of_lt hlt)]
  rw [← Nat.mod_add_div k (wN (sgL l) (nameOf l) (l.length / 2) V r),itf_add,Nat.mul_comm,h1] at e
  exact e
theorem pq_part (h:Inv l b) (he:l.length%2=0) {r x:Nat} (hr:r < l.length) (hx:x < l.length):pq l x=pq l r↔part l r x:=by
 have hq:=part_eqv h he
 unfold pq
 rw [eq_comm]
 exact prt_iff hq hr hx
open Classical in
theorem walk_counts (h:Inv l b) (he:l.length%2=0) {V:Nat} (hV:∀ x,x < l.length→nameOf l x < V) {r:Nat} (hr:r < l.length) :
  wN (sgL l) (nameOf l) (l.length / 2) V r=2*pE l (pq l r) l.length ∧
  wcn (sgL l) (nameOf l) (l.length / 2) V r 0 (wN (sgL l) (nameOf l) (l.length / 2) V r)+1=pV l (pq l r) l.length ∧
  wcn (sgL l) (nameOf l) (l.length / 2) V r 0 (wN (sgL l) (nameOf l) (l.length / 2) V r)+wcn (sgL l) (nameOf l) (l.length / 2) V r 2 (wN (sgL l) (nameOf l) (l.length / 2) V r)=pE l (pq l r) l.length:=by
 have hs:=sgL_pf h
 have hn:l.length=2*(l.length / 2):=by omega
 obtain ⟨n1,n2,n3,n4⟩:=wN_is hs hn (nm_ok h) hV hr
 have hwp:=fun x hx=>wpart hs hn (nm_ok h) hV hr (x:=x) hx
 have hwo:=fun i j hi hj e=>wonce hs hn (nm_ok h) hV hr (i:=i) (j:=j) hi hj e
 have hwm:=fun x hx=>wmark h he hV hr (x:=x) hx
 have hlt:=fun j=>(wok hs hn (nm_ok h) hV hr j).lt
 have hmet:=wmet hs hn (nm_ok h) hV hr (wN (sgL l) (nameOf l) (l.length / 2) V r)
 have hc0:=wcn_is hs hn (nm_ok h) hV hr 0 (.inl rfl) (wN (sgL l) (nameOf l) (l.length / 2) V r)
 have hc2:=wcn_is hs hn (nm_ok h) hV hr 2 (.inr rfl) (wN (sgL l) (nameOf l) (l.length / 2) V r)
 have hwk:=fun j hj=>wkind hs hn (nm_ok h) hV hr (i:=j) (j:=wN (sgL l) (nameOf l) (l.length / 2) V r) hj
 have hw:=wok hs hn (nm_ok h) hV hr (wN (sgL l) (nameOf l) (l.length / 2) V r)
 generalize hN:wN (sgL l) (nameOf l) (l.length / 2) V r=N at *
 refine ⟨?_,?_,?_⟩
 ·rw [← num_two h he]
  have e1:num (fun d=>pq l d=pq l r) l.length=num (fun d=>part l r d) l.length:=num_same fun d hd=>pq_part h he hr hd
  rw [e1]
  refine Nat.le_antisymm ?_ ?_
  ·have:=num_inj (A:=fun j=>j < N) (B:=fun d=>part l r d) (n:=l.length) (fun j=>(wrun (sgL l) (nameOf l) (l.length / 2) V r j).d) (fun j _ hj=>⟨hlt j,(hwp _ (hlt j)).2 ⟨j,hj,rfl⟩⟩) (fun i j _ _ hi hj e=>hwo i j hi hj e)
   rwa [num_lt N _ n2] at this
  ·have:=num_inj (A:=fun d=>part l r d) (B:=fun j=>j < N) (n:=l.length) (fun d=>if hx:∃ j,j < N∧(wrun (sgL l) (nameOf l) (l.length / 2) V r j).d=d then hx.choose else 0) (fun d hd hp=>by
    have hx:=(hwp d hd).1 hp
    show (if hx:_ then _ else _) < _∧(if hx:_ then _ else _) < N
    rw [dif_pos hx]
    exact ⟨by have:=hx.choose_spec.1;omega,hx.choose_spec.1⟩) (fun x y hx hy px py e=>by
    have h1:=(hwp x hx).1 px
    have h2:=(hwp y hy).1 py
    simp only [dif_pos h1,dif_pos h2] at e
    rw [← h1.choose_spec.2,← h2.choose_spec.2,e])
   rwa [num_lt N _ n2] at this
 ·rw [← hmet]
  unfold pV
  refine num_same fun d hd=>?_
  rw [← hwm d hd,pq_part h he hr hd,leads_least h (Nat.le_of_lt hd)]
  exact and_comm
 ·rw [hc0,hc2,num_or (fun e x y=>by rw [x] at y;omega)]
  unfold pE
  have e2:num (fun d=>pq l d=pq l r∧d%2=0) l.length=num (fun e=>pq l (2*e)=pq l r) (l.length / 2):=by
   have:=num_evens (fun d=>pq l d=pq l r) (l.length / 2)
   rwa [← hn] at this
  rw [e2]
  refine num_same fun e hem=>?_
  have h2:2*e < l.length:=by omega
  rw [pq_part h he hr h2]
  constructor
  ·intro x
   exact (hwm _ h2).2 (hw.me _ h2 (by rw [show 2*e / 2=e by omega];rcases x with x | x <;> rw [x] <;> decide))
  ·intro p
   obtain ⟨j,hj,ej⟩:=(hwp _ h2).1 p
   have:=hwk j hj
   rw [ej,show 2*e / 2=e by omega] at this
   rw [this]
   split
   ·exact .inl rfl
   ·exact .inr rfl
end



theorem wst_mono (sg nm:Nat→Nat) (m V r:Nat) (i:Nat):∀ N k,k≤N→i < 2*k→(wst sg nm m V r N).getD i 0=(wst sg nm m V r k).getD i 0
 | 0,k,h,hi=>by omega
 | N+1,k,h,hi=>by
   rcases Nat.lt_or_ge N k with c | c
   ·rw [show k=N+1 by omega]
   ·rw [← wst_mono sg nm m V r i N k c hi]
    have:=wst_len sg nm m V r N
    rw [show wst sg nm m V r (N+1)=wst sg nm m V r N++[((wrun sg nm m V r N).d:Int),(((wrun sg nm m V r N).k nm:Nat):Int)] from rfl]
    rw [List.getD_eq_getElem?_getD,List.getElem?_append_left (by omega),← List.getD_eq_getElem?_getD]
theorem wst_d (sg nm:Nat→Nat) (m V r:Nat) {N k:Nat} (h:k < N):(wst sg nm m V r N).getD (2*k) 0=((wrun sg nm m V r k).d:Int):=by
 rw [wst_mono sg nm m V r _ N (k+1) (by omega) (by omega)]
 have:=wst_len sg nm m V r k
 unfold wst
 rw [List.getD_eq_getElem?_getD,List.getElem?_append_right (by omega),this,Nat.sub_self];rfl
set_option maxRecDepth 100000
def WalkedPost (w:World) (D L:List Nat) (e:Ending) (w':World):Prop :=
 ∃ z:List Nat,NewI64 w (ofN z) e w'∧z.map (sgL D)=L∧∀ j∈z,j < D.length
set_option maxHeartbeats 8000000 in
theorem cwalked_p (g:Nat) (l b:List Nat) (root lone:Int) (r:Nat) (D pl:List Nat) (A AP:Option Addr) (m c n cP:Nat) (w:World) (h:MapAt w g l b root lone) (hi:Inv l b) (hr:r < l.length) (hD:D=own l r) (hm:m=D.length)
  (hRD:Rd w w.heap.size A m (I64 (ofN D))) (hn:n=l.length) (hRP:Rd w w.heap.size AP n (I64 (ofN pl))) (hp:∀ i,i < D.length→sgL pl (sgL D i)=i) :
  Calls Tryz.prog 120 #[.agg #[.int .i64 (r:Int),.slice A m c],.pointer (some ⟨g,0,none⟩),.slice AP n cP] w (WalkedPost w D (wlk l r)):=by
 have hle:=h.2.1
 have hev:=h.1.1
 obtain ⟨e1,⟨B,hB⟩,e2,e3,e4,e5⟩:=al_walk hi hev hr hD hp
 have hAl:=alN_len (l:=l) (D:=D) (pl:=pl)
 rw [← hm] at e2 hAl
 obtain ⟨A',hA'⟩:∃ A',A'=alN l D pl:=⟨_,rfl⟩
 obtain ⟨j,hj⟩:∃ j,j=sgL pl r:=⟨_,rfl⟩
 rw [← hA'] at e1 hB e4 e5 hAl
 rw [← hj] at e2 e3 e4 e5
 have hml:m≤l.length:=by
  rw [hm,hD];unfold own
  exact Nat.le_trans (List.length_filter_le _ _) (by simp)
 have hDl:Hid (∀ k,k < m→sgL D k < n):=fun k hk=>by
  have:=sgL_mem (D:=D) (show k < D.length by omega)
  rw [hD,own_mem] at this
  rw [hn];rw [← hD] at this;exact this.1
 have HSG:Hid (∀ k,k < m→sgL l (sgL D k) < n∧sgL A' k=sgL pl (sgL l (sgL D k))):=fun k hk=>by
  refine ⟨by rw [hn];exact hi.lt _ (by have:=hDl.out k hk;omega),?_⟩
  rw [hA',alN_get (by omega)]
 obtain ⟨gD,oD,rfl,hgD,cD⟩:=hRD.i64 (by omega)
 obtain ⟨gP,oP,rfl,hgP,cP'⟩:=hRP.i64 (by omega)
 have CD:Hid (∀ W,Below w.heap.size w W→∀ k,k < m→W.cell? ⟨gD,oD+k,none⟩=some (.int .i64 ((sgL D k:Nat):Int))):=fun W z k hk=>by
  have:=(z.cell (p:=⟨gD,oD+k,none⟩) hgD).trans (cD k hk)
  rwa [ofN_get] at this
 have CP:Hid (∀ W,Below w.heap.size w W→∀ k,k < n→W.cell? ⟨gP,oP+k,none⟩=some (.int .i64 ((sgL pl k:Nat):Int))):=fun W z k hk=>by
  have:=(z.cell (p:=⟨gP,oP+k,none⟩) hgP).trans (cP' k hk)
  rwa [ofN_get] at this
 have SG:Hid (∀ (W:World),Below w.heap.size w W→∀ d:Nat,d < n→Calls Tryz.prog 96 #[.pointer (some ⟨g,0,none⟩),.int .i64 (d:Int)] W fun e w'=>e=.returned (.int .i64 ((sgL l d:Nat):Int))∧Below W.heap.size W w'):=fun W z d hd=>sigma_in g l b root lone d W (h.below z) (by rw [← hn];exact hd)
 have hrn:r < n:=by omega
 have hmn:m≤131072:=by omega
 have NW:Hid (∀ (W:World) (a:Nat),Rd W W.heap.size (some ⟨a,0,none⟩) m (I64 (ofN A'))→Calls Tryz.prog 7 #[.slice (some ⟨a,0,none⟩) m m,.int .i64 (j:Int),.int .i64 0] W (NewMap W A' B (j:Int) 0)):=fun W a z=>new_ok _ m m A' B _ 0 W z hB (by rw [← hAl];exact e1) hmn (.inr ⟨by omega,by omega,by omega⟩) (by omega) (by omega)
 obtain ⟨N,hN⟩:∃ N,N=wN (sgL A') (nameOf A') (A'.length / 2) (orbits A').length j:=⟨_,rfl⟩
 have hN1:=(wN_is (sgL_pf hB) (show A'.length=2*(A'.length / 2) by omega) (one_nm hB) (fun x hx=>name_lt hB hx) (show j < A'.length by omega))
 rw [← hN] at hN1
 have hNm:N≤131072:=by have:=hN1.2.1;omega
 have hN0:0 < N:=hN1.1
 obtain ⟨ws,hws⟩:∃ ws:Nat→Nat,ws=fun i=>(wrun (sgL A') (nameOf A') (A'.length / 2) (orbits A').length j i).d:=⟨_,rfl⟩
 obtain ⟨WS,hWS⟩:∃ WS:List Int,WS=wst (sgL A') (nameOf A') (A'.length / 2) (orbits A').length j N:=⟨_,rfl⟩
 have HW0:Hid (∀ k,k < N→WS.getD (2*k) 0=((ws k:Nat):Int)):=fun k hk=>by rw [hWS,hws];exact wst_d _ _ _ _ _ hk
 have HWK:Hid ((List.range N).map ws=wlk A' j):=by show _=_;rw [hN,hws];rfl
 have OFP:Hid (∀ (W:World) (g2:Nat),MapAt W g2 A' B (j:Int) 0→Calls Tryz.prog 126 #[.pointer (some ⟨g2,0,none⟩),.int .i64 (j:Int)] W (WalkPost W N WS)):=fun W g2 z=>by
  rw [hN,hWS,hN]
  exact walkOf_p g2 A' B (j:Int) 0 j (A'.length / 2) (orbits A').length W z hB (by omega) rfl (by rw [sizes_len];omega)
 have RT:Hid (∀ (W:World) (g2:Nat),MapAt W g2 A' B (j:Int) 0→Calls Tryz.prog 12 #[.pointer (some ⟨g2,0,none⟩)] W fun e w'=>e=.returned (.int .i64 (j:Int))∧W=w'):=fun W g2 z=>root_p g2 A' B (j:Int) 0 W z
 have FIN:Hid ((wlk A' j).map (sgL D)=wlk l r∧∀ i∈wlk A' j,i < D.length):=⟨e4,e5⟩
 have HAL:Hid (A'.length=m):=hAl
 have HJ:Hid (sgL pl r=j):=hj.symm
 obtain ⟨i0,hi0,hz0,hz1,hz2⟩:=info_parts info_int
 have hmk:=run_make_one (P:=Tryz.prog) 26 3 i0 (.int .i64 0) 8 Tryz.underlying26 hi0 hz0 hz1 hz2 rfl .i64 .i64 m (by omega) (by omega)
 have hmk2:=run_make_one (P:=Tryz.prog) 26 3 i0 (.int .i64 0) 8 Tryz.underlying26 hi0 hz0 hz1 hz2 rfl .i64 .i64 N (by omega) (by omega)
 have HMK2:=Lib.hid hmk2
 have hm0:0 < m:=by omega
 have hnn:n≤131072:=by omega
 have bx:Hid (Blk (w.alloc (.cells #[.int .i64 (r:Int),.slice (some ⟨gD,oD,none⟩) m c] 122)) w.heap.size 122 #[.int .i64 (r:Int),.slice (some ⟨gD,oD,none⟩) m c]):=Blk.new w 122 #[.int .i64 (r:Int),.slice (some ⟨gD,oD,none⟩) m c]
 have Z1:Hid (Below w.heap.size w (w.alloc (.cells #[.int .i64 (r:Int),.slice (some ⟨gD,oD,none⟩) m c] 122))):=(Below.refl _ _).alloc (Nat.le_refl _) _
 have hs1:(w.alloc (.cells #[.int .i64 (r:Int),.slice (some ⟨gD,oD,none⟩) m c] 122)).heap.size=w.heap.size+1:=by simp
 have x1:=bx.out.cell 1
 simp at x1
 clear h hi hr hD hRD hRP hp hn hm hml hle hev e1 e2 e3 e4 e5 hB hA' hj hAl cD cP' hgD hgP hN hN1 hws hWS hmk2
 go_enter Tryz.func120,Tryz.ntmps120
 have om:((w.alloc (.cells #[.int .i64 (r:Int),.slice (some ⟨gD,oD,none⟩) m c] 122)).alloc (.cells (List.replicate m (Value.int .i64 0)).toArray 3)).ownsRow w.heap.size 3 1 (.slice (some ⟨w.heap.size+1,0,none⟩) m m) m (I64 (ofN (List.replicate m 0))):=by
  have:=own_made (w.alloc (.cells #[.int .i64 (r:Int),.slice (some ⟨gD,oD,none⟩) m c] 122)) 3 m (.int .i64 0) (by simp only [maxLen];omega)
  have e:I64 (ofN (List.replicate m 0))=List.replicate m (.int .i64 0):=by simp [I64,ofN]
  rw [e]
  rw [hs1] at this
  exact this.base_le' (by omega)
 have OM:=Lib.hid om
 have al2:Below (w.alloc (.cells #[.int .i64 (r:Int),.slice (some ⟨gD,oD,none⟩) m c] 122)).heap.size (w.alloc (.cells #[.int .i64 (r:Int),.slice (some ⟨gD,oD,none⟩) m c] 122)) ((w.alloc (.cells #[.int .i64 (r:Int),.slice (some ⟨gD,oD,none⟩) m c] 122)).alloc (.cells (List.replicate m (Value.int .i64 0)).toArray 3)):=(Below.refl _ _).alloc (Nat.le_refl _) _
 have BX2:=Lib.hid (bx.out.below al2)
 have Z2:=Lib.hid (Z1.out.trans (al2.mono (by rw [hs1];omega)))
 have x12:=BX2.out.cell 1
 simp at x12
 clear om al2 bx Z1
 go_wp2_with fail
 go_loopw [24] (fun x wr=>∃ (k:Nat) (y:List Nat),k≤m∧x=.int .i64 (k:Int)∧Hid (y.length=m∧∀ i,i < k→sgL y i=sgL A' i)∧Hid (wr.ownsRow w.heap.size 3 1 (.slice (some ⟨w.heap.size+1,0,none⟩) m m) m (I64 (ofN y)))∧Hid (Blk wr w.heap.size 122 #[.int .i64 (r:Int),.slice (some ⟨gD,oD,none⟩) m c])∧Hid (Below w.heap.size w wr)) (fun x _=>m - (intOf x).toNat)
 case atStart=>exact ⟨0,List.replicate m 0,Nat.zero_le _,rfl,⟨by simp,fun i hi=>absurd hi (by omega)⟩,OM,BX2,Z2⟩
 case round =>
  clear OM BX2 Z2 x12 x1 hs1 hmk
  obtain ⟨k,y,hk,rfl,HY,O1,BX,ZZ⟩:=hrel
  by_cases hlt:k < m
  ·have hdk:decide (k < m)=true:=decide_eq_true hlt
   have c0:=CD.out wr ZZ.out k hlt
   obtain ⟨s1,s2⟩:=HSG.out k hlt
   have hdn:=hDl.out k hlt
   have SG1:=Lib.hid (SG.out wr ZZ.out (sgL D k) hdn)
   obtain ⟨d,hd⟩:∃ d,d=sgL D k:=⟨_,rfl⟩
   rw [← hd] at c0 s1 s2 hdn SG1
   obtain ⟨s,hs⟩:∃ s,s=sgL l d:=⟨_,rfl⟩
   rw [← hs] at s1 s2 SG1
   have S2:=Lib.hid s2
   have hki:(k:Int) < (m:Int):=by omega
   have hsi:(s:Int) < (n:Int):=by omega
   clear hd hs s2
   go_wp2_with fail
   refine SG1.out.mono ?_
   rintro e w4 ⟨rfl,b4⟩
   have O2:=Lib.hid (own_below O1.out b4)
   have fo:=O2.out.frozenAt k
   obtain ⟨q0,co⟩:∃ q0,w4.cell? ⟨w.heap.size+1,k,none⟩=some (.int .i64 q0):=⟨_,own_cellI O2.out k hlt⟩
   have E2:=Lib.hid (ZZ.out.trans (b4.mono ZZ.out.size))
   have cs:=CP.out w4 E2.out s s1
   have BX3:=Lib.hid (BX.out.below b4)
   clear b4 O1 SG1 ZZ BX
   go_wp2_with fail
   go_roundw
   case rel =>
    refine ⟨k+1,y.set k (sgL pl s),by omega,by go_num,⟨by rw [List.length_set];exact HY.out.1,fun i hi=>?_⟩,?_,?_,?_⟩
    ·show (y.set k (sgL pl s)).getD i 0=_
     rw [getDN_set _ _ _ _ (by rw [HY.out.1];exact hlt)]
     by_cases e:i=k
     ·rw [if_pos e,e,S2.out]
     ·rw [if_neg e];exact HY.out.2 i (by omega)
    ·have:=own_setI O2.out k ((sgL pl s:Nat):Int)
     rw [ofN_setN] at this
     exact this
    ·exact BX3.out.mod (Mod.setCell (p:=⟨w.heap.size+1,k,none⟩) (Mod.refl (fun i=>i=w.heap.size+1) _) (fun _=>rfl) _) (by omega)
    ·exact E2.out.setCell (p:=⟨w.heap.size+1,k,none⟩) (by simp) _
   case measure=>simp [intOf];omega
  ·obtain rfl:m=k:=by omega
   have hdk:decide (m < m)=false:=by simp
   have hyA:y=A':=getDN_extC (by rw [HY.out.1,HAL.out]) fun i hi=>HY.out.2 i (by rw [HY.out.1] at hi;exact hi)
   rw [hyA] at O1
   have NW1:=Lib.hid (NW.out wr (w.heap.size+1) (Rd.ofOwn O1.out))
   have x0:=BX.out.cell 0
   simp at x0
   have cr:=CP.out wr ZZ.out r hrn
   rw [HJ.out] at cr
   have hri:(r:Int) < (n:Int):=by omega
   clear hyA HY O1 BX
   go_wp2_with fail
   refine NW1.out.mono ?_
   rintro e w5 ⟨g2,rfl,m5,b5,_⟩
   have RT1:=Lib.hid (RT.out w5 g2 m5)
   have OF1:=Lib.hid (OFP.out w5 g2 m5)
   have Z5:=Lib.hid (ZZ.out.trans (b5.mono ZZ.out.size))
   clear m5 b5 NW1 ZZ x0 cr
   go_wp2_with fail
   refine RT1.out.mono ?_
   rintro e w' ⟨rfl,rfl⟩
   go_wp2_with fail
   refine OF1.out.mono ?_
   rintro e w6 ⟨A6,c6,rfl,o6,b6⟩
   have Z6:=Lib.hid (Z5.out.trans (b6.mono Z5.out.size))
   obtain ⟨g6,rfl,_,hg6⟩:=own_someS o6 hN0
   have hWl:WS.length=N*2:=by have:=o6.1;rw [I64_len] at this;exact this
   have C6:Hid (∀ W,Below w6.heap.size w6 W→∀ k,k < N→W.cell? ⟨g6,k*2,none⟩=some (.int .i64 ((ws k:Nat):Int))∧W.cell? ⟨g6,k*2+1,none⟩=some (.int .i64 (WS.getD (k*2+1) 0))):=fun W z k hk=>by
    have a:=(z.cell (p:=⟨g6,k*2,none⟩) hg6).trans (o6.cellAt (k*2) (by omega))
    have a2:=(z.cell (p:=⟨g6,k*2+1,none⟩) hg6).trans (o6.cellAt (k*2+1) (by omega))
    rw [I64_get _ _ (by omega)] at a a2
    rw [show k*2=2*k by omega,HW0.out k hk,show 2*k=k*2 by omega] at a
    exact ⟨a,a2⟩
   have ON0:Hid ((w6.alloc (.cells (List.replicate N (Value.int .i64 0)).toArray 3)).ownsRow w6.heap.size 3 1 (.slice (some ⟨w6.heap.size,0,none⟩) N N) N (I64 (ofN (List.replicate N 0)))):=by
    have:=own_made w6 3 N (.int .i64 0) (by simp only [maxLen];omega)
    have e:I64 (ofN (List.replicate N 0))=List.replicate N (.int .i64 0):=by simp [I64,ofN]
    rw [e];exact this
   have ZN0:=Lib.hid ((Below.refl w6.heap.size w6).alloc (Nat.le_refl _) (.cells (List.replicate N (Value.int .i64 0)).toArray 3))
   have hmk2:=HMK2.out
   clear o6 b6 OF1 RT1 Z5 hWl hg6
   go_wp2_with fail
   clear hmk2
   go_loopw [61] (fun x wr=>∃ (i:Nat) (z:List Nat),i≤N∧x=.int .i64 (i:Int)∧Hid (z.length=N∧∀ q,q < i→sgL z q=ws q)∧Hid (wr.ownsRow w6.heap.size 3 1 (.slice (some ⟨w6.heap.size,0,none⟩) N N) N (I64 (ofN z)))∧Hid (Below w6.heap.size w6 wr)) (fun x _=>N - (intOf x).toNat)
   case atStart=>exact ⟨0,List.replicate N 0,Nat.zero_le _,rfl,⟨by simp,fun i hi=>absurd hi (by omega)⟩,ON0,ZN0⟩
   case round =>
    clear ON0 ZN0
    obtain ⟨i,z,hik,rfl,HZ,ON,ZN⟩:=hrel
    by_cases hlti:i < N
    ·have hdi:decide (i < N)=true:=decide_eq_true hlti
     obtain ⟨y0,y1⟩:=C6.out wr ZN.out i hlti
     obtain ⟨d,hd⟩:∃ d,d=ws i:=⟨_,rfl⟩
     obtain ⟨t,ht⟩:∃ t,t=WS.getD (i*2+1) 0:=⟨_,rfl⟩
     rw [← hd] at y0
     rw [← ht] at y1
     have HDI:=Lib.hid hd
     clear hd ht
     have al:Below wr.heap.size wr (wr.alloc (.cells #[.int .i64 (d:Int),.int .i64 t] 136)):=(Below.refl _ _).alloc (Nat.le_refl _) _
     have ON2:=Lib.hid (own_below ON.out al)
     have ZN2:=Lib.hid (ZN.out.trans (al.mono ZN.out.size))
     have fo:=ON2.out.frozenAt i
     obtain ⟨q0,co⟩:∃ q0,(wr.alloc (.cells #[.int .i64 (d:Int),.int .i64 t] 136)).cell? ⟨w6.heap.size,i,none⟩=some (.int .i64 q0):=⟨_,own_cellI ON2.out i hlti⟩
     have hii:(i:Int) < (N:Int):=by omega
     clear al ON ZN
     go_wp2_with fail
     go_roundw
     case rel =>
      refine ⟨i+1,z.set i d,by omega,by go_num,⟨by rw [List.length_set];exact HZ.out.1,fun q hq=>?_⟩,?_,?_⟩
      ·show (z.set i d).getD q 0=_
       rw [getDN_set _ _ _ _ (by rw [HZ.out.1];exact hlti)]
       by_cases e:q=i
       ·rw [if_pos e,e,HDI.out]
       ·rw [if_neg e];exact HZ.out.2 q (by omega)
      ·have:=own_setI ON2.out i (d:Int)
       rw [ofN_setN] at this
       exact this
      ·exact ZN2.out.setCell (p:=⟨w6.heap.size,i,none⟩) (Nat.le_refl _) _
     case measure=>simp [intOf];omega
    ·obtain rfl:N=i:=by omega
     have hdi:decide (N < N)=false:=by simp
     go_wp2_with fail
     go_ret
     have hz:z=wlk A' j:=by
      rw [← HWK.out]
      refine getDN_extC (by simp [HZ.out.1]) fun q hq=>?_
      rw [HZ.out.1] at hq
      rw [map_rangeN _ _ _ hq]
      exact HZ.out.2 q hq
     refine ⟨wlk A' j,NewI64.mk rfl ?_ (Z6.out.trans (ZN.out.mono Z6.out.size)),FIN.out.1,FIN.out.2⟩
     have:=ON.out.base_le' Z6.out.size
     rw [← hz,ofN_len,HZ.out.1]
     exact this
end Go.Proofs.YtdinmjciippchaaGreat
