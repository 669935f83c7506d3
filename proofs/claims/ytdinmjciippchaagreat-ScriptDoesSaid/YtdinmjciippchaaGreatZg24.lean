/- The document's Cut and Shrink. -/
import Derived.Test.YtdinmjciippchaaGreatZg22
import Derived.Test.YtdinmjciippchaaGreatZg23
import Derived.Deep.RegionHeld3
import Derived.Test.YtdinmjciippchaaGreatZg6
open Go.RowKit
set_option linter.unusedVariables false
set_option linter.unusedSimpArgs false
namespace Go.Proofs.YtdinmjciippchaaGreat
set_option maxRecDepth 100000
theorem empN_filter (os:List (List Nat)):∀ k,k≤os.length→empN os k=((os.take k).filter fun v=>decide (v.length=0)).length
 | 0,_=>by simp [empN]
 | k+1,h=>by
   have ih:=empN_filter os k (by omega)
   have e:os.take (k+1)=os.take k++[os.getD k []]:=by
    rw [List.take_add_one,List.getD_eq_getElem?_getD,List.getElem?_eq_getElem (by omega)];rfl
   unfold empN
   rw [ih,e,List.filter_append,List.length_append]
   congr 1
   by_cases c:(os.getD k []).length=0
   ·rw [if_pos c,List.filter_cons_of_pos (by simpa using c)];rfl
   ·rw [if_neg c,List.filter_cons_of_neg (by simpa using c)];rfl
theorem empN_all (os:List (List Nat)):empN os os.length=(os.filter fun v=>decide (v.length=0)).length:=by
 rw [empN_filter os _ (Nat.le_refl _),List.take_length]
theorem empN_snoc (os:List (List Nat)) (v:List Nat):empN (os++[v]) (os++[v]).length=empN os os.length+if v.length=0 then 1 else 0:=by
 rw [empN_all,empN_all,List.filter_append,List.length_append]
 congr 1
 by_cases c:v.length=0
 ·rw [if_pos c,List.filter_cons_of_pos (by simpa using c)];rfl
 ·rw [if_neg c,List.filter_cons_of_neg (by simpa using c)];rfl
section
variable {l b:List Nat}
theorem oth_emp (h:Inv l b) (e:Nat):empN (othN l e l.length) (othN l e l.length).length=0:=by
 rw [empN_all,List.length_eq_zero_iff,List.filter_eq_nil_iff]
 intro v hv
 obtain ⟨d,d1,_,_,rfl⟩:=oth_mem hv
 have hd:=(leads_in.1 d1).1
 have h3:(orb l d).length=per l d:=by unfold orb;exact way_len _ _ _
 have:=(per_is h hd).1
 simp only [decide_eq_true_eq]
 omega
theorem flt_nil (h:Inv l b) {e a:Nat} (ha:a < l.length):(fltE e (orb l a)).length=0↔∀ y,y < l.length→Orb (sgL l) a y→y / 2=e:=by
 rw [List.length_eq_zero_iff]
 unfold fltE
 rw [List.filter_eq_nil_iff]
 constructor
 ·intro H y hy ⟨t,ht⟩
  have:=H y ((mem_orb h ha).2 ⟨t,by rw [← sgL_it];exact ht⟩)
  simpa using this
 ·intro H y hy
  obtain ⟨t,ht⟩:=(mem_orb h ha).1 hy
  have:=H y (by rw [← ht];exact it_lt h ha t) ⟨t,by rw [sgL_it];exact ht⟩
  simpa using this
theorem zer_same (h:Inv l b) (lone:Int) (hl:0≤lone) {e:Nat} (hE:2*e+2≤l.length) (q:nameOf l (2*e)=nameOf l (2*e+1)) :
  zerTo (besN l lone e) (besN l lone e).length=if (fltE e (orb l (2*e))).length=0 then 1 else 0:=by
 have ha:2*e < l.length:=by omega
 have hc:2*e+1 < l.length:=by omega
 have hq:=(sgL_pf h).eqv
 have o:=(name_iff h ha hc).1 q
 have na:=num_less (Q:=fun i=>Orb (sgL l) (2*e) i) ha (hq.refl _ ha)
 have nac:=num_less (Q:=fun i=>Orb (sgL l) (2*e) i∧i≠2*e) hc ⟨o,by omega⟩
 have hn:=num_none (n:=l.length) (Q:=fun i=>(Orb (sgL l) (2*e) i∧i≠2*e)∧i≠2*e+1)
 unfold besN
 rw [if_pos q]
 show zerTo _ 1=_
 rw [zerTo_one,deg_num h lone hl ha]
 by_cases c:(fltE e (orb l (2*e))).length=0
 ·rw [if_pos c,if_pos]
  have:=hn.2 (fun y hy ⟨⟨y1,y2⟩,y3⟩=>by have:=(flt_nil h ha).1 c y hy y1;omega)
  omega
 ·rw [if_neg c,if_neg]
  intro z
  refine c ((flt_nil h ha).2 fun y hy oy=>?_)
  have:=hn.1 (by omega) y hy
  have:¬ (y≠2*e∧y≠2*e+1):=fun ⟨a,b⟩=>this ⟨⟨oy,a⟩,b⟩
  omega
theorem zer_diff (h:Inv l b) (lone:Int) (hl:0≤lone) {e:Nat} (hE:2*e+2≤l.length) (q:nameOf l (2*e)≠nameOf l (2*e+1)) :
  zerTo (besN l lone e) (besN l lone e).length=(if (fltE e (orb l (2*e))).length=0 then 1 else 0)+if (fltE e (orb l (2*e+1))).length=0 then 1 else 0:=by
 have ha:2*e < l.length:=by omega
 have hc:2*e+1 < l.length:=by omega
 have hq:=(sgL_pf h).eqv
 have o:¬ Orb (sgL l) (2*e) (2*e+1):=fun o=>q ((name_iff h ha hc).2 o)
 have one:∀ a a':Nat,a < l.length→a / 2=e→a' / 2=e→a'≠a→¬ Orb (sgL l) a a'→(((num (fun i=>Orb (sgL l) a i) l.length:Nat):Int) - 1=0↔(fltE e (orb l a)).length=0):=fun a a' ha ea ea' hne hno=>by
  have na:=num_less (Q:=fun i=>Orb (sgL l) a i) ha (hq.refl _ ha)
  have hn:=num_none (n:=l.length) (Q:=fun i=>Orb (sgL l) a i∧i≠a)
  rw [flt_nil h ha]
  constructor
  ·intro z y hy oy
   have:=hn.1 (by omega) y hy
   have:¬ y≠a:=fun c=>this ⟨oy,c⟩
   omega
  ·intro H
   have:=hn.2 (fun y hy ⟨y1,y2⟩=>by
    have h1:=H y hy y1
    have:y=a':=by omega
    rw [this] at y1;exact hno y1)
   omega
 unfold besN
 rw [if_neg q]
 show zerTo _ 2=_
 rw [zerTo_two,deg_num h lone hl ha,deg_num h lone hl hc]
 have s1:=one (2*e) (2*e+1) ha (by omega) (by omega) (by omega) o
 have s2:=one (2*e+1) (2*e) hc (by omega) (by omega) (by omega) (fun o2=>o (hq.symm _ _ hc ha o2))
 congr 1
 ·by_cases c:(fltE e (orb l (2*e))).length=0
  ·rw [if_pos c,if_pos (s1.2 c)]
  ·rw [if_neg c,if_neg (fun z=>c (s1.1 z))]
 ·by_cases c:(fltE e (orb l (2*e+1))).length=0
  ·rw [if_pos c,if_pos (s2.2 c)]
  ·rw [if_neg c,if_neg (fun z=>c (s2.1 z))]
open Classical in
theorem shr_emp (h:Inv l b) (lone:Int) (hl:0≤lone) {e:Nat} (hE:2*e+2≤l.length) (q:nameOf l (2*e)≠nameOf l (2*e+1)) :
  (fltE e (orb l (2*e+1))++fltE e (orb l (2*e))).length=0↔degOf l lone (nameOf l (2*e):Nat)+degOf l lone (nameOf l (2*e+1):Nat)=2:=by
 have ha:2*e < l.length:=by omega
 have hc:2*e+1 < l.length:=by omega
 have hpf:=sgL_pf h
 have no:¬ Orb (sgL l) (2*e) (2*e+1):=fun o=>q ((name_iff h ha hc).2 o)
 rw [both_deg h lone hl hE,List.length_append]
 constructor
 ·intro z
  have z1:=(flt_nil (e:=e) h hc).1 (by omega)
  have z0:=(flt_nil (e:=e) h ha).1 (by omega)
  have y0:=z0 _ (hpf.lt _ ha) ⟨1,rfl⟩
  have y1:=z1 _ (hpf.lt _ hc) ⟨1,rfl⟩
  have n0:sgL l (2*e)≠2*e+1:=fun c=>no ⟨1,c⟩
  have n1:sgL l (2*e+1)≠2*e:=fun c=>no (hpf.eqv.symm _ _ hc ha ⟨1,c⟩)
  exact ⟨by omega,by omega⟩
 ·rintro ⟨s0,s1⟩
  have f0:=(flt_nil (e:=e) h ha).2 (fun y hy ⟨k,r⟩=>by rw [itf_const s0] at r;omega)
  have f1:=(flt_nil (e:=e) h hc).2 (fun y hy ⟨k,r⟩=>by rw [itf_const s1] at r;omega)
  omega
theorem flt_le (h:Inv l b) {e a:Nat} (ha:a < l.length):(fltE e (orb l a)).length≤l.length:=by
 have h1:=orb_leF h ha
 have h2:(fltE e (orb l a)).length≤(orb l a).length:=by unfold fltE;exact List.length_filter_le _ _
 omega
theorem oth_vlen (h:Inv l b) {e k:Nat} {v:List Nat} (hk:k≤l.length) (hv:v∈othN l e k):v.length≤l.length:=by
 obtain ⟨d,d1,_,_,rfl⟩:=oth_mem hv
 exact orb_leF h (by have:=(leads_in.1 d1).1;omega)
theorem oth_tells (h:Inv l b) {e:Nat} (z:List Nat) (he:e < l.length / 2) {v:List Nat} (hv:v∈othN l e l.length):TellsU l.length e (woN l z e) v:=by
 obtain ⟨d,d1,d2,d3,rfl⟩:=oth_mem hv
 have hd:=(leads_in.1 d1).1
 exact tells_oth h z he hd (fun x hx=>oth_clear h he hd d2 d3 hx)
end
section
variable {w w':World}
theorem rows_app (W:World) (B:Nat) (A:Option Addr) (c:Nat) (vs:List Value) (os:List (List Nat)) (ho:W.ownsRow B 26 1 (.slice A os.length c) os.length vs) (hr:RowsOwn W B vs os) (hB:B≤W.heap.size)
  (gb:Nat) (Av:Option Addr) (v:List Nat) (cv:Nat) (hb:Rd W (gb+1) (some ⟨gb,0,none⟩) 1 [.slice Av v.length cv]) (hv:W.ownsRow B 3 1 (.slice Av v.length cv) v.length (I64 (ofN v))) (hcv:v.length≤cv) (hn:os.length≤200000) :
  ∃ A' c' w',(Builtin.append_ #[68,68] 68 #[.slice A os.length c,.slice (some ⟨gb,0,none⟩) 1 1]).run Tryz.prog W=.ok (.slice A' (os.length+1) c') w' ∧
   w'.ownsRow B 26 1 (.slice A' (os.length+1) c') (os.length+1) (vs++[.slice Av v.length cv])∧RowsOwn w' B (vs++[.slice Av v.length cv]) (os++[v])∧Below B W w':=by
 obtain ⟨i0,hi0,hz0,hz1,hz2⟩:=info_parts info_ints
 obtain ⟨v',w',h1,h2,h3,h4⟩:=run_append_rd (P:=Tryz.prog) W B 68 68 26 i0 (.slice none 0 0) 24 Tryz.underlying68 hi0 hz0 hz1 hz2 rfl _ os.length vs ho (gb+1) (some ⟨gb,0,none⟩) 1 1 [.slice Av v.length cv] hb (by intro u hu;simp at hu;subst hu;rfl) (by simp only [maxLen];omega) (by omega) hB
 obtain ⟨A',c',e1,_⟩:=own_form h2
 subst e1
 have m6:=Mod.ofGrown h3
 refine ⟨A',c',w',h1,h2,?_,Below.appended ho h3 hB⟩
 have r5:=hr.mod m6 (fun A n c xs q ho' hq hx=>own_own_ne ho' ho (by decide) q hq hx.symm)
 exact r5.snoc hcv (own_mod hv m6 (fun q hq hx=>own_own_ne hv ho (by decide) q hq hx.symm))
end
theorem step_append_run {P:Program} (w:World) {ops:Array Oper} {o:Oper} {a:Act} {K:Act→World→Prop} {Q:Exit→Act→World→Prop} {E:Prop} (hw:Region.wanted o (yielded ops a.tmps)=true) (s x:Operand) (t:TypeId)
  (ho:o.op=.call { callee:=.builtin .append,args:=#[s,x],argTypes:=#[t,t] }) (v u v':Value) (w':World) (hs:a.eval s=v) (hx:a.eval x=u)
  (hr:(Builtin.append_ #[t,t] o.type #[v,u]).run P w=.ok v' w') (h:K (a.put o.dst v') w') :
  if Region.wanted o (yielded ops a.tmps)=true then Oper.wp P o a w K Q else E:=by
 rw [if_pos hw]
 unfold Oper.wp execOp
 simp only [ho,resolve,invoke,builtin,Sem.run_bind,Sem.run_pure,Result.andThen_ok,List.map_toArray,List.map_cons,List.map_nil,hs,hx,hr]
 exact h
theorem wpList_append_run {P:Program} {w:World} {ops:Array Oper} {rest:List Oper} {o:Oper} {a:Act} {Q:Exit→Act→World→Prop} (hw:Region.wanted o (yielded ops a.tmps)=true) (s x:Operand) (t:TypeId)
  (ho:o.op=.call { callee:=.builtin .append,args:=#[s,x],argTypes:=#[t,t] }) (v u v':Value) (w':World) (hs:a.eval s=v) (hx:a.eval x=u)
  (hr:(Builtin.append_ #[t,t] o.type #[v,u]).run P w=.ok v' w') (h:wpList P ops Q rest (a.put o.dst v') w'):wpList P ops Q (o :: rest) a w :=
 wpList_wanted hw fun K hK=>by
  unfold Oper.wp execOp
  simp only [ho,resolve,invoke,builtin,Sem.run_bind,Sem.run_pure,Result.andThen_ok,List.map_toArray,List.map_cons,List.map_nil,hs,hx,hr]
  exact hK _ _ h
set_option maxHeartbeats 4000000 in
theorem rcut_p (A:Option Addr) (c:Nat) (l b:List Nat) (r:Nat) (lone:Int) (e:Nat) (w:World)
  (h:Rd w w.heap.size A l.length (I64 (ofN l))) (hinv:Inv l b) (hev:l.length%2=0) (hn:l.length≤100000) (hr:r < l.length) (hE:2*e+2≤l.length) (hl0:0≤lone) (hl1:lone≤60000) :
  Calls Tryz.prog 30 #[.agg #[.slice A l.length c,.int .i64 (r:Int),.int .i64 lone],.int .i64 (e:Int)] w
   (NewRO w (woN l l e) (heirN l b r e) (lone+(zerTo (besN l lone e) (besN l lone e).length:Nat))):=by
 have he:e < l.length / 2:=by omega
 obtain ⟨i0,hi0,hz0,hz1,hz2⟩:=info_parts info_ints
 obtain ⟨a0,ha0⟩:∃ a0,a0=2*e:=⟨_,rfl⟩
 obtain ⟨a1,ha1⟩:∃ a1,a1=2*e+1:=⟨_,rfl⟩
 have i1:2*(e:Int)=(a0:Int):=by omega
 have i2:(a0:Int)+1=(a1:Int):=by omega
 have l0:a0 < l.length:=by omega
 have l1:a1 < l.length:=by omega
 have l0i:(a0:Int) < (l.length:Int):=by omega
 have l1i:(a1:Int) < (l.length:Int):=by omega
 have w0i:IntKind.i64.wrap (a0:Int)=(a0:Int):=by simp [IntKind.wrap,IntKind.signed,IntKind.bits];omega
 have w1i:IntKind.i64.wrap (a1:Int)=(a1:Int):=by simp [IntKind.wrap,IntKind.signed,IntKind.bits];omega
 have hb0:=((Below.refl w.heap.size w).alloc (Nat.le_refl _) (.cells #[.slice A l.length c,.int .i64 (r:Int),.int .i64 lone] 28)).alloc (by simp) (.cells #[.slice none 0 0,.int .i64 0,.int .i64 0] 28)
 have HX:=Lib.hid ((Blk.new w 28 #[.slice A l.length c,.int .i64 (r:Int),.int .i64 lone]).alloc (.cells #[.slice none 0 0,.int .i64 0,.int .i64 0] 28))
 have hy:=(Blk.new (w.alloc (.cells #[.slice A l.length c,.int .i64 (r:Int),.int .i64 lone] 28)) 28 #[.slice none 0 0,.int .i64 0,.int .i64 0])
 rw [show (w.alloc (.cells #[.slice A l.length c,.int .i64 (r:Int),.int .i64 lone] 28)).heap.size=w.heap.size+1 by simp] at hy
 have HY:=Lib.hid hy
 have HR:=Lib.hid (h.more hb0)
 have HB0:=Lib.hid hb0
 have HINF:=Lib.hid info_rmap
 have HINV:=Lib.hid hinv
 obtain ⟨O,hO⟩:∃ O,O=othN l e l.length:=⟨_,rfl⟩
 obtain ⟨V0,hV0⟩:∃ V0,V0=fltE e (orb l a0):=⟨_,rfl⟩
 obtain ⟨V1,hV1⟩:∃ V1,V1=fltE e (orb l a1):=⟨_,rfl⟩
 obtain ⟨OS,hOS⟩:∃ OS:List (List Nat),OS=if nameOf l a0=nameOf l a1 then O++[V0] else (O++[V0])++[V1]:=⟨_,rfl⟩
 obtain ⟨RT,hRT⟩:∃ RT,RT=heirN l b r e:=⟨_,rfl⟩
 obtain ⟨LF,hLF⟩:∃ LF,LF=lone+((zerTo (besN l lone e) (besN l lone e).length:Nat):Int):=⟨_,rfl⟩
 obtain ⟨T,hT⟩:∃ T,T=woN l l e:=⟨_,rfl⟩
 have hOle:O.length≤l.length:=by rw [hO];exact oth_len l e _
 have hV0l:V0.length≤l.length:=by rw [hV0];exact flt_le hinv l0
 have hV1l:V1.length≤l.length:=by rw [hV1];exact flt_le hinv l1
 have HOSM:Hid (∀ v,v∈OS→v∈O∨v=V0∨v=V1):=fun v hv=>by
  rw [hOS] at hv
  split at hv
  ·rcases List.mem_append.1 hv with q | q
   ·exact .inl q
   ·exact .inr (.inl (by simpa using q))
  ·rcases List.mem_append.1 hv with q | q
   ·rcases List.mem_append.1 q with q | q
    ·exact .inl q
    ·exact .inr (.inl (by simpa using q))
   ·exact .inr (.inr (by simpa using q))
 have HTE:Hid (∀ v,v∈OS→TellsU l.length e T v):=fun v hv=>by
  rw [hT]
  rcases HOSM.out v hv with q | q | q
  ·rw [hO] at q;exact oth_tells hinv l he q
  ·rw [q,hV0];exact tells_cut hinv he l0
  ·rw [q,hV1];exact tells_cut hinv he l1
 have HVL:Hid (∀ v,v∈OS→v.length≤200000):=fun v hv=>by
  rcases HOSM.out v hv with q | q | q
  ·rw [hO] at q;have:=oth_vlen hinv (Nat.le_refl _) q;omega
  ·rw [q];omega
  ·rw [q];omega
 have HCV:Hid (∀ x,x < l.length→x / 2≠e→∃ v,v∈OS∧x∈v):=fun x hx hxe=>by
  rcases cov_any hinv he hx hxe with ⟨v,v1,v2⟩ | ⟨n0,m⟩ | ⟨n1,m⟩
  ·refine ⟨v,?_,v2⟩
   rw [hOS,hO]
   split
   ·exact List.mem_append.2 (.inl v1)
   ·exact List.mem_append.2 (.inl (List.mem_append.2 (.inl v1)))
  ·refine ⟨V0,?_,by rw [hV0,ha0];exact m⟩
   rw [hOS]
   split
   ·exact List.mem_append.2 (.inr (by simp))
   ·exact List.mem_append.2 (.inl (List.mem_append.2 (.inr (by simp))))
  ·by_cases q:nameOf l a0=nameOf l a1
   ·refine ⟨V0,?_,?_⟩
    ·rw [hOS,if_pos q];exact List.mem_append.2 (.inr (by simp))
    ·rw [← ha1,← q] at n1
     obtain ⟨t,ht⟩:=(name_iff hinv l0 hx).1 n1.symm
     rw [hV0]
     exact mem_fltE ((mem_orb hinv l0).2 ⟨t,by rw [← sgL_it];exact ht⟩) hxe
   ·refine ⟨V1,?_,by rw [hV1,ha1];exact m⟩
    rw [hOS,if_neg q];exact List.mem_append.2 (.inr (by simp))
 have HEM:Hid (lone+((empN OS OS.length:Nat):Int)=LF):=by
  show _=_
  rw [hLF]
  congr 2
  by_cases q:nameOf l a0=nameOf l a1
  ·have e1:OS=O++[V0]:=by rw [hOS,if_pos q]
   rw [e1,empN_snoc,hO,oth_emp hinv,hV0,ha0]
   rw [zer_same hinv lone hl0 hE (by rw [← ha1,← ha0];exact q),Nat.zero_add]
  ·have e1:OS=(O++[V0])++[V1]:=by rw [hOS,if_neg q]
   rw [e1,empN_snoc,empN_snoc,hO,oth_emp hinv,hV0,hV1,ha0,ha1]
   rw [zer_diff hinv lone hl0 hE (by rw [← ha1,← ha0];exact q),Nat.zero_add]
 have HRT:Hid ((if l.length - 2=0 then -1 else hdE e (orb b r))=RT):=by rw [hRT];exact (heir_hd hinv hev hr hE).symm
 have HTL:Hid (T.length=l.length - 2):=by show _=_;rw [hT];exact woN_len l l e hE
 have hOSl:OS.length≤200000:=by rw [hOS];split <;> simp <;> omega
 have HOQ:Hid (OS=if nameOf l a0=nameOf l a1 then O++[V0] else (O++[V0])++[V1]):=hOS
 have OTH:Hid (∀ W,Below _ _ W→Calls Tryz.prog 68 #[.agg #[.slice A l.length c,.int .i64 (r:Int),.int .i64 lone],.int .i64 (e:Int)] W (NewRows W O)):=fun W m=>by rw [hO];exact others_p A c l b r lone e W ((HR.out.below m).up m.size) hinv hn he
 have FR0:Hid (∀ W,Below _ _ W→Calls Tryz.prog 69 #[.agg #[.slice A l.length c,.int .i64 (r:Int),.int .i64 lone],.int .i64 (a0:Int),.int .i64 (e:Int)] W (NewI64 W (ofN V0))):=fun W m=>by rw [hV0];exact from_p A c l b r lone a0 e W ((HR.out.below m).up m.size) hinv hn l0 (by omega)
 have FR1:Hid (∀ W,Below _ _ W→Calls Tryz.prog 69 #[.agg #[.slice A l.length c,.int .i64 (r:Int),.int .i64 lone],.int .i64 (a1:Int),.int .i64 (e:Int)] W (NewI64 W (ofN V1))):=fun W m=>by rw [hV1];exact from_p A c l b r lone a1 e W ((HR.out.below m).up m.size) hinv hn l1 (by omega)
 have RN:Hid (∀ W,Below _ _ W→Calls Tryz.prog 31 #[.slice A l.length c] W (NewI64 W (ofN (names l)))):=fun W m=>rnames_p A c _ l b W (HR.out.below m) hinv (by omega)
 have MDP:Hid (∀ W Av cv vs,Below _ _ W→Rd W W.heap.size Av OS.length vs→RowsN W W.heap.size vs OS→Calls Tryz.prog 70 #[.agg #[.slice A l.length c,.int .i64 (r:Int),.int .i64 lone],.slice Av OS.length cv,.int .i64 (e:Int)] W (NewRO W T RT LF)):=fun W Av cv vs m hv hrw=>by
  have:=rmade_p A c l b r lone e Av cv vs OS T W ((HR.out.below m).up m.size) hinv hn hr hE hl0 hl1 hv hrw hOSl HTL.out HTE.out HCV.out HVL.out
  rw [HRT.out,HEM.out] at this
  exact this
 rw [← hRT,← hLF,← hT]
 clear h hb0 hinv hy hO hV0 hV1 hOS hRT hLF hT HOSM HTE HVL HCV HEM HRT ha0 ha1
 go_enter Tryz.func30,Tryz.ntmps30
 go_upto_region 1 with fail
 generalize hw3:(w.alloc (.cells #[.slice A l.length c,.int .i64 (r:Int),.int .i64 lone] 28)).alloc (.cells #[.slice none 0 0,.int .i64 0,.int .i64 0] 28)=w3 at *
 have hs3:w3.heap.size=w.heap.size+2:=by rw [← hw3];simp
 have x0:w3.cell? ⟨w.heap.size,0,none⟩=some (.slice A l.length c):=HX.out.cell 0
 have x1:w3.cell? ⟨w.heap.size,1,none⟩=some (.int .i64 (r:Int)):=HX.out.cell 1
 have x2:w3.cell? ⟨w.heap.size,2,none⟩=some (.int .i64 lone):=HX.out.cell 2
 clear hw3
 have SK:Hid (∀ W,Below w3.heap.size w3 W→W.cell? ⟨w.heap.size,0,none⟩=some (.slice A l.length c)∧W.cell? ⟨w.heap.size,1,none⟩=some (.int .i64 (r:Int))∧W.cell? ⟨w.heap.size,2,none⟩=some (.int .i64 lone)):=fun W m=>⟨(m.cell (p:=⟨w.heap.size,0,none⟩) (show w.heap.size < w3.heap.size by omega)).trans x0,(m.cell (p:=⟨w.heap.size,1,none⟩) (show w.heap.size < w3.heap.size by omega)).trans x1,(m.cell (p:=⟨w.heap.size,2,none⟩) (show w.heap.size < w3.heap.size by omega)).trans x2⟩
 have Z1:=(Below.refl w3.heap.size w3)
 have Z0:=Z1.drew
 have SK2:Hid (∀ W,Below w3.heap.size w3 W→Below w3.heap.size w3 W∧W.cell? ⟨w.heap.size,0,none⟩=some (.slice A l.length c)∧W.cell? ⟨w.heap.size,1,none⟩=some (.int .i64 (r:Int))∧W.cell? ⟨w.heap.size,2,none⟩=some (.int .i64 lone)):=fun W m=>⟨m,SK.out W m⟩
 have OT2:Hid (∀ W,Below w3.heap.size w3 W→Calls Tryz.prog 68 #[.agg #[.slice A l.length c,.int .i64 (r:Int),.int .i64 lone],.int .i64 (e:Int)] W fun en w9=>∃ A9 c9 vs,en=.returned (.slice A9 O.length c9)∧Hid (w9.ownsRow w3.heap.size 26 1 (.slice A9 O.length c9) O.length vs∧RowsOwn w9 w3.heap.size vs O∧Below W.heap.size W w9)∧Below w3.heap.size w3 w9):=fun W m=>(OTH.out W m).mono (by
  rintro en w9 ⟨A9,c9,vs,rfl,hc9,hown9,hrw9,hb9⟩
  exact ⟨A9,c9,vs,rfl,⟨hown9.base_le' m.size,⟨hrw9.1,fun k hk=>by obtain ⟨A,c,q1,q2,q3⟩:=hrw9.2 k hk;exact ⟨A,c,q1,q2,q3.base_le' m.size⟩⟩,hb9⟩,m.trans (hb9.mono m.size)⟩)
 have FR2:Hid (∀ W,Below w3.heap.size w3 W→Calls Tryz.prog 69 #[.agg #[.slice A l.length c,.int .i64 (r:Int),.int .i64 lone],.int .i64 (a0:Int),.int .i64 (e:Int)] W fun en w9=>∃ A9 c9,en=.returned (.slice A9 V0.length c9)∧Hid (w9.ownsRow w3.heap.size 3 1 (.slice A9 V0.length c9) V0.length (I64 (ofN V0))∧V0.length≤c9∧Below W.heap.size W w9)∧Below w3.heap.size w3 w9):=fun W m=>(FR0.out W m).mono (by
  rintro en w9 ⟨A9,c9,rfl,hc9,hm9,hown9,hb9⟩
  rw [ofN_len] at hc9 hown9 ⊢
  exact ⟨A9,c9,rfl,⟨hown9.base_le' m.size,hc9,hb9⟩,m.trans (hb9.mono m.size)⟩)
 have GOT:∀ (W:World) (A9:Option Addr) (c9:Nat) (vs:List Value) (Av:Option Addr) (cv gb:Nat),Below w3.heap.size w3 W→W.ownsRow w3.heap.size 26 1 (.slice A9 O.length c9) O.length vs→RowsOwn W w3.heap.size vs O→W.ownsRow w3.heap.size 3 1 (.slice Av V0.length cv) V0.length (I64 (ofN V0))→V0.length≤cv→Rd W (gb+1) (some ⟨gb,0,none⟩) 1 [.slice Av V0.length cv] →
   ∃ A' c' w',(Builtin.append_ #[68,68] 68 #[.slice A9 O.length c9,.slice (some ⟨gb,0,none⟩) 1 1]).run Tryz.prog W=.ok (.slice A' (O.length+1) c') w' ∧
    Hid (w'.ownsRow w3.heap.size 26 1 (.slice A' (O.length+1) c') (O.length+1) (vs++[.slice Av V0.length cv])∧RowsOwn w' w3.heap.size (vs++[.slice Av V0.length cv]) (O++[V0]))∧Below w3.heap.size w3 w':=fun W A9 c9 vs Av cv gb m h1 h2 h3 h4 h5=>by
  obtain ⟨A',c',w',r1,r2,r3,r4⟩:=rows_app W w3.heap.size A9 c9 vs O h1 h2 m.size gb Av V0 cv h5 h3 h4 (by omega)
  exact ⟨A',c',w',r1,⟨r2,r3⟩,m.trans r4⟩
 have GOTC:=Lib.hid GOT
 have GOTA:Hid (∀ (W:World) (A9:Option Addr) (c9:Nat) (vs:List Value) (Av:Option Addr) (cv:Nat),Below w3.heap.size w3 W→W.ownsRow w3.heap.size 26 1 (.slice A9 O.length c9) O.length vs→RowsOwn W w3.heap.size vs O→W.ownsRow w3.heap.size 3 1 (.slice Av V0.length cv) V0.length (I64 (ofN V0))→V0.length≤cv →
   ∃ A' c' w',(Builtin.append_ #[68,68] 68 #[.slice A9 O.length c9,.slice (some ⟨W.heap.size,0,none⟩) 1 1]).run Tryz.prog (W.alloc (.cells #[.slice Av V0.length cv] 26))=.ok (.slice A' (O.length+1) c') w' ∧
    Hid (w'.ownsRow w3.heap.size 26 1 (.slice A' (O.length+1) c') (O.length+1) (vs++[.slice Av V0.length cv])∧RowsOwn w' w3.heap.size (vs++[.slice Av V0.length cv]) (O++[V0]))∧Below w3.heap.size w3 w'):=fun W A9 c9 vs Av cv m h1 h2 h3 h4 =>
  GOT _ A9 c9 vs Av cv W.heap.size (m.alloc m.size _) (h1.alloc _) (h2.below ((Below.refl _ _).alloc (Nat.le_refl _) _)) (h3.alloc _) h4 (Rd.new W 26 #[.slice Av V0.length cv] 1 [.slice Av V0.length cv] (by simp) (by simp))
 clear GOT
 have hz2':=SK.out _ Z0
 obtain ⟨y0,y1,y2⟩:=hz2'
 go_cut [5] from 7 to 16 (fun s wx=>∃ A' c' vs,s=.slice A' (O.length+1) c'∧Hid (wx.ownsRow w3.heap.size 26 1 (.slice A' (O.length+1) c') (O.length+1) vs∧RowsOwn wx w3.heap.size vs (O++[V0]))∧Hid (Below w3.heap.size w3 wx))
 case first =>
  clear HY HR RN MDP FR1 OTH FR0 HOQ HTL HINV
  go_region_held3 (fun W=>Below w3.heap.size w3 W∧W.cell? ⟨w.heap.size,0,none⟩=some (.slice A l.length c)∧W.cell? ⟨w.heap.size,1,none⟩=some (.int .i64 (r:Int))∧W.cell? ⟨w.heap.size,2,none⟩=some (.int .i64 lone))
   (exact SK2.out _ (by assumption))
   (first
   | (go_at_call 68;(with_reducible refine (OT2.out _ Z0).mono ?_);rintro en w9 ⟨A9,c9,vs,rfl,O9,hb9⟩)
   | (go_at_call 69;have hu:=O9;clear hu;(with_reducible refine (FR2.out _ hb9).mono ?_);rintro en w8 ⟨A8,c8,rfl,F8,hb8⟩;obtain ⟨A',c',w',hr,HF,hbF⟩:=GOTA.out w8 A9 c9 vs A8 c8 hb8 (own_below O9.out.1 F8.out.2.2) (O9.out.2.1.below F8.out.2.2) F8.out.1 F8.out.2.1;have hbz:=hb8.alloc hb8.size (.cells #[.slice A8 V0.length c8] 26))
   | (go_at_call 69;(with_reducible refine (FR2.out _ Z0).mono ?_);rintro en w8 ⟨A8,c8,rfl,F8,hb8⟩;have hbz8:=hb8.alloc hb8.size (.cells #[.slice A8 V0.length c8] 26))
   | (go_at_call 68;(with_reducible refine (OT2.out _ hb8).mono ?_);rintro en w9 ⟨A9,c9,vs,rfl,O9,hb9⟩;obtain ⟨A',c',w',hr,HF,hbF⟩:=GOTA.out w9 A9 c9 vs A8 c8 hb9 O9.out.1 O9.out.2.1 (own_below F8.out.1 O9.out.2.2) F8.out.2.1;have hbz:=hb9.alloc hb9.size (.cells #[.slice A8 V0.length c8] 26))
   | (go_at_call 68;(with_reducible refine (OT2.out _ hbz8).mono ?_);rintro en w9 ⟨A9,c9,vs,rfl,O9,hb9⟩;obtain ⟨A',c',w',hr,HF,hbF⟩:=GOTC.out w9 A9 c9 vs A8 c8 w8.heap.size hb9 O9.out.1 O9.out.2.1 (own_below (F8.out.1.alloc _) O9.out.2.2) F8.out.2.1 ((Rd.new w8 26 #[.slice A8 V0.length c8] 1 [.slice A8 V0.length c8] (by simp) (by simp)).below (O9.out.2.2.mono (by simp))))
   | (refine step_append_run _ (by rfl) _ _ _ (by rfl) _ _ _ _ (by rfl) (by rfl) hr ?_))
  all_goals (
   go_wp2_with fail
   go_meet
   exact ⟨_,_,_,rfl,HF,hbF⟩)
 case rest =>
  obtain ⟨A',c',vs,rfl,HO5,HB5⟩:=hcut
  clear OTH FR0 OT2 FR2 GOTC GOTA y0 y1 y2 SK2 Z0 Z1
  obtain ⟨y0,y1,y2⟩:=SK.out _ HB5.out
  obtain ⟨v0,hv0⟩:∃ v0,v0=nameOf l a0:=⟨_,rfl⟩
  obtain ⟨v1,hv1⟩:∃ v1,v1=nameOf l a1:=⟨_,rfl⟩
  have HOQ2:Hid (OS=if v0=v1 then O++[V0] else (O++[V0])++[V1]):=by rw [hv0,hv1];exact HOQ.out
  have HVV:=Lib.hid (And.intro hv0 hv1)
  have hs5:=HB5.out.size
  clear hv0 hv1 HOQ
  obtain ⟨vs2,hvs2⟩:∃ vs2,vs2=vs:=⟨_,rfl⟩
  go_wp2_with fail
  refine (RN.out _ HB5.out).mono ?_
  rintro en w6 ⟨A6,c6,rfl,hc6,hm6,hown6,b6⟩
  rw [ofN_len,names_len] at hc6 hown6 ⊢
  obtain ⟨gv,rfl,_,hgv⟩:=own_some hown6 (by omega)
  have hc0:=own_cellI hown6 a0 l0
  have hc1:=own_cellI hown6 a1 l1
  rw [ofN_get,names_get _ _ l0,← HVV.out.1] at hc0
  rw [ofN_get,names_get _ _ l1,← HVV.out.2] at hc1
  have HB6:Hid (Below w3.heap.size w3 w6):=HB5.out.trans (b6.mono hs5)
  have HO6:Hid (w6.ownsRow w3.heap.size 26 1 (.slice A' (O.length+1) c') (O.length+1) vs∧RowsOwn w6 w3.heap.size vs (O++[V0])):=⟨own_below HO5.out.1 b6,HO5.out.2.below b6⟩
  clear b6 hown6 HO5 HB5 y0 y1 y2 RN HVV hvs2
  have hs6:=HB6.out.size
  go_upto_if 31 with (go_quiet (fail))
  have bq:Below w6.heap.size w6 (w6.drewN nq):=below_draws (Below.refl _ _) nq
  generalize w6.drewN nq=wq at *
  have HB7:Hid (Below w3.heap.size w3 wq):=HB6.out.trans (bq.mono hs6)
  have HO7:Hid (wq.ownsRow w3.heap.size 26 1 (.slice A' (O.length+1) c') (O.length+1) vs∧RowsOwn wq w3.heap.size vs (O++[V0])):=⟨own_below HO6.out.1 bq,HO6.out.2.below bq⟩
  clear bq HB6 HO6 hc0 hc1
  have hs7:=HB7.out.size
  go_cut [5] from 31 (fun s wx=>∃ A2 c2 vs2,s=.slice A2 OS.length c2∧Hid (Rd wx wx.heap.size A2 OS.length vs2∧RowsN wx wx.heap.size vs2 OS)∧Hid (Below w3.heap.size w3 wx))
  case first =>
   clear MDP HY HTL
   by_cases q:v0=v1
   ·have hd1:decide (v0=v1)=true:=decide_eq_true q
    have hd2:(v0 != v1)=false:=by simp [q]
    have hd3:((v0:Int) != (v1:Int))=false:=by simp [q]
    have HOE:Hid (OS=O++[V0]):=by show _=_;rw [HOQ2.out,if_pos q]
    go_wp2_with fail
    go_meet
    refine ⟨A',c',vs,by rw [HOE.out];simp,⟨?_,?_⟩,HB7⟩
    ·rw [HOE.out,List.length_append];exact Rd.ofOwn HO7.out.1
    ·rw [HOE.out];exact HO7.out.2.rd
   ·have hd1:decide (v0=v1)=false:=decide_eq_false q
    have hd2:(v0 != v1)=true:=by simp [q]
    have hd3:((v0:Int) != (v1:Int))=true:=by simp;omega
    have HOE:Hid (OS=(O++[V0])++[V1]):=by show _=_;rw [HOQ2.out,if_neg q]
    obtain ⟨y0,y1,y2⟩:=SK.out _ HB7.out
    go_wp2_with fail
    refine (FR1.out _ HB7.out).mono ?_
    rintro en w8 ⟨A8,c8,rfl,hc8,hm8,hown8,b8⟩
    rw [ofN_len] at hc8 hown8 ⊢
    have HB8:=HB7.out.trans (b8.mono hs7)
    have hbz:=HB8.alloc HB8.size (.cells #[.slice A8 V1.length c8] 26)
    have hal:Below w8.heap.size w8 (w8.alloc (.cells #[.slice A8 V1.length c8] 26)):=(Below.refl _ _).alloc (Nat.le_refl _) _
    have hl2:(O++[V0]).length=O.length+1:=by simp
    have ra:=rows_app (w8.alloc (.cells #[.slice A8 V1.length c8] 26)) w3.heap.size A' c' vs (O++[V0]) (by rw [hl2];exact (own_below HO7.out.1 b8).alloc _) ((HO7.out.2.below b8).below hal) hbz.size w8.heap.size A8 V1 c8 (Rd.new w8 26 #[.slice A8 V1.length c8] 1 [.slice A8 V1.length c8] (by simp) (by simp)) ((hown8.base_le' hs7).alloc _) hc8 (by omega)
    rw [hl2] at ra
    obtain ⟨A3,c3,w9,r1,r2,r3,r4⟩:=ra
    have F9:=Lib.hid (And.intro r2 (And.intro r3 (hbz.trans r4)))
    clear r2 r3 r4 hbz hal HB8 b8 hown8 hl2
    go_wp2_with (first
     | (at_builtin;go_must (refine wpList_append_run rfl _ _ _ rfl _ _ _ _ rfl rfl r1 ?_)))
    go_wp2_with fail
    go_meet
    refine ⟨A3,c3,vs++[.slice A8 V1.length c8],by rw [HOE.out];simp,⟨?_,?_⟩,F9.out.2.2⟩
    ·rw [HOE.out,List.length_append,List.length_append];exact Rd.ofOwn F9.out.1
    ·rw [HOE.out];exact F9.out.2.1.rd
  case rest =>
   obtain ⟨A2,c2,vs2,rfl,HR2,HBX⟩:=hcut
   obtain ⟨y0,y1,y2⟩:=SK.out _ HBX.out
   have MD:=Lib.hid (MDP.out wc A2 c2 vs2 HBX.out HR2.out.1 HR2.out.2)
   have hsx:=HBX.out.size
   clear MDP FR1 HO7 HB7 HOQ2
   go_wp2_with fail
   refine MD.out.mono ?_
   rintro en w9 ⟨A9,c9,rfl,hc9,hm9,hown9,b9⟩
   have HB9:Hid (Below w3.heap.size w3 w9):=HBX.out.trans (b9.mono hsx)
   have HY9:=Lib.hid (HY.out.below HB9.out)
   have q0:=HY9.out.cell 0
   have q1:=HY9.out.cell 1
   have q2:=HY9.out.cell 2
   have f0:=HY9.out.frozen 0
   have f1:=HY9.out.frozen 1
   have f2:=HY9.out.frozen 2
   simp at q0 q1 q2
   have HC9:=Lib.hid (And.intro hc9 (And.intro hm9 hown9))
   clear hc9 hm9 hown9 b9 MD HR2
   go_wp2_with fail
   obtain ⟨k1,k2,k3⟩:=box_ret (w:=w) (RT:=RT) (LF:=LF) (show w.heap.size≤w.heap.size+1 by omega) (HB0.out.trans (HB9.out.mono (by omega))) HY9.out HC9.out.2.2
   refine bodyPost_ret (v:=.agg #[.slice A9 T.length c9,.int .i64 RT,.int .i64 LF]) ?_ rfl ?_
   ·exact results_cell_row rfl _ _ (w.heap.size+1) 28 _ (0,0) _ rfl k1 Tryz.underlying28 rfl HINF.out
   ·exact ⟨A9,c9,rfl,HC9.out.1,HC9.out.2.1,k2.base_le' (by omega),k3⟩
set_option maxHeartbeats 4000000 in
theorem rshrink_p (A:Option Addr) (c:Nat) (l b:List Nat) (r:Nat) (lone:Int) (e:Nat) (w:World)
  (h:Rd w w.heap.size A l.length (I64 (ofN l))) (hinv:Inv l b) (hev:l.length%2=0) (hn:l.length≤100000) (hr:r < l.length) (hE:2*e+2≤l.length) (hl0:0≤lone) (hl1:lone≤60000) (hne:nameOf l (2*e)≠nameOf l (2*e+1)) :
  Calls Tryz.prog 33 #[.agg #[.slice A l.length c,.int .i64 (r:Int),.int .i64 lone],.int .i64 (e:Int)] w
   (NewRO w (woN l (phiL l) e) (heirN l b r e) (lone+if degOf l lone (nameOf l (2*e):Nat)+degOf l lone (nameOf l (2*e+1):Nat)=2 then 1 else 0)):=by
 have he:e < l.length / 2:=by omega
 obtain ⟨i0,hi0,hz0,hz1,hz2⟩:=info_parts info_ints
 obtain ⟨a0,ha0⟩:∃ a0,a0=2*e:=⟨_,rfl⟩
 obtain ⟨a1,ha1⟩:∃ a1,a1=2*e+1:=⟨_,rfl⟩
 have i1:2*(e:Int)=(a0:Int):=by omega
 have i2:(a0:Int)+1=(a1:Int):=by omega
 have l0:a0 < l.length:=by omega
 have l1:a1 < l.length:=by omega
 have l0i:(a0:Int) < (l.length:Int):=by omega
 have l1i:(a1:Int) < (l.length:Int):=by omega
 have w0i:IntKind.i64.wrap (a0:Int)=(a0:Int):=by simp [IntKind.wrap,IntKind.signed,IntKind.bits];omega
 have w1i:IntKind.i64.wrap (a1:Int)=(a1:Int):=by simp [IntKind.wrap,IntKind.signed,IntKind.bits];omega
 have hb0:=((Below.refl w.heap.size w).alloc (Nat.le_refl _) (.cells #[.slice A l.length c,.int .i64 (r:Int),.int .i64 lone] 28)).alloc (by simp) (.cells #[.slice none 0 0,.int .i64 0,.int .i64 0] 28)
 have HX:=Lib.hid ((Blk.new w 28 #[.slice A l.length c,.int .i64 (r:Int),.int .i64 lone]).alloc (.cells #[.slice none 0 0,.int .i64 0,.int .i64 0] 28))
 have hy:=(Blk.new (w.alloc (.cells #[.slice A l.length c,.int .i64 (r:Int),.int .i64 lone] 28)) 28 #[.slice none 0 0,.int .i64 0,.int .i64 0])
 rw [show (w.alloc (.cells #[.slice A l.length c,.int .i64 (r:Int),.int .i64 lone] 28)).heap.size=w.heap.size+1 by simp] at hy
 have HY:=Lib.hid hy
 have HR:=Lib.hid (h.more hb0)
 have HB0:=Lib.hid hb0
 have HINF:=Lib.hid info_rmap
 have HINV:=Lib.hid hinv
 obtain ⟨O,hO⟩:∃ O,O=othN l e l.length:=⟨_,rfl⟩
 obtain ⟨V0,hV0⟩:∃ V0,V0=fltE e (orb l a0):=⟨_,rfl⟩
 obtain ⟨V1,hV1⟩:∃ V1,V1=fltE e (orb l a1):=⟨_,rfl⟩
 obtain ⟨VV,hVV⟩:∃ VV,VV=V1++V0:=⟨_,rfl⟩
 obtain ⟨OS,hOS⟩:∃ OS:List (List Nat),OS=O++[VV]:=⟨_,rfl⟩
 obtain ⟨RT,hRT⟩:∃ RT,RT=heirN l b r e:=⟨_,rfl⟩
 obtain ⟨LF,hLF⟩:∃ LF,LF=lone+(if degOf l lone (nameOf l (2*e):Nat)+degOf l lone (nameOf l (2*e+1):Nat)=2 then 1 else 0):=⟨_,rfl⟩
 obtain ⟨T,hT⟩:∃ T,T=woN l (phiL l) e:=⟨_,rfl⟩
 have hOle:O.length≤l.length:=by rw [hO];exact oth_len l e _
 have hV0l:V0.length≤l.length:=by rw [hV0];exact flt_le hinv l0
 have hV1l:V1.length≤l.length:=by rw [hV1];exact flt_le hinv l1
 have hVVl:VV.length=V1.length+V0.length:=by rw [hVV,List.length_append]
 have hVVe:VV=fltE e (orb l (2*e+1))++fltE e (orb l (2*e)):=by rw [hVV,hV0,hV1,ha0,ha1]
 have HTE:Hid (∀ v,v∈OS→TellsU l.length e T v):=fun v hv=>by
  rw [hT]
  rw [hOS] at hv
  rcases List.mem_append.1 hv with q | q
  ·rw [hO] at q;exact oth_tells hinv _ he q
  ·rw [show v=VV by simpa using q,hVVe];exact tells_one hinv he hne
 have HVL:Hid (∀ v,v∈OS→v.length≤200000):=fun v hv=>by
  rw [hOS] at hv
  rcases List.mem_append.1 hv with q | q
  ·rw [hO] at q;have:=oth_vlen hinv (Nat.le_refl _) q;omega
  ·rw [show v=VV by simpa using q];omega
 have HCV:Hid (∀ x,x < l.length→x / 2≠e→∃ v,v∈OS∧x∈v):=fun x hx hxe=>by
  rw [hOS]
  rcases cov_any hinv he hx hxe with ⟨v,v1,v2⟩ | ⟨n0,m⟩ | ⟨n1,m⟩
  ·exact ⟨v,List.mem_append.2 (.inl (by rw [hO];exact v1)),v2⟩
  ·exact ⟨VV,List.mem_append.2 (.inr (by simp)),by rw [hVVe];exact List.mem_append.2 (.inr m)⟩
  ·exact ⟨VV,List.mem_append.2 (.inr (by simp)),by rw [hVVe];exact List.mem_append.2 (.inl m)⟩
 have HEM:Hid (lone+((empN OS OS.length:Nat):Int)=LF):=by
  show _=_
  rw [hLF,hOS,empN_snoc,hO,oth_emp hinv,hVVe,Nat.zero_add]
  have:=shr_emp hinv lone hl0 hE hne
  by_cases z:(fltE e (orb l (2*e+1))++fltE e (orb l (2*e))).length=0
  ·rw [if_pos z,if_pos (this.1 z)];rfl
  ·rw [if_neg z,if_neg (fun c=>z (this.2 c))];rfl
 have HRT:Hid ((if l.length - 2=0 then -1 else hdE e (orb b r))=RT):=by rw [hRT];exact (heir_hd hinv hev hr hE).symm
 have HTL:Hid (T.length=l.length - 2):=by show _=_;rw [hT];exact woN_len l (phiL l) e hE
 have hOSl:OS.length≤200000:=by rw [hOS];simp;omega
 have HOQ:Hid (OS=O++[VV]):=hOS
 have HVE:Hid (VV=V1++V0):=hVV
 have OTH:Hid (∀ W,Below _ _ W→Calls Tryz.prog 68 #[.agg #[.slice A l.length c,.int .i64 (r:Int),.int .i64 lone],.int .i64 (e:Int)] W (NewRows W O)):=fun W m=>by rw [hO];exact others_p A c l b r lone e W ((HR.out.below m).up m.size) hinv hn he
 have FR0:Hid (∀ W,Below _ _ W→Calls Tryz.prog 69 #[.agg #[.slice A l.length c,.int .i64 (r:Int),.int .i64 lone],.int .i64 (a0:Int),.int .i64 (e:Int)] W (NewI64 W (ofN V0))):=fun W m=>by rw [hV0];exact from_p A c l b r lone a0 e W ((HR.out.below m).up m.size) hinv hn l0 (by omega)
 have FR1:Hid (∀ W,Below _ _ W→Calls Tryz.prog 69 #[.agg #[.slice A l.length c,.int .i64 (r:Int),.int .i64 lone],.int .i64 (a1:Int),.int .i64 (e:Int)] W (NewI64 W (ofN V1))):=fun W m=>by rw [hV1];exact from_p A c l b r lone a1 e W ((HR.out.below m).up m.size) hinv hn l1 (by omega)
 have MDP:Hid (∀ W Av cv vs,Below _ _ W→Rd W W.heap.size Av OS.length vs→RowsN W W.heap.size vs OS→Calls Tryz.prog 70 #[.agg #[.slice A l.length c,.int .i64 (r:Int),.int .i64 lone],.slice Av OS.length cv,.int .i64 (e:Int)] W (NewRO W T RT LF)):=fun W Av cv vs m hv hrw=>by
  have:=rmade_p A c l b r lone e Av cv vs OS T W ((HR.out.below m).up m.size) hinv hn hr hE hl0 hl1 hv hrw hOSl HTL.out HTE.out HCV.out HVL.out
  rw [HRT.out,HEM.out] at this
  exact this
 rw [← hRT,← hLF,← hT]
 clear h hb0 hinv hy hO hV0 hV1 hOS hRT hLF hT HTE HVL HCV HEM HRT ha0 ha1 hVV hVVl hVVe hne
 go_enter Tryz.func33,Tryz.ntmps33
 go_upto_region 1 with fail
 generalize hw3:(w.alloc (.cells #[.slice A l.length c,.int .i64 (r:Int),.int .i64 lone] 28)).alloc (.cells #[.slice none 0 0,.int .i64 0,.int .i64 0] 28)=w3 at *
 have hs3:w3.heap.size=w.heap.size+2:=by rw [← hw3];simp
 have x0:w3.cell? ⟨w.heap.size,0,none⟩=some (.slice A l.length c):=HX.out.cell 0
 have x1:w3.cell? ⟨w.heap.size,1,none⟩=some (.int .i64 (r:Int)):=HX.out.cell 1
 have x2:w3.cell? ⟨w.heap.size,2,none⟩=some (.int .i64 lone):=HX.out.cell 2
 clear hw3
 have SK:Hid (∀ W,Below w3.heap.size w3 W→W.cell? ⟨w.heap.size,0,none⟩=some (.slice A l.length c)∧W.cell? ⟨w.heap.size,1,none⟩=some (.int .i64 (r:Int))∧W.cell? ⟨w.heap.size,2,none⟩=some (.int .i64 lone)):=fun W m=>⟨(m.cell (p:=⟨w.heap.size,0,none⟩) (show w.heap.size < w3.heap.size by omega)).trans x0,(m.cell (p:=⟨w.heap.size,1,none⟩) (show w.heap.size < w3.heap.size by omega)).trans x1,(m.cell (p:=⟨w.heap.size,2,none⟩) (show w.heap.size < w3.heap.size by omega)).trans x2⟩
 have Z1:=(Below.refl w3.heap.size w3)
 have Z0:=Z1.drew
 have SK2:Hid (∀ W,Below w3.heap.size w3 W→Below w3.heap.size w3 W∧W.cell? ⟨w.heap.size,0,none⟩=some (.slice A l.length c)∧W.cell? ⟨w.heap.size,1,none⟩=some (.int .i64 (r:Int))∧W.cell? ⟨w.heap.size,2,none⟩=some (.int .i64 lone)):=fun W m=>⟨m,SK.out W m⟩
 have OT2:Hid (∀ W,Below w3.heap.size w3 W→Calls Tryz.prog 68 #[.agg #[.slice A l.length c,.int .i64 (r:Int),.int .i64 lone],.int .i64 (e:Int)] W fun en w9=>∃ A9 c9 vs,en=.returned (.slice A9 O.length c9)∧Hid (w9.ownsRow w3.heap.size 26 1 (.slice A9 O.length c9) O.length vs∧RowsOwn w9 w3.heap.size vs O∧Below W.heap.size W w9)∧Below w3.heap.size w3 w9):=fun W m=>(OTH.out W m).mono (by
  rintro en w9 ⟨A9,c9,vs,rfl,hc9,hown9,hrw9,hb9⟩
  exact ⟨A9,c9,vs,rfl,⟨hown9.base_le' m.size,⟨hrw9.1,fun k hk=>by obtain ⟨A,c,q1,q2,q3⟩:=hrw9.2 k hk;exact ⟨A,c,q1,q2,q3.base_le' m.size⟩⟩,hb9⟩,m.trans (hb9.mono m.size)⟩)
 have F02:Hid (∀ W,Below w3.heap.size w3 W→Calls Tryz.prog 69 #[.agg #[.slice A l.length c,.int .i64 (r:Int),.int .i64 lone],.int .i64 (a0:Int),.int .i64 (e:Int)] W fun en w9=>∃ A9 c9,en=.returned (.slice A9 V0.length c9)∧Hid (w9.ownsRow w3.heap.size 3 1 (.slice A9 V0.length c9) V0.length (I64 (ofN V0))∧V0.length≤c9∧Below W.heap.size W w9)∧Below w3.heap.size w3 w9):=fun W m=>(FR0.out W m).mono (by
  rintro en w9 ⟨A9,c9,rfl,hc9,hm9,hown9,hb9⟩
  rw [ofN_len] at hc9 hown9 ⊢
  exact ⟨A9,c9,rfl,⟨hown9.base_le' m.size,hc9,hb9⟩,m.trans (hb9.mono m.size)⟩)
 have F12:Hid (∀ W,Below w3.heap.size w3 W→Calls Tryz.prog 69 #[.agg #[.slice A l.length c,.int .i64 (r:Int),.int .i64 lone],.int .i64 (a1:Int),.int .i64 (e:Int)] W fun en w9=>∃ A9 c9,en=.returned (.slice A9 V1.length c9)∧Hid (w9.ownsRow w3.heap.size 3 1 (.slice A9 V1.length c9) V1.length (I64 (ofN V1))∧V1.length≤c9∧Below W.heap.size W w9)∧Below w3.heap.size w3 w9):=fun W m=>(FR1.out W m).mono (by
  rintro en w9 ⟨A9,c9,rfl,hc9,hm9,hown9,hb9⟩
  rw [ofN_len] at hc9 hown9 ⊢
  exact ⟨A9,c9,rfl,⟨hown9.base_le' m.size,hc9,hb9⟩,m.trans (hb9.mono m.size)⟩)
 have GOTI:Hid (∀ (W:World) (A1 A0:Option Addr) (c1 c0:Nat),Below w3.heap.size w3 W→W.ownsRow w3.heap.size 3 1 (.slice A1 V1.length c1) V1.length (I64 (ofN V1))→W.ownsRow w3.heap.size 3 1 (.slice A0 V0.length c0) V0.length (I64 (ofN V0)) →
   ∃ A' c' w',(Builtin.append_ #[26,26] 26 #[.slice A1 V1.length c1,.slice A0 V0.length c0]).run Tryz.prog W=.ok (.slice A' (V1.length+V0.length) c') w'∧Hid (w'.ownsRow w3.heap.size 3 1 (.slice A' (V1.length+V0.length) c') (V1.length+V0.length) (I64 (ofN VV)))∧Below w3.heap.size w3 w'):=fun W A1 A0 c1 c0 m h1 h0=>by
  obtain ⟨j0,hj0,hk0,hk1,hk2⟩:=info_parts info_int
  obtain ⟨v',w',r1,r2,r3,r4⟩:=run_append_rd (P:=Tryz.prog) W w3.heap.size 26 26 3 j0 (.int .i64 0) 8 Tryz.underlying26 hj0 hk0 hk1 hk2 rfl _ V1.length _ h1 W.heap.size A0 V0.length c0 (I64 (ofN V0)) (Rd.ofOwn h0) (I64_one _) (by simp only [maxLen];omega) (by omega) m.size
  obtain ⟨A',c',e1,_⟩:=own_form r2
  subst e1
  refine ⟨A',c',w',r1,?_,m.trans (Below.appended h1 r3 m.size)⟩
  rw [HVE.out,ofN_append,I64_append]
  exact r2
 have GOTC:Hid (∀ (W:World) (A9:Option Addr) (c9:Nat) (vs:List Value) (Av:Option Addr) (cv gb:Nat),Below w3.heap.size w3 W→W.ownsRow w3.heap.size 26 1 (.slice A9 O.length c9) O.length vs→RowsOwn W w3.heap.size vs O→W.ownsRow w3.heap.size 3 1 (.slice Av VV.length cv) VV.length (I64 (ofN VV))→Rd W (gb+1) (some ⟨gb,0,none⟩) 1 [.slice Av VV.length cv] →
   ∃ A' c' w',(Builtin.append_ #[68,68] 68 #[.slice A9 O.length c9,.slice (some ⟨gb,0,none⟩) 1 1]).run Tryz.prog W=.ok (.slice A' (O.length+1) c') w' ∧
    Below w3.heap.size w3 w'∧Hid (Calls Tryz.prog 70 #[.agg #[.slice A l.length c,.int .i64 (r:Int),.int .i64 lone],.slice A' (O.length+1) c',.int .i64 (e:Int)] w' (NewRO w' T RT LF))):=fun W A9 c9 vs Av cv gb m h1 h2 h3 h5=>by
  obtain ⟨A',c',w',r1,r2,r3,r4⟩:=rows_app W w3.heap.size A9 c9 vs O h1 h2 m.size gb Av VV cv h5 h3 (by obtain ⟨_,_,e9,h9,_⟩:=own_form h3;simp at e9;omega) (by omega)
  have hl:OS.length=O.length+1:=by rw [HOQ.out];simp
  refine ⟨A',c',w',r1,m.trans r4,?_⟩
  have:=MDP.out w' A' c' (vs++[.slice Av VV.length cv]) (m.trans r4) (by rw [hl];exact Rd.ofOwn r2) (by rw [HOQ.out];exact r3.rd)
  rw [hl] at this
  exact this
 obtain ⟨y0,y1,y2⟩:=SK.out _ Z0
 go_cut [5] from 6 to 17 (fun s wx=>∃ A' c',s=.slice A' VV.length c'∧Hid (wx.ownsRow w3.heap.size 3 1 (.slice A' VV.length c') VV.length (I64 (ofN VV)))∧Hid (Below w3.heap.size w3 wx))
 case first =>
  clear HY HR MDP OTH FR0 FR1 HTL HINV OT2 GOTC
  have hVL:Hid (VV.length=V1.length+V0.length):=by show _=_;rw [HVE.out,List.length_append]
  go_region_held3 (fun W=>Below w3.heap.size w3 W∧W.cell? ⟨w.heap.size,0,none⟩=some (.slice A l.length c)∧W.cell? ⟨w.heap.size,1,none⟩=some (.int .i64 (r:Int))∧W.cell? ⟨w.heap.size,2,none⟩=some (.int .i64 lone))
   (exact SK2.out _ (by assumption))
   (first
   | (go_at_call 69;(with_reducible refine (F12.out _ Z0).mono ?_);rintro en w9 ⟨A9,c9,rfl,O9,hb9⟩)
   | (go_at_call 69;have hu:=O9;clear hu;(with_reducible refine (F02.out _ hb9).mono ?_);rintro en w8 ⟨A8,c8,rfl,F8,hb8⟩;obtain ⟨A',c',w',hr,HF,hbF⟩:=GOTI.out w8 A9 A8 c9 c8 hb8 (own_below O9.out.1 F8.out.2.2) F8.out.1)
   | (go_at_call 69;(with_reducible refine (F02.out _ Z0).mono ?_);rintro en w8 ⟨A8,c8,rfl,F8,hb8⟩)
   | (go_at_call 69;(with_reducible refine (F12.out _ hb8).mono ?_);rintro en w9 ⟨A9,c9,rfl,O9,hb9⟩;obtain ⟨A',c',w',hr,HF,hbF⟩:=GOTI.out w9 A9 A8 c9 c8 hb9 O9.out.1 (own_below F8.out.1 O9.out.2.2))
   | (refine step_append_run _ (by rfl) _ _ _ (by rfl) _ _ _ _ (by rfl) (by rfl) hr ?_))
  all_goals (
   go_wp2_with fail
   go_meet
   exact ⟨A',c',by rw [hVL.out],by rw [hVL.out];exact HF,hbF⟩)
 case rest =>
  obtain ⟨A5,c5,rfl,HO5,HB5⟩:=hcut
  clear OTH FR0 FR1 F02 F12 GOTI y0 y1 y2 Z0 Z1
  obtain ⟨w5,hw5⟩:∃ w5,w5=wc:=⟨_,rfl⟩
  subst hw5
  have Z5:=HB5.out.drew
  have Z5b:=(HB5.out.alloc HB5.out.size (.cells #[.slice A5 VV.length c5] 26)).drew
  obtain ⟨y0,y1,y2⟩:=SK.out _ Z5
  have hbA:Below w5.heap.size w5 ((w5.alloc (.cells #[.slice A5 VV.length c5] 26)).drew):=((Below.refl _ _).alloc (Nat.le_refl _) _).drew
  have HBA:=Lib.hid hbA
  have RB:=Lib.hid ((Rd.new w5 26 #[.slice A5 VV.length c5] 1 [.slice A5 VV.length c5] (by simp) (by simp)).drewN 1)
  clear hbA
  have SK3:Hid (∀ W,Below w3.heap.size w3 W→W.cell? ⟨w.heap.size,0,none⟩=some (.slice A l.length c)∧W.cell? ⟨w.heap.size,1,none⟩=some (.int .i64 (r:Int))∧W.cell? ⟨w.heap.size,2,none⟩=some (.int .i64 lone)):=SK.out
  have SK4:Hid (∀ W u0 u1 u2,Below w3.heap.size w3 W→(((W.setCell ⟨w.heap.size+1,0,none⟩ u0).setCell ⟨w.heap.size+1,1,none⟩ u1).setCell ⟨w.heap.size+1,2,none⟩ u2).cell? ⟨w.heap.size,0,none⟩=some (.slice A l.length c)∧(((W.setCell ⟨w.heap.size+1,0,none⟩ u0).setCell ⟨w.heap.size+1,1,none⟩ u1).setCell ⟨w.heap.size+1,2,none⟩ u2).cell? ⟨w.heap.size,1,none⟩=some (.int .i64 (r:Int))∧(((W.setCell ⟨w.heap.size+1,0,none⟩ u0).setCell ⟨w.heap.size+1,1,none⟩ u1).setCell ⟨w.heap.size+1,2,none⟩ u2).cell? ⟨w.heap.size,2,none⟩=some (.int .i64 lone)):=fun W u0 u1 u2 m=>by
   have MM:Mod (fun i=>i=w.heap.size+1) W (((W.setCell ⟨w.heap.size+1,0,none⟩ u0).setCell ⟨w.heap.size+1,1,none⟩ u1).setCell ⟨w.heap.size+1,2,none⟩ u2) :=
    Mod.setCell (p:=⟨w.heap.size+1,2,none⟩) (Mod.setCell (p:=⟨w.heap.size+1,1,none⟩) (Mod.setCell (p:=⟨w.heap.size+1,0,none⟩) (Mod.refl (fun i=>i=w.heap.size+1) W) (fun _=>rfl) _) (fun _=>rfl) _) (fun _=>rfl) _
   have hs:=m.size
   obtain ⟨s0,s1,s2⟩:=SK.out W m
   exact ⟨(MM.cell (by omega) (by omega) 0).trans s0,(MM.cell (by omega) (by omega) 1).trans s1,(MM.cell (by omega) (by omega) 2).trans s2⟩
  go_wp2_with fail
  go_region_held3 (fun W=>W.cell? ⟨w.heap.size,0,none⟩=some (.slice A l.length c)∧W.cell? ⟨w.heap.size,1,none⟩=some (.int .i64 (r:Int))∧W.cell? ⟨w.heap.size,2,none⟩=some (.int .i64 lone))
   (first | exact SK3.out _ (by assumption) | exact SK4.out _ _ _ _ (by assumption))
   (first
   | (go_at_call 68;(with_reducible refine (OT2.out _ Z5).mono ?_);rintro en w9 ⟨A9,c9,vs,rfl,O9,hb9⟩;obtain ⟨A',c',w',hr,hbF,MD⟩:=GOTC.out (w9.alloc (.cells #[.slice A5 VV.length c5] 26)) A9 c9 vs A5 c5 w9.heap.size (hb9.alloc hb9.size _) (O9.out.1.alloc _) (O9.out.2.1.below ((Below.refl _ _).alloc (Nat.le_refl _) _)) ((own_below HO5.out ((Below.refl _ _).drew.trans (O9.out.2.2.mono (by simp)))).alloc _) (Rd.new w9 26 #[.slice A5 VV.length c5] 1 [.slice A5 VV.length c5] (by simp) (by simp));have hbz:=hb9.alloc hb9.size (.cells #[.slice A5 VV.length c5] 26))
   | (go_at_call 68;(with_reducible refine (OT2.out _ Z5b).mono ?_);rintro en w9 ⟨A9,c9,vs,rfl,O9,hb9⟩;obtain ⟨A',c',w',hr,hbF,MD⟩:=GOTC.out w9 A9 c9 vs A5 c5 w5.heap.size hb9 O9.out.1 O9.out.2.1 (own_below HO5.out (HBA.out.trans (O9.out.2.2.mono (by simp)))) (RB.out.below (O9.out.2.2.mono (by simp))))
   | (refine step_append_run _ (by rfl) _ _ _ (by rfl) _ _ _ _ (by rfl) (by rfl) hr ?_)
   | (go_at_call 70;(with_reducible refine MD.out.mono ?_);rintro en w10 ⟨A10,c10,rfl,hc10,hm10,hown10,b10⟩;have hbW:=hbF.trans (b10.mono hbF.size);have HY9:=Lib.hid (HY.out.below hbW);have q0:=HY9.out.cell 0;have q1:=HY9.out.cell 1;have q2:=HY9.out.cell 2;have f0:=HY9.out.frozen 0;have f1:=HY9.out.frozen 1;have f2:=HY9.out.frozen 2;simp at q0 q1 q2;have HC9:=Lib.hid (And.intro hc10 (And.intro hm10 (hown10.base_le' hbF.size)));clear hc10 hm10 hown10 b10))
  all_goals (
   go_wp2_with fail
   obtain ⟨k1,k2,k3⟩:=box_ret (w:=w) (RT:=RT) (LF:=LF) (show w.heap.size≤w.heap.size+1 by omega) (HB0.out.trans (hbW.mono (by omega))) HY9.out HC9.out.2.2
   refine bodyPost_ret (v:=.agg #[.slice A10 T.length c10,.int .i64 RT,.int .i64 LF]) ?_ rfl ?_
   ·exact results_cell_row rfl _ _ (w.heap.size+1) 28 _ (0,0) _ rfl k1 Tryz.underlying28 rfl HINF.out
   ·exact ⟨A10,c10,rfl,HC9.out.1,HC9.out.2.1,k2.base_le' (by omega),k3⟩)
set_option maxRecDepth 20000
def lookS (s:List Int × Nat) (d:Nat):List Int × Nat :=
 if s.1.getD d 0=-1 then ((s.1.set d (s.2:Int)).set (mt d) ((s.2+1:Nat):Int),s.2+2) else s
def lookL (n:Nat) (ds:List Nat):List Int × Nat:=ds.foldl lookS (List.replicate n (-1),0)
theorem lookL_snoc (n:Nat) (ds:List Nat) (d:Nat):lookL n (ds++[d])=lookS (lookL n ds) d:=by simp [lookL]
theorem cmt_ne (d:Nat):mt d≠d:=by unfold mt;split <;> omega
theorem cmt_inj {a b:Nat} (h:mt a=mt b):a=b:=by have:=congrArg mt h;rwa [mt_mt,mt_mt] at this
structure LK (n:Nat) (y:List Int) (nx:Nat) (z:List Nat):Prop where
 len:y.length=n
 zl:z.length=nx
 ev:nx%2=0
 zlt:∀ v,v < nx→z.getD v 0 < n
 yz:∀ v,v < nx→y.getD (z.getD v 0) 0=(v:Int)
 zy:∀ d,d < n→y.getD d 0≠-1→∃ v,v < nx∧y.getD d 0=(v:Int)∧z.getD v 0=d
 mt:∀ d v:Nat,d < n→y.getD d 0=(v:Int)→y.getD (Go.Proofs.YtdinmjciippchaaGreat.mt d) 0=((Go.Proofs.YtdinmjciippchaaGreat.mt v:Nat):Int)
theorem LK.start (n:Nat):LK n (List.replicate n (-1)) 0 []:=by
 have hr:∀ d,d < n→(List.replicate n (-1:Int)).getD d 0=-1:=fun d hd=>by simp [List.getD_eq_getElem?_getD,hd]
 exact ⟨by simp,rfl,rfl,fun v hv=>by omega,fun v hv=>by omega,fun d hd h=>absurd (hr d hd) h,fun d v hd h=>by rw [hr d hd] at h;omega⟩
theorem LK.mate {n:Nat} {y:List Int} {nx:Nat} {z:List Nat} (h:LK n y nx z) (he:n%2=0) {d:Nat} (hd:d < n) (h1:y.getD d 0=-1):y.getD (Go.Proofs.YtdinmjciippchaaGreat.mt d) 0=-1:=by
 have hm:=mt_in he hd
 by_cases c:y.getD (Go.Proofs.YtdinmjciippchaaGreat.mt d) 0=-1
 ·exact c
 ·obtain ⟨v,_,e,_⟩:=h.zy _ hm c
  have:=h.mt _ v hm e
  rw [mt_mt] at this
  omega
theorem LK.next {n:Nat} {y:List Int} {nx:Nat} {z:List Nat} (h:LK n y nx z) (he:n%2=0) {d:Nat} (hd:d < n) (h1:y.getD d 0=-1) :
  LK n ((y.set d (nx:Int)).set (Go.Proofs.YtdinmjciippchaaGreat.mt d) ((nx+1:Nat):Int)) (nx+2) (z++[d,Go.Proofs.YtdinmjciippchaaGreat.mt d]):=by
 have hm:=mt_in he hd
 have h2:=h.mate he hd h1
 have hne:=cmt_ne d
 have hl:=h.len
 have hz:=h.zl
 have hev:=h.ev
 have Y:∀ i,((y.set d (nx:Int)).set (Go.Proofs.YtdinmjciippchaaGreat.mt d) ((nx+1:Nat):Int)).getD i 0=if i=Go.Proofs.YtdinmjciippchaaGreat.mt d then ((nx+1:Nat):Int) else if i=d then (nx:Int) else y.getD i 0:=fun i=>by
  rw [getDI_set _ _ _ _ (by rw [List.length_set,hl];exact hm),getDI_set _ _ _ _ (by rw [hl];exact hd)]
 have Z:∀ v,(z++[d,Go.Proofs.YtdinmjciippchaaGreat.mt d]).getD v 0=if v < nx then z.getD v 0 else if v=nx then d else if v=nx+1 then Go.Proofs.YtdinmjciippchaaGreat.mt d else 0:=fun v=>by
  rw [List.getD_eq_getElem?_getD]
  by_cases c:v < nx
  ·rw [List.getElem?_append_left (by omega),if_pos c,List.getD_eq_getElem?_getD]
  ·rw [List.getElem?_append_right (by omega),if_neg c,hz]
   by_cases c2:v=nx
   ·subst c2;simp
   ·by_cases c3:v=nx+1
    ·subst c3;simp
    ·rw [if_neg c2,if_neg c3,List.getElem?_eq_none (by simp;omega)];rfl
 have old:∀ v,v < nx→z.getD v 0≠d∧z.getD v 0≠Go.Proofs.YtdinmjciippchaaGreat.mt d:=fun v hv=>by
  have:=h.yz v hv
  refine ⟨fun e=>?_,fun e=>?_⟩ <;> rw [e] at this <;> omega
 refine ⟨by rw [List.length_set,List.length_set,hl],by simp [hz],by omega,fun v hv=>?_,fun v hv=>?_,fun i hi hn=>?_,fun i v hi hv=>?_⟩
 ·rw [Z]
  split
  ·exact h.zlt v (by assumption)
  ·split
   ·exact hd
   ·rw [if_pos (by omega)];exact hm
 ·rw [Z]
  by_cases c:v < nx
  ·rw [if_pos c,Y,if_neg (old v c).2,if_neg (old v c).1];exact h.yz v c
  ·rw [if_neg c]
   by_cases c2:v=nx
   ·rw [if_pos c2,Y,if_neg (Ne.symm hne),if_pos rfl,c2]
   ·rw [if_neg c2,if_pos (show v=nx+1 by omega),Y,if_pos rfl,show v=nx+1 by omega]
 ·rw [Y] at hn ⊢
  by_cases c:i=Go.Proofs.YtdinmjciippchaaGreat.mt d
  ·exact ⟨nx+1,by omega,by rw [if_pos c],by rw [Z,if_neg (by omega),if_neg (by omega),if_pos rfl,c]⟩
  ·rw [if_neg c] at hn ⊢
   by_cases c2:i=d
   ·exact ⟨nx,by omega,by rw [if_pos c2],by rw [Z,if_neg (by omega),if_pos rfl,c2]⟩
   ·rw [if_neg c2] at hn ⊢
    obtain ⟨v,hv,e1,e2⟩:=h.zy i hi hn
    exact ⟨v,by omega,e1,by rw [Z,if_pos hv,e2]⟩
 ·rw [Y] at hv ⊢
  by_cases c:i=Go.Proofs.YtdinmjciippchaaGreat.mt d
  ·rw [if_pos c] at hv
   have hvn:v=nx+1:=by omega
   subst c
   rw [mt_mt,if_neg (Ne.symm hne),if_pos rfl,hvn]
   have:Go.Proofs.YtdinmjciippchaaGreat.mt (nx+1)=nx:=by unfold Go.Proofs.YtdinmjciippchaaGreat.mt;rw [if_neg (by omega)];omega
   rw [this]
  ·rw [if_neg c] at hv
   by_cases c2:i=d
   ·rw [if_pos c2] at hv
    have hvn:v=nx:=by omega
    subst c2
    rw [if_pos rfl,hvn]
    have:Go.Proofs.YtdinmjciippchaaGreat.mt nx=nx+1:=by unfold Go.Proofs.YtdinmjciippchaaGreat.mt;rw [if_pos (by omega)]
    rw [this]
   ·rw [if_neg c2] at hv
    have k1:Go.Proofs.YtdinmjciippchaaGreat.mt i≠Go.Proofs.YtdinmjciippchaaGreat.mt d:=fun e=>c2 (cmt_inj e)
    have k2:Go.Proofs.YtdinmjciippchaaGreat.mt i≠d:=fun e=>c (by rw [← e,mt_mt])
    rw [if_neg k1,if_neg k2]
    exact h.mt i v hi hv
theorem LK.look {n:Nat} (he:n%2=0) (ds:List Nat) (hds:∀ d∈ds,d < n):∃ z,LK n (lookL n ds).1 (lookL n ds).2 z:=by
 suffices H:∀ (ds:List Nat) (s:List Int × Nat) (z:List Nat),(∀ d∈ds,d < n)→LK n s.1 s.2 z→∃ z,LK n (ds.foldl lookS s).1 (ds.foldl lookS s).2 z from H ds _ [] hds (LK.start n)
 intro ds
 induction ds with
 | nil=>exact fun s z _ h=>⟨z,h⟩
 | cons d ds ih =>
   intro s z hd h
   rw [List.foldl_cons]
   by_cases c:s.1.getD d 0=-1
   ·have e:lookS s d=((s.1.set d (s.2:Int)).set (Go.Proofs.YtdinmjciippchaaGreat.mt d) ((s.2+1:Nat):Int),s.2+2):=by unfold lookS;rw [if_pos c]
    rw [e]
    exact ih _ _ (fun x hx=>hd x (List.mem_cons_of_mem _ hx)) (h.next he (hd d (List.mem_cons_self ..)) c)
   ·have e:lookS s d=s:=by unfold lookS;rw [if_neg c]
    rw [e]
    exact ih _ _ (fun x hx=>hd x (List.mem_cons_of_mem _ hx)) h
theorem LK.done {n:Nat} {y:List Int} {nx:Nat} {z:List Nat} (h:LK n y nx z) (he:n%2=0) (hall:∀ d,d < n→y.getD d 0≠-1):∃ L,y=ofN L∧Nam n L z:=by
 have hy:∀ d,d < n→(y.getD d 0).toNat < nx∧((y.getD d 0).toNat:Int)=y.getD d 0∧z.getD (y.getD d 0).toNat 0=d:=fun d hd=>by
  obtain ⟨v,hv,e1,e2⟩:=h.zy d hd (hall d hd)
  rw [e1]
  exact ⟨by simpa using hv,by simp,by simpa using e2⟩
 have hn:n=nx:=by
  rcases Nat.lt_trichotomy n nx with c | c | c
  ·obtain ⟨x,hx,e⟩:=inj_surj nx (fun v=>z.getD v 0) (fun v hv=>Nat.lt_trans (h.zlt v hv) c) (fun a b ha hb e=>by
    have h1:=h.yz a ha
    have h2:=h.yz b hb
    have e':z.getD a 0=z.getD b 0:=e
    rw [e',h2] at h1;omega) n c
   have:=h.zlt x hx
   have e':z.getD x 0=n:=e
   omega
  ·exact c
  ·obtain ⟨x,hx,e⟩:=inj_surj n (fun d=>(y.getD d 0).toNat) (fun d hd=>Nat.lt_trans (hy d hd).1 c) (fun a b ha hb e=>by
    have h1:=(hy a ha).2.2
    have h2:=(hy b hb).2.2
    have e':(y.getD a 0).toNat=(y.getD b 0).toNat:=e
    rw [e',h2] at h1;exact h1.symm) nx c
   have:=(hy x hx).1
   have e':(y.getD x 0).toNat=nx:=e
   omega
 subst hn
 obtain ⟨L,hL⟩:∃ L,L=y.map Int.toNat:=⟨_,rfl⟩
 have hLl:L.length=n:=by rw [hL,List.length_map,h.len]
 have hLg:∀ d,d < n→L.getD d 0=(y.getD d 0).toNat:=fun d hd=>by
  rw [hL];simp [List.getD_eq_getElem?_getD,List.getElem?_eq_getElem (show d < y.length by rw [h.len];exact hd)]
 have hyL:y=ofN L:=getDI_ext (by rw [ofN_len,hLl,h.len]) fun d hd=>by
  rw [h.len] at hd
  rw [ofN_get,hLg d hd,(hy d hd).2.1]
 refine ⟨L,hyL,⟨⟨?_,?_,?_,?_,?_⟩,hLl,he,?_⟩⟩
 ·rw [h.zl,hLl]
 ·intro i hi;rw [hLl] at hi ⊢;rw [hLg i hi];exact (hy i hi).1
 ·intro i hi;rw [hLl] at hi ⊢;exact h.zlt i hi
 ·intro i hi;rw [hLl] at hi;rw [hLg i hi];exact (hy i hi).2.2
 ·intro i hi
  rw [hLl] at hi
  have h1:=h.yz i hi
  rw [hLg _ (h.zlt i hi),h1];simp
 ·intro d hd
  have h1:=h.mt d _ hd (hy d hd).2.1.symm
  show L.getD (Go.Proofs.YtdinmjciippchaaGreat.mt d) 0=Go.Proofs.YtdinmjciippchaaGreat.mt (L.getD d 0)
  rw [hLg _ (mt_in he hd),h1,hLg d hd];simp
end Go.Proofs.YtdinmjciippchaaGreat
