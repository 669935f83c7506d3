/- Plain mathematics of orbits; no program in sight. One orbit, as the program and as the document tell it. All orbits. The places of orbits, as the program and as the document tell them. -/
import Derived.Test.YtijbdnhlpbcabaaGreatDoorZPMake
open Go.RowKit
set_option linter.unusedVariables false
namespace Go.Proofs.YtijbdnhlpbcabaaGreatDoor
set_option maxRecDepth 20000
def it (l:List Nat):Nat→Nat→Nat
 | 0,i=>i
 | k+1,i=>l.getD (it l k i) 0
theorem it_lt {l b:List Nat} (h:Inv l b) {i:Nat} (hi:i < l.length):∀ k,it l k i < l.length
 | 0=>hi
 | k+1=>h.lt _ (it_lt h hi k)
theorem it_add (l:List Nat) (a:Nat) (i:Nat):∀ k,it l (k+a) i=it l k (it l a i)
 | 0=>by rw [Nat.zero_add];rfl
 | k+1=>by rw [Nat.succ_add];show l.getD _ 0=l.getD _ 0;rw [it_add l a i k]
theorem it_inj {l b:List Nat} (h:Inv l b) {i j:Nat} (hi:i < l.length) (hj:j < l.length):∀ k,it l k i=it l k j→i=j
 | 0,e=>e
 | k+1,e=>it_inj h hi hj k (h.inj _ _ (it_lt h hi k) (it_lt h hj k) e)
def IsPer (l:List Nat) (i k:Nat):Prop:=1≤k∧it l k i=i∧∀ j,1≤j→j < k→it l j i≠i
theorem exists_back {l b:List Nat} (h:Inv l b) {i:Nat} (hi:i < l.length):∃ k,1≤k∧k≤l.length∧it l k i=i:=by
 apply Classical.byContradiction
 intro hno
 have hne:∀ k,1≤k→k≤l.length→it l k i≠i:=fun k h1 h2 e=>hno ⟨k,h1,h2,e⟩
 have key:∀ a c,a < c→c < l.length+1→it l a i≠it l c i:=fun a c hac hc e=>by
  have:c=(c - a)+a:=by omega
  rw [this,Nat.add_comm,it_add] at e
  exact hne (c - a) (by omega) (by omega) (it_inj h (it_lt h hi _) hi a e.symm)
 obtain ⟨j,h1,h2⟩:=inj_surj (l.length+1) (fun k=>it l k i) (fun k _=>by have:=it_lt h hi k;show it l k i < _;omega)
  (fun a c ha hc e=>by
    rcases Nat.lt_trichotomy a c with h1 | h1 | h1
    ·exact absurd e (key a c h1 hc)
    ·exact h1
    ·exact absurd e.symm (key c a h1 ha)) l.length (by omega)
 have:=it_lt h hi j
 omega
theorem least_of {p:Nat→Prop}:∀ n,p n→∃ k,k≤n∧p k∧∀ j,j < k→¬ p j:=by
 intro n
 induction n using Nat.strongRecOn with
 | ind n ih =>
   intro hn
   by_cases hex:∃ j,j < n∧p j
   ·obtain ⟨j,h1,h2⟩:=hex
    obtain ⟨k,h3,h4,h5⟩:=ih j h1 h2
    exact ⟨k,by omega,h4,h5⟩
   ·exact ⟨n,Nat.le_refl _,hn,fun j hj hp=>hex ⟨j,hj,hp⟩⟩
theorem exists_per {l b:List Nat} (h:Inv l b) {i:Nat} (hi:i < l.length):∃ k,IsPer l i k:=by
 obtain ⟨k,h1,_,h2⟩:=exists_back h hi
 obtain ⟨m,h3,h4,h5⟩:=least_of (p:=fun j=>1≤j∧it l j i=i) k ⟨h1,h2⟩
 exact ⟨m,h4.1,h4.2,fun j hj hjm e=>h5 j hjm ⟨hj,e⟩⟩
noncomputable def per (l:List Nat) (i:Nat):Nat:=by
 classical exact if h:∃ k,IsPer l i k then Classical.choose h else 0
theorem per_is {l b:List Nat} (h:Inv l b) {i:Nat} (hi:i < l.length):IsPer l i (per l i):=by
 unfold per
 rw [dif_pos (exists_per h hi)]
 exact Classical.choose_spec (exists_per h hi)
theorem per_le {l b:List Nat} (h:Inv l b) {i:Nat} (hi:i < l.length):per l i≤l.length:=by
 obtain ⟨k,h1,h2,h3⟩:=exists_back h hi
 have hp:=per_is h hi
 rcases Nat.lt_or_ge l.length (per l i) with h4 | h4
 ·exact absurd h3 (hp.2.2 k h1 (by omega))
 ·exact h4
def way (l:List Nat) (i k:Nat):List Nat:=(List.range k).map fun j=>it l j i
noncomputable def orb (l:List Nat) (i:Nat):List Nat:=way l i (per l i)
theorem way_len (l:List Nat) (i k:Nat):(way l i k).length=k:=by simp [way]
theorem way_next (l:List Nat) (i k:Nat):way l i (k+1)=way l i k++[it l k i]:=by simp [way,List.range_succ]
theorem way_get (l:List Nat) (i k j:Nat) (hj:j < k):(way l i k).getD j 0=it l j i:=by
 simp [way,List.getD_eq_getElem?_getD,hj]
theorem mem_way {l:List Nat} {i k x:Nat}:x∈way l i k↔∃ j,j < k∧it l j i=x:=by simp [way]
theorem it_mul {l:List Nat} {i k:Nat} (h:it l k i=i):∀ m,it l (m*k) i=i
 | 0=>by rw [Nat.zero_mul];rfl
 | m+1=>by rw [Nat.succ_mul,it_add,h,it_mul h m]
theorem it_mod {l:List Nat} {i k:Nat} (h:it l k i=i) (j:Nat):it l j i=it l (j%k) i:=by
 have:j=j%k+(j / k)*k:=by rw [Nat.mul_comm];have:=Nat.mod_add_div j k;omega
 rw [this,it_add,it_mul h,← this]
theorem mem_orb {l b:List Nat} (h:Inv l b) {i:Nat} (hi:i < l.length) {x:Nat}:x∈orb l i↔∃ j,it l j i=x:=by
 have hp:=per_is h hi
 unfold orb
 rw [mem_way]
 constructor
 ·rintro ⟨j,_,e⟩;exact ⟨j,e⟩
 ·rintro ⟨j,e⟩;exact ⟨j%per l i,Nat.mod_lt _ hp.1,by rw [← it_mod hp.2.1];exact e⟩
theorem orb_self {l b:List Nat} (h:Inv l b) {i:Nat} (hi:i < l.length):i∈orb l i:=(mem_orb h hi).2 ⟨0,rfl⟩
theorem orb_lt {l b:List Nat} (h:Inv l b) {i x:Nat} (hi:i < l.length) (hx:x∈orb l i):x < l.length:=by
 obtain ⟨j,rfl⟩:=(mem_orb h hi).1 hx
 exact it_lt h hi j
theorem orb_symm {l b:List Nat} (h:Inv l b) {i x:Nat} (hi:i < l.length) (hx:x∈orb l i):i∈orb l x:=by
 have hxl:=orb_lt h hi hx
 obtain ⟨j,e⟩:=(mem_orb h hi).1 hx
 have hp:=per_is h hi
 refine (mem_orb h hxl).2 ⟨j*per l i - j,?_⟩
 have hj:j≤j*per l i:=Nat.le_mul_of_pos_right j hp.1
 rw [← e,← it_add,Nat.sub_add_cancel hj,it_mul hp.2.1]
theorem orb_trans {l b:List Nat} (h:Inv l b) {i x y:Nat} (hi:i < l.length) (hx:x∈orb l i) (hy:y∈orb l x):y∈orb l i:=by
 have hxl:=orb_lt h hi hx
 obtain ⟨j,rfl⟩:=(mem_orb h hi).1 hx
 obtain ⟨k,rfl⟩:=(mem_orb h hxl).1 hy
 exact (mem_orb h hi).2 ⟨k+j,it_add l j i k⟩
/-! ### Leaders: the least numbers of orbits -/
def Leads (l:List Nat) (i:Nat):Prop:=∀ j,j < i→i ∉ orb l j
noncomputable instance (l:List Nat) (i:Nat):Decidable (Leads l i):=Classical.propDecidable _
noncomputable def leads (l:List Nat) (k:Nat):List Nat:=(List.range k).filter fun i=>decide (Leads l i)
theorem leads_next (l:List Nat) (k:Nat):leads l (k+1)=leads l k++(if Leads l k then [k] else []):=by
 unfold leads
 rw [List.range_succ,List.filter_append]
 by_cases h:Leads l k <;> simp [h]
theorem mem_leads {l:List Nat} {k i:Nat}:i∈leads l k↔i < k∧Leads l i:=by simp [leads]
theorem exists_lead {l b:List Nat} (h:Inv l b) {x:Nat} (hx:x < l.length):∃ i,i≤x∧Leads l i∧x∈orb l i:=by
 obtain ⟨i,h1,h2,h3⟩:=least_of (p:=fun j=>x∈orb l j) x (orb_self h hx)
 refine ⟨i,h1,fun j hj hm=>h3 j hj ?_,h2⟩
 exact orb_trans h (by omega) hm h2
theorem lead_unique {l b:List Nat} (h:Inv l b) {x i j:Nat} (hi:i < l.length) (hj:j < l.length) (li:Leads l i) (lj:Leads l j) (hxi:x∈orb l i) (hxj:x∈orb l j):i=j:=by
 rcases Nat.lt_trichotomy i j with h1 | h1 | h1
 ·exact absurd (orb_trans h hi hxi (orb_symm h hj hxj)) (lj i h1)
 ·exact h1
 ·exact absurd (orb_trans h hj hxj (orb_symm h hi hxi)) (li j h1)
noncomputable def lead (l:List Nat) (x:Nat):Nat:=by
 classical exact if h:∃ i,i≤x∧Leads l i∧x∈orb l i then Classical.choose h else 0
theorem lead_is {l b:List Nat} (h:Inv l b) {x:Nat} (hx:x < l.length):lead l x≤x∧Leads l (lead l x)∧x∈orb l (lead l x):=by
 unfold lead
 rw [dif_pos (exists_lead h hx)]
 exact Classical.choose_spec (exists_lead h hx)
theorem lead_eq {l b:List Nat} (h:Inv l b) {x i:Nat} (hx:x < l.length) (hi:i < l.length) (li:Leads l i) (hm:x∈orb l i):lead l x=i :=
 lead_unique h (by have:=(lead_is h hx).1;omega) hi (lead_is h hx).2.1 li (lead_is h hx).2.2 hm
theorem leads_iff {l b:List Nat} (h:Inv l b) {i:Nat} (hi:i < l.length):Leads l i↔lead l i=i:=by
 constructor
 ·intro li;exact lead_eq h hi hi li (orb_self h hi)
 ·intro e;rw [← e];exact (lead_is h hi).2.1
theorem lead_of_mem {l b:List Nat} (h:Inv l b) {x i:Nat} (hi:i < l.length) (hm:x∈orb l i):lead l x=lead l i:=by
 have hx:=orb_lt h hi hm
 have:=lead_is h hi
 exact lead_eq h hx (by omega) this.2.1 (orb_trans h (by omega) this.2.2 hm)
theorem mem_of_lead {l b:List Nat} (h:Inv l b) {x i:Nat} (hx:x < l.length) (hi:i < l.length) (e:lead l x=lead l i):x∈orb l i:=by
 have h1:=lead_is h hx
 have h2:=lead_is h hi
 rw [e] at h1
 exact orb_trans h hi (orb_symm h (by omega) h2.2.2) h1.2.2
noncomputable def nameOf (l:List Nat) (x:Nat):Nat:=(leads l (lead l x)).length
noncomputable def names (l:List Nat):List Nat:=(List.range l.length).map (nameOf l)
theorem names_len (l:List Nat):(names l).length=l.length:=by simp [names]
theorem names_get (l:List Nat) (x:Nat) (hx:x < l.length):(names l).getD x 0=nameOf l x:=by
 simp [names,List.getD_eq_getElem?_getD,hx]
noncomputable def orbits (l:List Nat):List (List Nat):=(leads l l.length).map (orb l)
theorem leads_mono (l:List Nat) (a:Nat):∀ c,a≤c→(leads l a).length≤(leads l c).length:=by
 intro c
 induction c with
 | zero =>
   intro h
   have e:a=0:=by omega
   rw [e]
   exact Nat.le_refl _
 | succ c ih =>
   intro h
   rw [leads_next,List.length_append]
   by_cases e:a=c+1
   ·subst e;rw [leads_next,List.length_append];exact Nat.le_refl _
   ·have:=ih (by omega);omega
theorem leads_lt (l:List Nat) (a c:Nat) (ha:Leads l a) (hac:a < c):(leads l a).length < (leads l c).length:=by
 have h1:=leads_mono l (a+1) c hac
 rw [leads_next,if_pos ha] at h1
 simp at h1
 omega
theorem leads_place (l:List Nat):∀ c k,k < (leads l c).length→(leads l ((leads l c).getD k 0)).length=k:=by
 intro c
 induction c with
 | zero=>intro k hk;simp [leads] at hk
 | succ c ih =>
   intro k hk
   rw [leads_next] at hk ⊢
   by_cases hL:Leads l c
   ·rw [if_pos hL] at hk ⊢
    rw [List.length_append] at hk
    simp at hk
    by_cases e:k < (leads l c).length
    ·rw [show (leads l c++[c]).getD k 0=(leads l c).getD k 0 by simp [List.getD_eq_getElem?_getD,List.getElem?_append_left e]]
     exact ih k e
    ·obtain rfl:k=(leads l c).length:=by omega
     rw [show (leads l c++[c]).getD (leads l c).length 0=c by simp [List.getD_eq_getElem?_getD]]
   ·rw [if_neg hL,List.append_nil] at hk ⊢
    exact ih k hk
end Go.Proofs.YtijbdnhlpbcabaaGreatDoor
namespace Go.Proofs.YtijbdnhlpbcabaaGreatDoor
set_option maxRecDepth 20000
def lenOf:Value→Nat | .slice _ n _=>n | _=>0
theorem ofN_append (l m:List Nat):ofN (l++m)=ofN l++ofN m:=by simp [ofN]
set_option maxHeartbeats 1000000 in
theorem orbit_p (g:Nat) (l b:List Nat) (i:Nat) (w:World) (h:PermAt w g l b) (hi:i < l.length) :
  Calls Tryz.prog 139 #[.pointer (some ⟨g,0,none⟩),.int .i64 (i:Int)] w (NewI64 w (ofN (orb l i))):=by
 have LP:=Lib.hid (len_p g l b w h)
 obtain ⟨hinv,hl,A,c,A',c',hb,h1,h2⟩:=h
 obtain ⟨i0,hi0,hz0,hz1,hz2⟩:=info_parts info_int
 have s0:w.cell? ⟨g,0,none⟩=some (.slice A l.length c):=hb.cell 0
 obtain ⟨ba,o,rfl,hba,hc⟩:=h1.i64 (by omega)
 have hci:=hc i hi
 rw [ofN_get] at hci
 have hgl:=hb.lt
 have PER:=Lib.hid (per_is hinv hi)
 have hper:=per_le hinv hi
 have hper1:=(per_is hinv hi).1
 have hown:(w.alloc (.cells #[.int .i64 (i:Int)] 3)).ownsRow w.heap.size 3 1 (.slice (some ⟨w.heap.size,0,none⟩) 1 1) 1 (I64 (ofN (way l i 1))):=by
  have:=World.ownsRow_lit (base:=w.heap.size) (e:=3) (size:=1) w #[.int .i64 (i:Int)] 1 (Nat.le_refl _) (by simp [maxLen]) (by simp)
  simpa [way,ofN,I64,it] using this
 have HX:Hid (l.getD i 0=it l 1 i):=rfl
 have hx1:=hinv.lt i hi
 have HINV:=Lib.hid hinv
 have HC:=Lib.hid hc
 have HO:Hid (orb l i=way l i (per l i)):=rfl
 clear hc h1 h2 hb hinv
 generalize l.getD i 0=x1 at *
 generalize per l i=P at *
 have hdec:decide (l.length≤i)=false:=decide_eq_false (by omega)
 go_enter Tryz.func139,Tryz.ntmps139
 go_wp2_with (go_at_call 79;refine LP.out.mono ?_;rintro e w' ⟨rfl,rfl⟩)
 go_loopw [5,6] (fun v x wr=>∃ (k y:Nat) (Av:Option Addr) (cv:Nat),1≤k∧k≤P∧y=it l k i∧x=.int .i64 (y:Int)∧v=.slice Av k cv∧wr.ownsRow w.heap.size 3 1 (.slice Av k cv) k (I64 (ofN (way l i k)))∧Below w.heap.size w wr) (fun v _ _=>P - lenOf v)
 case atStart=>exact ⟨1,x1,some ⟨w.heap.size,0,none⟩,1,by omega,hper1,HX.out,rfl,rfl,hown,(Below.refl _ _).alloc (Nat.le_refl _) _⟩
 case round =>
  clear hown hci
  obtain ⟨k,y,Av,cv,hk1,hk2,hy,rfl,rfl,hown,hbl⟩:=hrel
  have hyl:y < l.length:=by rw [hy];exact it_lt HINV.out hi k
  by_cases hend:k=P
  ·have hyi:y=i:=by rw [hy,hend];exact PER.out.2.1
   have hne:((y:Int) != (i:Int))=false:=by rw [hyi];simp
   have HY:=Lib.hid hend
   clear hyi hend hy
   go_wp2
   go_ret
   rw [HO.out,← HY.out]
   refine .mk rfl ?_ hbl
   rw [ofN_len,way_len]
   exact hown
  ·have hyi:y≠i:=by rw [hy];exact PER.out.2.2 k hk1 (by omega)
   have hne:((y:Int) != (i:Int))=true:=by rw [bne_iff_ne];omega
   have hcy:=HC.out y hyl
   rw [ofN_get] at hcy
   have hcy':=(hbl.cell (p:=⟨ba,o+y,none⟩) hba).trans hcy
   have hg':=(hbl.cell (p:=⟨g,0,none⟩) hgl).trans s0
   have NX:Hid (l.getD y 0=it l (k+1) i):=by show _=_;rw [hy];rfl
   have hxl:=HINV.out.lt y hyl
   have hown3':=hown.alloc (.cells #[.int .i64 (y:Int)] 3)
   have r3:=Rd.new wr 3 #[.int .i64 (y:Int)] 1 (I64 [(y:Int)]) (by simp [I64]) (by simp)
   have t1:k+1≤maxLen:=by simp only [maxLen];omega
   have t2:(k+1)*8≤140737488355328:=by omega
   have t3:w.heap.size≤(wr.alloc (.cells #[.int .i64 (y:Int)] 3)).heap.size:=by have:=hbl.size;simp;omega
   have hgw:g < wr.heap.size:=Nat.lt_of_lt_of_le hgl hbl.size
   have hbw:ba < wr.heap.size:=Nat.lt_of_lt_of_le hba hbl.size
   have WY:Hid (I64 (ofN (way l i k))++I64 [(y:Int)]=I64 (ofN (way l i (k+1)))):=by
    show _=_
    rw [way_next,ofN_append,I64_append,← hy];rfl
   clear hcy hyi hy
   generalize l.getD y 0=x2 at *
   go_wp2_with (first
    | (at_builtin;go_must (refine wpList_append_rd _ rfl _ _ 25 rfl w.heap.size 3 i0 (.int .i64 0) 8 Tryz.underlying25 hi0 hz0 hz1 hz2 rfl (.slice Av k cv) k (I64 (ofN (way l i k))) rfl hown3' (wr.heap.size+1) (some ⟨wr.heap.size,0,none⟩) 1 1 (I64 [(y:Int)]) rfl r3 (I64_one _) t1 t2 t3 ?_)))
   intro A6 c6 w6 hc6 hm6 hown6 hg6 _
   have hb6:Below w.heap.size wr w6:=((Below.refl w.heap.size wr).alloc hbl.size _).trans (Below.appended hown3' hg6 t3)
   have hg6':=(hb6.cell (p:=⟨g,0,none⟩) hgl).trans hg'
   have hcy6:=(hb6.cell (p:=⟨ba,o+y,none⟩) hba).trans hcy'
   rw [WY.out] at hown6
   clear hg' hcy'
   go_wp2
   go_roundw
   case rel=>exact ⟨k+1,x2,A6,c6,by omega,by omega,NX.out,rfl,rfl,hown6,hbl.trans hb6⟩
   case measure=>simp [lenOf];omega
end Go.Proofs.YtijbdnhlpbcabaaGreatDoor
namespace Go.Proofs.YtijbdnhlpbcabaaGreatDoor
set_option maxRecDepth 20000
def Bl (y:List Bool):List Value:=y.map fun b=>Value.bool b
theorem Bl_len (y:List Bool):(Bl y).length=y.length:=by simp [Bl]
theorem Bl_set (y:List Bool) (k:Nat) (v:Bool):Bl (y.set k v)=(Bl y).set k (.bool v):=by simp [Bl,List.map_set]
theorem getDB_set (y:List Bool) (k j:Nat) (v:Bool) (hk:k < y.length):(y.set k v).getD j false=if j=k then v else y.getD j false:=by
 rw [List.getD_eq_getElem?_getD,List.getD_eq_getElem?_getD,List.getElem?_set]
 by_cases h:k=j
 ·subst h;simp [hk]
 ·simp [h,Ne.symm h]
theorem own_setB {w:World} {base:Nat} {g n c:Nat} {y:List Bool} (h:w.ownsRow base 4 1 (.slice (some ⟨g,0,none⟩) n c) n (Bl y)) (k:Nat) (v:Bool) :
  (w.setCell ⟨g,k,none⟩ (.bool v)).ownsRow base 4 1 (.slice (some ⟨g,0,none⟩) n c) n (Bl (y.set k v)):=by
 rw [Bl_set];exact (h.stored k _).1
theorem own_lenB {w:World} {base:Nat} {v:Value} {n:Nat} {y:List Bool} (h:w.ownsRow base 4 1 v n (Bl y)):y.length=n:=by
 have:=h.1;rw [Bl_len] at this;omega
theorem own_cellB {w:World} {base:Nat} {g n c:Nat} {y:List Bool} (h:w.ownsRow base 4 1 (.slice (some ⟨g,0,none⟩) n c) n (Bl y)) (k:Nat) (hk:k < n) :
  w.cell? ⟨g,k,none⟩=some (.bool (y.getD k false)):=by
 have hl:=own_lenB h
 rw [h.cellAt k (by omega)]
 simp [Bl,List.getD_eq_getElem?_getD,List.getElem?_eq_getElem (show k < y.length by omega)]
theorem own_own_ne {w:World} {base base':Nat} {e e':TypeId} {size size' n n':Nat} {v v':Value} {xs xs':List Value} (h:w.ownsRow base e size v n xs) (h':w.ownsRow base' e' size' v' n' xs') (hne:e≠e') (g:Nat) (hg:v.ownBlock=some g):v'.ownBlock≠some g:=by
 intro hg'
 rcases h.2 with ⟨rfl,_⟩ | ⟨a,cap,cur,rfl,_,ha,_⟩
 ·simp [Value.ownBlock] at hg
 ·rcases h'.2 with ⟨rfl,_⟩ | ⟨a',cap',cur',rfl,_,ha',_⟩
  ·simp [Value.ownBlock] at hg'
  ·simp [Value.ownBlock] at hg hg'
   subst hg hg'
   rw [ha] at ha'
   simp at ha'
   exact hne ha'.2
def RowsOwn (w:World) (base:Nat) (vs:List Value) (os:List (List Nat)):Prop :=
 vs.length=os.length∧∀ k,k < os.length→∃ A c,vs[k]?=some (.slice A (os.getD k []).length c)∧(os.getD k []).length≤c∧w.ownsRow base 3 1 (.slice A (os.getD k []).length c) (os.getD k []).length (I64 (ofN (os.getD k [])))
theorem RowsOwn.mod {w w':World} {base:Nat} {vs:List Value} {os:List (List Nat)} {S:Nat→Prop} (h:RowsOwn w base vs os) (m:Mod S w w')
  (hn:∀ A n c xs k,w.ownsRow base 3 1 (.slice A n c) n xs→(Value.slice A n c).ownBlock=some k→¬ S k):RowsOwn w' base vs os :=
 ⟨h.1,fun k hk=>by
  obtain ⟨A,c,h1,h2,h3⟩:=h.2 k hk
  exact ⟨A,c,h1,h2,own_mod h3 m (fun j hj=>hn _ _ _ _ j h3 hj)⟩⟩
theorem RowsOwn.below {w w':World} {base:Nat} {vs:List Value} {os:List (List Nat)} (h:RowsOwn w base vs os) (m:Below w.heap.size w w'):RowsOwn w' base vs os :=
 ⟨h.1,fun k hk=>by
  obtain ⟨A,c,h1,h2,h3⟩:=h.2 k hk
  exact ⟨A,c,h1,h2,own_below h3 m⟩⟩
theorem RowsOwn.snoc {w:World} {base:Nat} {vs:List Value} {os:List (List Nat)} (h:RowsOwn w base vs os) {A:Option Addr} {c:Nat} {l:List Nat} (hc:l.length≤c) (ho:w.ownsRow base 3 1 (.slice A l.length c) l.length (I64 (ofN l))) :
  RowsOwn w base (vs++[.slice A l.length c]) (os++[l]):=by
 refine ⟨by simp [h.1],fun k hk=>?_⟩
 rw [List.length_append] at hk
 simp at hk
 by_cases e:k < os.length
 ·obtain ⟨A',c',h1,h2,h3⟩:=h.2 k e
  rw [show (os++[l]).getD k []=os.getD k [] by simp [List.getD_eq_getElem?_getD,List.getElem?_append_left e]]
  exact ⟨A',c',by rw [List.getElem?_append_left (by rw [h.1];exact e)];exact h1,h2,h3⟩
 ·obtain rfl:k=os.length:=by omega
  rw [show (os++[l]).getD os.length []=l by simp [List.getD_eq_getElem?_getD]]
  exact ⟨A,c,by rw [← h.1];simp,hc,ho⟩
theorem info_ints:(Tryz.prog.info? 25).map (fun i=>(i.zero,i.size,i.bytes))=some (some (.slice none 0 0),1,24):=by kernel_rfl
theorem info_bool:(Tryz.prog.info? 4).map (fun i=>(i.zero,i.size,i.bytes))=some (some (.bool false),1,1):=by kernel_rfl
def NewRows (w:World) (os:List (List Nat)) (e:Ending) (w':World):Prop :=
 ∃ A c vs,e=.returned (.slice A os.length c)∧os.length≤c∧w'.ownsRow w.heap.size 25 1 (.slice A os.length c) os.length vs∧RowsOwn w' w.heap.size vs os∧Below w.heap.size w w'
set_option maxHeartbeats 2000000 in
theorem orbits_p (g:Nat) (l b:List Nat) (w:World) (h:PermAt w g l b) :
  Calls Tryz.prog 116 #[.pointer (some ⟨g,0,none⟩)] w (NewRows w (orbits l)):=by
 have hinv:=h.1
 have hl:=h.2.1
 have HP:=Lib.hid h
 have LP:=Lib.hid (len_p g l b w h)
 obtain ⟨i0,hi0,hz0,hz1,hz2⟩:=info_parts info_ints
 obtain ⟨j0,ji0,jz0,jz1,jz2⟩:=info_parts info_bool
 have hmk:=run_make_one (P:=Tryz.prog) 118 4 j0 (.bool false) 1 Tryz.underlying118 ji0 jz0 jz1 jz2 rfl .i64 .i64 l.length (by omega) (by omega)
 have hown:=own_made w 4 l.length (.bool false) (by simp only [maxLen];omega)
 rw [show List.replicate l.length (Value.bool false)=Bl (List.replicate l.length false) by simp [Bl]] at hown
 have HINV:=Lib.hid hinv
 clear h hinv
 go_enter Tryz.func116,Tryz.ntmps116
 go_wp2_with (go_at_call 79;refine LP.out.mono ?_;rintro e w' ⟨rfl,rfl⟩)
 go_loopw [3,14] (fun v i wr=>∃ (k:Nat) (y:List Bool) (Av:Option Addr) (m cv:Nat) (vs:List Value),k≤l.length∧i=.int .i64 k∧v=.slice Av m cv∧Hid (m=(leads l k).length)∧m≤l.length∧Hid (∀ x,x < l.length→y.getD x false=decide (lead l x < k)) ∧
  wr.ownsRow w.heap.size 4 1 (.slice (some ⟨w.heap.size,0,none⟩) l.length l.length) l.length (Bl y) ∧
  wr.ownsRow (w.heap.size+1) 25 1 (.slice Av m cv) m vs∧Hid (RowsOwn wr (w.heap.size+1) vs ((leads l k).map (orb l)))∧Below w.heap.size w wr) (fun _ i _=>l.length - (intOf i).toNat)
 case atStart =>
  refine ⟨0,List.replicate l.length false,none,0,0,[],by omega,rfl,rfl,by show 0=_;simp [leads],by omega,fun x hx=>?_,?_,World.ownsRow_nil _ _ _ _,⟨by simp [leads],fun k hk=>by simp [leads] at hk⟩,(Below.refl _ _).alloc (Nat.le_refl _) _⟩
  ·simp [List.getD_eq_getElem?_getD,hx]
  ·simpa [Bl] using hown
 case round =>
  clear hown
  obtain ⟨k,y,Av,m,cv,vs,hk,rfl,rfl,hm,hml,hy,hown,hov,hrows,hbl⟩:=hrel
  by_cases hlt:k < l.length
  ·have hc:=own_cellB hown k hlt
   rw [hy.out k hlt] at hc
   by_cases hL:Leads l k
   ·have hlk:lead l k=k:=(leads_iff HINV.out hlt).1 hL
    rw [decide_eq_false (by omega)] at hc
    have hpk:=HP.out.below (hbl.mono (Nat.le_refl _))
    have HL:=Lib.hid hL
    have HLK:=Lib.hid hlk
    clear hL hlk
    go_wp2_with fail
    refine (orbit_p g l b k _ hpk hlt).mono ?_
    rintro e w3 ⟨A3,k3,rfl,hk3,hm3,hown3,hb3⟩
    rw [ofN_len] at hown3 hk3 ⊢
    have hown':=own_below hown hb3
    have hov':=own_below hov hb3
    have hrows':Hid (RowsOwn w3 (w.heap.size+1) vs ((leads l k).map (orb l))):=hrows.out.below hb3
    have hG0:=own_block hown
    have hbl3:=hbl.trans (hb3.mono hbl.size)
    clear hrows hown hov hc hpk
    obtain ⟨P,hP⟩:∃ P,P=(orb l k).length:=⟨_,rfl⟩
    have hPo:Hid (orb l k=way l k P):=by show _=_;rw [hP];unfold orb;rw [way_len]
    have hPle:P≤l.length:=by rw [hP];unfold orb;rw [way_len];exact per_le HINV.out hlt
    have HPP:=Lib.hid hP
    rw [← hP] at hown3 hk3 ⊢
    clear hP
    have hsz3:=hb3.size
    go_wp2
    go_loopw [26] (fun i wr=>∃ (j:Nat) (y:List Bool),j≤P∧i=.int .i64 j∧Hid (∀ x,x < l.length→(y.getD x false=true↔lead l x < k∨x∈way l k j)) ∧
     wr.ownsRow w.heap.size 4 1 (.slice (some ⟨w.heap.size,0,none⟩) l.length l.length) l.length (Bl y)∧Mod (·=w.heap.size) w3 wr) (fun i _=>P - (intOf i).toNat)
    case atStart =>
     refine ⟨0,y,by omega,rfl,fun x hx=>?_,hown',Mod.refl _ _⟩
     rw [hy.out x hx]
     simp [way]
    case round =>
     rename_i wr0 _
     clear hown'
     obtain ⟨j,y',hj,rfl,hy',hown',hmd⟩:=hrel
     by_cases hjP:j < P
     ·obtain ⟨g3,rfl,hg3,hg3'⟩:=own_some hown3 (by omega)
      have hcx:=own_cellI hown3 j hjP
      rw [ofN_get,hPo.out,way_get l k P j hjP] at hcx
      have hcx':=(hmd.cell hg3' (by omega) j).trans hcx
      have hxl:=it_lt HINV.out hlt j
      have hcm:=own_cellB hown' _ hxl
      have hfm:=hown'.frozenAt (it l j k)
      have hyl:=own_lenB hown'
      have hset:=own_setB hown' (it l j k) true
      have NX:Hid (∀ x,x < l.length→((y'.set (it l j k) true).getD x false=true↔lead l x < k∨x∈way l k (j+1))):=fun x hx=>by
       rw [getDB_set _ _ _ _ (by rw [hyl];exact hxl),way_next,List.mem_append]
       by_cases e:x=it l j k
       ·subst e;simp
       ·rw [if_neg e,hy'.out x hx]
        simp [e]
      have HSET:=Lib.hid hset
      clear hset hyl hcx
      generalize it l j k=x at *
      generalize y'.getD x false=yx at hcm
      go_wp2
      go_roundw
      case rel=>exact ⟨j+1,_,by omega,by go_num,NX.out,HSET.out,hmd.setCell (fun _=>rfl) _⟩
      case measure=>simp [intOf];omega
     ·obtain rfl:j=P:=by omega
      have hovw:=own_mod hov' hmd (fun q hq hx=>by have:=(hov'.lt q hq).1;omega)
      have hrw:RowsOwn wr (w.heap.size+1) vs ((leads l k).map (orb l)):=hrows'.out.mod hmd (fun A n c xs q ho hq hx=>by have:=(ho.lt q hq).1;omega)
      have h3w:=own_mod hown3 hmd (fun q hq hx=>by have:=(hown3.lt q hq).1;omega)
      have hszw:=hmd.size
      have hblw:Below w.heap.size w wr:=hbl3.trans (hmd.belowB (by have:=hbl3.size;omega) (fun i hi hx=>by omega))
      have hov'':=hovw.alloc (.cells #[.slice A3 j k3] 25)
      have r3:=Rd.new wr 25 #[.slice A3 j k3] 1 [.slice A3 j k3] (by simp) (by simp)
      have t1:m+1≤maxLen:=by simp only [maxLen];omega
      have t2:(m+1)*24≤140737488355328:=by omega
      have t3:w.heap.size+1≤(wr.alloc (.cells #[.slice A3 j k3] 25)).heap.size:=by have:=hblw.size;simp;omega
      have h1s:∀ u∈[Value.slice A3 j k3],u.oneCell'=true:=by intro u hu;simp at hu;subst hu;rfl
      clear hov' hown3 hrows' hb3
      go_wp2_with (first
       | (at_builtin;go_must (refine wpList_append_rd _ rfl _ _ 109 rfl (w.heap.size+1) 25 i0 (.slice none 0 0) 24 Tryz.underlying109 hi0 hz0 hz1 hz2 rfl (.slice Av m cv) m vs rfl hov'' (wr.heap.size+1) (some ⟨wr.heap.size,0,none⟩) 1 1 [.slice A3 j k3] rfl r3 h1s t1 t2 t3 ?_)))
      intro A6 c6 w6 hc6 hm6 hown6 hg6 _
      have m6:=Mod.ofGrown hg6
      have hb5:Below wr.heap.size wr (wr.alloc (.cells #[.slice A3 j k3] 25)):=(Below.refl _ _).alloc (Nat.le_refl _) _
      have hblF:Below w.heap.size w w6:=(hblw.trans (hb5.mono hblw.size)).trans ((Below.appended hov'' hg6 t3).mono (by omega))
      have hmet:w6.ownsRow w.heap.size 4 1 (.slice (some ⟨w.heap.size,0,none⟩) l.length l.length) l.length (Bl y') :=
       own_mod (own_below hown' hb5) m6 (fun q hq hx=>own_own_ne (own_below hown' hb5) hov'' (by decide) q hq hx.symm)
      have hrF:RowsOwn w6 (w.heap.size+1) (vs++[.slice A3 j k3]) ((leads l (k+1)).map (orb l)):=by
       have hr5:=(hrw.below hb5).mod m6 (fun A n c xs q ho hq hx=>own_own_ne ho hov'' (by decide) q hq hx.symm)
       have h35:=own_mod (own_below h3w hb5) m6 (fun q hq hx=>own_own_ne (own_below h3w hb5) hov'' (by decide) q hq hx.symm)
       rw [leads_next,if_pos HL.out,List.map_append]
       have hjl:j=(orb l k).length:=HPP.out
       have h35':=h35.base_le' (show w.heap.size+1≤_ by omega)
       rw [hjl] at h35' ⊢
       exact hr5.snoc (by rw [← hjl];exact hk3) h35'
      have hmN:m+1=(leads l (k+1)).length:=by rw [leads_next,if_pos HL.out,List.length_append,hm.out];rfl
      have hmL:m+1≤l.length:=by
       rw [hmN]
       have:=List.length_filter_le (fun i=>decide (Leads l i)) (List.range (k+1))
       rw [List.length_range] at this
       unfold leads
       omega
      have hyN:∀ x,x < l.length→y'.getD x false=decide (lead l x < k+1):=fun x hx=>by
       rw [Bool.eq_iff_iff,hy'.out x hx,decide_eq_true_iff,← hPo.out]
       constructor
       ·rintro (h1 | h1)
        ·omega
        ·have:=lead_of_mem HINV.out hlt h1;rw [HLK.out] at this;omega
       ·intro h1
        by_cases e:lead l x=k
        ·right;exact mem_of_lead HINV.out hx hlt (by rw [e,HLK.out])
        ·left;omega
      have HMN:=Lib.hid hmN
      clear hmN
      go_wp2
      go_roundw
      case rel=>exact ⟨k+1,y',A6,m+1,c6,_,by omega,by go_num,rfl,HMN,hmL,hyN,hmet,hown6,hrF,hblF⟩
      case measure=>simp [intOf];omega
   ·have hlk:lead l k < k:=by
     have:=(lead_is HINV.out hlt).1
     have h2:lead l k≠k:=fun e=>hL ((leads_iff HINV.out hlt).2 e)
     omega
    rw [decide_eq_true hlk] at hc
    have HN:Hid (leads l (k+1)=leads l k):=by show _=_;rw [leads_next,if_neg hL,List.append_nil]
    have hyN:Hid (∀ x,x < l.length→y.getD x false=decide (lead l x < k+1)):=fun x hx=>by
     rw [hy.out x hx,decide_eq_decide]
     constructor
     ·omega
     ·intro h1
      by_cases e:lead l x=k
      ·exact absurd (by rw [← e];exact (lead_is HINV.out hx).2.1) hL
      ·omega
    clear hL hlk
    go_wp2
    go_roundw
    case rel=>exact ⟨k+1,y,Av,m,cv,vs,by omega,by go_num,rfl,by rw [HN.out];exact hm,hml,hyN,hown,hov,by rw [HN.out];exact hrows,hbl⟩
    case measure=>simp [intOf];omega
  ·obtain rfl:k=l.length:=by omega
   have ho:(orbits l).length=m:=by unfold orbits;rw [List.length_map,hm.out]
   have HO:=Lib.hid ho
   clear ho
   have hmc:m≤cv:=by
    obtain ⟨_,_,e,h1,_⟩:=own_form hov
    simp at e
    omega
   go_wp2
   go_ret
   refine ⟨Av,cv,vs,by rw [HO.out];rfl,by rw [HO.out];exact hmc,by rw [HO.out];exact hov.base_le' (by omega),?_,hbl⟩
   obtain ⟨r1,r2⟩:=hrows.out
   exact ⟨r1,fun q hq=>by
    obtain ⟨A,c,h1,h2,h3⟩:=r2 q hq
    exact ⟨A,c,h1,h2,h3.base_le' (by omega)⟩⟩
end Go.Proofs.YtijbdnhlpbcabaaGreatDoor
namespace Go.Proofs.YtijbdnhlpbcabaaGreatDoor
set_option maxRecDepth 20000
theorem getD_mem (L:List Nat) (j:Nat) (hj:j < L.length):L.getD j 0∈L:=by
 rw [List.getD_eq_getElem?_getD,List.getElem?_eq_getElem hj];exact List.getElem_mem _
theorem orbits_get (l:List Nat) (k:Nat) (hk:k < (orbits l).length):(orbits l).getD k []=orb l ((leads l l.length).getD k 0):=by
 unfold orbits at *
 rw [List.length_map] at hk
 simp [List.getD_eq_getElem?_getD,List.getElem?_eq_getElem hk]
theorem lead_get {l:List Nat} {k:Nat} (hk:k < (orbits l).length):(leads l l.length).getD k 0 < l.length∧Leads l ((leads l l.length).getD k 0):=by
 unfold orbits at hk
 rw [List.length_map] at hk
 have:(leads l l.length).getD k 0∈leads l l.length:=by
  rw [List.getD_eq_getElem?_getD,List.getElem?_eq_getElem hk];exact List.getElem_mem _
 exact mem_leads.1 this
theorem name_row {l b:List Nat} (h:Inv l b) {k x:Nat} (hk:k < (orbits l).length) (hx:x < l.length):nameOf l x=k↔x∈(orbits l).getD k []:=by
 rw [orbits_get l k hk]
 obtain ⟨h1,h2⟩:=lead_get hk
 have hp:=leads_place l l.length k (by unfold orbits at hk;rwa [List.length_map] at hk)
 constructor
 ·intro e
  have h3:=lead_is h hx
  have:lead l x=(leads l l.length).getD k 0:=by
   unfold nameOf at e
   rcases Nat.lt_trichotomy (lead l x) ((leads l l.length).getD k 0) with h4 | h4 | h4
   ·have:=leads_lt l _ _ h3.2.1 h4;omega
   ·exact h4
   ·have:=leads_lt l _ _ h2 h4;omega
  rw [← this];exact h3.2.2
 ·intro hm
  unfold nameOf
  rw [lead_eq h hx h1 h2 hm]
  exact hp
theorem name_lt {l b:List Nat} (h:Inv l b) {x:Nat} (hx:x < l.length):nameOf l x < (orbits l).length:=by
 unfold orbits
 rw [List.length_map]
 have:=lead_is h hx
 exact leads_lt l _ _ this.2.1 (by omega)
set_option maxHeartbeats 2000000 in
theorem names_p (g:Nat) (l b:List Nat) (w:World) (h:PermAt w g l b) :
  Calls Tryz.prog 86 #[.pointer (some ⟨g,0,none⟩)] w (NewI64 w (ofN (names l))):=by
 have hinv:=h.1
 have hl:=h.2.1
 have HP:=Lib.hid h
 have LP:=Lib.hid (len_p g l b w h)
 obtain ⟨i0,hi0,hz0,hz1,hz2⟩:=info_parts info_int
 have hmk:=run_make_one (P:=Tryz.prog) 25 3 i0 (.int .i64 0) 8 Tryz.underlying25 hi0 hz0 hz1 hz2 rfl .i64 .i64 l.length (by omega) (by omega)
 have hown:=own_made w 3 l.length (.int .i64 0) (by simp only [maxLen];omega)
 rw [← I64_replicate] at hown
 have HINV:=Lib.hid hinv
 clear h hinv
 have hb1:Below w.heap.size w (w.alloc (.cells (List.replicate l.length (Value.int .i64 0)).toArray 3)):=(Below.refl _ _).alloc (Nat.le_refl _) _
 have hpw:PermAt (w.alloc (.cells (Array.replicate l.length (Value.int .i64 0)) 3)) g l b:=by
  have:=HP.out.below hb1
  simpa using this
 have HPw:=Lib.hid hpw
 clear hpw
 have hown1:(w.alloc (.cells (Array.replicate l.length (Value.int .i64 0)) 3)).ownsRow w.heap.size 3 1 (.slice (some ⟨w.heap.size,0,none⟩) l.length l.length) l.length (I64 (List.replicate l.length 0)):=by
  simpa [I64] using hown
 have hb1':Below w.heap.size w (w.alloc (.cells (Array.replicate l.length (Value.int .i64 0)) 3)):=by simpa using hb1
 clear hown hb1
 go_enter Tryz.func86,Tryz.ntmps86
 go_wp2_with (go_at_call 79;refine LP.out.mono ?_;rintro e w' ⟨rfl,rfl⟩)
 refine (orbits_p g l b _ HPw.out).mono ?_
 rintro e w2 ⟨Ao,co,vs,rfl,hco,hov,hrows,hb2⟩
 have hown2:=own_below hown1 hb2
 have hbl2:=hb1'.trans (hb2.mono (by simp))
 have HM:Hid (∀ x,x < l.length→nameOf l x < (orbits l).length):=fun x hx=>name_lt HINV.out hx
 have HR:Hid (∀ k x,k < (orbits l).length→x < l.length→(nameOf l x=k↔x∈(orbits l).getD k [])):=fun k x hk hx=>name_row HINV.out hk hx
 have HLT:Hid (∀ k,k < (orbits l).length→∀ j,j < ((orbits l).getD k []).length→((orbits l).getD k []).getD j 0 < l.length∧((orbits l).getD k []).getD j 0∈(orbits l).getD k []):=fun k hk j hj=>by
  rw [orbits_get l k hk] at hj ⊢
  have hm:=getD_mem _ j hj
  exact ⟨orb_lt HINV.out (lead_get hk).1 hm,hm⟩
 have HLEN:Hid (∀ k,k < (orbits l).length→((orbits l).getD k []).length≤l.length):=fun k hk=>by
  rw [orbits_get l k hk];unfold orb;rw [way_len];exact per_le HINV.out (lead_get hk).1
 have hsz2:=hb2.size
 rw [World.size_alloc] at hsz2
 have hosz:(orbits l).length≤l.length:=by
  unfold orbits leads
  rw [List.length_map]
  have:=List.length_filter_le (fun i=>decide (Leads l i)) (List.range l.length)
  rw [List.length_range] at this
  exact this
 have HROWS:=Lib.hid hrows
 clear hrows hown1 hb1' hb2
 generalize orbits l=os at *
 generalize hmm:os.length=m at *
 have HMM:=Lib.hid hmm
 clear hmm
 rw [World.size_alloc] at hov HROWS
 go_wp2
 go_loopw [14] (fun i wr=>∃ (k:Nat) (y:List Int),k≤m∧i=.int .i64 k∧Hid (∀ x,x < l.length→nameOf l x < k→y.getD x 0=((nameOf l x:Nat):Int)) ∧
  wr.ownsRow w.heap.size 3 1 (.slice (some ⟨w.heap.size,0,none⟩) l.length l.length) l.length (I64 y)∧Mod (·=w.heap.size) w2 wr) (fun i _=>m - (intOf i).toNat)
 case atStart =>
  exact ⟨0,List.replicate l.length 0,by omega,rfl,fun x hx h=>absurd h (by omega),hown2,Mod.refl _ _⟩
 case round =>
  clear hown2
  obtain ⟨k,y,hk,rfl,hy,hown,hmd⟩:=hrel
  by_cases hlt:k < m
  ·obtain ⟨go,rfl,hgo,hgo'⟩:=own_some hov (by omega)
   obtain ⟨Ar,cr,hv,hcr,hor⟩:=HROWS.out.2 k (by rw [HMM.out];exact hlt)
   have hvc:w2.cell? ⟨go,k,none⟩=some (.slice Ar (os.getD k []).length cr):=by rw [hov.cellAt k (by omega)];exact hv
   have hvr:=(hmd.cell hgo' (by omega) k).trans hvc
   have horr:=own_mod hor hmd (fun q hq hx=>by have:=(hor.lt q hq).1;omega)
   have HRk:=Lib.hid (HR.out k)
   have HLk:=Lib.hid (HLT.out k hlt)
   have hPle:=HLEN.out k hlt
   clear hv hvc hor
   generalize os.getD k []=row at *
   obtain ⟨P,hP⟩:∃ P,P=row.length:=⟨_,rfl⟩
   have HPR:=Lib.hid hP
   have horr':wr.ownsRow (w.heap.size+1) 3 1 (.slice Ar P cr) P (I64 (ofN row)):=by rw [hP];exact horr
   rw [← hP] at hvr hPle
   clear hP horr
   obtain ⟨wo,hwo⟩:∃ wo:World,wo=wr:=⟨_,rfl⟩
   have hmd':Mod (·=w.heap.size) w2 wo:=hwo ▸ hmd
   have hszr:=hmd.size
   subst hwo
   go_wp2
   go_loopw [21] (fun i wr=>∃ (j:Nat) (y:List Int),j≤P∧i=.int .i64 j∧Hid (∀ x,x < l.length→(nameOf l x < k∨∃ q,q < j∧row.getD q 0=x)→y.getD x 0=((nameOf l x:Nat):Int)) ∧
    wr.ownsRow w.heap.size 3 1 (.slice (some ⟨w.heap.size,0,none⟩) l.length l.length) l.length (I64 y)∧wr.ownsRow (w.heap.size+1) 3 1 (.slice Ar P cr) P (I64 (ofN row))∧Mod (·=w.heap.size) w2 wr) (fun i _=>P - (intOf i).toNat)
   case atStart=>exact ⟨0,y,by omega,rfl,fun x hx h=>hy.out x hx (by rcases h with h | ⟨q,hq,_⟩ <;> omega),hown,horr',hmd⟩
   case round =>
    clear hown horr' hmd hvr
    obtain ⟨j,y',hj,rfl,hy',hown,horr,hmd⟩:=hrel
    by_cases hjP:j < P
    ·obtain ⟨gr,rfl,hgr,hgr'⟩:=own_some horr (by omega)
     have hcx:=own_cellI horr j hjP
     rw [ofN_get] at hcx
     obtain ⟨hxl,hxm⟩:=HLk.out j (by rw [← HPR.out];exact hjP)
     have hname:=(HRk.out _ (by omega) hxl).2 hxm
     have hcm:=own_cellI hown _ hxl
     have hfm:=hown.frozenAt (row.getD j 0)
     have hyl:=own_lenI hown
     have hset:=own_setI hown (row.getD j 0) (k:Int)
     have hor2:(wr.setCell ⟨w.heap.size,row.getD j 0,none⟩ (.int .i64 (k:Int))).ownsRow (w.heap.size+1) 3 1 (.slice (some ⟨gr,0,none⟩) P cr) P (I64 (ofN row)) :=
      own_mod (S:=fun q=>q=w.heap.size) horr ((Mod.refl (fun q=>q=w.heap.size) wr).setCell (p:=⟨w.heap.size,row.getD j 0,none⟩) (fun _=>rfl) _) (fun q hq hx=>by simp [Value.ownBlock] at hq;omega)
     have NX:Hid (∀ x,x < l.length→(nameOf l x < k∨∃ q,q < j+1∧row.getD q 0=x)→(y'.set (row.getD j 0) (k:Int)).getD x 0=((nameOf l x:Nat):Int)):=fun x hx h=>by
      rw [getDI_set _ _ _ _ (by rw [hyl];exact hxl)]
      by_cases e:x=row.getD j 0
      ·rw [if_pos e,e,hname]
      ·rw [if_neg e]
       refine hy'.out x hx ?_
       rcases h with h | ⟨q,hq,hqx⟩
       ·exact .inl h
       ·refine .inr ⟨q,?_,hqx⟩
        by_cases e2:q=j
        ·subst e2;exact absurd hqx.symm e
        ·omega
     have HSET:=Lib.hid hset
     have HOR2:=Lib.hid hor2
     clear hset hor2 hyl hxm hname
     generalize row.getD j 0=x at *
     generalize y'.getD x 0=yx at hcm
     go_wp2
     go_roundw
     case rel=>exact ⟨j+1,_,by omega,by go_num,NX.out,HSET.out,HOR2.out,hmd.setCell (fun _=>rfl) _⟩
     case measure=>simp [intOf];omega
    ·obtain rfl:j=P:=by omega
     have NX:Hid (∀ x,x < l.length→nameOf l x < k+1→y'.getD x 0=((nameOf l x:Nat):Int)):=fun x hx h=>by
      refine hy'.out x hx ?_
      by_cases e:nameOf l x=k
      ·right
       have hm:=(HRk.out x (by omega) hx).1 e
       obtain ⟨q,hq,hqx⟩:=List.getElem_of_mem hm
       exact ⟨q,by rw [HPR.out];exact hq,by rw [List.getD_eq_getElem?_getD,List.getElem?_eq_getElem hq];exact hqx⟩
      ·left;omega
     go_wp2
     go_roundw
     case rel=>exact ⟨k+1,y',by omega,by go_num,NX.out,hown,hmd⟩
     case measure=>simp [intOf];omega
  ·obtain rfl:k=m:=by omega
   have hyl:=own_lenI hown
   have hfin:Hid (y=ofN (names l)):=getDI_ext (by rw [hyl,ofN_len,names_len]) fun x hx=>by
    rw [hyl] at hx
    rw [hy.out x hx (HM.out x hx),ofN_get,names_get l x hx]
   clear hyl
   go_wp2
   go_ret
   refine .mk rfl ?_ (hbl2.trans (hmd.belowB (by omega) (fun i hi hx=>by omega)))
   rw [ofN_len,names_len,← hfin.out]
   exact hown
end Go.Proofs.YtijbdnhlpbcabaaGreatDoor
