/- The document's Sort. -/
import Derived.Test.YtijbdnhlpbcabaaGreatDoorZg5
import Derived.Test.YtijbdnhlpbcabaaGreatDoorZg1
import Derived.Test.YtijbdnhlpbcabaaGreatDoorZg10
import Derived.Test.YtijbdnhlpbcabaaGreatDoorZg13
import Derived.Test.YtijbdnhlpbcabaaGreatDoorZg4
import Derived.Test.YtijbdnhlpbcabaaGreatDoorZg3
import Derived.Deep.AppendLies
open Go.RowKit
set_option linter.unusedVariables false
namespace Go.Proofs.YtijbdnhlpbcabaaGreatDoor
set_option maxRecDepth 20000
def atN (s:Nat) (ks:List Nat):Nat→List Nat
 | 0=>[]
 | j+1=>if ks.getD j 0 / 2=s then atN s ks j++[j] else atN s ks j
theorem atN_len (s:Nat) (ks:List Nat):∀ j,j≤ks.length→(atN s ks j).length=ah s ks j
 | 0,_=>by rw [ah_zero];rfl
 | j+1,h=>by
   have:=atN_len s ks j (by omega)
   rw [ah_next s ks j (by omega),atN]
   split
   ·rw [List.length_append,this];rfl
   ·rw [this];rfl
theorem atN_get (s:Nat) (ks:List Nat) (i:Nat) (hs:ks.getD i 0 / 2=s):∀ j,i < j→j≤ks.length→(atN s ks j).getD (ah s ks i) 0=i
 | 0,h,_=>by omega
 | j+1,h,hj=>by
   have hl:=atN_len s ks j (by omega)
   by_cases e:i=j
   ·subst e
    rw [atN,if_pos hs,List.getD_eq_getElem?_getD,List.getElem?_append_right (by omega),hl];simp
   ·have ih:=atN_get s ks i hs j (by omega) (by omega)
    have hm:=ah_mono s ks (i+1) (j - (i+1)) (by omega)
    rw [show i+1+(j - (i+1))=j by omega,ah_next s ks i (by omega),if_pos hs] at hm
    rw [atN]
    split
    ·rw [List.getD_eq_getElem?_getD,List.getElem?_append_left (by omega),← List.getD_eq_getElem?_getD];exact ih
    ·exact ih
def SortP (w:World) (s:Nat) (ks:List Nat) (e:Ending) (w':World):Prop :=
 ∃ A1 c1 A2 c2,e=.returned (.tuple #[.slice A1 (ownL s ks).length c1,.slice A2 (ownL s ks).length c2])∧w'.ownsRow w.heap.size 3 1 (.slice A1 (ownL s ks).length c1) (ownL s ks).length (I64 (ofNB (ownL s ks)))∧w'.ownsRow w.heap.size 3 1 (.slice A2 (ownL s ks).length c2) (ownL s ks).length (I64 (ofNB (atN s ks ks.length)))∧Below w.heap.size w w'
structure SSt4 (w:World) (s:Nat) (ks:List Nat) (A1:Option Addr) (c1:Nat) (A2:Option Addr) (c2 y j:Nat) (W:World):Prop where
 hy:y=ah s ks j
 o1:W.ownsRow w.heap.size 3 1 (.slice A1 y c1) y (I64 (ofNB (ownL s (ks.take j))))
 o2:W.ownsRow w.heap.size 3 1 (.slice A2 y c2) y (I64 (ofNB (atN s ks j)))
 dj:∀ k,(Value.slice A1 y c1).ownBlock=some k→(Value.slice A2 y c2).ownBlock≠some k
 be:Below w.heap.size w W
set_option maxHeartbeats 8000000 in
theorem sort_p (A:Option Addr) (n c s:Nat) (ks:List Nat) (w:World) (h:Rd w w.heap.size A n (I64 (ofNB ks))) (hk:Kds ks) (hs:s < 2) (hn:n≤100000) :
  Calls Tryz.prog 109 #[.slice A n c,.int .i64 (s:Int)] w (SortP w s ks):=by
 obtain ⟨i0,hi0,hz0,hz1,hz2⟩:=info_parts info_int
 have HL:Hid (ks.length=n):=by have:=h.len;rw [I64_len,ofN_lenB] at this;exact this
 have H:=Lib.hid h
 have HK:=Lib.hid hk
 have S0:Hid (SSt4 w s ks none 0 none 0 0 0 w):=⟨(ah_zero s ks).symm,World.ownsRow_nil _ _ _ _,World.ownsRow_nil _ _ _ _,fun k hk=>by simp [Value.ownBlock] at hk,Below.refl _ _⟩
 clear h hk
 go_enter Tryz.func109,Tryz.ntmps109
 go_wp2_with fail
 go_loopw [6,7,12] (fun u v i wr=>∃ (j y c1 c2:Nat) (A1 A2:Option Addr),j≤n∧y≤j∧i=.int .i64 (j:Int)∧u=.slice A1 y c1∧v=.slice A2 y c2∧Hid (SSt4 w s ks A1 c1 A2 c2 y j wr)) (fun _ _ i _=>n - (intOf i).toNat)
 case atStart=>exact ⟨0,0,0,0,none,none,by omega,by omega,rfl,rfl,rfl,S0⟩
 case round =>
  clear S0
  obtain ⟨j,y,c1,c2,A1,A2,hj,hyj,rfl,rfl,rfl,HS⟩:=hrel
  by_cases hlt:j < n
  ·obtain ⟨bb,o,rfl,_,kk⟩:=(H.out.below HS.out.be).i64 (by omega)
   have x0:=kk j hlt
   rw [ofN_getB] at x0
   have hk4:=HK.out.getD j
   have NA:Hid (ah s ks (j+1)=ah s ks j+if ks.getD j 0 / 2=s then 1 else 0):=ah_next s ks j (by rw [HL.out];exact hlt)
   have NO:Hid (ownL s (ks.take (j+1))=ownL s (ks.take j)++if ks.getD j 0 / 2=s then [1 - ks.getD j 0%2] else []):=by
    show _=_
    rw [take_snoc ks j (by rw [HL.out];exact hlt),ownL_app,ownL_one]
   have NT:Hid (atN s ks (j+1)=if ks.getD j 0 / 2=s then atN s ks j++[j] else atN s ks j):=rfl
   obtain ⟨k,hkd⟩:∃ k,k=ks.getD j 0:=⟨_,rfl⟩
   rw [← hkd] at x0 hk4 NA NO NT
   have d1:(k:Int).tdiv 2=((k / 2:Nat):Int):=by rw [Int.tdiv_eq_ediv_of_nonneg (by omega)];omega
   have d2:(k:Int) / 2=((k / 2:Nat):Int):=by omega
   have d3:IntKind.i64.wrap ((k / 2:Nat):Int)=((k / 2:Nat):Int):=by rw [IntKind.wrap_i64];omega
   have m1:(k:Int).tmod 2=((k%2:Nat):Int):=by rw [Int.tmod_eq_emod_of_nonneg (by omega)];omega
   have m3:IntKind.i64.wrap ((k%2:Nat):Int)=((k%2:Nat):Int):=by rw [IntKind.wrap_i64];omega
   have m2:(1:Int) - ((k%2:Nat):Int)=((1 - k%2:Nat):Int):=by omega
   have m4:IntKind.i64.wrap ((1 - k%2:Nat):Int)=((1 - k%2:Nat):Int):=by rw [IntKind.wrap_i64];omega
   have hm9:1 - k%2≤1:=by omega
   generalize 1 - k%2=b at *
   generalize k%2=r at *
   generalize k / 2=q at *
   clear kk hkd
   by_cases hq:q=s
   ·subst hq
    rw [if_pos rfl] at NA NO NT
    obtain ⟨hy,o1,o2,dj,be⟩:=HS.out
    have t2:y+1≤maxLen:=by simp only [maxLen];omega
    have t3:(y+1)*8≤140737488355328:=by omega
    obtain ⟨wx,hwx⟩:∃ wx,wr=wx:=⟨_,rfl⟩
    subst hwx
    have hown3:=o1.alloc (.cells #[.int .i64 (b:Int)] 3)
    have r3:=Rd.new wr 3 #[.int .i64 (b:Int)] 1 (I64 [(b:Int)]) (by simp [I64]) (by simp)
    have t4:w.heap.size≤(wr.alloc (.cells #[.int .i64 (b:Int)] 3)).heap.size:=by have:=be.size;simp;omega
    have HX:=Lib.hid (And.intro hy (And.intro o2 (And.intro dj be)))
    clear o2 dj be hy HS
    go_wp2_with (first
     | (at_builtin;go_must (refine wpList_append_rd _ rfl _ _ 25 rfl w.heap.size 3 i0 (.int .i64 0) 8 Tryz.underlying25 hi0 hz0 hz1 hz2 rfl (.slice A1 y c1) y (I64 (ofNB (ownL q (ks.take j)))) rfl hown3 (wr.heap.size+1) (some ⟨wr.heap.size,0,none⟩) 1 1 (I64 [(b:Int)]) rfl r3 (I64_one _) t2 t3 t4 ?_)))
    intro A6 c6 w6 hc6 hm6 hown6 hg6 hb6
    have O6:Hid (w6.ownsRow w.heap.size 3 1 (.slice A6 (y+1) c6) (y+1) (I64 (ofNB (ownL q (ks.take (j+1)))))):=by
     have:=hown6
     rw [← I64_append] at this
     rw [NO.out,ofN_appendB]
     exact this
    have MG:=Mod.ofGrown hg6
    have o26:=own_mod (HX.out.2.1.alloc (.cells #[.int .i64 (b:Int)] 3)) MG (fun g hg e=>HX.out.2.2.1 g e.symm hg)
    have dj6:Hid (∀ k,(Value.slice A6 (y+1) c6).ownBlock=some k→(Value.slice A2 y c2).ownBlock≠some k):=fun k hk=>by
     rcases hb6 with g | g
     ·exact HX.out.2.2.1 k (by rw [← g];exact hk)
     ·intro q2
      have:=(HX.out.2.1.lt k q2).2
      rw [hk] at g
      have q3:=Option.some.inj g
      (try simp at q3)
      omega
    have hb6':=(HX.out.2.2.2.alloc HX.out.2.2.2.size (.cells #[.int .i64 (b:Int)] 3)).trans (Below.appended hown3 hg6 t4)
    have HB6:=Lib.hid hb6'
    have hown3':=o26.alloc (.cells #[.int .i64 (j:Int)] 3)
    have r3':=Rd.new w6 3 #[.int .i64 (j:Int)] 1 (I64 [(j:Int)]) (by simp [I64]) (by simp)
    have t4':w.heap.size≤(w6.alloc (.cells #[.int .i64 (j:Int)] 3)).heap.size:=by have:=hb6'.size;simp;omega
    have HY:=Lib.hid HX.out.1
    clear hown6 hb6' o26 MG hown3 r3 t4 HX hb6 hg6 hc6 hm6 o1
    go_wp2_with (first
     | (at_builtin;go_must (refine wpList_append_rd _ rfl _ _ 25 rfl w.heap.size 3 i0 (.int .i64 0) 8 Tryz.underlying25 hi0 hz0 hz1 hz2 rfl (.slice A2 y c2) y (I64 (ofNB (atN q ks j))) rfl hown3' (w6.heap.size+1) (some ⟨w6.heap.size,0,none⟩) 1 1 (I64 [(j:Int)]) rfl r3' (I64_one _) t2 t3 t4' ?_)))
    intro A7 c7 w7 hc7 hm7 hown7 hg7 hb7
    have O7:Hid (w7.ownsRow w.heap.size 3 1 (.slice A7 (y+1) c7) (y+1) (I64 (ofNB (atN q ks (j+1))))):=by
     have:=hown7
     rw [← I64_append] at this
     rw [NT.out,ofN_appendB]
     exact this
    have MG:=Mod.ofGrown hg7
    have o17:=own_mod (O6.out.alloc (.cells #[.int .i64 (j:Int)] 3)) MG (fun g hg e=>dj6.out g hg e.symm)
    have dj7:∀ k,(Value.slice A6 (y+1) c6).ownBlock=some k→(Value.slice A7 (y+1) c7).ownBlock≠some k:=fun k hk q2=>by
     rcases hb7 with g | g
     ·exact dj6.out k hk (by rw [← g];exact q2)
     ·have:=(O6.out.lt k hk).2
      rw [q2] at g
      have q3:=Option.some.inj g
      (try simp at q3)
      omega
    have hb7':=(HB6.out.alloc HB6.out.size (.cells #[.int .i64 (j:Int)] 3)).trans (Below.appended hown3' hg7 t4')
    have R7:Hid (SSt4 w q ks A6 c6 A7 c7 (y+1) (j+1) w7):=⟨by rw [NA.out,HY.out],o17,O7.out,dj7,hb7'⟩
    clear hown7 MG o17 dj7 hb7' O7 O6 dj6 HB6 HY hown3' r3' t4' hb7 hg7 hc7 hm7
    go_wp2_with fail
    go_roundw
    case rel=>exact ⟨j+1,y+1,c6,c7,A6,A7,by omega,by omega,by go_num,rfl,rfl,R7⟩
    case measure=>simp [intOf];omega
   ·rw [if_neg hq] at NA NO NT
    have R7:Hid (SSt4 w s ks A1 c1 A2 c2 y (j+1) wr):=by
     obtain ⟨hy,o1,o2,dj,be⟩:=HS.out
     exact ⟨by rw [NA.out,hy];rfl,by rw [NO.out,List.append_nil];exact o1,by rw [NT.out];exact o2,dj,be⟩
    have hqb:((q:Int) == (s:Int))=false:=by rw [beq_eq_false_iff_ne];omega
    clear HS NA NO NT
    go_wp2_with fail
    go_roundw
    case rel=>exact ⟨j+1,y,c1,c2,A1,A2,by omega,by omega,by go_num,rfl,rfl,R7⟩
    case measure=>simp [intOf];omega
  ·obtain rfl:j=n:=by omega
   have HF:Hid (∀ A1 c1 A2 c2,SSt4 w s ks A1 c1 A2 c2 y j wr→y=(ownL s ks).length∧SortP w s ks (.returned (.tuple #[.slice A1 y c1,.slice A2 y c2])) wr):=fun A1 c1 A2 c2 h=>by
    obtain ⟨hy,o1,o2,dj,be⟩:=h
    rw [← HL.out,ah_all] at hy
    subst hy
    rw [← HL.out,List.take_length] at o1
    rw [← HL.out] at o2
    exact ⟨rfl,A1,c1,A2,c2,rfl,o1,o2,be⟩
   go_wp2_with fail
   go_ret2
   exact (HF.out _ _ _ _ HS.out).2
def topZ (s:List Nat):Int:=if s.length=0 then -1 else ((s.getD (s.length - 1) 0:Nat):Int)
theorem step_of {ks:List Nat} {i:Nat} (hi:i < ks.length) (hs:ks.getD i 0 / 2=0):exc (val (ownL 0 ks)) (ah 0 ks i+1)=exc (val (ownL 0 ks)) (ah 0 ks i)+(2*((1 - ks.getD i 0%2:Nat):Int) - 1):=by
 rw [exc_list (ownL_bin 0 ks),ownL_get 0 ks i hi hs]
theorem ownZ_stack {ks:List Nat} (h:Kds ks) (hB:Bal (exc (val (ownL 0 ks))) (ownL 0 ks).length) {i:Nat} (hi:i < ks.length) {s:List Nat}
  (hs:Stack (exc (val (ownL 0 ks))) (ah 0 ks i) s):OwnZ ks i (topZ s):=by
 have hE:=exc_Exc (val (ownL 0 ks))
 have hl:=ah_end 0 ks i (by omega)
 unfold OwnZ
 split
 ·rename_i hk
  have hs0:ks.getD i 0 / 2=0:=by omega
  have hst:=step_of hi hs0
  rw [hk] at hst
  have hst':exc (val (ownL 0 ks)) (ah 0 ks i+1)=exc (val (ownL 0 ks)) (ah 0 ks i) - 1:=by rw [hst];omega
  have hlt:=ah_lt 0 ks i hi hs0
  have h1:=hB.1 (ah 0 ks i+1) (by omega)
  have h0:0 < s.length:=by have:=hs.1;omega
  have hp:=(hs.pop hst' h0).2
  unfold topZ
  rw [if_neg (by omega)]
  exact ⟨_,rfl,.inr hp⟩
 split
 ·rename_i h0
  have:=hs.1
  rw [h0,hE.zero] at this
  unfold topZ
  rw [if_pos (by omega)]
 rename_i hk h0
 obtain ⟨y,hy⟩:∃ y,ah 0 ks i=y+1:=⟨ah 0 ks i - 1,by omega⟩
 rw [hy] at hs hl
 rw [hy,Nat.add_sub_cancel]
 have hst:=exc_list (ownL_bin 0 ks) y
 have h1:=hs.1
 have hy0:=hB.1 y (by omega)
 have hy1:=hB.1 (y+1) (by omega)
 have hb:=(ownL_bin 0 ks).getD y
 split
 ·rename_i ho
  rw [ho] at hst
  have hl0:0 < s.length:=by omega
  obtain ⟨a,b,c⟩:=hs.2 (s.length - 1) (by omega)
  unfold topZ
  rw [if_neg (by omega)]
  by_cases e:s.getD (s.length - 1) 0=y
  ·rw [e]
  ·have:=c y (by omega) (by omega)
   omega
 ·rename_i ho
  have ho0:(ownL 0 ks).getD y 0=0:=by omega
  rw [ho0] at hst
  intro a ha
  obtain rfl:a=y+1:=by omega
  unfold topZ
  by_cases e:s.length=0
  ·rw [if_pos e,if_pos (by omega)]
  ·rw [if_neg e,if_neg (by omega)]
   obtain ⟨a,b,c⟩:=hs.2 (s.length - 1) (by omega)
   exact ⟨_,rfl,a,by omega,fun k p q=>by have:=c k p (by omega);omega⟩
theorem map_getD (f:Nat→Nat) (S:List Nat) (j:Nat) (h:j < S.length):(S.map f).getD j 0=f (S.getD j 0):=by
 simp [List.getD_eq_getElem?_getD,h]
structure OStk (ks:List Nat) (i:Nat) (S:List Nat):Prop where
 st:Stack (exc (val (ownL 0 ks))) (ah 0 ks i) (S.map (ah 0 ks))
 sp:∀ p∈S,p < i∧ks.getD p 0 / 2=0
theorem OStk.nil (ks:List Nat):OStk ks 0 []:=⟨by rw [ah_zero];exact Stack.nil (exc_Exc _),fun p h=>by simp at h⟩
def topP (S:List Nat):Int:=if S.length=0 then -1 else ((S.getD (S.length - 1) 0:Nat):Int)
theorem OStk.own {ks:List Nat} {i:Nat} {S:List Nat} (h:OStk ks i S) (hk:Kds ks) (hB:Bal (exc (val (ownL 0 ks))) (ownL 0 ks).length) (hi:i < ks.length):OwnAt ks i (topP S):=by
 refine ⟨_,ownZ_stack hk hB hi h.st,?_⟩
 unfold topZ topP
 rw [List.length_map]
 by_cases e:S.length=0
 ·rw [if_pos e,if_pos e];exact .inl ⟨rfl,rfl⟩
 ·rw [if_neg e,if_neg e,map_getD _ _ _ (by omega)]
  have hm:S.getD (S.length - 1) 0∈S:=by
   rw [List.getD_eq_getElem?_getD,List.getElem?_eq_getElem (by omega)];exact List.getElem_mem _
  obtain ⟨a,b⟩:=h.sp _ hm
  exact .inr ⟨_,rfl,by omega,b,rfl⟩
theorem OStk.push {ks:List Nat} {i:Nat} {S:List Nat} (h:OStk ks i S) (hi:i < ks.length) (hk:ks.getD i 0=0):OStk ks (i+1) (S++[i]):=by
 have hst:=step_of hi (by omega:ks.getD i 0 / 2=0)
 rw [hk] at hst
 refine ⟨?_,fun p hp=>?_⟩
 ·rw [ah_next 0 ks i hi,if_pos (by omega),List.map_append]
  exact h.st.push (by rw [hst];rfl)
 ·rcases List.mem_append.1 hp with q | q
  ·have:=h.sp p q;exact ⟨by omega,this.2⟩
  ·simp at q;subst q;exact ⟨by omega,by omega⟩
theorem OStk.pop {ks:List Nat} {i:Nat} {S:List Nat} (h:OStk ks i S) (hB:Bal (exc (val (ownL 0 ks))) (ownL 0 ks).length) (hi:i < ks.length) (hk:ks.getD i 0=1):0 < S.length∧OStk ks (i+1) (S.take (S.length - 1)):=by
 have hs0:ks.getD i 0 / 2=0:=by omega
 have hst:=step_of hi hs0
 rw [hk] at hst
 have hst':exc (val (ownL 0 ks)) (ah 0 ks i+1)=exc (val (ownL 0 ks)) (ah 0 ks i) - 1:=by rw [hst];omega
 have hlt:=ah_lt 0 ks i hi hs0
 have h1:=hB.1 (ah 0 ks i+1) (by omega)
 have h2:=h.st.1
 rw [List.length_map] at h2
 have h0:0 < S.length:=by omega
 refine ⟨h0,?_,fun p hp=>?_⟩
 ·rw [ah_next 0 ks i hi,if_pos hs0,List.map_take]
  have:=(h.st.pop hst' (by rw [List.length_map];exact h0)).1
  rw [List.length_map] at this
  exact this
 ·have:=h.sp p (List.mem_of_mem_take hp);exact ⟨by omega,this.2⟩
theorem OStk.skip {ks:List Nat} {i:Nat} {S:List Nat} (h:OStk ks i S) (hi:i < ks.length) (hk:ks.getD i 0 / 2≠0):OStk ks (i+1) S :=
 ⟨by rw [ah_next 0 ks i hi,if_neg hk];exact h.st,fun p hp=>by have:=h.sp p hp;exact ⟨by omega,this.2⟩⟩
def MatI (ks:List Nat) (p:Nat) (v:Int):Prop:=∃ q:Nat,v=(q:Int)∧MateAt ks p q
theorem mate_lt (l:List Nat) (x:Int) (hB:Bal (exc (val l)) l.length) (y:Nat) (hy:y < l.length) (hm:MateOK (exc (val l)) y x):∃ z:Nat,x=(z:Int)∧z < l.length:=by
 obtain ⟨z,rfl,hp⟩:=hm
 refine ⟨z,rfl,?_⟩
 rcases hp with hp | hp
 ·have hj:=fwd_ex hB hy (m:=exc (val l) y) (hB.1 y (by omega))
  obtain ⟨j,hj⟩:=hj
  have:=(hj.pair (exc_Exc _) (hp.opens (exc_Exc _))).uniq hp
  have:=hj.le
  have:=hj.lt
  omega
 ·have:=hp.lt;omega
theorem matI_of {ks:List Nat} {s i:Nat} (hi:i < ks.length) (hs:ks.getD i 0 / 2=s) (hB:Bal (exc (val (ownL s ks))) (ownL s ks).length) {x:Int} (hm:MateOK (exc (val (ownL s ks))) (ah s ks i) x) :
  ∃ z:Nat,x=(z:Int)∧z < (ownL s ks).length∧MatI ks i (((atN s ks ks.length).getD z 0:Nat):Int):=by
 obtain ⟨z,rfl,hz⟩:=mate_lt _ _ hB _ (ah_lt s ks i hi hs) hm
 obtain ⟨p,hp,hps,hpa⟩:=ah_find s ks z hz
 have:=atN_get s ks p hps ks.length hp (Nat.le_refl _)
 rw [hpa] at this
 refine ⟨z,rfl,hz,p,by rw [this],hp,by rw [hps,hs],?_⟩
 rw [hs,hpa];exact hm
theorem atN_back {ks:List Nat} {s y:Nat} (hy:y < (ownL s ks).length):∃ p,p < ks.length∧ks.getD p 0 / 2=s∧ah s ks p=y∧(atN s ks ks.length).getD y 0=p:=by
 obtain ⟨p,hp,hps,hpa⟩:=ah_find s ks y hy
 have:=atN_get s ks p hps ks.length hp (Nat.le_refl _)
 rw [hpa] at this
 exact ⟨p,hp,hps,hpa,this⟩
structure Sof4 (ks:List Nat) (N r e:Nat):Prop where
 kd:Kds ks
 len:ks.length=N
 s0:Sofar (ownL 0 ks) (ownL 0 ks).length r
 s1:Sofar (ownL 1 ks) (ownL 1 ks).length e
theorem Sof4.nil:Sof4 [] 0 0 0:=⟨fun k h=>by simp at h,rfl,Sofar.nil,Sofar.nil⟩
theorem kds_snoc {ks:List Nat} (h:Kds ks) {x:Nat} (hx:x < 4):Kds (ks++[x]):=h.append fun k hk=>by simp at hk;omega
theorem Sof4.add0 {ks:List Nat} {N r e:Nat} (h:Sof4 ks N r e):Sof4 (ks++[0]) (N+1) (r+1) e:=by
 refine ⟨kds_snoc h.kd (by omega),by rw [List.length_append,h.len];rfl,?_,?_⟩
 ·rw [ownL_app,ownL_one,if_pos (by decide),List.length_append];exact h.s0.push
 ·rw [ownL_app,ownL_one,if_neg (by decide),List.append_nil];exact h.s1
theorem Sof4.add2 {ks:List Nat} {N r e:Nat} (h:Sof4 ks N r e):Sof4 (ks++[2]) (N+1) r (e+1):=by
 refine ⟨kds_snoc h.kd (by omega),by rw [List.length_append,h.len];rfl,?_,?_⟩
 ·rw [ownL_app,ownL_one,if_neg (by decide),List.append_nil];exact h.s0
 ·rw [ownL_app,ownL_one,if_pos (by decide),List.length_append];exact h.s1.push
theorem Sof4.add1 {ks:List Nat} {N r e:Nat} (h:Sof4 ks N (r+1) e):Sof4 (ks++[1]) (N+1) r e:=by
 refine ⟨kds_snoc h.kd (by omega),by rw [List.length_append,h.len];rfl,?_,?_⟩
 ·rw [ownL_app,ownL_one,if_pos (by decide),List.length_append];exact h.s0.pop
 ·rw [ownL_app,ownL_one,if_neg (by decide),List.append_nil];exact h.s1
theorem Sof4.add3 {ks:List Nat} {N r e:Nat} (h:Sof4 ks N r (e+1)):Sof4 (ks++[3]) (N+1) r e:=by
 refine ⟨kds_snoc h.kd (by omega),by rw [List.length_append,h.len];rfl,?_,?_⟩
 ·rw [ownL_app,ownL_one,if_neg (by decide),List.append_nil];exact h.s0
 ·rw [ownL_app,ownL_one,if_pos (by decide),List.length_append];exact h.s1.pop
structure Prg (ks:List Nat) (tw:Nat→Nat):Prop where
 kd:Kds ks
 lt:∀ j,j < ks.length→tw j < ks.length
 tt:∀ j,j < ks.length→tw (tw j)=j
 ne:∀ j,j < ks.length→tw j≠j
 sort:∀ j,j < ks.length→ks.getD (tw j) 0 / 2=ks.getD j 0 / 2
 opn:∀ j,j < ks.length→(ks.getD j 0%2=0↔j < tw j)
def UA (ks:List Nat) (tw:Nat→Nat) (s x p:Nat):Prop:=ks.getD p 0 / 2=s∧p < tw p∧x≤tw p
instance (ks:List Nat) (tw:Nat→Nat) (s x:Nat):DecidablePred (UA ks tw s x):=fun p=>by unfold UA;exact inferInstance
def UU (ks:List Nat) (tw:Nat→Nat) (s x:Nat):List Nat:=(List.range x).filter fun p=>decide (UA ks tw s x p)
section
variable {ks:List Nat} {tw:Nat→Nat} {s:Nat}
theorem step_s {i:Nat} (hi:i < ks.length) (hs:ks.getD i 0 / 2=s):exc (val (ownL s ks)) (ah s ks i+1)=exc (val (ownL s ks)) (ah s ks i)+(2*((1 - ks.getD i 0%2:Nat):Int) - 1):=by
 rw [exc_list (ownL_bin s ks),ownL_get s ks i hi hs]
theorem filter_same (x:Nat) {A B:Nat→Prop} [DecidablePred A] [DecidablePred B] (h:∀ p,p < x→(A p↔B p)):((List.range x).filter fun p=>decide (A p))=(List.range x).filter fun p=>decide (B p) :=
 List.filter_congr fun p hp=>by rw [decide_eq_decide];exact h p (by simpa using hp)
theorem UU_skip (h:Prg ks tw) {x:Nat} (hx:x < ks.length) (hs:ks.getD x 0 / 2≠s):UU ks tw s (x+1)=UU ks tw s x:=by
 unfold UU
 rw [List.range_succ,List.filter_append,List.filter_cons,if_neg (by rw [decide_eq_true_iff];exact fun a=>hs a.1),List.filter_nil,List.append_nil]
 refine filter_same x fun p hp=>⟨fun ⟨a,b,c⟩=>⟨a,b,by omega⟩,fun ⟨a,b,c⟩=>⟨a,b,?_⟩⟩
 have:tw p≠x:=fun e=>hs (by rw [← e,h.sort p (by omega)];exact a)
 omega
theorem UU_open (h:Prg ks tw) {x:Nat} (hx:x < ks.length) (hs:ks.getD x 0 / 2=s) (ho:x < tw x):UU ks tw s (x+1)=UU ks tw s x++[x]:=by
 unfold UU
 rw [List.range_succ,List.filter_append,List.filter_cons,if_pos (by rw [decide_eq_true_iff];exact ⟨hs,ho,ho⟩),List.filter_nil]
 congr 1
 refine filter_same x fun p hp=>⟨fun ⟨a,b,c⟩=>⟨a,b,by omega⟩,fun ⟨a,b,c⟩=>⟨a,b,?_⟩⟩
 have:tw p≠x:=fun e=>by
  have:=h.tt p (by omega)
  rw [e] at this;omega
 omega
theorem UU_close (h:Prg ks tw) {x:Nat} (hx:x < ks.length) (hs:ks.getD x 0 / 2=s) (hc:tw x < x):(UU ks tw s (x+1)).length+1=(UU ks tw s x).length:=by
 unfold UU
 rw [List.range_succ,List.filter_append,List.filter_cons,if_neg (by rw [decide_eq_true_iff];exact fun a=>by have:=a.2.1;omega),List.filter_nil,List.append_nil]
 have htt:=h.tt x hx
 refine filter_less List.nodup_range (UA ks tw s x) (UA ks tw s (x+1)) (tw x) (by simp;omega) ⟨by rw [h.sort x hx];exact hs,by rw [htt];omega,by rw [htt];exact Nat.le_refl _⟩ fun p hp=>?_
 have hp':p < x:=by simpa using hp
 constructor
 ·rintro ⟨a,b,c⟩
  exact ⟨⟨a,b,by omega⟩,fun e=>by subst e;rw [htt] at c;omega⟩
 ·rintro ⟨⟨a,b,c⟩,d⟩
  refine ⟨a,b,?_⟩
  have:tw p≠x:=fun e=>d (by rw [← e,h.tt p (by omega)])
  omega
theorem exc_UU (h:Prg ks tw):∀ x,x≤ks.length→exc (val (ownL s ks)) (ah s ks x)=((UU ks tw s x).length:Int)
 | 0,_=>by rw [ah_zero,(exc_Exc _).zero];rfl
 | x+1,hx=>by
   have ih:=exc_UU h x (by omega)
   have hk:=h.kd.getD x
   by_cases hs:ks.getD x 0 / 2=s
   ·have hst:=step_s (ks:=ks) (i:=x) (by omega) hs
    rw [ah_next s ks x (by omega),if_pos hs,hst,ih]
    have ho:=h.opn x (by omega)
    by_cases q:x < tw x
    ·rw [UU_open h (by omega) hs q,List.length_append,ho.2 q];simp
    ·have hne:=h.ne x (by omega)
     have:=UU_close h (show x < ks.length by omega) hs (by omega)
     have:¬ ks.getD x 0%2=0:=fun e=>q (ho.1 e)
     rw [show ks.getD x 0%2=1 by omega]
     omega
   ·rw [ah_next s ks x (by omega),if_neg hs,UU_skip h (by omega) hs];exact ih
theorem prg_bal (h:Prg ks tw):Bal (exc (val (ownL s ks))) (ownL s ks).length:=by
 have hend:exc (val (ownL s ks)) (ownL s ks).length=0:=by
  rw [← ah_all s ks,exc_UU h ks.length (Nat.le_refl _)]
  have:UU ks tw s ks.length=[]:=by
   unfold UU
   rw [List.filter_eq_nil_iff]
   intro p hp
   rw [decide_eq_true_iff]
   intro a
   have:=h.lt p (by simpa using hp)
   have:=a.2.2
   omega
  rw [this];rfl
 refine ⟨fun y hy=>?_,hend⟩
 rcases Nat.lt_or_ge y (ownL s ks).length with c | c
 ·obtain ⟨i,hi,_,e⟩:=ah_find s ks y c
  rw [← e,exc_UU h i (by omega)];omega
 ·rw [show y=(ownL s ks).length by omega,hend];exact Int.le_refl _
def NX (ks:List Nat) (tw:Nat→Nat) (s:Nat):Prop:=∀ i k,i < k→k < tw i→tw i < tw k→i < ks.length→k < ks.length→ks.getD i 0 / 2=s→ks.getD k 0 / 2=s→False
theorem range_split {i x:Nat} (h:i < x):List.range x=List.range i++i :: (List.range (x - i - 1)).map (fun t=>i+1+t):=by
 have e:=List.range_add (n:=i+1) (m:=x - i - 1)
 rw [show i+1+(x - i - 1)=x by omega,List.range_succ] at e
 rw [e,List.append_assoc];rfl
theorem UU_last (h:Prg ks tw) (hX:NX ks tw s) {x:Nat} (hx:x < ks.length) (hs:ks.getD x 0 / 2=s) (hc:tw x < x):UU ks tw s x=UU ks tw s (x+1)++[tw x]:=by
 have htt:=h.tt x hx
 have hti:=h.lt x hx
 have hsi:ks.getD (tw x) 0 / 2=s:=by rw [h.sort x hx];exact hs
 have no:∀ y,y=x∨y=x+1→((List.range (x - tw x - 1)).map (fun t=>tw x+1+t)).filter (fun p=>decide (UA ks tw s y p))=[]:=fun y hy=>by
  rw [List.filter_eq_nil_iff]
  intro p hp
  obtain ⟨t,ht,rfl⟩:=List.mem_map.1 hp
  have ht':t < x - tw x - 1:=by simpa using ht
  rw [decide_eq_true_iff]
  rintro ⟨a,b,c⟩
  have hne:tw (tw x+1+t)≠x:=fun e=>by
   have:=h.tt (tw x+1+t) (by omega)
   rw [e] at this;omega
  exact hX (tw x) (tw x+1+t) (by omega) (by rw [htt];omega) (by rw [htt];omega) hti (by omega) hsi a
 have e1:UU ks tw s x=((List.range (tw x)).filter fun p=>decide (UA ks tw s x p))++[tw x]:=by
  unfold UU
  rw [range_split hc,List.filter_append,List.filter_cons,if_pos (by rw [decide_eq_true_iff];exact ⟨hsi,by rw [htt];omega,by rw [htt];exact Nat.le_refl _⟩),no x (.inl rfl)]
 have e2:UU ks tw s (x+1)=((List.range (tw x)).filter fun p=>decide (UA ks tw s x p)):=by
  unfold UU
  rw [List.range_succ,List.filter_append,range_split hc,List.filter_append,List.filter_cons,if_neg (by rw [decide_eq_true_iff];exact fun a=>by have:=a.2.2;rw [htt] at this;omega),no (x+1) (.inr rfl),List.append_nil,
   List.filter_cons,if_neg (by rw [decide_eq_true_iff];exact fun a=>by have:=a.2.1;omega),List.filter_nil,List.append_nil]
  refine filter_same _ fun p hp=>⟨fun ⟨a,b,c⟩=>⟨a,b,by omega⟩,fun ⟨a,b,c⟩=>⟨a,b,?_⟩⟩
  have:tw p≠x:=fun e=>by
   have:=h.tt p (by omega)
   rw [e] at this;omega
  omega
 rw [e1,e2]
theorem stk_UU (h:Prg ks tw) (hX:NX ks tw s):∀ x,x≤ks.length→Stack (exc (val (ownL s ks))) (ah s ks x) ((UU ks tw s x).map (ah s ks))
 | 0,_=>by rw [ah_zero];exact Stack.nil (exc_Exc _)
 | x+1,hx=>by
   have ih:=stk_UU h hX x (by omega)
   have hk:=h.kd.getD x
   by_cases hs:ks.getD x 0 / 2=s
   ·have hst:=step_s (ks:=ks) (i:=x) (by omega) hs
    have ho:=h.opn x (by omega)
    rw [ah_next s ks x (by omega),if_pos hs]
    by_cases q:x < tw x
    ·rw [UU_open h (by omega) hs q,List.map_append]
     rw [ho.2 q] at hst
     exact ih.push (by rw [hst];rfl)
    ·have hne:=h.ne x (by omega)
     have hm:ks.getD x 0%2=1:=by have:¬ ks.getD x 0%2=0:=fun e=>q (ho.1 e);omega
     rw [hm] at hst
     have hst':exc (val (ownL s ks)) (ah s ks x+1)=exc (val (ownL s ks)) (ah s ks x) - 1:=by rw [hst];omega
     have hl:=UU_last h hX (show x < ks.length by omega) hs (by omega)
     rw [hl,List.map_append] at ih
     have:=(ih.pop hst' (by simp)).1
     rwa [List.length_append,List.length_map,List.length_map,List.length_singleton,Nat.add_sub_cancel,List.take_left' (by rw [List.length_map])] at this
   ·rw [ah_next s ks x (by omega),if_neg hs,UU_skip h (by omega) hs];exact ih
theorem mate_close (h:Prg ks tw) (hX:NX ks tw s) {x:Nat} (hx:x < ks.length) (hs:ks.getD x 0 / 2=s) (hc:tw x < x):Pair (exc (val (ownL s ks))) (ah s ks (tw x)) (ah s ks x):=by
 have ih:=stk_UU h hX x (by omega)
 have hst:=step_s (ks:=ks) (i:=x) hx hs
 have ho:=h.opn x hx
 have hk:=h.kd.getD x
 have hm:ks.getD x 0%2=1:=by have:¬ ks.getD x 0%2=0:=fun e=>by have:=ho.1 e;omega
                             omega
 rw [hm] at hst
 have hst':exc (val (ownL s ks)) (ah s ks x+1)=exc (val (ownL s ks)) (ah s ks x) - 1:=by rw [hst];omega
 have hl:=UU_last h hX hx hs hc
 rw [hl,List.map_append] at ih
 have hp:=(ih.pop hst' (by simp)).2
 rw [List.length_append,List.length_map,List.length_map,List.length_singleton,Nat.add_sub_cancel,List.getD_eq_getElem?_getD,List.getElem?_append_right (by rw [List.length_map];exact Nat.le_refl _),List.length_map,Nat.sub_self] at hp
 exact hp
theorem mate_of (h:Prg ks tw) (hX:NX ks tw s) {x:Nat} (hx:x < ks.length) (hs:ks.getD x 0 / 2=s):MateAt ks x (tw x):=by
 refine ⟨h.lt x hx,h.sort x hx,?_⟩
 rw [hs]
 have hne:=h.ne x hx
 rcases Nat.lt_or_ge (tw x) x with c | c
 ·exact ⟨_,rfl,.inr (mate_close h hX hx hs c)⟩
 ·have h2:=mate_close h hX (h.lt x hx) (by rw [h.sort x hx];exact hs) (by rw [h.tt x hx];omega)
  rw [h.tt x hx] at h2
  exact ⟨_,rfl,.inl h2⟩
theorem mate_nx (h:Prg ks tw) (hM:∀ x,x < ks.length→ks.getD x 0 / 2=s→MateAt ks x (tw x)):NX ks tw s:=fun i k h1 h2 h3 hi hk si sk=>by
 have hE:=exc_Exc (val (ownL s ks))
 have pr:∀ x,x < ks.length→ks.getD x 0 / 2=s→x < tw x→Pair (exc (val (ownL s ks))) (ah s ks x) (ah s ks (tw x)):=fun x hx hs ho=>by
  obtain ⟨_,_,q,hq,hp⟩:=hM x hx hs
  rw [hs] at hq hp
  obtain rfl:q=ah s ks (tw x):=by omega
  have hlt:ah s ks x < ah s ks (tw x):=by
   have a:=ah_next s ks x hx
   rw [if_pos hs] at a
   have htl:=h.lt x hx
   have b:=ah_mono s ks (x+1) (tw x - (x+1)) (by omega)
   rw [show x+1+(tw x - (x+1))=tw x by omega] at b
   omega
  rcases hp with hp | hp
  ·exact hp
  ·have:=hp.lt;omega
 have hti:=h.lt i hi
 have htk:=h.lt k hk
 have p1:=pr i hi si (by omega)
 have p2:=pr k hk sk (by omega)
 have lt2:∀ a b,a < b→b < ks.length→ks.getD a 0 / 2=s→ah s ks a < ah s ks b:=fun a b hab hb hs=>by
  have x:=ah_next s ks a (by omega)
  rw [if_pos hs] at x
  have y:=ah_mono s ks (a+1) (b - (a+1)) (by omega)
  rw [show a+1+(b - (a+1))=b by omega] at y
  omega
 have a1:=lt2 i k h1 hk si
 have a2:=lt2 k (tw i) h2 hti sk
 have a3:=lt2 (tw i) (tw k) h3 htk (by rw [h.sort i hi];exact si)
 have c1:=p1.above (ah s ks k) a1 (by omega)
 have c2:=p2.above (ah s ks (tw i)+1) (by omega) (by omega)
 have:=p1.same
 omega
end
end Go.Proofs.YtijbdnhlpbcabaaGreatDoor
namespace Go.Proofs.YtijbdnhlpbcabaaGreatDoor
set_option maxRecDepth 20000
end Go.Proofs.YtijbdnhlpbcabaaGreatDoor
namespace Go.Proofs.YtijbdnhlpbcabaaGreatDoor
set_option maxRecDepth 20000
end Go.Proofs.YtijbdnhlpbcabaaGreatDoor
namespace Go.Proofs.YtijbdnhlpbcabaaGreatDoor
set_option maxRecDepth 20000
end Go.Proofs.YtijbdnhlpbcabaaGreatDoor
namespace Go.Proofs.YtijbdnhlpbcabaaGreatDoor
set_option maxRecDepth 20000
end Go.Proofs.YtijbdnhlpbcabaaGreatDoor
namespace Go.Proofs.YtijbdnhlpbcabaaGreatDoor
set_option maxRecDepth 20000
noncomputable def pq (l:List Nat) (d:Nat):Nat:=prt (part l) d
noncomputable def pN (l:List Nat):Nat:=pn (part l) l.length
open Classical in
noncomputable def rt (R:Nat→Nat→Prop) (j:Nat):Nat:=if h:∃ d,Least R d∧pn R d=j then h.choose else 0
theorem rt_of {R:Nat→Nat→Prop} {d:Nat} (h:Least R d):rt R (pn R d)=d:=by
 have he:∃ d',Least R d'∧pn R d'=pn R d:=⟨d,h,rfl⟩
 unfold rt
 rw [dif_pos he]
 obtain ⟨h1,h2⟩:=he.choose_spec
 generalize he.choose=c at *
 rcases Nat.lt_trichotomy c d with x | x | x
 ·have:=pn_lt R h1 x;omega
 ·exact x
 ·have:=pn_lt R h x;omega
noncomputable def pV (l:List Nat) (j k:Nat):Nat:=num (fun d=>pq l d=j∧Leads l d) k
noncomputable def pE (l:List Nat) (j k:Nat):Nat:=num (fun d=>pq l d=j∧d%2=0) k
noncomputable def pG (l:List Nat) (j:Nat):Int:=(2 - (pV l j l.length:Int)+(pE l j l.length:Int) - (num (fun d=>pq l d=j∧Leads (phiL l) d) l.length:Int)).tdiv 2
noncomputable def pB (l:List Nat) (j k:Nat):Nat:=num (fun d=>pq l d=j∧Leads (phiL l) d) k
theorem num_le (Q:Nat→Prop) (k:Nat):num Q k≤k:=by
 unfold num
 exact Nat.le_trans (List.length_filter_le _ _) (by simp)
theorem pV_le (l:List Nat) (j k:Nat):pV l j k≤k:=num_le _ _
theorem pE_le (l:List Nat) (j k:Nat):pE l j k≤k:=num_le _ _
theorem pB_le (l:List Nat) (j k:Nat):pB l j k≤k:=num_le _ _
theorem num_zero {Q:Nat→Prop} {k:Nat} (h:∀ d,d < k→¬ Q d):num Q k=0:=by
 unfold num
 rw [List.length_eq_zero_iff,List.filter_eq_nil_iff]
 intro d hd
 simpa using h d (by simpa using hd)
theorem num_congr {Q S:Nat→Prop} {k:Nat} (h:∀ d,d < k→(Q d↔S d)):num Q k=num S k:=by
 unfold num
 congr 1
 apply List.filter_congr
 intro d hd
 have:=h d (by simpa using hd)
 simp [this]
noncomputable def pc (l:List Nat) (kv ke kb kg i:Nat):Int :=
 if i%5=0 then (rt (part l) (i / 5):Int) else if i%5=1 then (pV l (i / 5) kv:Int) else if i%5=2 then (pE l (i / 5) ke:Int) else if i%5=3 then (pB l (i / 5) kb:Int) else
  if i / 5 < kg then pG l (i / 5) else 0
noncomputable def pRow (l:List Nat) (p kv ke kb kg:Nat):List Int:=(List.range (5*p)).map (pc l kv ke kb kg)
theorem pRow_len (l:List Nat) (p kv ke kb kg:Nat):(pRow l p kv ke kb kg).length=5*p:=by simp [pRow]
theorem map_rangeI (f:Nat→Int) (n i:Nat) (h:i < n):((List.range n).map f).getD i 0=f i:=by simp [List.getD_eq_getElem?_getD,List.getElem?_range h]
theorem pRow_get (l:List Nat) (p kv ke kb kg i:Nat) (h:i < 5*p):(pRow l p kv ke kb kg).getD i 0=pc l kv ke kb kg i:=map_rangeI _ _ _ h
theorem pc_0 (l:List Nat) (kv ke kb kg q:Nat):pc l kv ke kb kg (5*q)=rt (part l) q:=by unfold pc;rw [if_pos (by omega),show 5*q / 5=q by omega]
theorem pc_1 (l:List Nat) (kv ke kb kg q:Nat):pc l kv ke kb kg (5*q+1)=pV l q kv:=by unfold pc;rw [if_neg (by omega),if_pos (by omega),show (5*q+1) / 5=q by omega]
theorem pc_2 (l:List Nat) (kv ke kb kg q:Nat):pc l kv ke kb kg (5*q+2)=pE l q ke:=by unfold pc;rw [if_neg (by omega),if_neg (by omega),if_pos (by omega),show (5*q+2) / 5=q by omega]
theorem pc_3 (l:List Nat) (kv ke kb kg q:Nat):pc l kv ke kb kg (5*q+3)=pB l q kb:=by unfold pc;rw [if_neg (by omega),if_neg (by omega),if_neg (by omega),if_pos (by omega),show (5*q+3) / 5=q by omega]
theorem pc_4 (l:List Nat) (kv ke kb kg q:Nat):pc l kv ke kb kg (5*q+4)=if q < kg then pG l q else 0:=by unfold pc;rw [if_neg (by omega),if_neg (by omega),if_neg (by omega),if_neg (by omega),show (5*q+4) / 5=q by omega]
theorem pRow_ext {l:List Nat} {p kv ke kb kg kv' ke' kb' kg' s:Nat} {v:Int} (hs:s < 5*p) (h:∀ i,i < 5*p→pc l kv' ke' kb' kg' i=if i=s then v else pc l kv ke kb kg i) :
  (pRow l p kv ke kb kg).set s v=pRow l p kv' ke' kb' kg':=getDI_ext (by simp [pRow_len]) fun i hi=>by
 have hi:i < 5*p:=by simpa [pRow_len] using hi
 rw [getDI_set _ _ _ _ (by rw [pRow_len];exact hs),pRow_get _ _ _ _ _ _ _ hi,pRow_get _ _ _ _ _ _ _ hi,h i hi]
theorem pRow_same {l:List Nat} {p kv ke kb kg kv' ke' kb' kg':Nat} (h:∀ i,i < 5*p→pc l kv ke kb kg i=pc l kv' ke' kb' kg' i):pRow l p kv ke kb kg=pRow l p kv' ke' kb' kg' :=
 getDI_ext (by simp [pRow_len]) fun i hi=>by
  have hi:i < 5*p:=by simpa [pRow_len] using hi
  rw [pRow_get _ _ _ _ _ _ _ hi,pRow_get _ _ _ _ _ _ _ hi,h i hi]
/-! ### one step of each count -/
theorem pV_yes {l:List Nat} {k:Nat} (h:Leads l k):pV l (pq l k) (k+1)=pV l (pq l k) k+1:=(num_next _ k).1 ⟨rfl,h⟩
theorem pV_else {l:List Nat} {k j:Nat} (h:¬ Leads l k∨pq l k≠j):pV l j (k+1)=pV l j k:=(num_next _ k).2 fun ⟨a,b⟩=>h.elim (fun x=>x b) (fun x=>x a)
theorem pB_yes {l:List Nat} {k:Nat} (h:Leads (phiL l) k):pB l (pq l k) (k+1)=pB l (pq l k) k+1:=(num_next _ k).1 ⟨rfl,h⟩
theorem pB_else {l:List Nat} {k j:Nat} (h:¬ Leads (phiL l) k∨pq l k≠j):pB l j (k+1)=pB l j k:=(num_next _ k).2 fun ⟨a,b⟩=>h.elim (fun x=>x b) (fun x=>x a)
theorem pE_yes {l:List Nat} {k:Nat} (h:k%2=0):pE l (pq l k) (k+1)=pE l (pq l k) k+1:=(num_next _ k).1 ⟨rfl,h⟩
theorem pE_else {l:List Nat} {k j:Nat} (h:¬ k%2=0∨pq l k≠j):pE l j (k+1)=pE l j k:=(num_next _ k).2 fun ⟨a,b⟩=>h.elim (fun x=>x b) (fun x=>x a)
theorem row_v {l:List Nat} {p k ke kb kg:Nat} (hq:pq l k < p) (h:Leads l k):(pRow l p k ke kb kg).set (5*pq l k+1) ((pV l (pq l k) k:Int)+1)=pRow l p (k+1) ke kb kg :=
 pRow_ext (by omega) fun i hi=>by
  by_cases e:i=5*pq l k+1
  ·subst e;rw [if_pos rfl,pc_1,pV_yes h];rfl
  ·rw [if_neg e];unfold pc
   by_cases e1:i%5=1
   ·rw [pV_else (.inr (by omega))]
   ·rw [if_neg e1,if_neg e1]
theorem row_v0 {l:List Nat} {p k ke kb kg:Nat} (h:¬ Leads l k):pRow l p k ke kb kg=pRow l p (k+1) ke kb kg:=pRow_same fun i hi=>by unfold pc;rw [pV_else (.inl h)]
theorem row_b {l:List Nat} {p k kv ke kg:Nat} (hq:pq l k < p) (h:Leads (phiL l) k):(pRow l p kv ke k kg).set (5*pq l k+3) ((pB l (pq l k) k:Int)+1)=pRow l p kv ke (k+1) kg :=
 pRow_ext (by omega) fun i hi=>by
  by_cases e:i=5*pq l k+3
  ·subst e;rw [if_pos rfl,pc_3,pB_yes h];rfl
  ·rw [if_neg e];unfold pc
   by_cases e1:i%5=3
   ·rw [pB_else (.inr (by omega))]
   ·rw [if_neg e1,if_neg e1]
theorem row_b0 {l:List Nat} {p k kv ke kg:Nat} (h:¬ Leads (phiL l) k):pRow l p kv ke k kg=pRow l p kv ke (k+1) kg:=pRow_same fun i hi=>by unfold pc;rw [pB_else (.inl h)]
theorem row_e {l:List Nat} {p k kv kb kg:Nat} (hq:pq l k < p) (h:k%2=0):(pRow l p kv k kb kg).set (5*pq l k+2) ((pE l (pq l k) k:Int)+1)=pRow l p kv (k+1) kb kg :=
 pRow_ext (by omega) fun i hi=>by
  by_cases e:i=5*pq l k+2
  ·subst e;rw [if_pos rfl,pc_2,pE_yes h];rfl
  ·rw [if_neg e];unfold pc
   by_cases e1:i%5=2
   ·rw [pE_else (.inr (by omega))]
   ·rw [if_neg e1,if_neg e1]
theorem row_e0 {l:List Nat} {p k kv kb kg:Nat} (h:¬ k%2=0):pRow l p kv k kb kg=pRow l p kv (k+1) kb kg:=pRow_same fun i hi=>by unfold pc;rw [pE_else (.inl h)]
theorem row_g {l:List Nat} {p j:Nat} (hj:j < p) (kv ke kb:Nat):(pRow l p kv ke kb j).set (5*j+4) (pG l j)=pRow l p kv ke kb (j+1) :=
 pRow_ext (by omega) fun i hi=>by
  by_cases e:i=5*j+4
  ·subst e;rw [if_pos rfl,pc_4,if_pos (by omega)]
  ·rw [if_neg e];unfold pc
   by_cases e0:i%5=0
   ·rw [if_pos e0,if_pos e0]
   rw [if_neg e0,if_neg e0]
   by_cases e1:i%5=1
   ·rw [if_pos e1,if_pos e1]
   rw [if_neg e1,if_neg e1]
   by_cases e2:i%5=2
   ·rw [if_pos e2,if_pos e2]
   rw [if_neg e2,if_neg e2]
   by_cases e3:i%5=3
   ·rw [if_pos e3,if_pos e3]
   rw [if_neg e3,if_neg e3]
   by_cases c:i / 5 < j
   ·rw [if_pos c,if_pos (by omega)]
   ·rw [if_neg c,if_neg (by omega)]
theorem range_five (f:Nat→Int) (p:Nat):(List.range (5*(p+1))).map f=(List.range (5*p)).map f++[f (5*p),f (5*p+1),f (5*p+2),f (5*p+3),f (5*p+4)]:=by
 rw [show 5*(p+1)=5*p+1+1+1+1+1 by omega]
 simp [List.range_succ]
/-! ### when a new part is met -/
section
variable {l b:List Nat}
theorem sgL_it (l:List Nat) (i:Nat):∀ k,itf (sgL l) k i=it l k i
 | 0=>rfl
 | k+1=>by show sgL l (itf (sgL l) k i)=_;rw [sgL_it l i k];rfl
theorem leads_least (h:Inv l b) {d:Nat} (hd:d≤l.length):Leads l d↔Least (Orb (sgL l)) d:=by
 unfold Leads Least
 constructor
 ·intro H j hj ⟨k,e⟩
  refine H j hj ((mem_orb h (by omega)).2 ⟨k,?_⟩)
  rw [← sgL_it];exact e
 ·intro H j hj m
  obtain ⟨k,e⟩:=(mem_orb h (by omega)).1 m
  exact H j hj ⟨k,by rw [sgL_it];exact e⟩
theorem phi_fk (he:l.length%2=0) {i:Nat} (hi:i < l.length):sgL (phiL l) i=fk (sgL l) (l.length / 2) i:=by
 rw [fk_is,if_pos (by omega)]
 unfold sgL
 rw [phiL_get l i hi,mt_mateN]
theorem orb_congr {n:Nat} {f g:Nat→Nat} (hf:PF n f) (h:∀ i,i < n→f i=g i) {i:Nat} (hi:i < n):∀ k,itf f k i=itf g k i∧itf f k i < n
 | 0=>⟨rfl,hi⟩
 | k+1=>by
   obtain ⟨e,lt⟩:=orb_congr hf h hi k
   refine ⟨?_,hf.lt _ lt⟩
   show f (itf f k i)=g (itf g k i)
   rw [← e,h _ lt]
theorem leads_phi (h:Inv l b) (he:l.length%2=0) (hp:Inv (phiL l) (phiB l b)) {d:Nat} (hd:d≤l.length):Leads (phiL l) d↔Least (Orb (fk (sgL l) (l.length / 2))) d:=by
 rw [leads_least hp (by rw [phiL_len];exact hd)]
 have hpf:PF l.length (sgL (phiL l)):=by have:=sgL_pf hp;rwa [phiL_len] at this
 unfold Least
 constructor
 ·intro H j hj ⟨k,e⟩
  exact H j hj ⟨k,by rw [(orb_congr hpf (fun i hi=>phi_fk he hi) (show j < l.length by omega) k).1];exact e⟩
 ·intro H j hj ⟨k,e⟩
  exact H j hj ⟨k,by rw [← (orb_congr hpf (fun i hi=>phi_fk he hi) (show j < l.length by omega) k).1];exact e⟩
theorem new_part (h:Inv l b) (he:l.length%2=0) (hp:Inv (phiL l) (phiB l b)) {d:Nat} (hd:d < l.length) (H:Least (part l) d):Leads l d∧Leads (phiL l) d∧d%2=0:=by
 have hpf:=sgL_pf h
 have hn:l.length=2*(l.length / 2):=by omega
 refine ⟨(leads_least h (by omega)).2 fun j hj o=>H j hj (gk_mono _ (Nat.zero_le _) o),(leads_phi h he hp (by omega)).2 fun j hj o=>H j hj (fk_sub hpf hn _ (Nat.le_refl _) j d (by omega) o),?_⟩
 have hm:=gk_mt hpf hn d hd
 by_cases e:d%2=0
 ·exact e
 ·exfalso
  have:mt d=d - 1:=by unfold mt;rw [if_neg e]
  rw [this] at hm
  exact H (d - 1) (by omega) ((part_eqv h he).symm _ _ hd (by omega) hm)
theorem pq_lt (h:Inv l b) (he:l.length%2=0) {i d:Nat} (hi:i < l.length) (hd:i < d):pq l i < pn (part l) d:=by
 refine prt_lt (part_eqv h he) hi ?_
 have:=(rep_is (part_eqv h he) hi).1
 omega
theorem pq_new (h:Inv l b) (he:l.length%2=0) {d:Nat} (hd:d < l.length) (H:Least (part l) d):pq l d=pn (part l) d:=prt_least (part_eqv h he) hd H
theorem pq_old (h:Inv l b) (he:l.length%2=0) {d:Nat} (hd:d < l.length) (H:¬ Least (part l) d):pq l d < pn (part l) d:=by
 refine prt_lt (part_eqv h he) hd ?_
 have h1:=(rep_is (part_eqv h he) hd).1
 have h2:rep (part l) d≠d:=fun e=>H ((rep_least (part_eqv h he) hd).2 e)
 omega
theorem cnt_new (h:Inv l b) (he:l.length%2=0) {k:Nat} (hk:k≤l.length):pV l (pn (part l) k) k=0∧pE l (pn (part l) k) k=0∧pB l (pn (part l) k) k=0 :=
 ⟨num_zero fun d hd ⟨a,_⟩=>by have:=pq_lt h he (show d < l.length by omega) hd;omega,num_zero fun d hd ⟨a,_⟩=>by have:=pq_lt h he (show d < l.length by omega) hd;omega,num_zero fun d hd ⟨a,_⟩=>by have:=pq_lt h he (show d < l.length by omega) hd;omega⟩
theorem row_new (h:Inv l b) (he:l.length%2=0) {k:Nat} (hk:k < l.length) (H:Least (part l) k):pRow l (pn (part l) k) k k k 0++[(k:Int),0,0,0,0]=pRow l (pn (part l) (k+1)) k k k 0:=by
 rw [(pn_next (part l) k).1 H]
 unfold pRow
 rw [range_five,pc_0,pc_1,pc_2,pc_3,pc_4,rt_of H]
 obtain ⟨a,c,d⟩:=cnt_new h he (show k≤l.length by omega)
 rw [a,c,d]
 simp
/-! ### the genus -/
theorem part_cls (h:Inv l b) (he:l.length%2=0) (hp:Inv (phiL l) (phiB l b)) {d:Nat} (hd:d < l.length) :
  ∃ G:Nat,pV l (pq l d) l.length+pB l (pq l d) l.length+2*G=pE l (pq l d) l.length+2:=by
 have hpf:=sgL_pf h
 have hn:l.length=2*(l.length / 2):=by omega
 have hq:=part_eqv h he
 obtain ⟨G,hG⟩:=euler_part (P:=fun i=>i < l.length∧part l d i) (p:=d) hpf hn
  (fun i hi=>⟨fun ⟨_,r⟩=>⟨hi,hq.trans _ _ _ hd (hpf.lt i hi) hi r (hq.symm _ _ hi (hpf.lt i hi) (gk_sig hpf i _))⟩,fun ⟨_,r⟩=>⟨hpf.lt i hi,hq.trans _ _ _ hd hi (hpf.lt i hi) r (gk_sig hpf i _)⟩⟩)
  (fun e hE=>by
    have h2:part l (2*e) (2*e+1):=gk_edge hpf e _ hE
    exact ⟨fun ⟨_,r⟩=>⟨by omega,hq.trans _ _ _ hd (by omega) (by omega) r h2⟩,fun ⟨_,r⟩=>⟨by omega,hq.trans _ _ _ hd (by omega) (by omega) r (hq.symm _ _ (by omega) (by omega) h2)⟩⟩)
  hd (fun i hi=>⟨fun r=>r.2,fun r=>⟨hi,r⟩⟩)
 refine ⟨G,?_⟩
 have e1:pV l (pq l d) l.length=cls (Orb (sgL l)) (fun i=>i < l.length∧part l d i) l.length:=by
  unfold pV num cls
  congr 1
  apply List.filter_congr
  intro i hi
  have hi:i < l.length:=by simpa using hi
  have a1:pq l i=pq l d↔part l d i:=by unfold pq;rw [eq_comm,prt_iff hq hd hi]
  have a2:=leads_least h (show i≤l.length by omega)
  rw [decide_eq_decide]
  exact ⟨fun ⟨x,y⟩=>⟨⟨hi,a1.1 x⟩,a2.1 y⟩,fun ⟨⟨_,x⟩,y⟩=>⟨a1.2 x,a2.2 y⟩⟩
 have e2:pB l (pq l d) l.length=cls (Orb (fk (sgL l) (l.length / 2))) (fun i=>i < l.length∧part l d i) l.length:=by
  unfold pB num cls
  congr 1
  apply List.filter_congr
  intro i hi
  have hi:i < l.length:=by simpa using hi
  have a1:pq l i=pq l d↔part l d i:=by unfold pq;rw [eq_comm,prt_iff hq hd hi]
  have a2:=leads_phi h he hp (show i≤l.length by omega)
  rw [decide_eq_decide]
  exact ⟨fun ⟨x,y⟩=>⟨⟨hi,a1.1 x⟩,a2.1 y⟩,fun ⟨⟨_,x⟩,y⟩=>⟨a1.2 x,a2.2 y⟩⟩
 have e3:∀ k,k≤l.length / 2→pE l (pq l d) (2*k)=edg (fun i=>i < l.length∧part l d i) k:=fun k=>by
  induction k with
  | zero=>intro _;simp [pE,num,edg]
  | succ k ih =>
    intro hk
    have ih':=ih (by omega)
    have a1:pq l (2*k)=pq l d↔part l d (2*k):=by unfold pq;rw [eq_comm,prt_iff hq hd (by omega)]
    have n1:pE l (pq l d) (2*k+1+1)=pE l (pq l d) (2*k+1):=pE_else (.inl (by omega))
    rw [show 2*(k+1)=2*k+1+1 by omega,n1]
    by_cases r:part l d (2*k)
    ·rw [(edg_next _ k).1 ⟨by omega,r⟩,← ih',← a1.2 r,pE_yes (by omega)]
    ·rw [(edg_next _ k).2 (fun x=>r x.2),← ih']
     exact pE_else (.inr fun e=>r (a1.1 e))
 have e4:=e3 (l.length / 2) (Nat.le_refl _)
 rw [← hn] at e4
 rw [e1,e2,e4]
 exact hG
theorem part_has (l:List Nat):∀ k,∀ j,j < pn (part l) k→∃ d,d < k∧Least (part l) d∧pn (part l) d=j:=by
 intro k
 induction k with
 | zero=>intro j hj;have:=pn_le (part l) 0;omega
 | succ k ih =>
   intro j hj
   by_cases H:Least (part l) k
   ·rw [(pn_next (part l) k).1 H] at hj
    by_cases e:j=pn (part l) k
    ·exact ⟨k,by omega,H,e.symm⟩
    ·obtain ⟨d,a,c⟩:=ih j (by omega);exact ⟨d,by omega,c⟩
   ·rw [(pn_next (part l) k).2 H] at hj
    obtain ⟨d,a,c⟩:=ih j hj;exact ⟨d,by omega,c⟩
theorem pG_is (h:Inv l b) (he:l.length%2=0) (hp:Inv (phiL l) (phiB l b)) {j:Nat} (hj:j < pN l) :
  ∃ G:Nat,pG l j=(G:Int)∧pV l j l.length+pB l j l.length+2*G=pE l j l.length+2:=by
 obtain ⟨d,a,H,e⟩:=part_has l l.length j hj
 obtain ⟨G,hG⟩:=part_cls h he hp a
 rw [pq_new h he a H,e] at hG
 refine ⟨G,?_,hG⟩
 unfold pG
 have:num (fun d=>pq l d=j∧Leads (phiL l) d) l.length=pB l j l.length:=rfl
 rw [this,show (2 - (pV l j l.length:Int)+(pE l j l.length:Int) - (pB l j l.length:Int))=2*(G:Int) by omega,Int.mul_tdiv_cancel_left _ (by decide)]
end
end Go.Proofs.YtijbdnhlpbcabaaGreatDoor
namespace Go.Proofs.YtijbdnhlpbcabaaGreatDoor
set_option maxRecDepth 20000
theorem info_part:(Tryz.prog.info? 144).map (fun i=>(i.zero,i.size,i.bytes))=some (some (.agg #[.int .i64 0,.int .i64 0,.int .i64 0,.int .i64 0,.int .i64 0]),5,40):=by kernel_rfl
theorem info_part5:(Tryz.prog.info? 144).map (·.size)=some 5:=by kernel_rfl
section
variable {w:World} {base g n c:Nat} {e:TypeId} {y:List Int}
theorem own_set5 (h:w.ownsRow base e 5 (.slice (some ⟨g,0,none⟩) n c) n (I64 y)) (k:Nat) (v:Int) :
  (w.setCell ⟨g,k,none⟩ (.int .i64 v)).ownsRow base e 5 (.slice (some ⟨g,0,none⟩) n c) n (I64 (y.set k v)):=by
 rw [I64_set];exact (h.stored k _).1
theorem own_cell5 (h:w.ownsRow base e 5 (.slice (some ⟨g,0,none⟩) n c) n (I64 y)) (k:Nat) (hk:k < n*5) :
  w.cell? ⟨g,k,none⟩=some (.int .i64 (y.getD k 0)):=by
 have hl:y.length=n*5:=by have:=h.1;rw [I64_len] at this;omega
 rw [h.cellAt k (by omega),I64_get y k (by omega)]
end
def NewPt (w:World) (p:Nat) (z:List Int) (e:Ending) (w':World):Prop :=
 ∃ A c,e=.returned (.slice A p c)∧p≤c∧c≤maxLen∧w'.ownsRow w.heap.size 144 5 (.slice A p c) p (I64 z)∧Below w.heap.size w w'
theorem NewPt.mk {w w':World} {p:Nat} {z:List Int} {e:Ending} {v:Value} (he:e=.returned v) (h:w'.ownsRow w.heap.size 144 5 v p (I64 z)) (hb:Below w.heap.size w w'):NewPt w p z e w':=by
 obtain ⟨A,c,rfl,h1,h2⟩:=own_form h
 exact ⟨A,c,he,h1,h2,h,hb⟩
noncomputable def pcL (l:List Nat) (i:Nat):Int :=
 if i / 5 < pN l then pc l l.length l.length l.length (pN l) i else if i%5=0 then -1 else if i%5=1 then 1 else if i%5=3 then 1 else 0
noncomputable def partsC (l:List Nat) (c:Nat):List Int:=(List.range (5*c)).map (pcL l)
theorem partsC_start (l:List Nat):pRow l (pN l) l.length l.length l.length (pN l)=partsC l (pN l):=by
 unfold pRow partsC
 apply List.map_congr_left
 intro i hi
 have hi:i < 5*pN l:=by simpa using hi
 unfold pcL
 rw [if_pos (by omega)]
theorem partsC_lone (l:List Nat) (c:Nat) (h:pN l≤c):partsC l c++[-1,1,0,1,0]=partsC l (c+1):=by
 unfold partsC
 rw [range_five]
 have e:∀ f,f < 5→pcL l (5*c+f)=if f=0 then -1 else if f=1 then 1 else if f=3 then 1 else 0:=fun f hf=>by
  unfold pcL
  rw [if_neg (by omega),show (5*c+f)%5=f by omega]
 have e0:=e 0 (by omega)
 rw [Nat.add_zero] at e0
 rw [e0,e 1 (by omega),e 2 (by omega),e 3 (by omega),e 4 (by omega)]
 simp
theorem partsC_get (l:List Nat) (c j f:Nat) (hj:j < c) (hf:f < 5):(partsC l c).getD (5*j+f) 0=pcL l (5*j+f):=map_rangeI _ _ _ (by omega)
end Go.Proofs.YtijbdnhlpbcabaaGreatDoor
