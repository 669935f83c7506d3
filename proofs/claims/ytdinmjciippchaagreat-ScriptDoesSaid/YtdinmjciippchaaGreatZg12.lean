/- treeOf. -/
import Derived.Test.YtdinmjciippchaaGreatZg11
import Derived.Laws.CopyOwn
import Derived.Deep.RegionHeld3
import Derived.Test.YtdinmjciippchaaGreatZg10
import Derived.Test.YtdinmjciippchaaGreatZg1
import Derived.Laws.BytesArg
import Derived.ArgAppend
import Derived.RegionTactic
import Derived.Deep.QuietTactic
import Derived.BigQuiet
import Derived.Deep.RegionWith
open Go.RowKit
set_option linter.unusedVariables false
namespace Go.Proofs.YtdinmjciippchaaGreat
set_option maxRecDepth 20000


def exc (V i:Nat):Int:=2*((pop V i:Nat):Int) - (i:Int)
theorem exc_next (V i:Nat):exc V (i+1)=exc V i+(2*((V / 2 ^ i%2:Nat):Int) - 1):=by
 unfold exc
 have h:pop V (i+1)=pop V i+V / 2 ^ i%2:=by
  rw [pop_add]
  congr 1
  simp [pop,numL,List.range_succ]
 omega
theorem exc_Exc (V:Nat):Exc (exc V):=⟨by unfold exc;simp [pop,numL],fun i=>by have:=exc_next V i;omega⟩
section
variable (p g V n q:Nat) (d:Bool) (w:World)
end

set_option maxRecDepth 100000
section
variable (p g V n q:Nat) (d:Bool) (w:World)
end

section
variable (p g V n q:Nat) (w:World)
end
section
variable (p g V n q:Nat) (d:Bool) (w:World)
end
section
variable {w0 w w':World} {m gx p0 g0 p1 g1 q:Nat} {ks:List Nat}
end




def Kd (x:Int):Prop:=0≤x∧x < 4
instance (x:Int):Decidable (Kd x):=by unfold Kd;exact inferInstance
section
variable {w0 w:World} {m gx p0 g0 p1 g1 q:Nat} {ks:List Nat}
def MateAt (ks:List Nat) (i p:Nat):Prop:=p < ks.length∧ks.getD p 0 / 2=ks.getD i 0 / 2∧MateOK (exc (val (ownL (ks.getD i 0 / 2) ks))) (ah (ks.getD i 0 / 2) ks i) ((ah (ks.getD i 0 / 2) ks p:Nat):Int)
end
section
variable {w0 w:World} {m gx p0 g0 p1 g1 q:Nat} {ks:List Nat}
end


theorem exc_list {l:List Nat} (hb:Bin l) (i:Nat):exc (val l) (i+1)=exc (val l) i+(2*((l.getD i 0:Nat):Int) - 1):=by
 rw [exc_next,val_bit hb]
theorem exc_snoc {l:List Nat} (hb:Bin l) {b:Nat} (h2:b < 2):∀ k,k≤l.length→exc (val (l++[b])) k=exc (val l) k:=by
 have hb':Bin (l++[b]):=hb.append fun x hx=>by simp at hx;omega
 intro k
 induction k with
 | zero=>intro _;rw [(exc_Exc _).zero,(exc_Exc _).zero]
 | succ k ih =>
   intro hk
   rw [exc_list hb',exc_list hb,ih (by omega),List.getD_eq_getElem?_getD,List.getElem?_append_left (by omega),← List.getD_eq_getElem?_getD]
theorem exc_snoc1 {l:List Nat} (hb:Bin l) {b:Nat} (h2:b < 2):exc (val (l++[b])) (l.length+1)=exc (val l) l.length+(2*(b:Int) - 1):=by
 have hb':Bin (l++[b]):=hb.append fun x hx=>by simp at hx;omega
 rw [exc_list hb',exc_snoc hb h2 _ (Nat.le_refl _),List.getD_eq_getElem?_getD,List.getElem?_append_right (Nat.le_refl _),Nat.sub_self]
 rfl
structure Sofar (l:List Nat) (N o:Nat):Prop where
 bin:Bin l
 len:l.length=N
 open_:exc (val l) N=(o:Int)
 up:∀ k,k≤N→0≤exc (val l) k
theorem Sofar.nil:Sofar [] 0 0:=⟨Bin.nil,rfl,(exc_Exc _).zero,fun k hk=>by obtain rfl:k=0:=by omega
                                                                           rw [(exc_Exc _).zero];exact Int.le_refl _⟩
theorem Sofar.push {l:List Nat} {N o:Nat} (h:Sofar l N o):Sofar (l++[1]) (N+1) (o+1):=by
 have e:=exc_snoc1 h.bin (b:=1) (by omega)
 rw [h.len,h.open_] at e
 refine ⟨h.bin.append fun x hx=>by simp at hx;omega,by rw [List.length_append,h.len];rfl,by rw [e];omega,fun k hk=>?_⟩
 by_cases hk1:k=N+1
 ·rw [hk1,e];omega
 ·rw [exc_snoc h.bin (by omega) k (by rw [h.len];omega)];exact h.up k (by omega)
theorem Sofar.pop {l:List Nat} {N o:Nat} (h:Sofar l N (o+1)):Sofar (l++[0]) (N+1) o:=by
 have e:=exc_snoc1 h.bin (b:=0) (by omega)
 rw [h.len,h.open_] at e
 refine ⟨h.bin.append fun x hx=>by simp at hx;omega,by rw [List.length_append,h.len];rfl,by rw [e];omega,fun k hk=>?_⟩
 by_cases hk1:k=N+1
 ·rw [hk1,e];omega
 ·rw [exc_snoc h.bin (by omega) k (by rw [h.len];omega)];exact h.up k (by omega)
def atN (s:Nat) (ks:List Nat):Nat→List Nat
 | 0=>[]
 | j+1=>if ks.getD j 0 / 2=s then atN s ks j++[j] else atN s ks j
theorem atN_len (s:Nat) (ks:List Nat):∀ j,j≤ks.length→(atN s ks j).length=ah s ks j
 | 0,_=>by rw [ah_zero];rfl
 | j+1,h=>by
   have:=atN_len s ks j (by omega)
   rw [ah_next s ks j (by omega),atN]
   split
   ·rw [List.length_append,this];rfl
   ·rw [this];rfl
theorem atN_get (s:Nat) (ks:List Nat) (i:Nat) (hs:ks.getD i 0 / 2=s):∀ j,i < j→j≤ks.length→(atN s ks j).getD (ah s ks i) 0=i
 | 0,h,_=>by omega
 | j+1,h,hj=>by
   have hl:=atN_len s ks j (by omega)
   by_cases e:i=j
   ·subst e
    rw [atN,if_pos hs,List.getD_eq_getElem?_getD,List.getElem?_append_right (by omega),hl];simp
   ·have ih:=atN_get s ks i hs j (by omega) (by omega)
    have hm:=ah_mono s ks (i+1) (j - (i+1)) (by omega)
    rw [show i+1+(j - (i+1))=j by omega,ah_next s ks i (by omega),if_pos hs] at hm
    rw [atN]
    split
    ·rw [List.getD_eq_getElem?_getD,List.getElem?_append_left (by omega),← List.getD_eq_getElem?_getD];exact ih
    ·exact ih
def SortP (w:World) (s:Nat) (ks:List Nat) (e:Ending) (w':World):Prop :=
 ∃ A1 c1 A2 c2,e=.returned (.tuple #[.slice A1 (ownL s ks).length c1,.slice A2 (ownL s ks).length c2])∧w'.ownsRow w.heap.size 3 1 (.slice A1 (ownL s ks).length c1) (ownL s ks).length (I64 (ofNB (ownL s ks)))∧w'.ownsRow w.heap.size 3 1 (.slice A2 (ownL s ks).length c2) (ownL s ks).length (I64 (ofNB (atN s ks ks.length)))∧Below w.heap.size w w'
structure SSt4 (w:World) (s:Nat) (ks:List Nat) (A1:Option Addr) (c1:Nat) (A2:Option Addr) (c2 y j:Nat) (W:World):Prop where
 hy:y=ah s ks j
 o1:W.ownsRow w.heap.size 3 1 (.slice A1 y c1) y (I64 (ofNB (ownL s (ks.take j))))
 o2:W.ownsRow w.heap.size 3 1 (.slice A2 y c2) y (I64 (ofNB (atN s ks j)))
 dj:∀ k,(Value.slice A1 y c1).ownBlock=some k→(Value.slice A2 y c2).ownBlock≠some k
 be:Below w.heap.size w W
set_option maxHeartbeats 8000000 in
theorem sort_p (A:Option Addr) (n c s:Nat) (ks:List Nat) (w:World) (h:Rd w w.heap.size A n (I64 (ofNB ks))) (hk:Kds ks) (hs:s < 2) (hn:n≤100000) :
  Calls Tryz.prog 101 #[.slice A n c,.int .i64 (s:Int)] w (SortP w s ks):=by
 obtain ⟨i0,hi0,hz0,hz1,hz2⟩:=info_parts info_int
 have HL:Hid (ks.length=n):=by have:=h.len;rw [I64_len,ofN_lenB] at this;exact this
 have H:=Lib.hid h
 have HK:=Lib.hid hk
 have S0:Hid (SSt4 w s ks none 0 none 0 0 0 w):=⟨(ah_zero s ks).symm,World.ownsRow_nil _ _ _ _,World.ownsRow_nil _ _ _ _,fun k hk=>by simp [Value.ownBlock] at hk,Below.refl _ _⟩
 clear h hk
 go_enter Tryz.func101,Tryz.ntmps101
 go_wp2_with fail
 go_loopw [6,7,12] (fun u v i wr=>∃ (j y c1 c2:Nat) (A1 A2:Option Addr),j≤n∧y≤j∧i=.int .i64 (j:Int)∧u=.slice A1 y c1∧v=.slice A2 y c2∧Hid (SSt4 w s ks A1 c1 A2 c2 y j wr)) (fun _ _ i _=>n - (intOf i).toNat)
 case atStart=>exact ⟨0,0,0,0,none,none,by omega,by omega,rfl,rfl,rfl,S0⟩
 case round =>
  clear S0
  obtain ⟨j,y,c1,c2,A1,A2,hj,hyj,rfl,rfl,rfl,HS⟩:=hrel
  by_cases hlt:j < n
  ·obtain ⟨bb,o,rfl,_,kk⟩:=(H.out.below HS.out.be).i64 (by omega)
   have x0:=kk j hlt
   rw [ofN_getB] at x0
   have hk4:=HK.out.getD j
   have NA:Hid (ah s ks (j+1)=ah s ks j+if ks.getD j 0 / 2=s then 1 else 0):=ah_next s ks j (by rw [HL.out];exact hlt)
   have NO:Hid (ownL s (ks.take (j+1))=ownL s (ks.take j)++if ks.getD j 0 / 2=s then [1 - ks.getD j 0%2] else []):=by
    show _=_
    rw [take_snoc ks j (by rw [HL.out];exact hlt),ownL_app,ownL_one]
   have NT:Hid (atN s ks (j+1)=if ks.getD j 0 / 2=s then atN s ks j++[j] else atN s ks j):=rfl
   obtain ⟨k,hkd⟩:∃ k,k=ks.getD j 0:=⟨_,rfl⟩
   rw [← hkd] at x0 hk4 NA NO NT
   have d1:(k:Int).tdiv 2=((k / 2:Nat):Int):=by rw [Int.tdiv_eq_ediv_of_nonneg (by omega)];omega
   have d2:(k:Int) / 2=((k / 2:Nat):Int):=by omega
   have d3:IntKind.i64.wrap ((k / 2:Nat):Int)=((k / 2:Nat):Int):=by rw [IntKind.wrap_i64];omega
   have m1:(k:Int).tmod 2=((k%2:Nat):Int):=by rw [Int.tmod_eq_emod_of_nonneg (by omega)];omega
   have m3:IntKind.i64.wrap ((k%2:Nat):Int)=((k%2:Nat):Int):=by rw [IntKind.wrap_i64];omega
   have m2:(1:Int) - ((k%2:Nat):Int)=((1 - k%2:Nat):Int):=by omega
   have m4:IntKind.i64.wrap ((1 - k%2:Nat):Int)=((1 - k%2:Nat):Int):=by rw [IntKind.wrap_i64];omega
   have hm9:1 - k%2≤1:=by omega
   generalize 1 - k%2=b at *
   generalize k%2=r at *
   generalize k / 2=q at *
   clear kk hkd
   by_cases hq:q=s
   ·subst hq
    rw [if_pos rfl] at NA NO NT
    obtain ⟨hy,o1,o2,dj,be⟩:=HS.out
    have t2:y+1≤maxLen:=by simp only [maxLen];omega
    have t3:(y+1)*8≤140737488355328:=by omega
    obtain ⟨wx,hwx⟩:∃ wx,wr=wx:=⟨_,rfl⟩
    subst hwx
    have hown3:=o1.alloc (.cells #[.int .i64 (b:Int)] 3)
    have r3:=Rd.new wr 3 #[.int .i64 (b:Int)] 1 (I64 [(b:Int)]) (by simp [I64]) (by simp)
    have t4:w.heap.size≤(wr.alloc (.cells #[.int .i64 (b:Int)] 3)).heap.size:=by have:=be.size;simp;omega
    have HX:=Lib.hid (And.intro hy (And.intro o2 (And.intro dj be)))
    clear o2 dj be hy HS
    go_wp2_with (first
     | (at_builtin;go_must (refine wpList_append_rd _ rfl _ _ 26 rfl w.heap.size 3 i0 (.int .i64 0) 8 Tryz.underlying26 hi0 hz0 hz1 hz2 rfl (.slice A1 y c1) y (I64 (ofNB (ownL q (ks.take j)))) rfl hown3 (wr.heap.size+1) (some ⟨wr.heap.size,0,none⟩) 1 1 (I64 [(b:Int)]) rfl r3 (I64_one _) t2 t3 t4 ?_)))
    intro A6 c6 w6 hc6 hm6 hown6 hg6 hb6
    have O6:Hid (w6.ownsRow w.heap.size 3 1 (.slice A6 (y+1) c6) (y+1) (I64 (ofNB (ownL q (ks.take (j+1)))))):=by
     have:=hown6
     rw [← I64_append] at this
     rw [NO.out,ofN_appendB]
     exact this
    have MG:=Mod.ofGrown hg6
    have o26:=own_mod (HX.out.2.1.alloc (.cells #[.int .i64 (b:Int)] 3)) MG (fun g hg e=>HX.out.2.2.1 g e.symm hg)
    have dj6:Hid (∀ k,(Value.slice A6 (y+1) c6).ownBlock=some k→(Value.slice A2 y c2).ownBlock≠some k):=fun k hk=>by
     rcases hb6 with g | g
     ·exact HX.out.2.2.1 k (by rw [← g];exact hk)
     ·intro q2
      have:=(HX.out.2.1.lt k q2).2
      rw [hk] at g
      have q3:=Option.some.inj g
      (try simp at q3)
      omega
    have hb6':=(HX.out.2.2.2.alloc HX.out.2.2.2.size (.cells #[.int .i64 (b:Int)] 3)).trans (Below.appended hown3 hg6 t4)
    have HB6:=Lib.hid hb6'
    have hown3':=o26.alloc (.cells #[.int .i64 (j:Int)] 3)
    have r3':=Rd.new w6 3 #[.int .i64 (j:Int)] 1 (I64 [(j:Int)]) (by simp [I64]) (by simp)
    have t4':w.heap.size≤(w6.alloc (.cells #[.int .i64 (j:Int)] 3)).heap.size:=by have:=hb6'.size;simp;omega
    have HY:=Lib.hid HX.out.1
    clear hown6 hb6' o26 MG hown3 r3 t4 HX hb6 hg6 hc6 hm6 o1
    go_wp2_with (first
     | (at_builtin;go_must (refine wpList_append_rd _ rfl _ _ 26 rfl w.heap.size 3 i0 (.int .i64 0) 8 Tryz.underlying26 hi0 hz0 hz1 hz2 rfl (.slice A2 y c2) y (I64 (ofNB (atN q ks j))) rfl hown3' (w6.heap.size+1) (some ⟨w6.heap.size,0,none⟩) 1 1 (I64 [(j:Int)]) rfl r3' (I64_one _) t2 t3 t4' ?_)))
    intro A7 c7 w7 hc7 hm7 hown7 hg7 hb7
    have O7:Hid (w7.ownsRow w.heap.size 3 1 (.slice A7 (y+1) c7) (y+1) (I64 (ofNB (atN q ks (j+1))))):=by
     have:=hown7
     rw [← I64_append] at this
     rw [NT.out,ofN_appendB]
     exact this
    have MG:=Mod.ofGrown hg7
    have o17:=own_mod (O6.out.alloc (.cells #[.int .i64 (j:Int)] 3)) MG (fun g hg e=>dj6.out g hg e.symm)
    have dj7:∀ k,(Value.slice A6 (y+1) c6).ownBlock=some k→(Value.slice A7 (y+1) c7).ownBlock≠some k:=fun k hk q2=>by
     rcases hb7 with g | g
     ·exact dj6.out k hk (by rw [← g];exact q2)
     ·have:=(O6.out.lt k hk).2
      rw [q2] at g
      have q3:=Option.some.inj g
      (try simp at q3)
      omega
    have hb7':=(HB6.out.alloc HB6.out.size (.cells #[.int .i64 (j:Int)] 3)).trans (Below.appended hown3' hg7 t4')
    have R7:Hid (SSt4 w q ks A6 c6 A7 c7 (y+1) (j+1) w7):=⟨by rw [NA.out,HY.out],o17,O7.out,dj7,hb7'⟩
    clear hown7 MG o17 dj7 hb7' O7 O6 dj6 HB6 HY hown3' r3' t4' hb7 hg7 hc7 hm7
    go_wp2_with fail
    go_roundw
    case rel=>exact ⟨j+1,y+1,c6,c7,A6,A7,by omega,by omega,by go_num,rfl,rfl,R7⟩
    case measure=>simp [intOf];omega
   ·rw [if_neg hq] at NA NO NT
    have R7:Hid (SSt4 w s ks A1 c1 A2 c2 y (j+1) wr):=by
     obtain ⟨hy,o1,o2,dj,be⟩:=HS.out
     exact ⟨by rw [NA.out,hy];rfl,by rw [NO.out,List.append_nil];exact o1,by rw [NT.out];exact o2,dj,be⟩
    have hqb:((q:Int) == (s:Int))=false:=by rw [beq_eq_false_iff_ne];omega
    clear HS NA NO NT
    go_wp2_with fail
    go_roundw
    case rel=>exact ⟨j+1,y,c1,c2,A1,A2,by omega,by omega,by go_num,rfl,rfl,R7⟩
    case measure=>simp [intOf];omega
  ·obtain rfl:j=n:=by omega
   have HF:Hid (∀ A1 c1 A2 c2,SSt4 w s ks A1 c1 A2 c2 y j wr→y=(ownL s ks).length∧SortP w s ks (.returned (.tuple #[.slice A1 y c1,.slice A2 y c2])) wr):=fun A1 c1 A2 c2 h=>by
    obtain ⟨hy,o1,o2,dj,be⟩:=h
    rw [← HL.out,ah_all] at hy
    subst hy
    rw [← HL.out,List.take_length] at o1
    rw [← HL.out] at o2
    exact ⟨rfl,A1,c1,A2,c2,rfl,o1,o2,be⟩
   go_wp2_with fail
   go_ret2
   exact (HF.out _ _ _ _ HS.out).2
theorem step_of {ks:List Nat} {i:Nat} (hi:i < ks.length) (hs:ks.getD i 0 / 2=0):exc (val (ownL 0 ks)) (ah 0 ks i+1)=exc (val (ownL 0 ks)) (ah 0 ks i)+(2*((1 - ks.getD i 0%2:Nat):Int) - 1):=by
 rw [exc_list (ownL_bin 0 ks),ownL_get 0 ks i hi hs]
structure OStk (ks:List Nat) (i:Nat) (S:List Nat):Prop where
 st:Stack (exc (val (ownL 0 ks))) (ah 0 ks i) (S.map (ah 0 ks))
 sp:∀ p∈S,p < i∧ks.getD p 0 / 2=0
theorem OStk.nil (ks:List Nat):OStk ks 0 []:=⟨by rw [ah_zero];exact Stack.nil (exc_Exc _),fun p h=>by simp at h⟩
theorem OStk.push {ks:List Nat} {i:Nat} {S:List Nat} (h:OStk ks i S) (hi:i < ks.length) (hk:ks.getD i 0=0):OStk ks (i+1) (S++[i]):=by
 have hst:=step_of hi (by omega:ks.getD i 0 / 2=0)
 rw [hk] at hst
 refine ⟨?_,fun p hp=>?_⟩
 ·rw [ah_next 0 ks i hi,if_pos (by omega),List.map_append]
  exact h.st.push (by rw [hst];rfl)
 ·rcases List.mem_append.1 hp with q | q
  ·have:=h.sp p q;exact ⟨by omega,this.2⟩
  ·simp at q;subst q;exact ⟨by omega,by omega⟩
theorem OStk.pop {ks:List Nat} {i:Nat} {S:List Nat} (h:OStk ks i S) (hB:Bal (exc (val (ownL 0 ks))) (ownL 0 ks).length) (hi:i < ks.length) (hk:ks.getD i 0=1):0 < S.length∧OStk ks (i+1) (S.take (S.length - 1)):=by
 have hs0:ks.getD i 0 / 2=0:=by omega
 have hst:=step_of hi hs0
 rw [hk] at hst
 have hst':exc (val (ownL 0 ks)) (ah 0 ks i+1)=exc (val (ownL 0 ks)) (ah 0 ks i) - 1:=by rw [hst];omega
 have hlt:=ah_lt 0 ks i hi hs0
 have h1:=hB.1 (ah 0 ks i+1) (by omega)
 have h2:=h.st.1
 rw [List.length_map] at h2
 have h0:0 < S.length:=by omega
 refine ⟨h0,?_,fun p hp=>?_⟩
 ·rw [ah_next 0 ks i hi,if_pos hs0,List.map_take]
  have:=(h.st.pop hst' (by rw [List.length_map];exact h0)).1
  rw [List.length_map] at this
  exact this
 ·have:=h.sp p (List.mem_of_mem_take hp);exact ⟨by omega,this.2⟩
theorem OStk.skip {ks:List Nat} {i:Nat} {S:List Nat} (h:OStk ks i S) (hi:i < ks.length) (hk:ks.getD i 0 / 2≠0):OStk ks (i+1) S :=
 ⟨by rw [ah_next 0 ks i hi,if_neg hk];exact h.st,fun p hp=>by have:=h.sp p hp;exact ⟨by omega,this.2⟩⟩
def MatI (ks:List Nat) (p:Nat) (v:Int):Prop:=∃ q:Nat,v=(q:Int)∧MateAt ks p q
theorem mate_lt (l:List Nat) (x:Int) (hB:Bal (exc (val l)) l.length) (y:Nat) (hy:y < l.length) (hm:MateOK (exc (val l)) y x):∃ z:Nat,x=(z:Int)∧z < l.length:=by
 obtain ⟨z,rfl,hp⟩:=hm
 refine ⟨z,rfl,?_⟩
 rcases hp with hp | hp
 ·have hj:=fwd_ex hB hy (m:=exc (val l) y) (hB.1 y (by omega))
  obtain ⟨j,hj⟩:=hj
  have:=(hj.pair (exc_Exc _) (hp.opens (exc_Exc _))).uniq hp
  have:=hj.le
  have:=hj.lt
  omega
 ·have:=hp.lt;omega
theorem matI_of {ks:List Nat} {s i:Nat} (hi:i < ks.length) (hs:ks.getD i 0 / 2=s) (hB:Bal (exc (val (ownL s ks))) (ownL s ks).length) {x:Int} (hm:MateOK (exc (val (ownL s ks))) (ah s ks i) x) :
  ∃ z:Nat,x=(z:Int)∧z < (ownL s ks).length∧MatI ks i (((atN s ks ks.length).getD z 0:Nat):Int):=by
 obtain ⟨z,rfl,hz⟩:=mate_lt _ _ hB _ (ah_lt s ks i hi hs) hm
 obtain ⟨p,hp,hps,hpa⟩:=ah_find s ks z hz
 have:=atN_get s ks p hps ks.length hp (Nat.le_refl _)
 rw [hpa] at this
 refine ⟨z,rfl,hz,p,by rw [this],hp,by rw [hps,hs],?_⟩
 rw [hs,hpa];exact hm
theorem atN_back {ks:List Nat} {s y:Nat} (hy:y < (ownL s ks).length):∃ p,p < ks.length∧ks.getD p 0 / 2=s∧ah s ks p=y∧(atN s ks ks.length).getD y 0=p:=by
 obtain ⟨p,hp,hps,hpa⟩:=ah_find s ks y hy
 have:=atN_get s ks p hps ks.length hp (Nat.le_refl _)
 rw [hpa] at this
 exact ⟨p,hp,hps,hpa,this⟩
structure Sof4 (ks:List Nat) (N r e:Nat):Prop where
 kd:Kds ks
 len:ks.length=N
 s0:Sofar (ownL 0 ks) (ownL 0 ks).length r
 s1:Sofar (ownL 1 ks) (ownL 1 ks).length e
theorem Sof4.nil:Sof4 [] 0 0 0:=⟨fun k h=>by simp at h,rfl,Sofar.nil,Sofar.nil⟩
theorem kds_snoc {ks:List Nat} (h:Kds ks) {x:Nat} (hx:x < 4):Kds (ks++[x]):=h.append fun k hk=>by simp at hk;omega
theorem Sof4.add0 {ks:List Nat} {N r e:Nat} (h:Sof4 ks N r e):Sof4 (ks++[0]) (N+1) (r+1) e:=by
 refine ⟨kds_snoc h.kd (by omega),by rw [List.length_append,h.len];rfl,?_,?_⟩
 ·rw [ownL_app,ownL_one,if_pos (by decide),List.length_append];exact h.s0.push
 ·rw [ownL_app,ownL_one,if_neg (by decide),List.append_nil];exact h.s1
theorem Sof4.add2 {ks:List Nat} {N r e:Nat} (h:Sof4 ks N r e):Sof4 (ks++[2]) (N+1) r (e+1):=by
 refine ⟨kds_snoc h.kd (by omega),by rw [List.length_append,h.len];rfl,?_,?_⟩
 ·rw [ownL_app,ownL_one,if_neg (by decide),List.append_nil];exact h.s0
 ·rw [ownL_app,ownL_one,if_pos (by decide),List.length_append];exact h.s1.push
theorem Sof4.add1 {ks:List Nat} {N r e:Nat} (h:Sof4 ks N (r+1) e):Sof4 (ks++[1]) (N+1) r e:=by
 refine ⟨kds_snoc h.kd (by omega),by rw [List.length_append,h.len];rfl,?_,?_⟩
 ·rw [ownL_app,ownL_one,if_pos (by decide),List.length_append];exact h.s0.pop
 ·rw [ownL_app,ownL_one,if_neg (by decide),List.append_nil];exact h.s1
theorem Sof4.add3 {ks:List Nat} {N r e:Nat} (h:Sof4 ks N r (e+1)):Sof4 (ks++[3]) (N+1) r e:=by
 refine ⟨kds_snoc h.kd (by omega),by rw [List.length_append,h.len];rfl,?_,?_⟩
 ·rw [ownL_app,ownL_one,if_neg (by decide),List.append_nil];exact h.s0
 ·rw [ownL_app,ownL_one,if_pos (by decide),List.length_append];exact h.s1.pop
theorem Sof4.bal {ks:List Nat} {N:Nat} (h:Sof4 ks N 0 0):Bal (exc (val (ownL 0 ks))) (ownL 0 ks).length∧Bal (exc (val (ownL 1 ks))) (ownL 1 ks).length :=
 ⟨⟨h.s0.up,h.s0.open_⟩,⟨h.s1.up,h.s1.open_⟩⟩
end Go.Proofs.YtdinmjciippchaaGreat
