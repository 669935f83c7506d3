/- The document's Good; ParenIs. -/
import Derived.Test.YtijbdnhlpbcabaaGreatDoorZg13
import Derived.Deep.QuietTactic
import Derived.BigQuiet
import Derived.Test.YtijbdnhlpbcabaaGreatDoorZg5
import Derived.Test.YtijbdnhlpbcabaaGreatDoorZg1
import Derived.Test.YtijbdnhlpbcabaaGreatDoorZg10
open Go.RowKit
set_option linter.unusedVariables false
namespace Go.Proofs.YtijbdnhlpbcabaaGreatDoor
set_option maxRecDepth 20000
theorem exc_list {l:List Nat} (hb:Bin l) (i:Nat):exc (val l) (i+1)=exc (val l) i+(2*((l.getD i 0:Nat):Int) - 1):=by
 rw [exc_next,val_bit hb]
def GoodP (w:World) (l:List Nat) (m:Nat) (e:Ending) (w':World):Prop:=w=w'∧∃ r:Bool,e=.returned (.bool r)∧(r=true↔Bal (exc (val l)) m)
theorem GoodP.no {w:World} {l:List Nat} {m:Nat} {e:Ending} (he:e=.returned (.bool false)) (h:¬ Bal (exc (val l)) m):GoodP w l m e w:=⟨rfl,false,he,by simp [h]⟩
theorem GoodP.yes {w:World} {l:List Nat} {m:Nat} {e:Ending} (he:e=.returned (.bool true)) (h:Bal (exc (val l)) m):GoodP w l m e w:=⟨rfl,true,he,by simp [h]⟩
set_option maxHeartbeats 4000000 in
theorem good_p (A:Option Addr) (m c B:Nat) (l:List Nat) (w:World) (hr:Rd w B A m (I64 (ofNB l))) (hb:Bin l) (hm:m≤1000000) :
  Calls Tryz.prog 110 #[.slice A m c] w (GoodP w l m):=by
 have HR:=Lib.hid hr
 have HBN:=Lib.hid hb
 have HE:=Lib.hid (exc_Exc (val l))
 have HX:=Lib.hid (fun i=>exc_list hb i)
 clear hr hb
 go_enter Tryz.func110,Tryz.ntmps110
 go_wp2_with fail
 go_loop [3,8] (fun z x=>∃ (i:Nat) (y:Int),x=.int .i64 (i:Int)∧z=.int .i64 y∧i≤m∧-1000000≤y∧y≤1000000∧Hid (exc (val l) i=y)∧Hid (∀ k,k≤i→0≤exc (val l) k)) (fun _ x=>m - (intOf x).toNat)
 case atStart=>exact ⟨0,0,rfl,rfl,by omega,by omega,by omega,HE.out.zero,fun k hk=>by obtain rfl:k=0:=by omega
                                                                                      rw [HE.out.zero];exact Int.le_refl _⟩
 case round =>
  obtain ⟨i,y,rfl,rfl,hi,hy1,hy2,hy,hab⟩:=hrel
  by_cases hlt:i < m
  ·obtain ⟨b',o,e,_,k1⟩:=HR.out.i64 (by omega)
   subst e
   have t1:=k1 i hlt
   rw [ofN_getB] at t1
   have hx:=HX.out i
   have hb2:=HBN.out.getD i
   have hbd:=HE.out.bound (i+1)
   rw [hx,hy.out] at hbd
   rw [hy.out] at hx
   clear k1
   generalize l.getD i 0=b at *
   have HXI:=Lib.hid hx
   clear hx
   by_cases hb1:b=1
   ·subst hb1
    have t2:w.cell? ⟨b',o+i,none⟩=some (.int .i64 1):=t1
    have HS:Hid (exc (val l) (i+1)=y+1):=by show _=_;rw [HXI.out];rfl
    clear t1
    by_cases hneg:y+1 < 0
    ·have NB:Hid (¬ Bal (exc (val l)) m):=fun hB=>by have:=hB.1 (i+1) (by omega);rw [HS.out] at this;omega
     go_wp2_with fail
     go_ret
     exact GoodP.no rfl NB.out
    ·have hd:decide (y+1 < 0)=false:=decide_eq_false hneg
     have HAB:Hid (∀ k,k≤i+1→0≤exc (val l) k):=fun k hk=>by
      by_cases e:k=i+1
      ·rw [e,HS.out];omega
      ·exact hab.out k (by omega)
     clear hneg
     go_wp2_with fail
     go_round
     case rel=>exact ⟨i+1,y+1,by go_num,rfl,by omega,by omega,by omega,HS.out,HAB.out⟩
     case measure=>simp [intOf];omega
   ·obtain rfl:b=0:=by omega
    have t2:w.cell? ⟨b',o+i,none⟩=some (.int .i64 0):=t1
    have HS:Hid (exc (val l) (i+1)=y - 1):=by show _=_;rw [HXI.out];show y+(2*0 - 1)=y - 1;omega
    clear t1 hb1
    by_cases hneg:y - 1 < 0
    ·have NB:Hid (¬ Bal (exc (val l)) m):=fun hB=>by have:=hB.1 (i+1) (by omega);rw [HS.out] at this;omega
     go_wp2_with fail
     go_ret
     exact GoodP.no rfl NB.out
    ·have hd:decide (y - 1 < 0)=false:=decide_eq_false hneg
     have HAB:Hid (∀ k,k≤i+1→0≤exc (val l) k):=fun k hk=>by
      by_cases e:k=i+1
      ·rw [e,HS.out];omega
      ·exact hab.out k (by omega)
     go_wp2_with fail
     go_round
     case rel=>exact ⟨i+1,y - 1,by go_num,rfl,by omega,by omega,by omega,HS.out,HAB.out⟩
     case measure=>simp [intOf];omega
  ·obtain rfl:i=m:=by omega
   by_cases hy0:y=0
   ·have YB:Hid (Bal (exc (val l)) i):=⟨hab.out,by rw [hy.out,hy0]⟩
    subst hy0
    go_wp2_with fail
    go_ret
    exact GoodP.yes rfl YB.out
   ·have NB:Hid (¬ Bal (exc (val l)) i):=fun hB=>hy0 (by rw [← hy.out];exact hB.2)
    have g0:(y == 0)=false:=by rw [beq_eq_false_iff_ne];exact hy0
    clear hy0
    go_wp2_with fail
    go_ret
    exact GoodP.no rfl NB.out
theorem exc_snoc {l:List Nat} (hb:Bin l) {b:Nat} (h2:b < 2):∀ k,k≤l.length→exc (val (l++[b])) k=exc (val l) k:=by
 have hb':Bin (l++[b]):=hb.append fun x hx=>by simp at hx;omega
 intro k
 induction k with
 | zero=>intro _;rw [(exc_Exc _).zero,(exc_Exc _).zero]
 | succ k ih =>
   intro hk
   rw [exc_list hb',exc_list hb,ih (by omega),List.getD_eq_getElem?_getD,List.getElem?_append_left (by omega),← List.getD_eq_getElem?_getD]
theorem exc_snoc1 {l:List Nat} (hb:Bin l) {b:Nat} (h2:b < 2):exc (val (l++[b])) (l.length+1)=exc (val l) l.length+(2*(b:Int) - 1):=by
 have hb':Bin (l++[b]):=hb.append fun x hx=>by simp at hx;omega
 rw [exc_list hb',exc_snoc hb h2 _ (Nat.le_refl _),List.getD_eq_getElem?_getD,List.getElem?_append_right (Nat.le_refl _),Nat.sub_self]
 rfl
structure Sofar (l:List Nat) (N o:Nat):Prop where
 bin:Bin l
 len:l.length=N
 open_:exc (val l) N=(o:Int)
 up:∀ k,k≤N→0≤exc (val l) k
theorem Sofar.nil:Sofar [] 0 0:=⟨Bin.nil,rfl,(exc_Exc _).zero,fun k hk=>by obtain rfl:k=0:=by omega
                                                                           rw [(exc_Exc _).zero];exact Int.le_refl _⟩
theorem Sofar.push {l:List Nat} {N o:Nat} (h:Sofar l N o):Sofar (l++[1]) (N+1) (o+1):=by
 have e:=exc_snoc1 h.bin (b:=1) (by omega)
 rw [h.len,h.open_] at e
 refine ⟨h.bin.append fun x hx=>by simp at hx;omega,by rw [List.length_append,h.len];rfl,by rw [e];omega,fun k hk=>?_⟩
 by_cases hk1:k=N+1
 ·rw [hk1,e];omega
 ·rw [exc_snoc h.bin (by omega) k (by rw [h.len];omega)];exact h.up k (by omega)
theorem Sofar.pop {l:List Nat} {N o:Nat} (h:Sofar l N (o+1)):Sofar (l++[0]) (N+1) o:=by
 have e:=exc_snoc1 h.bin (b:=0) (by omega)
 rw [h.len,h.open_] at e
 refine ⟨h.bin.append fun x hx=>by simp at hx;omega,by rw [List.length_append,h.len];rfl,by rw [e];omega,fun k hk=>?_⟩
 by_cases hk1:k=N+1
 ·rw [hk1,e];omega
 ·rw [exc_snoc h.bin (by omega) k (by rw [h.len];omega)];exact h.up k (by omega)
def atN (s:Nat) (ks:List Nat):Nat→List Nat
 | 0=>[]
 | j+1=>if ks.getD j 0 / 2=s then atN s ks j++[j] else atN s ks j
theorem atN_len (s:Nat) (ks:List Nat):∀ j,j≤ks.length→(atN s ks j).length=ah s ks j
 | 0,_=>by rw [ah_zero];rfl
 | j+1,h=>by
   have:=atN_len s ks j (by omega)
   rw [ah_next s ks j (by omega),atN]
   split
   ·rw [List.length_append,this];rfl
   ·rw [this];rfl
theorem atN_get (s:Nat) (ks:List Nat) (i:Nat) (hs:ks.getD i 0 / 2=s):∀ j,i < j→j≤ks.length→(atN s ks j).getD (ah s ks i) 0=i
 | 0,h,_=>by omega
 | j+1,h,hj=>by
   have hl:=atN_len s ks j (by omega)
   by_cases e:i=j
   ·subst e
    rw [atN,if_pos hs,List.getD_eq_getElem?_getD,List.getElem?_append_right (by omega),hl];simp
   ·have ih:=atN_get s ks i hs j (by omega) (by omega)
    have hm:=ah_mono s ks (i+1) (j - (i+1)) (by omega)
    rw [show i+1+(j - (i+1))=j by omega,ah_next s ks i (by omega),if_pos hs] at hm
    rw [atN]
    split
    ·rw [List.getD_eq_getElem?_getD,List.getElem?_append_left (by omega),← List.getD_eq_getElem?_getD];exact ih
    ·exact ih
def SortP (w:World) (s:Nat) (ks:List Nat) (e:Ending) (w':World):Prop :=
 ∃ A1 c1 A2 c2,e=.returned (.tuple #[.slice A1 (ownL s ks).length c1,.slice A2 (ownL s ks).length c2])∧w'.ownsRow w.heap.size 3 1 (.slice A1 (ownL s ks).length c1) (ownL s ks).length (I64 (ofNB (ownL s ks)))∧w'.ownsRow w.heap.size 3 1 (.slice A2 (ownL s ks).length c2) (ownL s ks).length (I64 (ofNB (atN s ks ks.length)))∧Below w.heap.size w w'
structure SSt4 (w:World) (s:Nat) (ks:List Nat) (A1:Option Addr) (c1:Nat) (A2:Option Addr) (c2 y j:Nat) (W:World):Prop where
 hy:y=ah s ks j
 o1:W.ownsRow w.heap.size 3 1 (.slice A1 y c1) y (I64 (ofNB (ownL s (ks.take j))))
 o2:W.ownsRow w.heap.size 3 1 (.slice A2 y c2) y (I64 (ofNB (atN s ks j)))
 dj:∀ k,(Value.slice A1 y c1).ownBlock=some k→(Value.slice A2 y c2).ownBlock≠some k
 be:Below w.heap.size w W
set_option maxHeartbeats 8000000 in
theorem sort_p (A:Option Addr) (n c s:Nat) (ks:List Nat) (w:World) (h:Rd w w.heap.size A n (I64 (ofNB ks))) (hk:Kds ks) (hs:s < 2) (hn:n≤100000) :
  Calls Tryz.prog 109 #[.slice A n c,.int .i64 (s:Int)] w (SortP w s ks):=by
 obtain ⟨i0,hi0,hz0,hz1,hz2⟩:=info_parts info_int
 have HL:Hid (ks.length=n):=by have:=h.len;rw [I64_len,ofN_lenB] at this;exact this
 have H:=Lib.hid h
 have HK:=Lib.hid hk
 have S0:Hid (SSt4 w s ks none 0 none 0 0 0 w):=⟨(ah_zero s ks).symm,World.ownsRow_nil _ _ _ _,World.ownsRow_nil _ _ _ _,fun k hk=>by simp [Value.ownBlock] at hk,Below.refl _ _⟩
 clear h hk
 go_enter Tryz.func109,Tryz.ntmps109
 go_wp2_with fail
 go_loopw [6,7,12] (fun u v i wr=>∃ (j y c1 c2:Nat) (A1 A2:Option Addr),j≤n∧y≤j∧i=.int .i64 (j:Int)∧u=.slice A1 y c1∧v=.slice A2 y c2∧Hid (SSt4 w s ks A1 c1 A2 c2 y j wr)) (fun _ _ i _=>n - (intOf i).toNat)
 case atStart=>exact ⟨0,0,0,0,none,none,by omega,by omega,rfl,rfl,rfl,S0⟩
 case round =>
  clear S0
  obtain ⟨j,y,c1,c2,A1,A2,hj,hyj,rfl,rfl,rfl,HS⟩:=hrel
  by_cases hlt:j < n
  ·obtain ⟨bb,o,rfl,_,kk⟩:=(H.out.below HS.out.be).i64 (by omega)
   have x0:=kk j hlt
   rw [ofN_getB] at x0
   have hk4:=HK.out.getD j
   have NA:Hid (ah s ks (j+1)=ah s ks j+if ks.getD j 0 / 2=s then 1 else 0):=ah_next s ks j (by rw [HL.out];exact hlt)
   have NO:Hid (ownL s (ks.take (j+1))=ownL s (ks.take j)++if ks.getD j 0 / 2=s then [1 - ks.getD j 0%2] else []):=by
    show _=_
    rw [take_snoc ks j (by rw [HL.out];exact hlt),ownL_app,ownL_one]
   have NT:Hid (atN s ks (j+1)=if ks.getD j 0 / 2=s then atN s ks j++[j] else atN s ks j):=rfl
   obtain ⟨k,hkd⟩:∃ k,k=ks.getD j 0:=⟨_,rfl⟩
   rw [← hkd] at x0 hk4 NA NO NT
   have d1:(k:Int).tdiv 2=((k / 2:Nat):Int):=by rw [Int.tdiv_eq_ediv_of_nonneg (by omega)];omega
   have d2:(k:Int) / 2=((k / 2:Nat):Int):=by omega
   have d3:IntKind.i64.wrap ((k / 2:Nat):Int)=((k / 2:Nat):Int):=by rw [IntKind.wrap_i64];omega
   have m1:(k:Int).tmod 2=((k%2:Nat):Int):=by rw [Int.tmod_eq_emod_of_nonneg (by omega)];omega
   have m3:IntKind.i64.wrap ((k%2:Nat):Int)=((k%2:Nat):Int):=by rw [IntKind.wrap_i64];omega
   have m2:(1:Int) - ((k%2:Nat):Int)=((1 - k%2:Nat):Int):=by omega
   have m4:IntKind.i64.wrap ((1 - k%2:Nat):Int)=((1 - k%2:Nat):Int):=by rw [IntKind.wrap_i64];omega
   have hm9:1 - k%2≤1:=by omega
   generalize 1 - k%2=b at *
   generalize k%2=r at *
   generalize k / 2=q at *
   clear kk hkd
   by_cases hq:q=s
   ·subst hq
    rw [if_pos rfl] at NA NO NT
    obtain ⟨hy,o1,o2,dj,be⟩:=HS.out
    have t2:y+1≤maxLen:=by simp only [maxLen];omega
    have t3:(y+1)*8≤140737488355328:=by omega
    obtain ⟨wx,hwx⟩:∃ wx,wr=wx:=⟨_,rfl⟩
    subst hwx
    have hown3:=o1.alloc (.cells #[.int .i64 (b:Int)] 3)
    have r3:=Rd.new wr 3 #[.int .i64 (b:Int)] 1 (I64 [(b:Int)]) (by simp [I64]) (by simp)
    have t4:w.heap.size≤(wr.alloc (.cells #[.int .i64 (b:Int)] 3)).heap.size:=by have:=be.size;simp;omega
    have HX:=Lib.hid (And.intro hy (And.intro o2 (And.intro dj be)))
    clear o2 dj be hy HS
    go_wp2_with (first
     | (at_builtin;go_must (refine wpList_append_rd _ rfl _ _ 25 rfl w.heap.size 3 i0 (.int .i64 0) 8 Tryz.underlying25 hi0 hz0 hz1 hz2 rfl (.slice A1 y c1) y (I64 (ofNB (ownL q (ks.take j)))) rfl hown3 (wr.heap.size+1) (some ⟨wr.heap.size,0,none⟩) 1 1 (I64 [(b:Int)]) rfl r3 (I64_one _) t2 t3 t4 ?_)))
    intro A6 c6 w6 hc6 hm6 hown6 hg6 hb6
    have O6:Hid (w6.ownsRow w.heap.size 3 1 (.slice A6 (y+1) c6) (y+1) (I64 (ofNB (ownL q (ks.take (j+1)))))):=by
     have:=hown6
     rw [← I64_append] at this
     rw [NO.out,ofN_appendB]
     exact this
    have MG:=Mod.ofGrown hg6
    have o26:=own_mod (HX.out.2.1.alloc (.cells #[.int .i64 (b:Int)] 3)) MG (fun g hg e=>HX.out.2.2.1 g e.symm hg)
    have dj6:Hid (∀ k,(Value.slice A6 (y+1) c6).ownBlock=some k→(Value.slice A2 y c2).ownBlock≠some k):=fun k hk=>by
     rcases hb6 with g | g
     ·exact HX.out.2.2.1 k (by rw [← g];exact hk)
     ·intro q2
      have:=(HX.out.2.1.lt k q2).2
      rw [hk] at g
      have q3:=Option.some.inj g
      (try simp at q3)
      omega
    have hb6':=(HX.out.2.2.2.alloc HX.out.2.2.2.size (.cells #[.int .i64 (b:Int)] 3)).trans (Below.appended hown3 hg6 t4)
    have HB6:=Lib.hid hb6'
    have hown3':=o26.alloc (.cells #[.int .i64 (j:Int)] 3)
    have r3':=Rd.new w6 3 #[.int .i64 (j:Int)] 1 (I64 [(j:Int)]) (by simp [I64]) (by simp)
    have t4':w.heap.size≤(w6.alloc (.cells #[.int .i64 (j:Int)] 3)).heap.size:=by have:=hb6'.size;simp;omega
    have HY:=Lib.hid HX.out.1
    clear hown6 hb6' o26 MG hown3 r3 t4 HX hb6 hg6 hc6 hm6 o1
    go_wp2_with (first
     | (at_builtin;go_must (refine wpList_append_rd _ rfl _ _ 25 rfl w.heap.size 3 i0 (.int .i64 0) 8 Tryz.underlying25 hi0 hz0 hz1 hz2 rfl (.slice A2 y c2) y (I64 (ofNB (atN q ks j))) rfl hown3' (w6.heap.size+1) (some ⟨w6.heap.size,0,none⟩) 1 1 (I64 [(j:Int)]) rfl r3' (I64_one _) t2 t3 t4' ?_)))
    intro A7 c7 w7 hc7 hm7 hown7 hg7 hb7
    have O7:Hid (w7.ownsRow w.heap.size 3 1 (.slice A7 (y+1) c7) (y+1) (I64 (ofNB (atN q ks (j+1))))):=by
     have:=hown7
     rw [← I64_append] at this
     rw [NT.out,ofN_appendB]
     exact this
    have MG:=Mod.ofGrown hg7
    have o17:=own_mod (O6.out.alloc (.cells #[.int .i64 (j:Int)] 3)) MG (fun g hg e=>dj6.out g hg e.symm)
    have dj7:∀ k,(Value.slice A6 (y+1) c6).ownBlock=some k→(Value.slice A7 (y+1) c7).ownBlock≠some k:=fun k hk q2=>by
     rcases hb7 with g | g
     ·exact dj6.out k hk (by rw [← g];exact q2)
     ·have:=(O6.out.lt k hk).2
      rw [q2] at g
      have q3:=Option.some.inj g
      (try simp at q3)
      omega
    have hb7':=(HB6.out.alloc HB6.out.size (.cells #[.int .i64 (j:Int)] 3)).trans (Below.appended hown3' hg7 t4')
    have R7:Hid (SSt4 w q ks A6 c6 A7 c7 (y+1) (j+1) w7):=⟨by rw [NA.out,HY.out],o17,O7.out,dj7,hb7'⟩
    clear hown7 MG o17 dj7 hb7' O7 O6 dj6 HB6 HY hown3' r3' t4' hb7 hg7 hc7 hm7
    go_wp2_with fail
    go_roundw
    case rel=>exact ⟨j+1,y+1,c6,c7,A6,A7,by omega,by omega,by go_num,rfl,rfl,R7⟩
    case measure=>simp [intOf];omega
   ·rw [if_neg hq] at NA NO NT
    have R7:Hid (SSt4 w s ks A1 c1 A2 c2 y (j+1) wr):=by
     obtain ⟨hy,o1,o2,dj,be⟩:=HS.out
     exact ⟨by rw [NA.out,hy];rfl,by rw [NO.out,List.append_nil];exact o1,by rw [NT.out];exact o2,dj,be⟩
    have hqb:((q:Int) == (s:Int))=false:=by rw [beq_eq_false_iff_ne];omega
    clear HS NA NO NT
    go_wp2_with fail
    go_roundw
    case rel=>exact ⟨j+1,y,c1,c2,A1,A2,by omega,by omega,by go_num,rfl,rfl,R7⟩
    case measure=>simp [intOf];omega
  ·obtain rfl:j=n:=by omega
   have HF:Hid (∀ A1 c1 A2 c2,SSt4 w s ks A1 c1 A2 c2 y j wr→y=(ownL s ks).length∧SortP w s ks (.returned (.tuple #[.slice A1 y c1,.slice A2 y c2])) wr):=fun A1 c1 A2 c2 h=>by
    obtain ⟨hy,o1,o2,dj,be⟩:=h
    rw [← HL.out,ah_all] at hy
    subst hy
    rw [← HL.out,List.take_length] at o1
    rw [← HL.out] at o2
    exact ⟨rfl,A1,c1,A2,c2,rfl,o1,o2,be⟩
   go_wp2_with fail
   go_ret2
   exact (HF.out _ _ _ _ HS.out).2
def topZ (s:List Nat):Int:=if s.length=0 then -1 else ((s.getD (s.length - 1) 0:Nat):Int)
theorem step_of {ks:List Nat} {i:Nat} (hi:i < ks.length) (hs:ks.getD i 0 / 2=0):exc (val (ownL 0 ks)) (ah 0 ks i+1)=exc (val (ownL 0 ks)) (ah 0 ks i)+(2*((1 - ks.getD i 0%2:Nat):Int) - 1):=by
 rw [exc_list (ownL_bin 0 ks),ownL_get 0 ks i hi hs]
theorem ownZ_stack {ks:List Nat} (h:Kds ks) (hB:Bal (exc (val (ownL 0 ks))) (ownL 0 ks).length) {i:Nat} (hi:i < ks.length) {s:List Nat}
  (hs:Stack (exc (val (ownL 0 ks))) (ah 0 ks i) s):OwnZ ks i (topZ s):=by
 have hE:=exc_Exc (val (ownL 0 ks))
 have hl:=ah_end 0 ks i (by omega)
 unfold OwnZ
 split
 ·rename_i hk
  have hs0:ks.getD i 0 / 2=0:=by omega
  have hst:=step_of hi hs0
  rw [hk] at hst
  have hst':exc (val (ownL 0 ks)) (ah 0 ks i+1)=exc (val (ownL 0 ks)) (ah 0 ks i) - 1:=by rw [hst];omega
  have hlt:=ah_lt 0 ks i hi hs0
  have h1:=hB.1 (ah 0 ks i+1) (by omega)
  have h0:0 < s.length:=by have:=hs.1;omega
  have hp:=(hs.pop hst' h0).2
  unfold topZ
  rw [if_neg (by omega)]
  exact ⟨_,rfl,.inr hp⟩
 split
 ·rename_i h0
  have:=hs.1
  rw [h0,hE.zero] at this
  unfold topZ
  rw [if_pos (by omega)]
 rename_i hk h0
 obtain ⟨y,hy⟩:∃ y,ah 0 ks i=y+1:=⟨ah 0 ks i - 1,by omega⟩
 rw [hy] at hs hl
 rw [hy,Nat.add_sub_cancel]
 have hst:=exc_list (ownL_bin 0 ks) y
 have h1:=hs.1
 have hy0:=hB.1 y (by omega)
 have hy1:=hB.1 (y+1) (by omega)
 have hb:=(ownL_bin 0 ks).getD y
 split
 ·rename_i ho
  rw [ho] at hst
  have hl0:0 < s.length:=by omega
  obtain ⟨a,b,c⟩:=hs.2 (s.length - 1) (by omega)
  unfold topZ
  rw [if_neg (by omega)]
  by_cases e:s.getD (s.length - 1) 0=y
  ·rw [e]
  ·have:=c y (by omega) (by omega)
   omega
 ·rename_i ho
  have ho0:(ownL 0 ks).getD y 0=0:=by omega
  rw [ho0] at hst
  intro a ha
  obtain rfl:a=y+1:=by omega
  unfold topZ
  by_cases e:s.length=0
  ·rw [if_pos e,if_pos (by omega)]
  ·rw [if_neg e,if_neg (by omega)]
   obtain ⟨a,b,c⟩:=hs.2 (s.length - 1) (by omega)
   exact ⟨_,rfl,a,by omega,fun k p q=>by have:=c k p (by omega);omega⟩
theorem map_getD (f:Nat→Nat) (S:List Nat) (j:Nat) (h:j < S.length):(S.map f).getD j 0=f (S.getD j 0):=by
 simp [List.getD_eq_getElem?_getD,h]
structure OStk (ks:List Nat) (i:Nat) (S:List Nat):Prop where
 st:Stack (exc (val (ownL 0 ks))) (ah 0 ks i) (S.map (ah 0 ks))
 sp:∀ p∈S,p < i∧ks.getD p 0 / 2=0
theorem OStk.nil (ks:List Nat):OStk ks 0 []:=⟨by rw [ah_zero];exact Stack.nil (exc_Exc _),fun p h=>by simp at h⟩
def topP (S:List Nat):Int:=if S.length=0 then -1 else ((S.getD (S.length - 1) 0:Nat):Int)
theorem OStk.own {ks:List Nat} {i:Nat} {S:List Nat} (h:OStk ks i S) (hk:Kds ks) (hB:Bal (exc (val (ownL 0 ks))) (ownL 0 ks).length) (hi:i < ks.length):OwnAt ks i (topP S):=by
 refine ⟨_,ownZ_stack hk hB hi h.st,?_⟩
 unfold topZ topP
 rw [List.length_map]
 by_cases e:S.length=0
 ·rw [if_pos e,if_pos e];exact .inl ⟨rfl,rfl⟩
 ·rw [if_neg e,if_neg e,map_getD _ _ _ (by omega)]
  have hm:S.getD (S.length - 1) 0∈S:=by
   rw [List.getD_eq_getElem?_getD,List.getElem?_eq_getElem (by omega)];exact List.getElem_mem _
  obtain ⟨a,b⟩:=h.sp _ hm
  exact .inr ⟨_,rfl,by omega,b,rfl⟩
theorem OStk.push {ks:List Nat} {i:Nat} {S:List Nat} (h:OStk ks i S) (hi:i < ks.length) (hk:ks.getD i 0=0):OStk ks (i+1) (S++[i]):=by
 have hst:=step_of hi (by omega:ks.getD i 0 / 2=0)
 rw [hk] at hst
 refine ⟨?_,fun p hp=>?_⟩
 ·rw [ah_next 0 ks i hi,if_pos (by omega),List.map_append]
  exact h.st.push (by rw [hst];rfl)
 ·rcases List.mem_append.1 hp with q | q
  ·have:=h.sp p q;exact ⟨by omega,this.2⟩
  ·simp at q;subst q;exact ⟨by omega,by omega⟩
theorem OStk.pop {ks:List Nat} {i:Nat} {S:List Nat} (h:OStk ks i S) (hB:Bal (exc (val (ownL 0 ks))) (ownL 0 ks).length) (hi:i < ks.length) (hk:ks.getD i 0=1):0 < S.length∧OStk ks (i+1) (S.take (S.length - 1)):=by
 have hs0:ks.getD i 0 / 2=0:=by omega
 have hst:=step_of hi hs0
 rw [hk] at hst
 have hst':exc (val (ownL 0 ks)) (ah 0 ks i+1)=exc (val (ownL 0 ks)) (ah 0 ks i) - 1:=by rw [hst];omega
 have hlt:=ah_lt 0 ks i hi hs0
 have h1:=hB.1 (ah 0 ks i+1) (by omega)
 have h2:=h.st.1
 rw [List.length_map] at h2
 have h0:0 < S.length:=by omega
 refine ⟨h0,?_,fun p hp=>?_⟩
 ·rw [ah_next 0 ks i hi,if_pos hs0,List.map_take]
  have:=(h.st.pop hst' (by rw [List.length_map];exact h0)).1
  rw [List.length_map] at this
  exact this
 ·have:=h.sp p (List.mem_of_mem_take hp);exact ⟨by omega,this.2⟩
theorem OStk.skip {ks:List Nat} {i:Nat} {S:List Nat} (h:OStk ks i S) (hi:i < ks.length) (hk:ks.getD i 0 / 2≠0):OStk ks (i+1) S :=
 ⟨by rw [ah_next 0 ks i hi,if_neg hk];exact h.st,fun p hp=>by have:=h.sp p hp;exact ⟨by omega,this.2⟩⟩
def MatI (ks:List Nat) (p:Nat) (v:Int):Prop:=∃ q:Nat,v=(q:Int)∧MateAt ks p q
theorem mate_lt (l:List Nat) (x:Int) (hB:Bal (exc (val l)) l.length) (y:Nat) (hy:y < l.length) (hm:MateOK (exc (val l)) y x):∃ z:Nat,x=(z:Int)∧z < l.length:=by
 obtain ⟨z,rfl,hp⟩:=hm
 refine ⟨z,rfl,?_⟩
 rcases hp with hp | hp
 ·have hj:=fwd_ex hB hy (m:=exc (val l) y) (hB.1 y (by omega))
  obtain ⟨j,hj⟩:=hj
  have:=(hj.pair (exc_Exc _) (hp.opens (exc_Exc _))).uniq hp
  have:=hj.le
  have:=hj.lt
  omega
 ·have:=hp.lt;omega
theorem matI_of {ks:List Nat} {s i:Nat} (hi:i < ks.length) (hs:ks.getD i 0 / 2=s) (hB:Bal (exc (val (ownL s ks))) (ownL s ks).length) {x:Int} (hm:MateOK (exc (val (ownL s ks))) (ah s ks i) x) :
  ∃ z:Nat,x=(z:Int)∧z < (ownL s ks).length∧MatI ks i (((atN s ks ks.length).getD z 0:Nat):Int):=by
 obtain ⟨z,rfl,hz⟩:=mate_lt _ _ hB _ (ah_lt s ks i hi hs) hm
 obtain ⟨p,hp,hps,hpa⟩:=ah_find s ks z hz
 have:=atN_get s ks p hps ks.length hp (Nat.le_refl _)
 rw [hpa] at this
 refine ⟨z,rfl,hz,p,by rw [this],hp,by rw [hps,hs],?_⟩
 rw [hs,hpa];exact hm
theorem atN_back {ks:List Nat} {s y:Nat} (hy:y < (ownL s ks).length):∃ p,p < ks.length∧ks.getD p 0 / 2=s∧ah s ks p=y∧(atN s ks ks.length).getD y 0=p:=by
 obtain ⟨p,hp,hps,hpa⟩:=ah_find s ks y hy
 have:=atN_get s ks p hps ks.length hp (Nat.le_refl _)
 rw [hpa] at this
 exact ⟨p,hp,hps,hpa,this⟩
structure Sof4 (ks:List Nat) (N r e:Nat):Prop where
 kd:Kds ks
 len:ks.length=N
 s0:Sofar (ownL 0 ks) (ownL 0 ks).length r
 s1:Sofar (ownL 1 ks) (ownL 1 ks).length e
theorem Sof4.nil:Sof4 [] 0 0 0:=⟨fun k h=>by simp at h,rfl,Sofar.nil,Sofar.nil⟩
theorem kds_snoc {ks:List Nat} (h:Kds ks) {x:Nat} (hx:x < 4):Kds (ks++[x]):=h.append fun k hk=>by simp at hk;omega
theorem Sof4.add0 {ks:List Nat} {N r e:Nat} (h:Sof4 ks N r e):Sof4 (ks++[0]) (N+1) (r+1) e:=by
 refine ⟨kds_snoc h.kd (by omega),by rw [List.length_append,h.len];rfl,?_,?_⟩
 ·rw [ownL_app,ownL_one,if_pos (by decide),List.length_append];exact h.s0.push
 ·rw [ownL_app,ownL_one,if_neg (by decide),List.append_nil];exact h.s1
theorem Sof4.add2 {ks:List Nat} {N r e:Nat} (h:Sof4 ks N r e):Sof4 (ks++[2]) (N+1) r (e+1):=by
 refine ⟨kds_snoc h.kd (by omega),by rw [List.length_append,h.len];rfl,?_,?_⟩
 ·rw [ownL_app,ownL_one,if_neg (by decide),List.append_nil];exact h.s0
 ·rw [ownL_app,ownL_one,if_pos (by decide),List.length_append];exact h.s1.push
theorem Sof4.add1 {ks:List Nat} {N r e:Nat} (h:Sof4 ks N (r+1) e):Sof4 (ks++[1]) (N+1) r e:=by
 refine ⟨kds_snoc h.kd (by omega),by rw [List.length_append,h.len];rfl,?_,?_⟩
 ·rw [ownL_app,ownL_one,if_pos (by decide),List.length_append];exact h.s0.pop
 ·rw [ownL_app,ownL_one,if_neg (by decide),List.append_nil];exact h.s1
theorem Sof4.add3 {ks:List Nat} {N r e:Nat} (h:Sof4 ks N r (e+1)):Sof4 (ks++[3]) (N+1) r e:=by
 refine ⟨kds_snoc h.kd (by omega),by rw [List.length_append,h.len];rfl,?_,?_⟩
 ·rw [ownL_app,ownL_one,if_neg (by decide),List.append_nil];exact h.s0
 ·rw [ownL_app,ownL_one,if_pos (by decide),List.length_append];exact h.s1.pop
structure Prg (ks:List Nat) (tw:Nat→Nat):Prop where
 kd:Kds ks
 lt:∀ j,j < ks.length→tw j < ks.length
 tt:∀ j,j < ks.length→tw (tw j)=j
 ne:∀ j,j < ks.length→tw j≠j
 sort:∀ j,j < ks.length→ks.getD (tw j) 0 / 2=ks.getD j 0 / 2
 opn:∀ j,j < ks.length→(ks.getD j 0%2=0↔j < tw j)
def UA (ks:List Nat) (tw:Nat→Nat) (s x p:Nat):Prop:=ks.getD p 0 / 2=s∧p < tw p∧x≤tw p
instance (ks:List Nat) (tw:Nat→Nat) (s x:Nat):DecidablePred (UA ks tw s x):=fun p=>by unfold UA;exact inferInstance
def UU (ks:List Nat) (tw:Nat→Nat) (s x:Nat):List Nat:=(List.range x).filter fun p=>decide (UA ks tw s x p)
section
variable {ks:List Nat} {tw:Nat→Nat} {s:Nat}
theorem step_s {i:Nat} (hi:i < ks.length) (hs:ks.getD i 0 / 2=s):exc (val (ownL s ks)) (ah s ks i+1)=exc (val (ownL s ks)) (ah s ks i)+(2*((1 - ks.getD i 0%2:Nat):Int) - 1):=by
 rw [exc_list (ownL_bin s ks),ownL_get s ks i hi hs]
theorem filter_same (x:Nat) {A B:Nat→Prop} [DecidablePred A] [DecidablePred B] (h:∀ p,p < x→(A p↔B p)):((List.range x).filter fun p=>decide (A p))=(List.range x).filter fun p=>decide (B p) :=
 List.filter_congr fun p hp=>by rw [decide_eq_decide];exact h p (by simpa using hp)
theorem UU_skip (h:Prg ks tw) {x:Nat} (hx:x < ks.length) (hs:ks.getD x 0 / 2≠s):UU ks tw s (x+1)=UU ks tw s x:=by
 unfold UU
 rw [List.range_succ,List.filter_append,List.filter_cons,if_neg (by rw [decide_eq_true_iff];exact fun a=>hs a.1),List.filter_nil,List.append_nil]
 refine filter_same x fun p hp=>⟨fun ⟨a,b,c⟩=>⟨a,b,by omega⟩,fun ⟨a,b,c⟩=>⟨a,b,?_⟩⟩
 have:tw p≠x:=fun e=>hs (by rw [← e,h.sort p (by omega)];exact a)
 omega
theorem UU_open (h:Prg ks tw) {x:Nat} (hx:x < ks.length) (hs:ks.getD x 0 / 2=s) (ho:x < tw x):UU ks tw s (x+1)=UU ks tw s x++[x]:=by
 unfold UU
 rw [List.range_succ,List.filter_append,List.filter_cons,if_pos (by rw [decide_eq_true_iff];exact ⟨hs,ho,ho⟩),List.filter_nil]
 congr 1
 refine filter_same x fun p hp=>⟨fun ⟨a,b,c⟩=>⟨a,b,by omega⟩,fun ⟨a,b,c⟩=>⟨a,b,?_⟩⟩
 have:tw p≠x:=fun e=>by
  have:=h.tt p (by omega)
  rw [e] at this;omega
 omega
theorem UU_close (h:Prg ks tw) {x:Nat} (hx:x < ks.length) (hs:ks.getD x 0 / 2=s) (hc:tw x < x):(UU ks tw s (x+1)).length+1=(UU ks tw s x).length:=by
 unfold UU
 rw [List.range_succ,List.filter_append,List.filter_cons,if_neg (by rw [decide_eq_true_iff];exact fun a=>by have:=a.2.1;omega),List.filter_nil,List.append_nil]
 have htt:=h.tt x hx
 refine filter_less List.nodup_range (UA ks tw s x) (UA ks tw s (x+1)) (tw x) (by simp;omega) ⟨by rw [h.sort x hx];exact hs,by rw [htt];omega,by rw [htt];exact Nat.le_refl _⟩ fun p hp=>?_
 have hp':p < x:=by simpa using hp
 constructor
 ·rintro ⟨a,b,c⟩
  exact ⟨⟨a,b,by omega⟩,fun e=>by subst e;rw [htt] at c;omega⟩
 ·rintro ⟨⟨a,b,c⟩,d⟩
  refine ⟨a,b,?_⟩
  have:tw p≠x:=fun e=>d (by rw [← e,h.tt p (by omega)])
  omega
theorem exc_UU (h:Prg ks tw):∀ x,x≤ks.length→exc (val (ownL s ks)) (ah s ks x)=((UU ks tw s x).length:Int)
 | 0,_=>by rw [ah_zero,(exc_Exc _).zero];rfl
 | x+1,hx=>by
   have ih:=exc_UU h x (by omega)
   have hk:=h.kd.getD x
   by_cases hs:ks.getD x 0 / 2=s
   ·have hst:=step_s (ks:=ks) (i:=x) (by omega) hs
    rw [ah_next s ks x (by omega),if_pos hs,hst,ih]
    have ho:=h.opn x (by omega)
    by_cases q:x < tw x
    ·rw [UU_open h (by omega) hs q,List.length_append,ho.2 q];simp
    ·have hne:=h.ne x (by omega)
     have:=UU_close h (show x < ks.length by omega) hs (by omega)
     have:¬ ks.getD x 0%2=0:=fun e=>q (ho.1 e)
     rw [show ks.getD x 0%2=1 by omega]
     omega
   ·rw [ah_next s ks x (by omega),if_neg hs,UU_skip h (by omega) hs];exact ih
theorem prg_bal (h:Prg ks tw):Bal (exc (val (ownL s ks))) (ownL s ks).length:=by
 have hend:exc (val (ownL s ks)) (ownL s ks).length=0:=by
  rw [← ah_all s ks,exc_UU h ks.length (Nat.le_refl _)]
  have:UU ks tw s ks.length=[]:=by
   unfold UU
   rw [List.filter_eq_nil_iff]
   intro p hp
   rw [decide_eq_true_iff]
   intro a
   have:=h.lt p (by simpa using hp)
   have:=a.2.2
   omega
  rw [this];rfl
 refine ⟨fun y hy=>?_,hend⟩
 rcases Nat.lt_or_ge y (ownL s ks).length with c | c
 ·obtain ⟨i,hi,_,e⟩:=ah_find s ks y c
  rw [← e,exc_UU h i (by omega)];omega
 ·rw [show y=(ownL s ks).length by omega,hend];exact Int.le_refl _
def NX (ks:List Nat) (tw:Nat→Nat) (s:Nat):Prop:=∀ i k,i < k→k < tw i→tw i < tw k→i < ks.length→k < ks.length→ks.getD i 0 / 2=s→ks.getD k 0 / 2=s→False
theorem range_split {i x:Nat} (h:i < x):List.range x=List.range i++i :: (List.range (x - i - 1)).map (fun t=>i+1+t):=by
 have e:=List.range_add (n:=i+1) (m:=x - i - 1)
 rw [show i+1+(x - i - 1)=x by omega,List.range_succ] at e
 rw [e,List.append_assoc];rfl
theorem UU_last (h:Prg ks tw) (hX:NX ks tw s) {x:Nat} (hx:x < ks.length) (hs:ks.getD x 0 / 2=s) (hc:tw x < x):UU ks tw s x=UU ks tw s (x+1)++[tw x]:=by
 have htt:=h.tt x hx
 have hti:=h.lt x hx
 have hsi:ks.getD (tw x) 0 / 2=s:=by rw [h.sort x hx];exact hs
 have no:∀ y,y=x∨y=x+1→((List.range (x - tw x - 1)).map (fun t=>tw x+1+t)).filter (fun p=>decide (UA ks tw s y p))=[]:=fun y hy=>by
  rw [List.filter_eq_nil_iff]
  intro p hp
  obtain ⟨t,ht,rfl⟩:=List.mem_map.1 hp
  have ht':t < x - tw x - 1:=by simpa using ht
  rw [decide_eq_true_iff]
  rintro ⟨a,b,c⟩
  have hne:tw (tw x+1+t)≠x:=fun e=>by
   have:=h.tt (tw x+1+t) (by omega)
   rw [e] at this;omega
  exact hX (tw x) (tw x+1+t) (by omega) (by rw [htt];omega) (by rw [htt];omega) hti (by omega) hsi a
 have e1:UU ks tw s x=((List.range (tw x)).filter fun p=>decide (UA ks tw s x p))++[tw x]:=by
  unfold UU
  rw [range_split hc,List.filter_append,List.filter_cons,if_pos (by rw [decide_eq_true_iff];exact ⟨hsi,by rw [htt];omega,by rw [htt];exact Nat.le_refl _⟩),no x (.inl rfl)]
 have e2:UU ks tw s (x+1)=((List.range (tw x)).filter fun p=>decide (UA ks tw s x p)):=by
  unfold UU
  rw [List.range_succ,List.filter_append,range_split hc,List.filter_append,List.filter_cons,if_neg (by rw [decide_eq_true_iff];exact fun a=>by have:=a.2.2;rw [htt] at this;omega),no (x+1) (.inr rfl),List.append_nil,
   List.filter_cons,if_neg (by rw [decide_eq_true_iff];exact fun a=>by have:=a.2.1;omega),List.filter_nil,List.append_nil]
  refine filter_same _ fun p hp=>⟨fun ⟨a,b,c⟩=>⟨a,b,by omega⟩,fun ⟨a,b,c⟩=>⟨a,b,?_⟩⟩
  have:tw p≠x:=fun e=>by
   have:=h.tt p (by omega)
   rw [e] at this;omega
  omega
 rw [e1,e2]
theorem stk_UU (h:Prg ks tw) (hX:NX ks tw s):∀ x,x≤ks.length→Stack (exc (val (ownL s ks))) (ah s ks x) ((UU ks tw s x).map (ah s ks))
 | 0,_=>by rw [ah_zero];exact Stack.nil (exc_Exc _)
 | x+1,hx=>by
   have ih:=stk_UU h hX x (by omega)
   have hk:=h.kd.getD x
   by_cases hs:ks.getD x 0 / 2=s
   ·have hst:=step_s (ks:=ks) (i:=x) (by omega) hs
    have ho:=h.opn x (by omega)
    rw [ah_next s ks x (by omega),if_pos hs]
    by_cases q:x < tw x
    ·rw [UU_open h (by omega) hs q,List.map_append]
     rw [ho.2 q] at hst
     exact ih.push (by rw [hst];rfl)
    ·have hne:=h.ne x (by omega)
     have hm:ks.getD x 0%2=1:=by have:¬ ks.getD x 0%2=0:=fun e=>q (ho.1 e);omega
     rw [hm] at hst
     have hst':exc (val (ownL s ks)) (ah s ks x+1)=exc (val (ownL s ks)) (ah s ks x) - 1:=by rw [hst];omega
     have hl:=UU_last h hX (show x < ks.length by omega) hs (by omega)
     rw [hl,List.map_append] at ih
     have:=(ih.pop hst' (by simp)).1
     rwa [List.length_append,List.length_map,List.length_map,List.length_singleton,Nat.add_sub_cancel,List.take_left' (by rw [List.length_map])] at this
   ·rw [ah_next s ks x (by omega),if_neg hs,UU_skip h (by omega) hs];exact ih
theorem mate_close (h:Prg ks tw) (hX:NX ks tw s) {x:Nat} (hx:x < ks.length) (hs:ks.getD x 0 / 2=s) (hc:tw x < x):Pair (exc (val (ownL s ks))) (ah s ks (tw x)) (ah s ks x):=by
 have ih:=stk_UU h hX x (by omega)
 have hst:=step_s (ks:=ks) (i:=x) hx hs
 have ho:=h.opn x hx
 have hk:=h.kd.getD x
 have hm:ks.getD x 0%2=1:=by have:¬ ks.getD x 0%2=0:=fun e=>by have:=ho.1 e;omega
                             omega
 rw [hm] at hst
 have hst':exc (val (ownL s ks)) (ah s ks x+1)=exc (val (ownL s ks)) (ah s ks x) - 1:=by rw [hst];omega
 have hl:=UU_last h hX hx hs hc
 rw [hl,List.map_append] at ih
 have hp:=(ih.pop hst' (by simp)).2
 rw [List.length_append,List.length_map,List.length_map,List.length_singleton,Nat.add_sub_cancel,List.getD_eq_getElem?_getD,List.getElem?_append_right (by rw [List.length_map];exact Nat.le_refl _),List.length_map,Nat.sub_self] at hp
 exact hp
theorem mate_of (h:Prg ks tw) (hX:NX ks tw s) {x:Nat} (hx:x < ks.length) (hs:ks.getD x 0 / 2=s):MateAt ks x (tw x):=by
 refine ⟨h.lt x hx,h.sort x hx,?_⟩
 rw [hs]
 have hne:=h.ne x hx
 rcases Nat.lt_or_ge (tw x) x with c | c
 ·exact ⟨_,rfl,.inr (mate_close h hX hx hs c)⟩
 ·have h2:=mate_close h hX (h.lt x hx) (by rw [h.sort x hx];exact hs) (by rw [h.tt x hx];omega)
  rw [h.tt x hx] at h2
  exact ⟨_,rfl,.inl h2⟩
theorem mate_nx (h:Prg ks tw) (hM:∀ x,x < ks.length→ks.getD x 0 / 2=s→MateAt ks x (tw x)):NX ks tw s:=fun i k h1 h2 h3 hi hk si sk=>by
 have hE:=exc_Exc (val (ownL s ks))
 have pr:∀ x,x < ks.length→ks.getD x 0 / 2=s→x < tw x→Pair (exc (val (ownL s ks))) (ah s ks x) (ah s ks (tw x)):=fun x hx hs ho=>by
  obtain ⟨_,_,q,hq,hp⟩:=hM x hx hs
  rw [hs] at hq hp
  obtain rfl:q=ah s ks (tw x):=by omega
  have hlt:ah s ks x < ah s ks (tw x):=by
   have a:=ah_next s ks x hx
   rw [if_pos hs] at a
   have htl:=h.lt x hx
   have b:=ah_mono s ks (x+1) (tw x - (x+1)) (by omega)
   rw [show x+1+(tw x - (x+1))=tw x by omega] at b
   omega
  rcases hp with hp | hp
  ·exact hp
  ·have:=hp.lt;omega
 have hti:=h.lt i hi
 have htk:=h.lt k hk
 have p1:=pr i hi si (by omega)
 have p2:=pr k hk sk (by omega)
 have lt2:∀ a b,a < b→b < ks.length→ks.getD a 0 / 2=s→ah s ks a < ah s ks b:=fun a b hab hb hs=>by
  have x:=ah_next s ks a (by omega)
  rw [if_pos hs] at x
  have y:=ah_mono s ks (a+1) (b - (a+1)) (by omega)
  rw [show a+1+(b - (a+1))=b by omega] at y
  omega
 have a1:=lt2 i k h1 hk si
 have a2:=lt2 k (tw i) h2 hti sk
 have a3:=lt2 (tw i) (tw k) h3 htk (by rw [h.sort i hi];exact si)
 have c1:=p1.above (ah s ks k) a1 (by omega)
 have c2:=p2.above (ah s ks (tw i)+1) (by omega) (by omega)
 have:=p1.same
 omega
end
end Go.Proofs.YtijbdnhlpbcabaaGreatDoor
