/- A vector of bits as it lies in memory. -/
import Derived.Test.YtijbdnhlpbcabaaGreatDoorZg5
import Derived.Test.YtijbdnhlpbcabaaGreatDoorZg1
import Derived.Laws.BitsAllLaws
import Derived.Deep.AppendLies
import Derived.BigRegion
import Derived.Deep.DeepMust
import Derived.Deep.RegionLaw
import Derived.Laws.BytesArg
import Derived.ArgAppend
import Derived.RegionTactic
import Derived.Deep.QuietTactic
import Derived.BigQuiet
import Derived.Deep.RegionWith
open Go.RowKit
set_option linter.unusedVariables false
namespace Go.Proofs.YtijbdnhlpbcabaaGreatDoor
def U64 (z:List Nat):List Value:=z.map fun (x:Nat)=>Value.int .u64 (x:Int)
theorem U64_len (z:List Nat):(U64 z).length=z.length:=by simp [U64]
theorem U64_append (l m:List Nat):U64 (l++m)=U64 l++U64 m:=by simp [U64]
theorem U64_set (y:List Nat) (k v:Nat):U64 (y.set k v)=(U64 y).set k (.int .u64 (v:Int)):=by simp [U64,List.map_set]
theorem U64_get (z:List Nat) (k:Nat) (hk:k < z.length):(U64 z)[k]?=some (.int .u64 ((z.getD k 0:Nat):Int)):=by
 simp [U64,List.getD_eq_getElem?_getD,List.getElem?_eq_getElem hk]
def words (V m:Nat):List Nat:=(List.range m).map (wd V)
theorem words_len (V m:Nat):(words V m).length=m:=by simp [words]
theorem words_get (V m i:Nat) (h:i < m):(words V m).getD i 0=wd V i:=by simp [words,List.getD_eq_getElem?_getD,h]
theorem words_next (V m:Nat):words V (m+1)=words V m++[wd V m]:=by simp [words,List.range_succ]
def VecB (w:World) (B g V n:Nat) (A:Option Addr):Prop :=
 V < 2 ^ n∧n≤1000000∧∃ c,Blk w g 104 #[.slice A ((n+63) / 64) c,.int .i64 (n:Int)] ∧
  w.ownsRow B 139 1 (.slice A ((n+63) / 64) c) ((n+63) / 64) (U64 (words V ((n+63) / 64)))
def VecAt (w:World) (g V n:Nat) (A:Option Addr):Prop:=VecB w (g+1) g V n A
theorem VecB.below {w w':World} {B g V n:Nat} {A:Option Addr} (h:VecB w B g V n A) (m:Below w.heap.size w w'):VecB w' B g V n A:=by
 obtain ⟨h1,h2,c,h3,h4⟩:=h
 exact ⟨h1,h2,c,h3.below m,own_below h4 m⟩
def foot (g:Nat) (A:Option Addr) (i:Nat):Prop:=i=g∨∃ b,A=some ⟨b,0,none⟩∧i=b
theorem VecB.foot_lt {w:World} {B g V n:Nat} {A:Option Addr} (h:VecB w B g V n A) {i:Nat} (hi:foot g A i):i < w.heap.size:=by
 obtain ⟨h1,h2,c,h3,h4⟩:=h
 rcases hi with rfl | ⟨b,rfl,rfl⟩
 ·exact h3.lt
 ·exact (h4.lt _ rfl).2
theorem VecB.foot_le {w:World} {B g V n:Nat} {A:Option Addr} (h:VecB w B g V n A) {i:Nat} (hi:foot g A i):i=g∨B≤i:=by
 obtain ⟨h1,h2,c,h3,h4⟩:=h
 rcases hi with rfl | ⟨b,rfl,rfl⟩
 ·exact .inl rfl
 ·exact .inr (h4.lt _ rfl).1
theorem VecB.mod {w w':World} {S:Nat→Prop} {B g V n:Nat} {A:Option Addr} (h:VecB w B g V n A) (m:Mod S w w') (hs:∀ i,foot g A i→¬ S i):VecB w' B g V n A:=by
 obtain ⟨h1,h2,c,h3,h4⟩:=h
 refine ⟨h1,h2,c,h3.mod m (hs g (.inl rfl)),own_mod h4 m fun k hk=>hs k (.inr ?_)⟩
 rcases h4.2 with ⟨e,_⟩ | ⟨b,cap,cur,e,_⟩
 ·simp only [Value.slice.injEq] at e
  rw [e.1] at hk;simp [Value.ownBlock] at hk
 ·simp only [Value.slice.injEq] at e
  rw [e.1] at hk ⊢
  simp [Value.ownBlock] at hk
  exact ⟨b,rfl,hk.symm⟩
theorem VecAt.below {w w':World} {g V n:Nat} {A:Option Addr} (h:VecAt w g V n A) (m:Below w.heap.size w w'):VecAt w' g V n A:=VecB.below h m
theorem bnew_p (w:World) :
  Calls Tryz.prog 66 #[] w fun e w'=>e=.returned (.pointer (some ⟨w.heap.size,0,none⟩))∧VecAt w' w.heap.size 0 0 none∧Below w.heap.size w w':=by
 go_enter Tryz.func66,Tryz.ntmps66
 go_wp2
 go_ret
 refine ⟨rfl,⟨by decide,by omega,0,?_,?_⟩,(Below.refl _ _).alloc (Nat.le_refl _) _⟩
 ·exact Blk.new w _ _
 ·simpa [words,U64] using World.ownsRow_nil _ _ _ _
theorem blen_p (g V n:Nat) (A:Option Addr) (w:World) {B:Nat} (h:VecB w B g V n A) :
  Calls Tryz.prog 23 #[.pointer (some ⟨g,0,none⟩)] w fun e w'=>e=.returned (.int .i64 (n:Int))∧w=w':=by
 obtain ⟨h1,h2,c,hb,ho⟩:=h
 have c1:w.cell? ⟨g,1,none⟩=some (.int .i64 (n:Int)):=hb.cell 1
 clear hb ho
 go_enter Tryz.func23,Tryz.ntmps23
 go_wp2
 go_ret
 exact ⟨rfl,rfl⟩
theorem wrap_u64 (y s:Nat):IntKind.u64.wrap ((y:Int)*2 ^ s)=((y*2 ^ s%2 ^ 64:Nat):Int):=by
 simp [IntKind.wrap,IntKind.signed,IntKind.bits]
theorem get_p (g V n p k:Nat) (A:Option Addr) (w:World) {B:Nat} (h:VecB w B g V n A) (hk0:1≤k) (hk:k≤64) (hp:p+k≤n) :
  Calls Tryz.prog 132 #[.pointer (some ⟨g,0,none⟩),.int .i64 (p:Int),.int .i64 (k:Int)] w fun e w'=>e=.returned (.int .u64 ((V / 2 ^ p%2 ^ k:Nat):Int))∧w=w':=by
 obtain ⟨h1,h2,c,hb,ho⟩:=h
 have c0:w.cell? ⟨g,0,none⟩=some (.slice A ((n+63) / 64) c):=hb.cell 0
 obtain ⟨m,hm⟩:∃ m,m=(n+63) / 64:=⟨_,rfl⟩
 rw [← hm] at c0 ho
 obtain ⟨b,rfl,hb1,hb2⟩:=own_some ho (by omega)
 have cell:∀ i,i < m→w.cell? ⟨b,i,none⟩=some (.int .u64 ((wd V i:Nat):Int)):=fun i hi=>by
  have r:=Rd.ofOwn ho
  obtain ⟨b',o',e,_,hc⟩:=r.at_ (by omega)
  have hl:i < (U64 (words V m)).length:=by rw [U64_len,words_len];exact hi
  have:=hc i hl
  cases e
  rw [Nat.zero_add] at this
  rw [this]
  have h3:=U64_get (words V m) i (by rw [words_len];exact hi)
  rw [words_get _ _ _ hi,List.getElem?_eq_getElem hl] at h3
  exact h3
 obtain ⟨i,hi⟩:∃ i,i=p / 64:=⟨_,rfl⟩
 obtain ⟨s,hs⟩:∃ s,s=p%64:=⟨_,rfl⟩
 have hs64:s < 64:=by omega
 have him:i < m:=by omega
 have ci:=cell i him
 have q1:(p:Int) / 64=(i:Int):=by omega
 have q2:(p:Int)%64=(s:Int):=by omega
 have hpi:p=64*i+s:=by omega
 have LOW:=Lib.hid (low_p k w hk)
 by_cases hsk:s+k≤64
 ·have G:=get_one V i s k hsk
  rw [← hpi] at G
  rw [← G]
  clear G hm hi hs cell hb ho h1
  have hp0:p≤1000000:=by omega
  have hi0:i≤1000000:=by omega
  clear hpi hp
  have HX:Hid (wd V i < 2 ^ 64):=wd_lt V i
  generalize wd V i=x at *
  have HSK:((s:Int)+(k:Int)≤64):=by omega
  clear hsk
  go_enter Tryz.func132,Tryz.ntmps132
  go_wp2_with fail
  refine LOW.out.mono ?_
  rintro e w1 ⟨rfl,rfl⟩
  go_wp2
  go_ret
  refine ⟨congrArg (fun z=>Ending.returned (.int .u64 z)) ?_,rfl⟩
  have e:((x:Int) / 2 ^ s)=((x / 2 ^ s:Nat):Int):=by simp
  rw [e,u64_and_nat _ _ (Nat.lt_of_le_of_lt (Nat.div_le_self _ _) HX.out) (Nat.lt_of_lt_of_le (Nat.sub_lt (Nat.two_pow_pos k) Nat.one_pos) (Nat.pow_le_pow_right (by omega) hk)),Nat.and_two_pow_sub_one_eq_mod]
 ·have hs0:0 < s:=by omega
  have him2:i+1 < m:=by omega
  have cj:=cell (i+1) him2
  have G:=get_two V i s k hs64 hs0 hk
  rw [← hpi] at G
  rw [← G]
  have HX:Hid (wd V i < 2 ^ 64):=wd_lt V i
  have HY:Hid (wd V (i+1) < 2 ^ 64):=wd_lt V (i+1)
  have hp0:p≤1000000:=by omega
  have hi0:i≤1000000:=by omega
  clear G hm hi hs cell hb ho h1 hpi hp
  generalize wd V i=x at *
  generalize wd V (i+1)=y at *
  have HSK:(64:Int) < (s:Int)+(k:Int):=by omega
  clear hsk
  go_enter Tryz.func132,Tryz.ntmps132
  go_wp2_with fail
  refine LOW.out.mono ?_
  rintro e w1 ⟨rfl,rfl⟩
  go_wp2
  go_ret
  refine ⟨congrArg (fun z=>Ending.returned (.int .u64 z)) ?_,rfl⟩
  have e:((x:Int) / 2 ^ s)=((x / 2 ^ s:Nat):Int):=by simp
  have hl1:x / 2 ^ s < 18446744073709551616:=Nat.lt_of_le_of_lt (Nat.div_le_self _ _) HX.out
  have hl2:y*2 ^ (64 - s)%2 ^ 64 < 18446744073709551616:=Nat.mod_lt _ (by decide)
  have hl3:(x / 2 ^ s ||| y*2 ^ (64 - s)%2 ^ 64) < 18446744073709551616:=Nat.or_lt_two_pow (n:=64) hl1 hl2
  rw [e,wrap_u64,u64_or_nat _ _ hl1 hl2,u64_and_nat _ _ hl3 (Nat.lt_of_lt_of_le (Nat.sub_lt (Nat.two_pow_pos k) Nat.one_pos) (Nat.pow_le_pow_right (by omega) hk)),Nat.and_two_pow_sub_one_eq_mod]
section
variable {P:Program} (w:World)
def Keeps (w':World) (v:Value) (n:Nat) (xs:List Value):Prop:=∀ g c,v=.slice (some ⟨g,0,none⟩) n c→∀ j u,xs[j]?=some u→w'.cell? ⟨g,j,none⟩=some u
theorem append_keeps (t ty:TypeId) (base:Nat) (e:TypeId) (i:TypeInfo) (z:Value) (size bytes:Nat) (ht:P.underlying t=some (.slice e)) (hi:P.info? e=some i) (hz:i.zero=some z)
  (hsize:i.size=size) (hby:i.bytes=bytes) (hzs:z.cells.size=size) (hsz:0 < size)
  (v:Value) (n:Nat) (xs:List Value) (hown:w.ownsRow base e size v n xs)
  (ad:Addr) (m c:Nat) (news:List Value) (hl:news.length=m*size) (hnews:∀ j u,news[j]?=some u→w.cell? (ad.add j)=some u) (h1:∀ u∈news,u.oneCell'=true)
  (hm:0 < m) (h63:n+m≤maxLen) (hbytes:(n+m)*bytes≤140737488355328)
  {g' cap':Nat} {w':World} (hr:(Builtin.append_ #[t,t] ty #[v,.slice (some ad) m c]).run P w=.ok (.slice (some ⟨g',0,none⟩) (n+m) cap') w')
  (hown':w'.ownsRow base e size (.slice (some ⟨g',0,none⟩) (n+m) cap') (n+m) (xs++news)):Keeps w' v n xs:=by
 subst hsize
 subst hby
 intro g0 c0 hv j u hu
 subst hv
 have hsmall:n+m≤9223372036854775807:=by simp only [maxLen] at h63;omega
 rcases hown.2 with ⟨hx,_⟩ | ⟨g,cap,cur,hv,hbg,hg,hnc,hcm,hcs,htake⟩
 ·cases hx
 ·simp only [Value.slice.injEq,Option.some.injEq,Addr.mk.injEq,and_true,true_and] at hv
  obtain ⟨rfl,rfl⟩:=hv
  by_cases hroom:n+m≤c0
  ·have hfit:n*i.size+news.length≤cur.size:=by rw [hl,hcs,← Nat.add_mul];exact Nat.mul_le_mul_right _ hroom
   have hr2:=run_append_room (P:=P) w t ty e i ht hi g0 n c0 cur hg ad m c news hl hnews h1 hroom hfit
   rw [hr2] at hr
   simp only [Result.ok.injEq,Value.slice.injEq,Option.some.injEq,Addr.mk.injEq,and_true,true_and] at hr
   obtain ⟨⟨rfl,rfl⟩,rfl⟩:=hr
   have hjl:=(List.getElem?_eq_some_iff.1 hu).1
   have:=hown'.cellAt j (by have h9:=hown'.1;rw [List.length_append] at h9;omega)
   rw [this,List.getElem?_append_left hjl,hu]
  ·have holds:∀ j u,xs[j]?=some u→w.cell? ((⟨g0,0,none⟩:Addr).add j)=some u:=hown.cells (g:=g0) rfl
   have hr2:=run_append_grow (P:=P) w t ty e i z ht hi hz ⟨g0,0,none⟩ n c0 xs hown.1 holds ad m c news hl hnews (by omega) (by omega) (growslice_fits (by omega) hbytes)
   rw [hr2] at hr
   simp only [Result.ok.injEq] at hr
   obtain ⟨_,rfl⟩:=hr
   have hc:=hown.cellAt j (by have h9:=hown.1;have:=(List.getElem?_eq_some_iff.1 hu).1;omega)
   rw [hu] at hc
   have hlt:=World.block_lt_of_cell? _ _ hc
   exact (World.cell?_alloc_lt _ _ _ hlt).trans hc
theorem step_append_keep {ops:Array Oper} {o:Oper} {a:Act} {K:Act→World→Prop} {Q:Exit→Act→World→Prop} {E:Prop} (hgd:o.guard=none) (s x:Operand) (t:TypeId)
  (ho:o.op=.call { callee:=.builtin .append,args:=#[s,x],argTypes:=#[t,t] })
  (base:Nat) (e:TypeId) (i:TypeInfo) (z:Value) (size bytes:Nat) (ht:P.underlying t=some (.slice e)) (hi:P.info? e=some i) (hz:i.zero=some z)
  (hsize:i.size=size) (hby:i.bytes=bytes) (hzs:z.cells.size=size) (hsz:0 < size)
  (v:Value) (n:Nat) (xs:List Value) (hs:a.eval s=v) (hown:w.ownsRow base e size v n xs)
  (ad:Addr) (m c:Nat) (news:List Value) (hx:a.eval x=.slice (some ad) m c) (hl:news.length=m*size) (hnews:∀ j u,news[j]?=some u→w.cell? (ad.add j)=some u) (h1:∀ u∈news,u.oneCell'=true)
  (hm:0 < m) (h63:n+m≤maxLen) (hbytes:(n+m)*bytes≤140737488355328) (hbase:base≤w.heap.size) (H:Nat) (hH:w.heap.size=H)
  (h:∀ g cap w',w'.ownsRow base e size (.slice (some ⟨g,0,none⟩) (n+m) cap) (n+m) (xs++news)→w.grownBy w' v.ownBlock→(v.ownBlock=some g∨g=H)→g < w'.heap.size→Keeps w' v n xs→K (a.put o.dst (.slice (some ⟨g,0,none⟩) (n+m) cap)) w') :
  if Region.wanted o (yielded ops a.tmps)=true then Oper.wp P o a w K Q else E:=by
 have hw:Region.wanted o (yielded ops a.tmps)=true:=by simp [Region.wanted,hgd]
 rw [if_pos hw]
 obtain ⟨g,cap,w',hr,h2,h3,h4,h5⟩:=run_append_lies (P:=P) w t o.type base e i z size bytes ht hi hz hsize hby hzs hsz v n xs hown ad m c news hl hnews h1 hm h63 hbytes hbase H hH
 have hk:=append_keeps (P:=P) w t o.type base e i z size bytes ht hi hz hsize hby hzs hsz v n xs hown ad m c news hl hnews h1 hm h63 hbytes hr h2
 unfold Oper.wp execOp
 simp only [ho,resolve,invoke,builtin,Sem.run_bind,Sem.run_pure,Result.andThen_ok,List.map_toArray,List.map_cons,List.map_nil,hs,hx,hr]
 exact h g cap w' h2 h3 h4 h5 hk
theorem wpList_append_keep {ops:Array Oper} {rest:List Oper} {o:Oper} {a:Act} {Q:Exit→Act→World→Prop} (hgd:o.guard=none) (s x:Operand) (t:TypeId)
  (ho:o.op=.call { callee:=.builtin .append,args:=#[s,x],argTypes:=#[t,t] })
  (base:Nat) (e:TypeId) (i:TypeInfo) (z:Value) (size bytes:Nat) (ht:P.underlying t=some (.slice e)) (hi:P.info? e=some i) (hz:i.zero=some z)
  (hsize:i.size=size) (hby:i.bytes=bytes) (hzs:z.cells.size=size) (hsz:0 < size)
  (v:Value) (n:Nat) (xs:List Value) (hs:a.eval s=v) (hown:w.ownsRow base e size v n xs)
  (ad:Addr) (m c:Nat) (news:List Value) (hx:a.eval x=.slice (some ad) m c) (hl:news.length=m*size) (hnews:∀ j u,news[j]?=some u→w.cell? (ad.add j)=some u) (h1:∀ u∈news,u.oneCell'=true)
  (hm:0 < m) (h63:n+m≤maxLen) (hbytes:(n+m)*bytes≤140737488355328) (hbase:base≤w.heap.size) (H:Nat) (hH:w.heap.size=H)
  (h:∀ g cap w',w'.ownsRow base e size (.slice (some ⟨g,0,none⟩) (n+m) cap) (n+m) (xs++news)→w.grownBy w' v.ownBlock→(v.ownBlock=some g∨g=H)→g < w'.heap.size→Keeps w' v n xs→wpList P ops Q rest (a.put o.dst (.slice (some ⟨g,0,none⟩) (n+m) cap)) w'):wpList P ops Q (o :: rest) a w :=
 wpList_wanted (by simp [Region.wanted,hgd]) fun _ hK=>by
  obtain ⟨g,cap,w',hr,h2,h3,h4,h5⟩:=run_append_lies (P:=P) w t o.type base e i z size bytes ht hi hz hsize hby hzs hsz v n xs hown ad m c news hl hnews h1 hm h63 hbytes hbase H hH
  have hk:=append_keeps (P:=P) w t o.type base e i z size bytes ht hi hz hsize hby hzs hsz v n xs hown ad m c news hl hnews h1 hm h63 hbytes hr h2
  unfold Oper.wp execOp
  simp only [ho,resolve,invoke,builtin,Sem.run_bind,Sem.run_pure,Result.andThen_ok,List.map_toArray,List.map_cons,List.map_nil,hs,hx,hr]
  exact hK _ _ (h g cap w' h2 h3 h4 h5 hk)
end
end Go.Proofs.YtijbdnhlpbcabaaGreatDoor
namespace Go.Proofs.YtijbdnhlpbcabaaGreatDoor
theorem num_zeroB (g x:Nat) (k:Int) (w:World) (h:-9223372036854775808≤k∧k≤0) :
  Calls Tryz.prog 106 #[.pointer (some ⟨g,0,none⟩),.int .u64 (x:Int),.int .i64 k] w fun e w'=>e=.returned (.tuple #[])∧w=w':=by
 have C:=Lib.hid (count_p k w ⟨h.1,by omega⟩)
 have hc:cnt64 k=0:=by unfold cnt64;rw [if_pos h.2]
 rw [hc] at C
 go_enter Tryz.func106,Tryz.ntmps106
 go_wp2_with fail
 refine C.out.mono ?_
 rintro e w' ⟨rfl,rfl⟩
 go_wp2
 exact bodyPost_ret (results_none rfl _ _ _) rfl ⟨rfl,rfl⟩
def OldK (w':World) (A:Option Addr) (V V' n:Nat):Prop :=
 ∀ b,A=some ⟨b,0,none⟩→∀ i,i < (n+63) / 64→w'.cell? ⟨b,i,none⟩=some (.int .u64 ((wd V i:Nat):Int))∨w'.cell? ⟨b,i,none⟩=some (.int .u64 ((wd V' i:Nat):Int))
theorem OldK.same {w':World} {g V V' n n':Nat} {A:Option Addr} (h:VecAt w' g V' n' A) (hn:n≤n'):OldK w' A V V' n:=by
 obtain ⟨_,_,c,_,ho⟩:=h
 intro b hb i hi
 subst hb
 right
 rw [ho.cellAt i (by omega),U64_get _ _ (by rw [words_len];omega),words_get _ _ _ (by omega)]
theorem info_u64:(Tryz.prog.info? 139).map (fun i=>(i.zero,i.size,i.bytes))=some (some (.int .u64 0),1,8):=by kernel_rfl
set_option maxRecDepth 20000 in
set_option maxHeartbeats 2000000 in
theorem num_new (g V n x kk:Nat) (k:Int) (A:Option Addr) (w:World) (h:VecAt w g V n A) (hx:x < 2 ^ 64) (hk:-9223372036854775808≤k∧k≤9223372036854775807) (hkk:cnt64 k=kk) (hk1:1≤kk) (hk64:kk≤64) (hn:n+64≤1000000) (hs:n%64=0) :
  Calls Tryz.prog 106 #[.pointer (some ⟨g,0,none⟩),.int .u64 (x:Int),.int .i64 k] w fun e w'=>e=.returned (.tuple #[]) ∧
   ∃ A',VecAt w' g (put V n x kk) (n+kk) A'∧Mod (fun i=>i=g∨(∃ b,A=some ⟨b,0,none⟩∧i=b)) w w'∧(A'=A∨∃ b,A'=some ⟨b,0,none⟩∧w.heap.size≤b)∧OldK w' A V (put V n x kk) n:=by
 have C:=Lib.hid (count_p k w hk)
 rw [hkk] at C
 have L:=Lib.hid (low_p kk w hk64)
 obtain ⟨i0,hi0,hz0,hz1,hz2⟩:=info_parts info_u64
 obtain ⟨hV,hn1,c,hb,ho⟩:=h
 obtain ⟨m,hm⟩:∃ m,m=(n+63) / 64:=⟨_,rfl⟩
 rw [← hm] at hb ho
 have c0:w.cell? ⟨g,0,none⟩=some (.slice A m c):=hb.cell 0
 have c1:w.cell? ⟨g,1,none⟩=some (.int .i64 (n:Int)):=hb.cell 1
 obtain ⟨X,hX⟩:∃ X,X=x%2 ^ kk:=⟨_,rfl⟩
 have hand:bits .and .u64 (x:Int) ((2 ^ kk - 1:Nat):Int)=((X:Nat):Int):=by
  rw [u64_and_nat _ _ hx (Nat.lt_of_lt_of_le (Nat.sub_lt (Nat.two_pow_pos kk) Nat.one_pos) (Nat.pow_le_pow_right (by omega) hk64)),Nat.and_two_pow_sub_one_eq_mod,hX]
 have hr:(n:Int)%64=0:=by omega
 have ho':=ho.alloc (.cells #[.int .u64 (X:Int)] 139)
 have hnw:=cell_one_new w (.int .u64 (X:Int)) 139
 have hsz:(w.alloc (.cells #[.int .u64 (X:Int)] 139)).heap.size=w.heap.size+1:=by simp
 have t1:m+1≤maxLen:=by simp only [maxLen];omega
 have t2:(m+1)*8≤140737488355328:=by omega
 have hgl:=hb.lt
 have t3:g+1≤(w.alloc (.cells #[.int .u64 (X:Int)] 139)).heap.size:=by simp;omega
 have h1s:∀ u∈[Value.int .u64 (X:Int)],u.oneCell'=true:=by intro u hu;simp at hu;subst hu;rfl
 have HB:=Lib.hid hb
 have HXX:=Lib.hid hX
 have HMM:=Lib.hid hm
 have hk0:¬ kk=0:=by omega
 have HSS:=Lib.hid hs
 clear hb ho hX hm hkk hs
 generalize hP:2 ^ kk - 1=PP at *
 clear hP
 go_enter Tryz.func106,Tryz.ntmps106
 go_wp2_with fail
 refine C.out.mono ?_
 rintro e w' ⟨rfl,rfl⟩
 go_wp2_with fail
 refine L.out.mono ?_
 rintro e w' ⟨rfl,rfl⟩
 go_wp2_with (first
  | (at_builtin;go_must (refine wpList_append_keep _ rfl _ _ 102 rfl (g+1) 139 i0 (.int .u64 0) 1 8 Tryz.underlying102 hi0 hz0 hz1 hz2 rfl (by decide) (.slice A m c) m _ rfl ho' ⟨w.heap.size,0,none⟩ 1 1 [.int .u64 (X:Int)] rfl rfl hnw h1s (by decide) t1 t2 t3 _ hsz ?_)))
 intro gg c6 w6 hown6 hg6 hor hlt6 hkp
 have hne:∀ q,(Value.slice A m c).ownBlock=some q→q≠g:=fun q hq e=>by have:=(ho'.lt q hq).1;omega
 have m6:=Mod.ofGrown hg6
 have b6:Blk w6 g 104 #[.slice A m c,.int .i64 (n:Int)]:=(HB.out.alloc _).mod m6 (fun e=>hne g e.symm rfl)
 have d1:w6.cell? ⟨g,1,none⟩=some (.int .i64 (n:Int)):=b6.cell 1
 have d0:w6.cell? ⟨g,0,none⟩=some (.slice A m c):=b6.cell 0
 have f0:=b6.frozen 0
 have f1:=b6.frozen 1
 have B6:=Lib.hid b6
 have M6:=Lib.hid m6
 have HOR:=Lib.hid hor
 have HNE:=Lib.hid hne
 have HO:=Lib.hid ho'
 have HG:=Lib.hid hg6
 have HOWN:=Lib.hid hown6
 have HKP:=Lib.hid hkp
 clear b6 m6 hor hne ho' hg6 hown6 hnw hsz h1s t1 t2 t3 hkp
 go_wp2
 refine bodyPost_end (results_none rfl _ _ _) rfl ⟨rfl,some ⟨gg,0,none⟩,?_,?_,?_,?_⟩
 ·have hn64:n=64*m:=by have:=HSS.out;have:=HMM.out;omega
  have hm1:(n+kk+63) / 64=m+1:=by omega
  refine ⟨put_lt x kk hV,by omega,c6,?_,?_⟩
  ·rw [hm1]
   have:=(B6.out.set_ 0 (.slice (some ⟨gg,0,none⟩) (m+1) c6)).set_ 1 (.int .i64 ((n:Int)+(kk:Int)))
   simpa using this
  ·rw [hm1]
   have hw:U64 (words V m)++[Value.int .u64 (X:Int)]=U64 (words (put V n x kk) (m+1)):=by
    rw [words_next,U64_append,wd_put_new x kk m hV hn64 hk64,← HXX.out]
    refine congrArg (·++_) (congrArg U64 (List.map_congr_left fun i hi=>?_))
    rw [List.mem_range] at hi
    exact (wd_put_low x kk i hV (by omega)).symm
   rw [← hw]
   have mm:Mod (fun i=>i=g) w6 ((w6.setCell ⟨g,0,none⟩ (.slice (some ⟨gg,0,none⟩) (m+1) c6)).setCell ⟨g,1,none⟩ (.int .i64 ((n:Int)+(kk:Int)))) :=
    Mod.setCell (p:=⟨g,1,none⟩) (Mod.setCell (p:=⟨g,0,none⟩) (Mod.refl (fun i=>i=g) w6) (fun _=>rfl) _) (fun _=>rfl) _
   exact own_mod HOWN.out mm (fun q hq hx=>by have:=(HOWN.out.lt q hq).1;omega)
 ·have ha:∀ i,some i=(Value.slice A m c).ownBlock→i=g∨∃ b,A=some ⟨b,0,none⟩∧i=b:=fun i hi=>by
   rcases HO.out.2 with ⟨h1,_⟩ | ⟨g',cap,cur,hv,_⟩
   ·rw [h1] at hi;simp [Value.ownBlock] at hi
   ·simp only [Value.slice.injEq] at hv
    rw [hv.1] at hi ⊢
    simp [Value.ownBlock] at hi
    exact .inr ⟨g',rfl,hi⟩
  exact ((((Mod.refl _ w).alloc _).trans M6.out (fun i _ hi=>ha i hi)).setCell (fun _=>.inl rfl) _).setCell (fun _=>.inl rfl) _
 ·rcases HOR.out with h1 | h1
  ·left
   rcases HO.out.2 with ⟨h2,_⟩ | ⟨g',cap,cur,hv,_⟩
   ·rw [h2] at h1;simp [Value.ownBlock] at h1
   ·simp only [Value.slice.injEq] at hv
    rw [hv.1] at h1 ⊢
    simp [Value.ownBlock] at h1
    rw [h1]
  ·right
   exact ⟨gg,rfl,by omega⟩
 ·intro b hb i hi
  left
  have hbg:g+1≤b:=by
   subst hb
   exact (HO.out.lt b rfl).1
  have hi2:i < m:=by rw [HMM.out];exact hi
  have h1:=HKP.out b c (by rw [hb]) i (.int .u64 ((wd V i:Nat):Int)) (by rw [U64_get _ _ (by rw [words_len];exact hi2),words_get _ _ _ hi2])
  have h2:(⟨b,i,none⟩:Addr)≠⟨g,0,none⟩:=fun e=>by have:=congrArg Addr.block e;simp at this;omega
  have h3:(⟨b,i,none⟩:Addr)≠⟨g,1,none⟩:=fun e=>by have:=congrArg Addr.block e;simp at this;omega
  rw [World.cell?_setCell_other _ _ _ _ h3.symm,World.cell?_setCell_other _ _ _ _ h2.symm]
  exact h1
set_option maxRecDepth 20000 in
set_option maxHeartbeats 2000000 in
theorem num_last (g V n x kk:Nat) (k:Int) (A:Option Addr) (w:World) (h:VecAt w g V n A) (hx:x < 2 ^ 64) (hk:-9223372036854775808≤k∧k≤9223372036854775807) (hkk:cnt64 k=kk) (hk1:1≤kk) (hk64:kk≤64) (hn:n+64≤1000000) (s:Nat) (hs:n%64=s) (hs0:0 < s) (hsk:s+kk≤64) :
  Calls Tryz.prog 106 #[.pointer (some ⟨g,0,none⟩),.int .u64 (x:Int),.int .i64 k] w fun e w'=>e=.returned (.tuple #[]) ∧
   ∃ A',VecAt w' g (put V n x kk) (n+kk) A'∧Mod (fun i=>i=g∨(∃ b,A=some ⟨b,0,none⟩∧i=b)) w w'∧(A'=A∨∃ b,A'=some ⟨b,0,none⟩∧w.heap.size≤b)∧OldK w' A V (put V n x kk) n:=by
 have C:=Lib.hid (count_p k w hk)
 rw [hkk] at C
 have L:=Lib.hid (low_p kk w hk64)
 obtain ⟨hV,hn1,c,hb,ho⟩:=h
 obtain ⟨q,hq⟩:∃ q,q=n / 64:=⟨_,rfl⟩
 have hm:(n+63) / 64=q+1:=by omega
 have hnq:n=64*q+s:=by omega
 rw [hm] at hb ho
 obtain ⟨b,rfl,hb1,hb2⟩:=own_some ho (by omega)
 have c0:w.cell? ⟨g,0,none⟩=some (.slice (some ⟨b,0,none⟩) (q+1) c):=hb.cell 0
 have c1:w.cell? ⟨g,1,none⟩=some (.int .i64 (n:Int)):=hb.cell 1
 have cq:w.cell? ⟨b,q,none⟩=some (.int .u64 ((wd V q:Nat):Int)):=by
  rw [ho.cellAt q (by omega),U64_get _ _ (by rw [words_len];omega),words_get _ _ _ (by omega)]
 have fq:=ho.frozenAt q
 have f1:=hb.frozen 1
 obtain ⟨X,hX⟩:∃ X,X=x%2 ^ kk:=⟨_,rfl⟩
 have hand:bits .and .u64 (x:Int) ((2 ^ kk - 1:Nat):Int)=((X:Nat):Int):=by
  rw [u64_and_nat _ _ hx (Nat.lt_of_lt_of_le (Nat.sub_lt (Nat.two_pow_pos kk) Nat.one_pos) (Nat.pow_le_pow_right (by omega) hk64)),Nat.and_two_pow_sub_one_eq_mod,hX]
 have hr:(n:Int)%64=(s:Int):=by omega
 have HOR:Hid (bits .or .u64 ((wd V q:Nat):Int) (IntKind.u64.wrap ((X:Int)*2 ^ s))=((wd (put V n x kk) q:Nat):Int)):=by
  show _=_
  rw [wrap_u64,u64_or_nat _ _ (wd_lt V q) (Nat.mod_lt _ (by decide)),wd_put_last x kk q s hV hnq (by omega),hX]
 have hgl:=hb.lt
 have HB:=Lib.hid hb
 have HO:=Lib.hid ho
 have HNQ:=Lib.hid hnq
 have hk0:¬ kk=0:=by omega
 have hs64:s < 64:=by omega
 have hq2:q≤1000000:=by omega
 have hsk2:¬ (64:Int) < (s:Int)+(kk:Int):=by omega
 clear hb ho hX hm hkk hs hq hnq
 generalize hP:2 ^ kk - 1=PP at *
 clear hP
 generalize hW:wd V q=W at *
 clear hW
 go_enter Tryz.func106,Tryz.ntmps106
 go_wp2_with fail
 refine C.out.mono ?_
 rintro e w' ⟨rfl,rfl⟩
 go_wp2_with fail
 refine L.out.mono ?_
 rintro e w' ⟨rfl,rfl⟩
 go_wp2_with fail
 go_region
 go_wp2
 rw [HOR.out]
 suffices hvec:VecAt ((w.setCell ⟨b,q,none⟩ (.int .u64 ((wd (put V n x kk) q:Nat):Int))).setCell ⟨g,1,none⟩ (.int .i64 ((n:Int)+(kk:Int)))) g (put V n x kk) (n+kk) (some ⟨b,0,none⟩) by
  refine bodyPost_end (results_none rfl _ _ _) rfl ⟨rfl,some ⟨b,0,none⟩,hvec.below (Below.refl _ _).drew,Mod.drew (Mod.setCell (p:=⟨g,1,none⟩) (Mod.setCell (p:=⟨b,q,none⟩) (Mod.refl _ w) (fun _=>.inr ⟨b,rfl,rfl⟩) _) (fun _=>.inl rfl) _),.inl rfl,?_⟩
  exact OldK.same (hvec.below (Below.refl _ _).drew) (Nat.le_add_right _ _)
 have hn64:=HNQ.out
 have hm1:(n+kk+63) / 64=q+1:=by omega
 refine ⟨put_lt x kk hV,by omega,c,?_,?_⟩
 ·rw [hm1]
  have b1:Blk (w.setCell ⟨b,q,none⟩ (.int .u64 ((wd (put V n x kk) q:Nat):Int))) g 104 #[.slice (some ⟨b,0,none⟩) (q+1) c,.int .i64 (n:Int)] :=
   HB.out.mod (Mod.setCell (p:=⟨b,q,none⟩) (Mod.refl (fun i=>i=b) w) (fun _=>rfl) _) (fun e=>by omega)
  have:=b1.set_ 1 (.int .i64 ((n:Int)+(kk:Int)))
  simpa using this
 ·rw [hm1]
  have hw:(U64 (words V (q+1))).set q (.int .u64 ((wd (put V n x kk) q:Nat):Int))=U64 (words (put V n x kk) (q+1)):=by
   rw [← U64_set,words_next,words_next,List.set_append_right _ _ (by rw [words_len];exact Nat.le_refl _),words_len,Nat.sub_self]
   refine congrArg U64 (congrArg (·++_) (List.map_congr_left fun i hi=>?_))
   rw [List.mem_range] at hi
   exact (wd_put_low x kk i hV (by omega)).symm
  rw [← hw]
  exact own_mod (HO.out.stored q _).1 (Mod.setCell (p:=⟨g,1,none⟩) (Mod.refl (fun i=>i=g) _) (fun _=>rfl) _) (fun r hr2 hx2=>by simp [Value.ownBlock] at hr2;omega)
set_option maxRecDepth 20000 in
set_option maxHeartbeats 2000000 in
theorem num_over (g V n x kk:Nat) (k:Int) (A:Option Addr) (w:World) (h:VecAt w g V n A) (hx:x < 2 ^ 64) (hk:-9223372036854775808≤k∧k≤9223372036854775807) (hkk:cnt64 k=kk) (hk1:1≤kk) (hk64:kk≤64) (hn:n+64≤1000000) (s:Nat) (hs:n%64=s) (hs0:0 < s) (hsk:64 < s+kk) :
  Calls Tryz.prog 106 #[.pointer (some ⟨g,0,none⟩),.int .u64 (x:Int),.int .i64 k] w fun e w'=>e=.returned (.tuple #[]) ∧
   ∃ A',VecAt w' g (put V n x kk) (n+kk) A'∧Mod (fun i=>i=g∨(∃ b,A=some ⟨b,0,none⟩∧i=b)) w w'∧(A'=A∨∃ b,A'=some ⟨b,0,none⟩∧w.heap.size≤b)∧OldK w' A V (put V n x kk) n:=by
 have C:=Lib.hid (count_p k w hk)
 rw [hkk] at C
 have L:=Lib.hid (low_p kk w hk64)
 obtain ⟨hV,hn1,c,hb,ho⟩:=h
 obtain ⟨q,hq⟩:∃ q,q=n / 64:=⟨_,rfl⟩
 have hm:(n+63) / 64=q+1:=by omega
 have hnq:n=64*q+s:=by omega
 rw [hm] at hb ho
 obtain ⟨b,rfl,hb1,hb2⟩:=own_some ho (by omega)
 have c0:w.cell? ⟨g,0,none⟩=some (.slice (some ⟨b,0,none⟩) (q+1) c):=hb.cell 0
 have c1:w.cell? ⟨g,1,none⟩=some (.int .i64 (n:Int)):=hb.cell 1
 have cq:w.cell? ⟨b,q,none⟩=some (.int .u64 ((wd V q:Nat):Int)):=by
  rw [ho.cellAt q (by omega),U64_get _ _ (by rw [words_len];omega),words_get _ _ _ (by omega)]
 have fq:=ho.frozenAt q
 have f1:=hb.frozen 1
 obtain ⟨X,hX⟩:∃ X,X=x%2 ^ kk:=⟨_,rfl⟩
 have hand:bits .and .u64 (x:Int) ((2 ^ kk - 1:Nat):Int)=((X:Nat):Int):=by
  rw [u64_and_nat _ _ hx (Nat.lt_of_lt_of_le (Nat.sub_lt (Nat.two_pow_pos kk) Nat.one_pos) (Nat.pow_le_pow_right (by omega) hk64)),Nat.and_two_pow_sub_one_eq_mod,hX]
 have hr:(n:Int)%64=(s:Int):=by omega
 have HOR:Hid (bits .or .u64 ((wd V q:Nat):Int) (IntKind.u64.wrap ((X:Int)*2 ^ s))=((wd (put V n x kk) q:Nat):Int)):=by
  show _=_
  rw [wrap_u64,u64_or_nat _ _ (wd_lt V q) (Nat.mod_lt _ (by decide)),wd_put_last x kk q s hV hnq (by omega),hX]
 have hgl:=hb.lt
 have HB:=Lib.hid hb
 have HO:=Lib.hid ho
 have HNQ:=Lib.hid hnq
 have hk0:¬ kk=0:=by omega
 have hs64:s < 64:=by omega
 have hq2:q≤1000000:=by omega
 have hsk2:(64:Int) < (s:Int)+(kk:Int):=by omega
 have HXX:Hid (X=x%2 ^ kk):=hX
 obtain ⟨i0,hi0,hz0,hz1,hz2⟩:=info_parts info_u64
 clear hb ho hX hm hkk hs hq hnq
 generalize hP:2 ^ kk - 1=PP at *
 clear hP
 generalize hW:wd V q=W at *
 clear hW
 go_enter Tryz.func106,Tryz.ntmps106
 go_wp2_with fail
 refine C.out.mono ?_
 rintro e w' ⟨rfl,rfl⟩
 go_wp2_with fail
 refine L.out.mono ?_
 rintro e w' ⟨rfl,rfl⟩
 go_wp2_with fail
 go_region
 go_wp2_with fail
 rw [HOR.out]
 have m1:Mod (fun i=>i=b) w ((w.setCell ⟨b,q,none⟩ (.int .u64 ((wd (put V n x kk) q:Nat):Int))).drew) :=
  Mod.drew (Mod.setCell (p:=⟨b,q,none⟩) (Mod.refl (fun i=>i=b) w) (fun _=>rfl) _)
 have b1:=HB.out.mod m1 (show ¬ g=b by omega)
 have o1:=own_below (HO.out.stored q (.int .u64 ((wd (put V n x kk) q:Nat):Int))).1 (Below.refl _ _).drew
 generalize (w.setCell ⟨b,q,none⟩ (.int .u64 ((wd (put V n x kk) q:Nat):Int))).drew=w1 at *
 have hs1:=m1.size
 have d0:w1.cell? ⟨g,0,none⟩=some (.slice (some ⟨b,0,none⟩) (q+1) c):=b1.cell 0
 have hgl1:g < w1.heap.size:=by omega
 have hgb:g≠b:=by omega
 have hn1':q+1+1≤maxLen:=by simp only [maxLen];omega
 have hn2:(q+1+1)*8≤140737488355328:=by omega
 have B1:=Lib.hid b1
 have M1:=Lib.hid m1
 have O1:=Lib.hid o1
 clear b1 m1 cq c0 c1 fq f1
 obtain ⟨t,ht⟩:∃ t,t=64 - s:=⟨_,rfl⟩
 have hwt:IntKind.i64.wrap (64 - (s:Int))=(t:Int):=by rw [show (64 - (s:Int))=(t:Int) by omega];rw [IntKind.wrap_i64];omega
 have ht64:t < 64:=by omega
 have HT:=Lib.hid ht
 clear ht
 generalize hxs:(U64 (words V (q+1))).set q (.int .u64 ((wd (put V n x kk) q:Nat):Int))=xs at *
 have HXS:=Lib.hid hxs
 clear hxs
 have f0:=B1.out.frozen 0
 have fz:∀ o,(w1.alloc o).drew.frozen? ⟨g,0,none⟩=false:=fun o=>((B1.out.alloc o).drewN 1).frozen 0
 have hgo:(Value.slice (some ⟨b,0,none⟩) (q+1) c).ownBlock≠some g:=by simp [Value.ownBlock];omega
 go_region_law
  ((refine step_append_keep _ (by rfl) _ _ _ (by rfl) (g+1) 139 i0 _ 1 8 Tryz.underlying102 hi0 hz0 hz1 hz2 rfl (by omega) (.slice (some ⟨b,0,none⟩) (q+1) c) (q+1) xs (by rfl) ((O1.out.alloc _).drew)
     ⟨w1.heap.size,0,none⟩ 1 1 [.int .u64 ((X:Int) / 2 ^ t)] (by rfl) (by rfl) (World.news_of_block (cs:=#[.int .u64 ((X:Int) / 2 ^ t)]) (t:=139) (fr:=(0,0)) (heap_alloc_new w1 _)) (by simp [Value.oneCell'])
     (by omega) hn1' hn2 (by simp;omega) (w1.heap.size+1) (by simp) ?_;intro gg cap w3 hown1 hgrow hat hlt hkp
    have hgm:=Mod.ofGrown hgrow
    have b3:Blk w3 g 104 #[.slice (some ⟨b,0,none⟩) (q+1) c,.int .i64 (n:Int)]:=((B1.out.alloc _).drewN 1).mod hgm (fun e=>hgo e.symm)
    have e1:w3.cell? ⟨g,1,none⟩=some (.int .i64 (n:Int)):=b3.cell 1
    have g1:=b3.frozen 1
    have e0:w3.cell? ⟨g,0,none⟩=some (.slice (some ⟨b,0,none⟩) (q+1) c):=b3.cell 0
    have g0:=b3.frozen 0
    have HGM:=Lib.hid hgm
    have HOW:=Lib.hid hown1
    have HAT:=Lib.hid hat
    have HKP:=Lib.hid hkp
    have B3:=Lib.hid b3
    clear hgm hgrow hown1 hat b3 hkp))
 all_goals go_wp2
 all_goals (
  clear e0 e1 g0 g1 f0 fz
  refine bodyPost_end (results_none rfl _ _ _) rfl ⟨rfl,some ⟨gg,0,none⟩,?_,?_,?_,?_⟩
  ·have hn64:=HNQ.out
   have hm1:(n+kk+63) / 64=q+1+1:=by omega
   refine ⟨put_lt x kk hV,by omega,cap,?_,?_⟩
   ·rw [hm1]
    have:=(B3.out.set_ 0 (.slice (some ⟨gg,0,none⟩) (q+1+1) cap)).set_ 1 (.int .i64 ((n:Int)+(kk:Int)))
    simpa using this
   ·rw [hm1]
    have hw:xs++[Value.int .u64 ((X:Int) / 2 ^ t)]=U64 (words (put V n x kk) (q+1+1)):=by
     have e1:(X:Int) / 2 ^ t=((x%2 ^ kk / 2 ^ (64 - s):Nat):Int):=by rw [HXX.out,HT.out];simp
     rw [words_next,U64_append,← HXS.out,← U64_set,words_next V q,words_next _ q,List.set_append_right _ _ (by rw [words_len];exact Nat.le_refl _),words_len,Nat.sub_self,e1,wd_put_next x kk q s hV hn64 hs64 hs0 hk64]
     refine congrArg (·++_) (congrArg U64 (congrArg (·++_) (List.map_congr_left fun i hi=>?_)))
     rw [List.mem_range] at hi
     exact (wd_put_low x kk i hV (by omega)).symm
    rw [← hw]
    have mm:Mod (fun i=>i=g) w3 ((w3.setCell ⟨g,0,none⟩ (.slice (some ⟨gg,0,none⟩) (q+1+1) cap)).setCell ⟨g,1,none⟩ (.int .i64 ((n:Int)+(kk:Int)))) :=
     Mod.setCell (p:=⟨g,1,none⟩) (Mod.setCell (p:=⟨g,0,none⟩) (Mod.refl (fun i=>i=g) w3) (fun _=>rfl) _) (fun _=>rfl) _
    exact own_mod HOW.out mm (fun r hr2 hx2=>by have:=(HOW.out.lt r hr2).1;omega)
  ·have ha:∀ i,some i=(Value.slice (some ⟨b,0,none⟩) (q+1) c).ownBlock→i=g∨∃ b',some (⟨b,0,none⟩:Addr)=some ⟨b',0,none⟩∧i=b':=fun i hi=>by
    simp [Value.ownBlock] at hi
    exact .inr ⟨b,rfl,hi⟩
   have m1:Mod (fun i=>i=g∨∃ b',some (⟨b,0,none⟩:Addr)=some ⟨b',0,none⟩∧i=b') w w1:=M1.out.mono fun i _ hi=>.inr ⟨b,rfl,hi⟩
   exact ((((m1.alloc _).drew).trans HGM.out (fun i _ hi=>ha i hi)).setCell (p:=⟨g,0,none⟩) (fun _=>.inl rfl) _).setCell (p:=⟨g,1,none⟩) (fun _=>.inl rfl) _
  ·rcases HAT.out with h1 | h1
   ·left
    simp [Value.ownBlock] at h1
    rw [h1]
   ·right
    exact ⟨gg,rfl,by omega⟩
  ·intro b' hb' i hi
   have hbb:b=b':=(Addr.mk.inj (Option.some.inj hb')).1
   subst hbb
   have hn64:=HNQ.out
   have hi2:i < q+1:=by omega
   have far:∀ u,w3.cell? ⟨b,i,none⟩=some u→((w3.setCell ⟨g,0,none⟩ (.slice (some ⟨gg,0,none⟩) (q+1+1) cap)).setCell ⟨g,1,none⟩ (.int .i64 ((n:Int)+(kk:Int)))).cell? ⟨b,i,none⟩=some u:=fun u hu=>by
    have h2:(⟨b,i,none⟩:Addr)≠⟨g,0,none⟩:=fun e=>by have:=congrArg Addr.block e;simp at this;omega
    have h3:(⟨b,i,none⟩:Addr)≠⟨g,1,none⟩:=fun e=>by have:=congrArg Addr.block e;simp at this;omega
    rw [World.cell?_setCell_other _ _ _ _ h3.symm,World.cell?_setCell_other _ _ _ _ h2.symm]
    exact hu
   have hl:(U64 (words V (q+1))).length=q+1:=by rw [U64_len,words_len]
   by_cases hiq:i=q
   ·right
    subst hiq
    refine far _ (HKP.out b c rfl i _ ?_)
    rw [← HXS.out,List.getElem?_set_self (by rw [hl];exact hi2)]
   ·left
    refine far _ (HKP.out b c rfl i _ ?_)
    rw [← HXS.out,List.getElem?_set_ne (fun e=>hiq e.symm),U64_get _ _ (by rw [words_len];exact hi2),words_get _ _ _ hi2])
def NumPost (w:World) (g V' n':Nat) (A:Option Addr) (e:Ending) (w':World):Prop :=
 e=.returned (.tuple #[])∧∃ A',VecAt w' g V' n' A'∧Mod (foot g A) w w'∧(A'=A∨∃ b,A'=some ⟨b,0,none⟩∧w.heap.size≤b)
theorem put_zero (V n x:Nat):put V n x 0=V:=by simp [put,Nat.mod_one]
def NumPostK (w:World) (g V V' n n':Nat) (A:Option Addr) (e:Ending) (w':World):Prop :=
 e=.returned (.tuple #[])∧∃ A',VecAt w' g V' n' A'∧Mod (foot g A) w w'∧(A'=A∨∃ b,A'=some ⟨b,0,none⟩∧w.heap.size≤b)∧OldK w' A V V' n
theorem num_pk (g V n x:Nat) (k:Int) (A:Option Addr) (w:World) (h:VecAt w g V n A) (hx:x < 2 ^ 64) (hk:-9223372036854775808≤k∧k≤9223372036854775807) (hn:n+64≤1000000) :
  Calls Tryz.prog 106 #[.pointer (some ⟨g,0,none⟩),.int .u64 (x:Int),.int .i64 k] w (NumPostK w g V (put V n x (cnt64 k)) n (n+cnt64 k) A):=by
 by_cases h0:k≤0
 ·refine (num_zeroB g x k w ⟨hk.1,h0⟩).mono fun e w' ⟨he,hw⟩=>?_
  subst hw
  have hc:cnt64 k=0:=by unfold cnt64;rw [if_pos h0]
  rw [hc,put_zero]
  exact ⟨he,A,h,Mod.refl _ _,.inl rfl,OldK.same h (Nat.le_refl _)⟩
 ·have hc1:1≤cnt64 k:=by unfold cnt64;rw [if_neg h0];split <;> omega
  have hc2:cnt64 k≤64:=by unfold cnt64;rw [if_neg h0];split <;> omega
  rcases Nat.eq_zero_or_pos (n%64) with hs | hs
  ·exact num_new g V n x _ k A w h hx hk rfl hc1 hc2 hn hs
  ·by_cases hsk:n%64+cnt64 k≤64
   ·exact num_last g V n x _ k A w h hx hk rfl hc1 hc2 hn _ rfl hs hsk
   ·exact num_over g V n x _ k A w h hx hk rfl hc1 hc2 hn _ rfl hs (by omega)
theorem num_p (g V n x:Nat) (k:Int) (A:Option Addr) (w:World) (h:VecAt w g V n A) (hx:x < 2 ^ 64) (hk:-9223372036854775808≤k∧k≤9223372036854775807) (hn:n+64≤1000000) :
  Calls Tryz.prog 106 #[.pointer (some ⟨g,0,none⟩),.int .u64 (x:Int),.int .i64 k] w (NumPost w g (put V n x (cnt64 k)) (n+cnt64 k) A) :=
 (num_pk g V n x k A w h hx hk hn).mono fun e w' ⟨he,A',h1,h2,h3,_⟩=>⟨he,A',h1,h2,h3⟩
theorem NumPost.below {w w':World} {g V' n':Nat} {A:Option Addr} {e:Ending} {V n:Nat} (p:NumPost w g V' n' A e w') (h:VecAt w g V n A):Below g w w':=by
 obtain ⟨_,A',h1,m,_⟩:=p
 obtain ⟨_,_,c,hb,ho⟩:=h
 exact m.belowB (Nat.le_of_lt hb.lt) fun i hi hf=>by
  rcases hf with rfl | ⟨b,rfl,rfl⟩
  ·omega
  ·have:g+1≤i:=(ho.lt i rfl).1
   omega
theorem cnt64_nat {s:Nat} (h:s≤64):cnt64 (s:Int)=s:=by unfold cnt64;split <;> (try split) <;> omega
theorem U64_one (z:List Nat):∀ u∈U64 z,u.oneCell'=true:=by
 intro u hu
 simp only [U64,List.mem_map] at hu
 obtain ⟨b,_,rfl⟩:=hu
 rfl
theorem Rd.u64 {w:World} {B n:Nat} {A:Option Addr} {z:List Nat} (h:Rd w B A n (U64 z)) (h0:0 < n) :
  ∃ b o,A=some ⟨b,o,none⟩∧b < B∧∀ k,k < n→w.cell? ⟨b,o+k,none⟩=some (.int .u64 ((z.getD k 0:Nat):Int)):=by
 obtain ⟨b,o,e,hb,hc⟩:=h.at_ h0
 refine ⟨b,o,e,hb,fun k hk=>?_⟩
 have hl:z.length=n:=by rw [← h.len,U64_len]
 rw [hc k (by rw [U64_len];omega)]
 have:=U64_get z k (by omega)
 rwa [List.getElem?_eq_getElem (by rw [U64_len];omega)] at this
def NewU64 (w:World) (z:List Nat) (e:Ending) (w':World):Prop :=
 ∃ A c,e=.returned (.slice A z.length c)∧z.length≤c∧c≤maxLen∧w'.ownsRow w.heap.size 139 1 (.slice A z.length c) z.length (U64 z)∧Below w.heap.size w w'
theorem NewU64.mk {w w':World} {z:List Nat} {e:Ending} {v:Value} (he:e=.returned v) (h:w'.ownsRow w.heap.size 139 1 v z.length (U64 z)) (hb:Below w.heap.size w w'):NewU64 w z e w':=by
 obtain ⟨A,c,rfl,h1,h2⟩:=own_form h
 exact ⟨A,c,he,h1,h2,h,hb⟩
set_option maxHeartbeats 400000 in
theorem cloneU (A:Option Addr) (n c B:Nat) (z:List Nat) (w:World) (h:Rd w B A n (U64 z)) (hn:n≤17592186044416) :
  Calls Tryz.prog 158 #[.slice A n c] w (NewU64 w z):=by
 have hl:z.length=n:=by rw [← h.len,U64_len]
 obtain ⟨i0,hi0,hz0,hz1,hz2⟩:=info_parts info_u64
 have hq:=fun W a n c=>Lib.run_eql_slice_nil (P:=Tryz.prog) W 102 139 a n c 0 0 Tryz.underlying102
 cases A with
 | none =>
   obtain rfl:n=0:=h.none_
   obtain rfl:z=[]:=List.eq_nil_of_length_eq_zero hl
   go_enter Tryz.func158,Tryz.ntmps158
   go_wp2
   go_ret
   exact .mk rfl (World.ownsRow_nil _ _ _ _) (Below.refl _ _)
 | some ad =>
   have hown:(w.alloc (.cells #[] 139)).ownsRow w.heap.size 139 1 (.slice (some ⟨w.heap.size,0,none⟩) 0 0) 0 [] :=
    World.ownsRow_made w #[] 0 (Nat.le_refl _) (by simp [maxLen]) rfl
   have hrd:=h.alloc (.cells #[] 139)
   have s1:0+n≤maxLen:=by simp only [maxLen];omega
   have s2:(0+n)*8≤140737488355328:=by omega
   have s3:w.heap.size≤(w.alloc (.cells #[] 139)).heap.size:=by simp
   go_enter Tryz.func158,Tryz.ntmps158
   go_wp2_with (first
    | (at_builtin;refine wpList_append_rd _ rfl _ _ 102 rfl w.heap.size 139 i0 (.int .u64 0) 8 Tryz.underlying102 hi0 hz0 hz1 hz2 rfl _ 0 [] rfl hown B (some ad) n c (U64 z) rfl hrd (U64_one _) s1 s2 s3 ?_))
   intro A' c' w' _ _ hown' hg hat
   go_wp2
   go_ret
   refine .mk rfl (by simpa [hl] using hown') ?_
   exact ((Below.refl _ _).alloc (Nat.le_refl _) _).trans (Below.appended hown hg (by simp))
def U8 (l:List Nat):List Value:=l.map fun (b:Nat)=>Value.int .u8 (b:Int)
theorem U8_len (l:List Nat):(U8 l).length=l.length:=by simp [U8]
theorem U8_get (l:List Nat) (j:Nat) (h:j < (U8 l).length):(U8 l)[j]=.int .u8 ((l[j]'(by simpa [U8] using h):Nat):Int):=by simp [U8]
theorem U8_append (l m:List Nat):U8 (l++m)=U8 l++U8 m:=by simp [U8]
theorem info_u8:(Tryz.prog.info? 5).map (fun i=>(i.zero,i.size,i.bytes))=some (some (.int .u8 0),1,1):=by kernel_rfl
theorem row_u8 {w:World} {a:Option Addr} {len cap:Nat} {zs:List Int}
  (h:(a=none∧len=0∧cap=0∧zs=[]) ∨
    ∃ x,a=some x∧len≤cap∧cap≤maxLen∧zs.length=cap∧(∀ i,i < zs.length→w.cell? (x.add i)=some (.int .u8 (zs.getD i 0)))∧∀ n∈zs,(Lit.int .u8 n).wf=true) :
  len≤cap∧cap≤maxLen∧∃ bs:List Nat,Rd w w.heap.size a len (U8 bs)∧∀ b∈bs,b < 256:=by
 rcases h with ⟨rfl,rfl,rfl,rfl⟩ | ⟨x,rfl,hl,hm,hz,hc,hw⟩
 ·exact ⟨Nat.le_refl _,Nat.zero_le _,[],Rd.nil _ _ _,by simp⟩
 ·have hb:∀ n∈zs,0≤n∧n < 256:=fun n hn=>by
   have:=hw n hn
   simp [Lit.wf,IntKind.min,IntKind.max,IntKind.bits,IntKind.signed] at this
   omega
  refine ⟨hl,hm,(zs.take len).map Int.toNat,⟨by simp [U8];omega,fun h0=>?_⟩,?_⟩
  ·obtain ⟨b,o,sp⟩:=x
   obtain rfl:sp=none:=by simpa [Addr.add] using World.cell?_spot (hc 0 (by omega))
   refine ⟨b,o,rfl,World.block_lt_of_cell? _ _ (hc 0 (by omega)),fun j hj=>?_⟩
   have hj':j < len:=by simp [U8] at hj;omega
   have:=hc j (by omega)
   rw [U8_get]
   have e:(⟨b,o,none⟩:Addr).add j=⟨b,o+j,none⟩:=by unfold Addr.add;split <;> simp_all
   rw [e] at this
   rw [this]
   have hjz:j < zs.length:=by omega
   have:=hb zs[j] (List.getElem_mem _)
   simp [List.getD_eq_getElem?_getD,List.getElem?_eq_getElem hjz]
   omega
  ·intro b hb'
   simp only [List.mem_map] at hb'
   obtain ⟨n,hn,rfl⟩:=hb'
   have:=hb n (List.mem_of_mem_take hn)
   omega
theorem wf_i64 {x:Int} (h:(Lit.int .i64 x).wf=true):-9223372036854775808≤x∧x≤9223372036854775807:=by
 simp [Lit.wf,IntKind.min,IntKind.max,IntKind.bits,IntKind.signed] at h
 omega
theorem VecB.drewN {w:World} {B g V n:Nat} {A:Option Addr} (h:VecB w B g V n A) (k:Nat):VecB (w.drewN k) B g V n A:=h.below (below_draws (Below.refl _ _) k)
theorem NumPost.trans {w w1 w2:World} {g V2 n2:Nat} {A A1:Option Addr} {e':Ending} (m:Mod (foot g A) w w1) (ha:A1=A∨∃ b,A1=some ⟨b,0,none⟩∧w.heap.size≤b)
  (p:NumPost w1 g V2 n2 A1 e' w2):NumPost w g V2 n2 A e' w2:=by
 obtain ⟨he,A2,h1,m2,h2⟩:=p
 refine ⟨he,A2,h1,m.trans m2 fun i hi hf=>?_,?_⟩
 ·rcases hf with rfl | ⟨b,rfl,rfl⟩
  ·exact .inl rfl
  ·rcases ha with rfl | ⟨b',e,hb⟩
   ·exact .inr ⟨_,rfl,rfl⟩
   ·have:i=b':=(Addr.mk.inj (Option.some.inj e)).1
    omega
 ·rcases h2 with rfl | ⟨b,rfl,hb⟩
  ·exact ha
  ·exact .inr ⟨b,rfl,Nat.le_trans m.size hb⟩
theorem take_next {α:Type} [Inhabited α] (l:List Int) (k:Nat) (h:k < l.length):l.take (k+1)=l.take k++[l.getD k 0]:=by
 rw [← List.take_append_getElem h,List.getD_eq_getElem?_getD,List.getElem?_eq_getElem h];rfl
theorem bits_next (l:List Nat) (z:List Int) (k:Nat) (h:k < z.length):l++(z.take (k+1)).map bit1=(l++(z.take k).map bit1)++[bit1 (z.getD k 0)]:=by
 rw [take_next (α:=Nat) z k h,List.map_append,List.append_assoc];rfl
set_option maxRecDepth 20000 in
set_option maxHeartbeats 1000000 in
theorem add_p0 (g:Nat) (l:List Nat) (A As:Option Addr) (n c:Nat) (z:List Int) (w:World) (hv:VecAt w g (val l) l.length A) (h:Rd w w.heap.size As n (I64 z))
  (hs:0 < n→∀ i,inBlk As i→¬ foot g A i) (hn:l.length+n+64≤1000000) :
  Calls Tryz.prog 144 #[.pointer (some ⟨g,0,none⟩),.slice As n c] w (NumPost w g (val (l++z.map bit1)) (l++z.map bit1).length A):=by
 have hz:z.length=n:=by rw [← h.len,I64_len]
 have HZ:=Lib.hid hz
 have H:=Lib.hid h
 have HS:=Lib.hid hs
 have HV:=Lib.hid hv
 have hn9:n≤1000000:=by omega
 clear h hz hs hv
 go_enter Tryz.func144,Tryz.ntmps144
 go_wp2
 go_loopw [8] (fun i wr=>∃ (k:Nat) (Ak:Option Addr),k≤n∧i=.int .i64 (k:Int)∧VecAt wr g (val (l++(z.take k).map bit1)) (l++(z.take k).map bit1).length Ak∧Mod (foot g A) w wr∧(Ak=A∨∃ b,Ak=some ⟨b,0,none⟩∧w.heap.size≤b)) (fun i _=>n - (intOf i).toNat)
 case atStart=>exact ⟨0,A,by omega,rfl,by simpa using HV.out,Mod.refl _ _,.inl rfl⟩
 case round =>
  obtain ⟨k,Ak,hk,rfl,hvk,hm,ha⟩:=hrel
  by_cases hlt:k < n
  ·have hr:=H.out.mod hm (Nat.le_refl _) (fun h0 i hi=>HS.out h0 i hi)
   obtain ⟨b,o,rfl,_,k1⟩:=hr.i64 (by omega)
   have t1:=k1 k hlt
   have hll:(l++(z.take k).map bit1).length+64≤1000000:=by simp only [List.length_append,List.length_map,List.length_take];omega
   have hc1:cnt64 1=1:=by decide
   have NX:Hid (l++(z.take (k+1)).map bit1=(l++(z.take k).map bit1)++[bit1 (z.getD k 0)]):=bits_next l z k (by rw [HZ.out];exact hlt)
   have HVK:=Lib.hid hvk
   have HMK:=Lib.hid hm
   have HAK:=Lib.hid ha
   clear hr k1 hvk hm ha
   generalize hL:l++(z.take k).map bit1=L at *
   generalize hx:z.getD k 0=x at *
   by_cases hx0:x=0
   ·have NM:=Lib.hid (num_p g (val L) L.length 0 1 Ak wr HVK.out (by decide) (by omega) hll)
    have hb1:(0:Nat)=bit1 x:=by rw [hx0];rfl
    rw [hc1,hb1,put_one,← hb1] at NM
    subst hx0
    clear hb1
    go_wp2_with fail
    refine NM.out.mono ?_
    rintro e w2 hp
    obtain ⟨rfl,A2,hv2,hm2,ha2⟩:=NumPost.trans HMK.out HAK.out hp
    go_wp2_with fail
    go_roundw
    case rel=>exact ⟨k+1,A2,by omega,by go_num,by rw [NX.out,List.length_append];exact hv2,hm2,ha2⟩
    case measure=>simp [intOf];omega
   ·have NM:=Lib.hid (num_p g (val L) L.length 1 1 Ak wr HVK.out (by decide) (by omega) hll)
    have hb1:(1:Nat)=bit1 x:=by unfold bit1;rw [if_neg hx0]
    have hbe:(x == 0)=false:=by simpa using hx0
    have e1:put (val L) L.length 1 1=val (L++[bit1 x]):=by have:=put_one L x;rw [← hb1] at this ⊢;exact this
    rw [hc1,e1] at NM
    clear hb1 e1 hx0
    go_wp2_with fail
    refine NM.out.mono ?_
    rintro e w2 hp
    obtain ⟨rfl,A2,hv2,hm2,ha2⟩:=NumPost.trans HMK.out HAK.out hp
    go_wp2_with fail
    go_roundw
    case rel=>exact ⟨k+1,A2,by omega,by go_num,by rw [NX.out,List.length_append];exact hv2,hm2,ha2⟩
    case measure=>simp [intOf];omega
  ·obtain rfl:k=n:=by omega
   have e1:z.take k=z:=List.take_of_length_le (by rw [HZ.out];exact Nat.le_refl _)
   rw [e1] at hvk
   have HVK:=Lib.hid hvk
   have HMK:=Lib.hid hm
   have HAK:=Lib.hid ha
   clear hvk hm ha e1
   go_wp2_with fail
   exact bodyPost_end (results_none rfl _ _ _) rfl ⟨rfl,Ak,HVK.out,HMK.out,HAK.out⟩
theorem add_p (g:Nat) (l:List Nat) (A As:Option Addr) (n c:Nat) (z:List Int) (w:World) (hv:VecAt w g (val l) l.length A) (h:Rd w w.heap.size As n (I64 z))
  (hs:∀ i,inBlk As i→¬ foot g A i) (hn:l.length+n+64≤1000000) :
  Calls Tryz.prog 144 #[.pointer (some ⟨g,0,none⟩),.slice As n c] w (NumPost w g (val (l++z.map bit1)) (l++z.map bit1).length A) :=
 add_p0 g l A As n c z w hv h (fun _=>hs) hn
end Go.Proofs.YtijbdnhlpbcabaaGreatDoor
