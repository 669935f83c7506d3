/- The rows of layer 23's document when a map has grown tell the map's turns then: mathematics. -/
import Derived.Test.YtdinmjciippchaaGreatZg17
import Derived.Test.YtdinmjciippchaaGreatZg9
import Derived.Test.YtdinmjciippchaaGreatZg6
import Derived.Test.YtdinmjciippchaaGreatZg4
import Derived.Test.YtdinmjciippchaaGreatZg2
import Derived.LaidMore
import Derived.RowKit
import Derived.Test.YtdinmjciippchaaGreatZg3
import Derived.Laws.ResultCell
import Derived.Deep.RegionHeld3
import Derived.Deep.RegionWith
import Derived.Test.YtdinmjciippchaaGreatZg14
open Go.RowKit
set_option linter.unusedVariables false
set_option linter.unusedSimpArgs false
namespace Go.Proofs.YtdinmjciippchaaGreat
noncomputable def rowsM (l:List Nat):List (List Nat):=(leads l l.length).map (orb l)
noncomputable def leafR (l:List Nat) (d:Nat):List (List Nat):=(rowsM l).map (aftL d l.length)++[[l.length+1]]
noncomputable def chordR (l:List Nat) (d e:Nat):List (List Nat):=((rowsM l).map (aftL d l.length)).map (aftL (if d=e then l.length else e) (l.length+1))
noncomputable def splitR (l:List Nat) (d:Nat):List (List Nat):=((rowsM l).map (aftL (mateN d) (l.length+1))).map (witL (mateN d))++[[l.length,mateN d]]
noncomputable def flipR (l b:List Nat) (d:Nat):List (List Nat):=((((rowsM l).map (witL d)).map (witL (mateN d))).map (aftL (flp l b d) d)).map (aftL (flp l b (mateN d)) (mateN d))
def starR (L:List (List Nat)) (P:List Nat) (n:Nat):Nat→List (List Nat)
 | 0=>L
 | j+1=>(starR L P n j).map (aftL (P.getD j 0) (n+2*j))
def hubN (n:Nat):Nat→List Nat
 | 0=>[]
 | j+1=>(n+2*j+1) :: hubN n j
theorem hub_len (n:Nat):∀ j,(hubN n j).length=j
 | 0=>rfl
 | j+1=>by show (_ :: hubN n j).length=_;rw [List.length_cons,hub_len n j]
theorem mem_hub (n x:Nat):∀ j,x∈hubN n j↔∃ i,i < j∧x=n+2*i+1
 | 0=>by simp [hubN]
 | j+1=>by
   show x∈_ :: hubN n j↔_
   rw [List.mem_cons,mem_hub n x j]
   constructor
   ·rintro (rfl | ⟨i,hi,e⟩)
    ·exact ⟨j,by omega,rfl⟩
    ·exact ⟨i,by omega,e⟩
   ·rintro ⟨i,hi,e⟩
    by_cases c:i=j
    ·exact .inl (by rw [e,c])
    ·exact .inr ⟨i,by omega,e⟩
theorem hub_nodup (n:Nat):∀ j,(hubN n j).Nodup
 | 0=>List.nodup_nil
 | j+1=>List.nodup_cons.2 ⟨fun c=>by obtain ⟨i,hi,e⟩:=(mem_hub n _ j).1 c;omega,hub_nodup n j⟩
theorem hub_last (n:Nat):∀ j,(hubN n (j+1)).getD j 0=n+1
 | 0=>rfl
 | j+1=>by
   show ((n+2*(j+1)+1) :: hubN n (j+1)).getD (j+1) 0=_
   rw [gD_cons,if_neg (by omega),show j+1 - 1=j by omega,hub_last n j]
variable {l b:List Nat}
theorem TellR.congr {f g:Nat→Nat} {v:List Nat} (h:TellR f v) (e:∀ x,x∈v→g x=f x):TellR g v:=fun k hk=>by rw [e _ (gD_mem hk)];exact h k hk
theorem leaf_pre (h:Inv l b) {d:Nat} (hd:d < l.length):Tells ((rowsM l).map (aftL d l.length)) (sgL (leafL l d)) (fun x=>x < l.length+1):=by
 have t0:=(lists_tell h).congr (g:=sgL (edgL l)) (T:=fun x=>x < l.length) (fun x hx=>edg_old l hx) (fun x=>Iff.rfl)
 exact tells_put (edg_inv h) t0 (by rw [edg_len];omega) (by rw [edg_len];omega) (edg_new l (Nat.le_refl _) (by omega)) hd (by omega) (fun x=>by omega)
theorem leaf_tell (h:Inv l b) {d:Nat} (hd:d < l.length):Tells (leafR l d) (sgL (leafL l d)) (fun x=>x < l.length+2):=by
 have t2:=(leaf_pre h hd).snoc (v:=[l.length+1]) (by simp) (fun x hx=>by rw [List.mem_singleton] at hx;omega) (fun k hk=>by
  obtain rfl:k=0:=by simp at hk;omega
  show sgL (leafL l d) (l.length+1)=_
  rw [leaf_odd h hd];rfl)
 exact t2.congr (fun _ _=>rfl) (fun x=>by rw [List.mem_singleton];omega)
theorem chord_tell (h:Inv l b) {d e:Nat} (hd:d < l.length) (he:e < l.length):Tells (chordR l d e) (sgL (chordL l d e)) (fun x=>x < l.length+2):=by
 obtain ⟨v1,v2⟩:=leaf_inv h hd
 exact tells_put v1 (leaf_pre h hd) (by omega) (by split <;> omega) (leaf_odd h hd) (by show (if d=e then l.length else e) < _;split <;> omega) (by omega) (fun x=>by omega)
theorem split_tell (h:Inv l b) (hev:l.length%2=0) {d:Nat} (hd:d < l.length):Tells (splitR l d) (sgL (splitL l b d)) (fun x=>x < l.length+2):=by
 have hm:=mateN_in hev hd
 obtain ⟨v1,l1⟩:=spl1_inv h hev hd
 obtain ⟨v2,l2⟩:=spl2_inv h hev hd
 have t0:=(lists_tell h).congr (g:=sgL (edgL l)) (T:=fun x=>x < l.length) (fun x hx=>edg_old l hx) (fun x=>Iff.rfl)
 have al1:=edg_new l (show l.length≤l.length+1 by omega) (show l.length+1 < l.length+2 by omega)
 have t1:Tells ((rowsM l).map (aftL (mateN d) (l.length+1))) (sgL (spl1 l d)) (fun x=>x < l.length∨x=l.length+1) :=
  tells_put (edg_inv h) t0 (by rw [edg_len];omega) (by rw [edg_len];omega) al1 hm (by omega) (fun x=>Iff.rfl)
 have t2:Tells (((rowsM l).map (aftL (mateN d) (l.length+1))).map (witL (mateN d))) (sgL (spl2 l b d)) (fun x=>(x < l.length∨x=l.length+1)∧x≠mateN d) :=
  tells_tak v1 t1 (by omega) (fun x hx=>by omega) (fun x=>Iff.rfl)
 have one:sgL (spl2 l b d) (mateN d)=mateN d:=tak_one v1 (by omega)
 have g:∀ x,sgL (splitL l b d) x=aftF l.length (mateN d) (sgL (spl2 l b d)) x:=fun x=>sg_put v2 (by omega) (by omega) one x
 have n1:sgL (spl1 l d) l.length=l.length:=by
  show sgL (putL (edgL l) (l.length+1) (mateN d)) l.length=_
  rw [put_other (edg_inv h) (by rw [edg_len];omega) (by rw [edg_len];omega) al1 (by omega) (by omega)]
  exact edg_new l (Nat.le_refl _) (by omega)
 have n2:sgL (spl2 l b d) l.length=l.length:=by
  have:=sg_tak v1 (d:=mateN d) (by omega) (x:=l.length) (by omega) (by omega)
  unfold witF at this
  rw [n1,if_neg (by omega)] at this
  exact this
 have t3:=(t2.congr (g:=sgL (splitL l b d)) (T:=fun x=>(x < l.length∨x=l.length+1)∧x≠mateN d) (fun x hx=>by rw [g];unfold aftF;rw [if_neg (by omega),if_neg hx.2]) (fun x=>Iff.rfl)).snoc (v:=[l.length,mateN d])
  (List.nodup_cons.2 ⟨fun c=>by rw [List.mem_singleton] at c;omega,by simp⟩)
  (fun x hx c=>by
    rcases List.mem_cons.1 hx with q | q
    ·omega
    ·rw [List.mem_singleton] at q;exact c.2 q)
  (fun k hk=>by
    have:k=0∨k=1:=by simp at hk;omega
    rcases this with rfl | rfl
    ·show sgL (splitL l b d) l.length=mateN d
     rw [g];unfold aftF;rw [if_pos rfl]
    ·show sgL (splitL l b d) (mateN d)=l.length
     rw [g];unfold aftF;rw [if_neg (by omega),if_pos rfl,n2])
 refine t3.congr (fun _ _=>rfl) (fun x=>?_)
 rw [List.mem_cons,List.mem_singleton]
 by_cases c:x=mateN d
 ·omega
 ·omega
theorem flips_to (h:Inv l b) (he:l.length%2=0) {d:Nat} (hd:d < l.length) (hf:Flips l d):flp l b d≠d∧flp l b d≠mateN d∧flp l b (mateN d)≠mateN d∧sgL l d≠d∧sgL l (mateN d)≠mateN d:=by
 obtain ⟨p,q,r,s,x,R⟩:=flips_six h he hd hf
 obtain ⟨_,hel,hp,hq,hr,hs⟩:=x.ln
 have hme:mateN d=mt d:=mt_mateN d
 have hmd:mt (mt d)=d:=mt_mt d
 have lp:=mt_ltG he hp
 have lr:=mt_ltG he hr
 have back:∀ i j,i < l.length→sgL l i=j→sgL b j=i:=fun i j hi k=>by rw [← k];exact h.lb i hi
 have bq:=back _ _ lp R.pq
 have bs:=back _ _ lr R.rs
 have ph:∀ i,i < l.length→(phiL l).getD i 0=sgL l (mt i):=fun i hi=>phi_at l hi
 have o1:oppN l d=q:=by
  unfold oppN
  rw [ph d hd,R.ep,ph p hp,R.pq]
 have o2:oppN l (mt d)=s:=by
  unfold oppN
  rw [ph _ hel,hmd,R.dr,ph r hr,R.rs]
 have f1:flp l b d=mt p:=by unfold flp;rw [o1];exact bq
 have f2:flp l b (mt d)=mt r:=by unfold flp;rw [o2];exact bs
 rw [hme,f1,f2]
 refine ⟨fun k=>x.ep (by rw [← k,mt_mt]),fun k=>x.dp (by have:=congrArg mt k;rw [mt_mt,mt_mt] at this;exact this.symm),fun k=>x.dr (by have:=congrArg mt k;rw [mt_mt,mt_mt] at this;exact this.symm),?_,?_⟩
 ·rw [R.dr];exact fun k=>x.dr k.symm
 ·rw [R.ep];exact fun k=>x.ep k.symm
theorem flip_tell (h:Inv l b) (he:l.length%2=0) {d:Nat} (hd:d < l.length) (hf:Flips l d):Tells (flipR l b d) (sgL (flipL l b d)) (fun x=>x < l.length):=by
 obtain ⟨a1,a2,a3,-,-⟩:=flips_to h he hd hf
 have hm:=mateN_in he hd
 have hne:=mateN_ne d
 obtain ⟨v1,l1⟩:=fl1_inv h hd
 obtain ⟨v2,l2⟩:=fl2_inv h he hd
 obtain ⟨v3,l3⟩:=fl3_inv h he hd
 have f1:=(flp_lt h he hd).1
 have f2:=(flp_lt h he hm).1
 have t1:Tells ((rowsM l).map (witL d)) (sgL (fl1 l b d)) (fun x=>x < l.length∧x≠d):=tells_tak h (lists_tell h) hd (fun x hx=>hx) (fun x=>Iff.rfl)
 have t2:Tells (((rowsM l).map (witL d)).map (witL (mateN d))) (sgL (fl2 l b d)) (fun x=>(x < l.length∧x≠d)∧x≠mateN d):=tells_tak v1 t1 (by omega) (fun x hx=>by have:=hx.1;omega) (fun x=>Iff.rfl)
 have t3:Tells ((((rowsM l).map (witL d)).map (witL (mateN d))).map (aftL (flp l b d) d)) (sgL (fl3 l b d)) (fun x=>x < l.length∧x≠mateN d) :=
  tells_put v2 t2 (by omega) (by omega) (fl2_d h he hd) ⟨⟨f1,a1⟩,a2⟩ (fun c=>c.1.2 rfl) (fun x=>by
   constructor
   ·rintro (⟨⟨q1,q2⟩,q3⟩ | rfl)
    ·exact ⟨q1,q3⟩
    ·exact ⟨hd,hne.symm⟩
   ·rintro ⟨q1,q2⟩
    by_cases c:x=d
    ·exact .inr c
    ·exact .inl ⟨⟨q1,c⟩,q2⟩)
 exact tells_put v3 t3 (by omega) (by omega) (fl3_m h he hd hf.1) ⟨f2,a3⟩ (fun c=>c.2 rfl) (fun x=>by
   constructor
   ·rintro (⟨q1,q2⟩ | rfl)
    ·exact q1
    ·exact hm
   ·intro q1
    by_cases c:x=mateN d
    ·exact .inr c
    ·exact .inl ⟨q1,c⟩)
theorem star_tellj (h:Inv l b) {P:List Nat} (hP:∀ x,x∈P→x < l.length):∀ j,j≤P.length →
  Tells (starR (rowsM l) P l.length j) (sgL (starS l b P j).1) (fun x=>x < l.length∨∃ i,i < j∧x=l.length+2*i)∧TellR (sgL (starS l b P j).1) (hubN l.length j)
 | 0,_=>⟨(lists_tell h).congr (fun _ _=>rfl) (fun x=>⟨.inl,fun c=>by rcases c with c | ⟨i,hi,_⟩;exact c;omega⟩),fun k hk=>by simp [hubN] at hk⟩
 | j+1,hj=>by
   obtain ⟨t,u⟩:=star_tellj h hP j (by omega)
   obtain ⟨h1,h2⟩:=star_inv h hP j (by omega)
   have ha:P.getD j 0 < l.length:=hP _ (gD_mem (by omega))
   obtain ⟨q1,q2,q3⟩:=star_one h1 (a:=P.getD j 0) (by omega)
   have e:starS l b P (j+1)=if j=0 then (putL (edgL (starS l b P j).1) (starS l b P j).1.length (P.getD j 0),putB (edgL (starS l b P j).1) (edgL (starS l b P j).2) (starS l b P j).1.length (P.getD j 0)) else (putL (putL (edgL (starS l b P j).1) (starS l b P j).1.length (P.getD j 0)) ((starS l b P j).1.length+1) (l.length+1),putB (putL (edgL (starS l b P j).1) (starS l b P j).1.length (P.getD j 0)) (putB (edgL (starS l b P j).1) (edgL (starS l b P j).2) (starS l b P j).1.length (P.getD j 0)) ((starS l b P j).1.length+1) (l.length+1)):=rfl
   rw [e]
   clear e
   generalize (starS l b P j).1=p at *
   generalize (starS l b P j).2=pb at *
   obtain ⟨N,hN⟩:∃ N,N=l.length+2*j:=⟨_,rfl⟩
   rw [← hN] at h2
   rw [h2] at q1 q2 q3 ⊢
   obtain ⟨a,hga⟩:∃ a,a=P.getD j 0:=⟨_,rfl⟩
   rw [← hga] at ha q1 q2 q3 ⊢
   have dom:∀ x,(x < l.length∨∃ i,i < j∧x=l.length+2*i)→x < N:=fun x hx=>by
    rcases hx with hx | ⟨i,hi,hx⟩ <;> omega
   have t0:=t.congr (g:=sgL (edgL p)) (fun x hx=>edg_old p (by rw [h2];exact dom x hx)) (fun x=>Iff.rfl)
   have alN:=edg_new p (i:=N) (by omega) (by omega)
   have dj:∀ x,((x < l.length∨∃ i,i < j∧x=l.length+2*i)∨x=N)↔(x < l.length∨∃ i,i < j+1∧x=l.length+2*i):=fun x=>by
    constructor
    ·rintro ((q | ⟨i,hi,q⟩) | q)
     ·exact .inl q
     ·exact .inr ⟨i,by omega,q⟩
     ·exact .inr ⟨j,by omega,by omega⟩
    ·rintro (q | ⟨i,hi,q⟩)
     ·exact .inl (.inl q)
     ·by_cases c:i=j
      ·exact .inr (by rw [q,c,hN])
      ·exact .inl (.inr ⟨i,by omega,q⟩)
   have t1:Tells (starR (rowsM l) P l.length (j+1)) (sgL (putL (edgL p) N a)) (fun x=>x < l.length∨∃ i,i < j+1∧x=l.length+2*i):=by
    have:=tells_put (edg_inv h1) t0 (d:=N) (a:=a) (by rw [edg_len];omega) (by rw [edg_len];omega) alN (.inl ha) (fun c=>by have:=dom _ c;omega) dj
    have e2:starR (rowsM l) P l.length (j+1)=(starR (rowsM l) P l.length j).map (aftL a N):=by rw [hga,hN];rfl
    rw [e2];exact this
   have hm:∀ x,x∈hubN l.length j→x < N∧l.length < x:=fun x hx=>by
    obtain ⟨i,hi,q⟩:=(mem_hub _ _ _).1 hx
    omega
   have u1:TellR (sgL (putL (edgL p) N a)) (hubN l.length j):=u.congr fun x hx=>by
    obtain ⟨m1,m2⟩:=hm x hx
    rw [put_other (edg_inv h1) (by rw [edg_len];omega) (by rw [edg_len];omega) alN (by omega) (by omega)]
    exact edg_old p (by omega)
   generalize putL (edgL p) N a=q at *
   generalize putB (edgL p) (edgL pb) N a=qb at *
   by_cases c:j=0
   ·rw [if_pos c]
    refine ⟨t1,fun k hk=>?_⟩
    rw [hub_len] at hk
    subst c
    obtain rfl:k=0:=by omega
    show sgL q (l.length+2*0+1)=l.length+2*0+1
    rw [show l.length+2*0+1=N+1 by omega]
    exact q3
   ·rw [if_neg c]
    have g:∀ x,sgL (putL q (N+1) (l.length+1)) x=aftF (l.length+1) (N+1) (sgL q) x:=fun x=>sg_put q1 (by omega) (by omega) q3 x
    refine ⟨t1.congr (fun x hx=>?_) (fun x=>Iff.rfl),?_⟩
    ·rw [g];unfold aftF
     have:x≠l.length+1∧x≠N+1:=by rcases hx with hx | ⟨i,hi,hx⟩ <;> omega
     rw [if_neg this.1,if_neg this.2]
    ·show TellR (sgL (putL q (N+1) (l.length+1))) ((l.length+2*j+1) :: hubN l.length j)
     rw [show l.length+2*j+1=N+1 by omega]
     refine (cons_tell (f:=sgL q) (a:=l.length+1) (d:=N+1) (hub_nodup _ _) (fun c=>by have:=hm _ c;omega) u1 (by rw [hub_len];omega) ?_).congr fun x _=>g x
     rw [hub_len]
     obtain ⟨m,rfl⟩:∃ m,j=m+1:=⟨j - 1,by omega⟩
     exact hub_last _ _
noncomputable def starRows (l b:List Nat) (d:Nat):List (List Nat):=starR (rowsM l) (aheadN l b d) l.length (aheadN l b d).length++[hubN l.length (aheadN l b d).length]
theorem star_tell (h:Inv l b) (he:l.length%2=0) {d:Nat} (hd:d < l.length):Tells (starRows l b d) (sgL (starL l b d)) (fun x=>x < l.length+2*(aheadN l b d).length):=by
 obtain ⟨t,u⟩:=star_tellj h (ahead_lt h he hd).2.1 _ (Nat.le_refl _)
 refine (t.snoc (hub_nodup _ _) (fun x hx c=>?_) u).congr (fun _ _=>rfl) (fun x=>?_)
 ·obtain ⟨i,hi,q⟩:=(mem_hub _ _ _).1 hx
  rcases c with c | ⟨k,hk,c⟩ <;> omega
 ·rw [mem_hub]
  constructor
  ·rintro ((q | ⟨i,hi,q⟩) | ⟨i,hi,q⟩) <;> omega
  ·intro q
   by_cases c1:x < l.length
   ·exact .inl (.inl c1)
   ·by_cases c2:(x - l.length)%2=0
    ·exact .inl (.inr ⟨(x - l.length) / 2,by omega,by omega⟩)
    ·exact .inr ⟨(x - l.length) / 2,by omega,by omega⟩
theorem Tells.rowLe {os:List (List Nat)} {f:Nat→Nat} {S:Nat→Prop} (h:Tells os f S) {B:Nat} (hS:∀ x,S x→x < B):∀ r,r < os.length→(os.getD r []).length≤B:=fun r hr=>by
 have h1:=nodup_leP h.nd (n:=B) fun x hx=>hS x ((h.mem x).1 hx)
 have h2:os.getD r []∈os:=by rw [List.getD_eq_getElem?_getD,List.getElem?_eq_getElem hr];exact List.getElem_mem _
 have h3:=(List.sublist_flatten_of_mem h2).length_le
 omega
theorem Tells.count {os:List (List Nat)} {f:Nat→Nat} {n:Nat} (h:Tells os f fun x=>x < n):os.flatten.length=n:=by
 have:=((List.perm_ext_iff_of_nodup h.nd List.nodup_range).2 fun x=>by rw [h.mem,List.mem_range]:List.Perm os.flatten (List.range n)).length_eq
 rwa [List.length_range] at this
theorem rowsM_len (l:List Nat):(rowsM l).length≤l.length:=by
 unfold rowsM leads
 rw [List.length_map]
 exact Nat.le_trans (List.length_filter_le _ _) (by simp)
end Go.Proofs.YtdinmjciippchaaGreat
namespace Go.Proofs.YtdinmjciippchaaGreat
set_option maxRecDepth 100000
structure RW (w:World) (base g c:Nat) (os:List (List Nat)) (p:Nat):Prop where
 ex:∃ ps,GRow w base (some ⟨g,0,none⟩) c ps∧ps.map (·.2)=os
 len:os.length=p
 pos:0 < p
section
variable {w w':World} {base g c p:Nat} {os:List (List Nat)}
theorem RW.below (h:RW w base g c os p) (m:Below w.heap.size w w'):RW w' base g c os p:=by
 obtain ⟨ps,h1,h2⟩:=h.ex
 exact ⟨⟨ps,h1.below m,h2⟩,h.len,h.pos⟩
theorem RW.baseLe {base':Nat} (h:RW w base g c os p) (hb:base'≤base):RW w base' g c os p:=by
 obtain ⟨ps,h1,h2⟩:=h.ex
 exact ⟨⟨ps,h1.baseLe hb,h2⟩,h.len,h.pos⟩
theorem RW.rd (h:RW w base g c os p):RdRows w g os:=by
 obtain ⟨ps,h1,h2⟩:=h.ex
 rw [← h2];exact h1.rdRows
theorem RW.lt (h:RW w base g c os p):base≤g∧g < w.heap.size:=by
 obtain ⟨ps,h1,_⟩:=h.ex
 exact own_block h1.own
theorem RW.ofOut {e:Ending} (h:OutP w os p e w') (hp:0 < p):∃ g c,e=.returned (.slice (some ⟨g,0,none⟩) p c)∧RW w' w.heap.size g c os p∧Below w.heap.size w w':=by
 obtain ⟨A,c,ps,rfl,h1,h2,h3,h4⟩:=h
 have hl:ps.length=p:=by rw [← h3,← h2,List.length_map]
 obtain ⟨g,rfl,_,_⟩:=own_some h1.own (by omega)
 exact ⟨g,c,rfl,⟨⟨ps,h1,h2⟩,h3,hp⟩,h4⟩
def RWP (w:World) (os:List (List Nat)) (p:Nat) (e:Ending) (w':World):Prop:=∃ g c,e=.returned (.slice (some ⟨g,0,none⟩) p c)∧RW w' w.heap.size g c os p∧Below w.heap.size w w'
theorem after_q (h:RW w base g c os p) (at_ d:Nat) (hp:p≤40000) (hl:∀ r,r < os.length→(os.getD r []).length≤20000) :
  Calls Tryz.prog 63 #[.slice (some ⟨g,0,none⟩) p c,.int .i64 (at_:Int),.int .i64 (d:Int)] w (RWP w (os.map (aftL at_ d)) p) :=
 (rafter_p g p c at_ d os w h.rd h.len hp (fun r hr=>hl r (by rw [h.len];exact hr))).mono fun _ _ q=>RW.ofOut q h.pos
theorem without_q (h:RW w base g c os p) (d:Nat) (hp:p≤40000) (hl:∀ r,r < os.length→(os.getD r []).length≤20000) :
  Calls Tryz.prog 64 #[.slice (some ⟨g,0,none⟩) p c,.int .i64 (d:Int)] w (RWP w (os.map (witL d)) p) :=
 (rwithout_p g p c d os w h.rd h.len hp (fun r hr=>hl r (by rw [h.len];exact hr))).mono fun _ _ q=>RW.ofOut q h.pos
theorem made_q {o:List Nat} {n:Nat} (h:RW w base g c os p) (t:Tells os (sgL o) fun x=>x < n) (ho:o.length=n) (hn:n≤20000) (hp:p≤40000) (root lone:Int) :
  Calls Tryz.prog 66 #[.slice (some ⟨g,0,none⟩) p c,.int .i64 root,.int .i64 lone] w (NewRO w o root lone):=by
 have:=rmade23_p g p c n os root lone w h.rd h.len hn hp t.nd t.mem t.count
 rwa [t.zL ho] at this
theorem RW.snoc {Av:Option Addr} {cv:Nat} {v:List Nat} (h:RW w base g c os p) (hb:base≤w.heap.size) (hp:p≤40000) (hv:w.ownsRow base 3 1 (.slice Av v.length cv) v.length (I64 (ofN v))) (B:Nat) (hB:∀ k,(Value.slice Av v.length cv).ownBlock=some k→B≤k) {w0:World} (h0:RW w0 base g c os p) (hB0:w0.heap.size≤B) (hw:Below w0.heap.size w0 w) :
  ∃ g1 c1 w2,(Builtin.append_ #[68,68] 68 #[.slice (some ⟨g,0,none⟩) p c,.slice (some ⟨w.heap.size,0,none⟩) 1 1]).run Tryz.prog (w.alloc (.cells #[.slice Av v.length cv] 26))=.ok (.slice (some ⟨g1,0,none⟩) (p+1) c1) w2 ∧
   RW w2 base g1 c1 (os++[v]) (p+1)∧Below base w w2:=by
 obtain ⟨ps,q1,q2⟩:=h0.ex
 have hl:ps.length=p:=by rw [← h0.len,← q2,List.length_map]
 obtain ⟨A1,c1,w2,r1,r2,r3,_⟩:=(q1.below hw).snocW hb (by omega) hv (fun j hj k hk e=>by
  have:=((q1.inn j hj).2.lt k hk).2
  have:=hB k e
  omega)
 rw [hl] at r1
 have hl2:(ps++[((.slice Av v.length cv,v):GEl)]).length=p+1:=by rw [List.length_append,hl];rfl
 obtain ⟨g1,rfl,_,_⟩:=own_some r2.own (by omega)
 exact ⟨g1,c1,w2,r1,⟨⟨_,r2,by rw [List.map_append,q2];rfl⟩,by rw [List.length_append,h0.len];rfl,by omega⟩,r3⟩
theorem RW.push (h:RW w base g c os p) (hb:base≤w.heap.size) (hp:p≤40000) (v:List Nat) (hv:v.length≤100) :
  ∃ g1 c1 w2,(Builtin.append_ #[68,68] 68 #[.slice (some ⟨g,0,none⟩) p c,.slice (some ⟨w.heap.size+1,0,none⟩) 1 1]).run Tryz.prog ((w.alloc (.cells (I64 (ofN v)).toArray 3)).alloc (.cells #[.slice (some ⟨w.heap.size,0,none⟩) v.length v.length] 26))=.ok (.slice (some ⟨g1,0,none⟩) (p+1) c1) w2 ∧
   RW w2 base g1 c1 (os++[v]) (p+1)∧Below base w w2:=by
 have hal:Below w.heap.size w (w.alloc (.cells (I64 (ofN v)).toArray 3)):=(Below.refl _ _).alloc (Nat.le_refl _) _
 have hO:(w.alloc (.cells (I64 (ofN v)).toArray 3)).ownsRow w.heap.size 3 1 (.slice (some ⟨w.heap.size,0,none⟩) v.length v.length) v.length (I64 (ofN v)):=by
  have:=World.ownsRow_lit (base:=w.heap.size) (e:=3) (size:=1) w (I64 (ofN v)).toArray v.length (Nat.le_refl _) (by simp [maxLen];omega) (by simp [I64,ofN_len])
  simpa using this
 have hs:(w.alloc (.cells (I64 (ofN v)).toArray 3)).heap.size=w.heap.size+1:=by simp
 obtain ⟨g1,c1,w2,r1,r2,r3⟩:=RW.snoc (w:=w.alloc (.cells (I64 (ofN v)).toArray 3)) (h.below hal) (by omega) hp (hO.base_le' hb) w.heap.size (fun k hk=>by simp [Value.ownBlock] at hk;omega) h (Nat.le_refl _) hal
 rw [hs] at r1
 exact ⟨g1,c1,w2,r1,r2,(hal.mono hb).trans r3⟩
theorem hub_push {Ah:Option Addr} {ch:Nat} {v:List Nat} (ho:w.ownsRow base 3 1 (.slice Ah v.length ch) v.length (I64 (ofN v))) (hv:v.length≤100000) (x:Nat) :
  ∃ A1 c1 w2,(Builtin.append_ #[26,26] 26 #[.slice (some ⟨w.heap.size,0,none⟩) 1 1,.slice Ah v.length ch]).run Tryz.prog (w.alloc (.cells #[.int .i64 (x:Int)] 3))=.ok (.slice A1 (v.length+1) c1) w2 ∧
   w2.ownsRow w.heap.size 3 1 (.slice A1 (v.length+1) c1) (v.length+1) (I64 (ofN (x :: v)))∧Below w.heap.size w w2:=by
 obtain ⟨i0,hi0,hz0,hz1,hz2⟩:=info_parts info_int
 have hal:Below w.heap.size w (w.alloc (.cells #[.int .i64 (x:Int)] 3)):=(Below.refl _ _).alloc (Nat.le_refl _) _
 have hO:(w.alloc (.cells #[.int .i64 (x:Int)] 3)).ownsRow w.heap.size 3 1 (.slice (some ⟨w.heap.size,0,none⟩) 1 1) 1 (I64 [(x:Int)]):=by
  have:=World.ownsRow_lit (base:=w.heap.size) (e:=3) (size:=1) w #[.int .i64 (x:Int)] 1 (Nat.le_refl _) (by simp [maxLen]) (by simp)
  simpa [I64] using this
 have rd:=Rd.ofOwn (own_below ho hal)
 obtain ⟨v',w2,hrun,hnew,hgr,hob⟩:=run_append_rd (P:=Tryz.prog) (w.alloc (.cells #[.int .i64 (x:Int)] 3)) w.heap.size 26 26 3 i0 (.int .i64 0) 8 Tryz.underlying26 hi0 hz0 hz1 hz2 rfl _ _ _ hO _ Ah v.length ch _ rd (by
  intro u hu
  unfold I64 at hu
  obtain ⟨y,_,rfl⟩:=List.mem_map.1 hu
  rfl) (by simp only [maxLen];omega) (by omega) (by simp)
 obtain ⟨A1,c1,rfl,_,_⟩:=own_form hnew
 rw [Nat.add_comm 1 v.length] at hrun hnew
 exact ⟨A1,c1,w2,hrun,by rw [show I64 (ofN (x :: v))=I64 [(x:Int)]++I64 (ofN v) by simp [I64,ofN]];exact hnew,hal.trans (Below.appended hO hgr (by simp))⟩
end
def reRoot (p:List Nat) (root:Int):Int:=if root < 0 then -1 else ((p.getD root.toNat 0:Nat):Int)
theorem at_root (gp:Nat) (p q:List Nat) (root:Int) (w:World) (h:PermAt w gp p q) (hr:RootOk root p.length) :
  Calls Tryz.prog 108 #[.pointer (some ⟨gp,0,none⟩),.int .i64 root] w fun e w'=>e=.returned (.int .i64 (reRoot p root))∧w=w':=by
 rcases hr with ⟨h0,rfl⟩ | ⟨h0,h1,h2⟩
 ·exact at_out gp p q (-1) w h (.inl (by decide))
 ·obtain ⟨r,rfl⟩:∃ r:Nat,root=(r:Int):=⟨root.toNat,by omega⟩
  have:=at_in gp p q r w h (by omega)
  unfold reRoot
  rw [if_neg (by omega),Int.toNat_natCast]
  exact this
theorem reRoot_ok {n:Nat} {p q:List Nat} (h:Nam n p q) {root:Int} (hr:RootOk root n):RootOk (reRoot p root) n:=by
 unfold reRoot
 rcases hr with ⟨h0,rfl⟩ | ⟨h0,h1,h2⟩
 ·rw [if_pos (by decide)];exact .inl ⟨h0,rfl⟩
 ·rw [if_neg (by omega)]
  have:=h.lt (d:=root.toNat) (by omega)
  unfold sgL at this
  exact .inr ⟨h0,by omega,by omega⟩
def RelPost (w:World) (l b p q:List Nat) (root lone:Int) (e:Ending) (w':World):Prop :=
 (Nam l.length p q∧(∃ g',e=.returned (.tuple #[.pointer (some ⟨g',0,none⟩),.int .i64 0])∧MapAt w' g' (cjL p q l) (cjL p q b) (reRoot p root) lone)∧Below w.heap.size w w') ∨
 (¬ Nam l.length p q∧e=.returned (.tuple #[.pointer none,.int .i64 4])∧Below w.heap.size w w')
set_option maxHeartbeats 8000000 in
theorem relabel_p (g gp:Nat) (l b p q:List Nat) (root lone:Int) (w:World) (h:MapAt w g l b root lone) (kp:PermAt w gp p q) (hlen:p.length=l.length) (hi:Inv l b) (hip:Inv p q) (hr:RootOk root l.length) :
  Calls Tryz.prog 115 #[.pointer (some ⟨g,0,none⟩),.pointer (some ⟨gp,0,none⟩)] w (RelPost w l b p q root lone):=by
 have LN:=Lib.hid (len_p gp p q w kp)
 rw [hlen] at LN
 have DP:Hid (∀ W,Below w.heap.size w W→Calls Tryz.prog 39 #[.pointer (some ⟨g,0,none⟩)] W fun e w'=>e=.returned (.int .i64 (l.length:Int))∧Below W.heap.size W w'):=fun W m=>darts_p g l b root lone W (h.below m)
 have HM:=Lib.hid h
 have HK:=Lib.hid kp
 have HI:=Lib.hid hi
 have HIP:=Lib.hid hip
 have HPL:=Lib.hid hlen
 have HRT:=Lib.hid hr
 have HEV:Hid (l.length%2=0):=h.1.1
 have HLN:=Lib.hid h.1.2
 have hle:=h.2.1
 have hd0:decide (l.length=l.length)=true:=decide_eq_true rfl
 obtain ⟨i0,hi0,hz0,hz1,hz2⟩:=info_parts info_int
 have hmk:=run_make_one (P:=Tryz.prog) 26 3 i0 (.int .i64 0) 8 Tryz.underlying26 hi0 hz0 hz1 hz2 rfl .i64 .i64 l.length (by omega) (by omega)
 clear h kp hi hip hlen hr
 go_enter Tryz.func115,Tryz.ntmps115
 go_wp2_with fail
 refine LN.out.mono ?_
 rintro e w' ⟨rfl,rfl⟩
 have Z0:=Below.refl w.heap.size w
 go_wp2_with fail
 refine (DP.out _ Z0).mono ?_
 rintro e w0 ⟨rfl,b0⟩
 go_wp2_with fail
 refine (DP.out _ b0).mono ?_
 rintro e w1 ⟨rfl,b1⟩
 have B1:=Lib.hid (b0.trans (b1.mono b0.size))
 have OA:=Lib.hid (own_made w1 3 l.length (.int .i64 0) (by simp only [maxLen];omega))
 have BA:=Lib.hid ((Below.refl w1.heap.size w1).alloc (Nat.le_refl _) (.cells (List.replicate l.length (.int .i64 0)).toArray 3))
 clear b1 b0 Z0 DP LN
 go_wp2_with fail
 clear hmk
 go_loopw [24] (fun i wr=>∃ (k:Nat) (y:List Nat),k≤l.length∧i=.int .i64 (k:Int)∧Hid ((∀ j,j < k→sgL p (mt j)=mt (sgL p j))∧(∀ j,j < k→y.getD (sgL p j) 0=sgL p (sgL l j)))∧Hid (wr.ownsRow w1.heap.size 3 1 (.slice (some ⟨w1.heap.size,0,none⟩) l.length l.length) l.length (I64 (ofN y)))∧Hid (Below w1.heap.size w1 wr)) (fun i _=>l.length - (intOf i).toNat)
 case atStart=>exact ⟨0,List.replicate l.length 0,by omega,rfl,⟨fun j hj=>absurd hj (by omega),fun j hj=>absurd hj (by omega)⟩,Lib.hid (by simpa [I64,ofN] using OA.out),Lib.hid (by simpa using BA.out)⟩
 case round =>
  clear OA BA
  obtain ⟨k,y,hk,rfl,HY,HO,HB⟩:=hrel
  have hyl:Hid (y.length=l.length):=by show _=_;have:=own_lenI HO.out;rwa [ofN_len] at this
  by_cases hlt:k < l.length
  ·have hdk:decide (k < l.length)=true:=by rw [decide_eq_true_iff];exact hlt
   have HW:=Lib.hid (B1.out.trans (HB.out.mono B1.out.size))
   have hpk:sgL p k < l.length:=by have:=HIP.out.lt k (by rw [HPL.out];exact hlt);rw [HPL.out] at this;exact this
   have hmk:mt k < l.length:=mt_in HEV.out hlt
   have hlk:sgL l k < l.length:=HI.out.lt k hlt
   have BW:Hid (∀ W,Below wr.heap.size wr W→Below w.heap.size w W):=fun W m=>HW.out.trans (m.mono HW.out.size)
   have M1:Hid (∀ W,Below wr.heap.size wr W→Calls Tryz.prog 80 #[.pointer (some ⟨g,0,none⟩),.int .i64 (k:Int)] W fun e w'=>e=.returned (.int .i64 ((mt k:Nat):Int))∧Below W.heap.size W w'):=fun W m=>by
    have:=mate_in g l b root lone k W (HM.out.below (BW.out W m)) hlt
    rwa [mt_mateN] at this
   have P1:Hid (∀ W,Below wr.heap.size wr W→Calls Tryz.prog 108 #[.pointer (some ⟨gp,0,none⟩),.int .i64 ((mt k:Nat):Int)] W fun e w'=>e=.returned (.int .i64 ((sgL p (mt k):Nat):Int))∧W=w'):=fun W m=>at_in gp p q (mt k) W (HK.out.below (BW.out W m)) (by rw [HPL.out];exact hmk)
   have P2:Hid (∀ W,Below wr.heap.size wr W→Calls Tryz.prog 108 #[.pointer (some ⟨gp,0,none⟩),.int .i64 (k:Int)] W fun e w'=>e=.returned (.int .i64 ((sgL p k:Nat):Int))∧W=w'):=fun W m=>at_in gp p q k W (HK.out.below (BW.out W m)) (by rw [HPL.out];exact hlt)
   have M2:Hid (∀ W,Below wr.heap.size wr W→Calls Tryz.prog 80 #[.pointer (some ⟨g,0,none⟩),.int .i64 ((sgL p k:Nat):Int)] W fun e w'=>e=.returned (.int .i64 ((mt (sgL p k):Nat):Int))∧Below W.heap.size W w'):=fun W m=>by
    have:=mate_in g l b root lone (sgL p k) W (HM.out.below (BW.out W m)) hpk
    rwa [mt_mateN] at this
   have S1:Hid (∀ W,Below wr.heap.size wr W→Calls Tryz.prog 96 #[.pointer (some ⟨g,0,none⟩),.int .i64 (k:Int)] W fun e w'=>e=.returned (.int .i64 ((sgL l k:Nat):Int))∧Below W.heap.size W w'):=fun W m=>sigma_in g l b root lone k W (HM.out.below (BW.out W m)) hlt
   have P3:Hid (∀ W,Below wr.heap.size wr W→Calls Tryz.prog 108 #[.pointer (some ⟨gp,0,none⟩),.int .i64 ((sgL l k:Nat):Int)] W fun e w'=>e=.returned (.int .i64 ((sgL p (sgL l k):Nat):Int))∧W=w'):=fun W m=>at_in gp p q (sgL l k) W (HK.out.below (BW.out W m)) (by rw [HPL.out];exact hlk)
   have Z0:=Below.refl wr.heap.size wr
   by_cases hq:sgL p (mt k)=mt (sgL p k)
   ·have HY1:Hid ((∀ j,j < k+1→sgL p (mt j)=mt (sgL p j))∧(∀ j,j < k+1→(y.set (sgL p k) (sgL p (sgL l k))).getD (sgL p j) 0=sgL p (sgL l j))):=by
     refine ⟨fun j hj=>?_,fun j hj=>?_⟩
     ·by_cases e:j=k
      ·rw [e];exact hq
      ·exact HY.out.1 j (by omega)
     ·rw [getDN_setU _ _ _ _ (by rw [hyl.out];exact hpk)]
      by_cases e:j=k
      ·rw [if_pos (by rw [e]),e]
      ·have:sgL p j≠sgL p k:=fun c=>e (HIP.out.inj j k (by rw [HPL.out];omega) (by rw [HPL.out];exact hlt) c)
       rw [if_neg this];exact HY.out.2 j (by omega)
    generalize mt k=v1 at *
    generalize sgL p k=v2 at *
    rw [hq] at P1
    clear hq
    generalize mt v2=v3 at *
    generalize sgL l k=v4 at *
    generalize sgL p v4=v5 at *
    clear HY BW HM HK HI HIP HPL HRT HEV HLN hmk hlk
    have hdv:decide (v3=v3)=true:=decide_eq_true rfl
    go_wp2_with fail
    refine (M1.out _ Z0).mono ?_
    rintro e w2 ⟨rfl,z⟩
    have Z2:=Z0.trans (z.mono Z0.size)
    clear z
    go_wp2_with fail
    refine (P1.out _ Z2).mono ?_
    rintro e w' ⟨rfl,rfl⟩
    go_wp2_with fail
    refine (P2.out _ Z2).mono ?_
    rintro e w' ⟨rfl,rfl⟩
    go_wp2_with fail
    refine (M2.out _ Z2).mono ?_
    rintro e w3 ⟨rfl,z⟩
    have Z3:=Z2.trans (z.mono Z2.size)
    clear z
    go_wp2_with fail
    refine (P2.out _ Z3).mono ?_
    rintro e w' ⟨rfl,rfl⟩
    go_wp2_with fail
    refine (S1.out _ Z3).mono ?_
    rintro e w4 ⟨rfl,z⟩
    have Z4:=Z3.trans (z.mono Z3.size)
    clear z
    go_wp2_with fail
    refine (P3.out _ Z4).mono ?_
    rintro e w' ⟨rfl,rfl⟩
    have HO2:=Lib.hid (own_below HO.out Z4)
    have HB2:=Lib.hid (HB.out.trans (Z4.mono HB.out.size))
    have co:=own_cellI HO2.out v2 hpk
    have fo:=HO2.out.frozenAt v2
    generalize (ofN y).getD v2 0=u1 at co
    clear Z2 Z3 Z4 Z0 M1 M2 P1 P2 P3 S1 HO HB HW
    go_wp2_with fail
    have HO3:=Lib.hid (own_setNU HO2.out v2 v5)
    have HB3:=Lib.hid (HB2.out.setCell (p:=⟨w1.heap.size,v2,none⟩) (Nat.le_refl _) (.int .i64 (v5:Int)))
    go_roundw
    case rel=>exact ⟨k+1,y.set v2 v5,by omega,by go_num,HY1.out,HO3.out,HB3.out⟩
    case measure=>simp [intOf];omega
   ·have HNO:Hid (¬ Nam l.length p q):=fun c=>hq (c.mt k hlt)
    generalize mt k=v1 at *
    generalize sgL p k=v2 at *
    generalize sgL p v1=v6 at *
    generalize mt v2=v3 at *
    clear HY HM HK HI HIP HPL HRT HEV HLN hmk hlk S1 P3 BW
    have hdv:decide (v6=v3)=false:=decide_eq_false hq
    go_wp2_with fail
    refine (M1.out _ Z0).mono ?_
    rintro e w2 ⟨rfl,z⟩
    have Z2:=Z0.trans (z.mono Z0.size)
    clear z
    go_wp2_with fail
    refine (P1.out _ Z2).mono ?_
    rintro e w' ⟨rfl,rfl⟩
    go_wp2_with fail
    refine (P2.out _ Z2).mono ?_
    rintro e w' ⟨rfl,rfl⟩
    go_wp2_with fail
    refine (M2.out _ Z2).mono ?_
    rintro e w3 ⟨rfl,z⟩
    have Z3:=Z2.trans (z.mono Z2.size)
    clear z
    go_wp2_with fail
    go_ret2
    exact .inr ⟨HNO.out,rfl,HW.out.trans (Z3.mono HW.out.size)⟩
  ·obtain rfl:k=l.length:=by omega
   have hdk:decide (l.length < l.length)=false:=by simp
   have HN:Hid (Nam l.length p q):=⟨HIP.out,HPL.out,HEV.out,HY.out.1⟩
   have hye:y=cjL p q l:=by
    refine getD_ext (by rw [hyl.out,cjL_len]) fun i hi=>?_
    rw [hyl.out] at hi
    have:=HY.out.2 (sgL q i) (HN.out.lt' hi)
    rw [HN.out.pq hi] at this
    rw [this]
    exact (cjL_get p q l hi).symm
   subst hye
   have HR:=Lib.hid (Rd.ofOwn HO.out)
   have BR:=Lib.hid (B1.out.trans (HB.out.mono B1.out.size))
   have HMR:=Lib.hid (HM.out.below BR.out)
   have HKR:=Lib.hid (HK.out.below BR.out)
   have RP:Hid (∀ W,Below wr.heap.size wr W→Calls Tryz.prog 12 #[.pointer (some ⟨g,0,none⟩)] W fun e w'=>e=.returned (.int .i64 root)∧W=w'):=fun W m=>root_p g l b root lone W (HMR.out.below m)
   have LP:Hid (∀ W,Below wr.heap.size wr W→Calls Tryz.prog 13 #[.pointer (some ⟨g,0,none⟩)] W fun e w'=>e=.returned (.int .i64 lone)∧W=w'):=fun W m=>lone_p g l b root lone W (HMR.out.below m)
   have AP:Hid (∀ W,Below wr.heap.size wr W→Calls Tryz.prog 108 #[.pointer (some ⟨gp,0,none⟩),.int .i64 root] W fun e w'=>e=.returned (.int .i64 (reRoot p root))∧W=w'):=fun W m=>at_root gp p q root W (HKR.out.below m) (by rw [HPL.out];exact HRT.out)
   have NP:Hid (∀ W,Below wr.heap.size wr W→Calls Tryz.prog 7 #[.slice (some ⟨w1.heap.size,0,none⟩) l.length l.length,.int .i64 (reRoot p root),.int .i64 lone] W (NewMap W (cjL p q l) (cjL p q b) (reRoot p root) lone)):=fun W m=>new_ok _ l.length l.length (cjL p q l) (cjL p q b) (reRoot p root) lone W (HR.out.more m) (cj_inv HN.out HI.out) HEV.out hle (reRoot_ok HN.out HRT.out) HLN.out.1 HLN.out.2
   have Z0:=Below.refl wr.heap.size wr
   obtain ⟨rr,hrr⟩:∃ rr,reRoot p root=rr:=⟨_,rfl⟩
   rw [hrr] at AP NP
   clear hyl HY HO HB HMR HM HKR HK hlt hk
   go_wp2_with fail
   refine (RP.out _ Z0).mono ?_
   rintro e w' ⟨rfl,rfl⟩
   go_wp2_with fail
   refine (AP.out _ Z0).mono ?_
   rintro e w' ⟨rfl,rfl⟩
   go_wp2_with fail
   refine (LP.out _ Z0).mono ?_
   rintro e w' ⟨rfl,rfl⟩
   go_wp2_with fail
   refine (NP.out _ Z0).mono ?_
   rintro e w3 ⟨g3,rfl,hm3,b3,_⟩
   have HM3:=Lib.hid hm3
   have B3:=Lib.hid (BR.out.trans (b3.mono BR.out.size))
   clear hm3 b3
   go_wp2_with fail
   go_ret2
   exact .inl ⟨HN.out,⟨g3,rfl,by rw [hrr];exact HM3.out⟩,B3.out⟩
set_option maxRecDepth 20000
open Go Go.RowKit
section
variable {H:Type} {enc:TypeId × Value→H} {P:Program} {w:World} {base:Nat} {sp:Nat→Bool} {held:Bool}
end
theorem results_cell_tmp_row {P:Program} {fn:Func} {p u:Tmp} {ty:TypeId} (h:fn.results=#[.cell p ty,.tmp u]) (tmps:Array Value) (w:World) (g:Nat) (t:TypeId) (cs:Array Value) (fr:Nat × Nat) (d:TypeDesc)
  (hp:tmps.getD p undef=.pointer (some ⟨g,0,none⟩)) (hg:w.heap[g]?=some (.cells cs t fr))
  (hu:P.underlying ty=some d) (hd:(match d with | .struct _ | .array _ _=>true | _=>false)=true) (hi:(P.info? ty).map (·.size)=some cs.size) :
  (results fn tmps).run P w=.ok (.tuple #[.agg cs,tmps.getD u undef]) w:=by
 rw [results_cell_tmp h,hp]
 simp [asAddr,run_loadVar_row w g t ty cs fr d hg hu hd hi,Result.andThen]
def DoOK (w:World) (o:List Nat) (root lone:Int) (e:Ending) (w':World):Prop :=
 ∃ A c,e=.returned (.tuple #[.agg #[.slice A o.length c,.int .i64 root,.int .i64 lone],.int .i64 0])∧o.length≤c∧c≤maxLen∧w'.ownsRow w.heap.size 3 1 (.slice A o.length c) o.length (I64 (ofN o))∧Below w.heap.size w w'
def DoNo (w:World) (A:Option Addr) (n c:Nat) (root lone err:Int) (e:Ending) (w':World):Prop :=
 e=.returned (.tuple #[.agg #[.slice A n c,.int .i64 root,.int .i64 lone],.int .i64 err])∧Below w.heap.size w w'
theorem rowsM_pos {l:List Nat} (h:0 < l.length):0 < (rowsM l).length:=by
 have:0∈leads l l.length:=mem_leads.2 ⟨h,fun j hj=>absurd hj (by omega)⟩
 unfold rowsM
 rw [List.length_map]
 exact List.length_pos_of_mem this
theorem lists_q (A:Option Addr) (c:Nat) (l b:List Nat) (root lone:Int) (w:World) (h:Rd w w.heap.size A l.length (I64 (ofN l))) (hinv:Inv l b) (hn:l.length≤20000) (h0:0 < l.length) :
  Calls Tryz.prog 62 #[.agg #[.slice A l.length c,.int .i64 root,.int .i64 lone]] w (RWP w (rowsM l) (rowsM l).length):=by
 have e:met l l.length=(rowsM l).length:=by unfold rowsM;rw [List.length_map];rfl
 refine (rlists_p A c l b root lone w h hinv hn).mono fun en w' q=>?_
 rw [e] at q
 exact RW.ofOut q (rowsM_pos h0)
set_option maxHeartbeats 8000000 in
theorem rdo23_out (A:Option Addr) (n c:Nat) (root lone k d e:Int) (w:World) (hn:n≤1000000) (hout:(d < 0∨(n:Int)≤d)∨(k=1∧(e < 0∨(n:Int)≤e))) :
  Calls Tryz.prog 26 #[.agg #[.slice A n c,.int .i64 root,.int .i64 lone],.int .i64 k,.int .i64 d,.int .i64 e] w (DoNo w A n c root lone 1):=by
 have hb0:=((Below.refl w.heap.size w).alloc (Nat.le_refl _) (.cells #[.slice A n c,.int .i64 root,.int .i64 lone] 28)).alloc (by simp) (.cells #[.slice none 0 0,.int .i64 0,.int .i64 0] 28)
 have HX:=Lib.hid ((Blk.new w 28 #[.slice A n c,.int .i64 root,.int .i64 lone]).alloc (.cells #[.slice none 0 0,.int .i64 0,.int .i64 0] 28))
 have hy:=(Blk.new (w.alloc (.cells #[.slice A n c,.int .i64 root,.int .i64 lone] 28)) 28 #[.slice none 0 0,.int .i64 0,.int .i64 0])
 rw [show (w.alloc (.cells #[.slice A n c,.int .i64 root,.int .i64 lone] 28)).heap.size=w.heap.size+1 by simp] at hy
 have HY:=Lib.hid hy
 have HB0:=Lib.hid hb0
 have HINF:=Lib.hid info_rmap
 have HO:=Lib.hid hout
 clear hb0 hy hout
 go_enter Tryz.func26,Tryz.ntmps26
 go_upto_region 1 with fail
 generalize hw3:(w.alloc (.cells #[.slice A n c,.int .i64 root,.int .i64 lone] 28)).alloc (.cells #[.slice none 0 0,.int .i64 0,.int .i64 0] 28)=w3 at *
 have hs3:w3.heap.size=w.heap.size+2:=by rw [← hw3];simp
 obtain ⟨x0,x1,x2⟩:w3.cell? ⟨w.heap.size,0,none⟩=some (.slice A n c)∧w3.cell? ⟨w.heap.size,1,none⟩=some (.int .i64 root)∧w3.cell? ⟨w.heap.size,2,none⟩=some (.int .i64 lone):=⟨HX.out.cell 0,HX.out.cell 1,HX.out.cell 2⟩
 have q0:=HY.out.cell 0
 have q1:=HY.out.cell 1
 have q2:=HY.out.cell 2
 have f0:=HY.out.frozen 0
 have f1:=HY.out.frozen 1
 have f2:=HY.out.frozen 2
 simp at q0 q1 q2
 have MM:=Lib.hid (box_mod w3 (w.heap.size+1) (.slice A n c) (.int .i64 root) (.int .i64 lone))
 have hblk:Hid (Blk (((w3.setCell ⟨w.heap.size+1,0,none⟩ (.slice A n c)).setCell ⟨w.heap.size+1,1,none⟩ (.int .i64 root)).setCell ⟨w.heap.size+1,2,none⟩ (.int .i64 lone)) (w.heap.size+1) 28 #[.slice A n c,.int .i64 root,.int .i64 lone]):=by
  show Blk _ _ _ _
  have:=((HY.out.set_ 0 (.slice A n c)).set_ 1 (.int .i64 root)).set_ 2 (.int .i64 lone)
  simpa using this
 clear hw3
 go_upto_region 2 with fail
 go_cut [43] from 24 to 44 (fun v wx=>v=.bool true∧wx=w3)
 case first =>
  by_cases d0:d < 0
  ·have d0b:decide (d < 0)=true:=decide_eq_true d0
   go_wp2_with fail
   go_meet
   exact ⟨rfl,rfl⟩
  ·have d0b:decide (d < 0)=false:=decide_eq_false d0
   by_cases d1:(n:Int)≤d
   ·have d1b:decide ((n:Int)≤d)=true:=decide_eq_true d1
    go_wp2_with fail
    go_meet
    exact ⟨rfl,rfl⟩
   ·have d1b:decide ((n:Int)≤d)=false:=decide_eq_false d1
    obtain ⟨hk,he⟩:k=1∧(e < 0∨(n:Int)≤e):=by
     rcases HO.out with (q | q) | q
     ·exact absurd q d0
     ·exact absurd q d1
     ·exact q
    subst hk
    by_cases e0:e < 0
    ·have e0b:decide (e < 0)=true:=decide_eq_true e0
     clear he
     go_wp2_with fail
     go_meet
     exact ⟨rfl,rfl⟩
    ·have e0b:decide (e < 0)=false:=decide_eq_false e0
     have e1:(n:Int)≤e:=by omega
     have e1b:decide ((n:Int)≤e)=true:=decide_eq_true e1
     clear he
     go_wp2_with fail
     go_meet
     exact ⟨rfl,rfl⟩
 case rest =>
  obtain ⟨rfl,rfl⟩:=hcut
  clear HO
  go_wp2_with fail
  refine bodyPost_ret (results_cell_tmp_row rfl _ _ (w.heap.size+1) 28 _ (0,0) _ rfl hblk.out Tryz.underlying28 rfl HINF.out) rfl ?_
  exact ⟨rfl,HB0.out.trans (MM.out.belowB (by omega) fun i hi q=>by omega)⟩
end Go.Proofs.YtdinmjciippchaaGreat
