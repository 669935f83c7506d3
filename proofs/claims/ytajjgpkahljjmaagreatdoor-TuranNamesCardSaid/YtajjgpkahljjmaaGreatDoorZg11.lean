/- find, back: the last block up to one where the excess is low. -/
import Derived.Test.YtajjgpkahljjmaaGreatDoorZg10
import Derived.Deep.RegionHeld3
import Derived.Test.YtajjgpkahljjmaaGreatDoorZg5
import Derived.Test.YtajjgpkahljjmaaGreatDoorZg8
import Derived.Test.YtajjgpkahljjmaaGreatDoorZg9
import Derived.Test.YtajjgpkahljjmaaGreatDoorZg6
import Derived.Test.YtajjgpkahljjmaaGreatDoorZg1
open Go.RowKit
set_option linter.unusedVariables false
namespace Go.Proofs.YtajjgpkahljjmaaGreatDoor
set_option maxRecDepth 20000
theorem Hang.left {H x k a:Nat} (h:Hang H x k a) (h0:0 < a):∃ a',a'+2 ^ k=a∧Hang H (x - 1) k a':=by
 obtain ⟨h1,h2,h3⟩:=h
 have hp:0 < 2 ^ k:=Nat.two_pow_pos k
 have e1:2 ^ H=2 ^ (H - k)*2 ^ k:=by rw [← Nat.pow_add,show H - k+k=H by omega]
 have l1:2 ^ (H - k) < x:=by
  rcases Nat.lt_or_ge (2 ^ (H - k)) x with g | g
  ·exact g
  ·have:=Nat.mul_le_mul_right (2 ^ k) g;omega
 have l2:=Nat.mul_le_mul_right (2 ^ k) (show 2 ^ (H - k)+1≤x from l1)
 rw [Nat.add_mul,Nat.one_mul,← e1] at l2
 have e2:(x - 1)*2 ^ k=2 ^ H+a - 2 ^ k:=by rw [Nat.sub_mul,Nat.one_mul,h1]
 exact ⟨a - 2 ^ k,by omega,by rw [e2];omega,h2,by omega⟩
def FindB (w:World) (E:Nat→Int) (n j:Nat) (m:Int) (e:Ending) (w':World):Prop:=∃ r:Nat,e=.returned (.int .i64 (r:Int))∧LastB E n j m r∧Below w.heap.size w w'
set_option maxHeartbeats 4000000 in
theorem find_b (w:World) (E:Nat→Int) (hE:Exc E) (n S H M:Nat) (T:Nat→Int × Int) (h:TrAt w E n S H M T) (hn:n≤1000000) (c j:Nat) (m:Int) (hj:512*(j+1)≤n)
  (ht:∃ t,t≤j∧Has E n t (t+1) m) :
  Calls Tryz.prog 198 #[.slice (some ⟨S,0,none⟩) M c,.int .i64 (j:Int),.int .i64 (-1),.int .i64 (E (512*(j+1))),.int .i64 m] w (FindB w E n j m):=by
 obtain ⟨t,ht1,ht3⟩:=ht
 have HT3:=Lib.hid ht3
 have HE:=Lib.hid hE
 have HX:=Lib.hid h
 have hM:=h.hM
 have hL9:=h.lv.le (by omega)
 have hBL:=h.lv.1
 have LF:=Lib.hid (leafk_p w (some ⟨S,0,none⟩) M c (2 ^ H) j hM (by omega) (by omega))
 have L0:=Lib.hid fun w'=>leaf0_p w' (some ⟨S,0,none⟩) M c (2 ^ H) hM (by omega)
 have AT:=Lib.hid fun w' (b':Below w.heap.size w w') x k a (hx:Hang H x k a)=>node_p hE (h.below b') hn c x k a hx
 have hb0:=hE.bound (512*(j+1))
 have hang0:Hid (Hang H (2 ^ H+j) 0 j):=⟨by rw [Nat.pow_zero,Nat.mul_one],by omega,by omega⟩
 have hp0:0 < 2 ^ H:=Nat.two_pow_pos H
 generalize hy0:E (512*(j+1))=y0 at *
 have HY0:=Lib.hid hy0
 generalize hPL:2 ^ H=L at *
 have HPL:=Lib.hid hPL
 have htL:t < L:=by omega
 clear h hE ht3 hy0 hPL
 go_enter Tryz.func198,Tryz.ntmps198
 go_wp2_with fail
 refine LF.out.mono ?_
 rintro e w1 ⟨rfl,rfl⟩
 clear LF
 go_wp2_with fail
 go_loopw [3,11] (fun z v wr=>∃ (x k a:Nat) (y:Int),v=.int .i64 (x:Int)∧z=.int .i64 y∧-1000000≤y∧y≤1000000∧x≤2*L∧1≤x∧a≤j∧Hid (a+2 ^ k≤j+1)∧Hid (t < a+2 ^ k)∧Hid (y=E (512*(a+2 ^ k)))∧Hid (Hang H x k a)∧Hid (NoHas E n (a+2 ^ k) (j+1) m)∧Hid (Below w.heap.size w wr)) (fun _ v _=>posn H (intOf v).toNat)
 case atStart=>exact ⟨L+j,0,j,y0,rfl,rfl,by omega,by omega,by omega,by omega,by omega,Nat.le_refl _,by show t < j+2 ^ 0;omega,HY0.out.symm,hang0.out,fun i h1 h2=>by omega,Below.refl _ _⟩
 case round =>
  clear hang0 HY0
  obtain ⟨x,k,a,y,rfl,rfl,hy1,hy2,hx9,hx1,haj,hej,het,hy,hh,hno,hbel⟩:=hrel
  have han:512*a < n:=by omega
  have hend:=node_end hh.out.2.1 hh.out.1 hh.out.2.2
  rw [HPL.out] at hend
  have hpk:0 < 2 ^ k:=Nat.two_pow_pos k
  have A1:=Lib.hid (AT.out wr hbel.out x k a hh.out)
  have hfit:=nd_fits HE.out hn a (a+2 ^ k)
  have HI:=Lib.hid (has_back (E:=E) (n:=n) (a:=a) (b:=a+2 ^ k) han (by omega) m)
  have ND:=Lib.hid (nd_end (E:=E) (n:=n) (a:=a) (b:=a+2 ^ k) han (by omega))
  rw [Nat.min_eq_left (by have:=hej.out;omega),← hy.out] at HI ND
  obtain ⟨ee,hee⟩:∃ ee,a+2 ^ k=ee:=⟨_,rfl⟩
  rw [hee] at A1 hfit HI ND hend hej het hno hy
  have hae:a < ee:=by omega
  have HP1:Hid (posn H x=L+a):=by show _=_;rw [hh.out.posn,HPL.out]
  obtain ⟨p,hp⟩:∃ p,nd E n a ee=p:=⟨_,rfl⟩
  rw [hp] at A1 hfit HI ND
  have HEE:=Lib.hid hee
  have HPN:=Lib.hid hp
  clear hp hee hpk
  obtain ⟨s,l⟩:=p
  have hs1:=hfit.a1
  have hs2:=hfit.a2
  have HFIT:=Lib.hid hfit
  simp only at hs1 hs2 HI ND
  clear hfit
  by_cases hhas:y - s+l≤m
  ·have HF:=Lib.hid fun w'=>has_b w' (s,l) y m HFIT.out (by omega)
   simp only at HF
   rw [show decide (y - s+l≤m)=true from decide_eq_true hhas] at HF
   have HHS:Hid (Has E n a (a+2 ^ k) m):=by show Has _ _ _ _ _;rw [HEE.out];exact HI.out.1 hhas
   clear hhas HI ND
   go_wp2_with fail
   refine A1.out.mono ?_
   rintro e w2 ⟨rfl,b2⟩
   have hb2:Hid (Below w.heap.size w w2):=hbel.out.trans (b2.mono hbel.out.size)
   clear A1 b2
   go_wp2_with fail
   refine (HF.out w2).mono ?_
   rintro e w3 ⟨rfl,b3⟩
   have hb3:Hid (Below w.heap.size w w3):=hb2.out.trans (b3.mono hb2.out.size)
   clear b3 hb2 HF
   go_wp2_with fail
   go_loopw [3,11] (fun z v wq=>∃ (x k a:Nat) (y:Int),v=.int .i64 (x:Int)∧z=.int .i64 y∧-1000000≤y∧y≤1000000∧x≤2*L∧a≤j∧Hid (a+2 ^ k≤j+1)∧Hid (y=E (512*(a+2 ^ k)))∧Hid (Hang H x k a)∧Hid (NoHas E n (a+2 ^ k) (j+1) m)∧Hid (Has E n a (a+2 ^ k) m)∧Hid (Below w.heap.size w wq)) (fun _ v _=>2*L - (intOf v).toNat)
   case atStart=>exact ⟨x,k,a,y,rfl,rfl,by omega,by omega,by omega,by omega,by rw [HEE.out];exact hej.out,by rw [HEE.out];exact hy.out,hh.out,by rw [HEE.out];exact hno.out,HHS.out,hb3.out⟩
   case round =>
    clear hy hh hno HHS hb3 hbel HEE HPN HFIT hend HP1 hs1 hs2 hae het hej han haj hx9 hx1 hy1 hy2
    obtain ⟨x,k,a,y,rfl,rfl,hy1,hy2,hx9,haj,hej,hy,hh,hno,hhs,hbel⟩:=hrel
    have han:512*a < n:=by omega
    cases k with
    | zero =>
      have hx:x=L+a:=by have:=hh.out.1;rw [Nat.pow_zero,HPL.out] at this;omega
      subst hx
      go_wp2_with (go_at_call 205;refine (L0.out _).mono ?_;rintro e w' ⟨rfl,rfl⟩)
      go_ret
      exact ⟨a,congrArg (fun z=>Ending.returned (.int .i64 z)) (by omega),⟨haj,hhs.out,hno.out⟩,hbel.out⟩
    | succ k =>
      obtain ⟨q1,q2,q3⟩:=node_kids hh.out.2.1 hh.out.1 hh.out.2.2
      have hpk:0 < 2 ^ k:=Nat.two_pow_pos k
      have hk1:Hid (Hang H (x*2) k a):=⟨by rw [Nat.mul_comm x 2];exact q1,by have:=hh.out.2.1;omega,hh.out.2.2⟩
      have hk2:Hid (Hang H (x*2+1) k (a+2 ^ k)):=⟨by rw [Nat.mul_comm x 2];exact q2,by have:=hh.out.2.1;omega,q3⟩
      have hend:=node_end hk2.out.2.1 hk2.out.1 hk2.out.2.2
      rw [HPL.out] at hend
      have hxL:x < L:=by omega
      have hx1:1≤x:=(node_end hh.out.2.1 hh.out.1 hh.out.2.2).2.1
      have e2:((x*2:Nat):Int)=(x:Int)*2:=by omega
      have e3:((x*2+1:Nat):Int)=(x:Int)*2+1:=by omega
      have IF:=Lib.hid fun w'=>isFar_b w' (x*2) (by omega)
      rw [show decide (x*2%2=0)=true from decide_eq_true (by omega),e2] at IF
      have HH2:Hid (Has E n a (a+2 ^ k+2 ^ k) m):=by
       show Has _ _ _ _ _
       have:=hhs.out
       rw [pow_up] at this
       rw [show a+2 ^ k+2 ^ k=a+2*2 ^ k by omega]
       exact this
      rw [pow_up,show a+2*2 ^ k=a+2 ^ k+2 ^ k by omega] at hej hy hno
      obtain ⟨b,hb⟩:∃ b,a+2 ^ k=b:=⟨_,rfl⟩
      rw [hb] at hej hy hno HH2 hk2
      have hejo:=hej.out
      have hbn:512*b < n:=by omega
      have A1:=Lib.hid fun w' b'=>AT.out w' b' (x*2+1) k b hk2.out
      rw [e3] at A1
      have hfit:=nd_fits HE.out hn b (b+2 ^ k)
      have HI:=Lib.hid (has_back (E:=E) (n:=n) (a:=b) (b:=b+2 ^ k) hbn (by omega) m)
      have ND:=Lib.hid (nd_end (E:=E) (n:=n) (a:=b) (b:=b+2 ^ k) hbn (by omega))
      rw [Nat.min_eq_left (by omega),← hy.out] at HI ND
      have HBB:=Lib.hid hb
      have hbj:b≤j:=by omega
      have hab:a≤b:=by omega
      obtain ⟨p,hp⟩:∃ p,nd E n b (b+2 ^ k)=p:=⟨_,rfl⟩
      rw [hp] at A1 hfit HI ND
      clear hp hb hpk q1 q2 q3 hh hhs hend e2 e3 hejo
      obtain ⟨s,l⟩:=p
      have hs1:=hfit.a1
      have hs2:=hfit.a2
      have HFIT:=Lib.hid hfit
      simp only at hs1 hs2 HI ND
      clear hfit
      by_cases hl:y - s+l≤m
      ·have HF:=Lib.hid fun w'=>has_b w' (s,l) y m HFIT.out (by omega)
       unfold ndv at HF A1
       simp only at HF A1
       rw [show decide (y - s+l≤m)=true from decide_eq_true hl] at HF
       have HHS:Hid (Has E n b (b+2 ^ k) m):=HI.out.1 hl
       clear hl HI ND HH2
       go_wp2_with (first
        | (go_at_call 205;refine (L0.out _).mono ?_;rintro e w' ⟨rfl,rfl⟩)
        | (go_at_call 209;refine (IF.out _).mono ?_;rintro e w' ⟨rfl,rfl⟩))
       refine (A1.out _ hbel.out).mono ?_
       rintro e w2 ⟨rfl,b2⟩
       have hb2:Hid (Below w.heap.size w w2):=hbel.out.trans (b2.mono hbel.out.size)
       clear A1 b2
       go_wp2_with fail
       refine (HF.out _).mono ?_
       rintro e w3 ⟨rfl,b3⟩
       have hb3:Hid (Below w.heap.size w w3):=(hb2.out.alloc hb2.out.size _).trans (b3.mono (by have:=hb2.out.size;simp;omega))
       clear b3 hb2 HF
       go_wp2_with fail
       go_roundw
       case rel=>exact ⟨x*2+1,k,b,y,by go_num,rfl,by omega,by omega,by omega,by omega,hej.out,hy.out,hk2.out,hno.out,HHS.out,hb3.out⟩
       case measure=>simp [intOf];omega
      ·have HF:=Lib.hid fun w'=>has_b w' (s,l) y m HFIT.out (by omega)
       unfold ndv at HF A1
       simp only at HF A1
       rw [show decide (y - s+l≤m)=false from decide_eq_false hl] at HF
       have HNL:¬ Has E n b (b+2 ^ k) m:=fun g=>hl (HI.out.2 g)
       have HHS:Hid (Has E n a (a+2 ^ k) m):=by show Has _ _ _ _ _;rw [HBB.out];exact HH2.out.splitL HNL hab
       have HNO:Hid (NoHas E n (a+2 ^ k) (j+1) m):=by show NoHas _ _ _ _ _;rw [HBB.out];exact hno.out.back HNL
       have NY:Hid (y - s=E (512*(a+2 ^ k))):=by show _=_;rw [HBB.out];have:=ND.out;omega
       have hb9:=HE.out.bound (512*b)
       have NY2:y - s=E (512*b):=by have:=ND.out;omega
       rw [← NY2] at hb9
       clear hl HI ND HH2 HNL NY2
       go_wp2_with (first
        | (go_at_call 205;refine (L0.out _).mono ?_;rintro e w' ⟨rfl,rfl⟩)
        | (go_at_call 209;refine (IF.out _).mono ?_;rintro e w' ⟨rfl,rfl⟩))
       refine (A1.out _ hbel.out).mono ?_
       rintro e w2 ⟨rfl,b2⟩
       have hb2:Hid (Below w.heap.size w w2):=hbel.out.trans (b2.mono hbel.out.size)
       clear A1 b2
       go_wp2_with fail
       refine (HF.out _).mono ?_
       rintro e w3 ⟨rfl,b3⟩
       have hb3:Hid (Below w.heap.size w w3):=(hb2.out.alloc hb2.out.size _).trans (b3.mono (by have:=hb2.out.size;simp;omega))
       have hc3:w3.cell? ⟨w2.heap.size,0,none⟩=some (.int .i32 s):=(b3.cell (p:=⟨w2.heap.size,0,none⟩) (by simp)).trans ((Blk.new w2 _ _).cell 0)
       clear b3 hb2 HF
       go_wp2_with fail
       go_roundw
       case rel=>exact ⟨x*2,k,a,y - s,congrArg (Value.int .i64) (by omega),congrArg (Value.int .i64) (by omega),by omega,by omega,by omega,by omega,by show a+2 ^ k≤j+1;rw [HBB.out];omega,NY.out,hk1.out,HNO.out,HHS.out,hb3.out⟩
       case measure=>simp [intOf];omega
  ·have HF:=Lib.hid fun w'=>has_b w' (s,l) y m HFIT.out (by omega)
   simp only at HF
   rw [show decide (y - s+l≤m)=false from decide_eq_false hhas] at HF
   have HNL:¬ Has E n a ee m:=fun g=>hhas (HI.out.2 g)
   have hta:t < a:=by
    rcases Nat.lt_or_ge t a with g | g
    ·exact g
    ·exact absurd (HT3.out.sub g (show t+1≤ee from het.out)) HNL
   have HNO:Hid (NoHas E n a (j+1) m):=hno.out.back HNL
   have NY:Hid (y - s=E (512*a)):=by show _=_;have:=ND.out;omega
   have hb9:=HE.out.bound (512*a)
   rw [← NY.out] at hb9
   have FS:=fld_nd (s,l)
   simp only at FS
   clear hhas HI ND HNL
   go_wp2_with fail
   refine A1.out.mono ?_
   rintro e w2 ⟨rfl,b2⟩
   have hb2:Hid (Below w.heap.size w w2):=hbel.out.trans (b2.mono hbel.out.size)
   clear A1 b2
   go_wp2_with fail
   refine (HF.out w2).mono ?_
   rintro e w3 ⟨rfl,b3⟩
   have hb3:Hid (Below w.heap.size w w3):=hb2.out.trans (b3.mono hb2.out.size)
   have A2:=Lib.hid (AT.out w3 hb3.out x k a hh.out)
   rw [HEE.out,HPN.out] at A2
   clear b3 hb2 HF
   go_wp2_with fail
   refine A2.out.mono ?_
   rintro e w4 ⟨rfl,b4⟩
   have hb4:Hid (Below w.heap.size w w4):=hb3.out.trans (b4.mono hb3.out.size)
   clear b4 hb3 A2
   go_wp2_with fail
   go_loop [11] (fun v=>∃ (x2 k2:Nat),v=.int .i64 (x2:Int)∧x2≤2*L∧1≤x2∧Hid (Hang H x2 k2 a)) (fun v=>(intOf v).toNat)
   case atStart=>exact ⟨x,k,rfl,by omega,by omega,hh.out⟩
   case round =>
    obtain ⟨x2,k2,rfl,hx2,hx21,hh2⟩:=hrel
    have IF:=Lib.hid fun w'=>isFar_b w' x2 (by omega)
    by_cases hodd:x2%2=0
    ·rw [show decide (x2%2=0)=true from decide_eq_true hodd] at IF
     obtain ⟨u1,u2⟩:=up_back hh2.out.1 hh2.out.2.2 hh2.out.2.1 hodd (by omega)
     have HH3:Hid (Hang H (x2 / 2) (k2+1) a):=⟨u1,u2,hh2.out.2.2⟩
     have hx31:=(node_end u2 u1 hh2.out.2.2).2.1
     clear hodd u1 u2
     go_wp2_with (go_at_call 209;refine (IF.out _).mono ?_;rintro e w' ⟨rfl,rfl⟩)
     go_round
     case rel=>exact ⟨x2 / 2,k2+1,congrArg (Value.int .i64) (by omega),by omega,hx31,HH3.out⟩
     case measure=>simp [intOf];omega
    ·rw [show decide (x2%2=0)=false from decide_eq_false hodd] at IF
     obtain ⟨a',ha',hk'⟩:=hh2.out.left (by omega)
     have HH3:=Lib.hid hk'
     have HA':=Lib.hid ha'
     have haa:a' < a:=by have:0 < 2 ^ k2:=Nat.two_pow_pos k2;omega
     have HP2:Hid (posn H (x2 - 1)=L+a'):=by show _=_;rw [HH3.out.posn,HPL.out]
     have hx31:=(node_end hk'.2.1 hk'.1 hk'.2.2).2.1
     clear hodd ha' hk'
     go_wp2_with (go_at_call 209;refine (IF.out _).mono ?_;rintro e w' ⟨rfl,rfl⟩)
     go_roundw
     case rel=>exact ⟨x2 - 1,k2,a',y - s,congrArg (Value.int .i64) (by omega),congrArg (Value.int .i64) (by omega),by omega,by omega,by omega,hx31,by omega,by show a'+2 ^ k2≤j+1;rw [HA'.out];omega,by show t < a'+2 ^ k2;rw [HA'.out];exact hta,by show _=E (512*(a'+2 ^ k2));rw [HA'.out];exact NY.out,HH3.out,by show NoHas _ _ (a'+2 ^ k2) _ _;rw [HA'.out];exact HNO.out,hb4.out⟩
     case measure =>
      show posn H ((x2:Int)+-1).toNat < posn H ((x:Int)).toNat
      rw [show ((x2:Int)+-1).toNat=x2 - 1 by omega,show ((x:Int)).toNat=x by omega,HP1.out,HP2.out]
      omega
theorem PAt.tr {w:World} {p g V n q:Nat} (h:PAt w p g V n true q):∃ S M K T,w.cell? ⟨p,4,none⟩=some (.slice (some ⟨S,0,none⟩) M M)∧TrAt w (exc V) n S K M T:=by
 obtain ⟨_,_,H,hb,S,M,K,T,h1,rfl,h3,h4,h5,h6⟩:=h
 exact ⟨S,M,K,T,hb.cell 4,RdT.ofBlk h3,h4,h3.lt,h5,h6⟩
def LeapF (w:World) (p g V n q b:Nat) (m:Int) (e:Ending) (w':World):Prop :=
 PAt w' p g V n true (q+1)∧Mod (fun i=>i=g) w w'∧∃ r:Nat,e=.returned (.int .i64 ((r:Int)*512))∧FirstB (exc V) n b m r
def LeapB (w:World) (p g V n q b:Nat) (m:Int) (e:Ending) (w':World):Prop :=
 PAt w' p g V n true (q+1)∧Mod (fun i=>i=g) w w'∧∃ r:Nat,e=.returned (.int .i64 (((r:Int)+1)*512))∧LastB (exc V) n b m r
theorem has_end {E:Nat→Int} {n b:Nat} {m:Int} (hB:Bal E n) (hb:512*b < n) (hm:0≤m):∃ t,b≤t∧512*t < n∧Has E n t (t+1) m :=
 ⟨(n - 1) / 512,by omega,by omega,n,by omega,by omega,by rw [hB.2];exact hm⟩
theorem has_start {E:Nat→Int} (hE:Exc E) {n b:Nat} {m:Int} (hm:0≤m):∃ t,t≤b∧Has E n t (t+1) m :=
 ⟨0,by omega,0,by omega,by omega,by rw [hE.zero];exact hm⟩
section
variable (p g V n q:Nat) (w:World)
set_option maxHeartbeats 4000000 in
theorem leap_f (b:Nat) (m:Int) (h:PAt w p g V n true q) (hB:Bal (exc V) n) (hb:512*b < n) (hm:0≤m) (hq:q≤1000000) :
  Calls Tryz.prog 187 #[.pointer (some ⟨p,0,none⟩),.int .i64 ((512*b:Nat):Int),.int .i64 1,.int .i64 m] w (LeapF w p g V n q b m):=by
 have hn:=h.n9
 obtain ⟨S,M,K,T,c4,htr⟩:=h.tr
 have hpl:=h.lt
 have EX:=Lib.hid (excess_p p g V n q true w.drew (512*b) (h.below (Below.refl _ _).drew) (by omega) hq)
 have BO:=Lib.hid fun w'=>bitOn_f w' ((512*b:Nat):Int)
 have HE:=Lib.hid (exc_Exc V)
 have HT:=Lib.hid (has_end hB hb hm)
 have FD:Hid (∀ w',PAt w' p g V n true (q+1)→w'.cell? ⟨p,4,none⟩=some (.slice (some ⟨S,0,none⟩) M M)→Calls Tryz.prog 198 #[.slice (some ⟨S,0,none⟩) M M,.int .i64 (b:Int),.int .i64 1,.int .i64 (exc V (512*b)),.int .i64 m] w' (FindF w' (exc V) n b m)):=fun w' h' c4'=>by
  obtain ⟨S9,M9,K9,T9,c9,t9⟩:=h'.tr
  obtain ⟨rfl,rfl⟩:S9=S∧M9=M:=by
   have:=c9.symm.trans c4'
   simp at this
   exact this
  exact find_f w' (exc V) HE.out n _ K9 _ T9 t9 hn _ b m hb HT.out
 have e1:((512*b:Nat):Int) / 512=(b:Int):=by omega
 have e2:((512*b:Nat):Int)=512*(b:Int):=by omega
 have HC4:=Lib.hid c4
 have hgp:=h.1
 have HP:=Lib.hid h
 obtain ⟨o,ho⟩:∃ o,512*b=o:=⟨_,rfl⟩
 rw [ho] at EX BO FD e1 ⊢
 clear h hB e2 htr ho
 go_enter Tryz.func187,Tryz.ntmps187
 go_wp2_with fail
 have c4d:w.drew.cell? ⟨p,4,none⟩=some (.slice (some ⟨S,0,none⟩) M M):=c4
 clear HC4
 have wb:IntKind.i64.wrap (b:Int)=(b:Int):=by rw [IntKind.wrap_i64];omega
 go_region_held3 (fun w'=>w'.cell? ⟨p,4,none⟩=some (.slice (some ⟨S,0,none⟩) M M))
  (assumption)
  (first
  | (go_at_call 159;(with_reducible refine (BO.out _).mono ?_);rintro e w' ⟨rfl,rfl⟩)
  | (go_at_call 174;(with_reducible refine EX.out.mono ?_);rintro e w9 ⟨rfl,h9,m9⟩;have c9:w9.cell? ⟨p,4,none⟩=some (.slice (some ⟨S,0,none⟩) M M):=(m9.cell (b:=p) hpl (by omega) 4).trans c4;have H9:=Lib.hid h9;have M9:=Lib.hid m9;clear h9 m9)
  | (go_at_call 198;(with_reducible refine (FD.out _ H9.out c9).mono ?_);rintro e w10 ⟨r,rfl,hr,b10⟩;have c10:w10.cell? ⟨p,4,none⟩=some (.slice (some ⟨S,0,none⟩) M M):=(b10.cell (p:=⟨p,4,none⟩) H9.out.lt).trans c9;have HR:=Lib.hid hr;have H10:=Lib.hid (H9.out.below b10);have M10:=Lib.hid ((Mod.drew (Mod.refl (fun i=>i=g) w)).trans (M9.out.trans (Mod.none_ b10 _) fun _ _ h=>h) fun _ _ h=>h);clear b10 hr))
 all_goals (
  have hr9:=HR.out.lt
  clear wb
  go_wp2_with fail
  go_ret
  exact ⟨H10.out,M10.out,r,rfl,HR.out⟩)
set_option maxHeartbeats 4000000 in
theorem leap_b (b:Nat) (m:Int) (h:PAt w p g V n true q) (hb:512*(b+1)≤n) (hm:0≤m) (hq:q≤1000000) :
  Calls Tryz.prog 187 #[.pointer (some ⟨p,0,none⟩),.int .i64 ((512*(b+1):Nat):Int),.int .i64 (-1),.int .i64 m] w (LeapB w p g V n q b m):=by
 have hn:=h.n9
 obtain ⟨S,M,K,T,c4,htr⟩:=h.tr
 have hpl:=h.lt
 have EX:=Lib.hid (excess_p p g V n q true w.drew (512*(b+1)) (h.below (Below.refl _ _).drew) (by omega) hq)
 have BO:=Lib.hid fun w'=>bitOn_b w' ((512*(b+1):Nat):Int) (by omega) (by omega)
 have HE:=Lib.hid (exc_Exc V)
 have HT:=Lib.hid (has_start (n:=n) (b:=b) HE.out hm)
 have FD:Hid (∀ w',PAt w' p g V n true (q+1)→w'.cell? ⟨p,4,none⟩=some (.slice (some ⟨S,0,none⟩) M M)→Calls Tryz.prog 198 #[.slice (some ⟨S,0,none⟩) M M,.int .i64 (b:Int),.int .i64 (-1),.int .i64 (exc V (512*(b+1))),.int .i64 m] w' (FindB w' (exc V) n b m)):=fun w' h' c4'=>by
  obtain ⟨S9,M9,K9,T9,c9,t9⟩:=h'.tr
  obtain ⟨rfl,rfl⟩:S9=S∧M9=M:=by
   have:=c9.symm.trans c4'
   simp at this
   exact this
  exact find_b w' (exc V) HE.out n _ K9 _ T9 t9 hn _ b m hb HT.out
 have e1:(((512*(b+1):Nat):Int) - 1) / 512=(b:Int):=by omega
 have HC4:=Lib.hid c4
 have hgp:=h.1
 have HP:=Lib.hid h
 obtain ⟨o,ho⟩:∃ o,512*(b+1)=o:=⟨_,rfl⟩
 have ho1:1≤o:=by omega
 rw [ho] at EX BO FD e1 ⊢
 clear h htr ho
 go_enter Tryz.func187,Tryz.ntmps187
 go_wp2_with fail
 have c4d:w.drew.cell? ⟨p,4,none⟩=some (.slice (some ⟨S,0,none⟩) M M):=c4
 clear HC4
 have wb:IntKind.i64.wrap (b:Int)=(b:Int):=by rw [IntKind.wrap_i64];omega
 have wo:IntKind.i64.wrap (((o:Int) - 1) / 512)=(b:Int):=by rw [e1,wb]
 have wt:IntKind.i64.wrap (((o:Int) - 1).tdiv 512)=(b:Int):=by rw [Int.tdiv_eq_ediv_of_nonneg (by omega),e1,wb]
 go_region_held3 (fun w'=>w'.cell? ⟨p,4,none⟩=some (.slice (some ⟨S,0,none⟩) M M))
  (assumption)
  (first
  | (go_at_call 159;(with_reducible refine (BO.out _).mono ?_);rintro e w' ⟨rfl,rfl⟩)
  | (go_at_call 174;(with_reducible refine EX.out.mono ?_);rintro e w9 ⟨rfl,h9,m9⟩;have c9:w9.cell? ⟨p,4,none⟩=some (.slice (some ⟨S,0,none⟩) M M):=(m9.cell (b:=p) hpl (by omega) 4).trans c4;have H9:=Lib.hid h9;have M9:=Lib.hid m9;clear h9 m9)
  | (go_at_call 198;(with_reducible refine (FD.out _ H9.out c9).mono ?_);rintro e w10 ⟨r,rfl,hr,b10⟩;have c10:w10.cell? ⟨p,4,none⟩=some (.slice (some ⟨S,0,none⟩) M M):=(b10.cell (p:=⟨p,4,none⟩) H9.out.lt).trans c9;have HR:=Lib.hid hr;have H10:=Lib.hid (H9.out.below b10);have M10:=Lib.hid ((Mod.drew (Mod.refl (fun i=>i=g) w)).trans (M9.out.trans (Mod.none_ b10 _) fun _ _ h=>h) fun _ _ h=>h);clear b10 hr))
 all_goals (
  have hr9:=HR.out.le
  clear wb wo wt
  go_wp2_with fail
  go_ret
  exact ⟨H10.out,M10.out,r,rfl,HR.out⟩)
def SeekF (w:World) (p g V n q i:Nat) (m:Int) (e:Ending) (w':World):Prop :=
 PAt w' p g V n true (q+3)∧Mod (fun i=>i=g) w w'∧∃ j:Nat,e=.returned (.int .i64 (j:Int))∧Fwd (exc V) i n m j
def SeekB (w:World) (p g V n q a:Nat) (m:Int) (e:Ending) (w':World):Prop :=
 PAt w' p g V n true (q+3)∧Mod (fun i=>i=g) w w'∧∃ j:Nat,e=.returned (.int .i64 (j:Int))∧Bwd (exc V) a m j
theorem land_f {E:Nat→Int} {n b r j i:Nat} {m:Int} (hi:i < 512*b) (h1:∀ k,i < k→k≤512*b→m < E k) (hr:FirstB E n b m r):(∀ k,i < k→k≤512*r→m < E k)∧∃ k,512*r < k∧k≤min (512*(r+1)) n∧E k≤m:=by
 have h2:∀ k,i < k→k≤512*r→m < E k:=fun k p q=>by
  rcases Nat.lt_or_ge (512*b) k with x | x
  ·have hx:=hr.none_ ((k - 1) / 512) (by omega) (by omega)
   rcases Int.lt_or_le m (E k) with y | y
   ·exact y
   ·exact absurd ⟨k,by omega,by have:=hr.lt;omega,y⟩ hx
  ·exact h1 k p x
 refine ⟨h2,?_⟩
 obtain ⟨k,k1,k2,k3⟩:=hr.has
 refine ⟨k,?_,k2,k3⟩
 rcases Nat.lt_or_ge (512*r) k with x | x
 ·exact x
 ·have:=h2 k (by have:=hr.le;omega) x;omega
theorem land_b {E:Nat→Int} {n b r a:Nat} {m:Int} (hb:512*(b+1)≤n) (ha:512*(b+1) < a) (h1:∀ k,512*(b+1)≤k→k < a→m < E k) (hr:LastB E n b m r):(∀ k,512*(r+1)≤k→k < a→m < E k)∧∃ k,512*r≤k∧k < 512*(r+1)∧E k≤m:=by
 have hrl:=hr.le
 have h2:∀ k,512*(r+1)≤k→k < a→m < E k:=fun k p q=>by
  rcases Nat.lt_or_ge k (512*(b+1)) with x | x
  ·have hx:=hr.none_ (k / 512) (by omega) (by omega)
   rcases Int.lt_or_le m (E k) with y | y
   ·exact y
   ·exact absurd ⟨k,by omega,by omega,y⟩ hx
  ·exact h1 k x q
 refine ⟨h2,?_⟩
 obtain ⟨k,k1,k2,k3⟩:=hr.has
 refine ⟨k,k1,?_,k3⟩
 rcases Nat.lt_or_ge k (512*(r+1)) with x | x
 ·exact x
 ·have:=h2 k x (by omega);omega
set_option maxHeartbeats 4000000 in
theorem seek_f (i:Nat) (m:Int) (h:PAt w p g V n true q) (hB:Bal (exc V) n) (hi:i < n) (hm:0≤m) (hq:q≤999000) :
  Calls Tryz.prog 175 #[.pointer (some ⟨p,0,none⟩),.int .i64 (i:Int),.int .i64 1,.int .i64 m] w (SeekF w p g V n q i m):=by
 have hn:=h.n9
 have S1:=Lib.hid (scan_f p g V n q true w i m h hB hi hm (by omega))
 have HB:=Lib.hid hB
 clear h hB
 go_enter Tryz.func175,Tryz.ntmps175
 go_wp2_with fail
 refine S1.out.mono ?_
 rintro e w2 ⟨h2,m2,j,⟨rfl,hf⟩ | ⟨rfl,hj,hjn,hab⟩⟩
 ·have H2:=Lib.hid h2
  have M2:=Lib.hid m2
  have HF:=Lib.hid hf
  clear h2 m2 hf S1
  go_wp2_with fail
  go_ret
  exact ⟨H2.out.le (by omega),M2.out,j,rfl,HF.out⟩
 ·obtain ⟨b,hb⟩:∃ b,i / 512+1=b:=⟨_,rfl⟩
  rw [hb] at hj
  have hib:i < 512*b:=by omega
  subst hj
  have LP:=Lib.hid (leap_f p g V n (q+1) w2 b m h2 HB.out hjn hm (by omega))
  have H2:=Lib.hid h2
  have M2:=Lib.hid m2
  have HAB:=Lib.hid hab
  obtain ⟨o,ho⟩:∃ o,512*b=o:=⟨_,rfl⟩
  have HO:=Lib.hid ho
  rw [ho] at LP hjn hib ⊢
  clear h2 m2 hab S1 hb ho
  go_wp2_with fail
  refine LP.out.mono ?_
  rintro e w3 ⟨h3,m3,r,rfl,hr⟩
  have hrn:=hr.lt
  have hrb:=hr.le
  obtain ⟨l1,l2⟩:=land_f (j:=0) (by rw [HO.out];exact hib) HAB.out hr
  have S2:=Lib.hid (scan_f p g V n (q+2) true w3 (512*r) m h3 HB.out hrn hm (by omega))
  rw [show ((512*r:Nat):Int)=(r:Int)*512 by omega] at S2
  have H3:=Lib.hid h3
  have M3:Hid (Mod (fun i=>i=g) w w3):=M2.out.trans m3 fun _ _ h=>h
  have L1:=Lib.hid l1
  have L2:=Lib.hid l2
  have hir:i≤512*r:=by have:=HO.out;omega
  clear h3 m3 hr l1 l2 LP M2 H2
  go_wp2_with fail
  refine S2.out.mono ?_
  rintro e w4 ⟨h4,m4,j,⟨rfl,hf⟩ | ⟨rfl,hj,hjn',hab⟩⟩
  ·have H4:=Lib.hid h4
   have M4:Hid (Mod (fun i=>i=g) w w4):=M3.out.trans m4 fun _ _ h=>h
   have HF:=Lib.hid (hf.on hir L1.out)
   clear h4 m4 hf S2
   go_wp2_with fail
   go_ret
   exact ⟨H4.out,M4.out,j,rfl,HF.out⟩
  ·exfalso
   obtain ⟨k,k1,k2,k3⟩:=L2.out
   have:=hab k k1 (by omega)
   omega
set_option maxHeartbeats 4000000 in
theorem seek_b (a:Nat) (m:Int) (h:PAt w p g V n true q) (ha:0 < a) (han:a≤n) (hm:0≤m) (hq:q≤999000) :
  Calls Tryz.prog 175 #[.pointer (some ⟨p,0,none⟩),.int .i64 (a:Int),.int .i64 (-1),.int .i64 m] w (SeekB w p g V n q a m):=by
 have hn:=h.n9
 have S1:=Lib.hid (scan_b p g V n q true w a m h ha han hm (by omega))
 clear h
 go_enter Tryz.func175,Tryz.ntmps175
 go_wp2_with fail
 refine S1.out.mono ?_
 rintro e w2 ⟨h2,m2,j,⟨rfl,hf⟩ | ⟨rfl,hj,hjn,hab⟩⟩
 ·have H2:=Lib.hid h2
  have M2:=Lib.hid m2
  have HF:=Lib.hid hf
  clear h2 m2 hf S1
  go_wp2_with fail
  go_ret
  exact ⟨H2.out.le (by omega),M2.out,j,rfl,HF.out⟩
 ·obtain ⟨b,hb⟩:∃ b,(a - 1) / 512=b+1:=⟨(a - 1) / 512 - 1,by omega⟩
  rw [hb] at hj
  have hib:512*(b+1) < a:=by omega
  subst hj
  have LP:=Lib.hid (leap_b p g V n (q+1) w2 b m h2 (by omega) hm (by omega))
  have H2:=Lib.hid h2
  have M2:=Lib.hid m2
  have HAB:=Lib.hid hab
  obtain ⟨o,ho⟩:∃ o,512*(b+1)=o:=⟨_,rfl⟩
  have HO:=Lib.hid ho
  rw [ho] at LP hib ⊢
  clear h2 m2 hab S1 hb ho
  go_wp2_with fail
  refine LP.out.mono ?_
  rintro e w3 ⟨h3,m3,r,rfl,hr⟩
  have hrb:=hr.le
  have hrn:512*(r+1)≤n:=by have:=HO.out;omega
  obtain ⟨l1,l2⟩:=land_b (by have:=HO.out;omega) (by rw [HO.out];exact hib) HAB.out hr
  have S2:=Lib.hid (scan_b p g V n (q+2) true w3 (512*(r+1)) m h3 (by omega) hrn hm (by omega))
  rw [show ((512*(r+1):Nat):Int)=((r:Int)+1)*512 by omega] at S2
  have H3:=Lib.hid h3
  have M3:Hid (Mod (fun i=>i=g) w w3):=M2.out.trans m3 fun _ _ h=>h
  have L1:=Lib.hid l1
  have L2:=Lib.hid l2
  have hir:512*(r+1)≤a:=by have:=HO.out;omega
  clear h3 m3 hr l1 l2 LP M2 H2
  go_wp2_with fail
  refine S2.out.mono ?_
  rintro e w4 ⟨h4,m4,j,⟨rfl,hf⟩ | ⟨rfl,hj,hjn',hab⟩⟩
  ·have H4:=Lib.hid h4
   have M4:Hid (Mod (fun i=>i=g) w w4):=M3.out.trans m4 fun _ _ h=>h
   have HF:=Lib.hid (hf.on hir L1.out)
   clear h4 m4 hf S2
   go_wp2_with fail
   go_ret
   exact ⟨H4.out,M4.out,j,rfl,HF.out⟩
  ·exfalso
   obtain ⟨k,k1,k2,k3⟩:=L2.out
   have:=hab k (by omega) (by omega)
   omega
end
end Go.Proofs.YtajjgpkahljjmaaGreatDoor
namespace Go.Proofs.YtajjgpkahljjmaaGreatDoor
set_option maxRecDepth 20000
def Two2 (g p:Nat) (i:Nat):Prop:=i=g∨i=p
theorem mod_g {w w':World} {g p:Nat} (h:Mod (fun i=>i=g) w w'):Mod (Two2 g p) w w':=h.mono fun _ _ h=>.inl h
theorem mod_p {w w':World} {g p:Nat} (h:Mod (fun i=>i=p) w w'):Mod (Two2 g p) w w':=h.mono fun _ _ h=>.inr h
theorem Mod.two {w w1 w2:World} {g p:Nat} (h:Mod (Two2 g p) w w1) (k:Mod (Two2 g p) w1 w2):Mod (Two2 g p) w w2:=h.trans k fun _ _ h=>h
def AskP (w:World) (p g V n q:Nat) (P:Int→Prop) (e:Ending) (w':World):Prop :=
 PAt w' p g V n true q∧Mod (Two2 g p) w w'∧∃ y:Int,e=.returned (.tuple #[.int .i64 y,.int .i64 0])∧P y∧-1000000≤y∧y≤1000000
section
variable (p g V n q:Nat) (d:Bool) (w:World)
set_option maxHeartbeats 4000000 in
theorem mate_yes (i:Nat) (hN:Nul w) (hpn:p≠1) (h:PAt w p g V n d q) (hB:Bal (exc V) n) (hi:i < n) (hq:q≤990000) :
  Calls Tryz.prog 168 #[.pointer (some ⟨p,0,none⟩),.int .i64 (i:Int)] w (AskP w p g V n (q+4) (MateOK (exc V) i)):=by
 have hn:=h.n9
 have LN:=Lib.hid (plen_p p g V n q w h.ix)
 have RO:=Lib.hid (ready_ok p g V n q d (i:Int) (i:Int) ((n:Int) - 1) w hN h hpn (by omega) (by omega) (by omega))
 have HB:=Lib.hid hB
 have HE:=Lib.hid (exc_Exc V)
 have hx:=exc_next V i
 have hbit:V / 2 ^ i%2=0∨V / 2 ^ i%2=1:=by omega
 clear h hB hN
 go_enter Tryz.func168,Tryz.ntmps168
 go_wp2_with (go_at_call 145;refine LN.out.mono ?_;rintro e w' ⟨rfl,rfl⟩)
 refine RO.out.mono ?_
 rintro e w2 ⟨rfl,h2,m2⟩
 have H2:=Lib.hid h2
 have M2:Hid (Mod (Two2 g p) w w2):=mod_p m2
 have OP:=Lib.hid (popen_in p g V n q w2 i h2.ix hi)
 clear h2 m2 RO LN
 rcases hbit with hb | hb
 ·rw [hb] at OP hx
  have e1:exc V (i+1)=exc V i - 1:=by omega
  have EX:=Lib.hid (excess_p p g V n q true w2 (i+1) H2.out (by omega) (by omega))
  rw [show ((i+1:Nat):Int)=(i:Int)+1 by omega] at EX
  have hm0:=HB.out.1 (i+1) (by omega)
  obtain ⟨y,hy⟩:∃ y,exc V (i+1)=y:=⟨_,rfl⟩
  rw [hy] at EX hm0
  have HY:=Lib.hid hy
  have E1:=Lib.hid e1
  clear hx hy e1 hb
  go_wp2_with (first
   | (go_at_call 126;refine OP.out.mono ?_;rintro e w' ⟨rfl,rfl⟩))
  refine EX.out.mono ?_
  rintro e w3 ⟨rfl,h3,m3⟩
  have SK:=Lib.hid (seek_b p g V n (q+1) w3 (i+1) y h3 (by omega) (by omega) hm0 (by omega))
  rw [show ((i+1:Nat):Int)=(i:Int)+1 by omega] at SK
  have M3:Hid (Mod (Two2 g p) w w3):=M2.out.two (mod_g m3)
  clear h3 m3 M2 EX
  go_wp2_with fail
  refine SK.out.mono ?_
  rintro e w4 ⟨h4,m4,j,rfl,hj⟩
  have H4:=Lib.hid h4
  have M4:Hid (Mod (Two2 g p) w w4):=M3.out.two (mod_g m4)
  have hjl:=hj.lt
  have OK:Hid (MateOK (exc V) i (j:Int)):=⟨j,rfl,.inr (Bwd.pair HE.out E1.out (by rw [HY.out];exact hj))⟩
  clear h4 m4 hj SK
  go_wp2_with fail
  go_ret2
  exact ⟨H4.out,M4.out,j,rfl,OK.out,by omega,by omega⟩
 ·rw [hb] at OP hx
  have e1:exc V (i+1)=exc V i+1:=by omega
  have EX:=Lib.hid (excess_p p g V n q true w2 i H2.out (by omega) (by omega))
  have hm0:=HB.out.1 i (by omega)
  obtain ⟨y,hy⟩:∃ y,exc V i=y:=⟨_,rfl⟩
  rw [hy] at EX hm0
  have HY:=Lib.hid hy
  have E1:=Lib.hid e1
  clear hx hy e1 hb
  go_wp2_with (first
   | (go_at_call 126;refine OP.out.mono ?_;rintro e w' ⟨rfl,rfl⟩))
  refine EX.out.mono ?_
  rintro e w3 ⟨rfl,h3,m3⟩
  have SK:=Lib.hid (seek_f p g V n (q+1) w3 i y h3 HB.out hi hm0 (by omega))
  have M3:Hid (Mod (Two2 g p) w w3):=M2.out.two (mod_g m3)
  clear h3 m3 M2 EX
  go_wp2_with fail
  refine SK.out.mono ?_
  rintro e w4 ⟨h4,m4,j,rfl,hj⟩
  have H4:=Lib.hid h4
  have M4:Hid (Mod (Two2 g p) w w4):=M3.out.two (mod_g m4)
  have hjl:=hj.lt
  have hjn:=hj.le
  have OK:Hid (MateOK (exc V) i ((j:Int) - 1)):=⟨j - 1,by omega,.inl (Fwd.pair HE.out E1.out (by rw [HY.out];exact hj))⟩
  clear h4 m4 hj SK
  go_wp2_with fail
  go_ret2
  exact ⟨H4.out,M4.out,(j:Int) - 1,rfl,OK.out,by omega,by omega⟩
set_option maxHeartbeats 4000000 in
theorem round_yes (i:Nat) (hN:Nul w) (hpn:p≠1) (h:PAt w p g V n d q) (hB:Bal (exc V) n) (hi:i < n) (hq:q≤990000) :
  Calls Tryz.prog 164 #[.pointer (some ⟨p,0,none⟩),.int .i64 (i:Int)] w (AskP w p g V n (q+4) (RoundOK (exc V) i)):=by
 have hn:=h.n9
 have LN:=Lib.hid (plen_p p g V n q w h.ix)
 have RO:=Lib.hid (ready_ok p g V n q d (i:Int) (i:Int) ((n:Int) - 1) w hN h hpn (by omega) (by omega) (by omega))
 have HB:=Lib.hid hB
 have HE:=Lib.hid (exc_Exc V)
 have hx:=exc_next V i
 have hbit:V / 2 ^ i%2=0∨V / 2 ^ i%2=1:=by omega
 clear h hB hN
 go_enter Tryz.func164,Tryz.ntmps164
 go_wp2_with (go_at_call 145;refine LN.out.mono ?_;rintro e w' ⟨rfl,rfl⟩)
 refine RO.out.mono ?_
 rintro e w2 ⟨rfl,h2,m2⟩
 have H2:=Lib.hid h2
 have M2:Hid (Mod (Two2 g p) w w2):=mod_p m2
 have OP:=Lib.hid (popen_in p g V n q w2 i h2.ix hi)
 clear h2 m2 RO LN
 rcases hbit with hb | hb
 ·rw [hb] at OP hx
  have e1:exc V (i+1)=exc V i - 1:=by omega
  have EX:=Lib.hid (excess_p p g V n q true w2 (i+1) H2.out (by omega) (by omega))
  rw [show ((i+1:Nat):Int)=(i:Int)+1 by omega] at EX
  have hm0:=HB.out.1 (i+1) (by omega)
  obtain ⟨y,hy⟩:∃ y,exc V (i+1)=y:=⟨_,rfl⟩
  rw [hy] at EX hm0
  have HY:=Lib.hid hy
  have E1:=Lib.hid e1
  clear hx hy e1 hb
  go_wp2_with (first
   | (go_at_call 126;refine OP.out.mono ?_;rintro e w' ⟨rfl,rfl⟩))
  refine EX.out.mono ?_
  rintro e w3 ⟨rfl,h3,m3⟩
  have H3:=Lib.hid h3
  have M3:Hid (Mod (Two2 g p) w w3):=M2.out.two (mod_g m3)
  clear h3 m3 M2 EX
  by_cases hy0:y=0
  ·have OK:Hid (RoundOK (exc V) i (-1)):=fun a ha=>by
    obtain rfl:a=i+1:=by have:=E1.out;rcases ha with x | x <;> omega
    rw [if_pos (by rw [HY.out];exact hy0)]
   subst hy0
   go_wp2_with fail
   go_ret2
   exact ⟨H3.out.le (by omega),M3.out,-1,rfl,OK.out,by omega,by omega⟩
  ·have g0:(y == 0)=false:=by rw [beq_eq_false_iff_ne];exact hy0
   have SK:=Lib.hid (seek_b p g V n (q+1) w3 (i+1) (y - 1) H3.out (by omega) (by omega) (by omega) (by omega))
   rw [show ((i+1:Nat):Int)=(i:Int)+1 by omega] at SK
   have hyb:=HE.out.bound (i+1)
   rw [HY.out] at hyb
   have HY0:=Lib.hid hy0
   clear hy0
   go_wp2_with fail
   refine SK.out.mono ?_
   rintro e w4 ⟨h4,m4,j,rfl,hj⟩
   have H4:=Lib.hid h4
   have M4:Hid (Mod (Two2 g p) w w4):=M3.out.two (mod_g m4)
   have hjl:=hj.lt
   have OK:Hid (RoundOK (exc V) i (j:Int)):=fun a ha=>by
    obtain rfl:a=i+1:=by have:=E1.out;rcases ha with x | x <;> omega
    rw [if_neg (by rw [HY.out];exact HY0.out),HY.out]
    exact ⟨j,rfl,hj⟩
   clear h4 m4 hj SK
   go_wp2_with fail
   go_ret2
   exact ⟨H4.out,M4.out,j,rfl,OK.out,by omega,by omega⟩
 ·rw [hb] at OP hx
  have e1:exc V (i+1)=exc V i+1:=by omega
  have EX:=Lib.hid (excess_p p g V n q true w2 i H2.out (by omega) (by omega))
  have hm0:=HB.out.1 i (by omega)
  obtain ⟨y,hy⟩:∃ y,exc V i=y:=⟨_,rfl⟩
  rw [hy] at EX hm0
  have HY:=Lib.hid hy
  have E1:=Lib.hid e1
  clear hx hy e1 hb
  go_wp2_with (first
   | (go_at_call 126;refine OP.out.mono ?_;rintro e w' ⟨rfl,rfl⟩))
  refine EX.out.mono ?_
  rintro e w3 ⟨rfl,h3,m3⟩
  have H3:=Lib.hid h3
  have M3:Hid (Mod (Two2 g p) w w3):=M2.out.two (mod_g m3)
  clear h3 m3 M2 EX
  by_cases hy0:y=0
  ·have OK:Hid (RoundOK (exc V) i (-1)):=fun a ha=>by
    obtain rfl:a=i:=by have:=E1.out;rcases ha with x | x <;> omega
    rw [if_pos (by rw [HY.out];exact hy0)]
   subst hy0
   go_wp2_with fail
   go_ret2
   exact ⟨H3.out.le (by omega),M3.out,-1,rfl,OK.out,by omega,by omega⟩
  ·have g0:(y == 0)=false:=by rw [beq_eq_false_iff_ne];exact hy0
   have hi0:0 < i:=by
    rcases Nat.eq_zero_or_pos i with x | x
    ·exfalso;subst x;have:=HE.out.zero;rw [HY.out] at this;exact hy0 this
    ·exact x
   have SK:=Lib.hid (seek_b p g V n (q+1) w3 i (y - 1) H3.out (by omega) (by omega) (by omega) (by omega))
   have hyb:=HE.out.bound i
   rw [HY.out] at hyb
   have HY0:=Lib.hid hy0
   clear hy0
   go_wp2_with fail
   refine SK.out.mono ?_
   rintro e w4 ⟨h4,m4,j,rfl,hj⟩
   have H4:=Lib.hid h4
   have M4:Hid (Mod (Two2 g p) w w4):=M3.out.two (mod_g m4)
   have hjl:=hj.lt
   have OK:Hid (RoundOK (exc V) i (j:Int)):=fun a ha=>by
    obtain rfl:a=i:=by have:=E1.out;rcases ha with x | x <;> omega
    rw [if_neg (by rw [HY.out];exact HY0.out),HY.out]
    exact ⟨j,rfl,hj⟩
   clear h4 m4 hj SK
   go_wp2_with fail
   go_ret2
   exact ⟨H4.out,M4.out,j,rfl,OK.out,by omega,by omega⟩
end
end Go.Proofs.YtajjgpkahljjmaaGreatDoor
namespace Go.Proofs.YtajjgpkahljjmaaGreatDoor
theorem pop_take {l:List Nat} (h:Bin l) (i:Nat) (hi:i≤l.length):pop (val l) i=(l.take i).sum:=by
 have h1:=pop_val (h.take i)
 rw [List.length_take,Nat.min_eq_left hi,val_take h,pop_mod] at h1
 exact h1
theorem shp_sum (ks:List Nat) (h:Kds ks):∀ i,i≤ks.length→((shp ks).take i).sum=ah 1 ks i∧ah 0 ks i+ah 1 ks i=i
 | 0,_=>by rw [ah_zero,ah_zero];simp
 | i+1,hi=>by
   obtain ⟨h1,h2⟩:=shp_sum ks h i (by omega)
   have hk:=h.getD i
   rw [take_snoc (shp ks) i (by rw [shp_len];omega),List.sum_append,h1,shp_get,ah_next 1 ks i (by omega),ah_next 0 ks i (by omega)]
   simp only [List.sum_cons,List.sum_nil]
   by_cases h3:ks.getD i 0 / 2=0
   ·rw [if_pos h3,if_neg (by omega)];omega
   ·rw [if_neg h3,if_pos (by omega)];omega
theorem cb_ah {ks:List Nat} (h:Kds ks) (s:Nat) (hs:s < 2) (i:Nat) (hi:i≤ks.length):cb (s:Int) (val (shp ks)) i=ah s ks i:=by
 have hp:=pop_take (shp_bin h) i (by rw [shp_len];exact hi)
 obtain ⟨h1,h2⟩:=shp_sum ks h i hi
 unfold cb
 rcases (by omega:s=0∨s=1) with rfl | rfl
 ·rw [if_pos (show ((0:Nat):Int)=0 from rfl),hp,h1];omega
 ·rw [if_neg (show ¬ ((1:Nat):Int)=0 by decide),hp,h1]
theorem shp_bit {ks:List Nat} (h:Kds ks) (i:Nat):val (shp ks) / 2 ^ i%2=ks.getD i 0 / 2:=by rw [val_bit (shp_bin h),shp_get]
theorem isB_shp {ks:List Nat} (h:Kds ks) (s:Nat) (hs:s < 2) (i:Nat):IsB (s:Int) (val (shp ks)) i↔ks.getD i 0 / 2=s:=by
 unfold IsB
 have h1:=shp_bit h i
 have hk:=h.getD i
 rw [Nat.testBit_eq_decide_div_mod_eq,h1,decide_eq_decide]
 generalize ks.getD i 0=k at *
 rcases (by omega:s=0∨s=1) with rfl | rfl
 ·constructor
  ·intro h2
   have:¬ k / 2=1:=fun h3=>(h2.1 h3) rfl
   omega
  ·intro h2
   exact ⟨fun h3=>by omega,fun h3=>absurd rfl h3⟩
 ·constructor
  ·intro h2
   exact h2.2 (by decide)
  ·intro h2
   exact ⟨fun _=>by decide,fun _=>h2⟩
theorem IdxAt.blk_ {w:World} {g V n q:Nat} {d:Bool} (h:IdxAt w g V n d q):∃ cs,Blk w g 171 cs:=by
 obtain ⟨_,_,A,c,H,h3,_⟩:=h
 exact ⟨_,h3⟩
theorem PAt.blk_ {w:World} {p g V n q:Nat} {d:Bool} (h:PAt w p g V n d q):∃ cs,Blk w p 192 cs:=by
 obtain ⟨_,_,H,hb,_⟩:=h
 exact ⟨_,hb⟩
theorem PAt.gblk {w:World} {p g V n q:Nat} {d:Bool} (h:PAt w p g V n d q):∃ cs,Blk w g 171 cs:=by
 obtain ⟨_,⟨r,k,hk,hx⟩,_⟩:=h
 exact hx.blk_
theorem IdxAt.apart {w w':World} {S:Nat→Prop} {g V n q:Nat} {d:Bool} (h:IdxAt w g V n d q) (m:Mod S w w') (hS:∀ i,S i→i≠g∧∃ T cs,Blk w i T cs∧T≠139∧T≠157):IdxAt w' g V n d q:=by
 obtain ⟨h1,h2,A,c,H,h3,h4,h5⟩:=h
 refine ⟨h1,h2,A,c,H,h3.mod m fun hx=>(hS g hx).1 rfl,own_mod h4 m fun k hk hx=>?_,?_⟩
 ·obtain ⟨_,T,cs,hb,e2,_⟩:=hS k hx
  exact own_ne h4 hb (Ne.symm e2) hk
 ·cases d with
  | false=>exact h5
  | true =>
    obtain ⟨S',c',e,ho⟩:=h5
    exact ⟨S',c',e,own_mod ho m fun k hk hx=>by
     obtain ⟨_,T,cs,hb,_,e3⟩:=hS k hx
     exact own_ne ho hb (Ne.symm e3) hk⟩
theorem PAt.apart {w w':World} {S:Nat→Prop} {p g V n q:Nat} {d:Bool} (h:PAt w p g V n d q) (m:Mod S w w') (hS:∀ i,S i→i≠g∧i≠p∧∃ T cs,Blk w i T cs∧T≠139∧T≠157∧T≠227):PAt w' p g V n d q:=by
 obtain ⟨h1,⟨r,k,hk,hx⟩,H,hb,ht⟩:=h
 refine ⟨h1,⟨r,k,hk,hx.apart m fun i hi=>?_⟩,H,hb.mod m fun e=>(hS p e).2.1 rfl,?_⟩
 ·obtain ⟨a,_,T,cs,b,c1,c2,_⟩:=hS i hi
  exact ⟨a,T,cs,b,c1,c2⟩
 ·cases d with
  | false=>exact ht
  | true =>
    obtain ⟨S',M,K,T,k1,k2,k3,k4⟩:=ht
    refine ⟨S',M,K,T,k1,k2,k3.mod m fun hx=>?_,k4⟩
    obtain ⟨_,_,T2,cs,b,_,_,c3⟩:=hS S' hx
    exact c3 (blk_ty b k3)
def MxS (gx p0 g0 p1 g1 i:Nat):Prop:=i=gx∨i=p0∨i=g0∨i=p1∨i=g1
structure Mx (w0 w:World) (m gx p0 g0 p1 g1:Nat) (ks:List Nat) (q:Nat):Prop where
 blk:Blk w m 137 #[.pointer (some ⟨gx,0,none⟩),.pointer (some ⟨p0,0,none⟩),.pointer (some ⟨p1,0,none⟩)]
 ix:∃ d k,k≤q∧IdxAt w gx (val (shp ks)) ks.length d k
 pa:∃ d,PAt w p0 g0 (val (ownL 0 ks)) (ownL 0 ks).length d q
 pb:∃ d,PAt w p1 g1 (val (ownL 1 ks)) (ownL 1 ks).length d q
 ne:gx≠g0∧gx≠g1∧g0≠g1∧p0≠p1
 lo:w0.heap.size≤m∧w0.heap.size≤gx∧w0.heap.size≤g0∧w0.heap.size≤g1
 kd:Kds ks
 b0:Bal (exc (val (ownL 0 ks))) (ownL 0 ks).length
 b1:Bal (exc (val (ownL 1 ks))) (ownL 1 ks).length
 bel:Below w0.heap.size w0 w
 nul:Nul w0
 tab:Tab w0∧2 < w0.heap.size
section
variable {w0 w w':World} {m gx p0 g0 p1 g1 q:Nat} {ks:List Nat}
theorem Mx.gp0 (h:Mx w0 w m gx p0 g0 p1 g1 ks q):g0 < p0:=by obtain ⟨d,hp⟩:=h.pa;exact hp.1
theorem Mx.gp1 (h:Mx w0 w m gx p0 g0 p1 g1 ks q):g1 < p1:=by obtain ⟨d,hp⟩:=h.pb;exact hp.1
theorem Mx.apart (h:Mx w0 w m gx p0 g0 p1 g1 ks q):gx≠p0∧gx≠p1∧g0≠p1∧g1≠p0∧m≠gx∧m≠p0∧m≠g0∧m≠p1∧m≠g1:=by
 obtain ⟨d,k,_,hx⟩:=h.ix
 obtain ⟨d0,ha⟩:=h.pa
 obtain ⟨d1,hb⟩:=h.pb
 obtain ⟨cx,bx⟩:=hx.blk_
 obtain ⟨ca,ba⟩:=ha.blk_
 obtain ⟨cb',bb⟩:=hb.blk_
 obtain ⟨cga,bga⟩:=ha.gblk
 obtain ⟨cgb,bgb⟩:=hb.gblk
 have hm:=h.blk
 have t1:171≠192:=by decide
 have t2:137≠171:=by decide
 have t3:137≠192:=by decide
 exact ⟨fun e=>t1 (blk_ty (e ▸ bx) ba),fun e=>t1 (blk_ty (e ▸ bx) bb),fun e=>t1 (blk_ty (e ▸ bga) bb),fun e=>t1 (blk_ty (e ▸ bgb) ba),
  fun e=>t2 (blk_ty (e ▸ hm) bx),fun e=>t3 (blk_ty (e ▸ hm) ba),fun e=>t2 (blk_ty (e ▸ hm) bga),fun e=>t3 (blk_ty (e ▸ hm) bb),fun e=>t2 (blk_ty (e ▸ hm) bgb)⟩
theorem Mx.ge (h:Mx w0 w m gx p0 g0 p1 g1 ks q) (i:Nat) (hi:MxS gx p0 g0 p1 g1 i):w0.heap.size≤i:=by
 have l:=h.lo
 have a:=h.gp0
 have b:=h.gp1
 rcases hi with rfl | rfl | rfl | rfl | rfl <;> omega
theorem Mx.belq (h:Mx w0 w m gx p0 g0 p1 g1 ks q) (k:Mod (MxS gx p0 g0 p1 g1) w w'):Below w0.heap.size w0 w' :=
 h.bel.trans (k.belowB h.bel.size fun i hi hx=>by have:=h.ge i hx;omega)
theorem Mx.askX (h:Mx w0 w m gx p0 g0 p1 g1 ks q) {d:Bool} {k:Nat} (hx:IdxAt w' gx (val (shp ks)) ks.length d (k+1)) (hk:k≤q) (md:Mod (fun i=>i=gx) w w'):Mx w0 w' m gx p0 g0 p1 g1 ks (q+1):=by
 obtain ⟨d0,ha⟩:=h.pa
 obtain ⟨d1,hb⟩:=h.pb
 obtain ⟨dx,kx,_,hx0⟩:=h.ix
 obtain ⟨cx,bx⟩:=hx0.blk_
 have ap:=h.apart
 have ne:=h.ne
 refine ⟨h.blk.mod md ap.2.2.2.2.1,⟨d,k+1,by omega,hx⟩,⟨d0,(ha.apart md fun i hi=>?_).le (by omega)⟩,⟨d1,(hb.apart md fun i hi=>?_).le (by omega)⟩,h.ne,h.lo,h.kd,h.b0,h.b1,h.belq (md.mono fun i _ hi=>.inl hi),h.nul,h.tab⟩
 ·subst hi
  exact ⟨ne.1,ap.1,_,_,bx,by decide,by decide,by decide⟩
 ·subst hi
  exact ⟨ne.2.1,ap.2.1,_,_,bx,by decide,by decide,by decide⟩
theorem Mx.askA (h:Mx w0 w m gx p0 g0 p1 g1 ks q) {d:Bool} {q':Nat} (hp:PAt w' p0 g0 (val (ownL 0 ks)) (ownL 0 ks).length d q') (hq:q≤q') (md:Mod (Two2 g0 p0) w w'):Mx w0 w' m gx p0 g0 p1 g1 ks q':=by
 obtain ⟨d0,ha⟩:=h.pa
 obtain ⟨d1,hb⟩:=h.pb
 obtain ⟨dx,kx,hkx,hx0⟩:=h.ix
 obtain ⟨ca,ba⟩:=ha.blk_
 obtain ⟨cga,bga⟩:=ha.gblk
 have ap:=h.apart
 have ne:=h.ne
 refine ⟨h.blk.mod md fun e=>?_,⟨dx,kx,by omega,hx0.apart md fun i hi=>?_⟩,⟨d,hp⟩,⟨d1,(hb.apart md fun i hi=>?_).le hq⟩,h.ne,h.lo,h.kd,h.b0,h.b1,h.belq (md.mono fun i _ hi=>hi.elim (fun e=>.inr (.inr (.inl e))) fun e=>.inr (.inl e)),h.nul,h.tab⟩
 ·rcases e with e | e
  ·exact ap.2.2.2.2.2.2.1 e
  ·exact ap.2.2.2.2.2.1 e
 ·rcases hi with rfl | rfl
  ·exact ⟨Ne.symm ne.1,_,_,bga,by decide,by decide⟩
  ·exact ⟨Ne.symm ap.1,_,_,ba,by decide,by decide⟩
 ·rcases hi with rfl | rfl
  ·exact ⟨ne.2.2.1,ap.2.2.1,_,_,bga,by decide,by decide,by decide⟩
  ·exact ⟨fun e=>ap.2.2.2.1 e.symm,ne.2.2.2,_,_,ba,by decide,by decide,by decide⟩
theorem Mx.askB (h:Mx w0 w m gx p0 g0 p1 g1 ks q) {d:Bool} {q':Nat} (hp:PAt w' p1 g1 (val (ownL 1 ks)) (ownL 1 ks).length d q') (hq:q≤q') (md:Mod (Two2 g1 p1) w w'):Mx w0 w' m gx p0 g0 p1 g1 ks q':=by
 obtain ⟨d0,ha⟩:=h.pa
 obtain ⟨d1,hb⟩:=h.pb
 obtain ⟨dx,kx,hkx,hx0⟩:=h.ix
 obtain ⟨ca,ba⟩:=hb.blk_
 obtain ⟨cga,bga⟩:=hb.gblk
 have ap:=h.apart
 have ne:=h.ne
 refine ⟨h.blk.mod md fun e=>?_,⟨dx,kx,by omega,hx0.apart md fun i hi=>?_⟩,⟨d0,(ha.apart md fun i hi=>?_).le hq⟩,⟨d,hp⟩,h.ne,h.lo,h.kd,h.b0,h.b1,h.belq (md.mono fun i _ hi=>hi.elim (fun e=>.inr (.inr (.inr (.inr e)))) fun e=>.inr (.inr (.inr (.inl e)))),h.nul,h.tab⟩
 ·rcases e with e | e
  ·exact ap.2.2.2.2.2.2.2.2 e
  ·exact ap.2.2.2.2.2.2.2.1 e
 ·rcases hi with rfl | rfl
  ·exact ⟨Ne.symm ne.2.1,_,_,bga,by decide,by decide⟩
  ·exact ⟨Ne.symm ap.2.1,_,_,ba,by decide,by decide⟩
 ·rcases hi with rfl | rfl
  ·exact ⟨Ne.symm ne.2.2.1,ap.2.2.2.1,_,_,bga,by decide,by decide,by decide⟩
  ·exact ⟨fun e=>ap.2.2.1 e.symm,Ne.symm ne.2.2.2,_,_,ba,by decide,by decide,by decide⟩
theorem Mx.below (h:Mx w0 w m gx p0 g0 p1 g1 ks q) (k:Below w.heap.size w w'):Mx w0 w' m gx p0 g0 p1 g1 ks q:=by
 obtain ⟨d0,ha⟩:=h.pa
 obtain ⟨d1,hb⟩:=h.pb
 obtain ⟨dx,kx,hkx,hx0⟩:=h.ix
 exact ⟨h.blk.below k,⟨dx,kx,hkx,hx0.below k⟩,⟨d0,ha.below k⟩,⟨d1,hb.below k⟩,h.ne,h.lo,h.kd,h.b0,h.b1,h.bel.trans (k.mono h.bel.size),h.nul,h.tab⟩
theorem Mx.le (h:Mx w0 w m gx p0 g0 p1 g1 ks q) {q':Nat} (hq:q≤q'):Mx w0 w m gx p0 g0 p1 g1 ks q':=by
 obtain ⟨d0,ha⟩:=h.pa
 obtain ⟨d1,hb⟩:=h.pb
 obtain ⟨dx,kx,hkx,hx0⟩:=h.ix
 exact ⟨h.blk,⟨dx,kx,by omega,hx0⟩,⟨d0,ha.le hq⟩,⟨d1,hb.le hq⟩,h.ne,h.lo,h.kd,h.b0,h.b1,h.bel,h.nul,h.tab⟩
theorem Mx.nulw (h:Mx w0 w m gx p0 g0 p1 g1 ks q):Nul w:=h.nul.below h.nul.lt h.bel
theorem Mx.tabw (h:Mx w0 w m gx p0 g0 p1 g1 ks q):Tab w:=h.tab.1.below h.tab.2 h.bel
theorem Mx.n9 (h:Mx w0 w m gx p0 g0 p1 g1 ks q):ks.length≤1000000:=by
 obtain ⟨dx,kx,hkx,hx0⟩:=h.ix
 exact hx0.2.1
theorem Mx.hp0 (h:Mx w0 w m gx p0 g0 p1 g1 ks q):p0≠1:=by
 have:=h.nul.lt
 have:=h.lo
 have:=h.gp0
 show p0≠1
 omega
theorem Mx.hp1 (h:Mx w0 w m gx p0 g0 p1 g1 ks q):p1≠1:=by
 have:=h.nul.lt
 have:=h.lo
 have:=h.gp1
 show p1≠1
 omega
theorem two_mx0 (md:Mod (Two2 g0 p0) w w'):Mod (MxS gx p0 g0 p1 g1) w w':=md.mono fun i _ hi=>hi.elim (fun e=>.inr (.inr (.inl e))) fun e=>.inr (.inl e)
theorem two_mx1 (md:Mod (Two2 g1 p1) w w'):Mod (MxS gx p0 g0 p1 g1) w w':=md.mono fun i _ hi=>hi.elim (fun e=>.inr (.inr (.inr (.inr e)))) fun e=>.inr (.inr (.inr (.inl e)))
end
def MxP (w0 w:World) (m gx p0 g0 p1 g1:Nat) (ks:List Nat) (q:Nat) (e0:Ending) (e:Ending) (w':World):Prop:=e=e0∧Mx w0 w' m gx p0 g0 p1 g1 ks q∧Mod (MxS gx p0 g0 p1 g1) w w'
end Go.Proofs.YtajjgpkahljjmaaGreatDoor
namespace Go.Proofs.YtajjgpkahljjmaaGreatDoor
end Go.Proofs.YtajjgpkahljjmaaGreatDoor
