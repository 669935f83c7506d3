/- find: the first block from one on, on a way, where the excess is low. -/
import Derived.Test.YtijbdnhlpbcabaaGreatDoorZg9
import Derived.Test.YtijbdnhlpbcabaaGreatDoorZg10
import Derived.Deep.RegionHeld3
open Go.RowKit
set_option linter.unusedVariables false
namespace Go.Proofs.YtijbdnhlpbcabaaGreatDoor
set_option maxRecDepth 20000
structure TrAt (w:World) (E:Nat→Int) (n S H M:Nat) (T:Nat→Int × Int):Prop where
 rd:RdT w S T M
 ok:TreeOK E n H (fun x=>T (x - 1))
 lt:S < w.heap.size
 hM:M+1=2*2 ^ H
 lv:Lvs ((n+511) / 512) H
theorem TrAt.below {w w':World} {E:Nat→Int} {n S H M:Nat} {T:Nat→Int × Int} (h:TrAt w E n S H M T) (m:Below w.heap.size w w'):TrAt w' E n S H M T :=
 ⟨h.rd.below h.lt m,h.ok,by have:=m.size;have:=h.lt;omega,h.hM,h.lv⟩
def Hang (H x h a:Nat):Prop:=x*2 ^ h=2 ^ H+a∧h≤H∧a < 2 ^ H
theorem Hang.log {H x h a:Nat} (k:Hang H x h a):Nat.log2 x=H - h:=by
 obtain ⟨h1,h2,h3⟩:=k
 have hp:0 < 2 ^ h:=Nat.two_pow_pos h
 have e1:2 ^ H=2 ^ (H - h)*2 ^ h:=by rw [← Nat.pow_add,show H - h+h=H by omega]
 have x0:x≠0:=fun e=>by subst e;have:=Nat.two_pow_pos H;omega
 have l1:2 ^ (H - h)≤x:=by
  rcases Nat.lt_or_ge x (2 ^ (H - h)) with g | g
  ·have:=Nat.mul_lt_mul_of_pos_right g hp;omega
  ·exact g
 have l2:x < 2 ^ (H - h+1):=by
  rcases Nat.lt_or_ge x (2 ^ (H - h+1)) with g | g
  ·exact g
  ·have:=Nat.mul_le_mul_right (2 ^ h) g
   rw [pow_up,Nat.mul_assoc,← e1] at this;omega
 have a1:=(Nat.le_log2 x0).2 l1
 have a2:=(Nat.log2_lt x0).2 l2
 omega
def posn (H x:Nat):Nat:=x*2 ^ (H - Nat.log2 x)
theorem Hang.posn {H x h a:Nat} (k:Hang H x h a):posn H x=2 ^ H+a:=by
 unfold Go.Proofs.YtijbdnhlpbcabaaGreatDoor.posn
 rw [k.log,show H - (H - h)=h by have:=k.2.1;omega]
 exact k.1
theorem Has.sub {E:Nat→Int} {n a b c d:Nat} {m:Int} (h:Has E n b c m) (h1:a≤b) (h2:c≤d):Has E n a d m:=by
 obtain ⟨i,i1,i2,i3⟩:=h
 exact ⟨i,by omega,by omega,i3⟩
theorem Has.split {E:Nat→Int} {n a b c:Nat} {m:Int} (h:Has E n a c m) (hl:¬ Has E n a b m) (hbc:b≤c):Has E n b c m∧512*b < n:=by
 obtain ⟨i,i1,i2,i3⟩:=h
 by_cases hi:i≤min (512*b) n
 ·exact absurd ⟨i,i1,hi,i3⟩ hl
 ·exact ⟨⟨i,by omega,i2,i3⟩,by omega⟩
theorem Has.splitL {E:Nat→Int} {n a b c:Nat} {m:Int} (h:Has E n a c m) (hr:¬ Has E n b c m) (hab:a≤b):Has E n a b m:=by
 obtain ⟨i,i1,i2,i3⟩:=h
 by_cases hi:512*b≤i
 ·exact absurd ⟨i,hi,i2,i3⟩ hr
 ·exact ⟨i,i1,by omega,i3⟩
def NoHas (E:Nat→Int) (n j a:Nat) (m:Int):Prop:=∀ k,j≤k→k < a→¬ Has E n k (k+1) m
theorem NoHas.on {E:Nat→Int} {n j a b:Nat} {m:Int} (h:NoHas E n j a m) (k:¬ Has E n a b m):NoHas E n j b m:=fun i h1 h2 hi=>by
 rcases Nat.lt_or_ge i a with g | g
 ·exact h i h1 g hi
 ·exact k (hi.sub g (by omega))
theorem NoHas.back {E:Nat→Int} {n a b c:Nat} {m:Int} (h:NoHas E n b c m) (k:¬ Has E n a b m):NoHas E n a c m:=fun i h1 h2 hi=>by
 rcases Nat.lt_or_ge i b with g | g
 ·exact k (hi.sub h1 (by omega))
 ·exact h i g h2 hi
structure FirstB (E:Nat→Int) (n j:Nat) (m:Int) (r:Nat):Prop where
 le:j≤r
 lt:512*r < n
 has:Has E n r (r+1) m
 none_:NoHas E n j r m
structure LastB (E:Nat→Int) (n j:Nat) (m:Int) (r:Nat):Prop where
 le:r≤j
 has:Has E n r (r+1) m
 none_:NoHas E n (r+1) (j+1) m
theorem leafk_p (w:World) (A:Option Addr) (m c L k:Nat) (hm:m+1=2*L) (hL:L≤100000) (hk:k≤100000) :
  Calls Tryz.prog 205 #[.slice A m c,.int .i64 (k:Int)] w fun e w'=>e=.returned (.int .i64 ((L+k:Nat):Int))∧w=w':=by
 have:=leaf_p w A m c k (by omega) (by omega)
 rw [show m / 2+1+k=L+k by omega] at this
 exact this
theorem node_p {w:World} {E:Nat→Int} (hE:Exc E) {n S H M:Nat} {T:Nat→Int × Int} (h:TrAt w E n S H M T) (hn:n≤1000000) (c x k a:Nat) (hx:Hang H x k a) :
  Calls Tryz.prog 207 #[.slice (some ⟨S,0,none⟩) M c,.int .i64 (x:Int)] w fun e w'=>e=.returned (ndv (nd E n a (a+2 ^ k)))∧Below w.heap.size w w':=by
 have h1:=node_end hx.2.1 hx.1 hx.2.2
 have h2:=h.hM
 have h3:=h.lv.le (by omega)
 have:=nodeAt_p w S M c x T h.rd (by omega) (by omega) (by omega) h.lt
 rw [show T (x - 1)=_ from h.ok x k a hx.2.1 hx.1 hx.2.2] at this
 exact this
def FindF (w:World) (E:Nat→Int) (n j:Nat) (m:Int) (e:Ending) (w':World):Prop:=∃ r:Nat,e=.returned (.int .i64 (r:Int))∧FirstB E n j m r∧Below w.heap.size w w'
set_option maxHeartbeats 4000000 in
theorem find_f (w:World) (E:Nat→Int) (hE:Exc E) (n S H M:Nat) (T:Nat→Int × Int) (h:TrAt w E n S H M T) (hn:n≤1000000) (c j:Nat) (m:Int) (hj:512*j < n)
  (ht:∃ t,j≤t∧512*t < n∧Has E n t (t+1) m) :
  Calls Tryz.prog 198 #[.slice (some ⟨S,0,none⟩) M c,.int .i64 (j:Int),.int .i64 1,.int .i64 (E (512*j)),.int .i64 m] w (FindF w E n j m):=by
 obtain ⟨t,ht1,ht2,ht3⟩:=ht
 have HT3:=Lib.hid ht3
 have HE:=Lib.hid hE
 have HX:=Lib.hid h
 have hM:=h.hM
 have hL9:=h.lv.le (by omega)
 have hBL:=h.lv.1
 have LF:=Lib.hid (leafk_p w (some ⟨S,0,none⟩) M c (2 ^ H) j hM (by omega) (by omega))
 have L0:=Lib.hid fun w'=>leaf0_p w' (some ⟨S,0,none⟩) M c (2 ^ H) hM (by omega)
 have AT:=Lib.hid fun w' (b':Below w.heap.size w w') x k a (hx:Hang H x k a)=>node_p hE (h.below b') hn c x k a hx
 have hb0:=hE.bound (512*j)
 have hang0:Hid (Hang H (2 ^ H+j) 0 j):=⟨by rw [Nat.pow_zero,Nat.mul_one],by omega,by omega⟩
 have hp0:0 < 2 ^ H:=Nat.two_pow_pos H
 generalize hy0:E (512*j)=y0 at *
 have HY0:=Lib.hid hy0
 generalize hPL:2 ^ H=L at *
 have HPL:=Lib.hid hPL
 have htL:t < L:=by omega
 clear h hE ht3 hy0 hPL
 go_enter Tryz.func198,Tryz.ntmps198
 go_wp2_with fail
 refine LF.out.mono ?_
 rintro e w1 ⟨rfl,rfl⟩
 clear LF
 go_wp2_with fail
 go_loopw [3,11] (fun z v wr=>∃ (x k a:Nat) (y:Int),v=.int .i64 (x:Int)∧z=.int .i64 y∧-1000000≤y∧y≤1000000∧x≤2*L∧j≤a∧a≤t∧512*a < n∧Hid (y=E (512*a))∧Hid (Hang H x k a)∧Hid (NoHas E n j a m)∧Hid (Below w.heap.size w wr)) (fun _ v _=>2*L - posn H (intOf v).toNat)
 case atStart=>exact ⟨L+j,0,j,y0,rfl,rfl,by omega,by omega,by omega,by omega,by omega,by omega,HY0.out.symm,hang0.out,fun i h1 h2=>by omega,Below.refl _ _⟩
 case round =>
  clear hang0 HY0
  obtain ⟨x,k,a,y,rfl,rfl,hy1,hy2,hx9,hja,hat,han,hy,hh,hno,hbel⟩:=hrel
  have hend:=node_end hh.out.2.1 hh.out.1 hh.out.2.2
  rw [HPL.out] at hend
  have hpk:0 < 2 ^ k:=Nat.two_pow_pos k
  have A1:=Lib.hid (AT.out wr hbel.out x k a hh.out)
  have hfit:=nd_fits HE.out hn a (a+2 ^ k)
  have HI:=Lib.hid (has_iff (E:=E) (n:=n) (a:=a) (b:=a+2 ^ k) han (by omega) m)
  have ND:=Lib.hid (nd_end (E:=E) (n:=n) (a:=a) (b:=a+2 ^ k) han (by omega))
  rw [← hy.out] at HI ND
  obtain ⟨ee,hee⟩:∃ ee,a+2 ^ k=ee:=⟨_,rfl⟩
  rw [hee] at A1 hfit HI ND hend
  have hae:a < ee:=by omega
  have HP1:Hid (posn H x=L+a):=by show _=_;rw [hh.out.posn,HPL.out]
  obtain ⟨p,hp⟩:∃ p,nd E n a ee=p:=⟨_,rfl⟩
  rw [hp] at A1 hfit HI ND
  have HEE:=Lib.hid hee
  have HPN:=Lib.hid hp
  clear hp hee hpk
  obtain ⟨s,l⟩:=p
  have hs1:=hfit.a1
  have hs2:=hfit.a2
  have HFIT:=Lib.hid hfit
  simp only at hs1 hs2 HI ND
  clear hfit
  by_cases hhas:y+l≤m
  ·have HF:=Lib.hid fun w'=>has_f w' (s,l) y m HFIT.out (by omega)
   simp only at HF
   rw [show decide (y+l≤m)=true from decide_eq_true hhas] at HF
   have HHS:Hid (Has E n a (a+2 ^ k) m):=by show Has _ _ _ _ _;rw [HEE.out];exact HI.out.1 hhas
   clear hhas HI ND
   go_wp2_with fail
   refine A1.out.mono ?_
   rintro e w2 ⟨rfl,b2⟩
   have hb2:Hid (Below w.heap.size w w2):=hbel.out.trans (b2.mono hbel.out.size)
   clear A1 b2
   go_wp2_with fail
   refine (HF.out w2).mono ?_
   rintro e w3 ⟨rfl,b3⟩
   have hb3:Hid (Below w.heap.size w w3):=hb2.out.trans (b3.mono hb2.out.size)
   clear b3 hb2 HF
   go_wp2_with fail
   go_loopw [3,11] (fun z v wq=>∃ (x k a:Nat) (y:Int),v=.int .i64 (x:Int)∧z=.int .i64 y∧-1000000≤y∧y≤1000000∧x≤2*L∧j≤a∧512*a < n∧Hid (y=E (512*a))∧Hid (Hang H x k a)∧Hid (NoHas E n j a m)∧Hid (Has E n a (a+2 ^ k) m)∧Hid (Below w.heap.size w wq)) (fun _ v _=>2*L - (intOf v).toNat)
   case atStart=>exact ⟨x,k,a,y,rfl,rfl,by omega,by omega,by omega,by omega,by omega,hy.out,hh.out,hno.out,HHS.out,hb3.out⟩
   case round =>
    clear hy hh hno HHS hb3 hbel HEE HFIT hend HP1 hs1 hs2 hae hat han hja hx9 hy1 hy2
    obtain ⟨x,k,a,y,rfl,rfl,hy1,hy2,hx9,hja,han,hy,hh,hno,hhs,hbel⟩:=hrel
    cases k with
    | zero =>
      have hx:x=L+a:=by have:=hh.out.1;rw [Nat.pow_zero,HPL.out] at this;omega
      subst hx
      go_wp2_with (go_at_call 205;refine (L0.out _).mono ?_;rintro e w' ⟨rfl,rfl⟩)
      go_ret
      exact ⟨a,congrArg (fun z=>Ending.returned (.int .i64 z)) (by omega),⟨by omega,by omega,hhs.out,hno.out⟩,hbel.out⟩
    | succ k =>
      obtain ⟨q1,q2,q3⟩:=node_kids hh.out.2.1 hh.out.1 hh.out.2.2
      have hpk:0 < 2 ^ k:=Nat.two_pow_pos k
      have hk1:Hid (Hang H (x*2) k a):=⟨by rw [Nat.mul_comm x 2];exact q1,by have:=hh.out.2.1;omega,hh.out.2.2⟩
      have hk2:Hid (Hang H (x*2+1) k (a+2 ^ k)):=⟨by rw [Nat.mul_comm x 2];exact q2,by have:=hh.out.2.1;omega,q3⟩
      have hend:=node_end hk2.out.2.1 hk2.out.1 hk2.out.2.2
      rw [HPL.out] at hend
      have hxL:x < L:=by omega
      have hx1:1≤x:=(node_end hh.out.2.1 hh.out.1 hh.out.2.2).2.1
      have e2:((x*2:Nat):Int)=(x:Int)*2:=by omega
      have A1:=Lib.hid fun w' b'=>AT.out w' b' (x*2) k a hk1.out
      rw [e2] at A1
      have IF:=Lib.hid fun w'=>isFar_f w' (x*2) (by omega)
      rw [show decide (x*2%2=1)=false from decide_eq_false (by omega),e2] at IF
      have hfit:=nd_fits HE.out hn a (a+2 ^ k)
      have HI:=Lib.hid (has_iff (E:=E) (n:=n) (a:=a) (b:=a+2 ^ k) han (by omega) m)
      have ND:=Lib.hid (nd_end (E:=E) (n:=n) (a:=a) (b:=a+2 ^ k) han (by omega))
      rw [← hy.out] at HI ND
      have HH2:Hid (Has E n a (a+2 ^ k+2 ^ k) m):=by
       show Has _ _ _ _ _
       have:=hhs.out
       rw [pow_up] at this
       rw [show a+2 ^ k+2 ^ k=a+2*2 ^ k by omega]
       exact this
      obtain ⟨ee,hee⟩:∃ ee,a+2 ^ k=ee:=⟨_,rfl⟩
      rw [hee] at A1 hfit HI ND HH2 hk2
      have HEE:=Lib.hid hee
      have hae:a≤ee:=by omega
      obtain ⟨p,hp⟩:∃ p,nd E n a ee=p:=⟨_,rfl⟩
      rw [hp] at A1 hfit HI ND
      clear hp hee hpk q1 q2 q3 hh hhs hend e2
      obtain ⟨s,l⟩:=p
      have hs1:=hfit.a1
      have hs2:=hfit.a2
      have HFIT:=Lib.hid hfit
      simp only at hs1 hs2 HI ND
      clear hfit
      by_cases hl:y+l≤m
      ·have HF:=Lib.hid fun w'=>has_f w' (s,l) y m HFIT.out (by omega)
       unfold ndv at HF A1
       simp only at HF A1
       rw [show decide (y+l≤m)=true from decide_eq_true hl] at HF
       have HHS:Hid (Has E n a (a+2 ^ k) m):=by show Has _ _ _ _ _;rw [HEE.out];exact HI.out.1 hl
       clear hl HI ND HH2
       go_wp2_with (first
        | (go_at_call 205;refine (L0.out _).mono ?_;rintro e w' ⟨rfl,rfl⟩)
        | (go_at_call 209;refine (IF.out _).mono ?_;rintro e w' ⟨rfl,rfl⟩))
       refine (A1.out _ hbel.out).mono ?_
       rintro e w2 ⟨rfl,b2⟩
       have hb2:Hid (Below w.heap.size w w2):=hbel.out.trans (b2.mono hbel.out.size)
       clear A1 b2
       go_wp2_with fail
       refine (HF.out _).mono ?_
       rintro e w3 ⟨rfl,b3⟩
       have hb3:Hid (Below w.heap.size w w3):=(hb2.out.alloc hb2.out.size _).trans (b3.mono (by have:=hb2.out.size;simp;omega))
       clear b3 hb2 HF
       go_wp2_with fail
       go_roundw
       case rel=>exact ⟨x*2,k,a,y,by go_num,rfl,by omega,by omega,by omega,by omega,by omega,hy.out,hk1.out,hno.out,HHS.out,hb3.out⟩
       case measure=>simp [intOf];omega
      ·have HF:=Lib.hid fun w'=>has_f w' (s,l) y m HFIT.out (by omega)
       unfold ndv at HF A1
       simp only at HF A1
       rw [show decide (y+l≤m)=false from decide_eq_false hl] at HF
       have HNL:¬ Has E n a ee m:=fun g=>hl (HI.out.2 g)
       have hsp:=HH2.out.split HNL (Nat.le_add_right _ _)
       have hen:=hsp.2
       have HHS:Hid (Has E n ee (ee+2 ^ k) m):=hsp.1
       have HNO:Hid (NoHas E n j ee m):=hno.out.on HNL
       have NY:Hid (y+s=E (512*ee)):=by show _=_;rw [ND.out,Nat.min_eq_left (by omega)]
       have hb9:=HE.out.bound (512*ee)
       rw [← NY.out] at hb9
       clear hl HI ND HH2 HNL hsp
       go_wp2_with (first
        | (go_at_call 205;refine (L0.out _).mono ?_;rintro e w' ⟨rfl,rfl⟩)
        | (go_at_call 209;refine (IF.out _).mono ?_;rintro e w' ⟨rfl,rfl⟩))
       refine (A1.out _ hbel.out).mono ?_
       rintro e w2 ⟨rfl,b2⟩
       have hb2:Hid (Below w.heap.size w w2):=hbel.out.trans (b2.mono hbel.out.size)
       clear A1 b2
       go_wp2_with fail
       refine (HF.out _).mono ?_
       rintro e w3 ⟨rfl,b3⟩
       have hb3:Hid (Below w.heap.size w w3):=(hb2.out.alloc hb2.out.size _).trans (b3.mono (by have:=hb2.out.size;simp;omega))
       have hc3:w3.cell? ⟨w2.heap.size,0,none⟩=some (.int .i32 s):=(b3.cell (p:=⟨w2.heap.size,0,none⟩) (by simp)).trans ((Blk.new w2 _ _).cell 0)
       clear b3 hb2 HF
       go_wp2_with fail
       go_roundw
       case rel=>exact ⟨x*2+1,k,ee,y+s,by go_num,rfl,by omega,by omega,by omega,by omega,by omega,NY.out,hk2.out,HNO.out,HHS.out,hb3.out⟩
       case measure=>simp [intOf];omega
  ·have HF:=Lib.hid fun w'=>has_f w' (s,l) y m HFIT.out (by omega)
   simp only at HF
   rw [show decide (y+l≤m)=false from decide_eq_false hhas] at HF
   have HNL:¬ Has E n a ee m:=fun g=>hhas (HI.out.2 g)
   have het:ee≤t:=by
    rcases Nat.lt_or_ge t ee with g | g
    ·exact absurd (HT3.out.sub (show a≤t by omega) (show t+1≤ee by omega)) HNL
    ·exact g
   have HNO:Hid (NoHas E n j ee m):=hno.out.on HNL
   have NY:Hid (y+s=E (512*ee)):=by show _=_;rw [ND.out,Nat.min_eq_left (by omega)]
   have hb9:=HE.out.bound (512*ee)
   rw [← NY.out] at hb9
   have FS:=fld_nd (s,l)
   simp only at FS
   clear hhas HI ND HNL
   go_wp2_with fail
   refine A1.out.mono ?_
   rintro e w2 ⟨rfl,b2⟩
   have hb2:Hid (Below w.heap.size w w2):=hbel.out.trans (b2.mono hbel.out.size)
   clear A1 b2
   go_wp2_with fail
   refine (HF.out w2).mono ?_
   rintro e w3 ⟨rfl,b3⟩
   have hb3:Hid (Below w.heap.size w w3):=hb2.out.trans (b3.mono hb2.out.size)
   have A2:=Lib.hid (AT.out w3 hb3.out x k a hh.out)
   rw [HEE.out,HPN.out] at A2
   clear b3 hb2 HF
   go_wp2_with fail
   refine A2.out.mono ?_
   rintro e w4 ⟨rfl,b4⟩
   have hb4:Hid (Below w.heap.size w w4):=hb3.out.trans (b4.mono hb3.out.size)
   clear b4 hb3 A2
   go_wp2_with fail
   go_loop [11] (fun v=>∃ (x2 k2 a2:Nat),v=.int .i64 (x2:Int)∧x2≤2*L∧1≤x2∧Hid (Hang H x2 k2 a2)∧Hid (a2+2 ^ k2=ee)) (fun v=>(intOf v).toNat)
   case atStart=>exact ⟨x,k,a,rfl,by omega,by omega,hh.out,HEE.out⟩
   case round =>
    obtain ⟨x2,k2,a2,rfl,hx2,hx21,hh2,he2⟩:=hrel
    have IF:=Lib.hid fun w'=>isFar_f w' x2 (by omega)
    by_cases hodd:x2%2=1
    ·rw [show decide (x2%2=1)=true from decide_eq_true hodd] at IF
     obtain ⟨a3,u1,u2,u3,u4⟩:=up_forth hh2.out.1 hh2.out.2.2 hh2.out.2.1 hodd (by rw [he2.out,HPL.out];omega)
     have HH3:Hid (Hang H (x2 / 2) (k2+1) a3):=⟨u1,u3,u4⟩
     have HE3:Hid (a3+2 ^ (k2+1)=ee):=by show _=_;rw [u2,he2.out]
     have hx31:=(node_end u3 u1 u4).2.1
     clear hodd u1 u2 u3 u4
     go_wp2_with (go_at_call 209;refine (IF.out _).mono ?_;rintro e w' ⟨rfl,rfl⟩)
     go_round
     case rel=>exact ⟨x2 / 2,k2+1,a3,congrArg (Value.int .i64) (by omega),by omega,hx31,HH3.out,HE3.out⟩
     case measure=>simp [intOf];omega
    ·rw [show decide (x2%2=1)=false from decide_eq_false hodd] at IF
     have HH3:Hid (Hang H (x2+1) k2 ee):=⟨by rw [Nat.add_mul,hh2.out.1,Nat.one_mul,Nat.add_assoc,he2.out],hh2.out.2.1,by rw [HPL.out];omega⟩
     have HP2:Hid (posn H (x2+1)=L+ee):=by show _=_;rw [HH3.out.posn,HPL.out]
     have hx29:x2+1≤2*L:=by have:=node_end HH3.out.2.1 HH3.out.1 HH3.out.2.2;rw [HPL.out] at this;omega
     clear hodd
     go_wp2_with (go_at_call 209;refine (IF.out _).mono ?_;rintro e w' ⟨rfl,rfl⟩)
     go_roundw
     case rel=>exact ⟨x2+1,k2,ee,y+s,by go_num,rfl,by omega,by omega,by omega,by omega,by omega,by omega,NY.out,HH3.out,HNO.out,hb4.out⟩
     case measure =>
      show 2*L - posn H ((x2:Int)+1).toNat < 2*L - posn H ((x:Int)).toNat
      rw [show ((x2:Int)+1).toNat=x2+1 by omega,show ((x:Int)).toNat=x by omega,HP1.out,HP2.out]
      omega
theorem Hang.left {H x k a:Nat} (h:Hang H x k a) (h0:0 < a):∃ a',a'+2 ^ k=a∧Hang H (x - 1) k a':=by
 obtain ⟨h1,h2,h3⟩:=h
 have hp:0 < 2 ^ k:=Nat.two_pow_pos k
 have e1:2 ^ H=2 ^ (H - k)*2 ^ k:=by rw [← Nat.pow_add,show H - k+k=H by omega]
 have l1:2 ^ (H - k) < x:=by
  rcases Nat.lt_or_ge (2 ^ (H - k)) x with g | g
  ·exact g
  ·have:=Nat.mul_le_mul_right (2 ^ k) g;omega
 have l2:=Nat.mul_le_mul_right (2 ^ k) (show 2 ^ (H - k)+1≤x from l1)
 rw [Nat.add_mul,Nat.one_mul,← e1] at l2
 have e2:(x - 1)*2 ^ k=2 ^ H+a - 2 ^ k:=by rw [Nat.sub_mul,Nat.one_mul,h1]
 exact ⟨a - 2 ^ k,by omega,by rw [e2];omega,h2,by omega⟩
def FindB (w:World) (E:Nat→Int) (n j:Nat) (m:Int) (e:Ending) (w':World):Prop:=∃ r:Nat,e=.returned (.int .i64 (r:Int))∧LastB E n j m r∧Below w.heap.size w w'
set_option maxHeartbeats 4000000 in
theorem find_b (w:World) (E:Nat→Int) (hE:Exc E) (n S H M:Nat) (T:Nat→Int × Int) (h:TrAt w E n S H M T) (hn:n≤1000000) (c j:Nat) (m:Int) (hj:512*(j+1)≤n)
  (ht:∃ t,t≤j∧Has E n t (t+1) m) :
  Calls Tryz.prog 198 #[.slice (some ⟨S,0,none⟩) M c,.int .i64 (j:Int),.int .i64 (-1),.int .i64 (E (512*(j+1))),.int .i64 m] w (FindB w E n j m):=by
 obtain ⟨t,ht1,ht3⟩:=ht
 have HT3:=Lib.hid ht3
 have HE:=Lib.hid hE
 have HX:=Lib.hid h
 have hM:=h.hM
 have hL9:=h.lv.le (by omega)
 have hBL:=h.lv.1
 have LF:=Lib.hid (leafk_p w (some ⟨S,0,none⟩) M c (2 ^ H) j hM (by omega) (by omega))
 have L0:=Lib.hid fun w'=>leaf0_p w' (some ⟨S,0,none⟩) M c (2 ^ H) hM (by omega)
 have AT:=Lib.hid fun w' (b':Below w.heap.size w w') x k a (hx:Hang H x k a)=>node_p hE (h.below b') hn c x k a hx
 have hb0:=hE.bound (512*(j+1))
 have hang0:Hid (Hang H (2 ^ H+j) 0 j):=⟨by rw [Nat.pow_zero,Nat.mul_one],by omega,by omega⟩
 have hp0:0 < 2 ^ H:=Nat.two_pow_pos H
 generalize hy0:E (512*(j+1))=y0 at *
 have HY0:=Lib.hid hy0
 generalize hPL:2 ^ H=L at *
 have HPL:=Lib.hid hPL
 have htL:t < L:=by omega
 clear h hE ht3 hy0 hPL
 go_enter Tryz.func198,Tryz.ntmps198
 go_wp2_with fail
 refine LF.out.mono ?_
 rintro e w1 ⟨rfl,rfl⟩
 clear LF
 go_wp2_with fail
 go_loopw [3,11] (fun z v wr=>∃ (x k a:Nat) (y:Int),v=.int .i64 (x:Int)∧z=.int .i64 y∧-1000000≤y∧y≤1000000∧x≤2*L∧1≤x∧a≤j∧Hid (a+2 ^ k≤j+1)∧Hid (t < a+2 ^ k)∧Hid (y=E (512*(a+2 ^ k)))∧Hid (Hang H x k a)∧Hid (NoHas E n (a+2 ^ k) (j+1) m)∧Hid (Below w.heap.size w wr)) (fun _ v _=>posn H (intOf v).toNat)
 case atStart=>exact ⟨L+j,0,j,y0,rfl,rfl,by omega,by omega,by omega,by omega,by omega,Nat.le_refl _,by show t < j+2 ^ 0;omega,HY0.out.symm,hang0.out,fun i h1 h2=>by omega,Below.refl _ _⟩
 case round =>
  clear hang0 HY0
  obtain ⟨x,k,a,y,rfl,rfl,hy1,hy2,hx9,hx1,haj,hej,het,hy,hh,hno,hbel⟩:=hrel
  have han:512*a < n:=by omega
  have hend:=node_end hh.out.2.1 hh.out.1 hh.out.2.2
  rw [HPL.out] at hend
  have hpk:0 < 2 ^ k:=Nat.two_pow_pos k
  have A1:=Lib.hid (AT.out wr hbel.out x k a hh.out)
  have hfit:=nd_fits HE.out hn a (a+2 ^ k)
  have HI:=Lib.hid (has_back (E:=E) (n:=n) (a:=a) (b:=a+2 ^ k) han (by omega) m)
  have ND:=Lib.hid (nd_end (E:=E) (n:=n) (a:=a) (b:=a+2 ^ k) han (by omega))
  rw [Nat.min_eq_left (by have:=hej.out;omega),← hy.out] at HI ND
  obtain ⟨ee,hee⟩:∃ ee,a+2 ^ k=ee:=⟨_,rfl⟩
  rw [hee] at A1 hfit HI ND hend hej het hno hy
  have hae:a < ee:=by omega
  have HP1:Hid (posn H x=L+a):=by show _=_;rw [hh.out.posn,HPL.out]
  obtain ⟨p,hp⟩:∃ p,nd E n a ee=p:=⟨_,rfl⟩
  rw [hp] at A1 hfit HI ND
  have HEE:=Lib.hid hee
  have HPN:=Lib.hid hp
  clear hp hee hpk
  obtain ⟨s,l⟩:=p
  have hs1:=hfit.a1
  have hs2:=hfit.a2
  have HFIT:=Lib.hid hfit
  simp only at hs1 hs2 HI ND
  clear hfit
  by_cases hhas:y - s+l≤m
  ·have HF:=Lib.hid fun w'=>has_b w' (s,l) y m HFIT.out (by omega)
   simp only at HF
   rw [show decide (y - s+l≤m)=true from decide_eq_true hhas] at HF
   have HHS:Hid (Has E n a (a+2 ^ k) m):=by show Has _ _ _ _ _;rw [HEE.out];exact HI.out.1 hhas
   clear hhas HI ND
   go_wp2_with fail
   refine A1.out.mono ?_
   rintro e w2 ⟨rfl,b2⟩
   have hb2:Hid (Below w.heap.size w w2):=hbel.out.trans (b2.mono hbel.out.size)
   clear A1 b2
   go_wp2_with fail
   refine (HF.out w2).mono ?_
   rintro e w3 ⟨rfl,b3⟩
   have hb3:Hid (Below w.heap.size w w3):=hb2.out.trans (b3.mono hb2.out.size)
   clear b3 hb2 HF
   go_wp2_with fail
   go_loopw [3,11] (fun z v wq=>∃ (x k a:Nat) (y:Int),v=.int .i64 (x:Int)∧z=.int .i64 y∧-1000000≤y∧y≤1000000∧x≤2*L∧a≤j∧Hid (a+2 ^ k≤j+1)∧Hid (y=E (512*(a+2 ^ k)))∧Hid (Hang H x k a)∧Hid (NoHas E n (a+2 ^ k) (j+1) m)∧Hid (Has E n a (a+2 ^ k) m)∧Hid (Below w.heap.size w wq)) (fun _ v _=>2*L - (intOf v).toNat)
   case atStart=>exact ⟨x,k,a,y,rfl,rfl,by omega,by omega,by omega,by omega,by rw [HEE.out];exact hej.out,by rw [HEE.out];exact hy.out,hh.out,by rw [HEE.out];exact hno.out,HHS.out,hb3.out⟩
   case round =>
    clear hy hh hno HHS hb3 hbel HEE HPN HFIT hend HP1 hs1 hs2 hae het hej han haj hx9 hx1 hy1 hy2
    obtain ⟨x,k,a,y,rfl,rfl,hy1,hy2,hx9,haj,hej,hy,hh,hno,hhs,hbel⟩:=hrel
    have han:512*a < n:=by omega
    cases k with
    | zero =>
      have hx:x=L+a:=by have:=hh.out.1;rw [Nat.pow_zero,HPL.out] at this;omega
      subst hx
      go_wp2_with (go_at_call 205;refine (L0.out _).mono ?_;rintro e w' ⟨rfl,rfl⟩)
      go_ret
      exact ⟨a,congrArg (fun z=>Ending.returned (.int .i64 z)) (by omega),⟨haj,hhs.out,hno.out⟩,hbel.out⟩
    | succ k =>
      obtain ⟨q1,q2,q3⟩:=node_kids hh.out.2.1 hh.out.1 hh.out.2.2
      have hpk:0 < 2 ^ k:=Nat.two_pow_pos k
      have hk1:Hid (Hang H (x*2) k a):=⟨by rw [Nat.mul_comm x 2];exact q1,by have:=hh.out.2.1;omega,hh.out.2.2⟩
      have hk2:Hid (Hang H (x*2+1) k (a+2 ^ k)):=⟨by rw [Nat.mul_comm x 2];exact q2,by have:=hh.out.2.1;omega,q3⟩
      have hend:=node_end hk2.out.2.1 hk2.out.1 hk2.out.2.2
      rw [HPL.out] at hend
      have hxL:x < L:=by omega
      have hx1:1≤x:=(node_end hh.out.2.1 hh.out.1 hh.out.2.2).2.1
      have e2:((x*2:Nat):Int)=(x:Int)*2:=by omega
      have e3:((x*2+1:Nat):Int)=(x:Int)*2+1:=by omega
      have IF:=Lib.hid fun w'=>isFar_b w' (x*2) (by omega)
      rw [show decide (x*2%2=0)=true from decide_eq_true (by omega),e2] at IF
      have HH2:Hid (Has E n a (a+2 ^ k+2 ^ k) m):=by
       show Has _ _ _ _ _
       have:=hhs.out
       rw [pow_up] at this
       rw [show a+2 ^ k+2 ^ k=a+2*2 ^ k by omega]
       exact this
      rw [pow_up,show a+2*2 ^ k=a+2 ^ k+2 ^ k by omega] at hej hy hno
      obtain ⟨b,hb⟩:∃ b,a+2 ^ k=b:=⟨_,rfl⟩
      rw [hb] at hej hy hno HH2 hk2
      have hejo:=hej.out
      have hbn:512*b < n:=by omega
      have A1:=Lib.hid fun w' b'=>AT.out w' b' (x*2+1) k b hk2.out
      rw [e3] at A1
      have hfit:=nd_fits HE.out hn b (b+2 ^ k)
      have HI:=Lib.hid (has_back (E:=E) (n:=n) (a:=b) (b:=b+2 ^ k) hbn (by omega) m)
      have ND:=Lib.hid (nd_end (E:=E) (n:=n) (a:=b) (b:=b+2 ^ k) hbn (by omega))
      rw [Nat.min_eq_left (by omega),← hy.out] at HI ND
      have HBB:=Lib.hid hb
      have hbj:b≤j:=by omega
      have hab:a≤b:=by omega
      obtain ⟨p,hp⟩:∃ p,nd E n b (b+2 ^ k)=p:=⟨_,rfl⟩
      rw [hp] at A1 hfit HI ND
      clear hp hb hpk q1 q2 q3 hh hhs hend e2 e3 hejo
      obtain ⟨s,l⟩:=p
      have hs1:=hfit.a1
      have hs2:=hfit.a2
      have HFIT:=Lib.hid hfit
      simp only at hs1 hs2 HI ND
      clear hfit
      by_cases hl:y - s+l≤m
      ·have HF:=Lib.hid fun w'=>has_b w' (s,l) y m HFIT.out (by omega)
       unfold ndv at HF A1
       simp only at HF A1
       rw [show decide (y - s+l≤m)=true from decide_eq_true hl] at HF
       have HHS:Hid (Has E n b (b+2 ^ k) m):=HI.out.1 hl
       clear hl HI ND HH2
       go_wp2_with (first
        | (go_at_call 205;refine (L0.out _).mono ?_;rintro e w' ⟨rfl,rfl⟩)
        | (go_at_call 209;refine (IF.out _).mono ?_;rintro e w' ⟨rfl,rfl⟩))
       refine (A1.out _ hbel.out).mono ?_
       rintro e w2 ⟨rfl,b2⟩
       have hb2:Hid (Below w.heap.size w w2):=hbel.out.trans (b2.mono hbel.out.size)
       clear A1 b2
       go_wp2_with fail
       refine (HF.out _).mono ?_
       rintro e w3 ⟨rfl,b3⟩
       have hb3:Hid (Below w.heap.size w w3):=(hb2.out.alloc hb2.out.size _).trans (b3.mono (by have:=hb2.out.size;simp;omega))
       clear b3 hb2 HF
       go_wp2_with fail
       go_roundw
       case rel=>exact ⟨x*2+1,k,b,y,by go_num,rfl,by omega,by omega,by omega,by omega,hej.out,hy.out,hk2.out,hno.out,HHS.out,hb3.out⟩
       case measure=>simp [intOf];omega
      ·have HF:=Lib.hid fun w'=>has_b w' (s,l) y m HFIT.out (by omega)
       unfold ndv at HF A1
       simp only at HF A1
       rw [show decide (y - s+l≤m)=false from decide_eq_false hl] at HF
       have HNL:¬ Has E n b (b+2 ^ k) m:=fun g=>hl (HI.out.2 g)
       have HHS:Hid (Has E n a (a+2 ^ k) m):=by show Has _ _ _ _ _;rw [HBB.out];exact HH2.out.splitL HNL hab
       have HNO:Hid (NoHas E n (a+2 ^ k) (j+1) m):=by show NoHas _ _ _ _ _;rw [HBB.out];exact hno.out.back HNL
       have NY:Hid (y - s=E (512*(a+2 ^ k))):=by show _=_;rw [HBB.out];have:=ND.out;omega
       have hb9:=HE.out.bound (512*b)
       have NY2:y - s=E (512*b):=by have:=ND.out;omega
       rw [← NY2] at hb9
       clear hl HI ND HH2 HNL NY2
       go_wp2_with (first
        | (go_at_call 205;refine (L0.out _).mono ?_;rintro e w' ⟨rfl,rfl⟩)
        | (go_at_call 209;refine (IF.out _).mono ?_;rintro e w' ⟨rfl,rfl⟩))
       refine (A1.out _ hbel.out).mono ?_
       rintro e w2 ⟨rfl,b2⟩
       have hb2:Hid (Below w.heap.size w w2):=hbel.out.trans (b2.mono hbel.out.size)
       clear A1 b2
       go_wp2_with fail
       refine (HF.out _).mono ?_
       rintro e w3 ⟨rfl,b3⟩
       have hb3:Hid (Below w.heap.size w w3):=(hb2.out.alloc hb2.out.size _).trans (b3.mono (by have:=hb2.out.size;simp;omega))
       have hc3:w3.cell? ⟨w2.heap.size,0,none⟩=some (.int .i32 s):=(b3.cell (p:=⟨w2.heap.size,0,none⟩) (by simp)).trans ((Blk.new w2 _ _).cell 0)
       clear b3 hb2 HF
       go_wp2_with fail
       go_roundw
       case rel=>exact ⟨x*2,k,a,y - s,congrArg (Value.int .i64) (by omega),congrArg (Value.int .i64) (by omega),by omega,by omega,by omega,by omega,by show a+2 ^ k≤j+1;rw [HBB.out];omega,NY.out,hk1.out,HNO.out,HHS.out,hb3.out⟩
       case measure=>simp [intOf];omega
  ·have HF:=Lib.hid fun w'=>has_b w' (s,l) y m HFIT.out (by omega)
   simp only at HF
   rw [show decide (y - s+l≤m)=false from decide_eq_false hhas] at HF
   have HNL:¬ Has E n a ee m:=fun g=>hhas (HI.out.2 g)
   have hta:t < a:=by
    rcases Nat.lt_or_ge t a with g | g
    ·exact g
    ·exact absurd (HT3.out.sub g (show t+1≤ee from het.out)) HNL
   have HNO:Hid (NoHas E n a (j+1) m):=hno.out.back HNL
   have NY:Hid (y - s=E (512*a)):=by show _=_;have:=ND.out;omega
   have hb9:=HE.out.bound (512*a)
   rw [← NY.out] at hb9
   have FS:=fld_nd (s,l)
   simp only at FS
   clear hhas HI ND HNL
   go_wp2_with fail
   refine A1.out.mono ?_
   rintro e w2 ⟨rfl,b2⟩
   have hb2:Hid (Below w.heap.size w w2):=hbel.out.trans (b2.mono hbel.out.size)
   clear A1 b2
   go_wp2_with fail
   refine (HF.out w2).mono ?_
   rintro e w3 ⟨rfl,b3⟩
   have hb3:Hid (Below w.heap.size w w3):=hb2.out.trans (b3.mono hb2.out.size)
   have A2:=Lib.hid (AT.out w3 hb3.out x k a hh.out)
   rw [HEE.out,HPN.out] at A2
   clear b3 hb2 HF
   go_wp2_with fail
   refine A2.out.mono ?_
   rintro e w4 ⟨rfl,b4⟩
   have hb4:Hid (Below w.heap.size w w4):=hb3.out.trans (b4.mono hb3.out.size)
   clear b4 hb3 A2
   go_wp2_with fail
   go_loop [11] (fun v=>∃ (x2 k2:Nat),v=.int .i64 (x2:Int)∧x2≤2*L∧1≤x2∧Hid (Hang H x2 k2 a)) (fun v=>(intOf v).toNat)
   case atStart=>exact ⟨x,k,rfl,by omega,by omega,hh.out⟩
   case round =>
    obtain ⟨x2,k2,rfl,hx2,hx21,hh2⟩:=hrel
    have IF:=Lib.hid fun w'=>isFar_b w' x2 (by omega)
    by_cases hodd:x2%2=0
    ·rw [show decide (x2%2=0)=true from decide_eq_true hodd] at IF
     obtain ⟨u1,u2⟩:=up_back hh2.out.1 hh2.out.2.2 hh2.out.2.1 hodd (by omega)
     have HH3:Hid (Hang H (x2 / 2) (k2+1) a):=⟨u1,u2,hh2.out.2.2⟩
     have hx31:=(node_end u2 u1 hh2.out.2.2).2.1
     clear hodd u1 u2
     go_wp2_with (go_at_call 209;refine (IF.out _).mono ?_;rintro e w' ⟨rfl,rfl⟩)
     go_round
     case rel=>exact ⟨x2 / 2,k2+1,congrArg (Value.int .i64) (by omega),by omega,hx31,HH3.out⟩
     case measure=>simp [intOf];omega
    ·rw [show decide (x2%2=0)=false from decide_eq_false hodd] at IF
     obtain ⟨a',ha',hk'⟩:=hh2.out.left (by omega)
     have HH3:=Lib.hid hk'
     have HA':=Lib.hid ha'
     have haa:a' < a:=by have:0 < 2 ^ k2:=Nat.two_pow_pos k2;omega
     have HP2:Hid (posn H (x2 - 1)=L+a'):=by show _=_;rw [HH3.out.posn,HPL.out]
     have hx31:=(node_end hk'.2.1 hk'.1 hk'.2.2).2.1
     clear hodd ha' hk'
     go_wp2_with (go_at_call 209;refine (IF.out _).mono ?_;rintro e w' ⟨rfl,rfl⟩)
     go_roundw
     case rel=>exact ⟨x2 - 1,k2,a',y - s,congrArg (Value.int .i64) (by omega),congrArg (Value.int .i64) (by omega),by omega,by omega,by omega,hx31,by omega,by show a'+2 ^ k2≤j+1;rw [HA'.out];omega,by show t < a'+2 ^ k2;rw [HA'.out];exact hta,by show _=E (512*(a'+2 ^ k2));rw [HA'.out];exact NY.out,HH3.out,by show NoHas _ _ (a'+2 ^ k2) _ _;rw [HA'.out];exact HNO.out,hb4.out⟩
     case measure =>
      show posn H ((x2:Int)+-1).toNat < posn H ((x:Int)).toNat
      rw [show ((x2:Int)+-1).toNat=x2 - 1 by omega,show ((x:Int)).toNat=x by omega,HP1.out,HP2.out]
      omega
theorem PAt.tr {w:World} {p g V n q:Nat} (h:PAt w p g V n true q):∃ S M K T,w.cell? ⟨p,4,none⟩=some (.slice (some ⟨S,0,none⟩) M M)∧TrAt w (exc V) n S K M T:=by
 obtain ⟨_,_,H,hb,S,M,K,T,h1,rfl,h3,h4,h5,h6⟩:=h
 exact ⟨S,M,K,T,hb.cell 4,RdT.ofBlk h3,h4,h3.lt,h5,h6⟩
def LeapF (w:World) (p g V n q b:Nat) (m:Int) (e:Ending) (w':World):Prop :=
 PAt w' p g V n true (q+1)∧Mod (fun i=>i=g) w w'∧∃ r:Nat,e=.returned (.int .i64 ((r:Int)*512))∧FirstB (exc V) n b m r
def LeapB (w:World) (p g V n q b:Nat) (m:Int) (e:Ending) (w':World):Prop :=
 PAt w' p g V n true (q+1)∧Mod (fun i=>i=g) w w'∧∃ r:Nat,e=.returned (.int .i64 (((r:Int)+1)*512))∧LastB (exc V) n b m r
theorem has_end {E:Nat→Int} {n b:Nat} {m:Int} (hB:Bal E n) (hb:512*b < n) (hm:0≤m):∃ t,b≤t∧512*t < n∧Has E n t (t+1) m :=
 ⟨(n - 1) / 512,by omega,by omega,n,by omega,by omega,by rw [hB.2];exact hm⟩
theorem has_start {E:Nat→Int} (hE:Exc E) {n b:Nat} {m:Int} (hm:0≤m):∃ t,t≤b∧Has E n t (t+1) m :=
 ⟨0,by omega,0,by omega,by omega,by rw [hE.zero];exact hm⟩
section
variable (p g V n q:Nat) (w:World)
set_option maxHeartbeats 4000000 in
theorem leap_f (b:Nat) (m:Int) (h:PAt w p g V n true q) (hB:Bal (exc V) n) (hb:512*b < n) (hm:0≤m) (hq:q≤1000000) :
  Calls Tryz.prog 187 #[.pointer (some ⟨p,0,none⟩),.int .i64 ((512*b:Nat):Int),.int .i64 1,.int .i64 m] w (LeapF w p g V n q b m):=by
 have hn:=h.n9
 obtain ⟨S,M,K,T,c4,htr⟩:=h.tr
 have hpl:=h.lt
 have EX:=Lib.hid (excess_p p g V n q true w.drew (512*b) (h.below (Below.refl _ _).drew) (by omega) hq)
 have BO:=Lib.hid fun w'=>bitOn_f w' ((512*b:Nat):Int)
 have HE:=Lib.hid (exc_Exc V)
 have HT:=Lib.hid (has_end hB hb hm)
 have FD:Hid (∀ w',PAt w' p g V n true (q+1)→w'.cell? ⟨p,4,none⟩=some (.slice (some ⟨S,0,none⟩) M M)→Calls Tryz.prog 198 #[.slice (some ⟨S,0,none⟩) M M,.int .i64 (b:Int),.int .i64 1,.int .i64 (exc V (512*b)),.int .i64 m] w' (FindF w' (exc V) n b m)):=fun w' h' c4'=>by
  obtain ⟨S9,M9,K9,T9,c9,t9⟩:=h'.tr
  obtain ⟨rfl,rfl⟩:S9=S∧M9=M:=by
   have:=c9.symm.trans c4'
   simp at this
   exact this
  exact find_f w' (exc V) HE.out n _ K9 _ T9 t9 hn _ b m hb HT.out
 have e1:((512*b:Nat):Int) / 512=(b:Int):=by omega
 have e2:((512*b:Nat):Int)=512*(b:Int):=by omega
 have HC4:=Lib.hid c4
 have hgp:=h.1
 have HP:=Lib.hid h
 obtain ⟨o,ho⟩:∃ o,512*b=o:=⟨_,rfl⟩
 rw [ho] at EX BO FD e1 ⊢
 clear h hB e2 htr ho
 go_enter Tryz.func187,Tryz.ntmps187
 go_wp2_with fail
 have c4d:w.drew.cell? ⟨p,4,none⟩=some (.slice (some ⟨S,0,none⟩) M M):=c4
 clear HC4
 have wb:IntKind.i64.wrap (b:Int)=(b:Int):=by rw [IntKind.wrap_i64];omega
 go_region_held3 (fun w'=>w'.cell? ⟨p,4,none⟩=some (.slice (some ⟨S,0,none⟩) M M))
  (assumption)
  (first
  | (go_at_call 159;(with_reducible refine (BO.out _).mono ?_);rintro e w' ⟨rfl,rfl⟩)
  | (go_at_call 174;(with_reducible refine EX.out.mono ?_);rintro e w9 ⟨rfl,h9,m9⟩;have c9:w9.cell? ⟨p,4,none⟩=some (.slice (some ⟨S,0,none⟩) M M):=(m9.cell (b:=p) hpl (by omega) 4).trans c4;have H9:=Lib.hid h9;have M9:=Lib.hid m9;clear h9 m9)
  | (go_at_call 198;(with_reducible refine (FD.out _ H9.out c9).mono ?_);rintro e w10 ⟨r,rfl,hr,b10⟩;have c10:w10.cell? ⟨p,4,none⟩=some (.slice (some ⟨S,0,none⟩) M M):=(b10.cell (p:=⟨p,4,none⟩) H9.out.lt).trans c9;have HR:=Lib.hid hr;have H10:=Lib.hid (H9.out.below b10);have M10:=Lib.hid ((Mod.drew (Mod.refl (fun i=>i=g) w)).trans (M9.out.trans (Mod.none_ b10 _) fun _ _ h=>h) fun _ _ h=>h);clear b10 hr))
 all_goals (
  have hr9:=HR.out.lt
  clear wb
  go_wp2_with fail
  go_ret
  exact ⟨H10.out,M10.out,r,rfl,HR.out⟩)
set_option maxHeartbeats 4000000 in
theorem leap_b (b:Nat) (m:Int) (h:PAt w p g V n true q) (hb:512*(b+1)≤n) (hm:0≤m) (hq:q≤1000000) :
  Calls Tryz.prog 187 #[.pointer (some ⟨p,0,none⟩),.int .i64 ((512*(b+1):Nat):Int),.int .i64 (-1),.int .i64 m] w (LeapB w p g V n q b m):=by
 have hn:=h.n9
 obtain ⟨S,M,K,T,c4,htr⟩:=h.tr
 have hpl:=h.lt
 have EX:=Lib.hid (excess_p p g V n q true w.drew (512*(b+1)) (h.below (Below.refl _ _).drew) (by omega) hq)
 have BO:=Lib.hid fun w'=>bitOn_b w' ((512*(b+1):Nat):Int) (by omega) (by omega)
 have HE:=Lib.hid (exc_Exc V)
 have HT:=Lib.hid (has_start (n:=n) (b:=b) HE.out hm)
 have FD:Hid (∀ w',PAt w' p g V n true (q+1)→w'.cell? ⟨p,4,none⟩=some (.slice (some ⟨S,0,none⟩) M M)→Calls Tryz.prog 198 #[.slice (some ⟨S,0,none⟩) M M,.int .i64 (b:Int),.int .i64 (-1),.int .i64 (exc V (512*(b+1))),.int .i64 m] w' (FindB w' (exc V) n b m)):=fun w' h' c4'=>by
  obtain ⟨S9,M9,K9,T9,c9,t9⟩:=h'.tr
  obtain ⟨rfl,rfl⟩:S9=S∧M9=M:=by
   have:=c9.symm.trans c4'
   simp at this
   exact this
  exact find_b w' (exc V) HE.out n _ K9 _ T9 t9 hn _ b m hb HT.out
 have e1:(((512*(b+1):Nat):Int) - 1) / 512=(b:Int):=by omega
 have HC4:=Lib.hid c4
 have hgp:=h.1
 have HP:=Lib.hid h
 obtain ⟨o,ho⟩:∃ o,512*(b+1)=o:=⟨_,rfl⟩
 have ho1:1≤o:=by omega
 rw [ho] at EX BO FD e1 ⊢
 clear h htr ho
 go_enter Tryz.func187,Tryz.ntmps187
 go_wp2_with fail
 have c4d:w.drew.cell? ⟨p,4,none⟩=some (.slice (some ⟨S,0,none⟩) M M):=c4
 clear HC4
 have wb:IntKind.i64.wrap (b:Int)=(b:Int):=by rw [IntKind.wrap_i64];omega
 have wo:IntKind.i64.wrap (((o:Int) - 1) / 512)=(b:Int):=by rw [e1,wb]
 have wt:IntKind.i64.wrap (((o:Int) - 1).tdiv 512)=(b:Int):=by rw [Int.tdiv_eq_ediv_of_nonneg (by omega),e1,wb]
 go_region_held3 (fun w'=>w'.cell? ⟨p,4,none⟩=some (.slice (some ⟨S,0,none⟩) M M))
  (assumption)
  (first
  | (go_at_call 159;(with_reducible refine (BO.out _).mono ?_);rintro e w' ⟨rfl,rfl⟩)
  | (go_at_call 174;(with_reducible refine EX.out.mono ?_);rintro e w9 ⟨rfl,h9,m9⟩;have c9:w9.cell? ⟨p,4,none⟩=some (.slice (some ⟨S,0,none⟩) M M):=(m9.cell (b:=p) hpl (by omega) 4).trans c4;have H9:=Lib.hid h9;have M9:=Lib.hid m9;clear h9 m9)
  | (go_at_call 198;(with_reducible refine (FD.out _ H9.out c9).mono ?_);rintro e w10 ⟨r,rfl,hr,b10⟩;have c10:w10.cell? ⟨p,4,none⟩=some (.slice (some ⟨S,0,none⟩) M M):=(b10.cell (p:=⟨p,4,none⟩) H9.out.lt).trans c9;have HR:=Lib.hid hr;have H10:=Lib.hid (H9.out.below b10);have M10:=Lib.hid ((Mod.drew (Mod.refl (fun i=>i=g) w)).trans (M9.out.trans (Mod.none_ b10 _) fun _ _ h=>h) fun _ _ h=>h);clear b10 hr))
 all_goals (
  have hr9:=HR.out.le
  clear wb wo wt
  go_wp2_with fail
  go_ret
  exact ⟨H10.out,M10.out,r,rfl,HR.out⟩)
def SeekF (w:World) (p g V n q i:Nat) (m:Int) (e:Ending) (w':World):Prop :=
 PAt w' p g V n true (q+3)∧Mod (fun i=>i=g) w w'∧∃ j:Nat,e=.returned (.int .i64 (j:Int))∧Fwd (exc V) i n m j
def SeekB (w:World) (p g V n q a:Nat) (m:Int) (e:Ending) (w':World):Prop :=
 PAt w' p g V n true (q+3)∧Mod (fun i=>i=g) w w'∧∃ j:Nat,e=.returned (.int .i64 (j:Int))∧Bwd (exc V) a m j
theorem land_f {E:Nat→Int} {n b r j i:Nat} {m:Int} (hi:i < 512*b) (h1:∀ k,i < k→k≤512*b→m < E k) (hr:FirstB E n b m r):(∀ k,i < k→k≤512*r→m < E k)∧∃ k,512*r < k∧k≤min (512*(r+1)) n∧E k≤m:=by
 have h2:∀ k,i < k→k≤512*r→m < E k:=fun k p q=>by
  rcases Nat.lt_or_ge (512*b) k with x | x
  ·have hx:=hr.none_ ((k - 1) / 512) (by omega) (by omega)
   rcases Int.lt_or_le m (E k) with y | y
   ·exact y
   ·exact absurd ⟨k,by omega,by have:=hr.lt;omega,y⟩ hx
  ·exact h1 k p x
 refine ⟨h2,?_⟩
 obtain ⟨k,k1,k2,k3⟩:=hr.has
 refine ⟨k,?_,k2,k3⟩
 rcases Nat.lt_or_ge (512*r) k with x | x
 ·exact x
 ·have:=h2 k (by have:=hr.le;omega) x;omega
theorem land_b {E:Nat→Int} {n b r a:Nat} {m:Int} (hb:512*(b+1)≤n) (ha:512*(b+1) < a) (h1:∀ k,512*(b+1)≤k→k < a→m < E k) (hr:LastB E n b m r):(∀ k,512*(r+1)≤k→k < a→m < E k)∧∃ k,512*r≤k∧k < 512*(r+1)∧E k≤m:=by
 have hrl:=hr.le
 have h2:∀ k,512*(r+1)≤k→k < a→m < E k:=fun k p q=>by
  rcases Nat.lt_or_ge k (512*(b+1)) with x | x
  ·have hx:=hr.none_ (k / 512) (by omega) (by omega)
   rcases Int.lt_or_le m (E k) with y | y
   ·exact y
   ·exact absurd ⟨k,by omega,by omega,y⟩ hx
  ·exact h1 k x q
 refine ⟨h2,?_⟩
 obtain ⟨k,k1,k2,k3⟩:=hr.has
 refine ⟨k,k1,?_,k3⟩
 rcases Nat.lt_or_ge k (512*(r+1)) with x | x
 ·exact x
 ·have:=h2 k x (by omega);omega
set_option maxHeartbeats 4000000 in
theorem seek_f (i:Nat) (m:Int) (h:PAt w p g V n true q) (hB:Bal (exc V) n) (hi:i < n) (hm:0≤m) (hq:q≤999000) :
  Calls Tryz.prog 175 #[.pointer (some ⟨p,0,none⟩),.int .i64 (i:Int),.int .i64 1,.int .i64 m] w (SeekF w p g V n q i m):=by
 have hn:=h.n9
 have S1:=Lib.hid (scan_f p g V n q true w i m h hB hi hm (by omega))
 have HB:=Lib.hid hB
 clear h hB
 go_enter Tryz.func175,Tryz.ntmps175
 go_wp2_with fail
 refine S1.out.mono ?_
 rintro e w2 ⟨h2,m2,j,⟨rfl,hf⟩ | ⟨rfl,hj,hjn,hab⟩⟩
 ·have H2:=Lib.hid h2
  have M2:=Lib.hid m2
  have HF:=Lib.hid hf
  clear h2 m2 hf S1
  go_wp2_with fail
  go_ret
  exact ⟨H2.out.le (by omega),M2.out,j,rfl,HF.out⟩
 ·obtain ⟨b,hb⟩:∃ b,i / 512+1=b:=⟨_,rfl⟩
  rw [hb] at hj
  have hib:i < 512*b:=by omega
  subst hj
  have LP:=Lib.hid (leap_f p g V n (q+1) w2 b m h2 HB.out hjn hm (by omega))
  have H2:=Lib.hid h2
  have M2:=Lib.hid m2
  have HAB:=Lib.hid hab
  obtain ⟨o,ho⟩:∃ o,512*b=o:=⟨_,rfl⟩
  have HO:=Lib.hid ho
  rw [ho] at LP hjn hib ⊢
  clear h2 m2 hab S1 hb ho
  go_wp2_with fail
  refine LP.out.mono ?_
  rintro e w3 ⟨h3,m3,r,rfl,hr⟩
  have hrn:=hr.lt
  have hrb:=hr.le
  obtain ⟨l1,l2⟩:=land_f (j:=0) (by rw [HO.out];exact hib) HAB.out hr
  have S2:=Lib.hid (scan_f p g V n (q+2) true w3 (512*r) m h3 HB.out hrn hm (by omega))
  rw [show ((512*r:Nat):Int)=(r:Int)*512 by omega] at S2
  have H3:=Lib.hid h3
  have M3:Hid (Mod (fun i=>i=g) w w3):=M2.out.trans m3 fun _ _ h=>h
  have L1:=Lib.hid l1
  have L2:=Lib.hid l2
  have hir:i≤512*r:=by have:=HO.out;omega
  clear h3 m3 hr l1 l2 LP M2 H2
  go_wp2_with fail
  refine S2.out.mono ?_
  rintro e w4 ⟨h4,m4,j,⟨rfl,hf⟩ | ⟨rfl,hj,hjn',hab⟩⟩
  ·have H4:=Lib.hid h4
   have M4:Hid (Mod (fun i=>i=g) w w4):=M3.out.trans m4 fun _ _ h=>h
   have HF:=Lib.hid (hf.on hir L1.out)
   clear h4 m4 hf S2
   go_wp2_with fail
   go_ret
   exact ⟨H4.out,M4.out,j,rfl,HF.out⟩
  ·exfalso
   obtain ⟨k,k1,k2,k3⟩:=L2.out
   have:=hab k k1 (by omega)
   omega
set_option maxHeartbeats 4000000 in
theorem seek_b (a:Nat) (m:Int) (h:PAt w p g V n true q) (ha:0 < a) (han:a≤n) (hm:0≤m) (hq:q≤999000) :
  Calls Tryz.prog 175 #[.pointer (some ⟨p,0,none⟩),.int .i64 (a:Int),.int .i64 (-1),.int .i64 m] w (SeekB w p g V n q a m):=by
 have hn:=h.n9
 have S1:=Lib.hid (scan_b p g V n q true w a m h ha han hm (by omega))
 clear h
 go_enter Tryz.func175,Tryz.ntmps175
 go_wp2_with fail
 refine S1.out.mono ?_
 rintro e w2 ⟨h2,m2,j,⟨rfl,hf⟩ | ⟨rfl,hj,hjn,hab⟩⟩
 ·have H2:=Lib.hid h2
  have M2:=Lib.hid m2
  have HF:=Lib.hid hf
  clear h2 m2 hf S1
  go_wp2_with fail
  go_ret
  exact ⟨H2.out.le (by omega),M2.out,j,rfl,HF.out⟩
 ·obtain ⟨b,hb⟩:∃ b,(a - 1) / 512=b+1:=⟨(a - 1) / 512 - 1,by omega⟩
  rw [hb] at hj
  have hib:512*(b+1) < a:=by omega
  subst hj
  have LP:=Lib.hid (leap_b p g V n (q+1) w2 b m h2 (by omega) hm (by omega))
  have H2:=Lib.hid h2
  have M2:=Lib.hid m2
  have HAB:=Lib.hid hab
  obtain ⟨o,ho⟩:∃ o,512*(b+1)=o:=⟨_,rfl⟩
  have HO:=Lib.hid ho
  rw [ho] at LP hib ⊢
  clear h2 m2 hab S1 hb ho
  go_wp2_with fail
  refine LP.out.mono ?_
  rintro e w3 ⟨h3,m3,r,rfl,hr⟩
  have hrb:=hr.le
  have hrn:512*(r+1)≤n:=by have:=HO.out;omega
  obtain ⟨l1,l2⟩:=land_b (by have:=HO.out;omega) (by rw [HO.out];exact hib) HAB.out hr
  have S2:=Lib.hid (scan_b p g V n (q+2) true w3 (512*(r+1)) m h3 (by omega) hrn hm (by omega))
  rw [show ((512*(r+1):Nat):Int)=((r:Int)+1)*512 by omega] at S2
  have H3:=Lib.hid h3
  have M3:Hid (Mod (fun i=>i=g) w w3):=M2.out.trans m3 fun _ _ h=>h
  have L1:=Lib.hid l1
  have L2:=Lib.hid l2
  have hir:512*(r+1)≤a:=by have:=HO.out;omega
  clear h3 m3 hr l1 l2 LP M2 H2
  go_wp2_with fail
  refine S2.out.mono ?_
  rintro e w4 ⟨h4,m4,j,⟨rfl,hf⟩ | ⟨rfl,hj,hjn',hab⟩⟩
  ·have H4:=Lib.hid h4
   have M4:Hid (Mod (fun i=>i=g) w w4):=M3.out.trans m4 fun _ _ h=>h
   have HF:=Lib.hid (hf.on hir L1.out)
   clear h4 m4 hf S2
   go_wp2_with fail
   go_ret
   exact ⟨H4.out,M4.out,j,rfl,HF.out⟩
  ·exfalso
   obtain ⟨k,k1,k2,k3⟩:=L2.out
   have:=hab k (by omega) (by omega)
   omega
end
end Go.Proofs.YtijbdnhlpbcabaaGreatDoor
