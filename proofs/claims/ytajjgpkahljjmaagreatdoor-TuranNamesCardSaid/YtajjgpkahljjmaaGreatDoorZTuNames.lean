/- TuranNames: at each letter's place just the dart is looked at that the document says. -/
import Derived.Test.YtajjgpkahljjmaaGreatDoorZTuWord
import Derived.Test.YtajjgpkahljjmaaGreatDoorZg1
open Go.RowKit
set_option linter.unusedVariables false
set_option linter.unusedSimpArgs false
namespace Go.Proofs.YtajjgpkahljjmaaGreatDoor
set_option maxRecDepth 20000
set_option maxHeartbeats 8000000 in
theorem turanNames_walk (A0:Option Addr) (n m c rr:Nat) (by_:List Int) (w:World) (hT:MTabs w) (h0:Rd w w.heap.size A0 m (Z8 by_)) (hb0:∀ x∈by_,0≤x∧x < 256) (hmc:m≤c) (hcm:c≤maxLen) (hn:n < 65536) (hrr:rr < 256) :
  Calls Tryz.prog 5 #[.int .u16 (n:Int),.slice A0 m c,.int .u8 (rr:Int)] w fun e w'=>e=.returned (.bool true)∧Below w.heap.size w w':=by
 unfold maxLen at hcm
 have AW:=Lib.hid (tawake_p w hT)
 have HT:=Lib.hid hT
 have H0:=Lib.hid h0
 have HB0:=Lib.hid hb0
 obtain ⟨k,hk⟩:∃ k,k=n%60:=⟨_,rfl⟩
 have hk4:k < 60:=by omega
 have hk1:(n:Int)%60=(k:Int):=by omega
 have hk2:(n:Int).tmod 60=(k:Int):=by rw [Int.tmod_eq_emod_of_nonneg (by omega)];exact hk1
 have wk:IntKind.u16.wrap (k:Int)=(k:Int):=by simp [IntKind.wrap,IntKind.signed,IntKind.bits];omega
 have wk2:IntKind.i64.wrap (k:Int)=(k:Int):=by simp [IntKind.wrap,IntKind.signed,IntKind.bits];omega
 clear hk hT h0 hb0
 go_enter Tryz.func5,Tryz.ntmps5
 go_wp2_with fail
 refine AW.out.mono ?_
 rintro e w1 ⟨rfl,b1⟩
 have B1:=Lib.hid b1
 have PL:=Lib.hid (rplane_x A0 m c w.heap.size by_ k rr w1 (H0.out.below b1) b1.size HB0.out (by omega) (by omega) hrr)
 clear b1 AW
 go_wp2_with fail
 refine PL.out.mono ?_
 rintro e w2 ⟨v,l,b,root,lone,rfl,⟨hi,A,cA,_,rfl,hlc,hcA,hrA⟩,hl,he,hroot,hlone,hkp,b2⟩
 have hE:=kpl_err hkp hi
 have hlen:l.length=2*k:=hkp.1
 obtain ⟨tw,hW,hR⟩:=word_right hi he hroot hE
 obtain ⟨N,hN⟩:∃ N,N=l.length:=⟨_,rfl⟩
 obtain ⟨ks,hks⟩:∃ ks,ks=wordL l root:=⟨_,rfl⟩
 rw [← hks] at hW hR
 have hkl:ks.length=N:=by rw [hks,wordL_len,hN]
 have hal:=(Below.refl w2.heap.size w2).alloc (Nat.le_refl _) (.cells #[.slice A l.length cA,.int .i64 root,.int .i64 (lone:Int)] 27)
 have hBX:=Blk.new w2 27 #[.slice A l.length cA,.int .i64 root,.int .i64 (lone:Int)]
 have hrA3:=hrA.more hal
 obtain ⟨w3,hw3⟩:∃ w3,w3=w2.alloc (.cells #[.slice A l.length cA,.int .i64 root,.int .i64 (lone:Int)] 27):=⟨_,rfl⟩
 rw [← hw3] at hal hBX hrA3
 have hrA3:Rd w3 w3.heap.size A l.length (I64 (ofN l)):=hrA3
 have NW:=new_ok A l.length cA l b root (lone:Int) w3 hrA3 hi he (by omega) hroot (by omega) (by omega)
 have RE:Hid (∀ W,Below w3.heap.size w3 W→Calls Tryz.prog 15 #[.agg #[.slice A N cA,.int .i64 root,.int .i64 (lone:Int)]] W (fun e w'=>∃ A c,e=.returned (.tuple #[.slice A N c,.int .i64 0])∧Hid (w'.ownsRow W.heap.size 3 1 (.slice A N c) N (I64 (ofN ks)))∧Below W.heap.size W w')):=fun W z=>by
  rw [hN,hks]
  refine (renc_p A cA l b root lone 0 W (hrA3.more z) hi he (by omega) (by omega) hroot hE).mono ?_
  rintro e w' (⟨q,_⟩ | ⟨_,A,c,rfl,_,_,ho,hb⟩)
  ·exact absurd rfl q
  ·exact ⟨A,c,rfl,ho,hb⟩
 have XB:Hid (∀ W,Below w3.heap.size w3 W→W.cell? ⟨w2.heap.size,0,none⟩=some (.slice A N cA)∧W.cell? ⟨w2.heap.size,1,none⟩=some (.int .i64 root)∧W.cell? ⟨w2.heap.size,2,none⟩=some (.int .i64 (lone:Int))):=fun W z=>by
  have hb:=hBX.below z
  have a:=hb.cell 0
  have b:=hb.cell 1
  have c:=hb.cell 2
  simp at a b c
  rw [hN]
  exact ⟨a,b,c⟩
 have EN:Hid (∀ g W,MapAt W g l b root (lone:Int)→Calls Tryz.prog 13 #[.pointer (some ⟨g,0,none⟩)] W fun e w'=>∃ g,e=.returned (.tuple #[.pointer (some ⟨g,0,none⟩),.int .i64 0])∧Hid (WordAt w' W.heap.size g ks)∧Below W.heap.size W w'):=fun g W hm=>by
  rw [hks]
  refine (tenc_p g l b root lone 0 W hm hi hroot hE).mono ?_
  rintro e w' (⟨q,_⟩ | ⟨_,g,rfl,hw,hb⟩)
  ·exact absurd rfl q
  ·exact ⟨g,rfl,hw,hb⟩
 rw [← hN] at NW hw3
 have HNW:=Lib.hid NW
 have HW:=Lib.hid hW
 have HR:=Lib.hid hR
 have HKL:=Lib.hid hkl
 have B3:Hid (Below w.heap.size w w3):=(B1.out.trans (b2.mono B1.out.size)).trans (hal.mono (by have:=B1.out.size;have:=b2.size;omega))
 have hNb:N≤120:=by omega
 obtain ⟨x0,x1,x2⟩:=XB.out w3 (Below.refl _ _)
 rw [← hN]
 clear hi hrA hl he hroot hlone hkp b2 hE hlen hW hR hN hks hkl hal hBX hrA3 NW hlc hcA
 go_upto_region 4 with fail
 rw [← hw3]
 clear hw3
 go_wp2_with fail
 refine HNW.out.mono ?_
 rintro e w4 ⟨g,rfl,hm,b4,_⟩
 have B4:=Lib.hid b4
 have EN4:=Lib.hid (EN.out g w4 hm)
 clear b4 hm EN HNW x0 x1 x2
 go_wp2_with fail
 refine EN4.out.mono ?_
 rintro e w5 ⟨gw,rfl,hw,b5⟩
 have B5:=Lib.hid (B4.out.trans (b5.mono B4.out.size))
 have NM:=Lib.hid (tnamesP_p (some ⟨gw,0,none⟩) ks w5 HW.out.P.kd (HT.out.below (B3.out.trans (B5.out.mono B3.out.size))) (tells_word _ gw ks w5 hw.out (by have:=HKL.out;omega)) N HKL.out (by omega))
 clear b5 hw EN4
 go_wp2_with fail
 refine NM.out.mono ?_
 rintro e w6 (⟨tw',A6,c6,hW',_,rfl,_,_,hO6,b6⟩ | ⟨E,q,hE,_⟩)
 rotate_left
 ·exact absurd (hE.ok HW.out HR.out) q
 have HW':=Lib.hid hW'
 have HO6:=Lib.hid hO6
 have B6:=Lib.hid (B5.out.trans (b6.mono B5.out.size))
 obtain ⟨x0,x1,x2⟩:=XB.out w6 B6.out
 have RE6:=Lib.hid (RE.out w6 B6.out)
 clear b6 hW' hO6 NM RE
 go_wp2_with fail
 refine RE6.out.mono ?_
 rintro e w7 ⟨A7,c7,rfl,HO7,b7⟩
 have B7:=Lib.hid (B6.out.trans (b7.mono B6.out.size))
 have R6:=Lib.hid ((Rd.ofOwn HO6.out).below b7)
 have hR7:Rd w7 w7.heap.size A7 N (I64 (ofN ks)):=Rd.ofOwn HO7.out
 have RN:=Lib.hid (names12_p A7 N c7 ks w7 hR7 HW.out.P.kd (by omega) (HW.out.bal 0) (HW.out.bal 1))
 have HS67:Hid (w6.heap.size≤w7.heap.size):=b7.size
 clear b7 RE6 x0 x1 x2 hR7
 go_wp2_with fail
 refine RN.out.mono ?_
 rintro e w8 ⟨tw8,A8,c8,hW8,rfl,_,_,hO8,b8⟩
 have B8:=Lib.hid (B7.out.trans (b8.mono B7.out.size))
 have EQ:=equalI_any A6 A8 N c6 N c8 _ _ _ _ w8 (R6.out.below (b8.mono HS67.out)) (Rd.ofOwn hO8) (by omega) (by omega)
 rw [HW'.out.nmL hW8,decide_eq_true (rfl:ofN (nmL ks tw8)=ofN (nmL ks tw8))] at EQ
 have HEQ:=Lib.hid EQ
 clear EQ hW8 hO8 b8 RN
 go_wp2_with fail
 refine HEQ.out.mono ?_
 rintro e w9 ⟨rfl,j,rfl⟩
 go_wp2_with fail
 go_ret
 exact ⟨rfl,below_draws (B3.out.trans (B8.out.mono B3.out.size)) j⟩
end Go.Proofs.YtajjgpkahljjmaaGreatDoor
