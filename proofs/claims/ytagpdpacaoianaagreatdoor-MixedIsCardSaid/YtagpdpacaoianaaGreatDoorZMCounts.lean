/- MixedCounts: how many of each kind are ahead, where each stands. -/
import Derived.Test.YtagpdpacaoianaaGreatDoorZMAwake
import Derived.Test.YtagpdpacaoianaaGreatDoorZMAny
import Derived.Test.YtagpdpacaoianaaGreatDoorZMSelNo
import Derived.Test.YtagpdpacaoianaaGreatDoorZMCnt
namespace Go.Proofs.YtagpdpacaoianaaGreatDoor
set_option maxRecDepth 20000
open Go.RowKit
set_option linter.unusedVariables false
theorem own_inBlk {w : World} {base n c : Nat} {A : Option Addr} {xs : List Value} (h : w.ownsRow base 3 1 (.slice A n c) n xs) : ∀ i, inBlk A i → ∃ cs, Blk w i 3 cs := fun i ⟨a, ea, ei⟩ => by
  rcases h.2 with ⟨h1, h2⟩ | ⟨g, cap, cur, hv, hb, hg, _⟩
  · simp only [Value.slice.injEq] at h1
    rw [h1.1] at ea; cases ea
  · simp only [Value.slice.injEq] at hv
    rw [hv.1] at ea
    cases ea
    subst ei
    exact ⟨cur, hg⟩
theorem Rd.cut4 {w : World} {B n : Nat} {A : Option Addr} {l : List Nat} (h : Rd w B A n (I64 (ofNB l))) (k : Nat) (hk : k ≤ n) : Rd w B A k (I64 (ofNB (l.take k))) := by
  rw [ofN_takeB]; exact h.cutI64 k hk
set_option maxHeartbeats 8000000 in
theorem mixedCounts_walk (A0 : Option Addr) (n0 c0 pr : Nat) (bs : List Nat) (z i : Int) (w : World) (hT : MTabs w)
    (h0 : Rd w w.heap.size A0 n0 (U8 bs)) (hbs : ∀ b ∈ bs, b < 256) (hn0 : n0 ≤ c0) (hc0 : c0 ≤ maxLen) (hpr : pr < 65536) (hi : -9223372036854775808 ≤ i ∧ i ≤ 9223372036854775807) :
    Calls Tryz.prog 6 #[.int .u16 (pr : Int), .slice A0 n0 c0, .int .i64 z, .int .i64 i] w fun e w' => e = .returned (.bool true) ∧ Below w.heap.size w w' := by
  unfold maxLen at hc0
  have AW := Lib.hid (awake4_p w hT)
  have HT := Lib.hid hT
  have H0 := Lib.hid h0
  have HBS := Lib.hid hbs
  obtain ⟨P, hP, hP9⟩ : ∃ P : Nat, (pr : Int) % 800 = (P : Int) ∧ P ≤ 799 := ⟨pr % 800, by omega, by omega⟩
  clear hT h0 hbs
  go_enter Tryz.func6, Tryz.ntmps6
  go_wp2_with fail
  refine AW.out.mono ?_
  rintro e w1 ⟨rfl, b1⟩
  have AN := Lib.hid (any4_p A0 n0 c0 P bs w1 ((H0.out.below b1).up b1.size) HBS.out (by omega) (by omega))
  have B1 := Lib.hid b1
  clear b1 AW
  go_wp2_with fail
  refine AN.out.mono ?_
  rintro e w2 ⟨ks, A, c, hso, rfl, hmc, hcm, own2, b2⟩
  obtain ⟨N, hN⟩ : ∃ N, 2 * P = N := ⟨_, rfl⟩
  rw [hN] at hso hmc own2 ⊢
  have hN9 : N ≤ 1598 := by omega
  have B2 : Hid (Below w.heap.size w w2) := B1.out.trans (b2.mono B1.out.size)
  have OF := Lib.hid (of4_p A N c ks w2 (Rd.ofOwn own2) hso.kd (own_inBlk own2) (by omega))
  have R2 := Lib.hid (Rd.ofOwn own2)
  have SO := Lib.hid hso
  clear hso own2 b2 AN B1 hN
  go_wp2_with fail
  refine OF.out.mono ?_
  rintro e w3 ⟨g, rfl, hw3, b3⟩
  have B3 : Hid (Below w.heap.size w w3) := B2.out.trans (b3.mono B2.out.size)
  have R3 := Lib.hid ((R2.out.below b3).up b3.size)
  have IP := Lib.hid (index_p (some ⟨g, 0, none⟩) ks w3 SO.out.kd (HT.out.below B3.out) (tells_word _ g _ w3 hw3 (by rw [SO.out.len]; omega)))
  clear hw3 b3 OF R2 B2
  go_wp2_with fail
  refine IP.out.mono ?_
  rintro e w4 (⟨m, gx, p0, g0, p1, g1, rfl, hm⟩ | ⟨hno, _⟩)
  case inr => exact absurd SO.out.bal hno
  have HM := Lib.hid hm
  have hln : ks.length = N := SO.out.len
  have HLN := Lib.hid hln
  have hcz := cntZ_le z ks
  rw [hln] at hcz
  clear hm IP hln
  have CRA := Lib.hid (fun W (h : Rd W w3.heap.size A N (I64 (ofNB ks))) => refCount4_p A N c w3.heap.size ks z W h (by omega))
  by_cases hkd : Kd z
  · obtain ⟨k, rfl⟩ : ∃ k : Nat, z = (k : Int) := ⟨z.toNat, by have := hkd.1; omega⟩
    have hk : k < 4 := by have := hkd.2; omega
    have hz0 : decide ((k : Int) < 0) = false := decide_eq_false (by omega)
    have hz4 : decide ((k : Int) < 4) = true := decide_eq_true (by omega)
    clear hkd
    by_cases hi0 : i < 0
    · have RK := Lib.hid (irank_no HM.out (k : Int) i (.inr (.inl hi0)))
      have SL := Lib.hid (isel_no HM.out (k : Int) i (.inr (.inl hi0)) (by omega))
      have hib : decide (i < 0) = true := decide_eq_true hi0
      clear HM
      go_wp2_with fail
      refine RK.out.mono ?_
      rintro e w5 ⟨rfl, rfl⟩
      clear RK
      go_wp2_with fail
      refine SL.out.mono ?_
      rintro e w6 ⟨rfl, h6, m6⟩
      have R6 := Lib.hid (R3.out.below h6.bel)
      have B6 : Hid (Below w.heap.size w w6) := B3.out.trans (h6.bel.mono B3.out.size)
      clear h6 m6 SL
      go_wp2_with fail
      go_ret
      exact ⟨rfl, B6.out⟩
    obtain ⟨x, rfl⟩ : ∃ x : Nat, i = (x : Int) := ⟨i.toNat, by omega⟩
    have hx0 : decide ((x : Int) < 0) = false := decide_eq_false (by omega)
    clear hi0
    by_cases hxN : N < x
    · have RK := Lib.hid (irank_no HM.out (k : Int) (x : Int) (.inr (.inr (by rw [HLN.out]; omega))))
      have SL := Lib.hid (isel_no HM.out (k : Int) (x : Int) (.inr (.inr (by omega))) (by omega))
      have hxb : decide ((N : Int) < (x : Int)) = true := decide_eq_true (by omega)
      obtain ⟨ct, hct⟩ : ∃ ct, ct = cntZ (k : Int) ks := ⟨_, rfl⟩
      rw [← hct] at CRA hcz
      have hcb : decide ((ct : Int) ≤ (x : Int)) = true := decide_eq_true (by omega)
      clear HM hct
      go_wp2_with fail
      refine RK.out.mono ?_
      rintro e w5 ⟨rfl, rfl⟩
      clear RK
      go_wp2_with fail
      refine SL.out.mono ?_
      rintro e w6 ⟨rfl, h6, m6⟩
      have R6 := Lib.hid (R3.out.below h6.bel)
      have B6 : Hid (Below w.heap.size w w6) := B3.out.trans (h6.bel.mono B3.out.size)
      clear h6 m6 SL
      go_wp2_with fail
      refine (CRA.out _ R6.out).mono ?_
      rintro e w7 ⟨rfl, rfl⟩
      go_wp2_with fail
      go_ret
      exact ⟨rfl, B6.out⟩
    have hxb : decide ((N : Int) < (x : Int)) = false := decide_eq_false (by omega)
    have RK := Lib.hid (irank_p HM.out k x hk (by rw [HLN.out]; omega) (by omega))
    have CR := Lib.hid (fun W (h : Rd W w3.heap.size A N (I64 (ofNB ks))) => refCount4_p A x c w3.heap.size (ks.take x) (k : Int) W (h.cut4 x (by omega)) (by omega))
    rw [cntZ_nat] at CR
    by_cases hxc : x < cntZ (k : Int) ks
    · have hxc' : x < cntK k ks := by rw [← cntZ_nat]; exact hxc
      have CP := Lib.hid (fun p W (hp : p ≤ N) (h : Rd W w3.heap.size A N (I64 (ofNB ks))) => refCount4_p A p c w3.heap.size (ks.take p) (k : Int) W (h.cut4 p hp) (by omega))
      obtain ⟨ct, hct⟩ : ∃ ct, ct = cntZ (k : Int) ks := ⟨_, rfl⟩
      rw [← hct] at CRA hxc hcz
      have hcb : decide ((ct : Int) ≤ (x : Int)) = false := decide_eq_false (by omega)
      clear HM hct
      go_wp2_with fail
      refine RK.out.mono ?_
      rintro e w5 ⟨rfl, h5, m5⟩
      have SL := Lib.hid (iselect_p h5 k x hk hxc' (by omega))
      clear h5 m5 RK hxc'
      go_wp2_with fail
      refine SL.out.mono ?_
      rintro e w6 ⟨p, hp, hpk, hpc, rfl, h6, m6⟩
      have R6 := Lib.hid (R3.out.below h6.bel)
      have B6 : Hid (Below w.heap.size w w6) := B3.out.trans (h6.bel.mono B3.out.size)
      have CX := Lib.hid (CR.out w6 R6.out)
      have hpN : p < N := by rw [← HLN.out]; exact hp
      have CQ := Lib.hid (CP.out p w6 (by omega) R6.out)
      rw [cntZ_nat, hpc] at CQ
      obtain ⟨b', o, e, _, k1⟩ := R6.out.i64 (by omega)
      subst e
      have t1 := k1 p hpN
      rw [ofN_getB, hpk] at t1
      have hpb : decide ((p : Int) < (N : Int)) = true := decide_eq_true (by omega)
      clear h6 m6 SL hp hpk hpc k1 CP
      go_wp2_with fail
      refine CX.out.mono ?_
      rintro e w7 ⟨rfl, rfl⟩
      clear CX
      go_wp2_with fail
      refine (CRA.out _ R6.out).mono ?_
      rintro e w7 ⟨rfl, rfl⟩
      go_wp2_with fail
      refine CQ.out.mono ?_
      rintro e w7 ⟨rfl, rfl⟩
      go_wp2_with fail
      go_ret
      exact ⟨rfl, B6.out⟩
    · have SLN : Hid (∀ W, Mx w3 W m gx p0 g0 p1 g1 ks (0 + 2) → Calls Tryz.prog 30 #[.pointer (some ⟨m, 0, none⟩), .int .i64 (k : Int), .int .i64 (x : Int)] W (SelNo w3 W m gx p0 g0 p1 g1 (0 + 2) ks)) := fun W h => isel_no h (k : Int) (x : Int) (.inr (.inr (by omega))) (by omega)
      obtain ⟨ct, hct⟩ : ∃ ct, ct = cntZ (k : Int) ks := ⟨_, rfl⟩
      rw [← hct] at CRA hxc hcz
      have hcb : decide ((ct : Int) ≤ (x : Int)) = true := decide_eq_true (by omega)
      clear HM hct
      go_wp2_with fail
      refine RK.out.mono ?_
      rintro e w5 ⟨rfl, h5, m5⟩
      have SL := Lib.hid (SLN.out _ h5)
      clear h5 m5 RK SLN
      go_wp2_with fail
      refine SL.out.mono ?_
      rintro e w6 ⟨rfl, h6, m6⟩
      have R6 := Lib.hid (R3.out.below h6.bel)
      have B6 : Hid (Below w.heap.size w w6) := B3.out.trans (h6.bel.mono B3.out.size)
      have CX := Lib.hid (CR.out w6 R6.out)
      clear h6 m6 SL
      go_wp2_with fail
      refine CX.out.mono ?_
      rintro e w7 ⟨rfl, rfl⟩
      clear CX
      go_wp2_with fail
      refine (CRA.out _ R6.out).mono ?_
      rintro e w7 ⟨rfl, rfl⟩
      go_wp2_with fail
      go_ret
      exact ⟨rfl, B6.out⟩
  · have RK := Lib.hid (irank_no HM.out z i (.inl hkd))
    have SL := Lib.hid (isel_no HM.out z i (.inl hkd) (by omega))
    by_cases hz0 : z < 0
    · have hzb : decide (0 ≤ z) = false := decide_eq_false (by omega)
      clear HM hkd
      go_wp2_with fail
      refine RK.out.mono ?_
      rintro e w5 ⟨rfl, rfl⟩
      clear RK
      go_wp2_with fail
      refine SL.out.mono ?_
      rintro e w6 ⟨rfl, h6, m6⟩
      have R6 := Lib.hid (R3.out.below h6.bel)
      have B6 : Hid (Below w.heap.size w w6) := B3.out.trans (h6.bel.mono B3.out.size)
      clear h6 m6 SL
      go_wp2_with fail
      go_ret
      exact ⟨rfl, B6.out⟩
    · have hzb : decide (0 ≤ z) = true := decide_eq_true (by omega)
      have hz4 : decide (z < 4) = false := decide_eq_false (fun h => hkd ⟨by omega, h⟩)
      clear HM hkd
      go_wp2_with fail
      refine RK.out.mono ?_
      rintro e w5 ⟨rfl, rfl⟩
      clear RK
      go_wp2_with fail
      refine SL.out.mono ?_
      rintro e w6 ⟨rfl, h6, m6⟩
      have R6 := Lib.hid (R3.out.below h6.bel)
      have B6 : Hid (Below w.heap.size w w6) := B3.out.trans (h6.bel.mono B3.out.size)
      clear h6 m6 SL
      go_wp2_with fail
      go_ret
      exact ⟨rfl, B6.out⟩
end Go.Proofs.YtagpdpacaoianaaGreatDoor
