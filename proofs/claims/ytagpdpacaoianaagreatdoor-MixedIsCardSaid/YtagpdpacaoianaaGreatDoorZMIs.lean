/- MixedIs: a word has an index just if both of its sorts are balanced; what there isn't is refused; nil ones. -/
import Derived.Test.YtagpdpacaoianaaGreatDoorZMAwake
import Derived.Test.YtagpdpacaoianaaGreatDoorZMLike
import Derived.Test.YtagpdpacaoianaaGreatDoorZMSelNo
import Derived.Test.YtagpdpacaoianaaGreatDoorZMSize
import Derived.Test.YtagpdpacaoianaaGreatDoorZMRefM
import Derived.Test.YtagpdpacaoianaaGreatDoorZMCounts
import Derived.Deep.RegionHeld3
namespace Go.Proofs.YtagpdpacaoianaaGreatDoor
set_option maxRecDepth 20000
open Go.RowKit
set_option linter.unusedVariables false
theorem bal_none : Bal (exc (val (ownL 0 []))) (ownL 0 []).length ∧ Bal (exc (val (ownL 1 []))) (ownL 1 []).length := by
  have h : ∀ s, Bal (exc (val (ownL s []))) (ownL s []).length := fun s => ⟨fun i hi => by
    obtain rfl : i = 0 := by simpa [ownL] using hi
    rw [(exc_Exc _).zero]; exact Int.le_refl _, (exc_Exc _).zero⟩
  exact ⟨h 0, h 1⟩
theorem imate_nil (i : Int) (w : World) : Calls Tryz.prog 25 #[.pointer none, .int .i64 i] w fun e w' => e = .returned (.tuple #[.int .i64 0, .int .i64 2]) ∧ w = w' := by
  have LN := Lib.hid (ilen_nil w)
  have RD := Lib.hid (ready4_nil i (-1) w)
  go_enter Tryz.func25, Tryz.ntmps25
  go_wp2_with fail
  refine LN.out.mono ?_
  rintro e w1 ⟨rfl, rfl⟩
  go_wp2_with fail
  refine RD.out.mono ?_
  rintro e w1 ⟨rfl, rfl⟩
  go_wp2_with fail
  go_ret2
  exact ⟨rfl, rfl⟩
theorem iowner_nil (i : Int) (w : World) : Calls Tryz.prog 26 #[.pointer none, .int .i64 i] w fun e w' => e = .returned (.tuple #[.int .i64 0, .int .i64 2]) ∧ w = w' := by
  have LN := Lib.hid (ilen_nil w)
  have RD := Lib.hid (ready4_nil i (-1) w)
  go_enter Tryz.func26, Tryz.ntmps26
  go_wp2_with fail
  refine LN.out.mono ?_
  rintro e w1 ⟨rfl, rfl⟩
  go_wp2_with fail
  refine RD.out.mono ?_
  rintro e w1 ⟨rfl, rfl⟩
  go_wp2_with fail
  go_ret2
  exact ⟨rfl, rfl⟩
theorem iat_nil (i : Int) (w : World) : Calls Tryz.prog 27 #[.pointer none, .int .i64 i] w fun e w' => e = .returned (.int .i64 (-1)) ∧ w = w' := by
  have LN := Lib.hid (ilen_nil w)
  by_cases h0 : i < 0
  · go_enter Tryz.func27, Tryz.ntmps27
    go_wp2_with fail
    go_ret
    exact ⟨rfl, rfl⟩
  · have h2 : 0 ≤ i := by omega
    clear h0
    go_enter Tryz.func27, Tryz.ntmps27
    go_wp2_with fail
    refine LN.out.mono ?_
    rintro e w1 ⟨rfl, rfl⟩
    go_wp2_with fail
    go_ret
    exact ⟨rfl, rfl⟩
set_option maxRecDepth 100000 in
set_option maxHeartbeats 32000000 in
theorem mixedIs_walk (A0 : Option Addr) (n0 c0 : Nat) (z : List Int) (i : Int) (w : World) (hT : MTabs w)
    (h0 : Rd w w.heap.size A0 n0 (I64 z)) (hz : ∀ j, -9223372036854775808 ≤ z.getD j 0 ∧ z.getD j 0 ≤ 9223372036854775807) (hn0 : n0 ≤ c0) (hc0 : c0 ≤ maxLen) (hi : -9223372036854775808 ≤ i ∧ i ≤ 9223372036854775807) :
    Calls Tryz.prog 7 #[.slice A0 n0 c0, .int .i64 i] w fun e w' => e = .returned (.bool true) ∧ Below w.heap.size w w' := by
  unfold maxLen at hc0
  obtain ⟨i0, hi0, hz0, hz1, hz2⟩ := info_parts info_int
  have AW := Lib.hid (awake4_p w hT)
  have HT := Lib.hid hT
  have H0 := Lib.hid h0
  have HZ := Lib.hid hz
  clear hT h0 hz
  go_enter Tryz.func7, Tryz.ntmps7
  go_wp2_with fail
  refine AW.out.mono ?_
  rintro e w1 ⟨rfl, b1⟩
  have B1 := Lib.hid b1
  clear b1 AW
  go_wp2_with fail
  go_loopw [5, 33] (fun v x wr => ∃ (j c : Nat) (ks : List Nat) (A : Option Addr), j ≤ n0 ∧ x = .int .i64 (j : Int) ∧ v = .slice A ks.length c ∧ ks.length ≤ j ∧ ks.length ≤ 20 ∧ Hid (Kds ks) ∧ Hid (wr.ownsRow w1.heap.size 3 1 (.slice A ks.length c) ks.length (I64 (ofNB ks))) ∧ Hid (Below w1.heap.size w1 wr)) (fun _ x _ => n0 - (intOf x).toNat)
  case atStart => exact ⟨0, 0, [], none, by omega, rfl, rfl, by simp, by simp, fun k hk => by simp at hk, World.ownsRow_nil _ _ _ _, Below.refl _ _⟩
  case round =>
    obtain ⟨j, c, ks, A, hj, rfl, rfl, hkj, hk20, HK, HO, HB⟩ := hrel
    by_cases hlt : j < n0
    · obtain ⟨b', o, e, _, k1⟩ := (H0.out.below (B1.out.trans (HB.out.mono B1.out.size))).i64 (by omega)
      subst e
      have t1 := k1 j hlt
      have hzj := HZ.out j
      generalize z.getD j 0 = x at *
      clear k1
      by_cases hj20 : j < 20
      · obtain ⟨q, hq, hq4⟩ : ∃ q : Nat, x % 4 = (q : Int) ∧ q < 4 := ⟨(x % 4).toNat, by omega, by omega⟩
        obtain ⟨u, hu⟩ : ∃ u : Nat, IntKind.u64.wrap x = (u : Int) := ⟨(IntKind.u64.wrap x).toNat, by simp [IntKind.wrap, IntKind.signed, IntKind.bits]; omega⟩
        have hu4 : u % 4 = q := by
          have : (u : Int) = x % 18446744073709551616 := by rw [← hu]; simp [IntKind.wrap, IntKind.signed, IntKind.bits]
          omega
        have hu9 : u < 18446744073709551616 := by
          have : (u : Int) = x % 18446744073709551616 := by rw [← hu]; simp [IntKind.wrap, IntKind.signed, IntKind.bits]
          omega
        have m1 : (u : Int).tmod 4 = (q : Int) := by rw [Int.tmod_eq_emod_of_nonneg (by omega)]; omega
        have m2 : (u : Int) % 4 = (q : Int) := by omega
        have m3 : IntKind.u64.wrap (q : Int) = (q : Int) := by simp [IntKind.wrap, IntKind.signed, IntKind.bits]; omega
        have m4 : IntKind.i64.wrap (q : Int) = (q : Int) := by rw [IntKind.wrap_i64]; omega
        have bA := (Below.refl wr.heap.size wr).alloc (Nat.le_refl _) (.cells #[.int .i64 (q : Int)] 3)
        have ownA := own_below HO.out bA
        have rA := Rd.new wr 3 #[.int .i64 (q : Int)] 1 (I64 [(q : Int)]) (by simp [I64]) (by simp)
        have e1 : ks.length + 1 ≤ maxLen := by simp only [maxLen]; omega
        have e2 : (ks.length + 1) * 8 ≤ 140737488355328 := by omega
        have e3 : w1.heap.size ≤ (wr.alloc (.cells #[.int .i64 (q : Int)] 3)).heap.size := by have := HB.out.size; simp; omega
        have HK2 := Lib.hid (kds_snoc HK.out hq4)
        clear hu4 hu9 hq
        go_wp2_with (first
          | (at_builtin; go_must (refine wpList_append_rd _ rfl _ _ 27 rfl w1.heap.size 3 i0 (.int .i64 0) 8 Tryz.underlying27 hi0 hz0 hz1 hz2 rfl (.slice A ks.length c) ks.length (I64 (ofNB ks)) rfl ownA (wr.heap.size + 1) (some ⟨wr.heap.size, 0, none⟩) 1 1 (I64 [(q : Int)]) rfl rA (I64_one _) e1 e2 e3 ?_)))
        intro A7 c7 w7 hc7 hm7 hown7 hg7 _
        have hl7 : (ks ++ [q]).length = ks.length + 1 := by simp
        have O7 : Hid (w7.ownsRow w1.heap.size 3 1 (.slice A7 (ks ++ [q]).length c7) (ks ++ [q]).length (I64 (ofNB (ks ++ [q])))) := by
          have := hown7
          rw [← I64_append] at this
          rw [hl7, ofN_appendB]
          exact this
        have HL7 := Lib.hid hl7
        have B7 : Hid (Below w1.heap.size w1 w7) := (HB.out.trans (bA.mono HB.out.size)).trans (Below.appended ownA hg7 e3)
        clear bA ownA rA e1 e2 e3 hown7 hg7 hl7 m1 m2 m3 m4
        rw [← HL7.out]
        go_wp2_with fail
        go_roundw
        case rel => exact ⟨j + 1, c7, ks ++ [q], A7, by omega, by go_num, rfl, by rw [HL7.out]; omega, by rw [HL7.out]; omega, HK2, O7, B7⟩
        case measure => simp [intOf]; omega
      · go_wp2_with fail
        go_roundw
        case rel => exact ⟨j + 1, c, ks, A, by omega, by go_num, rfl, by omega, hk20, HK, HO, HB⟩
        case measure => simp [intOf]; omega
    · obtain rfl : j = n0 := by omega
      obtain ⟨N, hN⟩ : ∃ N, N = ks.length := ⟨_, rfl⟩
      rw [← hN] at hk20 HO ⊢
      have HN := Lib.hid hN
      have B2 : Hid (Below w.heap.size w wr) := B1.out.trans (HB.out.mono B1.out.size)
      have OF := Lib.hid (of4_p A N c ks wr (Rd.ofOwn HO.out) HK.out (own_inBlk HO.out) (by omega))
      have R2 := Lib.hid (Rd.ofOwn HO.out)
      clear hN hkj hlt HO HB
      go_wp2_with fail
      refine OF.out.mono ?_
      rintro e w3 ⟨g, rfl, hw3, b3⟩
      have B3 : Hid (Below w.heap.size w w3) := B2.out.trans (b3.mono B2.out.size)
      have R3 := Lib.hid ((R2.out.below b3).up b3.size)
      have IP := Lib.hid (index_p (some ⟨g, 0, none⟩) ks w3 HK.out (HT.out.below B3.out) (tells_word _ g _ w3 hw3 (by rw [← HN.out]; omega)))
      clear hw3 b3 OF R2 B2
      go_wp2_with fail
      refine IP.out.mono ?_
      rintro e w4 (⟨m, gx, p0, g0, p1, g1, rfl, hm⟩ | ⟨hno, rfl, b4⟩)
      · have HM4 := Lib.hid hm
        have BB4 := Lib.hid hm.bel
        have NI := Lib.hid imate_nil
        have NO := Lib.hid iowner_nil
        have NR := Lib.hid irank_nil
        have NS := Lib.hid isel_nil
        clear hm IP
        go_wp2_with fail
        refine (NI.out _ _).mono ?_
        rintro e w5 ⟨rfl, rfl⟩
        go_wp2_with fail
        refine (NO.out _ _).mono ?_
        rintro e w5 ⟨rfl, rfl⟩
        go_wp2_with fail
        refine (NR.out _ _ _).mono ?_
        rintro e w5 ⟨rfl, rfl⟩
        go_wp2_with fail
        refine (NS.out _ _ _).mono ?_
        rintro e w5 ⟨rfl, b5⟩
        have B5 : Hid (Below w3.heap.size w3 w5) := BB4.out.trans (b5.mono BB4.out.size)
        have HM5 := Lib.hid (HM4.out.below b5)
        have IN := Lib.hid (index_p none [] w5 (fun k hk => by simp at hk) (HT.out.below (B3.out.trans (B5.out.mono B3.out.size))) (tells_nil w5))
        clear b5 BB4 HM4
        go_wp2_with fail
        refine IN.out.mono ?_
        rintro e w6 (⟨m2, gx2, p02, g02, p12, g12, rfl, hm2⟩ | ⟨hno2, _⟩)
        case inr => exact absurd bal_none hno2
        have B6 : Hid (Below w3.heap.size w3 w6) := B5.out.trans (hm2.bel.mono B5.out.size)
        have HM6 := Lib.hid (HM5.out.below hm2.bel)
        have HX6 := Lib.hid hm2
        have OFN := Lib.hid (mof_nil w6)
        clear hm2 IN B5 HM5
        go_wp2_with fail
        refine OFN.out.mono ?_
        rintro e w7 ⟨gu, rfl, hu, b7⟩
        have B7 : Hid (Below w3.heap.size w3 w7) := B6.out.trans (b7.mono B6.out.size)
        have HM7 := Lib.hid (HM6.out.below b7)
        have HX7 := Lib.hid (HX6.out.below b7)
        have HU := Lib.hid hu
        clear hu b7 OFN B6 HX6 HM6
        have L1 := Lib.hid (ilen_nil w7)
        have L2 := Lib.hid (isize_nil w7)
        have L3 := Lib.hid (mlen_nil w7)
        have L4 := Lib.hid (mcount_nil 0 w7)
        have L5 := Lib.hid (mtext_nil w7)
        go_wp2_with fail
        refine L1.out.mono ?_
        rintro e w8 ⟨rfl, rfl⟩
        go_wp2_with fail
        refine L2.out.mono ?_
        rintro e w8 ⟨rfl, rfl⟩
        go_wp2_with fail
        refine L3.out.mono ?_
        rintro e w8 ⟨rfl, rfl⟩
        go_wp2_with fail
        refine L4.out.mono ?_
        rintro e w8 ⟨rfl, rfl⟩
        clear L1 L2 L3 L4
        go_wp2_with fail
        refine L5.out.mono ?_
        rintro e w8 ⟨rfl, b8⟩
        have B8 : Hid (Below w3.heap.size w3 w8) := B7.out.trans (b8.mono B7.out.size)
        have HM8 := Lib.hid (HM7.out.below b8)
        have HX8 := Lib.hid (HX7.out.below b8)
        have HU8 := Lib.hid (HU.out.below b8)
        clear b8 L5 B7 HX7 HU HM7
        have K1 := Lib.hid (mbits_nil w8)
        have K2 := Lib.hid (blen_nil w8)
        have K3 := Lib.hid (iat_nil i w8)
        have K4 := Lib.hid (mat_nil i w8)
        go_wp2_with fail
        refine K1.out.mono ?_
        rintro e w9 ⟨rfl, rfl⟩
        go_wp2_with fail
        refine K2.out.mono ?_
        rintro e w9 ⟨rfl, rfl⟩
        go_wp2_with fail
        refine K3.out.mono ?_
        rintro e w9 ⟨rfl, rfl⟩
        go_wp2_with fail
        refine K4.out.mono ?_
        rintro e w9 ⟨rfl, rfl⟩
        clear K1 K2 K3 K4
        have b9 := (Below.refl w8.heap.size w8).alloc (Nat.le_refl _) (.cells #[.int .i64 0] 3)
        have B9 : Hid (Below w3.heap.size w3 (w8.alloc (.cells #[.int .i64 0] 3))) := B8.out.trans (b9.mono B8.out.size)
        have HM9 := Lib.hid (HM8.out.below b9)
        have HX9 := Lib.hid (HX8.out.below b9)
        have HU9 := Lib.hid (HU8.out.below b9)
        have MA := Lib.hid (madd_nil (.slice (some ⟨w8.heap.size, 0, none⟩) 1 1) (w8.alloc (.cells #[.int .i64 0] 3)))
        clear b9 B8 HX8 HU8 HM8
        go_wp2_with fail
        refine MA.out.mono ?_
        rintro e w10 ⟨rfl, rfl⟩
        clear MA
        generalize w8.alloc (.cells #[.int .i64 0] 3) = w9 at *
        have J1 : Hid (Calls Tryz.prog 22 #[.pointer (some ⟨m2, 0, none⟩)] w9 fun e w' => e = .returned (.int .i64 0) ∧ w9 = w') := ilen_p HX9.out
        have J2 : Hid (Calls Tryz.prog 32 #[.pointer (some ⟨gu, 0, none⟩)] w9 fun e w' => e = .returned (.int .i64 0) ∧ w9 = w') := mlen_p _ gu [] w9 HU9.out
        have J3 := Lib.hid (bnew_p w9)
        go_wp2_with fail
        refine J1.out.mono ?_
        rintro e w10 ⟨rfl, rfl⟩
        go_wp2_with fail
        refine J2.out.mono ?_
        rintro e w10 ⟨rfl, rfl⟩
        go_wp2_with fail
        refine J3.out.mono ?_
        rintro e w10 ⟨rfl, hv10, b10⟩
        have B10 : Hid (Below w3.heap.size w3 w10) := B9.out.trans (b10.mono B9.out.size)
        have HM10 := Lib.hid (HM9.out.below b10)
        have J4 := Lib.hid (blen_p _ _ _ _ w10 hv10)
        clear J1 J2 J3 hv10 b10 HX9 HU9 B9 HM9
        go_wp2_with fail
        refine J4.out.mono ?_
        rintro e w11 ⟨rfl, rfl⟩
        clear J4
        have GD := Lib.hid (good4_p A N c ks w10 ((R3.out.below B10.out).up B10.out.size) HK.out (by omega))
        go_wp2_with fail
        refine GD.out.mono ?_
        rintro e w12 ⟨b12, r, rfl, hr⟩
        have B12 : Hid (Below w3.heap.size w3 w12) := B10.out.trans (b12.mono B10.out.size)
        have HM12 := Lib.hid (HM10.out.below b12)
        have BW : Hid (Below w.heap.size w w12) := B3.out.trans (B12.out.mono B3.out.size)
        obtain rfl : r = true := hr.2 ⟨HM12.out.b0, HM12.out.b1⟩
        clear hr b12 GD B10 HM10
        by_cases hin : 0 ≤ i ∧ i < (N : Int)
        · obtain ⟨x, rfl⟩ : ∃ x : Nat, i = (x : Int) := ⟨i.toNat, by omega⟩
          have hxN : x < N := by omega
          have M1 := Lib.hid (mateI_p HM12.out x (by rw [← HN.out]; exact hxN) (by omega))
          have hb1 : decide ((x : Int) < (N : Int)) = true := decide_eq_true (by omega)
          clear hin HM12
          go_wp2_with fail
          refine M1.out.mono ?_
          rintro e w13 ⟨p, _, rfl, h13, _⟩
          have O1 := Lib.hid (ownerI_p h13 x (by rw [← HN.out]; exact hxN) (by omega))
          clear h13 M1
          go_wp2_with fail
          refine O1.out.mono ?_
          rintro e w14 ⟨r, _, rfl, h14, _⟩
          have B14 : Hid (Below w.heap.size w w14) := B3.out.trans (h14.bel.mono B3.out.size)
          clear h14 O1
          go_wp2_with fail
          go_ret
          exact ⟨rfl, B14.out⟩
        · have hout : i < 0 ∨ (N : Int) ≤ i := by omega
          have M1 := Lib.hid (mateI_no HM12.out i (by rw [← HN.out]; exact hout))
          have O1 := Lib.hid (ownerI_no HM12.out i (by rw [← HN.out]; exact hout))
          clear HM12
          by_cases h0 : 0 ≤ i
          · have hb0 : decide (0 ≤ i) = true := decide_eq_true h0
            have hb1 : decide (i < (N : Int)) = false := decide_eq_false (by omega)
            clear hin hout
            go_wp2_with fail
            refine M1.out.mono ?_
            rintro e w13 ⟨rfl, rfl⟩
            go_wp2_with fail
            refine O1.out.mono ?_
            rintro e w13 ⟨rfl, rfl⟩
            go_wp2_with fail
            go_ret
            exact ⟨rfl, BW.out⟩
          · have hb0 : decide (0 ≤ i) = false := decide_eq_false h0
            clear hin hout
            go_wp2_with fail
            refine M1.out.mono ?_
            rintro e w13 ⟨rfl, rfl⟩
            go_wp2_with fail
            refine O1.out.mono ?_
            rintro e w13 ⟨rfl, rfl⟩
            go_wp2_with fail
            go_ret
            exact ⟨rfl, BW.out⟩
      · have BB4 := Lib.hid b4
        have HNO := Lib.hid hno
        have NI := Lib.hid imate_nil
        have NO := Lib.hid iowner_nil
        have NR := Lib.hid irank_nil
        have NS := Lib.hid isel_nil
        clear b4 hno IP
        go_wp2_with fail
        refine (NI.out _ _).mono ?_
        rintro e w5 ⟨rfl, rfl⟩
        go_wp2_with fail
        refine (NO.out _ _).mono ?_
        rintro e w5 ⟨rfl, rfl⟩
        go_wp2_with fail
        refine (NR.out _ _ _).mono ?_
        rintro e w5 ⟨rfl, rfl⟩
        go_wp2_with fail
        refine (NS.out _ _ _).mono ?_
        rintro e w5 ⟨rfl, b5⟩
        have B5 : Hid (Below w3.heap.size w3 w5) := BB4.out.trans (b5.mono BB4.out.size)
        have IN := Lib.hid (index_p none [] w5 (fun k hk => by simp at hk) (HT.out.below (B3.out.trans (B5.out.mono B3.out.size))) (tells_nil w5))
        clear b5 BB4
        go_wp2_with fail
        refine IN.out.mono ?_
        rintro e w6 (⟨m2, gx2, p02, g02, p12, g12, rfl, hm2⟩ | ⟨hno2, _⟩)
        case inr => exact absurd bal_none hno2
        have B6 : Hid (Below w3.heap.size w3 w6) := B5.out.trans (hm2.bel.mono B5.out.size)
        have HX6 := Lib.hid hm2
        have OFN := Lib.hid (mof_nil w6)
        clear hm2 IN B5
        go_wp2_with fail
        refine OFN.out.mono ?_
        rintro e w7 ⟨gu, rfl, hu, b7⟩
        have B7 : Hid (Below w3.heap.size w3 w7) := B6.out.trans (b7.mono B6.out.size)
        have HX7 := Lib.hid (HX6.out.below b7)
        have HU := Lib.hid hu
        clear hu b7 OFN B6 HX6
        have L1 := Lib.hid (ilen_nil w7)
        have L2 := Lib.hid (isize_nil w7)
        have L3 := Lib.hid (mlen_nil w7)
        have L4 := Lib.hid (mcount_nil 0 w7)
        have L5 := Lib.hid (mtext_nil w7)
        go_wp2_with fail
        refine L1.out.mono ?_
        rintro e w8 ⟨rfl, rfl⟩
        go_wp2_with fail
        refine L2.out.mono ?_
        rintro e w8 ⟨rfl, rfl⟩
        go_wp2_with fail
        refine L3.out.mono ?_
        rintro e w8 ⟨rfl, rfl⟩
        go_wp2_with fail
        refine L4.out.mono ?_
        rintro e w8 ⟨rfl, rfl⟩
        clear L1 L2 L3 L4
        go_wp2_with fail
        refine L5.out.mono ?_
        rintro e w8 ⟨rfl, b8⟩
        have B8 : Hid (Below w3.heap.size w3 w8) := B7.out.trans (b8.mono B7.out.size)
        have HX8 := Lib.hid (HX7.out.below b8)
        have HU8 := Lib.hid (HU.out.below b8)
        clear b8 L5 B7 HX7 HU
        have K1 := Lib.hid (mbits_nil w8)
        have K2 := Lib.hid (blen_nil w8)
        have K3 := Lib.hid (iat_nil i w8)
        have K4 := Lib.hid (mat_nil i w8)
        go_wp2_with fail
        refine K1.out.mono ?_
        rintro e w9 ⟨rfl, rfl⟩
        go_wp2_with fail
        refine K2.out.mono ?_
        rintro e w9 ⟨rfl, rfl⟩
        go_wp2_with fail
        refine K3.out.mono ?_
        rintro e w9 ⟨rfl, rfl⟩
        go_wp2_with fail
        refine K4.out.mono ?_
        rintro e w9 ⟨rfl, rfl⟩
        clear K1 K2 K3 K4
        have b9 := (Below.refl w8.heap.size w8).alloc (Nat.le_refl _) (.cells #[.int .i64 0] 3)
        have B9 : Hid (Below w3.heap.size w3 (w8.alloc (.cells #[.int .i64 0] 3))) := B8.out.trans (b9.mono B8.out.size)
        have HX9 := Lib.hid (HX8.out.below b9)
        have HU9 := Lib.hid (HU8.out.below b9)
        have MA := Lib.hid (madd_nil (.slice (some ⟨w8.heap.size, 0, none⟩) 1 1) (w8.alloc (.cells #[.int .i64 0] 3)))
        clear b9 B8 HX8 HU8
        go_wp2_with fail
        refine MA.out.mono ?_
        rintro e w10 ⟨rfl, rfl⟩
        clear MA
        generalize w8.alloc (.cells #[.int .i64 0] 3) = w9 at *
        have J1 : Hid (Calls Tryz.prog 22 #[.pointer (some ⟨m2, 0, none⟩)] w9 fun e w' => e = .returned (.int .i64 0) ∧ w9 = w') := ilen_p HX9.out
        have J2 : Hid (Calls Tryz.prog 32 #[.pointer (some ⟨gu, 0, none⟩)] w9 fun e w' => e = .returned (.int .i64 0) ∧ w9 = w') := mlen_p _ gu [] w9 HU9.out
        have J3 := Lib.hid (bnew_p w9)
        go_wp2_with fail
        refine J1.out.mono ?_
        rintro e w10 ⟨rfl, rfl⟩
        go_wp2_with fail
        refine J2.out.mono ?_
        rintro e w10 ⟨rfl, rfl⟩
        go_wp2_with fail
        refine J3.out.mono ?_
        rintro e w10 ⟨rfl, hv10, b10⟩
        have B10 : Hid (Below w3.heap.size w3 w10) := B9.out.trans (b10.mono B9.out.size)
        have J4 := Lib.hid (blen_p _ _ _ _ w10 hv10)
        clear J1 J2 J3 hv10 b10 HX9 HU9 B9
        go_wp2_with fail
        refine J4.out.mono ?_
        rintro e w11 ⟨rfl, rfl⟩
        clear J4
        have GD := Lib.hid (good4_p A N c ks w10 ((R3.out.below B10.out).up B10.out.size) HK.out (by omega))
        go_wp2_with fail
        refine GD.out.mono ?_
        rintro e w12 ⟨b12, r, rfl, hr⟩
        have B12 : Hid (Below w3.heap.size w3 w12) := B10.out.trans (b12.mono B10.out.size)
        have BW : Hid (Below w.heap.size w w12) := B3.out.trans (B12.out.mono B3.out.size)
        obtain rfl : r = false := by
          cases r with
          | false => rfl
          | true => exact absurd (hr.1 rfl) HNO.out
        clear hr b12 GD B10
        go_wp2_with fail
        go_ret
        exact ⟨rfl, BW.out⟩
end Go.Proofs.YtagpdpacaoianaaGreatDoor
