/- Bits of numbers, so many times over; the least code, of the program and of the document. -/
import Derived.Test.YtkahnaenbgbooaaCRefE
import Derived.Test.YtkahnaenbgbooaaCLaw
namespace Go.Proofs.Ytkahnaenbgbooaa
set_option maxRecDepth 20000
open Go.RowKit
set_option linter.unusedVariables false

/-- A list so many times over. -/
def rep (L : List Nat) : Nat → List Nat
  | 0 => []
  | m + 1 => rep L m ++ L
theorem rep_len (L : List Nat) : ∀ m, (rep L m).length = m * L.length
  | 0 => by simp [rep]
  | m + 1 => by rw [rep, List.length_append, rep_len L m, Nat.succ_mul]
theorem rep_bin {L : List Nat} (h : Bin L) : ∀ m, Bin (rep L m)
  | 0 => fun b hb => by cases hb
  | m + 1 => (rep_bin h m).append h
set_option maxHeartbeats 2000000 in
theorem some_p (A1 : Option Addr) (n1 c1 : Nat) (bs : List Nat) (a t : Nat) (w : World)
    (h1 : Rd w w.heap.size A1 n1 (U8 bs)) (hb1 : ∀ b ∈ bs, b < 256) (hn1 : n1 ≤ c1) (hc1 : c1 ≤ 9223372036854775807) (ha : a < 256) (ht : t < 256) :
    Calls Try.prog 9 #[.slice A1 n1 c1, .int .u8 (a : Int), .int .u8 (t : Int)] w fun e w' => ∃ l, Bin l ∧ l.length ≤ 1200 ∧ NewI64 w (ofNB l) e w' := by
  have H1 := Lib.hid h1
  have HB := Lib.hid hb1
  have x1 : ((a : Int) % 100) = ((a % 100 : Nat) : Int) := by omega
  have x2 : ((a : Int)).tmod 100 = ((a % 100 : Nat) : Int) := by rw [Int.tmod_eq_emod_of_nonneg (by omega)]; omega
  have y1 : ((t : Int) % 12) = ((t % 12 : Nat) : Int) := by omega
  have y2 : ((t : Int)).tmod 12 = ((t % 12 : Nat) : Int) := by rw [Int.tmod_eq_emod_of_nonneg (by omega)]; omega
  have hm : a % 100 < 100 := Nat.mod_lt _ (by decide)
  have hq : t % 12 < 12 := Nat.mod_lt _ (by decide)
  generalize a % 100 = m at *
  generalize t % 12 = q at *
  obtain ⟨i0, hi0, hz0, hz1, hz2⟩ := info_parts info_int
  have FW := Lib.hid (few_p A1 n1 c1 _ m bs w h1 hb1 (Nat.le_refl _) (by omega) (by omega))
  obtain ⟨L, hL⟩ : ∃ L, L = few bs m := ⟨_, rfl⟩
  have HBL : Hid (Bin L) := by show Bin L; rw [hL]; exact few_bin _ _
  have hll : L.length ≤ 100 := by rw [hL, few_len]; omega
  rw [← hL] at FW
  clear h1 hb1 hL
  go_enter Try.func9, Try.ntmps9
  go_wp2_with fail
  refine FW.out.mono ?_
  rintro e w2 ⟨A2, c2, rfl, hc2, hm2, hown2, b2⟩
  have r2 := Rd.ofOwn hown2
  rw [ofN_lenB] at r2 hc2 ⊢
  have R2 := Lib.hid r2
  have B2 := Lib.hid b2
  obtain ⟨ln, hln⟩ : ∃ ln, ln = L.length := ⟨_, rfl⟩
  have HLN := Lib.hid hln
  rw [← hln] at R2 hll ⊢
  clear r2 b2 hown2 FW hln
  go_wp2_with fail
  go_loopw [8, 18] (fun v i wr => ∃ k : Nat, k ≤ q + 1 ∧ i = .int .i64 (k : Int) ∧ Hid (OutR wr w2.heap.size v (rep L k)) ∧ Hid (Below w2.heap.size w2 wr)) (fun _ i _ => q + 1 - (intOf i).toNat)
  case atStart => exact ⟨0, by omega, rfl, OutR.nil _ _, Below.refl _ _⟩
  case round =>
    obtain ⟨k, hk, rfl, HO, HB2⟩ := hrel
    by_cases hlt : k < q + 1
    · obtain ⟨A7, c7, rfl, hown⟩ := HO.out
      obtain ⟨q7, hq7⟩ : ∃ q7, q7 = (rep L k).length := ⟨_, rfl⟩
      have HQ7 := Lib.hid hq7
      have hq8 : q7 ≤ 100000 := by
        rw [hq7, rep_len, ← HLN.out]
        exact Nat.le_trans (Nat.mul_le_mul (show k ≤ 12 by omega) hll) (by decide)
      rw [← hq7] at hown ⊢
      have r0 := (R2.out.below HB2.out)
      have t1 : q7 + ln ≤ maxLen := by simp only [maxLen]; omega
      have t2 : (q7 + ln) * 8 ≤ 140737488355328 := by omega
      have t3 : w2.heap.size ≤ wr.heap.size := HB2.out.size
      have WY : Hid (I64 (ofNB (rep L k)) ++ I64 (ofNB L) = I64 (ofNB (rep L (k + 1)))) := by
        show _ = _
        rw [rep, ofN_appendB, I64_append]
      have hlen : Hid ((rep L (k + 1)).length = q7 + ln) := by show _ = _; rw [rep, List.length_append, ← HQ7.out, HLN.out]
      have hki : (k : Int) < 1 + (q : Int) := by omega
      generalize I64 (ofNB (rep L k)) = xs at *
      generalize hys : I64 (ofNB L) = ys at *
      have hys1 : ∀ u ∈ ys, u.oneCell' = true := by rw [← hys]; exact I64_one _
      clear hq7 HO hys
      go_wp2_with (first
        | (at_builtin; go_must (refine wpList_append_rd _ rfl _ _ 24 rfl w2.heap.size 3 i0 (.int .i64 0) 8 Try.underlying24 hi0 hz0 hz1 hz2 rfl (.slice A7 q7 c7) q7 xs rfl hown w2.heap.size A2 ln c2 ys rfl r0 hys1 t1 t2 t3 ?_)))
      intro A6 c6 w6 hc6 hm6 hown6 hg6 _
      have hb6 : Below w2.heap.size wr w6 := Below.appended hown hg6 t3
      rw [WY.out] at hown6
      have HO6 : Hid (OutR w6 w2.heap.size (.slice A6 (q7 + ln) c6) (rep L (k + 1))) := by
        refine ⟨A6, c6, by rw [hlen.out], ?_⟩
        rw [hlen.out]; exact hown6
      have HB6 := Lib.hid (HB2.out.trans hb6)
      clear hown6 hg6 hb6 hown r0 t1 t2 t3 WY hc6 hm6 HB2 hys1
      go_wp2_with fail
      go_roundw
      case rel => exact ⟨k + 1, by omega, by go_num, HO6, HB6⟩
      case measure => simp [intOf]; omega
    · obtain rfl : k = q + 1 := by omega
      have hki : ¬ ((q : Int) + 1) < 1 + (q : Int) := by omega
      go_wp2_with fail
      go_ret
      obtain ⟨A9, c9, rfl, hown⟩ := HO.out
      refine ⟨rep L (q + 1), rep_bin HBL.out _, ?_, .mk rfl ?_ (B2.out.trans (HB2.out.mono B2.out.size))⟩
      · rw [rep_len, ← HLN.out]
        exact Nat.le_trans (Nat.mul_le_mul (show q + 1 ≤ 12 by omega) hll) (by decide)
      · rw [ofN_lenB]
        exact hown.base_le' B2.out.size
/-- The order whose code is the shortest, among the first k + 1 ones. -/
def bestK (l : List Nat) : Nat → Nat
  | 0 => 0
  | k + 1 => if (codeOf (k + 1) l).length < (codeOf (bestK l k) l).length then k + 1 else bestK l k
theorem bestK_le (l : List Nat) : ∀ k, bestK l k ≤ k
  | 0 => Nat.le_refl _
  | k + 1 => by unfold bestK; have := bestK_le l k; split <;> omega
theorem bestK_least (l : List Nat) : ∀ k j, j ≤ k → (codeOf (bestK l k) l).length ≤ (codeOf j l).length
  | 0, j, h => by rw [show j = 0 by omega]; exact Nat.le_refl _
  | k + 1, j, h => by
    unfold bestK
    split
    · next hlt =>
      rcases Nat.lt_or_ge j (k + 1) with hj | hj
      · exact Nat.le_trans (Nat.le_of_lt hlt) (bestK_least l k j (by omega))
      · rw [show j = k + 1 by omega]; exact Nat.le_refl _
    · next hlt =>
      rcases Nat.lt_or_ge j (k + 1) with hj | hj
      · exact bestK_least l k j (by omega)
      · rw [show j = k + 1 by omega]; omega
theorem code_len9 (k : Nat) (l : List Nat) (h : l.length ≤ 1200) : (codeOf k l).length ≤ 50000 := by
  rw [code_len]
  have := est_ways k l
  omega
set_option maxHeartbeats 2000000 in
/-- Least, of bits that lie anywhere. -/
theorem least_p (pv : Option Addr) (l : List Nat) (w : World)
    (hE : ∀ k : Nat, k ≤ 8 → ∀ W, Below w.heap.size w W → Calls Try.prog 24 #[.pointer pv, .int .i64 (k : Int)] W fun e w' => ∃ g A, e = .returned (.pointer (some ⟨g, 0, none⟩)) ∧ VecAt w' g (val (codeOf k l)) (codeOf k l).length A ∧ Below W.heap.size W w' ∧ W.heap.size ≤ g) :
    Calls Try.prog 19 #[.pointer pv] w fun e w' => ∃ g A, e = .returned (.tuple #[.int .i64 ((bestK l 8 : Nat) : Int), .pointer (some ⟨g, 0, none⟩)]) ∧ VecAt w' g (val (codeOf (bestK l 8) l)) (codeOf (bestK l 8) l).length A ∧ Below w.heap.size w w' := by
  have HE := Lib.hid hE
  have E0 := Lib.hid (hE 0 (by decide) w (Below.refl _ _))
  clear hE
  go_enter Try.func19, Try.ntmps19
  go_wp2_with fail
  refine E0.out.mono ?_
  rintro e w1 ⟨g, A, rfl, hv, b1, _⟩
  have HV := Lib.hid hv
  have B1 := Lib.hid b1
  clear hv b1 E0
  go_wp2_with fail
  go_loopw [4, 5, 6] (fun o v i wr => ∃ (j g : Nat) (A : Option Addr), j ≤ 8 ∧ o = .int .i64 ((bestK l j : Nat) : Int) ∧ v = .pointer (some ⟨g, 0, none⟩) ∧ i = .int .i64 ((j : Int) + 1) ∧ Hid (VecAt wr g (val (codeOf (bestK l j) l)) (codeOf (bestK l j) l).length A) ∧ Hid (Below w.heap.size w wr)) (fun _ _ i _ => 9 - (intOf i).toNat)
  case atStart => exact ⟨0, g, A, by omega, rfl, rfl, rfl, HV, B1⟩
  case round =>
    clear HV B1
    obtain ⟨j, g, A, hj, rfl, rfl, rfl, HV, HB⟩ := hrel
    by_cases hlt : j < 8
    · have EK := Lib.hid (HE.out (j + 1) (by omega) wr HB.out)
      have hji : (j : Int) + 1 ≤ 8 := by omega
      have hb8 := bestK_le l j
      go_wp2_with fail
      refine EK.out.mono ?_
      rintro e w2 ⟨g2, A2, rfl, hv2, b2, _⟩
      have HV2 := Lib.hid hv2
      have HV1 := Lib.hid (VecB.below HV.out b2)
      have B2 := Lib.hid (HB.out.trans (b2.mono HB.out.size))
      have L2 := Lib.hid (blen_p g2 _ _ A2 w2 hv2)
      have L1 := Lib.hid (blen_p g _ _ A w2 HV1.out)
      clear hv2 b2 HV HB EK
      have HBK : Hid (bestK l (j + 1) = if (codeOf (j + 1) l).length < (codeOf (bestK l j) l).length then j + 1 else bestK l j) := rfl
      obtain ⟨x1, hx1⟩ : ∃ x, x = (codeOf (j + 1) l).length := ⟨_, rfl⟩
      obtain ⟨x2, hx2⟩ : ∃ x, x = (codeOf (bestK l j) l).length := ⟨_, rfl⟩
      rw [← hx1] at L2
      rw [← hx2] at L1
      have HX1 := Lib.hid hx1
      have HX2 := Lib.hid hx2
      clear hx1 hx2
      by_cases hc : x1 < x2
      · have hci : (x1 : Int) < (x2 : Int) := by omega
        have HBK2 : Hid (bestK l (j + 1) = j + 1) := by show _ = _; rw [HBK.out, ← HX1.out, ← HX2.out, if_pos hc]
        clear hc HBK
        generalize bestK l j = bj at *
        go_wp2_with fail
        refine L2.out.mono ?_
        rintro e w3 ⟨rfl, rfl⟩
        go_wp2_with fail
        refine L1.out.mono ?_
        rintro e w3 ⟨rfl, rfl⟩
        go_wp2_with fail
        go_roundw
        case rel => exact ⟨j + 1, g2, A2, by omega, by rw [HBK2.out]; go_num, rfl, by go_num, by rw [HBK2.out]; exact HV2, B2⟩
        case measure => simp [intOf]; omega
      · have hci : ¬ (x1 : Int) < (x2 : Int) := by omega
        have HBK2 : Hid (bestK l (j + 1) = bestK l j) := by show _ = _; rw [HBK.out, ← HX1.out, ← HX2.out, if_neg hc]
        clear hc HBK
        generalize bestK l j = bj at *
        go_wp2_with fail
        refine L2.out.mono ?_
        rintro e w3 ⟨rfl, rfl⟩
        go_wp2_with fail
        refine L1.out.mono ?_
        rintro e w3 ⟨rfl, rfl⟩
        go_wp2_with fail
        go_roundw
        case rel => exact ⟨j + 1, g, A, by omega, by rw [HBK2.out], rfl, by go_num, by rw [HBK2.out]; exact HV1, B2⟩
        case measure => simp [intOf]; omega
    · obtain rfl : j = 8 := by omega
      go_wp2_with fail
      go_ret2
      exact ⟨g, A, rfl, HV.out, HB.out⟩
set_option maxHeartbeats 2000000 in
theorem refLeast_p (As : Option Addr) (n c : Nat) (l : List Nat) (w : World) (h : Rd w w.heap.size As n (I64 (ofNB l))) (hb : Bin l) (hn : n ≤ 29000) :
    Calls Try.prog 20 #[.slice As n c] w fun e w' => ∃ A c', e = .returned (.tuple #[.int .i64 ((bestK l 8 : Nat) : Int), .slice A (codeOf (bestK l 8) l).length c']) ∧ Rd w' w'.heap.size A (codeOf (bestK l 8) l).length (I64 (ofNB (codeOf (bestK l 8) l))) ∧ Below w.heap.size w w' := by
  have H := Lib.hid h
  have HBN := Lib.hid hb
  have E0 := Lib.hid (refEncode_p 0 As n c l w h hb (by decide) hn)
  clear h hb
  go_enter Try.func20, Try.ntmps20
  go_wp2_with fail
  refine E0.out.mono ?_
  rintro e w1 ⟨A, c1, rfl, _, _, hown, b1⟩
  have r1 := Rd.ofOwn hown
  rw [ofN_lenB] at r1 ⊢
  have R1 := Lib.hid r1
  have B1 := Lib.hid b1
  clear hown b1 r1 E0
  go_wp2_with fail
  go_loopw [4, 5, 6] (fun o v i wr => ∃ (j : Nat) (A : Option Addr) (c1 : Nat), j ≤ 8 ∧ o = .int .i64 ((bestK l j : Nat) : Int) ∧ v = .slice A (codeOf (bestK l j) l).length c1 ∧ i = .int .i64 ((j : Int) + 1) ∧ Hid (Rd wr wr.heap.size A (codeOf (bestK l j) l).length (I64 (ofNB (codeOf (bestK l j) l)))) ∧ Hid (Below w.heap.size w wr)) (fun _ _ i _ => 9 - (intOf i).toNat)
  case atStart => exact ⟨0, A, c1, by omega, rfl, rfl, rfl, R1, B1⟩
  case round =>
    clear R1 B1
    obtain ⟨j, A, c1, hj, rfl, rfl, rfl, HV, HB⟩ := hrel
    by_cases hlt : j < 8
    · have EK := Lib.hid (refEncode_p (j + 1) As n c l wr ((H.out.below HB.out).up HB.out.size) HBN.out (by omega) hn)
      have hji : (j : Int) + 1 < 9 := by omega
      have hb8 := bestK_le l j
      go_wp2_with fail
      refine EK.out.mono ?_
      rintro e w2 ⟨A2, c2, rfl, _, _, hown2, b2⟩
      have r2 := Rd.ofOwn hown2
      rw [ofN_lenB] at r2 ⊢
      have HV2 := Lib.hid r2
      have HV1 := Lib.hid ((HV.out.below b2).up b2.size)
      have B2 := Lib.hid (HB.out.trans (b2.mono HB.out.size))
      clear r2 hown2 b2 HV HB EK
      have HBK : Hid (bestK l (j + 1) = if (codeOf (j + 1) l).length < (codeOf (bestK l j) l).length then j + 1 else bestK l j) := rfl
      obtain ⟨x1, hx1⟩ : ∃ x, x = (codeOf (j + 1) l).length := ⟨_, rfl⟩
      obtain ⟨x2, hx2⟩ : ∃ x, x = (codeOf (bestK l j) l).length := ⟨_, rfl⟩
      rw [← hx1, ← hx2]
      have HX1 := Lib.hid hx1
      have HX2 := Lib.hid hx2
      clear hx1 hx2
      by_cases hc : x1 < x2
      · have hci : (x1 : Int) < (x2 : Int) := by omega
        have HBK2 : Hid (bestK l (j + 1) = j + 1) := by show _ = _; rw [HBK.out, ← HX1.out, ← HX2.out, if_pos hc]
        clear HBK
        generalize bestK l j = bj at *
        go_wp2_with fail
        go_roundw
        case rel => exact ⟨j + 1, A2, c2, by omega, by rw [HBK2.out]; go_num, by rw [HBK2.out, HX1.out], by go_num, by rw [HBK2.out]; exact HV2, B2⟩
        case measure => simp [intOf]; omega
      · have hci : ¬ (x1 : Int) < (x2 : Int) := by omega
        have HBK2 : Hid (bestK l (j + 1) = bestK l j) := by show _ = _; rw [HBK.out, ← HX1.out, ← HX2.out, if_neg hc]
        clear HBK
        generalize bestK l j = bj at *
        go_wp2_with fail
        go_roundw
        case rel => exact ⟨j + 1, A, c1, by omega, by rw [HBK2.out], by rw [HBK2.out, HX2.out], by go_num, by rw [HBK2.out]; exact HV1, B2⟩
        case measure => simp [intOf]; omega
    · obtain rfl : j = 8 := by omega
      go_wp2_with fail
      go_ret2
      exact ⟨A, c1, rfl, HV.out, HB.out⟩
end Go.Proofs.Ytkahnaenbgbooaa
