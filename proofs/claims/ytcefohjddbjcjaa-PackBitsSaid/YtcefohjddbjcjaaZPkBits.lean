/- PackBits: any bits are the document's bytes, and are unpacked again, whatever stands behind. -/
import Derived.Test.YtcefohjddbjcjaaZPkRPack
import Derived.Test.YtcefohjddbjcjaaZPkStrict
namespace Go.Proofs.Ytcefohjddbjcjaa
set_option maxRecDepth 100000
open Go.RowKit
set_option linter.unusedVariables false
/-- A list so many times over. -/
def repK (L : List Nat) : Nat → List Nat
  | 0 => []
  | m + 1 => repK L m ++ L
theorem repK_len (L : List Nat) : ∀ m, (repK L m).length = m * L.length
  | 0 => by simp [repK]
  | m + 1 => by rw [repK, List.length_append, repK_len L m, Nat.succ_mul]
theorem repK_bin {L : List Nat} (h : Bin L) : ∀ m, Bin (repK L m)
  | 0 => fun b hb => by cases hb
  | m + 1 => (repK_bin h m).append h
set_option maxHeartbeats 16000000 in
theorem packBits_walk (A1 A4 : Option Addr) (n1 c1 a t n4 c4 : Nat) (plain : Bool) (bs be : List Nat) (w : World)
    (h1 : Rd w w.heap.size A1 n1 (U8 bs)) (hb1 : ∀ b ∈ bs, b < 256) (hn1 : n1 ≤ c1) (hc1 : c1 ≤ maxLen) (ha : a < 256) (ht : t < 256)
    (h4 : Rd w w.heap.size A4 n4 (U8 be)) (hb4 : ∀ b ∈ be, b < 256) (hn4 : n4 ≤ c4) (hc4 : c4 ≤ maxLen) :
    Calls Try.prog 4 #[.slice A1 n1 c1, .int .u8 (a : Int), .int .u8 (t : Int), .bool plain, .slice A4 n4 c4] w fun e w' => e = .returned (.bool true) ∧ Below w.heap.size w w' := by
  unfold maxLen at hc1 hc4
  obtain ⟨i0, hi0, hz0, hz1, hz2⟩ := info_parts info_int
  obtain ⟨j0, hj0, hy0, hy1, hy2⟩ := info_parts info_u8
  have AW := Lib.hid (awake19_p w)
  have H1 := Lib.hid h1
  have HB := Lib.hid hb1
  have H4 := Lib.hid h4
  have x1 : ((a : Int) % 100) = ((a % 100 : Nat) : Int) := by omega
  have x2 : ((a : Int)).tmod 100 = ((a % 100 : Nat) : Int) := by rw [Int.tmod_eq_emod_of_nonneg (by omega)]; omega
  have y1 : ((t : Int) % 10) = ((t % 10 : Nat) : Int) := by omega
  have y2 : ((t : Int)).tmod 10 = ((t % 10 : Nat) : Int) := by rw [Int.tmod_eq_emod_of_nonneg (by omega)]; omega
  have hm : a % 100 < 100 := Nat.mod_lt _ (by decide)
  have hq : t % 10 < 10 := Nat.mod_lt _ (by decide)
  generalize a % 100 = m at *
  generalize t % 10 = q at *
  have hm15 := min_k 20 n4 (by omega) (by omega)
  obtain ⟨m4, hm4⟩ : ∃ m4, m4 = min n4 20 := ⟨_, rfl⟩
  rw [← hm4] at hm15
  have hm20 : ∀ w, (Builtin.min_ #[3, 3] 3 #[.int .i64 (n4 : Int), .int .i64 20]).run Try.prog w = .ok (.int .i64 (m4 : Int)) w := hm15
  have hm41 : m4 ≤ 20 := by omega
  have hm42 : m4 ≤ n4 := by omega
  have hm4i : (m4 : Int) ≤ (c4 : Int) := by omega
  obtain ⟨P4, hP4⟩ : ∃ P4, P4 = be.take m4 := ⟨_, rfl⟩
  have H4C : Hid (Rd w w.heap.size A4 m4 (U8 P4)) := by show Rd _ _ _ _ _; rw [hP4]; exact h4.cutU8 m4 hm42
  have HPB : Hid (∀ b ∈ P4, b < 256) := fun b hb' => hb4 b (by rw [hP4] at hb'; exact List.mem_of_mem_take hb')
  obtain ⟨L, hL⟩ : ∃ L, L = few bs m := ⟨_, rfl⟩
  have HBL : Hid (Bin L) := by show Bin L; rw [hL]; exact few_bin _ _
  have hll : L.length ≤ 100 := by rw [hL, few_len]; omega
  have HLE := Lib.hid hL
  clear h1 hb1 hL hm4 hm15 h4 hb4 hP4 ha ht
  go_enter Try.func4, Try.ntmps4
  go_wp2_with fail
  refine AW.out.mono ?_
  rintro e w1 ⟨rfl, b1⟩
  have FW := Lib.hid (few_p A1 n1 c1 _ m bs w1 (H1.out.below b1) HB.out b1.size (by omega) (by omega))
  rw [← HLE.out] at FW
  have B1 := Lib.hid b1
  clear b1 AW
  go_wp2_with fail
  refine FW.out.mono ?_
  rintro e w2 ⟨A2, c2, rfl, hc2, hm2, hown2, b2⟩
  have r2 := Rd.ofOwn hown2
  rw [ofN_lenB] at r2 hc2 ⊢
  have R2 := Lib.hid r2
  have B2 := Lib.hid (B1.out.trans (b2.mono B1.out.size))
  obtain ⟨ln, hln⟩ : ∃ ln, ln = L.length := ⟨_, rfl⟩
  have HLN := Lib.hid hln
  rw [← hln] at R2 hll ⊢
  clear r2 b2 hown2 FW hln B1
  go_wp2_with fail
  go_loopw [12, 28] (fun v i wr => ∃ k : Nat, k ≤ q + 1 ∧ i = .int .i64 (k : Int) ∧ Hid (OutR wr w2.heap.size v (repK L k)) ∧ Hid (Below w2.heap.size w2 wr)) (fun _ i _ => q + 1 - (intOf i).toNat)
  case atStart => exact ⟨0, by omega, rfl, OutR.nil _ _, Below.refl _ _⟩
  case round =>
    obtain ⟨k, hk, rfl, HO, HB2⟩ := hrel
    by_cases hlt : k < q + 1
    · obtain ⟨A7, c7, rfl, hown⟩ := HO.out
      obtain ⟨q7, hq7⟩ : ∃ q7, q7 = (repK L k).length := ⟨_, rfl⟩
      have HQ7 := Lib.hid hq7
      have hq8 : q7 ≤ 100000 := by
        rw [hq7, repK_len, ← HLN.out]
        exact Nat.le_trans (Nat.mul_le_mul (show k ≤ 12 by omega) hll) (by decide)
      rw [← hq7] at hown ⊢
      have r0 := (R2.out.below HB2.out)
      have t1 : q7 + ln ≤ maxLen := by simp only [maxLen]; omega
      have t2 : (q7 + ln) * 8 ≤ 140737488355328 := by omega
      have t3 : w2.heap.size ≤ wr.heap.size := HB2.out.size
      have WY : Hid (I64 (ofNB (repK L k)) ++ I64 (ofNB L) = I64 (ofNB (repK L (k + 1)))) := by
        show _ = _
        rw [repK, ofN_appendB, I64_append]
      have hlen : Hid ((repK L (k + 1)).length = q7 + ln) := by show _ = _; rw [repK, List.length_append, ← HQ7.out, HLN.out]
      have hki : (k : Int) < 1 + (q : Int) := by omega
      generalize I64 (ofNB (repK L k)) = xs at *
      generalize hys : I64 (ofNB L) = ys at *
      have hys1 : ∀ u ∈ ys, u.oneCell' = true := by rw [← hys]; exact I64_one _
      clear hq7 HO hys
      go_wp2_with (first
        | (at_builtin; go_must (refine wpList_append_rd _ rfl _ _ 35 rfl w2.heap.size 3 i0 (.int .i64 0) 8 Try.underlying35 hi0 hz0 hz1 hz2 rfl (.slice A7 q7 c7) q7 xs rfl hown w2.heap.size A2 ln c2 ys rfl r0 hys1 t1 t2 t3 ?_)))
      intro A6 c6 w6 hc6 hm6 hown6 hg6 _
      have hb6 : Below w2.heap.size wr w6 := Below.appended hown hg6 t3
      rw [WY.out] at hown6
      have HO6 : Hid (OutR w6 w2.heap.size (.slice A6 (q7 + ln) c6) (repK L (k + 1))) := by
        refine ⟨A6, c6, by rw [hlen.out], ?_⟩
        rw [hlen.out]; exact hown6
      have HB6 := Lib.hid (HB2.out.trans hb6)
      clear hown6 hg6 hb6 hown r0 t1 t2 t3 WY hc6 hm6 HB2 hys1
      go_wp2_with fail
      go_roundw
      case rel => exact ⟨k + 1, by omega, by go_num, HO6, HB6⟩
      case measure => simp [intOf]; omega
    · obtain rfl : k = q + 1 := by omega
      have hki : ¬ ((q : Int) + 1) < 1 + (q : Int) := by omega
      obtain ⟨A9, c9, rfl, hown⟩ := HO.out
      obtain ⟨l, hl⟩ : ∃ l, l = repK L (q + 1) := ⟨_, rfl⟩
      have HBB : Hid (Bin l) := by show Bin l; rw [hl]; exact repK_bin HBL.out _
      obtain ⟨n, hn⟩ : ∃ n, n = l.length := ⟨_, rfl⟩
      have hn12 : n ≤ 1000 := by
        rw [hn, hl, repK_len, ← HLN.out]
        exact Nat.le_trans (Nat.mul_le_mul (show q + 1 ≤ 10 by omega) hll) (by decide)
      rw [← hl, ← hn] at hown
      rw [← hl, ← hn]
      have HN := Lib.hid hn
      have RL := Lib.hid (Rd.ofOwn hown)
      have BW := Lib.hid (B2.out.trans (HB2.out.mono B2.out.size))
      have VP := Lib.hid (fun W (mm : Below wr.heap.size wr W) => vec19_p l A9 n c9 W ((RL.out.below mm).up mm.size) HBB.out (by rw [← HN.out]; omega))
      have V0 := Lib.hid (VP.out wr (Below.refl _ _))
      clear hl hn hown HO HB2 R2 B2 HLN HBL HLE H1 HB
      go_wp2_with fail
      refine V0.out.mono ?_
      rintro e w3 ⟨g3, A3, rfl, hv3, b3, _⟩
      have PK := Lib.hid (pack_p (some ⟨g3, 0, none⟩) l plain w3 (Packs.of hv3 HBB.out (by rw [← HN.out]; omega)) (by rw [← HN.out]; omega))
      have HB3 := Lib.hid b3
      clear hv3 b3 V0
      go_wp2_with fail
      refine PK.out.mono ?_
      rintro e w5 ⟨A5, c5, rfl, hc5, hm5, ho5, b5⟩
      have HPL := Lib.hid (packB_len l plain)
      have HPT := Lib.hid (packB_lt l plain)
      have HPK : Hid (∃ T, T = packB l plain) := ⟨_, rfl⟩
      obtain ⟨T, hT⟩ := HPK.out
      rw [← hT] at ho5 hc5 HPL HPT
      rw [← hT]
      have HT := Lib.hid hT
      obtain ⟨tl, htl⟩ : ∃ tl, tl = T.length := ⟨_, rfl⟩
      rw [← htl] at ho5 hc5 HPL
      rw [← htl]
      have HTL := Lib.hid htl
      have hpb : tl ≤ 1 + (n + 7) / 8 := by rw [HN.out]; exact HPL.out
      have HB5 := Lib.hid (HB3.out.trans (b5.mono HB3.out.size))
      have RQ5 := Lib.hid (Rd.ofOwn ho5)
      have RP := Lib.hid (rpack_p A9 n c9 l plain w5 ((RL.out.below HB5.out).up HB5.out.size) HBB.out (by omega))
      rw [← HT.out] at RP
      clear hT htl ho5 hc5 hm5 b5 PK HB3 HPK HPL
      go_wp2_with fail
      refine RP.out.mono ?_
      rintro e w6 ⟨A6, c6, rfl, hc6, hm6, ho6, b6⟩
      rw [← HTL.out] at ho6 hc6 ⊢
      have EQ := Lib.hid (equal_same A5 A6 tl c5 tl c6 _ _ T w6 (RQ5.out.onto b6) (Rd.ofOwn ho6) HPT.out)
      have HB6 := Lib.hid (HB5.out.trans (b6.mono HB5.out.size))
      have RQ6 := Lib.hid (RQ5.out.onto b6)
      obtain ⟨n8, hn8⟩ : ∃ n8, n8 = (n + 7) / 8 := ⟨_, rfl⟩
      rw [← hn8] at hpb
      have e8 : ((n : Int) + 7) / 8 = (n8 : Int) := by omega
      have e8t : ((n : Int) + 7).tdiv 8 = (n8 : Int) := by rw [Int.tdiv_eq_ediv_of_nonneg (by omega)]; omega
      have hpi : ¬ (1 : Int) + (n8 : Int) < (tl : Int) := by omega
      have CQ := Lib.hid (clone_any A5 tl c5 _ T w6 RQ6.out (by omega))
      have H46 := Lib.hid (H4C.out.below (BW.out.trans (HB6.out.mono BW.out.size)))
      clear ho6 hc6 hm6 b6 RP RQ5 HB5 hn8
      go_wp2_with fail
      refine EQ.out.mono ?_
      rintro e w7 ⟨rfl, rfl⟩
      clear EQ
      go_wp2_with fail
      refine CQ.out.mono ?_
      rintro e w8 ⟨A8, c8, rfl, hc8, hm8, ho8, b8⟩
      rw [← HTL.out] at ho8 hc8 ⊢
      have t1 : tl + m4 ≤ maxLen := by simp only [maxLen]; omega
      have t2 : (tl + m4) * 1 ≤ 140737488355328 := by omega
      have t3 : w6.heap.size ≤ w8.heap.size := b8.size
      have hws6 := Nat.le_trans BW.out.size HB6.out.size
      have q8 := (H46.out.up hws6).below b8
      have HB8 := Lib.hid b8
      clear hc8 hm8 b8 CQ
      go_wp2_with (first
        | (at_builtin; go_loud (refine wpList_append_rd _ rfl _ _ 23 rfl w6.heap.size 5 j0 (.int .u8 0) 1 Try.underlying23 hj0 hy0 hy1 hy2 rfl (.slice A8 tl c8) tl (U8 T) rfl ho8 w6.heap.size A4 m4 c4 (U8 P4) rfl q8 (U8_one _) t1 t2 t3 ?_)))
      intro Ab cb wb hcb hmb hownb hgb _
      have hbb : Below w6.heap.size w6 wb := HB8.out.trans (Below.appended ho8 hgb t3)
      rw [← U8_append] at hownb
      have hcb9 : cb ≤ 9223372036854775807 := by unfold maxLen at hmb; omega
      have UP := Lib.hid (unp_p Ab (tl + m4) cb n (T ++ P4) plain wb (Rd.ofOwn hownb) (fun b hb => by
        rcases List.mem_append.1 hb with hb | hb
        · exact HPT.out b hb
        · exact HPB.out b hb) (by omega) hcb hcb9 (by omega))
      have HBb := Lib.hid (HB6.out.trans (hbb.mono HB6.out.size))
      clear hownb hgb hbb q8 t1 t2 t3 ho8 HB8 hcb hmb
      go_wp2_with fail
      refine UP.out.mono ?_
      rintro e wd ⟨hor, bd⟩
      rcases hor with ⟨l', g', A', hlb, hll', ⟨rest, hrest⟩, rfl, hv⟩ | ⟨hno, _⟩
      rotate_left
      · exact absurd (by rw [HT.out]) (hno l HBB.out HN.out.symm P4)
      have HE : l' = l := by
        have f1 := (fits_pack HBB.out HN.out.symm (show T ++ P4 = packB l plain ++ P4 by rw [HT.out])).1
        have f2 := (fits_pack hlb hll' hrest).1
        exact fits_uniq (by rw [List.length_append, ← HTL.out]; have := congrArg List.length (rfl : P4 = P4); have h44 : P4.length = m4 := by rw [← U8_len, H4C.out.len]
                            omega) f2 f1
      subst HE
      rw [← HT.out, ← HTL.out]
      have HV := Lib.hid hv
      have HBd := Lib.hid (HBb.out.trans (bd.mono HBb.out.size))
      have V2 := Lib.hid (VP.out wd HBd.out)
      clear hlb hll' hrest hv bd UP
      go_wp2_with fail
      refine V2.out.mono ?_
      rintro e we ⟨g9, A9', rfl, hv9, b9, _⟩
      have SM := Lib.hid (same_vv g' g9 _ _ _ _ _ _ _ _ we (VecB.below HV.out b9) hv9)
      have hd1 : decide (l'.length = l'.length ∧ val l' = val l') = true := by simp
      rw [hd1] at SM
      have BE := Lib.hid (BW.out.trans ((HBd.out.trans (b9.mono HBd.out.size)).mono BW.out.size))
      clear hv9 b9 V2 hd1
      go_wp2_with fail
      refine SM.out.mono ?_
      rintro e wf ⟨rfl, j, rfl⟩
      go_wp2_with fail
      go_ret
      exact ⟨rfl, below_draws BE.out j⟩
end Go.Proofs.Ytcefohjddbjcjaa
