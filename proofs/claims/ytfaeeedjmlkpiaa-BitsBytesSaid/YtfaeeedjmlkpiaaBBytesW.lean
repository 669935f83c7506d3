/- BitsBytes: the walk. -/
import Derived.Test.YtfaeeedjmlkpiaaBBytes
namespace Go.Proofs.Ytfaeeedjmlkpiaa
open Go.RowKit
set_option linter.unusedVariables false

theorem U8_take (l : List Nat) (k : Nat) : (U8 l).take k = U8 (l.take k) := by simp [U8, List.map_take]
set_option maxHeartbeats 4000000 in
theorem bitsBytes_walk (A0 : Option Addr) (n0 c0 : Nat) (bs0 : List Nat) (N0 : Int) (tame : Bool) (w : World)
    (h0 : Rd w w.heap.size A0 n0 (U8 bs0)) (hbs0 : ∀ b ∈ bs0, b < 256) (hn0 : n0 ≤ c0) (hc0 : c0 ≤ maxLen) (hN0 : -9223372036854775808 ≤ N0 ∧ N0 ≤ 9223372036854775807) :
    Calls Try.prog 5 #[.slice A0 n0 c0, .int .i64 N0, .bool tame] w fun e w' => e = .returned (.bool true) ∧ Below w.heap.size w w' := by
  unfold maxLen at hc0
  have AW := Lib.hid (awake_p w)
  obtain ⟨m, hm1, hm2, hmin⟩ : ∃ m : Nat, m ≤ n0 ∧ m ≤ 40 ∧ ∀ w, (Builtin.min_ #[3, 3] 3 #[.int .i64 (n0 : Int), .int .i64 40]).run Try.prog w = .ok (.int .i64 (m : Int)) w := by
    refine ⟨min n0 40, by omega, by omega, fun w => ?_⟩
    simp [Builtin.min_, Builtin.min2]
    repeat' split
    all_goals omega
  obtain ⟨bs, hbs, hbl, hcut⟩ : ∃ bs : List Nat, (∀ b ∈ bs, b < 256) ∧ bs.length = m ∧ Rd w w.heap.size A0 m (U8 bs) := by
    refine ⟨bs0.take m, fun b hb => hbs0 b (List.mem_of_mem_take hb), ?_, ?_⟩
    · have := h0.len; rw [U8_len] at this; rw [List.length_take]; omega
    · have := h0.take m hm1; rwa [U8_take] at this
  have HCUT := Lib.hid hcut
  have HBS := Lib.hid hbs
  have HBL := Lib.hid hbl
  have hmc : (m : Int) ≤ (c0 : Int) := by omega
  have hr8 : ∃ r : Nat, (IntKind.u64.wrap N0).tmod 8 = (r : Int) ∧ r < 8 := by
    have hw := wrap_u64_nonneg N0
    rw [Int.tmod_eq_emod_of_nonneg hw]
    refine ⟨(IntKind.u64.wrap N0 % 8).toNat, ?_, ?_⟩ <;> omega
  obtain ⟨r, hr, hr8⟩ := hr8
  clear h0 hbs0 hbs hbl hcut
  go_enter Try.func5, Try.ntmps5
  go_wp2_with fail
  refine AW.out.mono ?_
  rintro e w1 ⟨rfl, b1⟩
  have C1 := Lib.hid (fun c' => clone_any A0 m c' _ bs w1 (HCUT.out.below b1) (by omega))
  have B1 := Lib.hid b1
  clear b1 AW
  go_wp2_with fail
  refine (C1.out _).mono ?_
  rintro e w2 ⟨A1, c1, rfl, hc1, hm1', hown1, b2⟩
  rw [HBL.out] at hown1 hc1 ⊢
  have R2 := Lib.hid (Rd.ofOwn hown1)
  have B2 : Hid (Below w.heap.size w w2) := B1.out.trans (b2.mono B1.out.size)
  clear hown1 b2 B1 C1 HCUT
  obtain ⟨N, hNt, hN1, hN2⟩ : ∃ N : Int, Hid (N = if tame then 8 * (m : Int) - (r : Int) else N0) ∧ -9223372036854775808 ≤ N ∧ N ≤ 9223372036854775807 := by
    refine ⟨_, rfl, ?_, ?_⟩ <;> split <;> omega
  cases tame
  focus (
    have hNN : N0 = N := by have := hNt.out; simpa using this.symm
    go_wp2_with fail
    clear hNN hr)
  rotate_left
  focus (
    have hNN : 8 * (m : Int) - (r : Int) = N := by have := hNt.out; simpa using this.symm
    go_wp2_with fail
    clear hNN hr)
  all_goals (
    clear hNt hr8 hmin hmc
    have C2 := Lib.hid (clone_any A1 m c1 _ bs w2 R2.out (by omega))
    refine C2.out.mono ?_
    rintro e w3 ⟨A2, c2, rfl, hc2, hm2', hown2, b3⟩
    rw [HBL.out] at hown2 hc2 ⊢
    have OB := Lib.hid (bof_p A2 m c2 _ N bs w3 (Rd.ofOwn hown2) (Nat.le_refl _) HBS.out hm2 ⟨hN1, hN2⟩)
    have OW := Lib.hid hown2
    have hs23 := b3.size
    have R3 : Hid (Rd w3 w2.heap.size A1 m (U8 bs)) := R2.out.below b3
    have B3 : Hid (Below w.heap.size w w3) := B2.out.trans (b3.mono B2.out.size)
    have hA2 : 0 < m → ∃ q, A2 = some ⟨q, 0, none⟩ ∧ w2.heap.size ≤ q ∧ q < w3.heap.size := fun h => own_some hown2 h
    have HA2 := Lib.hid hA2
    have hs2 := B2.out.size
    clear hown2 b3 C2 R2 B2 hA2
    go_wp2_with fail
    refine OB.out.mono ?_
    rintro e w4 ⟨vp, er, rfl, b4, hd⟩
    have OW4 := Lib.hid (own_below OW.out b4)
    have R4 : Hid (Rd w4 w2.heap.size A1 m (U8 bs)) := R3.out.below (b4.mono hs23)
    have B4 : Hid (Below w.heap.size w w4) := B3.out.trans (b4.mono B3.out.size)
    have hs34 := b4.size
    have HD := Lib.hid hd
    clear b4 OB OW R3 B3 hd
    generalize w3.heap.size = s3 at *
    generalize w2.heap.size = s2 at *
    go_wp2_with fail
    go_loopw [39] (fun i wr => ∃ (k : Nat) (ys : List Nat), k ≤ m ∧ i = .int .i64 (k : Int) ∧ Hid (∀ b ∈ ys, b < 256) ∧ Hid (wr.ownsRow s2 5 1 (.slice A2 m c2) m (U8 ys)) ∧ Hid (Mod (fun i => s2 ≤ i ∧ i < s3) w4 wr)) (fun i _ => m - (intOf i).toNat)
    case atStart => exact ⟨0, bs, by omega, rfl, HBS.out, OW4.out, Mod.refl _ _⟩
    case round =>
      obtain ⟨k, ys, hk, rfl, hys, how, hmo⟩ := hrel
      by_cases hlt : k < m
      · obtain ⟨q, hq, hq1, hq2⟩ := HA2.out (by omega)
        subst hq
        have t1 := own_cell8 how.out k hlt
        have f1 := how.out.frozenAt k
        have hyl : ys.getD k 0 < 256 := by
          have := own_len8 how.out
          rw [List.getD_eq_getElem?_getD, List.getElem?_eq_getElem (by omega)]; exact hys.out _ (List.getElem_mem _)
        have hx := xor8 _ hyl
        have hxl := xor8_lt _ hyl
        have OS := Lib.hid (own_set8 how.out k (ys.getD k 0 ^^^ 255))
        have hYS : Hid (∀ b ∈ ys.set k (ys.getD k 0 ^^^ 255), b < 256) := fun b hb => by
          rcases List.mem_or_eq_of_mem_set hb with h | h
          · exact hys.out b h
          · rw [h]; exact hxl
        generalize ys.getD k 0 ^^^ 255 = y2 at *
        generalize ys.getD k 0 = y at *
        go_wp2_with fail
        go_roundw
        case rel => exact ⟨k + 1, _, by omega, by go_num, hYS, OS.out, hmo.out.setCell (p := ⟨q, k, none⟩) (fun _ => ⟨hq1, hq2⟩) _⟩
        case measure => simp [intOf]; omega
      · obtain rfl : k = m := by omega
        have hb24 : Hid (Below s2 w4 wr) := hmo.out.belowB (by omega) fun i hi hf => by omega
        have R5 : Hid (Rd wr s2 A1 k (U8 bs)) := R4.out.below hb24.out
        have B5 : Hid (Below w.heap.size w wr) := B4.out.trans (hb24.out.mono hs2)
        have hs5 : s2 ≤ wr.heap.size := by have := hmo.out.size; omega
        clear OW4 R4 B4 how hys HA2 hb24
        rcases HD.out with ⟨hout, rfl, rfl⟩ | ⟨n, rfl, hn1, hn2, hd⟩
        · rw [HBL.out] at hout
          clear HD
          rcases hout with h | h | h
          · go_wp2_with fail
            go_ret
            exact ⟨rfl, B5.out⟩
          · have h' : ¬ N < 0 := by omega
            go_wp2_with fail
            go_ret
            exact ⟨rfl, B5.out⟩
          · by_cases h9 : N < 0
            · go_wp2_with fail
              go_ret
              exact ⟨rfl, B5.out⟩
            · have h8 : ¬ 8 * (k : Int) < N := by omega
              go_wp2_with fail
              go_ret
              exact ⟨rfl, B5.out⟩
        · rw [HBL.out] at hn1 hn2
          have g1 : ¬ 8 * (k : Int) < (n : Int) := by omega
          have g2 : ¬ 8 ≤ 8 * (k : Int) - (n : Int) := by omega
          have FW := Lib.hid (few_p A1 k c1 _ n bs wr R5.out HBS.out hs5 (by omega) (by omega))
          have hfl : (few bs n).length = n := by rw [few_len, HBL.out]; omega
          have hfb := few_bin bs n
          have HFB := Lib.hid hfb
          have HFL := Lib.hid hfl
          have HDD := Lib.hid hd
          clear HD hd hfb hfl
          go_wp2_with fail
          refine FW.out.mono ?_
          rintro e w6 ⟨A6, c6, rfl, hc6, hm6, hown6, b6⟩
          rw [ofN_len, HFL.out] at hown6 hc6 ⊢
          have r6 := Rd.ofOwn hown6
          have RB := refBytes_p A6 n c6 _ (few bs n) w6 r6 (Nat.le_refl _) HFB.out (by omega)
          rw [HFL.out] at RB
          have RBH := Lib.hid RB
          have R6 := Lib.hid r6
          have B6 := Lib.hid b6
          clear hown6 b6 r6 RB FW
          go_wp2_with fail
          refine RBH.out.mono ?_
          rintro e w7 ⟨A7, c7, rfl, hc7, hm7, hown7, b7⟩
          have hb57 : Below wr.heap.size wr w7 := B6.out.trans (b7.mono B6.out.size)
          have EQ := Lib.hid (equal_any A7 A1 _ c7 k c1 _ _ (bytesL (val (few bs n)) n) bs w7 (Rd.ofOwn hown7) (R5.out.below (hb57.mono hs5)) (bytesL_lt _ _) HBS.out)
          have R7 : Hid (Rd w7 w7.heap.size A6 n (I64 (ofN (few bs n)))) := (R6.out.below b7).up b7.size
          have B7 : Hid (Below w.heap.size w w7) := B5.out.trans (hb57.mono (Nat.le_trans hs2 hs5))
          have HB57 := Lib.hid hb57
          clear hown7 b7 RBH hb57 R6 B6
          rcases HDD.out with ⟨hne, rfl, rfl⟩ | ⟨heq, rfl, g, A, rfl, hv, hg⟩
          · rw [decide_eq_false hne] at EQ
            clear hne HDD
            go_wp2_with fail
            refine EQ.out.mono ?_
            rintro e w8 ⟨rfl, rfl⟩
            go_wp2_with fail
            go_ret
            exact ⟨rfl, B7.out⟩
          · rw [decide_eq_true heq] at EQ
            have hvr : VecB wr (g + 1) g (val (few bs n)) n A := VecB.mod hv hmo.out fun i hi hf => by
              rcases VecB.foot_le hv hi with rfl | h <;> omega
            have hv7 := hvr.below HB57.out
            have LK := like_p g (few bs n) A A6 _ n c6 w7 (by rw [HFL.out]; exact hv7) HFB.out R7.out
            have LKH := Lib.hid LK
            clear heq HDD hv hvr hv7 LK
            go_wp2_with fail
            refine EQ.out.mono ?_
            rintro e w8 ⟨rfl, rfl⟩
            go_wp2_with fail
            refine LKH.out.mono ?_
            rintro e w8 ⟨rfl, b8⟩
            go_wp2_with fail
            go_ret
            exact ⟨rfl, B7.out.trans (b8.mono B7.out.size)⟩)
end Go.Proofs.Ytfaeeedjmlkpiaa
