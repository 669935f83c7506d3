/- PackNums: any number is the document's bytes, and is got again; any bytes begin with a number, or don't. -/
import Derived.Test.YtcefohjddbjcjaaZPkLaw
import Derived.Test.YtcefohjddbjcjaaZPkRGet
namespace Go.Proofs.Ytcefohjddbjcjaa
set_option maxRecDepth 100000
open Go.RowKit
set_option linter.unusedVariables false
theorem min_k (k n : Nat) (hn : n ≤ 9223372036854775807) (hk : k ≤ 1000) : ∀ w, (Builtin.min_ #[3, 3] 3 #[.int .i64 (n : Int), .int .i64 (k : Int)]).run Try.prog w = .ok (.int .i64 ((min n k : Nat) : Int)) w := fun w => by
  by_cases h : n ≤ k
  · rw [Nat.min_eq_left h]
    simp [Builtin.min_, Builtin.min2]; omega
  · rw [Nat.min_eq_right (by omega)]
    simp [Builtin.min_, Builtin.min2]; omega
theorem Rd.cutU8 {w : World} {B n : Nat} {A : Option Addr} {z : List Nat} (h : Rd w B A n (U8 z)) (k : Nat) (hk : k ≤ n) : Rd w B A k (U8 (z.take k)) := by
  have := h.take k hk
  rwa [show (U8 z).take k = U8 (z.take k) by simp [U8, List.map_take]] at this
theorem begins_uniq {bs : List Nat} {x y : Nat} (h : Begins bs x) (k : Begins bs y) : x = y := by
  obtain ⟨_, r, e⟩ := h
  obtain ⟨_, s, f⟩ := k
  exact (numB_uniq (e.symm.trans f)).1
set_option maxHeartbeats 8000000 in
theorem packNums_walk (A : Option Addr) (x n c : Nat) (bs : List Nat) (w : World) (hx : x < 2 ^ 64) (h : Rd w w.heap.size A n (U8 bs)) (hb : ∀ b ∈ bs, b < 256) (hnc : n ≤ c) (hcm : c ≤ maxLen) :
    Calls Try.prog 3 #[.int .u64 (x : Int), .slice A n c] w fun e w' => e = .returned (.bool true) ∧ Below w.heap.size w w' := by
  unfold maxLen at hcm
  obtain ⟨i0, hi0, hz0, hz1, hz2⟩ := info_parts info_u8
  have AW := Lib.hid (awake19_p w)
  have H := Lib.hid h
  have hm15 := min_k 15 n (by omega) (by omega)
  obtain ⟨m, hm⟩ : ∃ m, m = min n 15 := ⟨_, rfl⟩
  rw [← hm] at hm15
  have hm15' : ∀ w, (Builtin.min_ #[3, 3] 3 #[.int .i64 (n : Int), .int .i64 15]).run Try.prog w = .ok (.int .i64 (m : Int)) w := hm15
  have hm1 : m ≤ 15 := by omega
  have hm2 : m ≤ n := by omega
  have hmi : (m : Int) ≤ (c : Int) := by omega
  obtain ⟨P, hP⟩ : ∃ P, P = bs.take m := ⟨_, rfl⟩
  have hbl : bs.length = n := by rw [← h.len, U8_len]
  have hPl : P.length = m := by rw [hP, List.length_take]; omega
  have HPL := Lib.hid hPl
  have HPB : Hid (∀ b ∈ P, b < 256) := fun b hb' => hb b (by rw [hP] at hb'; exact List.mem_of_mem_take hb')
  have HPE := Lib.hid hP
  have CL : Hid (∀ c' W, Below w.heap.size w W → Calls Try.prog 9 #[.slice A m c'] W (NewU8 W P)) := fun c' W mm => by
    rw [HPE.out]
    exact clone_any A m c' w.heap.size (bs.take m) W ((H.out.below mm).cutU8 m hm2) (by omega)
  have hN10 := numB_len10 hx
  have HNB := Lib.hid (numB_lt x)
  obtain ⟨ln, hln⟩ : ∃ ln, ln = (numB x).length := ⟨_, rfl⟩
  have HLN := Lib.hid hln
  rw [← hln] at hN10
  have HX := Lib.hid hx
  clear h hb hm hm15 hP hPl hln hbl hx
  go_enter Try.func3, Try.ntmps3
  go_wp2_with fail
  refine AW.out.mono ?_
  rintro e w1 ⟨rfl, b1⟩
  have C1 := Lib.hid (CL.out n w1 b1)
  have B1 := Lib.hid b1
  have C1' := Lib.hid (fun c' => CL.out c' w1 b1)
  clear b1 AW CL C1 H
  go_wp2_with fail
  refine (C1'.out _).mono ?_
  rintro e w2 ⟨A2, c2, rfl, hc2, hm2', ho2, b2⟩
  rw [HPL.out] at ho2 hc2 ⊢
  have R2 := Lib.hid (Rd.ofOwn ho2)
  have B2 := Lib.hid (B1.out.trans (b2.mono B1.out.size))
  have NP := Lib.hid (pkNum_p A2 m c2 x P w2 R2.out HX.out hc2 (by omega))
  clear ho2 hm2' b2 B1 C1'
  go_wp2_with fail
  refine NP.out.mono ?_
  rintro e w3 ⟨A3, c3, rfl, hc3, hm3, ho3, b3⟩
  have R3 := Lib.hid (Rd.ofOwn ho3)
  have Q3 := Lib.hid (R2.out.onto b3)
  have B3 := Lib.hid (B2.out.trans (b3.mono B2.out.size))
  have RN := Lib.hid (rpNum_p x w3 HX.out)
  obtain ⟨pl, hpl⟩ : ∃ pl, pl = (P ++ numB x).length := ⟨_, rfl⟩
  have HPP := Lib.hid hpl
  rw [← hpl] at R3 ⊢
  have hplb : pl ≤ 25 := by rw [hpl, List.length_append, HPL.out, ← HLN.out]; omega
  clear ho3 hc3 hm3 b3 NP R2 B2 hpl
  go_wp2_with fail
  refine RN.out.mono ?_
  rintro e w4 ⟨A4, c4, rfl, hc4, hm4, ho4, b4⟩
  rw [← HLN.out] at ho4 hc4 ⊢
  have O4 := Lib.hid (Rd.ofOwn ho4)
  have R4 := Lib.hid (R3.out.onto b4)
  have Q4 := Lib.hid (Q3.out.onto b4)
  have B4 := Lib.hid (B3.out.trans (b4.mono B3.out.size))
  have CO := Lib.hid (clone_any A4 ln c4 _ (numB x) w4 O4.out (by omega))
  clear ho4 hc4 hm4 b4 RN R3 Q3 B3
  go_wp2_with fail
  refine CO.out.mono ?_
  rintro e w5 ⟨A5, c5, rfl, hc5, hm5, ho5, b5⟩
  rw [← HLN.out] at ho5 hc5 ⊢
  have Q5 := Lib.hid (Q4.out.onto b5)
  have HB5 := Lib.hid b5
  have t1 : ln + m ≤ maxLen := by simp only [maxLen]; omega
  have t2 : (ln + m) * 1 ≤ 140737488355328 := by omega
  have t3 : w4.heap.size ≤ w5.heap.size := b5.size
  have q5 := Q5.out
  clear hc5 hm5 b5 CO
  go_wp2_with (first
    | (at_builtin; go_loud (refine wpList_append_rd _ rfl _ _ 23 rfl w4.heap.size 5 i0 (.int .u8 0) 1 Try.underlying23 hi0 hz0 hz1 hz2 rfl (.slice A5 ln c5) ln (U8 (numB x)) rfl ho5 w5.heap.size A2 m c2 (U8 P) rfl q5 (U8_one _) t1 t2 t3 ?_)))
  intro A6 c6 w6 hc6 hm6 hown6 hg6 _
  have hb6 : Below w4.heap.size w5 w6 := Below.appended ho5 hg6 t3
  have b46 := HB5.out.trans hb6
  have O6 := Lib.hid (O4.out.onto b46)
  have R6 := Lib.hid (R4.out.onto b46)
  have Q6 := Lib.hid (Q4.out.onto b46)
  have B6 := Lib.hid (B4.out.trans (b46.mono B4.out.size))
  rw [← U8_append] at hown6
  have G1 := Lib.hid (pkGet_p A6 (ln + m) c6 _ (numB x ++ P) w6 (Rd.ofOwn hown6) (fun b hb => by
    rcases List.mem_append.1 hb with hb | hb
    · exact HNB.out b hb
    · exact HPB.out b hb) (by omega))
  have HBG : Hid (Begins (numB x ++ P) x) := ⟨HX.out, P, rfl⟩
  clear hown6 hg6 hb6 b46 hc6 hm6 O4 R4 Q4 B4 HB5 Q5 q5 ho5
  go_wp2_with fail
  refine G1.out.mono ?_
  rintro e w7 ⟨hor, rfl⟩
  obtain rfl : e = .returned (.tuple #[.int .u64 (x : Int), .int .i64 (ln : Int), .int .i64 0]) := by
    rcases hor with ⟨y, hy, e⟩ | ⟨hno, _⟩
    · rw [e, begins_uniq hy HBG.out, HLN.out]
    · exact absurd HBG.out (hno x)
  have G2 := Lib.hid (pkGet_p A2 m c2 _ P w6 Q6.out HPB.out (by omega))
  clear hor G1
  go_wp2_with fail
  refine G2.out.mono ?_
  rintro e w7 ⟨hor, rfl⟩
  have G3 := Lib.hid (rpGet_p A2 m c2 P w6 Q6.out HPB.out (by omega))
  have CP := Lib.hid (fun W (mm : Below w6.heap.size w6 W) => clone_any A2 m c2 _ P W (Q6.out.onto mm) (by omega))
  have EQ : Hid (∀ A8 m8 c8 W, Rd W W.heap.size A3 pl (U8 (P ++ numB x)) → Rd W W.heap.size A8 m8 (U8 (P ++ numB x)) → Calls Try.prog 14 #[.slice A3 pl c3, .slice A8 m8 c8] W fun e w' => e = .returned (.bool true) ∧ W = w') := fun A8 m8 c8 W h1 h2 => equal_same A3 A8 pl c3 m8 c8 _ _ (P ++ numB x) W h1 h2 (fun b hb => by
    rcases List.mem_append.1 hb with hb | hb
    · exact HPB.out b hb
    · exact HNB.out b hb)
  have FIN : ∀ (w7 : World), Below w6.heap.size w6 w7 → Hid (Rd w7 w7.heap.size A3 pl (U8 (P ++ numB x))) ∧ Hid (Rd w7 w7.heap.size A4 ln (U8 (numB x))) ∧ Hid (Below w.heap.size w w7) := fun w7 mm => ⟨R6.out.onto mm, O6.out.onto mm, B6.out.trans (mm.mono B6.out.size)⟩
  have HFIN := Lib.hid FIN
  have t4 : m + ln ≤ maxLen := by simp only [maxLen]; omega
  have t5 : (m + ln) * 1 ≤ 140737488355328 := by omega
  have hPN := HPP.out
  have hplm : pl = m + ln := by rw [HPP.out, List.length_append, HPL.out, HLN.out]
  have HPM := Lib.hid hplm
  clear FIN hPN hplm
  rcases hor with ⟨y, hy, rfl⟩ | ⟨hno, rfl⟩
  · have HY := Lib.hid hy
    obtain ⟨yl, hyl⟩ : ∃ yl, yl = (numB y).length := ⟨_, rfl⟩
    have HYL := Lib.hid hyl
    rw [← hyl]
    clear hy hyl G2
    go_wp2_with fail
    refine G3.out.mono ?_
    rintro e w7 ⟨hor, b7⟩
    obtain rfl : e = .returned (.tuple #[.int .u64 (y : Int), .int .i64 (yl : Int), .bool true]) := by
      rcases hor with ⟨z, hz, e⟩ | ⟨hno, _⟩
      · rw [e, begins_uniq hz HY.out, HYL.out]
      · exact absurd HY.out (hno y)
    have CQ := Lib.hid (CP.out w7 b7)
    have HB7 := Lib.hid b7
    clear hor b7 G3 CP
    go_wp2_with fail
    refine CQ.out.mono ?_
    rintro e w8 ⟨A8, c8, rfl, hc8, hm8, ho8, b8⟩
    rw [HPL.out] at ho8 hc8 ⊢
    obtain ⟨F1, F2, F3⟩ := HFIN.out w7 HB7.out
    have t6 : w7.heap.size ≤ w8.heap.size := b8.size
    have q8 := F2.out.onto b8
    have HB8 := Lib.hid b8
    clear hc8 hm8 b8 CQ
    go_wp2_with (first
      | (at_builtin; go_loud (refine wpList_append_rd _ rfl _ _ 23 rfl w7.heap.size 5 i0 (.int .u8 0) 1 Try.underlying23 hi0 hz0 hz1 hz2 rfl (.slice A8 m c8) m (U8 P) rfl ho8 w8.heap.size A4 ln c4 (U8 (numB x)) rfl q8 (U8_one _) t4 t5 t6 ?_)))
    intro A9 c9 w9 hc9 hm9 hown9 hg9 _
    have b79 := HB8.out.trans (Below.appended ho8 hg9 t6)
    rw [← U8_append] at hown9
    have EQ9 := Lib.hid (EQ.out A9 (m + ln) c9 w9 (F1.out.onto b79) (Rd.ofOwn hown9))
    have B9 := Lib.hid (F3.out.trans (b79.mono F3.out.size))
    clear hown9 hg9 hc9 hm9 b79 ho8 q8
    go_wp2_with fail
    refine EQ9.out.mono ?_
    rintro e wa ⟨rfl, rfl⟩
    go_wp2_with fail
    go_ret
    exact ⟨rfl, B9.out⟩
  · have HNO := Lib.hid hno
    clear hno G2
    go_wp2_with fail
    refine G3.out.mono ?_
    rintro e w7 ⟨hor, b7⟩
    obtain rfl : e = .returned (.tuple #[.int .u64 0, .int .i64 0, .bool false]) := by
      rcases hor with ⟨z, hz, e⟩ | ⟨_, e⟩
      · exact absurd hz (HNO.out z)
      · exact e
    have CQ := Lib.hid (CP.out w7 b7)
    have HB7 := Lib.hid b7
    clear hor b7 G3 CP
    go_wp2_with fail
    refine CQ.out.mono ?_
    rintro e w8 ⟨A8, c8, rfl, hc8, hm8, ho8, b8⟩
    rw [HPL.out] at ho8 hc8 ⊢
    obtain ⟨F1, F2, F3⟩ := HFIN.out w7 HB7.out
    have t6 : w7.heap.size ≤ w8.heap.size := b8.size
    have q8 := F2.out.onto b8
    have HB8 := Lib.hid b8
    clear hc8 hm8 b8 CQ
    go_wp2_with (first
      | (at_builtin; go_loud (refine wpList_append_rd _ rfl _ _ 23 rfl w7.heap.size 5 i0 (.int .u8 0) 1 Try.underlying23 hi0 hz0 hz1 hz2 rfl (.slice A8 m c8) m (U8 P) rfl ho8 w8.heap.size A4 ln c4 (U8 (numB x)) rfl q8 (U8_one _) t4 t5 t6 ?_)))
    intro A9 c9 w9 hc9 hm9 hown9 hg9 _
    have b79 := HB8.out.trans (Below.appended ho8 hg9 t6)
    rw [← U8_append] at hown9
    have EQ9 := Lib.hid (EQ.out A9 (m + ln) c9 w9 (F1.out.onto b79) (Rd.ofOwn hown9))
    have B9 := Lib.hid (F3.out.trans (b79.mono F3.out.size))
    clear hown9 hg9 hc9 hm9 b79 ho8 q8
    go_wp2_with fail
    refine EQ9.out.mono ?_
    rintro e wa ⟨rfl, rfl⟩
    go_wp2_with fail
    go_ret
    exact ⟨rfl, B9.out⟩
end Go.Proofs.Ytcefohjddbjcjaa
