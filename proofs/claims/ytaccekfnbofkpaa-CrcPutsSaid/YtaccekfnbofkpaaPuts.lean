/- The walk of the statement on four bytes. -/
import Derived.Test.YtaccekfnbofkpaaAwake
import Derived.Deep.DeepMust
namespace Go.Proofs.Ytaccekfnbofkpaa
open Go.RowKit
set_option linter.unusedVariables false

set_option maxHeartbeats 1000000 in
theorem crcPuts_walk (A : Option Addr) (n c x : Nat) (bs : List Nat) (w : World) (h : Rd w w.heap.size A n (U8 bs)) (hb : ∀ b ∈ bs, b < 256) (hnc : n ≤ c) (hc : c ≤ maxLen) (hx : x < 4294967296) :
    Calls Try.prog 5 #[.slice A n c, .int .u32 (x : Int)] w fun e w' => e = .returned (.bool true) ∧ Below w.heap.size w w' := by
  unfold maxLen at hc
  obtain ⟨i0, hi0, hz0, hz1, hz2⟩ := info_parts info_u8
  have hl : bs.length = n := by rw [← h.len, U8_len]
  have hone : ∀ m ≤ n, ∃ cs : List Nat, Hid (cs.length = m) ∧ (∀ b ∈ cs, b < 256) ∧ Rd w w.heap.size A m (U8 cs) := fun m hm => by
    have := h.take m hm
    rw [U8, ← List.map_take] at this
    exact ⟨bs.take m, by show _ = _; rw [List.length_take]; omega, fun b hb' => hb b (List.mem_of_mem_take hb'), this⟩
  clear hl h hb
  go_enter Try.func5, Try.ntmps5
  go_wp2_with fail
  refine (awake_any _).mono ?_
  rintro e w1 ⟨rfl, hb1⟩
  go_wp2_with fail
  case' inl => have hh := hone 20 (by omega)
  case' inr => have hh := hone n (by omega)
  all_goals
    obtain ⟨cs, hcl, hcb, hr⟩ := hh
    have hc20 : cs.length ≤ 20 := by rw [hcl.out]; omega
    refine (clone_any A _ _ _ cs _ (hr.below hb1) (by omega)).mono ?_
    clear hr hone
    rintro e w2 ⟨A2, k2, rfl, hk2, hm2, hown2, hb2⟩
    go_wp2_with fail
    have r2 := Rd.ofOwn hown2
    refine (clone_any A2 _ _ _ cs _ r2 (by omega)).mono ?_
    rintro e w3 ⟨A3, k3, rfl, hk3, hm3, hown3, hb3⟩
    have hown3' := hown3.alloc (.cells #[.int .u8 1, .int .u8 2, .int .u8 3, .int .u8 4, .int .u8 5] 5)
    have r3 := Rd.new w3 5 #[.int .u8 1, .int .u8 2, .int .u8 3, .int .u8 4, .int .u8 5] 5 (U8 [1, 2, 3, 4, 5]) (by simp [U8]) (by simp)
    have s1 : cs.length + 5 ≤ maxLen := by simp only [maxLen]; omega
    have s2 : (cs.length + 5) * 1 ≤ 140737488355328 := by omega
    have s3 : w2.heap.size ≤ (w3.alloc (.cells #[.int .u8 1, .int .u8 2, .int .u8 3, .int .u8 4, .int .u8 5] 5)).heap.size := by have := hb3.size; simp; omega
    go_wp2_with (first
      | (at_builtin; refine wpList_append_rd _ rfl (.tmp 21) (.tmp 22) 26 rfl w2.heap.size 5 i0 (.int .u8 0) 1 Try.underlying26 hi0 hz0 hz1 hz2 rfl (.slice A3 cs.length k3) cs.length (U8 cs) rfl hown3' (w3.heap.size + 1) (some ⟨w3.heap.size, 0, none⟩) 5 5 (U8 [1, 2, 3, 4, 5]) rfl r3 (U8_one _) s1 s2 s3 ?_))
    intro A4 k4 w4 hk4 hm4 hown4 hg4 _
    have hb24 : Below w2.heap.size w2 w4 := (hb3.trans ((Below.refl _ _).alloc hb3.size _)).trans (Below.appended hown3' hg4 s3)
    go_wp2_with fail
    have r4 := Rd.ofOwn hown4
    have r4' := r4.take cs.length (by omega)
    rw [← U8_append] at r4
    rw [List.take_left' (U8_len cs)] at r4'
    refine (put_any A4 cs.length k4 _ cs x _ r4' hx (by omega) (by omega)).mono ?_
    rintro e w5 ⟨A5, k5, rfl, hk5, hm5, hown5, hb5⟩
    have hl5 : (cs ++ four x).length = cs.length + 4 := by simp [four]
    rw [hl5] at hown5 hk5 ⊢
    obtain ⟨g5, rfl, _, _⟩ := own_some hown5 (by omega)
    have hb25 : Below w2.heap.size w2 w5 := hb24.trans (hb5.mono hb24.size)
    go_wp2_with fail
    refine (clone_any A2 _ _ _ cs _ (r2.below hb25) (by omega)).mono ?_
    rintro e w6 ⟨A6, k6, rfl, hk6, hm6, hown6, hb6⟩
    have hown6' := hown6.alloc (.cells #[.int .u8 1, .int .u8 2, .int .u8 3, .int .u8 4, .int .u8 5] 5)
    have r6 := Rd.new w6 5 #[.int .u8 1, .int .u8 2, .int .u8 3, .int .u8 4, .int .u8 5] 5 (U8 [1, 2, 3, 4, 5]) (by simp [U8]) (by simp)
    have s6 : w5.heap.size ≤ (w6.alloc (.cells #[.int .u8 1, .int .u8 2, .int .u8 3, .int .u8 4, .int .u8 5] 5)).heap.size := by have := hb6.size; simp; omega
    go_wp2_with (first
      | (at_builtin; refine wpList_append_rd _ rfl (.tmp 32) (.tmp 33) 26 rfl w5.heap.size 5 i0 (.int .u8 0) 1 Try.underlying26 hi0 hz0 hz1 hz2 rfl (.slice A6 cs.length k6) cs.length (U8 cs) rfl hown6' (w6.heap.size + 1) (some ⟨w6.heap.size, 0, none⟩) 5 5 (U8 [1, 2, 3, 4, 5]) rfl r6 (U8_one _) s1 s2 s6 ?_))
    intro A7 k7 w7 hk7 hm7 hown7 hg7 _
    have hb57 : Below w5.heap.size w5 w7 := (hb6.trans ((Below.refl _ _).alloc hb6.size _)).trans (Below.appended hown6' hg7 s6)
    go_wp2_with fail
    have r7 := Rd.ofOwn hown7
    rw [← U8_append] at r7
    have r47 := (r4.below hb5).below (hb57.mono hb5.size)
    refine (equal_same A4 A7 _ _ _ _ _ _ (cs ++ [1, 2, 3, 4, 5]) _ r47 r7 (by simp; rintro b (h | h | h | h | h | h); exact hcb b h; all_goals omega)).mono ?_
    rintro e w7' ⟨rfl, rfl⟩
    go_wp2_with fail
    have hb27 : Below w2.heap.size w2 w7 := hb25.trans (hb57.mono hb25.size)
    refine (clone_any A2 _ _ _ cs _ (r2.below hb27) (by omega)).mono ?_
    rintro e w8 ⟨A8, k8, rfl, hk8, hm8, hown8, hb8⟩
    go_wp2_with fail
    refine (four_any x _ hx).mono ?_
    rintro e w9 ⟨A9, k9, rfl, hk9, hm9, hown9, hb9⟩
    have hl9 : (four x).length = 4 := rfl
    rw [hl9] at hown9 hk9 ⊢
    have r9 := Rd.ofOwn hown9
    have hown8' : w9.ownsRow w7.heap.size 5 1 (.slice A8 cs.length k8) cs.length (U8 cs) := hown8.kept (row := none) ⟨hb9.os, hb9.tape, hb9.output, hb9.size, fun k hk _ => hb9.block k hk⟩ (by cases A8 <;> simp [Value.ownBlock])
    have t1 : cs.length + 4 ≤ maxLen := by simp only [maxLen]; omega
    have t2 : (cs.length + 4) * 1 ≤ 140737488355328 := by omega
    have t3 : w7.heap.size ≤ w9.heap.size := Nat.le_trans hb8.size hb9.size
    go_wp2_with (first
      | (at_builtin; go_must (refine wpList_append_rd _ rfl (.tmp 40) (.tmp 42) 26 rfl w7.heap.size 5 i0 (.int .u8 0) 1 Try.underlying26 hi0 hz0 hz1 hz2 rfl (.slice A8 cs.length k8) cs.length (U8 cs) rfl hown8' w9.heap.size A9 4 k9 (U8 (four x)) rfl r9 (U8_one _) t1 t2 t3 ?_)))
    intro A10 k10 w10 hk10 hm10 hown10 hg10 _
    have hb7 : Below w7.heap.size w7 w10 := (hb8.trans (hb9.mono hb8.size)).trans (Below.appended hown8' hg10 t3)
    have r10 := Rd.ofOwn hown10
    rw [← U8_append] at r10
    have r5 := (((Rd.ofOwn hown5).below hb57)).below (hb7.mono hb57.size)
    go_wp2_with fail
    refine (equal_same _ A10 _ _ _ _ _ _ (cs ++ four x) _ r5 r10 (by
      intro b hb
      rcases List.mem_append.1 hb with h | h
      · exact hcb b h
      · exact four_lt x b h)).mono ?_
    rintro e w10' ⟨rfl, rfl⟩
    go_wp2_with fail
    have r5d : Rd w10 w5.heap.size (some ⟨g5, cs.length, none⟩) 4 (U8 (four x)) := by
      have := r5.drop cs.length
      rw [U8_append, List.drop_left' (U8_len cs), Nat.zero_add, Nat.add_sub_cancel_left] at this
      exact this
    refine (get_four _ _ _ x _ r5d hx).mono ?_
    rintro e w11 ⟨rfl, d1, rfl⟩
    go_wp2_with fail
    have hbl : Below w.heap.size w w10 := (hb1.trans (hb2.mono hb1.size)).trans ((hb27.trans (hb7.mono hb27.size)).mono (Nat.le_trans hb1.size hb2.size))
    have r2w : Rd w10 w2.heap.size A2 cs.length (U8 cs) := (r2.below hb27).below (hb7.mono hb27.size)
    have r2f : Rd (w10.drewN d1) w2.heap.size A2 cs.length (U8 cs) := r2w.drewN d1
    have hx1 : ((x : Int) == (x : Int)) = true := by simp
    by_cases h4 : cs.length = 4
    · refine (get_len A2 _ _ _ cs _ r2f h4).mono ?_
      rintro e w12 ⟨y, rfl, d2, rfl⟩
      have h4b : ((cs.length : Int) == 4) = true := by simp; omega
      have hblD : Below w.heap.size w ((w10.drewN d1).drewN d2) := below_draws (below_draws hbl d1) d2
      rw [World.drewN_drewN] at hblD
      clear h4
      go_wp2_with (first
        | (go_at_call 12; refine (add_nil _ _ _ _).mono ?_; rintro e w' ⟨rfl, rfl⟩)
        | (go_at_call 11; refine (value_nil _).mono ?_; rintro e w' ⟨rfl, rfl⟩)
        | (go_at_call 14; refine (len_nil _).mono ?_; rintro e w' ⟨rfl, rfl⟩)
        | (go_at_call 10; refine (copy_nil _).mono ?_; rintro e w' ⟨rfl, rfl⟩))
      go_ret
      exact ⟨rfl, hblD⟩
    · refine (get_no A2 _ _ _ h4).mono ?_
      rintro e w12 ⟨rfl, rfl⟩
      have h4b : ((cs.length : Int) == 4) = false := by simp; omega
      have hblD : Below w.heap.size w (w10.drewN d1) := below_draws hbl d1
      clear h4
      go_wp2_with (first
        | (go_at_call 12; refine (add_nil _ _ _ _).mono ?_; rintro e w' ⟨rfl, rfl⟩)
        | (go_at_call 11; refine (value_nil _).mono ?_; rintro e w' ⟨rfl, rfl⟩)
        | (go_at_call 14; refine (len_nil _).mono ?_; rintro e w' ⟨rfl, rfl⟩)
        | (go_at_call 10; refine (copy_nil _).mono ?_; rintro e w' ⟨rfl, rfl⟩))
      go_ret
      exact ⟨rfl, hblD⟩
end Go.Proofs.Ytaccekfnbofkpaa
