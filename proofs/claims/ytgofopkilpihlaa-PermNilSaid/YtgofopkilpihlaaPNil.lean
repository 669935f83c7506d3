/- The walk of the statement on the nil permutation and on the one in which each goes to itself. -/
import Derived.Test.YtgofopkilpihlaaPRow
namespace Go.Proofs.Ytgofopkilpihlaa
open Go.RowKit
set_option linter.unusedVariables false

/-- Two permutations of no number, or of numbers of two sizes. -/
theorem same_len (v v' : Option Addr) (a a' : Nat) (w : World) (ha : a = 0 ∨ a' = 0)
    (hp : ∀ j, Calls Try.prog 16 #[.pointer v] (w.drewN j) fun e w' => e = .returned (.int .i64 (a : Int)) ∧ w.drewN j = w')
    (hq : Calls Try.prog 16 #[.pointer v'] w fun e w' => e = .returned (.int .i64 (a' : Int)) ∧ w = w') :
    Calls Try.prog 28 #[.pointer v, .pointer v'] w fun e w' => e = .returned (.bool (decide (a = a'))) ∧ ∃ j, w' = w.drewN j := by
  have LP := Lib.hid hp
  have LP0 : Hid (Calls Try.prog 16 #[.pointer v] w fun e w' => e = .returned (.int .i64 (a : Int)) ∧ w = w') := hp 0
  have LQ0 := Lib.hid hq
  clear hp hq
  by_cases he : a = a'
  · subst he
    obtain rfl : a = 0 := by omega
    go_enter Try.func28, Try.ntmps28
    go_wp2_with fail
    refine LP0.out.mono ?_
    rintro e w' ⟨rfl, rfl⟩
    go_wp2_with fail
    refine LQ0.out.mono ?_
    rintro e w' ⟨rfl, rfl⟩
    go_wp2_with fail
    go_quiet ((go_at_call 16; exact Calls.quiet_of_same ((LP.out _).mono fun e w' ⟨he, hw⟩ => ⟨he, hw.symm⟩)))
    go_wp2
    go_ret
    exact ⟨rfl, nq, rfl⟩
  · have hne : ((a : Int) != (a' : Int)) = true := by rw [bne_iff_ne]; omega
    have hd : decide (a = a') = false := decide_eq_false he
    have HD := Lib.hid hd
    clear hd he
    go_enter Try.func28, Try.ntmps28
    go_wp2_with fail
    refine LP0.out.mono ?_
    rintro e w' ⟨rfl, rfl⟩
    go_wp2_with fail
    refine LQ0.out.mono ?_
    rintro e w' ⟨rfl, rfl⟩
    go_wp2_with fail
    go_ret
    exact ⟨by rw [HD.out]; rfl, 0, rfl⟩

theorem orbits_pnil (w : World) :
    Calls Try.prog 21 #[.pointer none] w fun e w' => e = .returned (.slice none 0 0) ∧ Below w.heap.size w w' := by
  obtain ⟨m, hm⟩ : ∃ m : Nat, Hid (m = 0) := ⟨0, rfl⟩
  have LP : Hid (Calls Try.prog 16 #[.pointer none] w fun e w' => e = .returned (.int .i64 (m : Int)) ∧ w = w') := by show Calls _ _ _ _ _; rw [hm.out]; exact len_pnil w
  have hml : m ≤ 1000000 := by rw [hm.out]; omega
  obtain ⟨j0, ji0, jz0, jz1, jz2⟩ := info_parts info_bool
  have hmk := run_make_one (P := Try.prog) 50 4 j0 (.bool false) 1 Try.underlying50 ji0 jz0 jz1 jz2 rfl .i64 .i64 m (by omega) (by omega)
  go_enter Try.func21, Try.ntmps21
  go_wp2_with (go_at_call 16; refine LP.out.mono ?_; rintro e w' ⟨rfl, rfl⟩)
  go_loopw [3, 14] (fun v i wr => v = .slice none 0 0 ∧ i = .int .i64 0 ∧ Below w.heap.size w wr) (fun _ i _ => 0)
  case atStart => exact ⟨rfl, rfl, (Below.refl _ _).alloc (Nat.le_refl _) _⟩
  case round =>
    obtain ⟨rfl, rfl, hB⟩ := hrel
    obtain rfl := hm.out
    go_wp2
    go_ret
    exact ⟨rfl, hB⟩
theorem names_pnil (w : World) :
    Calls Try.prog 22 #[.pointer none] w fun e w' => (∃ A, e = .returned (.slice A 0 0)) ∧ Below w.heap.size w w' := by
  obtain ⟨m, hm⟩ : ∃ m : Nat, Hid (m = 0) := ⟨0, rfl⟩
  have LP : Hid (Calls Try.prog 16 #[.pointer none] w fun e w' => e = .returned (.int .i64 (m : Int)) ∧ w = w') := by show Calls _ _ _ _ _; rw [hm.out]; exact len_pnil w
  have hml : m ≤ 1000000 := by rw [hm.out]; omega
  obtain ⟨i0, hi0, hz0, hz1, hz2⟩ := info_parts info_int
  have hmk := run_make_one (P := Try.prog) 22 3 i0 (.int .i64 0) 8 Try.underlying22 hi0 hz0 hz1 hz2 rfl .i64 .i64 m (by omega) (by omega)
  go_enter Try.func22, Try.ntmps22
  go_wp2_with (go_at_call 16; refine LP.out.mono ?_; rintro e w' ⟨rfl, rfl⟩)
  refine (orbits_pnil _).mono ?_
  rintro e w2 ⟨rfl, hb2⟩
  have hB : Below w.heap.size w w2 := ((Below.refl _ _).alloc (Nat.le_refl _) _).trans (hb2.mono (by simp))
  clear hb2
  obtain rfl := hm.out
  go_wp2
  go_loopw [14] (fun i wr => i = .int .i64 0 ∧ wr = w2) (fun i _ => 0)
  case atStart => exact ⟨rfl, rfl⟩
  case round =>
    obtain ⟨rfl, rfl⟩ := hrel
    go_wp2
    go_ret
    exact ⟨⟨_, rfl⟩, hB⟩

theorem oneL_len (n : Nat) : (oneL n).length = n := by simp [oneL]
theorem it_one (n i : Nat) (hi : i < n) : ∀ k, it (oneL n) k i = i
  | 0 => rfl
  | k + 1 => by
    have := it_add (oneL n) k i 1
    rw [show k + 1 = 1 + k by omega, this, it_one n i hi k]
    show (oneL n).getD i 0 = i
    exact oneL_get n i hi
theorem orbits_one (n : Nat) : (orbits (oneL n)).length = n := by
  have h := oneL_inv n
  unfold orbits
  rw [List.length_map, oneL_len]
  have : leads (oneL n) n = List.range n := by
    unfold leads
    refine List.filter_eq_self.2 fun i hi => ?_
    rw [List.mem_range] at hi
    refine decide_eq_true fun j hj hm => ?_
    obtain ⟨k, hk⟩ := (mem_orb h (by rw [oneL_len]; omega)).1 hm
    rw [it_one n j (by omega)] at hk
    omega
  rw [this, List.length_range]

set_option maxRecDepth 100000 in
set_option maxHeartbeats 4000000 in
theorem permNil_walk (n i : Int) (A : Option Addr) (len cap : Nat) (w : World) (hn : -9223372036854775808 ≤ n ∧ n ≤ 9223372036854775807) (hi : -9223372036854775808 ≤ i ∧ i ≤ 9223372036854775807) :
    Calls Try.prog 6 #[.int .i64 n, .int .i64 i, .slice A len cap] w fun e w' => e = .returned (.bool true) ∧ Below w.heap.size w w' := by
  obtain ⟨m, hm, hm0, hm1⟩ : ∃ m : Int, (∀ w, (Builtin.min_ #[3, 3] 3 #[.int .i64 n, .int .i64 40]).run Try.prog w = .ok (.int .i64 m) w) ∧ -9223372036854775808 ≤ m ∧ m ≤ 40 :=
    ⟨if n ≤ 40 then n else 40, fun w => by simp [Builtin.min_, Builtin.min2]; split <;> split <;> omega, by split <;> omega, by split <;> omega⟩
  obtain ⟨k, hk⟩ : ∃ k : Nat, k = m.toNat := ⟨_, rfl⟩
  have hmx : ∀ w, (Builtin.max_ #[3, 3] 3 #[.int .i64 m, .int .i64 0]).run Try.prog w = .ok (.int .i64 (k : Int)) w := fun w => by
    simp [Builtin.max_, Builtin.max2]
    split <;> omega
  have hk40 : k ≤ 40 := by omega
  have hsg : Hid ((k = 0 ∧ decide (m ≤ 0) = true) ∨ (0 < k ∧ decide (m ≤ 0) = false)) := by
    by_cases h : m ≤ 0
    · exact .inl ⟨by omega, decide_eq_true h⟩
    · exact .inr ⟨by omega, decide_eq_false h⟩
  have ONE : Hid (∀ w, Calls Try.prog 29 #[.int .i64 m] w (NewP w (oneL k) (oneL k))) := fun w => by rw [hk]; exact one_p m w hm0 (by omega)
  clear hk
  have hne : ((k : Int) != (k : Int)) = false := by simp
  go_enter Try.func6, Try.ntmps6
  go_wp2_with fail
  refine (awake_p _).mono ?_
  rintro e w1 ⟨rfl, hb1⟩
  go_wp2_with fail
  refine (ONE.out _).mono ?_
  rintro e w2 ⟨g, rfl, hp, hb2⟩
  have hB := hb1.trans (hb2.mono hb1.size)
  clear hb1 hb2
  go_wp2_with fail
  refine (then_nil1 _ _).mono ?_
  rintro e w3 ⟨rfl, rfl⟩
  go_wp2_with fail
  refine (then_nil2 _ _).mono ?_
  rintro e w3 ⟨rfl, rfl⟩
  go_wp2_with fail
  refine (len_p g _ _ _ hp).mono ?_
  rintro e w3 ⟨rfl, rfl⟩
  rw [oneL_len]
  go_wp2_with fail
  refine (orbits_p g _ _ _ hp).mono ?_
  rintro e w3 ⟨Ao, co, vs, rfl, hco, _, _, hb3⟩
  rw [orbits_one] at hco ⊢
  have hB := hB.trans (hb3.mono hB.size)
  have hp := hp.below hb3
  clear hb3
  go_wp2_with fail
  go_loopw [55] (fun v wr => ∃ q : Nat, q ≤ k ∧ v = .int .i64 (q : Int) ∧ wr = w3) (fun v _ => k - (intOf v).toNat)
  case atStart => exact ⟨0, by omega, rfl, rfl⟩
  case round =>
    obtain ⟨q, hq, rfl, rfl⟩ := hrel
    by_cases hlt : q < k
    · have AT := Lib.hid (at_in g _ _ q _ hp (by rw [oneL_len]; exact hlt))
      have BK := Lib.hid (back_in g _ _ q _ hp (by rw [oneL_len]; exact hlt))
      rw [oneL_get _ _ hlt] at AT BK
      have hqq : ((q : Int) != (q : Int)) = false := by simp
      go_wp2_with fail
      refine AT.out.mono ?_
      rintro e w4 ⟨rfl, rfl⟩
      go_wp2_with fail
      refine BK.out.mono ?_
      rintro e w4 ⟨rfl, rfl⟩
      go_wp2
      go_roundw
      case rel => exact ⟨q + 1, by omega, by go_num, trivial⟩
      case measure => simp [intOf]; omega
    · obtain rfl : q = k := by omega
      clear hlt
      go_wp2_with fail
      refine (len_pnil _).mono ?_
      rintro e w4 ⟨rfl, rfl⟩
      go_wp2_with fail
      refine (list_pnil _).mono ?_
      rintro e w4 ⟨rfl, rfl⟩
      go_wp2_with fail
      refine (orbit_nil _ _).mono ?_
      rintro e w4 ⟨rfl, rfl⟩
      go_wp2_with fail
      refine (orbits_pnil _).mono ?_
      rintro e w4 ⟨rfl, hb4⟩
      have hB := hB.trans (hb4.mono hB.size)
      have hp := hp.below hb4
      clear hb4
      go_wp2_with fail
      refine (names_pnil _).mono ?_
      rintro e w5 ⟨⟨A5, rfl⟩, hb5⟩
      have hB := hB.trans (hb5.mono hB.size)
      have hp := hp.below hb5
      clear hb5
      go_wp2_with fail
      refine (at_nil _ _).mono ?_
      rintro e w6 ⟨rfl, rfl⟩
      go_wp2_with fail
      refine (back_nil _ _).mono ?_
      rintro e w6 ⟨rfl, rfl⟩
      go_wp2_with fail
      refine (inverse_pnil _).mono ?_
      rintro e w6 ⟨rfl, rfl⟩
      go_wp2_with fail
      refine (same_len none none 0 0 _ (.inl rfl) (fun j => len_pnil _) (len_pnil _)).mono ?_
      rintro e w6 ⟨rfl, j6, rfl⟩
      have hB := below_draws hB j6
      have hp := hp.drewN j6
      rw [decide_eq_true (rfl : 0 = 0)]
      generalize hv6 : World.drewN _ j6 = y6 at *
      clear hv6
      go_wp2_with fail
      refine (one_p 0 _ (by omega) (by omega)).mono ?_
      rintro e w7 ⟨g7, rfl, hp7, hb7⟩
      have hB := hB.trans (hb7.mono hB.size)
      have hp := hp.below hb7
      clear hb7
      have lq7 := len_p g7 _ _ _ hp7
      rw [oneL_len] at lq7
      go_wp2_with fail
      refine (same_len none (some ⟨g7, 0, none⟩) 0 0 _ (.inl rfl) (fun j => len_pnil _) lq7).mono ?_
      rintro e w8 ⟨rfl, j8, rfl⟩
      have hB := below_draws hB j8
      have hp := hp.drewN j8
      rw [decide_eq_true (rfl : 0 = 0)]
      clear lq7 hp7
      generalize hv8 : World.drewN _ j8 = y8 at *
      clear hv8
      have lqp := len_p g _ _ _ hp
      rw [oneL_len] at lqp
      rcases hsg.out with ⟨rfl, hd⟩ | ⟨hpos, hd⟩
      · go_wp2_with fail
        refine (same_len none (some ⟨g, 0, none⟩) 0 0 _ (.inl rfl) (fun j => len_pnil _) lqp).mono ?_
        rintro e w9 ⟨rfl, j9, rfl⟩
        have hB := below_draws hB j9
        rw [decide_eq_true (rfl : 0 = 0)]
        go_wp2
        go_ret
        exact ⟨rfl, hB⟩
      · go_wp2_with fail
        refine (same_len none (some ⟨g, 0, none⟩) 0 q _ (.inl rfl) (fun j => len_pnil _) lqp).mono ?_
        rintro e w9 ⟨rfl, j9, rfl⟩
        have hB := below_draws hB j9
        rw [decide_eq_false (by omega : ¬ 0 = q)]
        go_wp2
        go_ret
        exact ⟨rfl, hB⟩
end Go.Proofs.Ytgofopkilpihlaa
