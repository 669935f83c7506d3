/- BitsNums: a number written in two parts, read in two parts. -/
import Derived.Test.YtfaeeedjmlkpiaaBAwake
import Derived.Test.YtfaeeedjmlkpiaaBRead
import Derived.Test.YtfaeeedjmlkpiaaBRefN
namespace Go.Proofs.Ytfaeeedjmlkpiaa
open Go.RowKit
set_option linter.unusedVariables false

set_option maxHeartbeats 16000000 in
theorem bitsNums_walk (x k at_ : Nat) (w : World) (hx : x < 2 ^ 64) (hk : k < 256) (ha : at_ < 256) :
    Calls Try.prog 8 #[.int .u64 (x : Int), .int .u8 (k : Int), .int .u8 (at_ : Int)] w fun e w' => e = .returned (.bool true) ∧ Below w.heap.size w w' := by
  have AW := Lib.hid (awake_p w)
  obtain ⟨s, hs, hs64⟩ : ∃ s : Nat, (k : Int) % 65 = (s : Int) ∧ s ≤ 64 := ⟨k % 65, by omega, by omega⟩
  obtain ⟨lo, hlo, hlo1⟩ : ∃ lo : Nat, (at_ : Int) % ((s : Int) + 1) = (lo : Int) ∧ lo ≤ s := by
    refine ⟨at_ % (s + 1), ?_, ?_⟩
    · rw [Int.natCast_emod]; rfl
    · have := Nat.mod_lt at_ (show 0 < s + 1 by omega); omega
  obtain ⟨a, b, hab, ha64, hb64, hmin, hmax⟩ : ∃ a b : Nat, a + b = lo ∧ a < 64 ∧ b < 64 ∧ (∀ w, (Builtin.min_ #[3, 3] 3 #[.int .i64 (lo : Int), .int .i64 63]).run Try.prog w = .ok (.int .i64 (a : Int)) w) ∧
      ∀ w, (Builtin.max_ #[3, 3] 3 #[.int .i64 ((lo : Int) - 63), .int .i64 0]).run Try.prog w = .ok (.int .i64 (b : Int)) w := by
    refine ⟨min lo 63, lo - 63, by omega, by omega, by omega, fun w => ?_, fun w => ?_⟩
    · simp [Builtin.min_, Builtin.min2]
      repeat' split
      all_goals omega
    · simp [Builtin.max_, Builtin.max2]
      repeat' split
      all_goals omega
  have hcast : ((x / 2 ^ lo : Nat) : Int) = (x : Int) / 2 ^ lo := by simp
  have hsh : (x : Int) / 2 ^ a / 2 ^ b = (x : Int) / 2 ^ lo := by
    rw [← hcast, ← hab, Nat.pow_add, ← Nat.div_div_eq_div_mul]; simp
  go_enter Try.func8, Try.ntmps8
  go_wp2_with (go_at_call 9; refine AW.out.mono ?_)
  rintro e w1 ⟨rfl, hb1⟩
  have N1 := Lib.hid (bnew_p w1)
  have HB1 := Lib.hid hb1
  clear hb1
  go_wp2_with (go_at_call 10; refine N1.out.mono ?_)
  rintro e w2 ⟨rfl, hv2, hb2⟩
  have N2 := Lib.hid (bnew_p w2)
  have s1 := HB1.out.size
  have hg2 : w1.heap.size < w2.heap.size := hv2.hlt
  have HV2 := Lib.hid hv2
  have HB2 : Hid (Below w.heap.size w w2) := HB1.out.trans (hb2.mono (by omega))
  clear hv2 hb2 HB1 N1 AW
  go_wp2_with (go_at_call 10; refine N2.out.mono ?_)
  rintro e w3 ⟨rfl, hu3, hb3⟩
  have hh3 : w2.heap.size < w3.heap.size := hu3.hlt
  have TW3 : Hid (Two w3 w.heap.size w1.heap.size 0 0 none w2.heap.size 0 0 none) :=
    ⟨HV2.out.below hb3, hu3, Sep.new HV2.out _ (Nat.le_refl _), s1, by omega⟩
  generalize w2.heap.size = h at *
  generalize w1.heap.size = g at *
  have HB3 : Hid (Below w.heap.size w w3) := HB2.out.trans (hb3.mono (by omega))
  clear hu3 hb3 HV2 HB2 N2
  have NM1 := Lib.hid (num_p g 0 0 x (s : Int) none w3 TW3.out.1 hx (by omega) (by omega))
  rw [cnt64_nat hs64] at NM1
  go_wp2_with (go_at_call 12; refine NM1.out.mono ?_)
  rintro e w4 hp
  obtain ⟨rfl, hb4, A, tw4⟩ := TW3.out.left hp
  have TW4 := Lib.hid tw4
  have HB4 : Hid (Below w.heap.size w w4) := HB3.out.trans hb4
  clear tw4 hb4 hp TW3 HB3 NM1
  have NM2 := Lib.hid (num_p h 0 0 x (lo : Int) none w4 TW4.out.2.1 hx (by omega) (by omega))
  rw [cnt64_nat (by omega)] at NM2
  go_wp2_with (go_at_call 12; refine NM2.out.mono ?_)
  rintro e w5 hp
  obtain ⟨rfl, hb5, C, tw5⟩ := TW4.out.right hp
  have TW5 := Lib.hid tw5
  have HB5 : Hid (Below w.heap.size w w5) := HB4.out.trans hb5
  clear tw5 hb5 hp TW4 HB4 NM2
  have hx2 : x / 2 ^ lo < 2 ^ 64 := Nat.lt_of_le_of_lt (Nat.div_le_self _ _) hx
  have NM3 := Lib.hid (num_p h (put 0 0 x lo) (0 + lo) (x / 2 ^ lo) ((s : Int) - (lo : Int)) C w5 TW5.out.2.1 hx2 (by omega) (by omega))
  have hc : cnt64 ((s : Int) - (lo : Int)) = s - lo := by rw [show (s : Int) - (lo : Int) = ((s - lo : Nat) : Int) by omega]; exact cnt64_nat (by omega)
  rw [hc, put_two, hcast, show 0 + lo + (s - lo) = s by omega, show lo + (s - lo) = s by omega] at NM3
  rw [Nat.zero_add] at TW5
  have hsum : (0 : Nat) + s = s := by omega
  go_wp2_with (go_at_call 12; refine NM3.out.mono ?_)
  rintro e w6 hp
  obtain ⟨rfl, hb6, D, tw6⟩ := TW5.out.right hp
  have hput : put 0 0 x s = val (numL x s) := by rw [val_numL]; simp [put]
  obtain ⟨V, hV⟩ : ∃ V, V = val (numL x s) := ⟨_, rfl⟩
  rw [hput, ← hV] at tw6
  have HVV := Lib.hid hV
  clear hput hV
  have TW6 := Lib.hid tw6
  have HB6 : Hid (Below w.heap.size w w6) := HB5.out.trans hb6
  clear tw6 hb6 hp TW5 HB5 NM3 hc
  have RD := Lib.hid (read_p g _ s _ A w6 TW6.out.1)
  go_wp2_with (go_at_call 19; refine RD.out.mono ?_)
  rintro e w7 ⟨r, rfl, hr, hb7⟩
  clear RD
  have hbn := numL_bin x s
  have hln := numL_len x s
  have e1 : V / 2 ^ 0 % 2 ^ lo = val ((numL x s).take lo) := by rw [Nat.pow_zero, Nat.div_one, HVV.out, val_take hbn]
  have e2 : V / 2 ^ (0 + lo) % 2 ^ (s - lo) = val ((numL x s).drop lo) := by
    rw [Nat.zero_add, HVV.out, ← val_drop hbn]
    refine Nat.mod_eq_of_lt ?_
    have := val_lt (hbn.drop lo)
    rwa [List.length_drop, hln] at this
  obtain ⟨p1, hp1⟩ : ∃ p1, p1 = val ((numL x s).take lo) := ⟨_, rfl⟩
  obtain ⟨p2, hp2⟩ : ∃ p2, p2 = val ((numL x s).drop lo) := ⟨_, rfl⟩
  rw [← hp1] at e1
  rw [← hp2] at e2
  have HP1 := Lib.hid hp1
  have HP2 := Lib.hid hp2
  have E1 := Lib.hid e1
  have E2 := Lib.hid e2
  clear e1 e2 hp1 hp2
  have HR7 := Lib.hid hr
  have HX7 := Lib.hid hb7
  clear hr hb7
  have R1 := Lib.hid (rnum_yes w6.heap.size r V s 0 (lo : Int) w7 HR7.out (by omega) (by rw [cnt64_nat (by omega)]; omega))
  rw [cnt64_nat (by omega), E1.out] at R1
  go_wp2_with (go_at_call 20; refine R1.out.mono ?_)
  rintro e w8 ⟨rfl, hr8, hm8⟩
  have HX8 : Hid (Below w6.heap.size w6 w8) := HX7.out.trans (hm8.belowB HX7.out.size fun i hi e => by subst e; have := HR7.out.2.1; omega)
  have HR8 := Lib.hid hr8
  clear hr8 hm8 HX7 HR7 R1
  have hc : cnt64 ((s : Int) - (lo : Int)) = s - lo := by rw [show (s : Int) - (lo : Int) = ((s - lo : Nat) : Int) by omega]; exact cnt64_nat (by omega)
  have R2 := Lib.hid (rnum_yes w6.heap.size r V s (0 + lo) ((s : Int) - (lo : Int)) w8 HR8.out (by omega) (by rw [hc]; omega))
  rw [hc, E2.out, show 0 + lo + (s - lo) = s by omega] at R2
  clear hc
  go_wp2_with (go_at_call 20; refine R2.out.mono ?_)
  rintro e w9 ⟨rfl, hr9, hm9⟩
  have HX9 : Hid (Below w6.heap.size w6 w9) := HX8.out.trans (hm9.belowB HX8.out.size fun i hi e => by subst e; have := HR8.out.2.1; omega)
  have HR9 := Lib.hid hr9
  clear hr9 hm9 HX8 HR8 R2
  have RN := rnumL_p x (s : Int) w9 hx (by omega)
  rw [cnt64_nat hs64] at RN
  have RNH := Lib.hid RN
  clear RN
  go_wp2_with (go_at_call 13; refine RNH.out.mono ?_)
  rintro e w10 ⟨B10, c10, rfl, hc10, hm10, hown10, hb10⟩
  rw [ofN_len, numL_len] at hown10 hc10 ⊢
  have HX10 : Hid (Below w6.heap.size w6 w10) := HX9.out.trans (hb10.mono HX9.out.size)
  have TW : Hid (Two w10 w.heap.size g V s A h V s D) := TW6.out.below HX10.out
  have HR10 : Hid (ReadAt w10 w6.heap.size r V s s) := HR9.out.below hb10
  have HB10 : Hid (Below w.heap.size w w10) := HB6.out.trans (HX10.out.mono HB6.out.size)
  have r10 := Rd.ofOwn hown10
  have hB : B10 = none ∨ ∃ q, B10 = some ⟨q, 0, none⟩ := by
    rcases hown10.2 with ⟨h2, _⟩ | ⟨g', cap, cur, hv, _⟩
    · simp only [Value.slice.injEq] at h2; exact .inl h2.1
    · simp only [Value.slice.injEq] at hv; exact .inr ⟨g', hv.1⟩
  clear hown10 hb10 HX9 HR9 HX10 TW6 HB6 RNH
  have SM := Lib.hid (same_vv g h V V s s _ _ A D w10 TW.out.1 TW.out.2.1)
  rw [show decide (s = s ∧ V = V) = true by simp] at SM
  have LN : Hid (∀ j, Calls Try.prog 32 #[.pointer (some ⟨g, 0, none⟩)] (w10.drewN j) fun e w' => e = .returned (.int .i64 (s : Int)) ∧ w10.drewN j = w') := fun j => blen_p g V s A _ (VecB.drewN TW.out.1 j)
  have LF : Hid (∀ j, Calls Try.prog 22 #[.pointer (some ⟨r, 0, none⟩)] (w10.drewN j) fun e w' => e = .returned (.int .i64 0) ∧ ∃ i, w' = (w10.drewN j).drewN i) := fun j => by
    have := left_p w6.heap.size r V s s _ (HR10.out.below (below_draws (Below.refl _ _) j))
    rwa [Nat.sub_self] at this
  rcases hB with rfl | ⟨q, rfl⟩
  · 
    obtain rfl : s = 0 := r10.none_
    obtain rfl : lo = 0 := by omega
    have z1 : p1 = 0 := HP1.out
    have z2 : p2 = 0 := HP2.out
    subst z1 z2
    have VL : Hid (∀ j c, Calls Try.prog 23 #[.slice none 0 c] (w10.drewN j) fun e w' => e = .returned (.int .u64 0) ∧ w10.drewN j = w') := fun j c => value_p none 0 c 0 [] _ (Rd.nil _ _ _) Bin.nil (by omega)
    go_wp2_with (first
      | (go_at_call 30; refine SM.out.mono ?_; rintro e w' ⟨rfl, j1, rfl⟩)
      | (go_at_call 32; refine (LN.out _).mono ?_; rintro e w' ⟨rfl, rfl⟩)
      | (go_at_call 23; refine (VL.out _ _).mono ?_; rintro e w' ⟨rfl, rfl⟩)
      | (go_at_call 22; refine (LF.out _).mono ?_; rintro e w' ⟨rfl, j2, rfl⟩))
    go_ret
    exact ⟨rfl, below_draws HB10.out _⟩
  · have VL1 : Hid (∀ j c, Calls Try.prog 23 #[.slice (some ⟨q, 0, none⟩) lo c] (w10.drewN j) fun e w' => e = .returned (.int .u64 (p1 : Int)) ∧ w10.drewN j = w') := fun j c => by
      have r := (r10.take lo hlo1).drewN j
      rw [I64_take, ← ofN_take] at r
      have := value_p _ lo c _ _ _ r (hbn.take lo) (by omega)
      rwa [← HP1.out] at this
    have VL2 : Hid (∀ j c, Calls Try.prog 23 #[.slice (some ⟨q, lo, none⟩) (s - lo) c] (w10.drewN j) fun e w' => e = .returned (.int .u64 (p2 : Int)) ∧ w10.drewN j = w') := fun j c => by
      have r := (r10.drop lo).drewN j
      rw [show (I64 (ofN (numL x s))).drop lo = I64 (ofN ((numL x s).drop lo)) by rw [ofN_drop]; simp [I64, List.map_drop], Nat.zero_add] at r
      have := value_p _ (s - lo) c _ _ _ r (hbn.drop lo) (by omega)
      rwa [← HP2.out] at this
    have hl1 : (lo : Int) ≤ (c10 : Int) := by omega
    have hl2 : (lo : Int) ≤ (s : Int) := by omega
    unfold maxLen at hm10
    clear r10
    go_wp2_with (first
      | (go_at_call 30; refine SM.out.mono ?_; rintro e w' ⟨rfl, j1, rfl⟩)
      | (go_at_call 32; refine (LN.out _).mono ?_; rintro e w' ⟨rfl, rfl⟩)
      | fail)
    refine (VL1.out _ _).mono ?_
    rintro e w' ⟨rfl, rfl⟩
    have VL3 : Hid (s = lo → ∀ j c, Calls Try.prog 23 #[.slice (some ⟨q, 0, none⟩) (s - lo) c] (w10.drewN j) fun e w' => e = .returned (.int .u64 (p2 : Int)) ∧ w10.drewN j = w') := fun hsl j c => by
      have hd : (numL x s).drop lo = [] := List.drop_of_length_le (by rw [hln]; omega)
      have := value_p (some ⟨q, 0, none⟩) (s - lo) c 0 [] (w10.drewN j) (by rw [hsl, Nat.sub_self]; exact Rd.nil _ _ _) Bin.nil (by omega)
      rwa [show p2 = val [] by rw [HP2.out, hd]]
    go_wp2_with fail
    · refine (VL3.out (by omega) _ _).mono ?_
      rintro e w' ⟨rfl, rfl⟩
      go_wp2_with (go_at_call 22; refine (LF.out _).mono ?_; rintro e w' ⟨rfl, j2, rfl⟩)
      go_ret
      exact ⟨rfl, below_draws HB10.out _⟩
    · refine (VL2.out _ _).mono ?_
      rintro e w' ⟨rfl, rfl⟩
      go_wp2_with (go_at_call 22; refine (LF.out _).mono ?_; rintro e w' ⟨rfl, j2, rfl⟩)
      go_ret
      exact ⟨rfl, below_draws HB10.out _⟩
end Go.Proofs.Ytfaeeedjmlkpiaa
