/- What a nil vector answers. -/
import Derived.Test.YtagpdpacaoianaaGreatDoorZBOf
import Derived.Test.YtagpdpacaoianaaGreatDoorZBRead
namespace Go.Proofs.YtagpdpacaoianaaGreatDoor
open Go.RowKit
set_option linter.unusedVariables false

theorem min_64 (n i : Nat) (hi : 64 * i < n) (hn : n ≤ 1000000) : ∃ s : Nat, Hid (s = min 64 (n - 64 * i)) ∧ 1 ≤ s ∧ s ≤ 64 ∧ ∀ w, (Builtin.min_ #[3, 3] 3 #[.int .i64 64, .int .i64 ((n : Int) - (i : Int) * 64)]).run Tryz.prog w = .ok (.int .i64 (s : Int)) w := by
  refine ⟨min 64 (n - 64 * i), rfl, by omega, by omega, fun w => ?_⟩
  simp [Builtin.min_, Builtin.min2]
  repeat' split
  all_goals omega
set_option maxHeartbeats 1000000 in
theorem join_nil (h U n B : Nat) (C : Option Addr) (w : World) (hu : VecB w B h U n C) :
    Calls Tryz.prog 47 #[.pointer none, .pointer (some ⟨h, 0, none⟩)] w fun e w' => e = .returned (.tuple #[]) ∧ w = w' := by
  obtain ⟨hV, hn, c, hb, ho⟩ := hu
  obtain ⟨m, hm⟩ : ∃ m, m = (n + 63) / 64 := ⟨_, rfl⟩
  have HM := Lib.hid hm
  have hm1 : m ≤ 1000000 := by omega
  rw [← hm] at hb ho
  have s0 : w.cell? ⟨h, 0, none⟩ = some (.slice C m c) := hb.cell 0
  have s1 : w.cell? ⟨h, 1, none⟩ = some (.int .i64 (n : Int)) := hb.cell 1
  have R := Lib.hid (Rd.ofOwn ho)
  clear hb ho hm hV
  go_enter Tryz.func47, Tryz.ntmps47
  go_wp2_with fail
  go_loopw [18] (fun i wr => ∃ k : Nat, k ≤ m ∧ i = .int .i64 (k : Int) ∧ wr = w) (fun i _ => m - (intOf i).toNat)
  case atStart => exact ⟨0, by omega, rfl, rfl⟩
  case round =>
    obtain ⟨k, hk, rfl, rfl⟩ := hrel
    by_cases hlt : k < m
    · obtain ⟨b, o, rfl, _, k1⟩ := R.out.u64 (by omega)
      have t1 := k1 k hlt
      obtain ⟨s, _, hs1, hs64, hmin⟩ := min_64 n k (by have := HM.out; omega) hn
      have NM := Lib.hid (fun x => num_nil x (s : Int) wr (by omega))
      clear k1
      generalize (words U m).getD k 0 = x at *
      go_wp2_with fail
      refine (NM.out _).mono ?_
      rintro e w2 ⟨rfl, rfl⟩
      go_wp2_with fail
      go_roundw
      case rel => exact ⟨k + 1, by omega, by go_num, trivial⟩
      case measure => simp [intOf]; omega
    · obtain rfl : k = m := by omega
      go_wp2_with fail
      exact bodyPost_end (results_none rfl _ _ _) rfl ⟨rfl, rfl⟩
theorem ones_nil (w : World) :
    Calls Tryz.prog 78 #[.pointer none] w fun e w' => e = .returned (.int .i64 0) ∧ w = w' := by
  go_enter Tryz.func78, Tryz.ntmps78
  go_wp2
  go_ret
  exact ⟨rfl, rfl⟩
theorem at_nilB (w : World) :
    Calls Tryz.prog 72 #[.pointer none, .int .i64 0] w fun e w' => e = .returned (.int .i64 (-1)) ∧ w = w' :=
  at_outB none 0 0 w (by omega) (.inr (by omega)) (blen_nil w)
set_option maxHeartbeats 1000000 in
theorem text_nil (w : World) :
    Calls Tryz.prog 43 #[.pointer none] w fun e w' => e = .returned (.string ByteArray.empty) ∧ Below w.heap.size w w' := by
  obtain ⟨m, hm⟩ : ∃ m : Nat, Hid (m = 0) := ⟨0, rfl⟩
  have L : Hid (Calls Tryz.prog 35 #[.pointer none] w fun e w' => e = .returned (.int .i64 (m : Int)) ∧ w = w') := by rw [hm.out]; exact blen_nil w
  obtain ⟨i0, hi0, hz0, hz1, hz2⟩ := info_parts info_u8
  have hmk := run_make_one (P := Tryz.prog) 43 5 i0 (.int .u8 0) 1 Tryz.underlying43 hi0 hz0 hz1 hz2 rfl .i64 .i64 m (by rw [hm.out]; omega) (by rw [hm.out]; omega)
  have hm9 : m ≤ 1000000 := by rw [hm.out]; omega
  go_enter Tryz.func43, Tryz.ntmps43
  go_wp2_with (go_at_call 35; refine L.out.mono ?_; rintro e w' ⟨rfl, rfl⟩)
  go_loopw [10] (fun i wr => i = .int .i64 0 ∧ Below w.heap.size w wr) (fun i _ => 0)
  case atStart => exact ⟨rfl, (Below.refl _ _).alloc (Nat.le_refl _) _⟩
  case round =>
    obtain ⟨rfl, hbl⟩ := hrel
    obtain rfl : m = 0 := hm.out
    have hcv := conv_bytes (some ⟨w.heap.size, 0, none⟩) 0 0 0 [] wr (Rd.nil _ _ _)
    go_wp2_with fail
    go_ret
    exact ⟨by simp; rfl, hbl⟩
end Go.Proofs.YtagpdpacaoianaaGreatDoor
