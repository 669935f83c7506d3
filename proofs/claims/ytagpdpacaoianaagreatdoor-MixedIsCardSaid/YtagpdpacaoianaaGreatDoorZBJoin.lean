/- Join of another vector. -/
import Derived.Test.YtagpdpacaoianaaGreatDoorZBCut
namespace Go.Proofs.YtagpdpacaoianaaGreatDoor
open Go.RowKit
set_option linter.unusedVariables false

theorem numL_take' (b t s : Nat) (hs : s ≤ t) : (numL b t).take s = numL b s := by
  simp only [numL, ← List.map_take, List.take_range, Nat.min_eq_left hs]
theorem numL_wd {m : List Nat} (hm : Bin m) (k s : Nat) (hs : s ≤ 64) (hl : 64 * k + s ≤ m.length) : numL (wd (val m) k) s = (m.drop (64 * k)).take s := by
  unfold wd
  rw [← numL_take' _ 64 s hs, numL_mod, numL_take' _ 64 s hs, ← val_drop hm, numL_val (hm.drop _) s (by rw [List.length_drop]; omega)]
set_option maxHeartbeats 2000000 in
theorem bjoin_p (g h B : Nat) (l m : List Nat) (A C : Option Addr) (w : World) (hv : VecAt w g (val l) l.length A) (hu : VecB w B h (val m) m.length C) (hsep : Sep g A h C) (hm : Bin m) (hlen : l.length + m.length + 64 ≤ 1000000) :
    Calls Tryz.prog 47 #[.pointer (some ⟨g, 0, none⟩), .pointer (some ⟨h, 0, none⟩)] w (NumPost w g (val (l ++ m)) (l ++ m).length A) := by
  obtain ⟨hU, hn, c, hb, ho⟩ := hu
  obtain ⟨n, hnn⟩ : ∃ n, n = m.length := ⟨_, rfl⟩
  rw [← hnn] at hb ho hn hU
  obtain ⟨q, hq⟩ : ∃ q, q = (n + 63) / 64 := ⟨_, rfl⟩
  have HQ := Lib.hid hq
  have hq1 : q ≤ 1000000 := by omega
  rw [← hq] at hb ho
  have s0 : w.cell? ⟨h, 0, none⟩ = some (.slice C q c) := hb.cell 0
  have s1 : w.cell? ⟨h, 1, none⟩ = some (.int .i64 (n : Int)) := hb.cell 1
  have R := Lib.hid (Rd.ofOwn ho)
  have HS : Hid (0 < q → ∀ i, inBlk C i → ¬ foot g A i) := fun h0 i hi hf => by
    obtain ⟨b, e, _⟩ := own_some ho h0
    obtain ⟨a, e2, rfl⟩ := hi
    rw [e] at e2
    cases e2
    exact hsep _ hf (.inr ⟨b, e, rfl⟩)
  have HV := Lib.hid hv
  have HM := Lib.hid hm
  have HN := Lib.hid hnn
  clear hb ho hq hU hv hsep hm hnn
  go_enter Tryz.func47, Tryz.ntmps47
  go_wp2_with fail
  go_loopw [18] (fun i wr => ∃ (k : Nat) (Ak : Option Addr), k ≤ q ∧ i = .int .i64 (k : Int) ∧ Hid (VecAt wr g (val (l ++ m.take (64 * k))) (l ++ m.take (64 * k)).length Ak) ∧ Hid (Mod (foot g A) w wr) ∧ Hid (Ak = A ∨ ∃ b, Ak = some ⟨b, 0, none⟩ ∧ w.heap.size ≤ b)) (fun i _ => q - (intOf i).toNat)
  case atStart => exact ⟨0, A, by omega, rfl, by show VecAt _ _ _ _ _; simpa using HV.out, Mod.refl _ _, .inl rfl⟩
  case round =>
    obtain ⟨k, Ak, hk, rfl, hvk, hmo, hak⟩ := hrel
    by_cases hlt : k < q
    · have hr := R.out.mod hmo.out (Nat.le_refl _) HS.out
      obtain ⟨b, o, rfl, _, k1⟩ := hr.u64 (by omega)
      have t1 := k1 k hlt
      rw [words_get _ _ _ hlt] at t1
      have h64 : 64 * k < n := by have := HQ.out; omega
      obtain ⟨s, hs, hs1, hs64, hmin⟩ := min_64 n k h64 hn
      have hsl : 64 * k + s ≤ m.length := by have := hs.out; have := HN.out; omega
      have hta : m.take (64 * (k + 1)) = m.take (64 * k) ++ (m.drop (64 * k)).take s := by
        rw [Nat.mul_add, Nat.mul_one, List.take_add]
        congr 1
        by_cases h7 : s = 64
        · rw [h7]
        · have h1 := hs.out
          have h2 := HN.out
          rw [List.take_of_length_le (by rw [List.length_drop]; omega), List.take_of_length_le (by rw [List.length_drop]; omega)]
      have hll : (l ++ m.take (64 * k)).length + 64 ≤ 1000000 := by rw [List.length_append, List.length_take]; omega
      have NM := num_p g (val (l ++ m.take (64 * k))) (l ++ m.take (64 * k)).length (wd (val m) k) (s : Int) Ak wr hvk.out (wd_lt _ _) (by omega) hll
      rw [cnt64_nat hs64, put_numL, numL_wd HM.out k s hs64 hsl, List.append_assoc, ← hta, show (l ++ m.take (64 * k)).length + s = (l ++ m.take (64 * (k + 1))).length by rw [hta, List.length_append, List.length_append, List.length_append, List.length_take (i := s), List.length_drop]; omega] at NM
      have NMH := Lib.hid NM
      clear hr k1 NM hta hll hsl
      generalize wd (val m) k = x at *
      go_wp2_with fail
      refine NMH.out.mono ?_
      rintro e w2 hp
      obtain ⟨rfl, A2, hv2, hm2, ha2⟩ := NumPost.trans hmo.out hak.out hp
      go_wp2_with fail
      go_roundw
      case rel => exact ⟨k + 1, A2, by omega, by go_num, hv2, hm2, ha2⟩
      case measure => simp [intOf]; omega
    · obtain rfl : k = q := by omega
      have e1 : m.take (64 * k) = m := List.take_of_length_le (by have := HQ.out; have := HN.out; omega)
      rw [e1] at hvk
      go_wp2_with fail
      exact bodyPost_end (results_none rfl _ _ _) rfl ⟨rfl, Ak, hvk.out, hmo.out, hak.out⟩
end Go.Proofs.YtagpdpacaoianaaGreatDoor
