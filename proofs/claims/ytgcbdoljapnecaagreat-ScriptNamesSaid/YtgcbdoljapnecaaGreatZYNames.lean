/- ScriptNames: the walk. -/
import Derived.Test.YtgcbdoljapnecaaGreatZg20
import Derived.Test.YtgcbdoljapnecaaGreatZg21
import Derived.Deep.RegionHeld3
namespace Go.Proofs.YtgcbdoljapnecaaGreat
set_option maxRecDepth 100000
open Go.RowKit
set_option linter.unusedVariables false
set_option linter.unusedSimpArgs false
theorem nmS_some {k : Nat} (hk : k < 11) : (nmS k).toList.isEmpty = false := by
  have : k = 0 ∨ k = 1 ∨ k = 2 ∨ k = 3 ∨ k = 4 ∨ k = 5 ∨ k = 6 ∨ k = 7 ∨ k = 8 ∨ k = 9 ∨ k = 10 := by omega
  rcases this with rfl | rfl | rfl | rfl | rfl | rfl | rfl | rfl | rfl | rfl | rfl <;> simp [nmS, nmA, ByteArray.toList, ByteArray.toList.loop, ByteArray.size]
theorem growE_ne (k : Nat) (l : List Nat) (d e : Int) : growE k l d e ≠ 15 := by
  unfold growE
  split
  · omega
  · split
    · omega
    · split <;> omega
theorem actE_in {k : Int} (l : List Nat) (d e : Int) (h : 0 ≤ k ∧ k < 11) : actE k l d e ≠ 15 := by
  unfold actE
  split
  · exact growE_ne _ _ _ _
  · split
    · split <;> omega
    · split
      · omega
      · rw [if_pos (by omega)]
        split
        · omega
        · split <;> omega
set_option maxHeartbeats 16000000 in
theorem scriptNames_walk (k d e : Int) (w : World) (hd : d < 2 ^ 63) :
    Calls Tryz.prog 6 #[.agg #[.int .i64 k, .int .i64 d, .int .i64 e]] w fun e w' => e = .returned (.bool true) ∧ Below w.heap.size w w' := by
  have hal := (Below.refl w.heap.size w).alloc (Nat.le_refl _) (.cells #[.int .i64 k, .int .i64 d, .int .i64 e] 41)
  have HX := Lib.hid (Blk.new w 41 #[.int .i64 k, .int .i64 d, .int .i64 e])
  have HAL := Lib.hid hal
  have AW := Lib.hid (fun W => awake24_p W)
  have SD := Lib.hid (fun W => seed_p W)
  have SN := Lib.hid (fun W => sdo_nil k d e W)
  have DO : Hid (∀ W g, MapAt W g sdL sdL 0 0 → Calls Tryz.prog 20 #[.pointer (some ⟨g, 0, none⟩), .agg #[.int .i64 k, .int .i64 d, .int .i64 e]] W fun en w' => ∃ p X, en = .returned (.tuple #[.pointer p, .int .i64 X]) ∧ Below W.heap.size W w' ∧ Hid (X = actE k sdL d e)) := fun W g hm =>
    (sdo_a k hd hm sd_inv (.inr (by decide)) (by decide) (by omega)).mono fun en w' ⟨p, x, q1, q2, q3, _⟩ => ⟨p, x, q1, q3, q2⟩
  have hs1 : w.heap.size < (w.alloc (.cells #[.int .i64 k, .int .i64 d, .int .i64 e] 41)).heap.size := by simp
  clear hd hal
  go_enter Tryz.func6, Tryz.ntmps6
  go_upto_region 1 with fail
  generalize w.alloc (.cells #[.int .i64 k, .int .i64 d, .int .i64 e] 41) = w1 at *
  go_wp2_with fail
  refine (AW.out w1).mono ?_
  rintro en w2 ⟨rfl, b2⟩
  have HX2 := Lib.hid (HX.out.below b2)
  have B2 := Lib.hid (HAL.out.trans (b2.mono HAL.out.size))
  have hs2 : w.heap.size < w2.heap.size := HX2.out.lt
  clear b2 AW HX HAL hs1
  have hal2 := (Below.refl w2.heap.size w2).alloc (Nat.le_refl _) (.cells nmA 9)
  obtain ⟨gN, hgN⟩ : ∃ gN, gN = w2.heap.size := ⟨_, rfl⟩
  have hN := Blk.new w2 9 nmA
  have HX3 := Lib.hid (HX2.out.below hal2)
  have B3 := Lib.hid (B2.out.trans (hal2.mono B2.out.size))
  rw [← hgN] at hN
  have HN := Lib.hid hN
  have HGN := Lib.hid hgN
  clear hal2 hN hgN HX2 B2
  unfold nmA at HX3 B3 HN
  go_upto_region 4 with fail
  rw [← HGN.out]
  generalize hw3 : w2.alloc (.cells _ 9) = w3 at *
  clear hw3
  have X0 : Hid (∀ W, Below w3.heap.size w3 W → W.cell? ⟨w.heap.size, 0, none⟩ = some (.int .i64 k) ∧ W.cell? ⟨w.heap.size, 1, none⟩ = some (.int .i64 d) ∧ W.cell? ⟨w.heap.size, 2, none⟩ = some (.int .i64 e)) := fun W m => ⟨(HX3.out.below m).cell 0, (HX3.out.below m).cell 1, (HX3.out.below m).cell 2⟩
  obtain ⟨x0, x1, x2⟩ := X0.out _ (Below.refl _ _)
  have FIN : ∀ (S : ByteArray) (kin : Bool), Hid (∀ W, Calls Tryz.prog 27 #[.int .i64 k] W fun en w' => en = .returned (.string S) ∧ Below W.heap.size W w') → True := fun _ _ _ => trivial
  by_cases hk : 0 ≤ k ∧ k < 11
  · obtain ⟨kn, rfl⟩ : ∃ kn : Nat, k = (kn : Int) := ⟨k.toNat, by omega⟩
    have hkn : kn < 11 := by omega
    have k1 : (kn : Int) < 11 := by omega
    have k0 : (0 : Int) ≤ (kn : Int) := by omega
    have d1 : decide ((kn : Int) < 11) = true := decide_eq_true k1
    obtain ⟨S, hS⟩ : ∃ S, S = nmS kn := ⟨_, rfl⟩
    have cN : w3.cell? ⟨gN, kn, none⟩ = some (.string S) := by
      have := HN.out.cell kn
      rw [this, hS]
      exact nmA_get hkn
    have NM : Hid (∀ W, Calls Tryz.prog 27 #[.int .i64 (kn : Int)] W fun en w' => en = .returned (.string S) ∧ Below W.heap.size W w') := fun W => by rw [hS]; exact kname_in kn W hkn
    have SE : Hid (S.toList.isEmpty = false) := by show _ = _; rw [hS]; exact nmS_some hkn
    have AE := Lib.hid (actE_in (k := (kn : Int)) sdL d e (by omega))
    clear hS hk HN FIN
    go_wp2_with fail
    refine (SN.out w3).mono ?_
    rintro en w4 ⟨rfl, b4⟩
    obtain ⟨y0, y1, y2⟩ := X0.out _ b4
    have B4 := Lib.hid b4
    clear b4 x0 x1 x2 cN SN
    have SD4 : Hid (∀ W, Below w4.heap.size w4 W → Calls Tryz.prog 22 #[] W fun en w' => ∃ g', en = .returned (.pointer (some ⟨g', 0, none⟩)) ∧ Hid (MapAt w' g' sdL sdL 0 0) ∧ Below w4.heap.size w4 w') := fun W m => (SD.out W).mono fun en w' ⟨g', q1, q2, q3⟩ => ⟨g', q1, q2, m.trans (q3.mono m.size)⟩
    have DO4 : Hid (∀ W g, MapAt W g sdL sdL 0 0 → Below w4.heap.size w4 W → Calls Tryz.prog 20 #[.pointer (some ⟨g, 0, none⟩), .agg #[.int .i64 (kn : Int), .int .i64 d, .int .i64 e]] W fun en w' => ∃ p X, en = .returned (.tuple #[.pointer p, .int .i64 X]) ∧ Below w4.heap.size w4 w' ∧ Hid (X = actE (kn : Int) sdL d e)) := fun W g h m => (DO.out W g h).mono fun en w' ⟨p, X, q1, q2, q3⟩ => ⟨p, X, q1, m.trans (q2.mono m.size), q3⟩
    have KH : Hid (∀ W, Below w4.heap.size w4 W → Below w4.heap.size w4 W ∧ W.cell? ⟨w.heap.size, 0, none⟩ = some (.int .i64 (kn : Int)) ∧ W.cell? ⟨w.heap.size, 1, none⟩ = some (.int .i64 d) ∧ W.cell? ⟨w.heap.size, 2, none⟩ = some (.int .i64 e)) := fun W m => ⟨m, X0.out W (B4.out.trans (m.mono B4.out.size))⟩
    have a0 := Below.refl w4.heap.size w4
    have a1 := a0.drew
    obtain ⟨-, v0, v1, v2⟩ := KH.out _ a1
    clear SD DO
    go_upto_region 8 with fail
    go_cut [7, 8] from 30 to 36 (fun pv xv wx => ∃ p X, pv = .pointer p ∧ xv = .int .i64 X ∧ Below w4.heap.size w4 wx ∧ Hid (X = actE (kn : Int) sdL d e))
    case first =>
      go_region_held3 (fun W => Below w4.heap.size w4 W ∧ W.cell? ⟨w.heap.size, 0, none⟩ = some (.int .i64 (kn : Int)) ∧ W.cell? ⟨w.heap.size, 1, none⟩ = some (.int .i64 d) ∧ W.cell? ⟨w.heap.size, 2, none⟩ = some (.int .i64 e)) (exact KH.out _ (by assumption)) (first
        | (go_at_call 22; (with_reducible refine (SD4.out _ (by assumption)).mono ?_); rintro en wa ⟨g, rfl, HMg, hba⟩)
        | (go_at_call 20; (with_reducible refine (DO4.out _ _ HMg.out (by assumption)).mono ?_); rintro en wb ⟨p, X, rfl, hbb, HXX⟩))
      all_goals (go_wp2_with fail)
      all_goals (go_meet)
      all_goals (exact ⟨_, _, rfl, rfl, hbb, HXX⟩)
    case rest =>
      obtain ⟨p, X, rfl, rfl, bc, HXX⟩ := hcut
      have hX := HXX.out
      obtain ⟨-, y0, y1, y2⟩ := KH.out _ bc
      have BC := Lib.hid (B4.out.trans (bc.mono B4.out.size))
      have X15 : X ≠ 15 := by rw [hX]; exact AE.out
      have Xb : ((X : Int) == 15) = false := by rw [beq_eq_false_iff_ne]; exact X15
      have Xd : decide (X = 15) = false := decide_eq_false X15
      have SEQ : S.toList.isEmpty = false := SE.out
      clear X15
      clear bc hX KH SD4 DO4 a0 a1 v0 v1 v2
      go_wp2_with fail
      refine (NM.out _).mono ?_
      rintro en w9 ⟨rfl, b9⟩
      have F := Lib.hid (B3.out.trans ((BC.out.trans (b9.mono BC.out.size)).mono B3.out.size))
      clear b9
      go_wp2_with fail
      go_ret
      exact ⟨rfl, F.out⟩
  · have NM : Hid (∀ W, Calls Tryz.prog 27 #[.int .i64 k] W fun en w' => en = .returned (.string ⟨#[]⟩) ∧ Below W.heap.size W w') := fun W => kname_out k W (by omega)
    have AE : Hid (actE k sdL d e = 15) := by show _ = _; unfold actE; rw [if_neg (by omega), if_neg (by omega), if_neg (by omega), if_neg (by omega)]
    have HK := Lib.hid hk
    clear HN FIN hk
    go_upto_region 5 with fail
    go_cut [19] from 12 to 20 (fun v wx => v = .bool false ∧ w3 = wx)
    case first =>
      by_cases k0 : 0 ≤ k
      · have d0 : decide (0 ≤ k) = true := decide_eq_true k0
        have k1 : ¬ k < 11 := fun c => HK.out ⟨k0, c⟩
        have d1 : decide (k < 11) = false := decide_eq_false k1
        go_wp2_with fail
        go_meet
        exact ⟨rfl, rfl⟩
      · have d0 : decide (0 ≤ k) = false := decide_eq_false k0
        go_wp2_with fail
        go_meet
        exact ⟨rfl, rfl⟩
    case rest =>
    obtain ⟨rfl, rfl⟩ := hcut
    obtain ⟨x0, x1, x2⟩ := X0.out _ (Below.refl _ _)
    clear HK
    go_wp2_with fail
    refine (SN.out _).mono ?_
    rintro en w4 ⟨rfl, b4⟩
    obtain ⟨y0, y1, y2⟩ := X0.out _ b4
    have B4 := Lib.hid b4
    clear b4 x0 x1 x2 SN
    have SD4 : Hid (∀ W, Below w4.heap.size w4 W → Calls Tryz.prog 22 #[] W fun en w' => ∃ g', en = .returned (.pointer (some ⟨g', 0, none⟩)) ∧ Hid (MapAt w' g' sdL sdL 0 0) ∧ Below w4.heap.size w4 w') := fun W m => (SD.out W).mono fun en w' ⟨g', q1, q2, q3⟩ => ⟨g', q1, q2, m.trans (q3.mono m.size)⟩
    have DO4 : Hid (∀ W g, MapAt W g sdL sdL 0 0 → Below w4.heap.size w4 W → Calls Tryz.prog 20 #[.pointer (some ⟨g, 0, none⟩), .agg #[.int .i64 k, .int .i64 d, .int .i64 e]] W fun en w' => ∃ p X, en = .returned (.tuple #[.pointer p, .int .i64 X]) ∧ Below w4.heap.size w4 w' ∧ Hid (X = actE k sdL d e)) := fun W g h m => (DO.out W g h).mono fun en w' ⟨p, X, q1, q2, q3⟩ => ⟨p, X, q1, m.trans (q2.mono m.size), q3⟩
    have KH : Hid (∀ W, Below w4.heap.size w4 W → Below w4.heap.size w4 W ∧ W.cell? ⟨w.heap.size, 0, none⟩ = some (.int .i64 k) ∧ W.cell? ⟨w.heap.size, 1, none⟩ = some (.int .i64 d) ∧ W.cell? ⟨w.heap.size, 2, none⟩ = some (.int .i64 e)) := fun W m => ⟨m, X0.out W (B4.out.trans (m.mono B4.out.size))⟩
    have a0 := Below.refl w4.heap.size w4
    have a1 := a0.drew
    obtain ⟨-, v0, v1, v2⟩ := KH.out _ a1
    clear SD DO
    go_upto_region 8 with fail
    go_cut [7, 8] from 30 to 36 (fun pv xv wx => ∃ p X, pv = .pointer p ∧ xv = .int .i64 X ∧ Below w4.heap.size w4 wx ∧ Hid (X = actE k sdL d e))
    case first =>
      go_region_held3 (fun W => Below w4.heap.size w4 W ∧ W.cell? ⟨w.heap.size, 0, none⟩ = some (.int .i64 k) ∧ W.cell? ⟨w.heap.size, 1, none⟩ = some (.int .i64 d) ∧ W.cell? ⟨w.heap.size, 2, none⟩ = some (.int .i64 e)) (exact KH.out _ (by assumption)) (first
        | (go_at_call 22; (with_reducible refine (SD4.out _ (by assumption)).mono ?_); rintro en wa ⟨g, rfl, HMg, hba⟩)
        | (go_at_call 20; (with_reducible refine (DO4.out _ _ HMg.out (by assumption)).mono ?_); rintro en wb ⟨p, X, rfl, hbb, HXX⟩))
      all_goals (go_wp2_with fail)
      all_goals (go_meet)
      all_goals (exact ⟨_, _, rfl, rfl, hbb, HXX⟩)
    case rest =>
      obtain ⟨p, X, rfl, rfl, bc, HXX⟩ := hcut
      have hX := HXX.out
      obtain ⟨-, y0, y1, y2⟩ := KH.out _ bc
      have BC := Lib.hid (B4.out.trans (bc.mono B4.out.size))
      have X15 : X = 15 := by rw [hX]; exact AE.out
      subst X15
      clear bc hX KH SD4 DO4 a0 a1 v0 v1 v2
      go_wp2_with fail
      refine (NM.out _).mono ?_
      rintro en w9 ⟨rfl, b9⟩
      have F := Lib.hid (B3.out.trans ((BC.out.trans (b9.mono BC.out.size)).mono B3.out.size))
      clear b9
      go_wp2_with fail
      go_ret
      exact ⟨rfl, F.out⟩
end Go.Proofs.YtgcbdoljapnecaaGreat
