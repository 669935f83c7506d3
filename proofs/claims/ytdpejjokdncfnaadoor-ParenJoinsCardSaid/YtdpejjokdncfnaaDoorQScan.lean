/- scan: on from a place, to the edge of its block at most. -/
import Derived.Test.YtdpejjokdncfnaaDoorQOnce
namespace Go.Proofs.YtdpejjokdncfnaaDoor
open Go.RowKit
set_option linter.unusedVariables false
set_option maxRecDepth 20000
def ScanF (w : World) (p g V n q : Nat) (d : Bool) (i : Nat) (m : Int) (e : Ending) (w' : World) : Prop :=
  PAt w' p g V n d (q + 1) ∧ Mod (fun i => i = g) w w' ∧ ∃ j : Nat,
    (e = .returned (.tuple #[.int .i64 (j : Int), .bool true]) ∧ Fwd (exc V) i n m j) ∨
    (e = .returned (.tuple #[.int .i64 (j : Int), .bool false]) ∧ j = 512 * (i / 512 + 1) ∧ j < n ∧ ∀ k, i < k → k ≤ j → m < exc V k)
def ScanB (w : World) (p g V n q : Nat) (d : Bool) (a : Nat) (m : Int) (e : Ending) (w' : World) : Prop :=
  PAt w' p g V n d (q + 1) ∧ Mod (fun i => i = g) w w' ∧ ∃ j : Nat,
    (e = .returned (.tuple #[.int .i64 (j : Int), .bool true]) ∧ Bwd (exc V) a m j) ∨
    (e = .returned (.tuple #[.int .i64 (j : Int), .bool false]) ∧ j = 512 * ((a - 1) / 512) ∧ 0 < j ∧ ∀ k, j ≤ k → k < a → m < exc V k)
section
variable (p g V n q : Nat) (d : Bool) (w : World)
set_option maxHeartbeats 4000000 in
theorem scan_f (i : Nat) (m : Int) (h : PAt w p g V n d q) (hB : Bal (exc V) n) (hi : i < n) (hm : 0 ≤ m) (hq : q ≤ 1000000) :
    Calls Tryd.prog 49 #[.pointer (some ⟨p, 0, none⟩), .int .i64 (i : Int), .int .i64 1, .int .i64 m] w (ScanF w p g V n q d i m) := by
  have hn := h.n9
  have EX := Lib.hid (excess_p p g V n q d w i h (by omega) hq)
  have HB := Lib.hid hB
  have HE := Lib.hid (exc_Exc V)
  have BO := Lib.hid fun w' (j : Nat) => bitOn_f w' (j : Int)
  obtain ⟨b, hb, hb2⟩ : ∃ b : Nat, (i : Int) / 512 = (b : Int) ∧ b = i / 512 := ⟨i / 512, by omega, rfl⟩
  have HB2 := Lib.hid hb2
  have hbi : 512 * b ≤ i ∧ i < 512 * (b + 1) := by omega
  clear h hB hb2
  go_enter Tryd.func49, Tryd.ntmps49
  go_wp2_with (go_at_call 47; refine (BO.out _ _).mono ?_; rintro e w' ⟨rfl, rfl⟩)
  refine EX.out.mono ?_
  rintro e w2 ⟨rfl, h2, m2⟩
  have H2 := Lib.hid h2
  have M2 := Lib.hid m2
  have hbd := HE.out.bound i
  obtain ⟨y0, hy0⟩ : ∃ y0, exc V i = y0 := ⟨_, rfl⟩
  rw [hy0] at hbd ⊢
  have HY0 := Lib.hid hy0
  clear h2 m2 EX hy0
  go_wp2_with fail
  have HBQ := Lib.hid hb
  clear hb
  go_loop [1, 11] (fun v z => ∃ (j : Nat) (y : Int), v = .int .i64 (j : Int) ∧ z = .int .i64 y ∧ i ≤ j ∧ j < n ∧ j ≤ 512 * (b + 1) ∧ -1000000 ≤ y ∧ y ≤ 1000000 ∧ Hid (exc V j = y) ∧ Hid (∀ k, i < k → k ≤ j → m < exc V k)) (fun v _ => n - (intOf v).toNat)
  case atStart => exact ⟨i, y0, rfl, rfl, by omega, by omega, by omega, by omega, by omega, HY0.out, fun k h1 h2 => by omega⟩
  case round =>
    clear hbd HY0
    obtain ⟨j, y, rfl, rfl, hij, hjn, hjb, hy1, hy2, hy, hab⟩ := hrel
    by_cases hin : j < 512 * (b + 1)
    · have e1 : (j : Int) / 512 = (b : Int) := by omega
      have CH := Lib.hid (change_f p g V n (q + 1) w2 j H2.out.ix hjn)
      obtain ⟨s, hs⟩ : ∃ s, exc V (j + 1) - exc V j = s := ⟨_, rfl⟩
      rw [hs] at CH
      have hst := HE.out.step j
      have hs1 : -1 ≤ s ∧ s ≤ 1 := by omega
      have HS : Hid (exc V (j + 1) = y + s) := by show _ = _; have := hy.out; omega
      have hbd := HE.out.bound (j + 1)
      rw [HS.out] at hbd
      clear hs hst
      by_cases hle : y + s ≤ m
      · have FW : Hid (Fwd (exc V) i n m (j + 1)) := ⟨by omega, by omega, by rw [HS.out]; exact hle, fun k h1 h2 => hab.out k h1 (by omega)⟩
        go_wp2_with (first
          | (go_at_call 47; refine (BO.out _ _).mono ?_; rintro e w' ⟨rfl, rfl⟩)
          | (go_at_call 28; refine CH.out.mono ?_; rintro e w' ⟨rfl, rfl⟩))
        go_ret2
        exact ⟨H2.out, M2.out, j + 1, .inl ⟨by rfl, FW.out⟩⟩
      · have HAB : Hid (∀ k, i < k → k ≤ j + 1 → m < exc V k) := fun k h1 h2 => by
          by_cases e : k = j + 1
          · rw [e, HS.out]; omega
          · exact hab.out k h1 (by omega)
        have hjn2 : j + 1 < n := by
          rcases Nat.lt_or_ge (j + 1) n with g | g
          · exact g
          · exfalso
            have e : j + 1 = n := by omega
            have h0 := HB.out.2
            rw [← e, HS.out] at h0
            omega
        have hdec : decide (y + s ≤ m) = false := decide_eq_false hle
        clear hle
        go_wp2_with (first
          | (go_at_call 47; refine (BO.out _ _).mono ?_; rintro e w' ⟨rfl, rfl⟩)
          | (go_at_call 28; refine CH.out.mono ?_; rintro e w' ⟨rfl, rfl⟩))
        go_round
        case rel => exact ⟨j + 1, y + s, by go_num, rfl, by omega, by omega, by omega, by omega, by omega, HS.out, HAB.out⟩
        case measure => simp [intOf]; omega
    · have hjj : j = 512 * (b + 1) := by omega
      have e1 : (j : Int) / 512 = (b : Int) + 1 := by omega
      have e2 : ((b : Int) + 1 == (b : Int)) = false := by rw [beq_eq_false_iff_ne]; omega
      have HJJ := Lib.hid hjj
      clear hjj hin
      go_wp2_with (go_at_call 47; refine (BO.out _ _).mono ?_; rintro e w' ⟨rfl, rfl⟩)
      go_ret2
      exact ⟨H2.out, M2.out, j, .inr ⟨by rfl, by rw [← HB2.out, HJJ.out], by omega, hab.out⟩⟩
set_option maxHeartbeats 4000000 in
theorem scan_b (a : Nat) (m : Int) (h : PAt w p g V n d q) (ha : 0 < a) (han : a ≤ n) (hm : 0 ≤ m) (hq : q ≤ 1000000) :
    Calls Tryd.prog 49 #[.pointer (some ⟨p, 0, none⟩), .int .i64 (a : Int), .int .i64 (-1), .int .i64 m] w (ScanB w p g V n q d a m) := by
  have hn := h.n9
  have EX := Lib.hid (excess_p p g V n q d w a h (by omega) hq)
  have HE := Lib.hid (exc_Exc V)
  obtain ⟨i, rfl⟩ : ∃ i, a = i + 1 := ⟨a - 1, by omega⟩
  have BO := Lib.hid fun w' (j : Nat) (hj : j ≤ 1000000) => bitOn_b w' ((j : Int) + 1) (by omega) (by omega)
  obtain ⟨b, hb, hb2⟩ : ∃ b : Nat, (i : Int) / 512 = (b : Int) ∧ b = i / 512 := ⟨i / 512, by omega, rfl⟩
  have HB2 := Lib.hid hb2
  have hbi : 512 * b ≤ i ∧ i < 512 * (b + 1) := by omega
  have ei : ∀ j : Nat, (j : Int) + 1 - 1 = (j : Int) := fun j => by omega
  rw [show ((i + 1 : Nat) : Int) = (i : Int) + 1 by omega] at EX ⊢
  have B1 := Lib.hid fun w' => BO.out w' i (by omega)
  rw [ei] at B1
  clear h hb2 ei
  go_enter Tryd.func49, Tryd.ntmps49
  go_wp2_with (go_at_call 47; refine (B1.out _).mono ?_; rintro e w' ⟨rfl, rfl⟩)
  refine EX.out.mono ?_
  rintro e w2 ⟨rfl, h2, m2⟩
  have H2 := Lib.hid h2
  have M2 := Lib.hid m2
  have hbd := HE.out.bound (i + 1)
  obtain ⟨y0, hy0⟩ : ∃ y0, exc V (i + 1) = y0 := ⟨_, rfl⟩
  rw [hy0] at hbd ⊢
  have HY0 := Lib.hid hy0
  clear h2 m2 EX hy0
  go_wp2_with fail
  have HBQ := Lib.hid hb
  clear hb
  go_loop [1, 11] (fun v z => ∃ (j : Nat) (y : Int), v = .int .i64 ((j : Int) + 1) ∧ z = .int .i64 y ∧ j ≤ i ∧ 512 * b ≤ j + 1 ∧ -1000000 ≤ y ∧ y ≤ 1000000 ∧ Hid (exc V (j + 1) = y) ∧ Hid (∀ k, j + 1 ≤ k → k < i + 1 → m < exc V k)) (fun v _ => (intOf v).toNat)
  case atStart => exact ⟨i, y0, rfl, rfl, by omega, by omega, by omega, by omega, HY0.out, fun k h1 h2 => by omega⟩
  case round =>
    clear hbd HY0 B1
    obtain ⟨j, y, rfl, rfl, hij, hjb, hy1, hy2, hy, hab⟩ := hrel
    have B2 := Lib.hid fun w' => BO.out w' j (by omega)
    rw [show (j : Int) + 1 - 1 = (j : Int) by omega] at B2
    by_cases hin : 512 * b ≤ j
    · have e1 : (j : Int) / 512 = (b : Int) := by omega
      have CH := Lib.hid (change_b p g V n (q + 1) w2 j H2.out.ix (by omega))
      obtain ⟨s, hs⟩ : ∃ s, exc V j - exc V (j + 1) = s := ⟨_, rfl⟩
      rw [hs] at CH
      have hst := HE.out.step j
      have hs1 : -1 ≤ s ∧ s ≤ 1 := by omega
      have HS : Hid (exc V j = y + s) := by show _ = _; have := hy.out; omega
      have hbd := HE.out.bound j
      rw [HS.out] at hbd
      have ej : (j : Int) + 1 + -1 = (j : Int) := by omega
      clear hs hst
      by_cases hle : y + s ≤ m
      · have FW : Hid (Bwd (exc V) (i + 1) m j) := ⟨by omega, by rw [HS.out]; exact hle, fun k h1 h2 => hab.out k (by omega) h2⟩
        go_wp2_with (first
          | (go_at_call 47; refine (B2.out _).mono ?_; rintro e w' ⟨rfl, rfl⟩)
          | (go_at_call 28; refine CH.out.mono ?_; rintro e w' ⟨rfl, rfl⟩))
        go_ret2
        exact ⟨H2.out, M2.out, j, .inl ⟨by rfl, FW.out⟩⟩
      · have HAB : Hid (∀ k, j ≤ k → k < i + 1 → m < exc V k) := fun k h1 h2 => by
          by_cases e : k = j
          · rw [e, HS.out]; omega
          · exact hab.out k (by omega) h2
        have hj0 : 0 < j := by
          rcases Nat.eq_zero_or_pos j with g | g
          · exfalso
            have h0 := HE.out.zero
            rw [← g, HS.out] at h0
            omega
          · exact g
        obtain ⟨j', rfl⟩ : ∃ j', j = j' + 1 := ⟨j - 1, by omega⟩
        have hdec : decide (y + s ≤ m) = false := decide_eq_false hle
        clear hle
        go_wp2_with (first
          | (go_at_call 47; refine (B2.out _).mono ?_; rintro e w' ⟨rfl, rfl⟩)
          | (go_at_call 28; refine CH.out.mono ?_; rintro e w' ⟨rfl, rfl⟩))
        go_round
        case rel => exact ⟨j', y + s, congrArg (Value.int .i64) (by omega), rfl, by omega, by omega, by omega, by omega, HS.out, HAB.out⟩
        case measure => simp [intOf]; omega
    · have hj1 : j + 1 = 512 * b := by omega
      obtain ⟨b', rfl⟩ : ∃ b', b = b' + 1 := ⟨b - 1, by omega⟩
      have e1 : (j : Int) / 512 = (b' : Int) := by omega
      have e2 : ((b' : Int) == (b' : Int) + 1) = false := by rw [beq_eq_false_iff_ne]; omega
      have HJ1 := Lib.hid hj1
      clear hj1
      go_wp2_with (go_at_call 47; refine (B2.out _).mono ?_; rintro e w' ⟨rfl, rfl⟩)
      go_ret2
      exact ⟨H2.out, M2.out, j + 1, .inr ⟨by rfl, by rw [HJ1.out, HB2.out]; rfl, by omega, hab.out⟩⟩
end
end Go.Proofs.YtdpejjokdncfnaaDoor
