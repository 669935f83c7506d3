/- Cut and Join. -/
import Derived.Test.YtladmlhpemhahaaBLike
namespace Go.Proofs.Ytladmlhpemhahaa
open Go.RowKit
set_option linter.unusedVariables false

theorem cut_out (g V n B : Nat) (A : Option Addr) (i j : Int) (w : World) (h : VecB w B g V n A) (ho : i < 0 ∨ j < i ∨ (n : Int) < j) :
    Calls Try.prog 28 #[.pointer (some ⟨g, 0, none⟩), .int .i64 i, .int .i64 j] w fun e w' => e = .returned (.tuple #[.pointer none, .int .i64 1]) ∧ w = w' := by
  obtain ⟨_, hn, c, hb, _⟩ := h
  have c1 : w.cell? ⟨g, 1, none⟩ = some (.int .i64 (n : Int)) := hb.cell 1
  clear hb
  by_cases h1 : i < 0
  · go_enter Try.func28, Try.ntmps28
    go_wp2
    go_ret2
    exact ⟨rfl, rfl⟩
  · by_cases h2 : j < i
    · go_enter Try.func28, Try.ntmps28
      go_wp2
      go_ret2
      exact ⟨rfl, rfl⟩
    · have h3 : (n : Int) < j := by omega
      clear ho
      go_enter Try.func28, Try.ntmps28
      go_wp2
      go_ret2
      exact ⟨rfl, rfl⟩
theorem chunk (l : List Nat) (f d k : Nat) : (((l.drop f).take d).drop (64 * k)).take 64 = (l.drop (f + 64 * k)).take (min 64 (d - 64 * k)) := by
  rw [List.drop_take, List.take_take, List.drop_drop]
theorem min_64' (t a : Nat) (ha : a < t) (ht : t ≤ 1000000) : ∃ s : Nat, Hid (s = min 64 (t - a)) ∧ 1 ≤ s ∧ s ≤ 64 ∧ ∀ w, (Builtin.min_ #[3, 3] 3 #[.int .i64 64, .int .i64 ((t : Int) - (a : Int))]).run Try.prog w = .ok (.int .i64 (s : Int)) w := by
  refine ⟨min 64 (t - a), rfl, by omega, by omega, fun w => ?_⟩
  simp [Builtin.min_, Builtin.min2]
  repeat' split
  all_goals omega
set_option maxHeartbeats 2000000 in
theorem cut_p (g : Nat) (l : List Nat) (B f t : Nat) (A : Option Addr) (w : World) (h : VecB w B g (val l) l.length A) (hb : Bin l) (hft : f ≤ t) (htl : t ≤ l.length) (hl9 : l.length + 64 ≤ 1000000) :
    Calls Try.prog 28 #[.pointer (some ⟨g, 0, none⟩), .int .i64 (f : Int), .int .i64 (t : Int)] w
      fun e w' => ∃ h A', e = .returned (.tuple #[.pointer (some ⟨h, 0, none⟩), .int .i64 0]) ∧ VecAt w' h (val ((l.drop f).take (t - f))) (t - f) A' ∧ w.heap.size ≤ h ∧ Below w.heap.size w w' := by
  have c1 : w.cell? ⟨g, 1, none⟩ = some (.int .i64 (l.length : Int)) := by obtain ⟨_, hn, c, hb, _⟩ := h; exact hb.cell 1
  obtain ⟨X, hX⟩ : ∃ X, X = (l.drop f).take (t - f) := ⟨_, rfl⟩
  have hXl : X.length = t - f := by rw [hX, List.length_take, List.length_drop]; omega
  have HC : Hid (∀ k, (X.drop (64 * k)).take 64 = (l.drop (f + 64 * k)).take (min 64 (t - f - 64 * k))) := fun k => by rw [hX]; exact chunk l f (t - f) k
  have HXB : Hid (Bin X) := by show Bin X; rw [hX]; exact (hb.drop f).take _
  have NW := Lib.hid (bnew_p w)
  have H := Lib.hid h
  have HB := Lib.hid hb
  have HXL := Lib.hid hXl
  have g1 : ¬ (t : Int) < (f : Int) := by omega
  have g2 : ¬ (l.length : Int) < (t : Int) := by omega
  have hf9 : f ≤ 1000000 := by omega
  have ht9 : t + 64 ≤ 1000000 := by omega
  rw [← hX]
  clear h hb hX hXl
  go_enter Try.func28, Try.ntmps28
  go_wp2_with fail
  refine NW.out.mono ?_
  rintro e w1 ⟨rfl, hv1, hb1⟩
  have HV1 := Lib.hid hv1
  have HB1 := Lib.hid hb1
  clear hv1 hb1 c1 NW
  go_wp2_with fail
  go_loopw [9] (fun x wr => ∃ (k : Nat) (Ak : Option Addr), 64 * k ≤ t - f + 64 ∧ x = .int .i64 ((f + 64 * k : Nat) : Int) ∧ Hid (VecAt wr w.heap.size (val (X.take (64 * k))) (X.take (64 * k)).length Ak) ∧ Hid (Below w.heap.size w wr)) (fun x _ => t + 64 - (intOf x).toNat)
  case atStart => exact ⟨0, none, by omega, rfl, by show VecAt _ _ _ _ _; have := HV1.out; simpa [val] using this, HB1.out⟩
  case round =>
    obtain ⟨k, Ak, hk, rfl, hvk, hbl⟩ := hrel
    obtain ⟨a, ha⟩ : ∃ a, a = f + 64 * k := ⟨_, rfl⟩
    rw [← ha]
    by_cases hlt : a < t
    · obtain ⟨s, hs, hs1, hs64, hmin⟩ := min_64' t a hlt (by omega)
      have hCk := HC.out k
      rw [← ha, show t - f - 64 * k = t - a by omega, ← hs.out] at hCk
      have GT := get_p g (val l) l.length a s A wr (H.out.below hbl.out) hs1 hs64 (by have := hs.out; omega)
      have hval : val l / 2 ^ a % 2 ^ s = val ((X.drop (64 * k)).take 64) := by rw [hCk, val_take (HB.out.drop a), val_drop HB.out]
      rw [hval] at GT
      have GH := Lib.hid GT
      have hcb := (HXB.out.drop (64 * k)).take 64
      have hcl : ((X.drop (64 * k)).take 64).length = s := by rw [List.length_take, List.length_drop, HXL.out]; have := hs.out; omega
      have hv64 : val ((X.drop (64 * k)).take 64) < 2 ^ 64 := Nat.lt_of_lt_of_le (val_lt hcb) (Nat.pow_le_pow_right (by omega) (by omega))
      have hta : X.take (64 * (k + 1)) = X.take (64 * k) ++ (X.drop (64 * k)).take 64 := by rw [Nat.mul_add, Nat.mul_one]; exact List.take_add
      have NM := num_p w.heap.size (val (X.take (64 * k))) (X.take (64 * k)).length (val ((X.drop (64 * k)).take 64)) (s : Int) Ak wr hvk.out hv64 (by omega) (by rw [List.length_take, HXL.out]; omega)
      have hpv := put_val (l := X.take (64 * k)) hcb
      rw [hcl] at hpv
      rw [cnt64_nat hs64, hpv, ← hta, show (X.take (64 * k)).length + s = (X.take (64 * (k + 1))).length by rw [hta, List.length_append, hcl]] at NM
      have NMH := Lib.hid NM
      have hlt' : (a : Int) < (t : Int) := by omega
      have HA := Lib.hid ha
      clear GT hval hcb hcl hta NM hpv hCk ha
      generalize val ((X.drop (64 * k)).take 64) = y at *
      go_wp2_with fail
      refine GH.out.mono ?_
      rintro e w2 ⟨rfl, rfl⟩
      go_wp2_with fail
      refine NMH.out.mono ?_
      rintro e w2 hp
      have hb2 := hp.below hvk.out
      obtain ⟨rfl, A2, hv2, _, _⟩ := hp
      have hb3 : Below w.heap.size w w2 := hbl.out.trans hb2
      go_wp2_with fail
      go_roundw
      case rel => exact ⟨k + 1, A2, by have := HA.out; omega, by have := HA.out; congr 1; omega, hv2, hb3⟩
      case measure => simp [intOf]; omega
    · have e1 : X.take (64 * k) = X := List.take_of_length_le (by rw [HXL.out]; omega)
      rw [e1, HXL.out] at hvk
      have hlt' : ¬ (a : Int) < (t : Int) := by omega
      clear e1 ha
      go_wp2_with fail
      go_ret2
      exact ⟨_, rfl, ⟨Ak, hvk.out⟩, Nat.le_refl _, hbl.out⟩
end Go.Proofs.Ytladmlhpemhahaa
