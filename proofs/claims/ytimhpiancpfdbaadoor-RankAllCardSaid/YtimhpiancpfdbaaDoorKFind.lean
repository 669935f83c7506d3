/- Select's closure, and sort.Search over it. -/
import Derived.Test.YtimhpiancpfdbaaDoorKPlace
namespace Go.Proofs.YtimhpiancpfdbaaDoor
open Go.RowKit
set_option linter.unusedVariables false

/-- Whether behind block j enough bits are bit. -/
def Pst (bit : Int) (V n k j : Nat) : Bool := decide (k < cb bit V (min (512 * (j + 1)) n))
theorem pst_mono {bit : Int} {V n k i j : Nat} (h : i ≤ j) (hi : Pst bit V n k i = true) : Pst bit V n k j = true := by
  unfold Pst at *
  rw [decide_eq_true_eq] at *
  have := cb_mono bit V (show min (512 * (i + 1)) n ≤ min (512 * (j + 1)) n by omega)
  omega
structure Caps (w : World) (g : Nat) (k : Int) (b : Nat) (bit : Int) : Prop where
  c0 : w.cell? ⟨b, 0, none⟩ = some (.pointer (some ⟨g, 0, none⟩))
  c1 : w.cell? ⟨b + 1, 0, none⟩ = some (.int .i64 bit)
  c2 : w.cell? ⟨b + 2, 0, none⟩ = some (.int .i64 k)
theorem Caps.drewN {w : World} {g b : Nat} {k bit : Int} (h : Caps w g k b bit) (n : Nat) : Caps (w.drewN n) g k b bit := ⟨h.c0, h.c1, h.c2⟩
theorem IdxAt.drewN {w : World} {g V n q : Nat} {d : Bool} (h : IdxAt w g V n d q) (m : Nat) : IdxAt (w.drewN m) g V n d q := h.below (below_draws (Below.refl _ _) m)
theorem pst_p (g V n q k b j : Nat) (bit : Int) (w : World) (h : IdxAt w g V n true q) (hc : Caps w g k b bit) (hj : j < blk n) :
    Calls Tryd.prog 32 #[.int .i64 (j : Int), .pointer (some ⟨b, 0, none⟩), .pointer (some ⟨b + 1, 0, none⟩), .pointer (some ⟨b + 2, 0, none⟩)] w fun e w' => e = .returned (.bool (Pst bit V n k j)) ∧ ∃ m, w' = w.drewN m := by
  have AO := Lib.hid (fun m => aheadOf_p g V n q (j + 1) bit (w.drewN m) (h.drewN m) (by omega))
  obtain ⟨c0, c1, c2⟩ := hc
  have hn : n ≤ 1000000 := h.2.1
  have hj9 : j ≤ 1000000 := by unfold blk at hj; omega
  unfold Pst
  have hcl := cb_le bit V (min (512 * (j + 1)) n)
  clear h hj
  have hc9 : cb bit V (min (512 * (j + 1)) n) ≤ 1000000 := by omega
  clear hcl
  generalize cb bit V (min (512 * (j + 1)) n) = s at *
  go_enter Tryd.func32, Tryd.ntmps32
  go_wp2_with fail
  go_quiet ((go_at_call 33; exact Calls.quiet_of_same ((AO.out _).mono fun e w' ⟨he, hw⟩ => ⟨he, hw.symm⟩)))
  go_wp2
  go_ret
  exact ⟨rfl, _, rfl⟩
theorem search_p (g V n q k b : Nat) (bit : Int) (w : World) (h : IdxAt w g V n true q) (hc : Caps w g k b bit) :
    Calls Tryd.prog 30 #[.int .i64 ((blk n : Nat) : Int), .func (.func 32) #[] #[.pointer (some ⟨b, 0, none⟩), .pointer (some ⟨b + 1, 0, none⟩), .pointer (some ⟨b + 2, 0, none⟩)]] w
      fun e w' => ∃ r m : Nat, e = .returned (.int .i64 (r : Int)) ∧ r ≤ blk n ∧ (∀ x, x < r → Pst bit V n k x = false) ∧ (∀ x, r ≤ x → x < blk n → Pst bit V n k x = true) ∧ w' = w.drewN m := by
  have PP : Hid (∀ j m, j < blk n → Calls Tryd.prog 32 #[.int .i64 (j : Int), .pointer (some ⟨b, 0, none⟩), .pointer (some ⟨b + 1, 0, none⟩), .pointer (some ⟨b + 2, 0, none⟩)] (w.drewN m) fun e w' => e = .returned (.bool (Pst bit V n k j)) ∧ ∃ m', w' = w.drewN m') := fun j m hj =>
    (pst_p g V n q k b j bit (w.drewN m) (h.drewN m) (hc.drewN m) hj).mono fun e w' ⟨he, m', hw⟩ => ⟨he, m + m', by rw [hw]; exact World.drewN_drewN _ _ _⟩
  have hn : n ≤ 1000000 := h.2.1
  obtain ⟨s, hs⟩ : ∃ s, s = blk n := ⟨_, rfl⟩
  have hs9 : s ≤ 1000000 := by unfold blk at hs; omega
  rw [← hs] at PP ⊢
  clear h hc hs
  go_enter Tryd.func30, Tryd.ntmps30
  go_wp2_with fail
  go_loopw [5, 6] (fun i j wr => ∃ a c m : Nat, a ≤ c ∧ c ≤ s ∧ i = .int .i64 (a : Int) ∧ j = .int .i64 (c : Int) ∧ Hid (∀ x, x < a → Pst bit V n k x = false) ∧ Hid (∀ x, c ≤ x → x < s → Pst bit V n k x = true) ∧ wr = w.drewN m) (fun i j _ => (intOf j).toNat - (intOf i).toNat)
  case atStart => exact ⟨0, s, 0, by omega, by omega, rfl, rfl, fun x hx => absurd hx (by omega), fun x h1 h2 => absurd h1 (by omega), rfl⟩
  case round =>
    obtain ⟨a, c, m, hac, hcs, rfl, rfl, hlo, hhi, rfl⟩ := hrel
    by_cases hlt : a < c
    · obtain ⟨t, ht, hat, htc⟩ : ∃ t : Nat, ((a : Int) + (c : Int)) / 2 = (t : Int) ∧ a ≤ t ∧ t < c := ⟨(a + c) / 2, by omega, by omega, by omega⟩
      have PT := Lib.hid (PP.out t m (by omega))
      have MN : Hid (∀ x y, x ≤ y → Pst bit V n k x = true → Pst bit V n k y = true) := fun x y h1 h2 => pst_mono h1 h2
      cases hpt : Pst bit V n k t with
      | true =>
        rw [hpt] at PT
        have NH : Hid (∀ x, t ≤ x → x < s → Pst bit V n k x = true) := fun x h1 _ => MN.out t x h1 hpt
        clear hpt
        go_wp2_with fail
        refine PT.out.mono ?_
        rintro e w2 ⟨rfl, m2, rfl⟩
        go_wp2_with fail
        go_roundw
        case rel => exact ⟨a, t, m2, hat, by omega, rfl, rfl, hlo.out, NH.out, rfl⟩
        case measure => simp [intOf]; omega
      | false =>
        rw [hpt] at PT
        have NL : Hid (∀ x, x < t + 1 → Pst bit V n k x = false) := fun x hx => by
          cases hx2 : Pst bit V n k x with
          | false => rfl
          | true => rw [MN.out x t (by omega) hx2] at hpt; cases hpt
        clear hpt
        go_wp2_with fail
        refine PT.out.mono ?_
        rintro e w2 ⟨rfl, m2, rfl⟩
        go_wp2_with fail
        go_roundw
        case rel => exact ⟨t + 1, c, m2, by omega, hcs, by go_num, rfl, NL.out, hhi.out, rfl⟩
        case measure => simp [intOf]; omega
    · obtain rfl : a = c := by omega
      go_wp2_with fail
      go_ret
      exact ⟨a, m, rfl, hcs, hlo.out, hhi.out, rfl⟩
end Go.Proofs.YtimhpiancpfdbaaDoor
