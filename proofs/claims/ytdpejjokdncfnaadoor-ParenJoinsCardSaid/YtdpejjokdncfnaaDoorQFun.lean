/- has, isFar, bitOn, blocksFor, nodesFor. -/
import Derived.Test.YtdpejjokdncfnaaDoorQNode
namespace Go.Proofs.YtdpejjokdncfnaaDoor
open Go.RowKit
set_option linter.unusedVariables false
set_option maxRecDepth 20000
section
variable (w : World)
theorem fld_sum (a b : Value) (W : World) : (Instr.field 82 (.agg #[a, b]) 0).run Tryd.prog W = .ok a W := by
  simp [Instr.field, run_underlying Tryd.underlying82, run_underlying Tryd.underlying21, asAgg, part, isAgg]
theorem fld_nd (p : Int × Int) (W : World) : (Instr.field 82 (ndv p) 0).run Tryd.prog W = .ok (.int .i32 p.1) W := fld_sum _ _ W
theorem isFar_f (x : Nat) (hx : x ≤ 10000000) :
    Calls Tryd.prog 73 #[.int .i64 (x : Int), .int .i64 1] w fun e w' => e = .returned (.bool (decide (x % 2 = 1))) ∧ w = w' := by
  by_cases h : x % 2 = 1
  · have e1 : (x : Int) % 2 = 1 := by omega
    have hd : decide (x % 2 = 1) = true := decide_eq_true h
    rw [hd]
    clear h hd
    go_enter Tryd.func73, Tryd.ntmps73
    go_wp2
    go_ret
    exact ⟨rfl, rfl⟩
  · have e1 : (x : Int) % 2 = 0 := by omega
    have hd : decide (x % 2 = 1) = false := decide_eq_false h
    rw [hd]
    clear h hd
    go_enter Tryd.func73, Tryd.ntmps73
    go_wp2
    go_ret
    exact ⟨rfl, rfl⟩
theorem isFar_b (x : Nat) (hx : x ≤ 10000000) :
    Calls Tryd.prog 73 #[.int .i64 (x : Int), .int .i64 (-1)] w fun e w' => e = .returned (.bool (decide (x % 2 = 0))) ∧ w = w' := by
  by_cases h : x % 2 = 1
  · have e1 : (x : Int) % 2 = 1 := by omega
    have hd : decide (x % 2 = 0) = false := decide_eq_false (by omega)
    rw [hd]
    clear h hd
    go_enter Tryd.func73, Tryd.ntmps73
    go_wp2
    go_ret
    exact ⟨rfl, rfl⟩
  · have e1 : (x : Int) % 2 = 0 := by omega
    have hd : decide (x % 2 = 0) = true := decide_eq_true (by omega)
    rw [hd]
    clear h hd
    go_enter Tryd.func73, Tryd.ntmps73
    go_wp2
    go_ret
    exact ⟨rfl, rfl⟩
theorem has_f (p : Int × Int) (x m : Int) (hp : Fits p) (hx : -2000000 ≤ x ∧ x ≤ 2000000) :
    Calls Tryd.prog 72 #[ndv p, .int .i64 1, .int .i64 x, .int .i64 m] w fun e w' => e = .returned (.bool (decide (x + p.2 ≤ m))) ∧ Below w.heap.size w w' := by
  obtain ⟨s, l⟩ := p
  obtain ⟨a1, a2, a3, a4, _⟩ := hp
  simp only at a1 a2 a3 a4
  unfold ndv
  go_enter Tryd.func72, Tryd.ntmps72
  go_wp2
  go_ret
  exact ⟨rfl, (Below.refl _ _).alloc (Nat.le_refl _) _⟩
theorem has_b (p : Int × Int) (x m : Int) (hp : Fits p) (hx : -2000000 ≤ x ∧ x ≤ 2000000) :
    Calls Tryd.prog 72 #[ndv p, .int .i64 (-1), .int .i64 x, .int .i64 m] w fun e w' => e = .returned (.bool (decide (x - p.1 + p.2 ≤ m))) ∧ Below w.heap.size w w' := by
  obtain ⟨s, l⟩ := p
  obtain ⟨a1, a2, a3, a4, _⟩ := hp
  simp only at a1 a2 a3 a4
  unfold ndv
  go_enter Tryd.func72, Tryd.ntmps72
  go_wp2
  go_ret
  exact ⟨rfl, (Below.refl _ _).alloc (Nat.le_refl _) _⟩
theorem bitOn_f (x : Int) :
    Calls Tryd.prog 47 #[.int .i64 x, .int .i64 1] w fun e w' => e = .returned (.int .i64 x) ∧ w = w' := by
  go_enter Tryd.func47, Tryd.ntmps47
  go_wp2
  go_ret
  exact ⟨rfl, rfl⟩
theorem bitOn_b (x : Int) (hx : 0 ≤ x) (hx9 : x ≤ 10000000) :
    Calls Tryd.prog 47 #[.int .i64 x, .int .i64 (-1)] w fun e w' => e = .returned (.int .i64 (x - 1)) ∧ w = w' := by
  go_enter Tryd.func47, Tryd.ntmps47
  go_wp2
  go_ret
  exact ⟨rfl, rfl⟩
theorem blocksFor_p (n : Nat) (hn : n ≤ 10000000) :
    Calls Tryd.prog 35 #[.int .i64 (n : Int)] w fun e w' => e = .returned (.int .i64 (((n + 511) / 512 : Nat) : Int)) ∧ w = w' := by
  have e1 : ((n : Int) + 512 - 1) / 512 = (((n + 511) / 512 : Nat) : Int) := by omega
  generalize (n + 511) / 512 = r at *
  have E1 := Lib.hid e1
  clear e1
  go_enter Tryd.func35, Tryd.ntmps35
  go_wp2
  go_ret
  exact ⟨congrArg (fun z => Ending.returned (.int .i64 z)) E1.out, rfl⟩
/-- H: so many times two are enough for b leaves, and no less. -/
def Lvs (b H : Nat) : Prop := b ≤ 2 ^ H ∧ ∀ h, h < H → 2 ^ h < b
theorem Lvs.uniq {b H K : Nat} (h : Lvs b H) (k : Lvs b K) : H = K := by
  rcases Nat.lt_trichotomy H K with x | x | x
  · have := k.2 H x; have := h.1; omega
  · exact x
  · have := h.2 K x; have := k.1; omega
theorem Lvs.le {b H : Nat} (h : Lvs b H) (hb : b ≤ 4096) : 2 ^ H ≤ 8192 := by
  cases H with
  | zero => decide
  | succ H => have := h.2 H (by omega); rw [Nat.pow_succ]; omega
theorem nodesFor_p (b : Nat) (hb : b ≤ 4096) :
    Calls Tryd.prog 39 #[.int .i64 (b : Int)] w fun e w' => ∃ H L M : Nat, e = .returned (.int .i64 (M : Int)) ∧ M + 1 = 2 * L ∧ 1 ≤ L ∧ L ≤ 8192 ∧ L = 2 ^ H ∧ Lvs b H ∧ w = w' := by
  go_enter Tryd.func39, Tryd.ntmps39
  go_wp2
  go_loop [3] (fun x => ∃ H L : Nat, x = .int .i64 (L : Int) ∧ L ≤ 8192 ∧ 1 ≤ L ∧ Hid (L = 2 ^ H ∧ ∀ h, h < H → 2 ^ h < b)) (fun x => (b - (intOf x).toNat))
  case atStart => exact ⟨0, 1, rfl, by omega, by omega, ⟨rfl, fun h hh => by omega⟩⟩
  case round =>
    obtain ⟨H, L, rfl, hL, hL1, hh⟩ := hrel
    by_cases hlt : L < b
    · have hn : Hid (L * 2 = 2 ^ (H + 1) ∧ ∀ h, h < H + 1 → 2 ^ h < b) := ⟨by rw [Nat.pow_succ, ← hh.out.1], fun h k => by
        by_cases e : h = H
        · rw [e, ← hh.out.1]; exact hlt
        · exact hh.out.2 h (by omega)⟩
      clear hh
      go_wp2
      go_round
      case rel => exact ⟨H + 1, L * 2, by go_num, by omega, by omega, hn⟩
      case measure => simp [intOf]; omega
    · go_wp2
      go_ret
      exact ⟨H, L, 2 * L - 1, congrArg (fun z => Ending.returned (.int .i64 z)) (by omega), by omega, hL1, hL, hh.out.1, ⟨by rw [← hh.out.1]; omega, hh.out.2⟩, rfl⟩
end
end Go.Proofs.YtdpejjokdncfnaaDoor
