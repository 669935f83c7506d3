/- Right: steps that are the walk. -/
import Derived.Test.YtgohdhmijfajfaaWAwake
import Derived.BigQuiet
namespace Go.Proofs.Ytgohdhmijfajfaa
set_option maxRecDepth 20000
open Go.RowKit
set_option linter.unusedVariables false
set_option maxHeartbeats 4000000 in
theorem equalS_p (A1 A2 : Option Addr) (c1 c2 n B1 B2 : Nat) (L : List Int) (w : World) (h1 : RdS w B1 A1 n L) (h2 : RdS w B2 A2 n L) (hb1 : B1 ≤ w.heap.size) (hb2 : B2 ≤ w.heap.size) (hn : n ≤ 1000000) :
    Calls Try.prog 34 #[.slice A1 n c1, .slice A2 n c2] w fun e w' => e = .returned (.bool true) ∧ Below w.heap.size w w' := by
  have H1 := Lib.hid (h1.up hb1)
  have H2 := Lib.hid (h2.up hb2)
  clear h1 h2
  go_enter Try.func34, Try.ntmps34
  go_wp2_with fail
  go_loopw [13] (fun i wr => ∃ (k : Nat), k ≤ n ∧ i = .int .i64 (k : Int) ∧ Hid (Below w.heap.size w wr)) (fun i _ => n - (intOf i).toNat)
  case atStart => exact ⟨0, by omega, rfl, Below.refl _ _⟩
  case round =>
    obtain ⟨k, hk, rfl, HB⟩ := hrel
    by_cases hlt : k < n
    · obtain ⟨g1, rfl, _, k1⟩ := (H1.out.below HB.out).2 (show 0 < n by omega)
      obtain ⟨g2, rfl, _, k2⟩ := (H2.out.below HB.out).2 (show 0 < n by omega)
      have hdk : decide (k < n) = true := by rw [decide_eq_true_iff]; exact hlt
      have a0 := k1 (k * 2) (by omega)
      have a1 := k1 (k * 2 + 1) (by omega)
      have b0 := k2 (k * 2) (by omega)
      have b1 := k2 (k * 2 + 1) (by omega)
      clear k1 k2
      generalize L.getD (k * 2) 0 = v0 at *
      generalize L.getD (k * 2 + 1) 0 = v1 at *
      go_wp2_with fail
      go_quiet (fail)
      go_wp2_with fail
      go_roundw
      case rel => exact ⟨k + 1, by omega, by go_num, below_draws HB.out _⟩
      case measure => simp [intOf]; omega
    · obtain rfl : k = n := by omega
      have hdk : decide (k < k) = false := by simp
      go_wp2_with fail
      go_ret
      exact ⟨rfl, HB.out⟩
theorem right_out (g : Nat) (l b : List Nat) (root lone i : Int) (v : Value) (w : World) (h : MapAt w g l b root lone) (hi : i < 0 ∨ (l.length : Int) ≤ i) :
    Calls Try.prog 11 #[.pointer (some ⟨g, 0, none⟩), .int .i64 i, v] w fun e w' => e = .returned (.bool false) ∧ Below w.heap.size w w' := by
  have OP := Lib.hid (walkOf_out g l b root lone i w h hi)
  clear h hi
  go_enter Try.func11, Try.ntmps11
  go_wp2_with fail
  refine OP.out.mono ?_
  rintro e w1 ⟨rfl, z⟩
  go_wp2_with fail
  go_ret
  exact ⟨rfl, z⟩
set_option maxHeartbeats 2000000 in
theorem right_p (g : Nat) (l b : List Nat) (root lone : Int) (r m V : Nat) (A1 : Option Addr) (c1 B : Nat) (w : World) (h : MapAt w g l b root lone) (hi : Inv l b) (hr : r < l.length) (hm : m = l.length / 2) (hV : (V : Int) = ((sizes l).length : Int) + lone)
    (hs : RdS w B A1 (wN (sgL l) (nameOf l) m V r) (wst (sgL l) (nameOf l) m V r (wN (sgL l) (nameOf l) m V r))) (hB : B ≤ w.heap.size) (hN : wN (sgL l) (nameOf l) m V r ≤ 1000000) :
    Calls Try.prog 11 #[.pointer (some ⟨g, 0, none⟩), .int .i64 (r : Int), .slice A1 (wN (sgL l) (nameOf l) m V r) c1] w fun e w' => e = .returned (.bool true) ∧ Below w.heap.size w w' := by
  have OP := Lib.hid (walkOf_p g l b root lone r m V w h hi hr hm hV)
  have HS := Lib.hid hs
  clear h hi hr hm hV hs
  generalize wst (sgL l) (nameOf l) m V r (wN (sgL l) (nameOf l) m V r) = L at *
  generalize wN (sgL l) (nameOf l) m V r = N at *
  go_enter Try.func11, Try.ntmps11
  go_wp2_with fail
  refine OP.out.mono ?_
  rintro e w1 ⟨A, c, rfl, own, z⟩
  have EP := Lib.hid (equalS_p A1 A c1 c N _ _ L w1 (HS.out.below (z.mono hB)) (RdS.own own) (Nat.le_trans hB z.size) (Nat.le_refl _) hN)
  have Z := Lib.hid z
  clear own z
  go_wp2_with fail
  refine EP.out.mono ?_
  rintro e w2 ⟨rfl, z⟩
  have Z2 := Lib.hid (Z.out.trans (z.mono Z.out.size))
  clear z
  go_wp2_with fail
  go_ret
  exact ⟨rfl, Z2.out⟩
end Go.Proofs.Ytgohdhmijfajfaa
