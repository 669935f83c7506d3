/- The library's Equal of words. -/
import Derived.Test.YtcefohjddbjcjaaZBSeqG
import Derived.Test.YtcefohjddbjcjaaZInts
namespace Go.Proofs.Ytcefohjddbjcjaa
open Go.RowKit
set_option linter.unusedVariables false
set_option maxHeartbeats 400000 in
theorem equalU (A1 A2 : Option Addr) (n c m d B1 B2 : Nat) (x y : List Nat) (w : World) (h1 : Rd w B1 A1 n (U64 x)) (h2 : Rd w B2 A2 m (U64 y)) (hn : n ≤ 9223372036854775807) (hm : m ≤ 9223372036854775807) :
    Calls Try.prog 32 #[.slice A1 n c, .slice A2 m d] w fun e w' => e = .returned (.bool (decide (x = y))) ∧ ∃ k, w' = w.drewN k := by
  have l1 : x.length = n := by rw [← h1.len, U64_len]
  have l2 : y.length = m := by rw [← h2.len, U64_len]
  by_cases hnm : n = m
  · subst hnm
    have L1 := Lib.hid l1
    have L2 := Lib.hid l2
    clear l1 l2
    go_enter Try.func32, Try.ntmps32
    go_wp2
    go_loopw [13] (fun i wr => ∃ k j : Nat, k ≤ n ∧ i = .int .i64 k ∧ Hid (∀ j, j < k → x.getD j 0 = y.getD j 0) ∧ wr = w.drewN j) (fun i _ => n - (intOf i).toNat)
    case atStart => exact ⟨0, 0, by omega, rfl, fun j hj => absurd hj (by omega), rfl⟩
    case round =>
      obtain ⟨k, j, hk, rfl, hsame, rfl⟩ := hrel
      by_cases hlt : k < n
      · obtain ⟨b1, o1, rfl, _, k1⟩ := h1.u64 (by omega)
        obtain ⟨b2, o2, rfl, _, k2⟩ := h2.u64 (by omega)
        have t1 := k1 k hlt
        have t2 := k2 k hlt
        have hkn : (k : Int) < (n : Int) := by omega
        clear k1 k2
        by_cases heq : x.getD k 0 = y.getD k 0
        · have hb : (((x.getD k 0 : Nat) : Int) != ((y.getD k 0 : Nat) : Int)) = false := by rw [heq]; simp
          have HE := Lib.hid heq
          clear heq
          generalize hx : x.getD k 0 = xv at *
          generalize hy : y.getD k 0 = yv at *
          have HX := Lib.hid hx
          have HY := Lib.hid hy
          clear hx hy
          go_wp2
          go_quiet (fail)
          go_wp2
          go_roundw
          case rel =>
            refine ⟨k + 1, j + nq, by omega, by go_num, fun i hi => ?_, rfl⟩
            by_cases e : i = k
            · subst e; rw [HX.out, HY.out]; exact HE.out
            · exact hsame.out i (by omega)
          case measure => simp [intOf]; omega
        · have hb : (((x.getD k 0 : Nat) : Int) != ((y.getD k 0 : Nat) : Int)) = true := by rw [bne_iff_ne]; omega
          have hxy : decide (x = y) = false := decide_eq_false fun e => heq (by rw [e])
          have HXY := Lib.hid hxy
          clear hxy heq
          generalize x.getD k 0 = xv at *
          generalize y.getD k 0 = yv at *
          go_wp2
          go_quiet (fail)
          go_wp2
          go_ret
          exact ⟨by rw [HXY.out]; rfl, j + nq, by first | rfl | exact World.drewN_drewN _ _ _⟩
      · obtain rfl : k = n := by omega
        have hxy : decide (x = y) = true := decide_eq_true (getDN_ext (by rw [L1.out, L2.out]) (by rw [L1.out]; exact hsame.out))
        have HXY := Lib.hid hxy
        clear hxy
        go_wp2
        go_ret
        exact ⟨by rw [HXY.out]; rfl, j, rfl⟩
  · have hb : ((n : Int) != (m : Int)) = true := by rw [bne_iff_ne]; omega
    have hxy : decide (x = y) = false := decide_eq_false fun e => hnm (by rw [← l1, ← l2, e])
    have HXY := Lib.hid hxy
    clear hxy l1 l2 hnm
    go_enter Try.func32, Try.ntmps32
    go_wp2
    go_ret
    exact ⟨by rw [HXY.out]; rfl, 0, rfl⟩
end Go.Proofs.Ytcefohjddbjcjaa
