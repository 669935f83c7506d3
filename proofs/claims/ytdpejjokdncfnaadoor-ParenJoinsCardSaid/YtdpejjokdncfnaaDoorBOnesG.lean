/- Ones: the library's count of one word, the vector's, the document's. -/
import Derived.Test.YtdpejjokdncfnaaDoorBPop
import Derived.Test.YtdpejjokdncfnaaDoorBOfG
import Derived.Test.YtdpejjokdncfnaaDoorBReadG
import Derived.Laws.BitsAllLaws
import Derived.Laws.Bits128
namespace Go.Proofs.YtdpejjokdncfnaaDoor
open Go.RowKit
set_option linter.unusedVariables false

set_option maxRecDepth 20000 in
set_option maxHeartbeats 1000000 in
theorem onesCount_p (x : Nat) (w : World) (hx : x < 2 ^ 64) :
    Calls Tryd.prog 59 #[.int .u64 (x : Int)] w fun e w' => e = .returned (.int .i64 ((pop x 64 : Nat) : Int)) ∧ w = w' := by
  obtain ⟨X1, X2, X3, X4, X5, X6, e1, e2, e3, e4, e5, e6, e7, e8, e9⟩ := swar x hx
  obtain ⟨A1, hA1⟩ : ∃ A1, A1 = x / 2 &&& 6148914691236517205 := ⟨_, rfl⟩
  obtain ⟨A2, hA2⟩ : ∃ A2, A2 = x &&& 6148914691236517205 := ⟨_, rfl⟩
  obtain ⟨B1, hB1⟩ : ∃ B1, B1 = X1 / 4 &&& 3689348814741910323 := ⟨_, rfl⟩
  obtain ⟨B2, hB2⟩ : ∃ B2, B2 = X1 &&& 3689348814741910323 := ⟨_, rfl⟩
  have a1 : A1 ≤ 6148914691236517205 := by rw [hA1]; exact Nat.and_le_right
  have a2 : A2 ≤ 6148914691236517205 := by rw [hA2]; exact Nat.and_le_right
  have b1 : B1 ≤ 3689348814741910323 := by rw [hB1]; exact Nat.and_le_right
  have b2 : B2 ≤ 3689348814741910323 := by rw [hB2]; exact Nat.and_le_right
  rw [← hA1, ← hA2] at e1
  rw [← hB1, ← hB2] at e2
  have g1 : bits .and .u64 ((x : Int) / 2) 6148914691236517205 = (A1 : Int) := by
    rw [hA1, show ((x : Int) / 2) = ((x / 2 : Nat) : Int) by omega]; exact u64_and_nat (x / 2) 6148914691236517205 (by omega) (by decide)
  have g2 : bits .and .u64 (x : Int) 6148914691236517205 = (A2 : Int) := by rw [hA2]; exact u64_and_nat x 6148914691236517205 hx (by decide)
  have g3 : (A1 : Int) + (A2 : Int) = (X1 : Int) := by omega
  have g4 : bits .and .u64 ((X1 : Int) / 4) 3689348814741910323 = (B1 : Int) := by
    rw [hB1, show ((X1 : Int) / 4) = ((X1 / 4 : Nat) : Int) by omega]; exact u64_and_nat (X1 / 4) 3689348814741910323 (by omega) (by decide)
  have g5 : bits .and .u64 (X1 : Int) 3689348814741910323 = (B2 : Int) := by rw [hB2]; exact u64_and_nat X1 3689348814741910323 (by omega) (by decide)
  have g6 : (B1 : Int) + (B2 : Int) = (X2 : Int) := by omega
  have g7 : bits .and .u64 ((X2 : Int) / 16 + (X2 : Int)) 1085102592571150095 = (X3 : Int) := by
    rw [e3, show ((X2 : Int) / 16 + (X2 : Int)) = ((X2 / 16 + X2 : Nat) : Int) by omega]; exact u64_and_nat (X2 / 16 + X2) 1085102592571150095 (by omega) (by decide)
  have g8 : (X3 : Int) + (X3 : Int) / 256 = (X4 : Int) := by omega
  have g9 : (X4 : Int) + (X4 : Int) / 65536 = (X5 : Int) := by omega
  have g10 : (X5 : Int) + (X5 : Int) / 4294967296 = (X6 : Int) := by omega
  have hx2 : X2 ≤ 7378697629483820646 := by omega
  have hx4 : X4 ≤ 1100000000000000000 := by omega
  have hx5 : X5 ≤ 1110000000000000000 := by omega
  have g11 : bits .and .i64 (X6 : Int) 127 = ((pop x 64 : Nat) : Int) := by rw [i64_and127, ← e7]; omega
  have hx' : x < 18446744073709551616 := hx
  have e9' : X6 < 2305843009213693952 := e9
  generalize pop x 64 = r at *
  clear e1 e2 e3 e4 e5 e6 e7 hA1 hA2 hB1 hB2 e9 hx
  go_enter Tryd.func59, Tryd.ntmps59
  go_wp2
  go_ret
  exact ⟨rfl, rfl⟩
theorem pop_le (x k : Nat) : pop x k ≤ k := by
  induction k with
  | zero => exact Nat.le_refl _
  | succ k ih =>
    rw [pop_add]
    have : pop (x / 2 ^ k) 1 ≤ 1 := by
      simp only [pop, numL, List.range_succ, List.range_zero, List.nil_append, List.map_cons, List.map_nil, List.sum_cons, List.sum_nil]
      omega
    omega
theorem pop_words (V k : Nat) : pop V (64 * (k + 1)) = pop V (64 * k) + pop (wd V k) 64 := by
  rw [Nat.mul_add, Nat.mul_one, pop_add]
  unfold wd
  rw [pop_mod]
theorem pop_all {V n m : Nat} (h : V < 2 ^ n) (hn : n ≤ m) : pop V m = pop V n := by
  obtain ⟨d, rfl⟩ := Nat.exists_eq_add_of_le hn
  rw [pop_add, Nat.div_eq_of_lt h, pop_zero, Nat.add_zero]
theorem pop_val {l : List Nat} (h : Bin l) : pop (val l) l.length = l.sum := by
  unfold pop
  rw [numL_val h _ (Nat.le_refl _), List.take_of_length_le (Nat.le_refl _)]
set_option maxRecDepth 20000 in
set_option maxHeartbeats 1000000 in
theorem ones_p (g V n B : Nat) (A : Option Addr) (w : World) (h : VecB w B g V n A) :
    Calls Tryd.prog 43 #[.pointer (some ⟨g, 0, none⟩)] w fun e w' => e = .returned (.int .i64 ((pop V n : Nat) : Int)) ∧ w = w' := by
  obtain ⟨hV, hn, c, hb, ho⟩ := h
  obtain ⟨m, hm⟩ : ∃ m, m = (n + 63) / 64 := ⟨_, rfl⟩
  have hm1 : m ≤ 1000000 := by omega
  have hall := pop_all hV (show n ≤ 64 * m by omega)
  rw [← hm] at hb ho
  rw [← hall]
  have s0 : w.cell? ⟨g, 0, none⟩ = some (.slice A m c) := hb.cell 0
  have R := Lib.hid (Rd.ofOwn ho)
  clear hb ho hm hV hall
  go_enter Tryd.func43, Tryd.ntmps43
  go_wp2_with fail
  go_loopw [3, 13] (fun x i wr => ∃ k q : Nat, k ≤ m ∧ i = .int .i64 (k : Int) ∧ Hid (q = pop V (64 * k)) ∧ q ≤ 64 * k ∧ x = .int .i64 (q : Int) ∧ wr = w) (fun _ i _ => m - (intOf i).toNat)
  case atStart => exact ⟨0, 0, by omega, rfl, rfl, by omega, rfl, rfl⟩
  case round =>
    obtain ⟨k, q, hk, rfl, hq, hqk, rfl, rfl⟩ := hrel
    by_cases hlt : k < m
    · obtain ⟨b, o, rfl, _, k1⟩ := R.out.u64 (by omega)
      have t1 := k1 k hlt
      rw [words_get _ _ _ hlt] at t1
      have OC := Lib.hid (onesCount_p (wd V k) wr (wd_lt V k))
      have hp := pop_le (wd V k) 64
      have hq2 : Hid (q + pop (wd V k) 64 = pop V (64 * (k + 1))) := by show _ = _; rw [pop_words, ← hq.out]
      clear k1
      generalize pop (wd V k) 64 = y at *
      generalize wd V k = x at *
      go_wp2_with fail
      refine OC.out.mono ?_
      rintro e w2 ⟨rfl, rfl⟩
      go_wp2_with fail
      go_roundw
      case rel => exact ⟨k + 1, q + y, by omega, by go_num, hq2, by omega, by go_num, trivial⟩
      case measure => simp [intOf]; omega
    · obtain rfl : k = m := by omega
      go_wp2_with fail
      go_ret
      exact ⟨by rw [← hq.out]; rfl, rfl⟩
theorem sum_next (l : List Nat) (k : Nat) (h : k < l.length) : (l.take (k + 1)).sum = (l.take k).sum + l.getD k 0 := by
  rw [← List.take_append_getElem h, List.sum_append, List.getD_eq_getElem?_getD, List.getElem?_eq_getElem h]; simp
theorem sum_le {l : List Nat} (h : Bin l) (k : Nat) : (l.take k).sum ≤ k := by
  induction k with
  | zero => simp
  | succ k ih =>
    by_cases hk : k < l.length
    · rw [sum_next l k hk]; have := h.getD k; omega
    · rw [List.take_of_length_le (by omega)] at ih ⊢; omega
end Go.Proofs.YtdpejjokdncfnaaDoor
