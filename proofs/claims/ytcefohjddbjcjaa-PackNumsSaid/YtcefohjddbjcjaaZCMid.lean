/- The middle of a span; where a way to double takes a number. -/
import Derived.Test.YtcefohjddbjcjaaZCSpan
namespace Go.Proofs.Ytcefohjddbjcjaa
set_option maxRecDepth 20000
open Go.RowKit
set_option linter.unusedVariables false

theorem wrap_u64n (n : Nat) (h : n < 18446744073709551616) : IntKind.u64.wrap (n : Int) = (n : Int) := by
  simp [IntKind.wrap, IntKind.signed, IntKind.bits]; omega
theorem wrap_u64e {x : Int} {n : Nat} (e : x = (n : Int)) (h : n < 18446744073709551616) : IntKind.u64.wrap x = (n : Int) := by
  rw [e]; exact wrap_u64n n h
set_option maxHeartbeats 1000000 in
theorem mid_p (g lo hi z o : Nat) (w : World) (h : SpanAt w g lo hi) (hn : wayOf lo hi = none) (hlt : hi < 4294967296) (hz : 1 ≤ z) (ho : 1 ≤ o) (hs : z + o < 65536) :
    Calls Try.prog 50 #[.pointer (some ⟨g, 0, none⟩), .agg #[.int .u64 (z : Int), .int .u64 (o : Int)]] w fun e w' => e = .returned (.int .u64 ((midOf lo hi z o : Nat) : Int)) ∧ Below w.heap.size w w' := by
  obtain ⟨m0, m1, m2⟩ := mid_in hn hz ho hs
  have hw := wayOf_none hn
  obtain ⟨M, hM⟩ : ∃ M, M = midOf lo hi z o := ⟨_, rfl⟩
  obtain ⟨R, hR⟩ : ∃ R, R = hi - lo + 1 := ⟨_, rfl⟩
  obtain ⟨D, hD⟩ : ∃ D, D = hi - lo := ⟨_, rfl⟩
  obtain ⟨T, hT⟩ : ∃ T, T = z + o := ⟨_, rfl⟩
  obtain ⟨PP, hPP⟩ : ∃ PP, PP = R * z := ⟨_, rfl⟩
  obtain ⟨Q, hQ⟩ : ∃ Q, Q = PP / T := ⟨_, rfl⟩
  have hPb : PP ≤ 4294967296 * 65536 := by rw [hPP]; exact Nat.mul_le_mul (by omega) (by omega)
  have hQ2 : Q = (hi - lo + 1) * z / (z + o) := by rw [hQ, hPP, hR, hT]
  have hMQ : M = lo + Q - 1 := by rw [hM, midOf, ← hQ2]
  rw [← hQ2] at m0
  rw [← hM] at m1 m2
  have e1 : IntKind.u64.wrap ((hi : Int) - (lo : Int)) = (D : Int) := wrap_u64e (by omega) (by omega)
  have e2 : IntKind.u64.wrap ((D : Int) + 1) = (R : Int) := wrap_u64e (by omega) (by omega)
  have e3 : IntKind.u64.wrap ((R : Int) * (z : Int)) = (PP : Int) := wrap_u64e (by rw [hPP]; simp) (by omega)
  have e4 : (PP : Int).tdiv (T : Int) = (Q : Int) := by rw [hQ, Int.tdiv_eq_ediv_of_nonneg (by omega)]; simp
  have e4b : IntKind.u64.wrap (Q : Int) = (Q : Int) := wrap_u64n Q (by omega)
  have e5 : IntKind.u64.wrap ((lo : Int) + (Q : Int)) = ((lo + Q : Nat) : Int) := wrap_u64e (by simp) (by omega)
  obtain ⟨U, hU⟩ : ∃ U, U = lo + Q := ⟨_, rfl⟩
  rw [← hU] at e5
  have e6 : IntKind.u64.wrap ((U : Int) - 1) = (M : Int) := wrap_u64e (by omega) (by omega)
  have e7 : ((T : Int) == 0) = false := by rw [beq_eq_false_iff_ne]; omega
  have e8 : ¬ T = 0 := by omega
  have e9 : ¬ (T : Int) = 0 := by omega
  have AP : Hid (∀ W, Calls Try.prog 60 #[.agg #[.int .u64 (z : Int), .int .u64 (o : Int)]] W fun e w' => e = .returned (.int .u64 (T : Int)) ∧ Below W.heap.size W w') := fun W => by
    rw [hT]; exact all_p z o W (by omega) (by omega)
  have c0 : w.cell? ⟨g, 0, none⟩ = some (.int .u64 (lo : Int)) := Blk.cell h 0
  have c1 : w.cell? ⟨g, 1, none⟩ = some (.int .u64 (hi : Int)) := Blk.cell h 1
  have hg : g < w.heap.size := Blk.lt h
  rw [← hM]
  have HG := Lib.hid hg
  clear hPb hQ2 hMQ m0 m1 m2 hw hn hlt hz ho hs hM hR hD hT hPP hQ hU h hg
  go_enter Try.func50, Try.ntmps50
  go_wp2_with fail
  have b0 := (Below.refl w.heap.size w).alloc (Nat.le_refl _) (.cells #[.int .u64 (z : Int), .int .u64 (o : Int)] 86)
  have bk := Blk.new w 86 #[.int .u64 (z : Int), .int .u64 (o : Int)]
  have d0 : (w.alloc (.cells #[.int .u64 (z : Int), .int .u64 (o : Int)] 86)).cell? ⟨g, 0, none⟩ = some (.int .u64 (lo : Int)) := (b0.cell (p := ⟨g, 0, none⟩) HG.out).trans c0
  have d1 : (w.alloc (.cells #[.int .u64 (z : Int), .int .u64 (o : Int)] 86)).cell? ⟨g, 1, none⟩ = some (.int .u64 (hi : Int)) := (b0.cell (p := ⟨g, 1, none⟩) HG.out).trans c1
  have d2 : (w.alloc (.cells #[.int .u64 (z : Int), .int .u64 (o : Int)] 86)).cell? ⟨w.heap.size, 0, none⟩ = some (.int .u64 (z : Int)) := bk.cell 0
  have d3 : (w.alloc (.cells #[.int .u64 (z : Int), .int .u64 (o : Int)] 86)).cell? ⟨w.heap.size, 1, none⟩ = some (.int .u64 (o : Int)) := bk.cell 1
  have hsz : w.heap.size < (w.alloc (.cells #[.int .u64 (z : Int), .int .u64 (o : Int)] 86)).heap.size := by simp
  have B0 := Lib.hid b0
  clear b0 bk c0 c1
  generalize (w.alloc (.cells #[.int .u64 (z : Int), .int .u64 (o : Int)] 86)) = w1 at *
  generalize hq : w.heap.size = q at *
  have HQ := Lib.hid hq
  clear hq
  have SK : Hid (∀ W, Below w1.heap.size w1 W → Below w1.heap.size w1 W ∧ W.cell? ⟨g, 0, none⟩ = some (.int .u64 (lo : Int)) ∧ W.cell? ⟨g, 1, none⟩ = some (.int .u64 (hi : Int)) ∧ W.cell? ⟨q, 0, none⟩ = some (.int .u64 (z : Int)) ∧ W.cell? ⟨q, 1, none⟩ = some (.int .u64 (o : Int))) := by
    have hg := HG.out
    exact fun W m => ⟨m, (m.cell (p := ⟨g, 0, none⟩) (by show g < _; omega)).trans d0, (m.cell (p := ⟨g, 1, none⟩) (by show g < _; omega)).trans d1, (m.cell (p := ⟨q, 0, none⟩) hsz).trans d2, (m.cell (p := ⟨q, 1, none⟩) hsz).trans d3⟩
  have K1 : Hid (∀ W, Below w1.heap.size w1 W → Calls Try.prog 60 #[.agg #[.int .u64 (z : Int), .int .u64 (o : Int)]] W fun e w' => e = .returned (.int .u64 (T : Int)) ∧ Below w1.heap.size w1 w') :=
    fun W m => (AP.out W).mono fun e w' ⟨he, hb⟩ => ⟨he, m.trans (hb.mono m.size)⟩
  have K2 : Hid (∀ W, Below w1.heap.size w1 W → Calls Try.prog 59 #[.agg #[.int .u64 (z : Int), .int .u64 (o : Int)]] W fun e w' => e = .returned (.int .u64 (z : Int)) ∧ Below w1.heap.size w1 w') :=
    fun W m => (noughts_p z o W).mono fun e w' ⟨he, hb⟩ => ⟨he, m.trans (hb.mono m.size)⟩
  have h0 : Below w1.heap.size w1 w1.drew := (Below.refl _ _).drew
  have e0 := SK.out _ h0
  clear AP
  go_region_held3 (fun w' => Below w1.heap.size w1 w' ∧ w'.cell? ⟨g, 0, none⟩ = some (.int .u64 (lo : Int)) ∧ w'.cell? ⟨g, 1, none⟩ = some (.int .u64 (hi : Int)) ∧ w'.cell? ⟨q, 0, none⟩ = some (.int .u64 (z : Int)) ∧ w'.cell? ⟨q, 1, none⟩ = some (.int .u64 (o : Int)))
    (exact SK.out _ (by assumption))
    (first
    | (go_at_call 60; (with_reducible refine (K1.out _ (by assumption)).mono ?_); rintro e wa ⟨rfl, hba⟩)
    | (go_at_call 59; (with_reducible refine (K2.out _ (by assumption)).mono ?_); rintro e wa ⟨rfl, hba⟩))
  all_goals (
    go_wp2_with fail
    go_ret
    exact ⟨rfl, by have := B0.out; rw [← HQ.out] at this; refine this.trans (Below.mono ?_ this.size); assumption⟩)
/-- Where a way to double takes a number: numbers wrap. -/
def dblW (x w : Nat) : Nat := ((2 * ((x : Int) - (w : Int) * 1073741824)) % 18446744073709551616).toNat
theorem dblW_eq {x w : Nat} (h : w * 1073741824 ≤ x) (hx : x < 4294967296) : dblW x w = dbl x w := by unfold dblW dbl; omega
theorem dblW_int (x w : Nat) : ((dblW x w : Nat) : Int) = (2 * ((x : Int) - (w : Int) * 1073741824)) % 18446744073709551616 := by unfold dblW; omega
theorem dblW_lt (x w : Nat) : dblW x w < 18446744073709551616 := by have := dblW_int x w; omega
theorem wrap_mod (x : Int) : IntKind.u64.wrap x = x % 18446744073709551616 := by simp [IntKind.wrap, IntKind.signed, IntKind.bits]
theorem doubled_p (x k : Nat) (w : World) (hk : k ≤ 2) :
    Calls Try.prog 61 #[.int .u64 (x : Int), .int .i64 (k : Int)] w fun e w' => e = .returned (.int .u64 ((dblW x k : Nat) : Int)) ∧ w = w' := by
  have e1 : IntKind.u64.wrap (k : Int) = (k : Int) := wrap_u64n k (by omega)
  have e2 : IntKind.u64.wrap ((k : Int) * 1073741824) = ((k * 1073741824 : Nat) : Int) := wrap_u64e (by omega) (by omega)
  obtain ⟨y, hy⟩ : ∃ y, y = k * 1073741824 := ⟨_, rfl⟩
  rw [← hy] at e2
  have e3 : IntKind.u64.wrap ((x : Int) - (y : Int)) = (((((x : Int) - (y : Int)) % 18446744073709551616).toNat : Nat) : Int) := by rw [wrap_mod]; omega
  obtain ⟨d, hd⟩ : ∃ d, d = ((((x : Int) - (y : Int)) % 18446744073709551616).toNat) := ⟨_, rfl⟩
  rw [← hd] at e3
  have e4 : IntKind.u64.wrap (2 * (d : Int)) = ((dblW x k : Nat) : Int) := by rw [wrap_mod, dblW_int]; omega
  generalize dblW x k = q at *
  clear hd hy hk
  go_enter Try.func61, Try.ntmps61
  go_wp2
  go_ret
  exact ⟨by rfl, rfl⟩
end Go.Proofs.Ytcefohjddbjcjaa
