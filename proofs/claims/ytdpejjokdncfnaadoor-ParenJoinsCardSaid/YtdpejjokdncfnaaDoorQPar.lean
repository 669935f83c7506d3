/- Parentheses in memory; Len, Open, change, Excess. -/
import Derived.Test.YtdpejjokdncfnaaDoorQTreeOf
import Derived.Test.YtdpejjokdncfnaaDoorKOff1
import Derived.Test.YtdpejjokdncfnaaDoorKRank2
namespace Go.Proofs.YtdpejjokdncfnaaDoor
open Go.RowKit
set_option linter.unusedVariables false
set_option maxRecDepth 20000
/-- How many more open than close ahead of the place i. -/
def exc (V i : Nat) : Int := 2 * ((pop V i : Nat) : Int) - (i : Int)
theorem exc_next (V i : Nat) : exc V (i + 1) = exc V i + (2 * ((V / 2 ^ i % 2 : Nat) : Int) - 1) := by
  unfold exc
  have h : pop V (i + 1) = pop V i + V / 2 ^ i % 2 := by
    rw [pop_add]
    congr 1
    simp [pop, numL, List.range_succ]
  omega
theorem exc_Exc (V : Nat) : Exc (exc V) := ⟨by unfold exc; simp [pop, numL], fun i => by have := exc_next V i; omega⟩
/-- The directory's tree. -/
def TDir (w : World) (p V n : Nat) (d : Bool) (H : Value) : Prop :=
  match d with
  | false => H = .slice none 0 0
  | true => ∃ S M K T, p < S ∧ H = .slice (some ⟨S, 0, none⟩) M M ∧ Blk w S 82 (ndArr T M) ∧ TreeOK (exc V) n K (fun x => T (x - 1)) ∧ M + 1 = 2 * 2 ^ K ∧ Lvs ((n + 511) / 512) K
/-- At p lie the parentheses whose bits the index at g is of; d: is the directory made; q: how often the index was asked, at most. -/
def PAt (w : World) (p g V n : Nat) (d : Bool) (q : Nat) : Prop :=
  g < p ∧ (∃ r k, k ≤ q ∧ IdxAt w g V n r k) ∧ ∃ H, Blk w p 76 #[.pointer (some ⟨g, 0, none⟩), .int .u32 (b01 d), .int .i32 0, .int .u32 0, H, .int .i64 (b01 d)] ∧ TDir w p V n d H
theorem TDir.mod {w w' : World} {S : Nat → Prop} {p V n : Nat} {d : Bool} {H : Value} (h : TDir w p V n d H) (m : Mod S w w') (hs : ∀ i, S i → i ≤ p) : TDir w' p V n d H := by
  cases d with
  | false => exact h
  | true =>
    obtain ⟨S', M, K, T, h1, h2, h3, h4⟩ := h
    exact ⟨S', M, K, T, h1, h2, h3.mod m fun hx => by have := hs S' hx; omega, h4⟩
theorem PAt.below {w w' : World} {p g V n q : Nat} {d : Bool} (h : PAt w p g V n d q) (m : Below w.heap.size w w') : PAt w' p g V n d q := by
  obtain ⟨h1, ⟨r, k, hk, hx⟩, H, hb, ht⟩ := h
  exact ⟨h1, ⟨r, k, hk, hx.below m⟩, H, hb.below m, ht.mod (Mod.none_ m (fun _ => False)) fun _ h => h.elim⟩
theorem PAt.ask {w w' : World} {p g V n q k : Nat} {d r : Bool} (h : PAt w p g V n d q) (hx : IdxAt w' g V n r (k + 1)) (hk : k ≤ q) (m : Mod (fun i => i = g) w w') : PAt w' p g V n d (q + 1) := by
  obtain ⟨h1, _, H, hb, ht⟩ := h
  exact ⟨h1, ⟨r, k + 1, by omega, hx⟩, H, hb.mod m (by omega), ht.mod m fun i hi => by omega⟩
theorem PAt.le {w : World} {p g V n q q' : Nat} {d : Bool} (h : PAt w p g V n d q) (hq : q ≤ q') : PAt w p g V n d q' := by
  obtain ⟨h1, ⟨r, k, hk, hx⟩, h2⟩ := h
  exact ⟨h1, ⟨r, k, by omega, hx⟩, h2⟩
theorem PAt.idx {w : World} {p g V n q : Nat} {d : Bool} (h : PAt w p g V n d q) : w.cell? ⟨p, 0, none⟩ = some (.pointer (some ⟨g, 0, none⟩)) := by
  obtain ⟨_, _, H, hb, _⟩ := h
  exact hb.cell 0
theorem PAt.lt {w : World} {p g V n q : Nat} {d : Bool} (h : PAt w p g V n d q) : p < w.heap.size := by
  obtain ⟨_, _, H, hb, _⟩ := h
  exact hb.lt
theorem PAt.n9 {w : World} {p g V n q : Nat} {d : Bool} (h : PAt w p g V n d q) : n ≤ 1000000 := by
  obtain ⟨_, ⟨r, k, hk, hx⟩, _⟩ := h
  exact hx.2.1
/-- At p stands whose index it is; whatever else. -/
def PIx (w : World) (p g V n q : Nat) : Prop := g < p ∧ (∃ r k, k ≤ q ∧ IdxAt w g V n r k) ∧ w.cell? ⟨p, 0, none⟩ = some (.pointer (some ⟨g, 0, none⟩))
theorem PAt.ix {w : World} {p g V n q : Nat} {d : Bool} (h : PAt w p g V n d q) : PIx w p g V n q := ⟨h.1, h.2.1, h.idx⟩
theorem PIx.idx {w : World} {p g V n q : Nat} (h : PIx w p g V n q) : w.cell? ⟨p, 0, none⟩ = some (.pointer (some ⟨g, 0, none⟩)) := h.2.2
theorem PIx.lt {w : World} {p g V n q : Nat} (h : PIx w p g V n q) : p < w.heap.size := World.block_lt_of_cell? _ _ h.2.2
theorem PIx.n9 {w : World} {p g V n q : Nat} (h : PIx w p g V n q) : n ≤ 1000000 := by
  obtain ⟨_, ⟨r, k, hk, hx⟩, _⟩ := h
  exact hx.2.1
theorem PIx.below {w w' : World} {p g V n q : Nat} (h : PIx w p g V n q) (m : Below w.heap.size w w') : PIx w' p g V n q := by
  obtain ⟨h1, ⟨r, k, hk, hx⟩, h3⟩ := h
  exact ⟨h1, ⟨r, k, hk, hx.below m⟩, (m.cell (p := ⟨p, 0, none⟩) (World.block_lt_of_cell? _ _ h3)).trans h3⟩
section
variable (p g V n q : Nat) (d : Bool) (w : World)
theorem plen_p (h : PIx w p g V n q) : Calls Tryd.prog 15 #[.pointer (some ⟨p, 0, none⟩)] w fun e w' => e = .returned (.int .i64 (n : Int)) ∧ w = w' := by
  have c0 := h.idx
  obtain ⟨_, ⟨r, k, hk, hx⟩, _⟩ := h
  have XL := Lib.hid (xlen_p g V n k r w hx)
  clear hx
  go_enter Tryd.func15, Tryd.ntmps15
  go_wp2_with fail
  refine XL.out.mono ?_
  rintro e w' ⟨rfl, rfl⟩
  go_wp2
  go_ret
  exact ⟨rfl, rfl⟩
theorem popen_in (i : Nat) (h : PIx w p g V n q) (hi : i < n) : Calls Tryd.prog 14 #[.pointer (some ⟨p, 0, none⟩), .int .i64 (i : Int)] w fun e w' => e = .returned (.bool (decide (V / 2 ^ i % 2 = 1))) ∧ w = w' := by
  have c0 := h.idx
  obtain ⟨_, ⟨r, k, hk, hx⟩, _⟩ := h
  have XA := Lib.hid (xat_in g V n k i r w hx hi)
  have hb : V / 2 ^ i % 2 = 0 ∨ V / 2 ^ i % 2 = 1 := by omega
  clear hx
  rcases hb with hb | hb
  · rw [hb] at XA ⊢
    go_enter Tryd.func14, Tryd.ntmps14
    go_wp2_with fail
    refine XA.out.mono ?_
    rintro e w' ⟨rfl, rfl⟩
    go_wp2
    go_ret
    exact ⟨rfl, rfl⟩
  · rw [hb] at XA ⊢
    go_enter Tryd.func14, Tryd.ntmps14
    go_wp2_with fail
    refine XA.out.mono ?_
    rintro e w' ⟨rfl, rfl⟩
    go_wp2
    go_ret
    exact ⟨rfl, rfl⟩
theorem popen_out (i : Int) (h : PIx w p g V n q) (hi : i < 0 ∨ (n : Int) ≤ i) : Calls Tryd.prog 14 #[.pointer (some ⟨p, 0, none⟩), .int .i64 i] w fun e w' => e = .returned (.bool false) ∧ w = w' := by
  have c0 := h.idx
  obtain ⟨_, ⟨r, k, hk, hx⟩, _⟩ := h
  have XA := Lib.hid (xat_out g V n k r i w hx hi)
  clear hx
  go_enter Tryd.func14, Tryd.ntmps14
  go_wp2_with fail
  refine XA.out.mono ?_
  rintro e w' ⟨rfl, rfl⟩
  go_wp2
  go_ret
  exact ⟨rfl, rfl⟩
theorem change_f (i : Nat) (h : PIx w p g V n q) (hi : i < n) : Calls Tryd.prog 28 #[.pointer (some ⟨p, 0, none⟩), .int .i64 (i : Int), .int .i64 1] w fun e w' => e = .returned (.int .i64 (exc V (i + 1) - exc V i)) ∧ w = w' := by
  have OP := Lib.hid (popen_in p g V n q w i h hi)
  have BO := Lib.hid (bitOn_f w (i : Int))
  have hx := exc_next V i
  have hb : V / 2 ^ i % 2 = 0 ∨ V / 2 ^ i % 2 = 1 := by omega
  clear h
  rcases hb with hb | hb
  · rw [hb] at OP hx
    rw [show exc V (i + 1) - exc V i = -1 by omega]
    clear hx
    go_enter Tryd.func28, Tryd.ntmps28
    go_wp2_with (first
      | (go_at_call 47; refine BO.out.mono ?_; rintro e w' ⟨rfl, rfl⟩)
      | (go_at_call 14; refine OP.out.mono ?_; rintro e w' ⟨rfl, rfl⟩))
    go_ret
    exact ⟨rfl, rfl⟩
  · rw [hb] at OP hx
    rw [show exc V (i + 1) - exc V i = 1 by omega]
    clear hx
    go_enter Tryd.func28, Tryd.ntmps28
    go_wp2_with (first
      | (go_at_call 47; refine BO.out.mono ?_; rintro e w' ⟨rfl, rfl⟩)
      | (go_at_call 14; refine OP.out.mono ?_; rintro e w' ⟨rfl, rfl⟩))
    go_ret
    exact ⟨rfl, rfl⟩
theorem change_b (i : Nat) (h : PIx w p g V n q) (hi : i < n) : Calls Tryd.prog 28 #[.pointer (some ⟨p, 0, none⟩), .int .i64 ((i : Int) + 1), .int .i64 (-1)] w fun e w' => e = .returned (.int .i64 (exc V i - exc V (i + 1))) ∧ w = w' := by
  have OP := Lib.hid (popen_in p g V n q w i h hi)
  have hn := h.n9
  have BO := Lib.hid (bitOn_b w ((i : Int) + 1) (by omega) (by omega))
  rw [show (i : Int) + 1 - 1 = (i : Int) by omega] at BO
  have hx := exc_next V i
  have hb : V / 2 ^ i % 2 = 0 ∨ V / 2 ^ i % 2 = 1 := by omega
  clear h
  rcases hb with hb | hb
  · rw [hb] at OP hx
    rw [show exc V i - exc V (i + 1) = 1 by omega]
    clear hx
    go_enter Tryd.func28, Tryd.ntmps28
    go_wp2_with (first
      | (go_at_call 47; refine BO.out.mono ?_; rintro e w' ⟨rfl, rfl⟩)
      | (go_at_call 14; refine OP.out.mono ?_; rintro e w' ⟨rfl, rfl⟩))
    go_ret
    exact ⟨rfl, rfl⟩
  · rw [hb] at OP hx
    rw [show exc V i - exc V (i + 1) = -1 by omega]
    clear hx
    go_enter Tryd.func28, Tryd.ntmps28
    go_wp2_with (first
      | (go_at_call 47; refine BO.out.mono ?_; rintro e w' ⟨rfl, rfl⟩)
      | (go_at_call 14; refine OP.out.mono ?_; rintro e w' ⟨rfl, rfl⟩))
    go_ret
    exact ⟨rfl, rfl⟩
theorem pexc_yes (i : Nat) (h : PAt w p g V n d q) (hi : i ≤ n) (hq : q ≤ 1000000) : Calls Tryd.prog 21 #[.pointer (some ⟨p, 0, none⟩), .int .i64 (i : Int)] w fun e w' => e = .returned (.tuple #[.int .i64 (exc V i), .int .i64 0]) ∧ PAt w' p g V n d (q + 1) ∧ Mod (fun i => i = g) w w' := by
  have c0 := h.idx
  have hn := h.n9
  have HP := Lib.hid h
  obtain ⟨_, ⟨r, k, hk, hx⟩, _⟩ := h
  have RK := Lib.hid (rank_yes g V n k i r 1 w hx (by omega) (.inr rfl) hi)
  have hcb : cb 1 V i = pop V i := by unfold cb; rw [if_neg (by decide)]
  rw [hcb] at RK
  have hle := pop_le V i
  have HX : Hid (((pop V i : Nat) : Int) - ((i : Int) - ((pop V i : Nat) : Int)) = exc V i) := by show _ = _; unfold exc; omega
  clear hx hcb
  generalize pop V i = u at *
  go_enter Tryd.func21, Tryd.ntmps21
  go_wp2_with fail
  refine RK.out.mono ?_
  rintro e w2 ⟨rfl, h2, m2⟩
  have H2 := Lib.hid (HP.out.ask h2 hk m2)
  have M2 := Lib.hid m2
  clear h2 m2 RK
  go_wp2
  go_ret2
  exact ⟨by rw [← HX.out]; rfl, H2.out, M2.out⟩
theorem pexc_no (i : Int) (h : PAt w p g V n d q) (hi : i < 0 ∨ (n : Int) < i) (hq : q ≤ 1000000) : Calls Tryd.prog 21 #[.pointer (some ⟨p, 0, none⟩), .int .i64 i] w fun e w' => e = .returned (.tuple #[.int .i64 0, .int .i64 1]) ∧ PAt w' p g V n d (q + 1) ∧ Mod (fun i => i = g) w w' := by
  have c0 := h.idx
  have HP := Lib.hid h
  obtain ⟨_, ⟨r, k, hk, hx⟩, _⟩ := h
  have RK := Lib.hid (rank_no g V n k r 1 i w hx (by omega) (.inr hi))
  clear hx
  go_enter Tryd.func21, Tryd.ntmps21
  go_wp2_with fail
  refine RK.out.mono ?_
  rintro e w2 ⟨rfl, h2, m2⟩
  have H2 := Lib.hid (HP.out.ask h2 hk m2)
  have M2 := Lib.hid m2
  clear h2 m2 RK
  go_wp2
  go_ret2
  exact ⟨rfl, H2.out, M2.out⟩
theorem excess_p (i : Nat) (h : PAt w p g V n d q) (hi : i ≤ n) (hq : q ≤ 1000000) : Calls Tryd.prog 33 #[.pointer (some ⟨p, 0, none⟩), .int .i64 (i : Int)] w fun e w' => e = .returned (.int .i64 (exc V i)) ∧ PAt w' p g V n d (q + 1) ∧ Mod (fun i => i = g) w w' := by
  have PX := Lib.hid (pexc_yes p g V n q d w i h hi hq)
  clear h
  go_enter Tryd.func33, Tryd.ntmps33
  go_wp2_with fail
  refine PX.out.mono ?_
  rintro e w2 ⟨rfl, h2, m2⟩
  have H2 := Lib.hid h2
  have M2 := Lib.hid m2
  clear h2 m2 PX
  go_wp2
  go_ret
  exact ⟨rfl, H2.out, M2.out⟩
end
end Go.Proofs.YtdpejjokdncfnaaDoor
