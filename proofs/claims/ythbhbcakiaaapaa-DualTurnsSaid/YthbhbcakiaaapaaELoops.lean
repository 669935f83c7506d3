/- ends, isLoop, Loops of euler. Loops of euler. -/
import Derived.Test.YthbhbcakiaaapaaENam
namespace Go.Proofs.Ythbhbcakiaaapaa
set_option maxRecDepth 20000
open Go.RowKit
set_option linter.unusedVariables false
theorem info_pair : (Try.prog.info? 75).map (·.size) = some 2 := by kernel_rfl
/-- The ends of an edge, the lower first. -/
noncomputable def lowE (l : List Nat) (e : Nat) : Nat := min (nameOf l (2 * e)) (nameOf l (2 * e + 1))
noncomputable def highE (l : List Nat) (e : Nat) : Nat := max (nameOf l (2 * e)) (nameOf l (2 * e + 1))
set_option maxHeartbeats 1000000 in
theorem ends_p (g : Nat) (l b : List Nat) (root lone : Int) (x : Nat) (w : World) (h : MapAt w g l b root lone) (hx : 2 * x + 1 < l.length) :
    Calls Try.prog 57 #[.pointer (some ⟨g, 0, none⟩), .int .i64 (x : Int)] w fun e w' => e = .returned (.agg #[.int .i64 (lowE l x : Int), .int .i64 (highE l x : Int)]) ∧ Below w.heap.size w w' := by
  have hle := h.2.1
  have HM : Hid (∀ w', Below w.heap.size w w' → MapAt w' g l b root lone) := fun w' m => h.below m
  have V1 : Hid (∀ w', Below w.heap.size w w' → Calls Try.prog 18 #[.pointer (some ⟨g, 0, none⟩), .int .i64 (2 * (x : Int))] w' fun e w'' => e = .returned (.int .i64 ((nameOf l (2 * x) : Nat) : Int)) ∧ Below w'.heap.size w' w'') := fun w' m => by
    have := vertex_in g l b root lone (2 * x) w' (h.below m) (by omega)
    rwa [Int.natCast_mul] at this
  have V2 : Hid (∀ w', Below w.heap.size w w' → Calls Try.prog 18 #[.pointer (some ⟨g, 0, none⟩), .int .i64 (2 * (x : Int) + 1)] w' fun e w'' => e = .returned (.int .i64 ((nameOf l (2 * x + 1) : Nat) : Int)) ∧ Below w'.heap.size w' w'') := fun w' m => by
    have := vertex_in g l b root lone (2 * x + 1) w' (h.below m) (by omega)
    rwa [Int.natCast_add, Int.natCast_mul] at this
  have HINF := Lib.hid info_pair
  clear h
  obtain ⟨u, hu⟩ : ∃ u, u = nameOf l (2 * x) := ⟨_, rfl⟩
  obtain ⟨v, hv⟩ : ∃ v, v = nameOf l (2 * x + 1) := ⟨_, rfl⟩
  unfold lowE highE
  rw [← hu] at V1 ⊢
  rw [← hv] at V2 ⊢
  clear hu hv
  have Q1 : Hid (∀ w1, Below (w.alloc (.cells #[.int .i64 0, .int .i64 0] 75)).heap.size (w.alloc (.cells #[.int .i64 0, .int .i64 0] 75)) w1 → Blk w1 w.heap.size 75 #[.int .i64 0, .int .i64 0] ∧ Below w.heap.size w w1) := fun w1 m =>
    ⟨(Blk.new w _ _).below m, ((Below.refl _ _).alloc (Nat.le_refl _) _).trans (m.mono (by simp))⟩
  have Q0 : Hid (Below w.heap.size w (w.alloc (.cells #[.int .i64 0, .int .i64 0] 75))) := (Below.refl _ _).alloc (Nat.le_refl _) _
  have Q2 : Hid (∀ w1 w2, Blk w1 w.heap.size 75 #[.int .i64 0, .int .i64 0] ∧ Below w.heap.size w w1 → Below w1.heap.size w1 w2 → Blk w2 w.heap.size 75 #[.int .i64 0, .int .i64 0] ∧ Below w.heap.size w w2) := fun w1 w2 h m =>
    ⟨h.1.below m, h.2.trans (m.mono h.2.size)⟩
  go_enter Try.func57, Try.ntmps57
  go_wp2_with (first
    | (go_at_call 18; refine (V1.out _ Q0.out).mono ?_; rintro e w1 ⟨rfl, hb1⟩; have HB1 := Lib.hid (Q1.out _ hb1); clear hb1)
    | (go_at_call 18; refine (V2.out _ HB1.out.2).mono ?_; rintro e w2 ⟨rfl, hb2⟩; have HB2 := Lib.hid (Q2.out _ _ HB1.out hb2); clear hb2; have c0 := HB2.out.1.cell 0; have c1 := HB2.out.1.cell 1; have f0 := HB2.out.1.frozen 0; have f1 := HB2.out.1.frozen 1; simp at c0 c1))
  all_goals (
    refine bodyPost_ret (results_cell_row rfl _ _ w.heap.size 75 _ (0, 0) _ rfl ((HB2.out.1.set_ 0 _).set_ 1 _) Try.underlying75 rfl HINF.out) rfl ?_
    refine ⟨?_, (HB2.out.2.setCell (Nat.le_refl _) _).setCell (Nat.le_refl _) _⟩
    first
      | (rw [Nat.min_eq_left (by omega), Nat.max_eq_right (by omega)]; rfl)
      | (rw [Nat.min_eq_right (by omega), Nat.max_eq_left (by omega)]; rfl)
      | (rw [Nat.min_eq_left (by omega), Nat.max_eq_left (by omega)]; rfl)
      | (rw [Nat.min_eq_right (by omega), Nat.max_eq_right (by omega)]; rfl)
      | (exfalso; omega))
theorem isLoop_p (a c : Nat) (w : World) :
    Calls Try.prog 58 #[.agg #[.int .i64 (a : Int), .int .i64 (c : Int)]] w fun e w' => e = .returned (.bool (decide (a = c))) ∧ Below w.heap.size w w' := by
  go_enter Try.func58, Try.ntmps58
  go_wp2_with fail
  go_ret
  refine ⟨?_, (Below.refl _ _).alloc (Nat.le_refl _) _⟩
  by_cases e : a = c
  · subst e; simp
  · have : ((a : Int) == (c : Int)) = false := by rw [beq_eq_false_iff_ne]; omega
    rw [this]; simp [e]
end Go.Proofs.Ythbhbcakiaaapaa
namespace Go.Proofs.Ythbhbcakiaaapaa
set_option maxRecDepth 20000
open Go.RowKit
set_option linter.unusedVariables false
/-- How many of the first k edges are loops. -/
noncomputable def loopsN (l : List Nat) (k : Nat) : Nat := ((List.range k).filter fun e => decide (lowE l e = highE l e)).length
theorem loopsN_next (l : List Nat) (k : Nat) : (lowE l k = highE l k → loopsN l (k + 1) = loopsN l k + 1) ∧ (lowE l k ≠ highE l k → loopsN l (k + 1) = loopsN l k) := by
  unfold loopsN
  rw [List.range_succ, List.filter_append, List.length_append]
  constructor
  · intro h; simp [h]
  · intro h; simp [h]
theorem loopsN_le (l : List Nat) (k : Nat) : loopsN l k ≤ k := by
  unfold loopsN
  exact Nat.le_trans (List.length_filter_le _ _) (by simp)
set_option maxHeartbeats 2000000 in
theorem loops_p (g : Nat) (l b : List Nat) (root lone : Int) (w : World) (h : MapAt w g l b root lone) :
    Calls Try.prog 40 #[.pointer (some ⟨g, 0, none⟩)] w fun e w' => e = .returned (.int .i64 (loopsN l (l.length / 2) : Int)) ∧ Below w.heap.size w w' := by
  have hle := h.2.1
  have HM : Hid (∀ w', Below w.heap.size w w' → MapAt w' g l b root lone) := fun w' m => h.below m
  have EP := Lib.hid (edges_p g l b root lone w h)
  have HZ : Hid (0 = loopsN l 0) := rfl
  obtain ⟨n, hn⟩ : ∃ n, n = l.length / 2 := ⟨_, rfl⟩
  rw [← hn] at EP ⊢
  have hn2 : 2 * n ≤ l.length := by omega
  clear h hn
  go_enter Try.func40, Try.ntmps40
  go_wp2_with (go_at_call 25; refine EP.out.mono ?_; rintro e w1 ⟨rfl, hb1⟩)
  go_loopw [3, 7] (fun cv i wr => ∃ (k p : Nat), k ≤ n ∧ p ≤ k ∧ cv = .int .i64 (p : Int) ∧ i = .int .i64 (k : Int) ∧ Hid (p = loopsN l k) ∧ Below w.heap.size w wr) (fun _ i _ => n - (intOf i).toNat)
  case atStart => exact ⟨0, 0, by omega, by omega, rfl, rfl, HZ, hb1⟩
  case round =>
    obtain ⟨k, p, hk, hpk, rfl, rfl, HP, hbl⟩ := hrel
    by_cases hkn : k = n
    · subst hkn
      go_wp2_with fail
      go_ret
      exact ⟨by rw [← HP.out]; rfl, hbl⟩
    · have hlt : k < n := by omega
      have EN := Lib.hid (ends_p g l b root lone k wr (HM.out _ hbl) (by omega))
      have NX := Lib.hid (loopsN_next l k)
      obtain ⟨x, hx⟩ : ∃ x, x = lowE l k := ⟨_, rfl⟩
      obtain ⟨y, hy⟩ : ∃ y, y = highE l k := ⟨_, rfl⟩
      rw [← hx, ← hy] at EN NX
      clear hx hy
      have LP := Lib.hid (fun W => isLoop_p x y W)
      by_cases he : x = y
      · have hd : decide (x = y) = true := by simp [he]
        rw [hd] at LP
        have NX2 := Lib.hid (NX.out.1 he)
        clear he hd
        go_wp2_with (first
          | (go_at_call 57; refine EN.out.mono ?_; rintro e w2 ⟨rfl, hb2⟩)
          | (go_at_call 58; refine (LP.out _).mono ?_; rintro e w3 ⟨rfl, hb3⟩))
        go_roundw
        case rel => exact ⟨k + 1, p + 1, by omega, by omega, by go_num, by go_num, by show _ = _; rw [NX2.out, HP.out], hbl.trans ((hb2.trans (hb3.mono hb2.size)).mono hbl.size)⟩
        case measure => simp [intOf]; omega
      · have hd : decide (x = y) = false := by simp [he]
        rw [hd] at LP
        have NX2 := Lib.hid (NX.out.2 he)
        clear he hd
        go_wp2_with (first
          | (go_at_call 57; refine EN.out.mono ?_; rintro e w2 ⟨rfl, hb2⟩)
          | (go_at_call 58; refine (LP.out _).mono ?_; rintro e w3 ⟨rfl, hb3⟩))
        go_roundw
        case rel => exact ⟨k + 1, p, by omega, by omega, rfl, by go_num, by show _ = _; rw [NX2.out, HP.out], hbl.trans ((hb2.trans (hb3.mono hb2.size)).mono hbl.size)⟩
        case measure => simp [intOf]; omega
end Go.Proofs.Ythbhbcakiaaapaa
