/- ends, isLoop, Loops of euler. Loops of euler. triangles: has each border three darts. Names and Loops of a nil map. The parts of a map as a row of five numbers each: mathematics. Rows of parts: five numbers each. -/
import Derived.Test.YthdmkcnclmgdlaaZENam
import Derived.Test.YthdmkcnclmgdlaaZg2
import Derived.Deep.AppendLies
namespace Go.Proofs.Ythdmkcnclmgdlaa
set_option maxRecDepth 20000
open Go.RowKit
set_option linter.unusedVariables false
theorem info_pair : (Try.prog.info? 117).map (·.size) = some 2 := by kernel_rfl
/-- The ends of an edge, the lower first. -/
noncomputable def lowE (l : List Nat) (e : Nat) : Nat := min (nameOf l (2 * e)) (nameOf l (2 * e + 1))
noncomputable def highE (l : List Nat) (e : Nat) : Nat := max (nameOf l (2 * e)) (nameOf l (2 * e + 1))
set_option maxHeartbeats 1000000 in
theorem ends_p (g : Nat) (l b : List Nat) (root lone : Int) (x : Nat) (w : World) (h : MapAt w g l b root lone) (hx : 2 * x + 1 < l.length) :
    Calls Try.prog 108 #[.pointer (some ⟨g, 0, none⟩), .int .i64 (x : Int)] w fun e w' => e = .returned (.agg #[.int .i64 (lowE l x : Int), .int .i64 (highE l x : Int)]) ∧ Below w.heap.size w w' := by
  have hle := h.2.1
  have HM : Hid (∀ w', Below w.heap.size w w' → MapAt w' g l b root lone) := fun w' m => h.below m
  have V1 : Hid (∀ w', Below w.heap.size w w' → Calls Try.prog 56 #[.pointer (some ⟨g, 0, none⟩), .int .i64 (2 * (x : Int))] w' fun e w'' => e = .returned (.int .i64 ((nameOf l (2 * x) : Nat) : Int)) ∧ Below w'.heap.size w' w'') := fun w' m => by
    have := vertex_in g l b root lone (2 * x) w' (h.below m) (by omega)
    rwa [Int.natCast_mul] at this
  have V2 : Hid (∀ w', Below w.heap.size w w' → Calls Try.prog 56 #[.pointer (some ⟨g, 0, none⟩), .int .i64 (2 * (x : Int) + 1)] w' fun e w'' => e = .returned (.int .i64 ((nameOf l (2 * x + 1) : Nat) : Int)) ∧ Below w'.heap.size w' w'') := fun w' m => by
    have := vertex_in g l b root lone (2 * x + 1) w' (h.below m) (by omega)
    rwa [Int.natCast_add, Int.natCast_mul] at this
  have HINF := Lib.hid info_pair
  clear h
  obtain ⟨u, hu⟩ : ∃ u, u = nameOf l (2 * x) := ⟨_, rfl⟩
  obtain ⟨v, hv⟩ : ∃ v, v = nameOf l (2 * x + 1) := ⟨_, rfl⟩
  unfold lowE highE
  rw [← hu] at V1 ⊢
  rw [← hv] at V2 ⊢
  clear hu hv
  have Q1 : Hid (∀ w1, Below (w.alloc (.cells #[.int .i64 0, .int .i64 0] 117)).heap.size (w.alloc (.cells #[.int .i64 0, .int .i64 0] 117)) w1 → Blk w1 w.heap.size 117 #[.int .i64 0, .int .i64 0] ∧ Below w.heap.size w w1) := fun w1 m =>
    ⟨(Blk.new w _ _).below m, ((Below.refl _ _).alloc (Nat.le_refl _) _).trans (m.mono (by simp))⟩
  have Q0 : Hid (Below w.heap.size w (w.alloc (.cells #[.int .i64 0, .int .i64 0] 117))) := (Below.refl _ _).alloc (Nat.le_refl _) _
  have Q2 : Hid (∀ w1 w2, Blk w1 w.heap.size 117 #[.int .i64 0, .int .i64 0] ∧ Below w.heap.size w w1 → Below w1.heap.size w1 w2 → Blk w2 w.heap.size 117 #[.int .i64 0, .int .i64 0] ∧ Below w.heap.size w w2) := fun w1 w2 h m =>
    ⟨h.1.below m, h.2.trans (m.mono h.2.size)⟩
  go_enter Try.func108, Try.ntmps108
  go_wp2_with (first
    | (go_at_call 56; refine (V1.out _ Q0.out).mono ?_; rintro e w1 ⟨rfl, hb1⟩; have HB1 := Lib.hid (Q1.out _ hb1); clear hb1)
    | (go_at_call 56; refine (V2.out _ HB1.out.2).mono ?_; rintro e w2 ⟨rfl, hb2⟩; have HB2 := Lib.hid (Q2.out _ _ HB1.out hb2); clear hb2; have c0 := HB2.out.1.cell 0; have c1 := HB2.out.1.cell 1; have f0 := HB2.out.1.frozen 0; have f1 := HB2.out.1.frozen 1; simp at c0 c1))
  all_goals (
    refine bodyPost_ret (results_cell_row rfl _ _ w.heap.size 117 _ (0, 0) _ rfl ((HB2.out.1.set_ 0 _).set_ 1 _) Try.underlying117 rfl HINF.out) rfl ?_
    refine ⟨?_, (HB2.out.2.setCell (Nat.le_refl _) _).setCell (Nat.le_refl _) _⟩
    first
      | (rw [Nat.min_eq_left (by omega), Nat.max_eq_right (by omega)]; rfl)
      | (rw [Nat.min_eq_right (by omega), Nat.max_eq_left (by omega)]; rfl)
      | (rw [Nat.min_eq_left (by omega), Nat.max_eq_left (by omega)]; rfl)
      | (rw [Nat.min_eq_right (by omega), Nat.max_eq_right (by omega)]; rfl)
      | (exfalso; omega))
theorem isLoop_p (a c : Nat) (w : World) :
    Calls Try.prog 109 #[.agg #[.int .i64 (a : Int), .int .i64 (c : Int)]] w fun e w' => e = .returned (.bool (decide (a = c))) ∧ Below w.heap.size w w' := by
  go_enter Try.func109, Try.ntmps109
  go_wp2_with fail
  go_ret
  refine ⟨?_, (Below.refl _ _).alloc (Nat.le_refl _) _⟩
  by_cases e : a = c
  · subst e; simp
  · have : ((a : Int) == (c : Int)) = false := by rw [beq_eq_false_iff_ne]; omega
    rw [this]; simp [e]
end Go.Proofs.Ythdmkcnclmgdlaa
namespace Go.Proofs.Ythdmkcnclmgdlaa
set_option maxRecDepth 20000
open Go.RowKit
set_option linter.unusedVariables false
/-- How many of the first k edges are loops. -/
noncomputable def loopsN (l : List Nat) (k : Nat) : Nat := ((List.range k).filter fun e => decide (lowE l e = highE l e)).length
theorem loopsN_next (l : List Nat) (k : Nat) : (lowE l k = highE l k → loopsN l (k + 1) = loopsN l k + 1) ∧ (lowE l k ≠ highE l k → loopsN l (k + 1) = loopsN l k) := by
  unfold loopsN
  rw [List.range_succ, List.filter_append, List.length_append]
  constructor
  · intro h; simp [h]
  · intro h; simp [h]
theorem loopsN_le (l : List Nat) (k : Nat) : loopsN l k ≤ k := by
  unfold loopsN
  exact Nat.le_trans (List.length_filter_le _ _) (by simp)
set_option maxHeartbeats 2000000 in
theorem loops_p (g : Nat) (l b : List Nat) (root lone : Int) (w : World) (h : MapAt w g l b root lone) :
    Calls Try.prog 98 #[.pointer (some ⟨g, 0, none⟩)] w fun e w' => e = .returned (.int .i64 (loopsN l (l.length / 2) : Int)) ∧ Below w.heap.size w w' := by
  have hle := h.2.1
  have HM : Hid (∀ w', Below w.heap.size w w' → MapAt w' g l b root lone) := fun w' m => h.below m
  have EP := Lib.hid (edges_p g l b root lone w h)
  have HZ : Hid (0 = loopsN l 0) := rfl
  obtain ⟨n, hn⟩ : ∃ n, n = l.length / 2 := ⟨_, rfl⟩
  rw [← hn] at EP ⊢
  have hn2 : 2 * n ≤ l.length := by omega
  clear h hn
  go_enter Try.func98, Try.ntmps98
  go_wp2_with (go_at_call 21; refine EP.out.mono ?_; rintro e w1 ⟨rfl, hb1⟩)
  go_loopw [3, 7] (fun cv i wr => ∃ (k p : Nat), k ≤ n ∧ p ≤ k ∧ cv = .int .i64 (p : Int) ∧ i = .int .i64 (k : Int) ∧ Hid (p = loopsN l k) ∧ Below w.heap.size w wr) (fun _ i _ => n - (intOf i).toNat)
  case atStart => exact ⟨0, 0, by omega, by omega, rfl, rfl, HZ, hb1⟩
  case round =>
    obtain ⟨k, p, hk, hpk, rfl, rfl, HP, hbl⟩ := hrel
    by_cases hkn : k = n
    · subst hkn
      go_wp2_with fail
      go_ret
      exact ⟨by rw [← HP.out]; rfl, hbl⟩
    · have hlt : k < n := by omega
      have EN := Lib.hid (ends_p g l b root lone k wr (HM.out _ hbl) (by omega))
      have NX := Lib.hid (loopsN_next l k)
      obtain ⟨x, hx⟩ : ∃ x, x = lowE l k := ⟨_, rfl⟩
      obtain ⟨y, hy⟩ : ∃ y, y = highE l k := ⟨_, rfl⟩
      rw [← hx, ← hy] at EN NX
      clear hx hy
      have LP := Lib.hid (fun W => isLoop_p x y W)
      by_cases he : x = y
      · have hd : decide (x = y) = true := by simp [he]
        rw [hd] at LP
        have NX2 := Lib.hid (NX.out.1 he)
        clear he hd
        go_wp2_with (first
          | (go_at_call 108; refine EN.out.mono ?_; rintro e w2 ⟨rfl, hb2⟩)
          | (go_at_call 109; refine (LP.out _).mono ?_; rintro e w3 ⟨rfl, hb3⟩))
        go_roundw
        case rel => exact ⟨k + 1, p + 1, by omega, by omega, by go_num, by go_num, by show _ = _; rw [NX2.out, HP.out], hbl.trans ((hb2.trans (hb3.mono hb2.size)).mono hbl.size)⟩
        case measure => simp [intOf]; omega
      · have hd : decide (x = y) = false := by simp [he]
        rw [hd] at LP
        have NX2 := Lib.hid (NX.out.2 he)
        clear he hd
        go_wp2_with (first
          | (go_at_call 108; refine EN.out.mono ?_; rintro e w2 ⟨rfl, hb2⟩)
          | (go_at_call 109; refine (LP.out _).mono ?_; rintro e w3 ⟨rfl, hb3⟩))
        go_roundw
        case rel => exact ⟨k + 1, p, by omega, by omega, rfl, by go_num, by show _ = _; rw [NX2.out, HP.out], hbl.trans ((hb2.trans (hb3.mono hb2.size)).mono hbl.size)⟩
        case measure => simp [intOf]; omega
end Go.Proofs.Ythdmkcnclmgdlaa
namespace Go.Proofs.Ythdmkcnclmgdlaa
set_option maxRecDepth 20000
open Go.RowKit
set_option linter.unusedVariables false
/-- The border of d has three darts. -/
def Tri (l : List Nat) (d : Nat) : Prop := (phiL l).getD d 0 ≠ d ∧ (phiL l).getD ((phiL l).getD ((phiL l).getD d 0) 0) 0 = d
def TriPost (w : World) (l : List Nat) (e : Ending) (w' : World) : Prop :=
  ∃ r : Bool, e = .returned (.bool r) ∧ (r = true ↔ ∀ d, d < l.length → Tri l d) ∧ Below w.heap.size w w'
theorem TriPost.no {w w' : World} {l : List Nat} {e : Ending} (d : Nat) (hd : d < l.length) (h : ¬ Tri l d) (he : e = .returned (.bool false)) (hb : Below w.heap.size w w') : TriPost w l e w' := ⟨false, he, ⟨fun c => (by cases c), fun c => absurd (c d hd) h⟩, hb⟩
theorem TriPost.yes {w w' : World} {l : List Nat} {e : Ending} (h : ∀ d, d < l.length → Tri l d) (he : e = .returned (.bool true)) (hb : Below w.heap.size w w') : TriPost w l e w' := ⟨true, he, ⟨fun _ => h, fun _ => rfl⟩, hb⟩
set_option maxHeartbeats 2000000 in
theorem triangles_p (g : Nat) (l b : List Nat) (root lone : Int) (w : World) (h : MapAt w g l b root lone) :
    Calls Try.prog 67 #[.pointer (some ⟨g, 0, none⟩)] w (TriPost w l) := by
  have hle := h.2.1
  have hinv : Inv (phiL l) (phiB l b) := by obtain ⟨_, _, p, A, c, S, d, q, A', c', S', d', hb, hp, hq, _⟩ := h; exact hq.1
  have DP := Lib.hid (darts_p g l b root lone w h)
  have PH : Hid (∀ (i : Nat) w', i < l.length → Below w.heap.size w w' → Calls Try.prog 77 #[.pointer (some ⟨g, 0, none⟩), .int .i64 (i : Int)] w' fun e w'' => e = .returned (.int .i64 (((phiL l).getD i 0 : Nat) : Int)) ∧ Below w'.heap.size w' w'') := fun i w' hi m => phi_in g l b root lone i w' (h.below m) hi
  have LT : Hid (∀ i, i < l.length → (phiL l).getD i 0 < l.length) := fun i hi => by have := hinv.lt i (by rw [phiL_len]; exact hi); rwa [phiL_len] at this
  obtain ⟨n, hn⟩ : ∃ n, n = l.length := ⟨_, rfl⟩
  rw [← hn] at DP hle PH LT
  have HN := Lib.hid hn
  clear h hn hinv
  go_enter Try.func67, Try.ntmps67
  go_wp2_with (go_at_call 17; refine DP.out.mono ?_; rintro e w1 ⟨rfl, hb1⟩)
  go_loopw [7] (fun i wr => ∃ (k : Nat), k ≤ n ∧ i = .int .i64 (k : Int) ∧ Hid (∀ d, d < k → Tri l d) ∧ Below w.heap.size w wr) (fun i _ => n - (intOf i).toNat)
  case atStart => exact ⟨0, by omega, rfl, fun d h => absurd h (by omega), hb1⟩
  case round =>
    obtain ⟨k, hk, rfl, HT, hbl⟩ := hrel
    by_cases hkn : k = n
    · subst hkn
      go_wp2_with fail
      go_ret
      exact .yes (by rw [← HN.out]; exact HT.out) rfl hbl
    · have hlt : k < n := by omega
      have P1 := Lib.hid (PH.out k wr hlt hbl)
      have l1 := LT.out k hlt
      have P2 : Hid (∀ w', Below w.heap.size w w' → _) := fun w' m => PH.out _ w' l1 m
      have l2 := LT.out _ l1
      have P3 : Hid (∀ w', Below w.heap.size w w' → _) := fun w' m => PH.out _ w' l2 m
      have TK : Hid (Tri l k ↔ ((phiL l).getD k 0 ≠ k ∧ (phiL l).getD ((phiL l).getD ((phiL l).getD k 0) 0) 0 = k)) := Iff.rfl
      obtain ⟨z, hz⟩ : ∃ z, z = (phiL l).getD ((phiL l).getD ((phiL l).getD k 0) 0) 0 := ⟨_, rfl⟩
      obtain ⟨y, hy⟩ : ∃ y, y = (phiL l).getD ((phiL l).getD k 0) 0 := ⟨_, rfl⟩
      obtain ⟨x, hx⟩ : ∃ x, x = (phiL l).getD k 0 := ⟨_, rfl⟩
      rw [← hz] at TK P3
      rw [← hy] at P2 P3
      rw [← hx] at P1 P2 TK
      clear hz hy hx l1 l2
      by_cases h1 : x = k
      · have e1 : ((x : Int) == (k : Int)) = true := by rw [beq_iff_eq]; omega
        have NT : Hid (¬ Tri l k) := fun t => (TK.out.1 t).1 h1
        clear h1
        go_wp2_with (first
          | (go_at_call 77; refine P1.out.mono ?_; rintro e w2 ⟨rfl, hb2⟩))
        go_ret
        exact .no k (by rw [← HN.out]; exact hlt) NT.out rfl (hbl.trans (hb2.mono hbl.size))
      · have e1 : ((x : Int) == (k : Int)) = false := by rw [beq_eq_false_iff_ne]; omega
        by_cases h3 : z = k
        · have e3 : ((z : Int) != (k : Int)) = false := by rw [bne_eq_false_iff_eq]; omega
          have YT : Hid (Tri l k) := TK.out.2 ⟨h1, h3⟩
          clear h1 h3
          go_wp2_with (first
            | (go_at_call 77; refine (P3.out _ hbl3).mono ?_; rintro e w4 ⟨rfl, hb4⟩; have hbl4 := hbl3.trans (hb4.mono hbl3.size); clear hb4)
            | (go_at_call 77; refine (P2.out _ hbl2).mono ?_; rintro e w3 ⟨rfl, hb3⟩; have hbl3 := hbl2.trans (hb3.mono hbl2.size); clear hb3)
            | (go_at_call 77; refine P1.out.mono ?_; rintro e w2 ⟨rfl, hb2⟩; have hbl2 := hbl.trans (hb2.mono hbl.size); clear hb2))
          go_roundw
          case rel =>
            refine ⟨k + 1, by omega, by go_num, fun d hd => ?_, hbl4⟩
            by_cases c : d = k
            · rw [c]; exact YT.out
            · exact HT.out d (by omega)
          case measure => simp [intOf]; omega
        · have e3 : ((z : Int) != (k : Int)) = true := by rw [bne_iff_ne]; omega
          have NT : Hid (¬ Tri l k) := fun t => h3 (TK.out.1 t).2
          clear h1 h3
          go_wp2_with (first
            | (go_at_call 77; refine (P3.out _ hbl3).mono ?_; rintro e w4 ⟨rfl, hb4⟩; have hbl4 := hbl3.trans (hb4.mono hbl3.size); clear hb4)
            | (go_at_call 77; refine (P2.out _ hbl2).mono ?_; rintro e w3 ⟨rfl, hb3⟩; have hbl3 := hbl2.trans (hb3.mono hbl2.size); clear hb3)
            | (go_at_call 77; refine P1.out.mono ?_; rintro e w2 ⟨rfl, hb2⟩; have hbl2 := hbl.trans (hb2.mono hbl.size); clear hb2))
          go_ret
          exact .no k (by rw [← HN.out]; exact hlt) NT.out rfl hbl4
end Go.Proofs.Ythdmkcnclmgdlaa
namespace Go.Proofs.Ythdmkcnclmgdlaa
set_option maxRecDepth 20000
open Go.RowKit
set_option linter.unusedVariables false
theorem loops_nil (w : World) :
    Calls Try.prog 98 #[.pointer none] w fun e w' => e = .returned (.int .i64 0) ∧ Below w.heap.size w w' := by
  have EP := Lib.hid (edges_nil w)
  go_enter Try.func98, Try.ntmps98
  go_wp2_with (go_at_call 21; refine EP.out.mono ?_; rintro e w1 ⟨rfl, hb1⟩)
  go_loopw [3, 7] (fun cv i wr => cv = .int .i64 0 ∧ i = .int .i64 0 ∧ Below w.heap.size w wr) (fun _ i _ => 0)
  case atStart => exact ⟨rfl, rfl, hb1⟩
  case round =>
    obtain ⟨rfl, rfl, hbl⟩ := hrel
    go_wp2_with fail
    go_ret
    exact ⟨rfl, hbl⟩
theorem enames_nil (w : World) :
    Calls Try.prog 55 #[.pointer none] w (NewI64 w []) := by
  have HR : Hid (∀ w', Below (w.alloc (.cells #[.int .i64 (-1)] 3)).heap.size (w.alloc (.cells #[.int .i64 (-1)] 3)) w' → Rd w' (w.heap.size + 1) (some ⟨w.heap.size, 0, none⟩) 1 (I64 [-1]) ∧ w.heap.size + 1 ≤ w'.heap.size ∧ Below w.heap.size w w') := fun w' m => by
    have e : (w.alloc (.cells #[.int .i64 (-1)] 3)).heap.size = w.heap.size + 1 := by simp
    have r := Rd.new w 3 #[.int .i64 (-1)] 1 (I64 [-1]) (by simp [I64]) (by simp)
    have z := m.size
    rw [e] at m z
    exact ⟨r.below m, z, ((Below.refl _ _).alloc (Nat.le_refl _) _).trans (m.mono (by omega))⟩
  have DN := Lib.hid (fun W => darts_nil W)
  have RP : Hid (∀ w1, Rd w1 (w.heap.size + 1) (some ⟨w.heap.size, 0, none⟩) 1 (I64 [-1]) ∧ w.heap.size + 1 ≤ w1.heap.size ∧ Below w.heap.size w w1 → Calls Try.prog 92 #[.slice (some ⟨w.heap.size, 0, none⟩) 1 1, .int .i64 0] w1 fun e w' => e = .returned (.slice (some ⟨w1.heap.size, 0, none⟩) 0 0) ∧ w'.ownsRow w1.heap.size 3 1 (.slice (some ⟨w1.heap.size, 0, none⟩) 0 0) 0 (I64 (List.replicate 0 (-1))) ∧ Below w1.heap.size w1 w') := fun w1 h => repeat_p w.heap.size 0 1 (-1) (w.heap.size + 1) w1 (by omega) h.1 h.2.1
  go_enter Try.func55, Try.ntmps55
  go_wp2_with (first
    | (go_at_call 92; refine (RP.out _ HR1.out).mono ?_; rintro e w2 ⟨rfl, hown, hb2⟩)
    | (go_at_call 17; refine (DN.out _).mono ?_; rintro e w1 ⟨rfl, hb1⟩; have HR1 := Lib.hid (HR.out _ hb1)))
  have hown2 := hown.base_le' (show w.heap.size ≤ w1.heap.size by have := HR1.out.2.1; omega)
  have hbl2 : Below w.heap.size w w2 := HR1.out.2.2.trans (hb2.mono (show w.heap.size ≤ w1.heap.size by have := HR1.out.2.1; omega))
  have HO2 := Lib.hid hown2
  clear hown hb2 hown2 hb1 HR1 HR
  generalize w1.heap.size = gn at *
  go_loopw [4, 12] (fun pv i wr => i = .int .i64 0 ∧ Hid (wr.ownsRow w.heap.size 3 1 (.slice (some ⟨gn, 0, none⟩) 0 0) 0 (I64 (List.replicate 0 (-1)))) ∧ Below w.heap.size w wr) (fun _ i _ => 0)
  case atStart => exact ⟨rfl, HO2, hbl2⟩
  case round =>
    obtain ⟨rfl, HO, hbl⟩ := hrel
    go_wp2_with fail
    go_ret
    exact .mk rfl HO.out hbl
end Go.Proofs.Ythdmkcnclmgdlaa
namespace Go.Proofs.Ythdmkcnclmgdlaa
set_option maxRecDepth 20000
open Go.RowKit
set_option linter.unusedVariables false
/-- The number of the part of a dart; how many parts; which is the least dart of a part. -/
noncomputable def pq (l : List Nat) (d : Nat) : Nat := prt (part l) d
noncomputable def pN (l : List Nat) : Nat := pn (part l) l.length
open Classical in
noncomputable def rt (R : Nat → Nat → Prop) (j : Nat) : Nat := if h : ∃ d, Least R d ∧ pn R d = j then h.choose else 0
theorem rt_of {R : Nat → Nat → Prop} {d : Nat} (h : Least R d) : rt R (pn R d) = d := by
  have he : ∃ d', Least R d' ∧ pn R d' = pn R d := ⟨d, h, rfl⟩
  unfold rt
  rw [dif_pos he]
  obtain ⟨h1, h2⟩ := he.choose_spec
  generalize he.choose = c at *
  rcases Nat.lt_trichotomy c d with x | x | x
  · have := pn_lt R h1 x; omega
  · exact x
  · have := pn_lt R h x; omega
/-- What a part has of the first k darts. -/
noncomputable def pV (l : List Nat) (j k : Nat) : Nat := num (fun d => pq l d = j ∧ Leads l d) k
noncomputable def pE (l : List Nat) (j k : Nat) : Nat := num (fun d => pq l d = j ∧ d % 2 = 0) k
noncomputable def pG (l : List Nat) (j : Nat) : Int := (2 - (pV l j l.length : Int) + (pE l j l.length : Int) - (num (fun d => pq l d = j ∧ Leads (phiL l) d) l.length : Int)).tdiv 2
noncomputable def pB (l : List Nat) (j k : Nat) : Nat := num (fun d => pq l d = j ∧ Leads (phiL l) d) k
theorem num_le (Q : Nat → Prop) (k : Nat) : num Q k ≤ k := by
  unfold num
  exact Nat.le_trans (List.length_filter_le _ _) (by simp)
theorem pV_le (l : List Nat) (j k : Nat) : pV l j k ≤ k := num_le _ _
theorem pE_le (l : List Nat) (j k : Nat) : pE l j k ≤ k := num_le _ _
theorem pB_le (l : List Nat) (j k : Nat) : pB l j k ≤ k := num_le _ _
theorem num_zero {Q : Nat → Prop} {k : Nat} (h : ∀ d, d < k → ¬ Q d) : num Q k = 0 := by
  unfold num
  rw [List.length_eq_zero_iff, List.filter_eq_nil_iff]
  intro d hd
  simpa using h d (by simpa using hd)
theorem num_congr {Q S : Nat → Prop} {k : Nat} (h : ∀ d, d < k → (Q d ↔ S d)) : num Q k = num S k := by
  unfold num
  congr 1
  apply List.filter_congr
  intro d hd
  have := h d (by simpa using hd)
  simp [this]
/-- The cells of the row while it is built: the counts have gone so far. -/
noncomputable def pc (l : List Nat) (kv ke kb kg i : Nat) : Int :=
  if i % 5 = 0 then (rt (part l) (i / 5) : Int) else if i % 5 = 1 then (pV l (i / 5) kv : Int) else if i % 5 = 2 then (pE l (i / 5) ke : Int) else if i % 5 = 3 then (pB l (i / 5) kb : Int) else
    if i / 5 < kg then pG l (i / 5) else 0
noncomputable def pRow (l : List Nat) (p kv ke kb kg : Nat) : List Int := (List.range (5 * p)).map (pc l kv ke kb kg)
theorem pRow_len (l : List Nat) (p kv ke kb kg : Nat) : (pRow l p kv ke kb kg).length = 5 * p := by simp [pRow]
theorem map_rangeI (f : Nat → Int) (n i : Nat) (h : i < n) : ((List.range n).map f).getD i 0 = f i := by simp [List.getD_eq_getElem?_getD, List.getElem?_range h]
theorem pRow_get (l : List Nat) (p kv ke kb kg i : Nat) (h : i < 5 * p) : (pRow l p kv ke kb kg).getD i 0 = pc l kv ke kb kg i := map_rangeI _ _ _ h
theorem pc_0 (l : List Nat) (kv ke kb kg q : Nat) : pc l kv ke kb kg (5 * q) = rt (part l) q := by unfold pc; rw [if_pos (by omega), show 5 * q / 5 = q by omega]
theorem pc_1 (l : List Nat) (kv ke kb kg q : Nat) : pc l kv ke kb kg (5 * q + 1) = pV l q kv := by unfold pc; rw [if_neg (by omega), if_pos (by omega), show (5 * q + 1) / 5 = q by omega]
theorem pc_2 (l : List Nat) (kv ke kb kg q : Nat) : pc l kv ke kb kg (5 * q + 2) = pE l q ke := by unfold pc; rw [if_neg (by omega), if_neg (by omega), if_pos (by omega), show (5 * q + 2) / 5 = q by omega]
theorem pc_3 (l : List Nat) (kv ke kb kg q : Nat) : pc l kv ke kb kg (5 * q + 3) = pB l q kb := by unfold pc; rw [if_neg (by omega), if_neg (by omega), if_neg (by omega), if_pos (by omega), show (5 * q + 3) / 5 = q by omega]
theorem pc_4 (l : List Nat) (kv ke kb kg q : Nat) : pc l kv ke kb kg (5 * q + 4) = if q < kg then pG l q else 0 := by unfold pc; rw [if_neg (by omega), if_neg (by omega), if_neg (by omega), if_neg (by omega), show (5 * q + 4) / 5 = q by omega]
theorem pRow_ext {l : List Nat} {p kv ke kb kg kv' ke' kb' kg' s : Nat} {v : Int} (hs : s < 5 * p) (h : ∀ i, i < 5 * p → pc l kv' ke' kb' kg' i = if i = s then v else pc l kv ke kb kg i) :
    (pRow l p kv ke kb kg).set s v = pRow l p kv' ke' kb' kg' := getDI_ext (by simp [pRow_len]) fun i hi => by
  have hi : i < 5 * p := by simpa [pRow_len] using hi
  rw [getDI_set _ _ _ _ (by rw [pRow_len]; exact hs), pRow_get _ _ _ _ _ _ _ hi, pRow_get _ _ _ _ _ _ _ hi, h i hi]
theorem pRow_same {l : List Nat} {p kv ke kb kg kv' ke' kb' kg' : Nat} (h : ∀ i, i < 5 * p → pc l kv ke kb kg i = pc l kv' ke' kb' kg' i) : pRow l p kv ke kb kg = pRow l p kv' ke' kb' kg' :=
  getDI_ext (by simp [pRow_len]) fun i hi => by
    have hi : i < 5 * p := by simpa [pRow_len] using hi
    rw [pRow_get _ _ _ _ _ _ _ hi, pRow_get _ _ _ _ _ _ _ hi, h i hi]
/-! ### one step of each count -/
theorem pV_yes {l : List Nat} {k : Nat} (h : Leads l k) : pV l (pq l k) (k + 1) = pV l (pq l k) k + 1 := (num_next _ k).1 ⟨rfl, h⟩
theorem pV_else {l : List Nat} {k j : Nat} (h : ¬ Leads l k ∨ pq l k ≠ j) : pV l j (k + 1) = pV l j k := (num_next _ k).2 fun ⟨a, b⟩ => h.elim (fun x => x b) (fun x => x a)
theorem pB_yes {l : List Nat} {k : Nat} (h : Leads (phiL l) k) : pB l (pq l k) (k + 1) = pB l (pq l k) k + 1 := (num_next _ k).1 ⟨rfl, h⟩
theorem pB_else {l : List Nat} {k j : Nat} (h : ¬ Leads (phiL l) k ∨ pq l k ≠ j) : pB l j (k + 1) = pB l j k := (num_next _ k).2 fun ⟨a, b⟩ => h.elim (fun x => x b) (fun x => x a)
theorem pE_yes {l : List Nat} {k : Nat} (h : k % 2 = 0) : pE l (pq l k) (k + 1) = pE l (pq l k) k + 1 := (num_next _ k).1 ⟨rfl, h⟩
theorem pE_else {l : List Nat} {k j : Nat} (h : ¬ k % 2 = 0 ∨ pq l k ≠ j) : pE l j (k + 1) = pE l j k := (num_next _ k).2 fun ⟨a, b⟩ => h.elim (fun x => x b) (fun x => x a)
theorem row_v {l : List Nat} {p k ke kb kg : Nat} (hq : pq l k < p) (h : Leads l k) : (pRow l p k ke kb kg).set (5 * pq l k + 1) ((pV l (pq l k) k : Int) + 1) = pRow l p (k + 1) ke kb kg :=
  pRow_ext (by omega) fun i hi => by
    by_cases e : i = 5 * pq l k + 1
    · subst e; rw [if_pos rfl, pc_1, pV_yes h]; rfl
    · rw [if_neg e]; unfold pc
      by_cases e1 : i % 5 = 1
      · rw [pV_else (.inr (by omega))]
      · rw [if_neg e1, if_neg e1]
theorem row_v0 {l : List Nat} {p k ke kb kg : Nat} (h : ¬ Leads l k) : pRow l p k ke kb kg = pRow l p (k + 1) ke kb kg := pRow_same fun i hi => by unfold pc; rw [pV_else (.inl h)]
theorem row_b {l : List Nat} {p k kv ke kg : Nat} (hq : pq l k < p) (h : Leads (phiL l) k) : (pRow l p kv ke k kg).set (5 * pq l k + 3) ((pB l (pq l k) k : Int) + 1) = pRow l p kv ke (k + 1) kg :=
  pRow_ext (by omega) fun i hi => by
    by_cases e : i = 5 * pq l k + 3
    · subst e; rw [if_pos rfl, pc_3, pB_yes h]; rfl
    · rw [if_neg e]; unfold pc
      by_cases e1 : i % 5 = 3
      · rw [pB_else (.inr (by omega))]
      · rw [if_neg e1, if_neg e1]
theorem row_b0 {l : List Nat} {p k kv ke kg : Nat} (h : ¬ Leads (phiL l) k) : pRow l p kv ke k kg = pRow l p kv ke (k + 1) kg := pRow_same fun i hi => by unfold pc; rw [pB_else (.inl h)]
theorem row_e {l : List Nat} {p k kv kb kg : Nat} (hq : pq l k < p) (h : k % 2 = 0) : (pRow l p kv k kb kg).set (5 * pq l k + 2) ((pE l (pq l k) k : Int) + 1) = pRow l p kv (k + 1) kb kg :=
  pRow_ext (by omega) fun i hi => by
    by_cases e : i = 5 * pq l k + 2
    · subst e; rw [if_pos rfl, pc_2, pE_yes h]; rfl
    · rw [if_neg e]; unfold pc
      by_cases e1 : i % 5 = 2
      · rw [pE_else (.inr (by omega))]
      · rw [if_neg e1, if_neg e1]
theorem row_e0 {l : List Nat} {p k kv kb kg : Nat} (h : ¬ k % 2 = 0) : pRow l p kv k kb kg = pRow l p kv (k + 1) kb kg := pRow_same fun i hi => by unfold pc; rw [pE_else (.inl h)]
theorem row_g {l : List Nat} {p j : Nat} (hj : j < p) (kv ke kb : Nat) : (pRow l p kv ke kb j).set (5 * j + 4) (pG l j) = pRow l p kv ke kb (j + 1) :=
  pRow_ext (by omega) fun i hi => by
    by_cases e : i = 5 * j + 4
    · subst e; rw [if_pos rfl, pc_4, if_pos (by omega)]
    · rw [if_neg e]; unfold pc
      by_cases e0 : i % 5 = 0
      · rw [if_pos e0, if_pos e0]
      rw [if_neg e0, if_neg e0]
      by_cases e1 : i % 5 = 1
      · rw [if_pos e1, if_pos e1]
      rw [if_neg e1, if_neg e1]
      by_cases e2 : i % 5 = 2
      · rw [if_pos e2, if_pos e2]
      rw [if_neg e2, if_neg e2]
      by_cases e3 : i % 5 = 3
      · rw [if_pos e3, if_pos e3]
      rw [if_neg e3, if_neg e3]
      by_cases c : i / 5 < j
      · rw [if_pos c, if_pos (by omega)]
      · rw [if_neg c, if_neg (by omega)]
theorem range_five (f : Nat → Int) (p : Nat) : (List.range (5 * (p + 1))).map f = (List.range (5 * p)).map f ++ [f (5 * p), f (5 * p + 1), f (5 * p + 2), f (5 * p + 3), f (5 * p + 4)] := by
  rw [show 5 * (p + 1) = 5 * p + 1 + 1 + 1 + 1 + 1 by omega]
  simp [List.range_succ]
/-! ### when a new part is met -/
section
variable {l b : List Nat}
theorem sgL_it (l : List Nat) (i : Nat) : ∀ k, itf (sgL l) k i = it l k i
  | 0 => rfl
  | k + 1 => by show sgL l (itf (sgL l) k i) = _; rw [sgL_it l i k]; rfl
theorem leads_least (h : Inv l b) {d : Nat} (hd : d ≤ l.length) : Leads l d ↔ Least (Orb (sgL l)) d := by
  unfold Leads Least
  constructor
  · intro H j hj ⟨k, e⟩
    refine H j hj ((mem_orb h (by omega)).2 ⟨k, ?_⟩)
    rw [← sgL_it]; exact e
  · intro H j hj m
    obtain ⟨k, e⟩ := (mem_orb h (by omega)).1 m
    exact H j hj ⟨k, by rw [sgL_it]; exact e⟩
theorem phi_fk (he : l.length % 2 = 0) {i : Nat} (hi : i < l.length) : sgL (phiL l) i = fk (sgL l) (l.length / 2) i := by
  rw [fk_is, if_pos (by omega)]
  unfold sgL
  rw [phiL_get l i hi, mt_mateN]
theorem orb_congr {n : Nat} {f g : Nat → Nat} (hf : PF n f) (h : ∀ i, i < n → f i = g i) {i : Nat} (hi : i < n) : ∀ k, itf f k i = itf g k i ∧ itf f k i < n
  | 0 => ⟨rfl, hi⟩
  | k + 1 => by
    obtain ⟨e, lt⟩ := orb_congr hf h hi k
    refine ⟨?_, hf.lt _ lt⟩
    show f (itf f k i) = g (itf g k i)
    rw [← e, h _ lt]
theorem leads_phi (h : Inv l b) (he : l.length % 2 = 0) (hp : Inv (phiL l) (phiB l b)) {d : Nat} (hd : d ≤ l.length) : Leads (phiL l) d ↔ Least (Orb (fk (sgL l) (l.length / 2))) d := by
  rw [leads_least hp (by rw [phiL_len]; exact hd)]
  have hpf : PF l.length (sgL (phiL l)) := by have := sgL_pf hp; rwa [phiL_len] at this
  unfold Least
  constructor
  · intro H j hj ⟨k, e⟩
    exact H j hj ⟨k, by rw [(orb_congr hpf (fun i hi => phi_fk he hi) (show j < l.length by omega) k).1]; exact e⟩
  · intro H j hj ⟨k, e⟩
    exact H j hj ⟨k, by rw [← (orb_congr hpf (fun i hi => phi_fk he hi) (show j < l.length by omega) k).1]; exact e⟩
theorem new_part (h : Inv l b) (he : l.length % 2 = 0) (hp : Inv (phiL l) (phiB l b)) {d : Nat} (hd : d < l.length) (H : Least (part l) d) : Leads l d ∧ Leads (phiL l) d ∧ d % 2 = 0 := by
  have hpf := sgL_pf h
  have hn : l.length = 2 * (l.length / 2) := by omega
  refine ⟨(leads_least h (by omega)).2 fun j hj o => H j hj (gk_mono _ (Nat.zero_le _) o), (leads_phi h he hp (by omega)).2 fun j hj o => H j hj (fk_sub hpf hn _ (Nat.le_refl _) j d (by omega) o), ?_⟩
  have hm := gk_mt hpf hn d hd
  by_cases e : d % 2 = 0
  · exact e
  · exfalso
    have : mt d = d - 1 := by unfold mt; rw [if_neg e]
    rw [this] at hm
    exact H (d - 1) (by omega) ((part_eqv h he).symm _ _ hd (by omega) hm)
theorem pq_lt (h : Inv l b) (he : l.length % 2 = 0) {i d : Nat} (hi : i < l.length) (hd : i < d) : pq l i < pn (part l) d := by
  refine prt_lt (part_eqv h he) hi ?_
  have := (rep_is (part_eqv h he) hi).1
  omega
theorem pq_new (h : Inv l b) (he : l.length % 2 = 0) {d : Nat} (hd : d < l.length) (H : Least (part l) d) : pq l d = pn (part l) d := prt_least (part_eqv h he) hd H
theorem pq_old (h : Inv l b) (he : l.length % 2 = 0) {d : Nat} (hd : d < l.length) (H : ¬ Least (part l) d) : pq l d < pn (part l) d := by
  refine prt_lt (part_eqv h he) hd ?_
  have h1 := (rep_is (part_eqv h he) hd).1
  have h2 : rep (part l) d ≠ d := fun e => H ((rep_least (part_eqv h he) hd).2 e)
  omega
theorem cnt_new (h : Inv l b) (he : l.length % 2 = 0) {k : Nat} (hk : k ≤ l.length) : pV l (pn (part l) k) k = 0 ∧ pE l (pn (part l) k) k = 0 ∧ pB l (pn (part l) k) k = 0 :=
  ⟨num_zero fun d hd ⟨a, _⟩ => by have := pq_lt h he (show d < l.length by omega) hd; omega, num_zero fun d hd ⟨a, _⟩ => by have := pq_lt h he (show d < l.length by omega) hd; omega, num_zero fun d hd ⟨a, _⟩ => by have := pq_lt h he (show d < l.length by omega) hd; omega⟩
theorem row_new (h : Inv l b) (he : l.length % 2 = 0) {k : Nat} (hk : k < l.length) (H : Least (part l) k) : pRow l (pn (part l) k) k k k 0 ++ [(k : Int), 0, 0, 0, 0] = pRow l (pn (part l) (k + 1)) k k k 0 := by
  rw [(pn_next (part l) k).1 H]
  unfold pRow
  rw [range_five, pc_0, pc_1, pc_2, pc_3, pc_4, rt_of H]
  obtain ⟨a, c, d⟩ := cnt_new h he (show k ≤ l.length by omega)
  rw [a, c, d]
  simp
theorem row_old {k : Nat} (H : ¬ Least (part l) k) (kv ke kb kg : Nat) : pRow l (pn (part l) k) kv ke kb kg = pRow l (pn (part l) (k + 1)) kv ke kb kg := by rw [(pn_next (part l) k).2 H]
/-! ### the genus -/
theorem part_cls (h : Inv l b) (he : l.length % 2 = 0) (hp : Inv (phiL l) (phiB l b)) {d : Nat} (hd : d < l.length) :
    ∃ G : Nat, pV l (pq l d) l.length + pB l (pq l d) l.length + 2 * G = pE l (pq l d) l.length + 2 := by
  have hpf := sgL_pf h
  have hn : l.length = 2 * (l.length / 2) := by omega
  have hq := part_eqv h he
  obtain ⟨G, hG⟩ := euler_part (P := fun i => i < l.length ∧ part l d i) (p := d) hpf hn
    (fun i hi => ⟨fun ⟨_, r⟩ => ⟨hi, hq.trans _ _ _ hd (hpf.lt i hi) hi r (hq.symm _ _ hi (hpf.lt i hi) (gk_sig hpf i _))⟩, fun ⟨_, r⟩ => ⟨hpf.lt i hi, hq.trans _ _ _ hd hi (hpf.lt i hi) r (gk_sig hpf i _)⟩⟩)
    (fun e hE => by
      have h2 : part l (2 * e) (2 * e + 1) := gk_edge hpf e _ hE
      exact ⟨fun ⟨_, r⟩ => ⟨by omega, hq.trans _ _ _ hd (by omega) (by omega) r h2⟩, fun ⟨_, r⟩ => ⟨by omega, hq.trans _ _ _ hd (by omega) (by omega) r (hq.symm _ _ (by omega) (by omega) h2)⟩⟩)
    hd (fun i hi => ⟨fun r => r.2, fun r => ⟨hi, r⟩⟩)
  refine ⟨G, ?_⟩
  have e1 : pV l (pq l d) l.length = cls (Orb (sgL l)) (fun i => i < l.length ∧ part l d i) l.length := by
    unfold pV num cls
    congr 1
    apply List.filter_congr
    intro i hi
    have hi : i < l.length := by simpa using hi
    have a1 : pq l i = pq l d ↔ part l d i := by unfold pq; rw [eq_comm, prt_iff hq hd hi]
    have a2 := leads_least h (show i ≤ l.length by omega)
    rw [decide_eq_decide]
    exact ⟨fun ⟨x, y⟩ => ⟨⟨hi, a1.1 x⟩, a2.1 y⟩, fun ⟨⟨_, x⟩, y⟩ => ⟨a1.2 x, a2.2 y⟩⟩
  have e2 : pB l (pq l d) l.length = cls (Orb (fk (sgL l) (l.length / 2))) (fun i => i < l.length ∧ part l d i) l.length := by
    unfold pB num cls
    congr 1
    apply List.filter_congr
    intro i hi
    have hi : i < l.length := by simpa using hi
    have a1 : pq l i = pq l d ↔ part l d i := by unfold pq; rw [eq_comm, prt_iff hq hd hi]
    have a2 := leads_phi h he hp (show i ≤ l.length by omega)
    rw [decide_eq_decide]
    exact ⟨fun ⟨x, y⟩ => ⟨⟨hi, a1.1 x⟩, a2.1 y⟩, fun ⟨⟨_, x⟩, y⟩ => ⟨a1.2 x, a2.2 y⟩⟩
  have e3 : ∀ k, k ≤ l.length / 2 → pE l (pq l d) (2 * k) = edg (fun i => i < l.length ∧ part l d i) k := fun k => by
    induction k with
    | zero => intro _; simp [pE, num, edg]
    | succ k ih =>
      intro hk
      have ih' := ih (by omega)
      have a1 : pq l (2 * k) = pq l d ↔ part l d (2 * k) := by unfold pq; rw [eq_comm, prt_iff hq hd (by omega)]
      have n1 : pE l (pq l d) (2 * k + 1 + 1) = pE l (pq l d) (2 * k + 1) := pE_else (.inl (by omega))
      rw [show 2 * (k + 1) = 2 * k + 1 + 1 by omega, n1]
      by_cases r : part l d (2 * k)
      · rw [(edg_next _ k).1 ⟨by omega, r⟩, ← ih', ← a1.2 r, pE_yes (by omega)]
      · rw [(edg_next _ k).2 (fun x => r x.2), ← ih']
        exact pE_else (.inr fun e => r (a1.1 e))
  have e4 := e3 (l.length / 2) (Nat.le_refl _)
  rw [← hn] at e4
  rw [e1, e2, e4]
  exact hG
/-- Every part has a dart. -/
theorem part_has (l : List Nat) : ∀ k, ∀ j, j < pn (part l) k → ∃ d, d < k ∧ Least (part l) d ∧ pn (part l) d = j := by
  intro k
  induction k with
  | zero => intro j hj; have := pn_le (part l) 0; omega
  | succ k ih =>
    intro j hj
    by_cases H : Least (part l) k
    · rw [(pn_next (part l) k).1 H] at hj
      by_cases e : j = pn (part l) k
      · exact ⟨k, by omega, H, e.symm⟩
      · obtain ⟨d, a, c⟩ := ih j (by omega); exact ⟨d, by omega, c⟩
    · rw [(pn_next (part l) k).2 H] at hj
      obtain ⟨d, a, c⟩ := ih j hj; exact ⟨d, by omega, c⟩
theorem pG_is (h : Inv l b) (he : l.length % 2 = 0) (hp : Inv (phiL l) (phiB l b)) {j : Nat} (hj : j < pN l) :
    ∃ G : Nat, pG l j = (G : Int) ∧ pV l j l.length + pB l j l.length + 2 * G = pE l j l.length + 2 := by
  obtain ⟨d, a, H, e⟩ := part_has l l.length j hj
  obtain ⟨G, hG⟩ := part_cls h he hp a
  rw [pq_new h he a H, e] at hG
  refine ⟨G, ?_, hG⟩
  unfold pG
  have : num (fun d => pq l d = j ∧ Leads (phiL l) d) l.length = pB l j l.length := rfl
  rw [this, show (2 - (pV l j l.length : Int) + (pE l j l.length : Int) - (pB l j l.length : Int)) = 2 * (G : Int) by omega, Int.mul_tdiv_cancel_left _ (by decide)]
end
end Go.Proofs.Ythdmkcnclmgdlaa
namespace Go.Proofs.Ythdmkcnclmgdlaa
set_option maxRecDepth 20000
open Go.RowKit
set_option linter.unusedVariables false
theorem info_part : (Try.prog.info? 78).map (fun i => (i.zero, i.size, i.bytes)) = some (some (.agg #[.int .i64 0, .int .i64 0, .int .i64 0, .int .i64 0, .int .i64 0]), 5, 40) := by kernel_rfl
theorem info_part5 : (Try.prog.info? 78).map (·.size) = some 5 := by kernel_rfl
section
variable {w : World} {base g n c : Nat} {e : TypeId} {y : List Int}
theorem own_set5 (h : w.ownsRow base e 5 (.slice (some ⟨g, 0, none⟩) n c) n (I64 y)) (k : Nat) (v : Int) :
    (w.setCell ⟨g, k, none⟩ (.int .i64 v)).ownsRow base e 5 (.slice (some ⟨g, 0, none⟩) n c) n (I64 (y.set k v)) := by
  rw [I64_set]; exact (h.stored k _).1
theorem own_cell5 (h : w.ownsRow base e 5 (.slice (some ⟨g, 0, none⟩) n c) n (I64 y)) (k : Nat) (hk : k < n * 5) :
    w.cell? ⟨g, k, none⟩ = some (.int .i64 (y.getD k 0)) := by
  have hl : y.length = n * 5 := by have := h.1; rw [I64_len] at this; omega
  rw [h.cellAt k (by omega), I64_get y k (by omega)]
theorem own_len5 {v : Value} (h : w.ownsRow base e 5 v n (I64 y)) : y.length = n * 5 := by
  have := h.1; rw [I64_len] at this; omega
end
/-- A row of parts of the call's own. -/
def NewPt (w : World) (p : Nat) (z : List Int) (e : Ending) (w' : World) : Prop :=
  ∃ A c, e = .returned (.slice A p c) ∧ p ≤ c ∧ c ≤ maxLen ∧ w'.ownsRow w.heap.size 78 5 (.slice A p c) p (I64 z) ∧ Below w.heap.size w w'
theorem NewPt.mk {w w' : World} {p : Nat} {z : List Int} {e : Ending} {v : Value} (he : e = .returned v) (h : w'.ownsRow w.heap.size 78 5 v p (I64 z)) (hb : Below w.heap.size w w') : NewPt w p z e w' := by
  obtain ⟨A, c, rfl, h1, h2⟩ := own_form h
  exact ⟨A, c, he, h1, h2, h, hb⟩
/-- The cells of the parts, and of lone vertices behind them. -/
noncomputable def pcL (l : List Nat) (i : Nat) : Int :=
  if i / 5 < pN l then pc l l.length l.length l.length (pN l) i else if i % 5 = 0 then -1 else if i % 5 = 1 then 1 else if i % 5 = 3 then 1 else 0
noncomputable def partsC (l : List Nat) (c : Nat) : List Int := (List.range (5 * c)).map (pcL l)
theorem partsC_len (l : List Nat) (c : Nat) : (partsC l c).length = 5 * c := by simp [partsC]
theorem partsC_start (l : List Nat) : pRow l (pN l) l.length l.length l.length (pN l) = partsC l (pN l) := by
  unfold pRow partsC
  apply List.map_congr_left
  intro i hi
  have hi : i < 5 * pN l := by simpa using hi
  unfold pcL
  rw [if_pos (by omega)]
theorem partsC_lone (l : List Nat) (c : Nat) (h : pN l ≤ c) : partsC l c ++ [-1, 1, 0, 1, 0] = partsC l (c + 1) := by
  unfold partsC
  rw [range_five]
  have e : ∀ f, f < 5 → pcL l (5 * c + f) = if f = 0 then -1 else if f = 1 then 1 else if f = 3 then 1 else 0 := fun f hf => by
    unfold pcL
    rw [if_neg (by omega), show (5 * c + f) % 5 = f by omega]
  have e0 := e 0 (by omega)
  rw [Nat.add_zero] at e0
  rw [e0, e 1 (by omega), e 2 (by omega), e 3 (by omega), e 4 (by omega)]
  simp
theorem partsC_get (l : List Nat) (c j f : Nat) (hj : j < c) (hf : f < 5) : (partsC l c).getD (5 * j + f) 0 = pcL l (5 * j + f) := map_rangeI _ _ _ (by omega)
end Go.Proofs.Ythdmkcnclmgdlaa
