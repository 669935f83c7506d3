/- Cut and Shrink of any map. -/
import Derived.Test.YthbhbcakiaaapaaUWithM
namespace Go.Proofs.Ythbhbcakiaaapaa
set_option maxRecDepth 20000
open Go.RowKit
set_option linter.unusedVariables false
theorem ready_out (g : Nat) (l b : List Nat) (root lone i : Int) (w : World) (h : MapAt w g l b root lone) (hi : i < 0 ∨ ((l.length / 2 : Nat) : Int) ≤ i) :
    Calls Try.prog 59 #[.pointer (some ⟨g, 0, none⟩), .int .i64 i] w fun e w' => e = .returned (.int .i64 1) ∧ Below w.heap.size w w' := by
  have EP := Lib.hid (edges_p g l b root lone w h)
  generalize l.length / 2 = m at *
  clear h
  by_cases h0 : i < 0
  · go_enter Try.func59, Try.ntmps59
    go_wp2_with fail
    go_ret
    exact ⟨rfl, Below.refl _ _⟩
  · have h1 : (m : Int) ≤ i := by omega
    have h2 : decide ((m : Int) ≤ i) = true := by rw [decide_eq_true_iff]; exact h1
    go_enter Try.func59, Try.ntmps59
    go_wp2_with fail
    refine EP.out.mono ?_
    rintro e w1 ⟨rfl, b1⟩
    go_wp2_with fail
    go_ret
    exact ⟨rfl, b1⟩
theorem cut_out (g : Nat) (l b : List Nat) (root lone i : Int) (w : World) (h : MapAt w g l b root lone) (hi : i < 0 ∨ ((l.length / 2 : Nat) : Int) ≤ i) :
    Calls Try.prog 35 #[.pointer (some ⟨g, 0, none⟩), .int .i64 i] w fun e w' => e = .returned (.tuple #[.pointer none, .int .i64 1]) ∧ Below w.heap.size w w' := by
  have RP := Lib.hid (ready_out g l b root lone i w h hi)
  clear h hi
  go_enter Try.func35, Try.ntmps35
  go_wp2_with fail
  refine RP.out.mono ?_
  rintro e w1 ⟨rfl, b1⟩
  go_wp2_with fail
  go_ret2
  exact ⟨rfl, b1⟩
theorem shrink_out (g : Nat) (l b : List Nat) (root lone i : Int) (w : World) (h : MapAt w g l b root lone) (hi : i < 0 ∨ ((l.length / 2 : Nat) : Int) ≤ i) :
    Calls Try.prog 36 #[.pointer (some ⟨g, 0, none⟩), .int .i64 i] w fun e w' => e = .returned (.tuple #[.pointer none, .int .i64 1]) ∧ Below w.heap.size w w' := by
  have RP := Lib.hid (ready_out g l b root lone i w h hi)
  clear h hi
  go_enter Try.func36, Try.ntmps36
  go_wp2_with fail
  refine RP.out.mono ?_
  rintro e w1 ⟨rfl, b1⟩
  go_wp2_with fail
  go_ret2
  exact ⟨rfl, b1⟩
/-- How many of the first k are nought. -/
def zerTo (L : List Int) (k : Nat) : Nat := ((List.range k).filter fun i => decide (L.getD i 0 = 0)).length
theorem zerTo_yes (L : List Int) (k : Nat) (h : L.getD k 0 = 0) : zerTo L (k + 1) = zerTo L k + 1 := by unfold zerTo; rw [List.range_succ, List.filter_append, List.length_append, List.filter_cons_of_pos (by rw [decide_eq_true_iff]; exact h)]; rfl
theorem zerTo_no (L : List Int) (k : Nat) (h : ¬ L.getD k 0 = 0) : zerTo L (k + 1) = zerTo L k := by unfold zerTo; rw [List.range_succ, List.filter_append, List.length_append, List.filter_cons_of_neg (by rw [decide_eq_true_iff]; exact h)]; rfl
theorem zerTo_le (L : List Int) (k : Nat) : zerTo L k ≤ k := by unfold zerTo; exact Nat.le_trans (List.length_filter_le _ _) (by simp)
theorem besN_len (l : List Nat) (lone : Int) (e : Nat) : 1 ≤ (besN l lone e).length ∧ (besN l lone e).length ≤ 2 := by unfold besN; split <;> simp
set_option maxHeartbeats 4000000 in
theorem cut_p (g : Nat) (l b : List Nat) (r e : Nat) (lone : Int) (w : World) (h : MapAt w g l b (r : Int) lone) (hi : Inv l b) (hr : r < l.length) (he : e < l.length / 2) (hl0 : 0 ≤ lone) (hl1 : lone ≤ 60000) :
    Calls Try.prog 35 #[.pointer (some ⟨g, 0, none⟩), .int .i64 (e : Int)] w fun en w' => ∃ b', Inv (woN l l e) b' ∧ NewMap w (woN l l e) b' (heirN l b r e) (lone + (zerTo (besN l lone e) (besN l lone e).length : Nat)) en w' := by
  have hev := h.1.1
  have hE : 2 * e + 2 ≤ l.length := by omega
  obtain ⟨b', hb'⟩ := cut_inv hi hE
  have hL := besN_len l lone e
  have RP := Lib.hid (ready_in g l b r lone e w h he)
  have BP : Hid (∀ W, Below w.heap.size w W → Calls Try.prog 60 #[.pointer (some ⟨g, 0, none⟩), .int .i64 (e : Int)] W fun en w' => ∃ A c, en = .returned (.slice A (besN l lone e).length c) ∧ Rd w' w'.heap.size A (besN l lone e).length (I64 (besN l lone e)) ∧ Below W.heap.size W w') := fun W m => besides_p g l b r lone e W (h.below m) he
  have hz := zerTo_le (besN l lone e) (besN l lone e).length
  have WP : Hid (∀ W, Below w.heap.size w W → Calls Try.prog 61 #[.pointer (some ⟨g, 0, none⟩), .int .i64 (e : Int), .func (.func 31) #[.pointer (some ⟨g, 0, none⟩)] #[], .int .i64 ((zerTo (besN l lone e) (besN l lone e).length : Nat) : Int)] W (NewMap W (woN l l e) b' (heirN l b r e) (lone + (zerTo (besN l lone e) (besN l lone e).length : Nat)))) := fun W m =>
    without_s g l b l b' r e lone _ W (h.below m) hi hr he (fun k hk => hi.lt k hk) (fun k hk W' m' => sigma_in g l b r lone k W' ((h.below m).below m') hk) (fun d hd c => out_s hi hd c he) hb' (by rw [woN_len _ _ _ hE]; omega) (by rw [woN_len _ _ _ hE]; exact heir_ok hi hev hr hE) (by omega) (by omega)
  have hmf : ∀ (fn : Fn) (first cap : Array Value) (w : World), (Instr.makeFunc fn first cap).run Try.prog w = .ok (.func fn first cap) w := fun _ _ _ _ => rfl
  have HB' := Lib.hid hb'
  clear h hi hb' hz
  generalize woN l l e = WN at *
  generalize heirN l b r e = HR at *
  generalize besN l lone e = L at *
  obtain ⟨q, hq⟩ : ∃ q, q = L.length := ⟨_, rfl⟩
  rw [← hq] at hL BP WP ⊢
  have HQ := Lib.hid hq
  clear hq
  go_enter Try.func35, Try.ntmps35
  go_wp2_with fail
  refine RP.out.mono ?_
  rintro en w1 ⟨rfl, b1⟩
  go_wp2_with fail
  refine (BP.out _ b1).mono ?_
  rintro en w2 ⟨A, c, rfl, hrd, b2⟩
  have B2 := Lib.hid (b1.trans (b2.mono b1.size))
  obtain ⟨bb, o, rfl, _, kk⟩ := hrd.i64 (by omega)
  have KK := Lib.hid kk
  clear b1 b2 hrd RP BP kk
  go_wp2_with fail
  go_loopw [7, 20] (fun s i wr => ∃ (k y : Nat), k ≤ q ∧ y ≤ k ∧ s = .int .i64 (y : Int) ∧ i = .int .i64 (k : Int) ∧ Hid (y = zerTo L k) ∧ wr = w2) (fun _ i _ => q - (intOf i).toNat)
  case atStart => exact ⟨0, 0, by omega, by omega, rfl, rfl, rfl, rfl⟩
  case round =>
    obtain ⟨k, y, hk, hyk, rfl, rfl, HY, rfl⟩ := hrel
    by_cases hlt : k < q
    · have hdk : decide (k < q) = true := by rw [decide_eq_true_iff]; exact hlt
      have x0 := KK.out k hlt
      by_cases hv : L.getD k 0 = 0
      · have NX := Lib.hid (zerTo_yes L k hv)
        rw [hv] at x0
        clear hv
        go_wp2_with fail
        go_roundw
        case rel => exact ⟨k + 1, y + 1, by omega, by omega, by go_num, by go_num, by rw [NX.out, ← HY.out]; rfl, trivial⟩
        case measure => simp [intOf]; omega
      · have NX := Lib.hid (zerTo_no L k hv)
        generalize L.getD k 0 = v at *
        have hvb : (v == 0) = false := by rw [beq_eq_false_iff_ne]; exact hv
        go_wp2_with fail
        go_roundw
        case rel => exact ⟨k + 1, y, by omega, by omega, rfl, by go_num, by rw [NX.out]; exact HY.out, trivial⟩
        case measure => simp [intOf]; omega
    · obtain rfl : k = q := by omega
      have hdk : decide (k < k) = false := by simp
      have hy := HY.out
      rw [← hy] at WP
      clear hy KK
      go_wp2_with fail
      refine (WP.out _ B2.out).mono ?_
      rintro en w3 ⟨g3, rfl, hm, b3, hlo⟩
      have HM := Lib.hid hm
      have hs := B2.out.size
      have HLO := Lib.hid (show MapLo w.heap.size w3 g3 from by
        obtain ⟨p, A, n, c, S, k, d, q, A', n', c', S', k', d', rt, ln, hb, h1, h2, h3, h4, h5, h6, h7⟩ := hlo
        exact ⟨p, A, n, c, S, k, d, q, A', n', c', S', k', d', rt, ln, hb, Nat.le_trans hs h1, h2.le hs, h3.le hs, h4.le hs, h5.le hs, h6.le hs, h7.le hs⟩)
      have BB := Lib.hid (B2.out.trans (b3.mono hs))
      clear hm hlo b3
      go_wp2_with fail
      go_ret2
      exact ⟨b', HB'.out, g3, rfl, by rw [← HY.out]; exact HM.out, BB.out, HLO.out⟩
set_option maxHeartbeats 4000000 in
theorem shrink_loop (g : Nat) (l b : List Nat) (root lone : Int) (e : Nat) (w : World) (h : MapAt w g l b root lone) (he : e < l.length / 2) (hn : nameOf l (2 * e) = nameOf l (2 * e + 1)) :
    Calls Try.prog 36 #[.pointer (some ⟨g, 0, none⟩), .int .i64 (e : Int)] w fun en w' => en = .returned (.tuple #[.pointer none, .int .i64 8]) ∧ Below w.heap.size w w' := by
  have hL : (besN l lone e).length = 1 := by unfold besN; rw [if_pos hn]; rfl
  have RP := Lib.hid (ready_in g l b root lone e w h he)
  have BP : Hid (∀ W, Below w.heap.size w W → Calls Try.prog 60 #[.pointer (some ⟨g, 0, none⟩), .int .i64 (e : Int)] W fun en w' => ∃ A c, en = .returned (.slice A (besN l lone e).length c) ∧ Rd w' w'.heap.size A (besN l lone e).length (I64 (besN l lone e)) ∧ Below W.heap.size W w') := fun W m => besides_p g l b root lone e W (h.below m) he
  generalize besN l lone e = L at *
  rw [hL] at BP
  clear h hn hL
  go_enter Try.func36, Try.ntmps36
  go_wp2_with fail
  refine RP.out.mono ?_
  rintro en w1 ⟨rfl, b1⟩
  go_wp2_with fail
  refine (BP.out _ b1).mono ?_
  rintro en w2 ⟨A, c, rfl, _, b2⟩
  have B2 := Lib.hid (b1.trans (b2.mono b1.size))
  clear b1 b2
  go_wp2_with fail
  go_ret2
  exact ⟨rfl, B2.out⟩
set_option maxHeartbeats 4000000 in
theorem shrink_p (g : Nat) (l b : List Nat) (r e : Nat) (lone : Int) (w : World) (h : MapAt w g l b (r : Int) lone) (hi : Inv l b) (hr : r < l.length) (he : e < l.length / 2) (hl0 : 0 ≤ lone) (hl1 : lone ≤ 60000) (hn : nameOf l (2 * e) ≠ nameOf l (2 * e + 1)) :
    Calls Try.prog 36 #[.pointer (some ⟨g, 0, none⟩), .int .i64 (e : Int)] w fun en w' => ∃ b', Inv (woN l (phiL l) e) b' ∧ NewMap w (woN l (phiL l) e) b' (heirN l b r e) (lone + if degOf l lone (nameOf l (2 * e) : Nat) + degOf l lone (nameOf l (2 * e + 1) : Nat) = 2 then 1 else 0) en w' := by
  have hev := h.1.1
  have hln := h.2.1
  have hE : 2 * e + 2 ≤ l.length := by omega
  obtain ⟨b', hb'⟩ := shrink_inv hi hev hE
  have hp := phi_inv hi hev
  have RP := Lib.hid (ready_in g l b r lone e w h he)
  obtain ⟨d0, hd0⟩ : ∃ d0, d0 = degOf l lone (nameOf l (2 * e) : Nat) := ⟨_, rfl⟩
  obtain ⟨d1, hd1⟩ : ∃ d1, d1 = degOf l lone (nameOf l (2 * e + 1) : Nat) := ⟨_, rfl⟩
  have hL : besN l lone e = [d0 - 1, d1 - 1] := by unfold besN; rw [if_neg hn, hd0, hd1]
  have l0 := deg_le l lone (nameOf l (2 * e) : Nat)
  have l1 := deg_le l lone (nameOf l (2 * e + 1) : Nat)
  rw [← hd0] at l0
  rw [← hd1] at l1
  rw [← hd0, ← hd1]
  obtain ⟨X, hX⟩ : ∃ X : Int, X = if d0 + d1 = 2 then 1 else 0 := ⟨_, rfl⟩
  rw [← hX]
  have HXX := Lib.hid hX
  have BP : Hid (∀ W, Below w.heap.size w W → Calls Try.prog 60 #[.pointer (some ⟨g, 0, none⟩), .int .i64 (e : Int)] W fun en w' => ∃ A c, en = .returned (.slice A 2 c) ∧ Rd w' w'.heap.size A 2 (I64 [d0 - 1, d1 - 1]) ∧ Below W.heap.size W w') := fun W m => by
    have := besides_p g l b r lone e W (h.below m) he
    rw [hL] at this; exact this
  have WP : Hid (∀ (x : Int) W, Below w.heap.size w W → 0 ≤ x → x ≤ 1 → Calls Try.prog 61 #[.pointer (some ⟨g, 0, none⟩), .int .i64 (e : Int), .func (.func 32) #[.pointer (some ⟨g, 0, none⟩)] #[], .int .i64 x] W (NewMap W (woN l (phiL l) e) b' (heirN l b r e) (lone + x))) := fun x W m h0 h1 =>
    without_f g l b (phiL l) b' r e lone x W (h.below m) hi hr he (fun k hk => by have := hp.lt k (by rw [phiL_len]; exact hk); rwa [phiL_len] at this) (fun k hk W' m' => phi_in g l b r lone k W' ((h.below m).below m') hk) (fun d hd c => out_f hi hev hd c he) hb' (by rw [woN_len _ _ _ hE]; omega) (by rw [woN_len _ _ _ hE]; exact heir_ok hi hev hr hE) (by omega) (by omega)
  have hmf : ∀ (fn : Fn) (first cap : Array Value) (w : World), (Instr.makeFunc fn first cap).run Try.prog w = .ok (.func fn first cap) w := fun _ _ _ _ => rfl
  have HB' := Lib.hid hb'
  obtain ⟨s, hs⟩ : ∃ s : Int, s = d0 - 1 + (d1 - 1) := ⟨_, rfl⟩
  have ws : IntKind.i64.wrap (d0 - 1 + (d1 - 1)) = s := by rw [← hs]; simp [IntKind.wrap, IntKind.signed, IntKind.bits]; omega
  obtain ⟨u0, hu0⟩ : ∃ u0, u0 = d0 - 1 := ⟨_, rfl⟩
  obtain ⟨u1, hu1⟩ : ∃ u1, u1 = d1 - 1 := ⟨_, rfl⟩
  have HC : Hid ((d0 + d1 = 2) ↔ s = 0) := ⟨fun _ => by omega, fun _ => by omega⟩
  rw [← hu0, ← hu1] at BP ws
  have ws2 : u0 + u1 = s := by omega
  have wss : IntKind.i64.wrap s = s := by simp [IntKind.wrap, IntKind.signed, IntKind.bits]; omega
  clear h hi hb' hp hd0 hd1 hL l0 l1 hs hu0 hu1 hn hX
  generalize woN l (phiL l) e = WN at *
  generalize heirN l b r e = HR at *
  go_enter Try.func36, Try.ntmps36
  go_wp2_with fail
  refine RP.out.mono ?_
  rintro en w1 ⟨rfl, b1⟩
  go_wp2_with fail
  refine (BP.out _ b1).mono ?_
  rintro en w2 ⟨A, c, rfl, hrd, b2⟩
  have B2 := Lib.hid (b1.trans (b2.mono b1.size))
  obtain ⟨bb, o, rfl, _, kk⟩ := hrd.i64 (by omega)
  have x0 : w2.cell? ⟨bb, o, none⟩ = some (.int .i64 u0) := kk 0 (by omega)
  have x1 : w2.cell? ⟨bb, o + 1, none⟩ = some (.int .i64 u1) := kk 1 (by omega)
  clear b1 b2 hrd RP BP kk
  have fin : Hid (∀ x : Int, x = X → ∀ en w', NewMap w2.drew WN b' HR (lone + x) en w' → NewMap w WN b' HR (lone + X) en w') := fun x hx en w' ⟨g3, h1, hm, b3, hlo⟩ => by
    have hs := B2.out.drew.size
    refine ⟨g3, h1, by rw [← hx]; exact hm, B2.out.drew.trans (b3.mono hs), ?_⟩
    obtain ⟨p, A, n, c, S, k, d, q, A', n', c', S', k', d', rt, ln, hb, h1, h2, h3, h4, h5, h6, h7⟩ := hlo
    exact ⟨p, A, n, c, S, k, d, q, A', n', c', S', k', d', rt, ln, hb, Nat.le_trans hs h1, h2.le hs, h3.le hs, h4.le hs, h5.le hs, h6.le hs, h7.le hs⟩
  by_cases hs0 : s = 0
  · have FX := Lib.hid (fin.out 1 (by rw [HXX.out, if_pos (HC.out.2 hs0)]))
    subst hs0
    go_wp2_with fail
    go_region
    all_goals (
      go_wp2_with fail
      refine (WP.out _ _ B2.out.drew (by omega) (by omega)).mono ?_
      rintro en w3 hnm
      obtain ⟨g3, rfl, hm, b3, hlo⟩ := hnm
      have HN3 := Lib.hid (FX.out _ w3 ⟨g3, rfl, hm, b3, hlo⟩)
      clear hm b3 hlo
      go_wp2_with fail
      go_ret2
      exact ⟨b', HB'.out, HN3.out⟩)
  · have FX := Lib.hid (fin.out 0 (by rw [HXX.out, if_neg (fun c => hs0 (HC.out.1 c))]))
    have hsb : (s == 0) = false := by rw [beq_eq_false_iff_ne]; exact hs0
    go_wp2_with fail
    go_region
    all_goals (
      go_wp2_with fail
      refine (WP.out _ _ B2.out.drew (by omega) (by omega)).mono ?_
      rintro en w3 hnm
      obtain ⟨g3, rfl, hm, b3, hlo⟩ := hnm
      have HN3 := Lib.hid (FX.out _ w3 ⟨g3, rfl, hm, b3, hlo⟩)
      clear hm b3 hlo
      go_wp2_with fail
      go_ret2
      exact ⟨b', HB'.out, HN3.out⟩)
end Go.Proofs.Ythbhbcakiaaapaa
