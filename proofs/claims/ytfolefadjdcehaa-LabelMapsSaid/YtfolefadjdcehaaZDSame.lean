/- What maps that are answer: Rooted, Same. -/
import Derived.Test.YtfolefadjdcehaaZDPhi
namespace Go.Proofs.Ytfolefadjdcehaa
set_option maxRecDepth 20000
open Go.RowKit
set_option linter.unusedVariables false

set_option maxHeartbeats 1000000 in
theorem dsame_p (g g' : Nat) (l b l' b' : List Nat) (root lone root' lone' : Int) (w : World) (h : MapAt w g l b root lone) (k : MapAt w g' l' b' root' lone') :
    Calls Try.prog 39 #[.pointer (some ⟨g, 0, none⟩), .pointer (some ⟨g', 0, none⟩)] w fun e w' => e = .returned (.bool (decide (root = root' ∧ lone = lone' ∧ l = l'))) ∧ Below w.heap.size w w' := by
  obtain ⟨_, _, p, A, c, S, d, q, A', c', S', d', hb, hp, _⟩ := h
  obtain ⟨_, _, p2, A2, c2, S2, d2, q2, A2', c2', S2', d2', hb2, hp2, _⟩ := k
  have SM : Hid (∀ j, Calls Try.prog 19 #[.pointer (some ⟨p, 0, none⟩), .pointer (some ⟨p2, 0, none⟩)] (w.drewN j) fun e w' => e = .returned (.bool (decide (l = l'))) ∧ ∃ m, w' = (w.drewN j).drewN m) := fun j =>
    same_pp p p2 l b l' b' _ (hp.drewN j) (hp2.drewN j)
  have n0 := hb.cell 0
  have n6 := hb.cell 6
  have n7 := hb.cell 7
  have m0 := hb2.cell 0
  have m6 := hb2.cell 6
  have m7 := hb2.cell 7
  simp at n0 n6 n7 m0 m6 m7
  clear hb hb2 hp hp2
  have DN : Hid (∀ j, Below w.heap.size w (w.drewN j)) := fun j => below_draws (Below.refl _ _) j
  by_cases hr : root = root'
  · subst hr
    by_cases hl : lone = lone'
    · subst hl
      have HD : Hid (decide (root = root ∧ lone = lone ∧ l = l') = decide (l = l')) := by show _ = _; simp
      rw [HD.out]
      clear HD
      generalize decide (l = l') = res at *
      go_enter Try.func39, Try.ntmps39
      go_wp2_with fail
      go_quiet ((go_at_call 19; exact Calls.quiet_of (SM.out _)))
      go_wp2
      go_ret
      exact ⟨rfl, DN.out _⟩
    · have HD : Hid (decide (root = root ∧ lone = lone' ∧ l = l') = false) := by show _ = _; simp [hl]
      rw [HD.out]
      have h1 : (lone == lone') = false := by rw [beq_eq_false_iff_ne]; exact hl
      clear HD hl SM
      go_enter Try.func39, Try.ntmps39
      go_wp2_with fail
      go_quiet (fail)
      go_wp2
      go_ret
      exact ⟨rfl, DN.out _⟩
  · have HD : Hid (decide (root = root' ∧ lone = lone' ∧ l = l') = false) := by show _ = _; simp [hr]
    rw [HD.out]
    have h1 : (root == root') = false := by rw [beq_eq_false_iff_ne]; exact hr
    clear HD hr SM
    go_enter Try.func39, Try.ntmps39
    go_wp2_with fail
    go_quiet (fail)
    go_wp2
    go_ret
    exact ⟨rfl, DN.out _⟩
theorem dsame_nil1 (g : Nat) (l b : List Nat) (root lone : Int) (w : World) :
    Calls Try.prog 39 #[.pointer (some ⟨g, 0, none⟩), .pointer none] w fun e w' => e = .returned (.bool false) ∧ Below w.heap.size w w' := by
  go_enter Try.func39, Try.ntmps39
  go_wp2
  go_ret
  exact ⟨rfl, Below.refl _ _⟩
theorem dsame_nil (w : World) :
    Calls Try.prog 39 #[.pointer none, .pointer none] w fun e w' => e = .returned (.bool true) ∧ Below w.heap.size w w' := by
  go_enter Try.func39, Try.ntmps39
  go_wp2
  go_ret
  exact ⟨rfl, Below.refl _ _⟩
end Go.Proofs.Ytfolefadjdcehaa
