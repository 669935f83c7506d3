/- What New refuses, and what the document says of it. -/
import Derived.Test.YthbhbcakiaaapaaDAwake
import Derived.Test.YthbhbcakiaaapaaPRef
namespace Go.Proofs.Ythbhbcakiaaapaa
set_option maxRecDepth 20000
open Go.RowKit
set_option linter.unusedVariables false

/-- What there can't be, by the document's numbers. -/
def ErrIs (z : List Int) (root lone : Int) (n : Nat) (E : Int) : Prop :=
  (E = 4 ∧ (¬ Good z ∨ n % 2 = 1)) ∨ (E = 5 ∧ Good z ∧ n % 2 = 0 ∧ (lone < 0 ∨ ¬ RootOk root n)) ∨
  (E = 6 ∧ Good z ∧ n % 2 = 0 ∧ 0 ≤ lone ∧ RootOk root n ∧ 65536 < lone) ∨ (E = 0 ∧ Good z ∧ n % 2 = 0 ∧ 0 ≤ lone ∧ RootOk root n ∧ lone ≤ 65536)
theorem errIs_some (z : List Int) (root lone : Int) (n : Nat) : ∃ E, ErrIs z root lone n E := by
  unfold ErrIs
  by_cases h1 : Good z
  · by_cases h2 : n % 2 = 0
    · by_cases h3 : lone < 0 ∨ ¬ RootOk root n
      · exact ⟨5, .inr (.inl ⟨rfl, h1, h2, h3⟩)⟩
      · have h4 : 0 ≤ lone := by
          rcases Int.lt_or_le lone 0 with h | h
          · exact absurd (.inl h) h3
          · exact h
        have h5 : RootOk root n := Decidable.byContradiction fun h => h3 (.inr h)
        by_cases h6 : 65536 < lone
        · exact ⟨6, .inr (.inr (.inl ⟨rfl, h1, h2, h4, h5, h6⟩))⟩
        · exact ⟨0, .inr (.inr (.inr ⟨rfl, h1, h2, h4, h5, by omega⟩))⟩
    · exact ⟨4, .inl ⟨rfl, .inr (by omega)⟩⟩
  · exact ⟨4, .inl ⟨rfl, .inl h1⟩⟩
set_option maxHeartbeats 2000000 in
theorem new_no (A : Option Addr) (n c : Nat) (z : List Int) (root lone E : Int) (w : World) (h : Rd w w.heap.size A n (I64 z)) (hn : n ≤ 131072) (hE : ErrIs z root lone n E) (hne : E ≠ 0) :
    Calls Try.prog 43 #[.slice A n c, .int .i64 root, .int .i64 lone] w fun e w' => e = .returned (.tuple #[.pointer none, .int .i64 E]) ∧ Below w.heap.size w w' := by
  have OF := Lib.hid (of_p A n c _ z w h (by omega))
  have IR : Hid (∀ w', Calls Try.prog 67 #[.int .i64 root, .int .i64 (n : Int)] w' fun e w'' => e = .returned (.bool (decide (RootOk root n))) ∧ w' = w'') := fun w' => isRoot_p root n w' (by omega)
  have HE := Lib.hid hE
  have hn2 : ¬ (65536 : Int) < (n : Int) / 2 := by omega
  clear h hE
  go_enter Try.func43, Try.ntmps43
  go_wp2_with fail
  refine OF.out.mono ?_
  rintro e w1 ⟨hc, b1⟩
  have B1 := Lib.hid b1
  clear b1 OF
  rcases hc with ⟨gp, l', b', hl', rfl, hp, _⟩ | ⟨hng, rfl⟩
  · have hg : Good z := by rw [hl']; exact hp.1.good
    have HG := Lib.hid hg
    clear hl' hp hg
    rcases HE.out with ⟨rfl, h1⟩ | ⟨rfl, _, h2, h3⟩ | ⟨rfl, _, h2, h4, h5, h6⟩ | ⟨rfl, _⟩
    · have h2 : n % 2 = 1 := h1.resolve_left fun h => h HG.out
      have h2' : (n : Int) % 2 = 1 := by omega
      clear h1 h2
      go_wp2_with fail
      go_ret2
      exact ⟨rfl, B1.out⟩
    · have h2' : (n : Int) % 2 = 0 := by omega
      clear h2
      by_cases h5 : RootOk root n
      · have h6 : lone < 0 := h3.resolve_right fun h => h h5
        rw [decide_eq_true h5] at IR
        clear h3 h5
        go_wp2_with fail
        refine (IR.out _).mono ?_
        rintro e w2 ⟨rfl, rfl⟩
        go_wp2_with fail
        go_ret2
        exact ⟨rfl, B1.out⟩
      · rw [decide_eq_false h5] at IR
        clear h3 h5
        go_wp2_with fail
        refine (IR.out _).mono ?_
        rintro e w2 ⟨rfl, rfl⟩
        go_wp2_with fail
        go_ret2
        exact ⟨rfl, B1.out⟩
    · have h2' : (n : Int) % 2 = 0 := by omega
      have h4' : ¬ lone < 0 := by omega
      rw [decide_eq_true h5] at IR
      clear h2 h5
      go_wp2_with fail
      refine (IR.out _).mono ?_
      rintro e w2 ⟨rfl, rfl⟩
      go_wp2_with fail
      go_ret2
      exact ⟨rfl, B1.out⟩
    · exact absurd rfl hne
  · have h4 : E = 4 := by
      rcases HE.out with ⟨h, _⟩ | ⟨_, h, _⟩ | ⟨_, h, _⟩ | ⟨_, h, _⟩
      · exact h
      · exact absurd h hng
      · exact absurd h hng
      · exact absurd h hng
    subst h4
    clear hng
    go_wp2_with fail
    go_ret2
    exact ⟨rfl, B1.out⟩
end Go.Proofs.Ythbhbcakiaaapaa
