/- Is and Iso. -/
import Derived.Test.YtgcbdoljapnecaaGreatZg19
namespace Go.Proofs.YtgcbdoljapnecaaGreat
set_option maxRecDepth 100000
open Go.RowKit
set_option linter.unusedVariables false
set_option linter.unusedSimpArgs false
/-- The canonical names of a map, with darts or without. -/
def CanO (l : List Nat) (root : Int) (P Q : List Nat) : Prop := (l.length = 0 ∧ root = -1 ∧ P = [] ∧ Q = []) ∨ ∃ r : Nat, root = (r : Int) ∧ r < l.length ∧ CanA l r P Q
theorem canO_is {l b : List Nat} {root : Int} (hi : Inv l b) (he : l.length % 2 = 0) (hr : RootOk root l.length) : ∃ P Q, CanO l root P Q := by
  rcases hr with ⟨h0, h1⟩ | ⟨h0, h1, h2⟩
  · exact ⟨[], [], .inl ⟨h0, h1, rfl, rfl⟩⟩
  · have hrl : root.toNat < l.length := by omega
    obtain ⟨P, Q, h⟩ := canA_is hi he hrl
    exact ⟨P, Q, .inr ⟨root.toNat, by omega, hrl, h⟩⟩
theorem CanO.nam {l b : List Nat} {root : Int} {P Q : List Nat} (h : CanO l root P Q) : Nam l.length P Q := by
  rcases h with ⟨h0, _, rfl, rfl⟩ | ⟨r, _, _, h⟩
  · rw [h0]
    exact ⟨⟨rfl, fun i h => absurd h (by simp), fun i h => absurd h (by simp), fun i h => absurd h (by simp), fun i h => absurd h (by simp)⟩, rfl, rfl, fun d hd => absurd hd (by omega)⟩
  · exact h.nam
/-- Canon's answer of any map. -/
def CanonAny (w : World) (l b P Q : List Nat) (root lone : Int) (e : Ending) (w' : World) : Prop :=
  ∃ g' gp, e = .returned (.tuple #[.pointer (some ⟨g', 0, none⟩), .pointer (some ⟨gp, 0, none⟩), .int .i64 0]) ∧ MapAt w' g' (cjL P Q l) (cjL P Q b) (reRoot P root) lone ∧ PermAt w' gp P Q ∧ Below w.heap.size w w'
theorem canon_any (g : Nat) (l b : List Nat) (root lone : Int) (P Q : List Nat) (w : World) (h : MapAt w g l b root lone) (hi : Inv l b) (hC : CanO l root P Q) :
    Calls Tryz.prog 117 #[.pointer (some ⟨g, 0, none⟩)] w (CanonAny w l b P Q root lone) := by
  rcases hC with ⟨h0, rfl, rfl, rfl⟩ | ⟨r, rfl, hr, hC⟩
  · have hl : l = [] := List.eq_nil_of_length_eq_zero h0
    subst hl
    have hb : b = [] := List.eq_nil_of_length_eq_zero hi.len
    subst hb
    refine (canon_e g [] [] lone w h hi h0).mono ?_
    rintro e w' ⟨g', gp, h1, h2, h3, h4⟩
    exact ⟨g', gp, h1, h2, h3, h4⟩
  · refine (canon_p g l b r lone P Q w h hi hr hC).mono ?_
    rintro e w' ⟨g', gp, h1, h2, h3, h4⟩
    rw [← reRoot_nat] at h2
    exact ⟨g', gp, h1, h2, h3, h4⟩
end Go.Proofs.YtgcbdoljapnecaaGreat
