/- made: of bits; the document's example. -/
import Derived.Test.YtagpdpacaoianaaGreatDoorZQNew
import Derived.Test.YtagpdpacaoianaaGreatDoorZg2
namespace Go.Proofs.YtagpdpacaoianaaGreatDoor
open Go.RowKit
set_option linter.unusedVariables false
set_option maxRecDepth 20000
theorem PAt.mod {w w' : World} {S : Nat → Prop} {p g V n q : Nat} {d : Bool} (h : PAt w p g V n d q) (m : Mod S w w') (hs : ∀ i, S i → i < g) : PAt w' p g V n d q := by
  obtain ⟨h1, ⟨r, k, hk, hx⟩, H, hb, ht⟩ := h
  exact ⟨h1, ⟨r, k, hk, hx.mod m hs⟩, H, hb.mod m fun hx => by have := hs p hx; omega, ht.mod m fun i hi => by have := hs i hi; omega⟩
def MadeYes (w : World) (A : Option Addr) (m c : Nat) (l : List Nat) (e : Ending) (w' : World) : Prop :=
  ∃ p g, e = .returned (.tuple #[.pointer (some ⟨p, 0, none⟩), .slice A m c, .bool true]) ∧ PAt w' p g (val l) m false 0 ∧ w.heap.size ≤ g ∧ Below w.heap.size w w'
def MadeNo (w : World) (A : Option Addr) (m c : Nat) (e : Ending) (w' : World) : Prop :=
  e = .returned (.tuple #[.pointer none, .slice A m c, .bool false]) ∧ Below w.heap.size w w'
def MadeP (w : World) (A : Option Addr) (m c : Nat) (l : List Nat) (e : Ending) (w' : World) : Prop :=
  (Bal (exc (val l)) m ∧ MadeYes w A m c l e w') ∨ (¬ Bal (exc (val l)) m ∧ MadeNo w A m c e w')
/-- The document's example: 110100. -/
theorem bal_ex : Bal (exc 11) 6 := by
  refine ⟨fun i hi => ?_, by decide⟩
  have : i = 0 ∨ i = 1 ∨ i = 2 ∨ i = 3 ∨ i = 4 ∨ i = 5 ∨ i = 6 := by omega
  rcases this with rfl | rfl | rfl | rfl | rfl | rfl | rfl <;> decide
theorem pair_ex : Pair (exc 11) 0 5 := ⟨by decide, by decide, fun k h1 h2 => by
  have : k = 1 ∨ k = 2 ∨ k = 3 ∨ k = 4 ∨ k = 5 := by omega
  rcases this with rfl | rfl | rfl | rfl | rfl <;> decide⟩
theorem round_ex3 : RoundOK (exc 11) 3 0 := fun a ha => by
  obtain rfl : a = 3 := by
    rcases ha with x | x
    · exact x.2
    · exact absurd x.1 (by decide)
  rw [if_neg (by decide)]
  exact ⟨0, rfl, ⟨by decide, by decide, fun k h1 h2 => by
    have : k = 1 ∨ k = 2 := by omega
    rcases this with rfl | rfl <;> decide⟩⟩
theorem round_ex0 : RoundOK (exc 11) 0 (-1) := fun a ha => by
  obtain rfl : a = 0 := by
    rcases ha with x | x
    · exact x.2
    · exact absurd x.1 (by decide)
  rw [if_pos (by decide)]
end Go.Proofs.YtagpdpacaoianaaGreatDoor
