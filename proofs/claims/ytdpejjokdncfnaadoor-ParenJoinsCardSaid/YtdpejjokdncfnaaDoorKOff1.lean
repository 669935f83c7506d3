/- What a store elsewhere leaves of an index. -/
import Derived.Test.YtdpejjokdncfnaaDoorKIdx
namespace Go.Proofs.YtdpejjokdncfnaaDoor
open Go.RowKit
set_option linter.unusedVariables false
theorem blk_ty {w : World} {i : Nat} {T U : TypeId} {cs ds : Array Value} (h : Blk w i T cs) (k : Blk w i U ds) : T = U := by
  unfold Blk at h k
  rw [h] at k
  simp at k
  exact k.2
theorem IdxAt.off {w w' : World} {S : Nat → Prop} {g V n q : Nat} {d : Bool} (h : IdxAt w g V n d q) (m : Mod S w w') (hS : ∀ i, S i → ∃ T cs, Blk w i T cs ∧ T ≠ 88 ∧ T ≠ 55 ∧ T ≠ 61) : IdxAt w' g V n d q := by
  obtain ⟨h1, h2, A, c, H, h3, h4, h5⟩ := h
  refine ⟨h1, h2, A, c, H, h3.mod m fun hx => ?_, own_mod h4 m fun k hk hx => ?_, ?_⟩
  · obtain ⟨T, cs, hb, e1, _, _⟩ := hS g hx
    exact e1 (blk_ty hb h3)
  · obtain ⟨T, cs, hb, _, e2, _⟩ := hS k hx
    exact own_ne h4 hb (Ne.symm e2) hk
  · cases d with
    | false => exact h5
    | true =>
      obtain ⟨S', c', e, ho⟩ := h5
      exact ⟨S', c', e, own_mod ho m fun k hk hx => by
        obtain ⟨T, cs, hb, _, _, e3⟩ := hS k hx
        exact own_ne ho hb (Ne.symm e3) hk⟩
/-- A row's block. -/
theorem own_blk {w : World} {base n : Nat} {e : TypeId} {v : Value} {xs : List Value} (h : w.ownsRow base e 1 v n xs) {k : Nat} (hk : v.ownBlock = some k) : ∃ cs, Blk w k e cs := by
  rcases h.2 with ⟨rfl, _⟩ | ⟨g, cap, cur, rfl, _, hg, _⟩
  · simp [Value.ownBlock] at hk
  · have : k = g := by simpa [Value.ownBlock] using hk.symm
    subst this
    exact ⟨cur, hg⟩
end Go.Proofs.YtdpejjokdncfnaaDoor
