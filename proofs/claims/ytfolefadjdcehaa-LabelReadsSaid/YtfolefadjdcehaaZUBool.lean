/- A slice of bools that came in. -/
import Derived.LaidMore
import Derived.RowKit
namespace Go.Proofs.Ytfolefadjdcehaa
open Go Go.RowKit
set_option linter.unusedVariables false
/-- A slice of bools that came in: nil, or a row of cells. -/
def IsFlags (w : World) (a : Option Addr) (len cap : Nat) : Prop :=
  (a = none ∧ len = 0 ∧ cap = 0) ∨ ∃ x, a = some x ∧ len ≤ cap ∧ cap ≤ maxLen ∧ ∀ i, i < len → ∃ v : Bool, w.cell? (x.add i) = some (.bool v)
section
variable {H : Type} {enc : TypeId × Value → H} {P : Program} {w : World} {base : Nat} {sp : Nat → Bool} {held : Bool}
theorem open_flags {t e : TypeId} {fuel : Nat} {cs : List Value} {x : DataW H × List MemPlace} (ht : P.underlying t = some (.slice e)) (he : P.underlying e = some .bool) (hc : P.cellsOf e = 1)
    (h : DataW.trod enc P w base sp held fuel t cs = some x) :
    cs = [.slice none 0 0] ∨ ∃ a len cap, cs = [.slice (some a) len cap] ∧ len ≤ cap ∧ cap ≤ maxLen ∧ ∀ i, i < len → ∃ v : Bool, w.cell? (a.add i) = some (.bool v) := by
  rcases DataW.trod_slice ht h with ⟨hx, _⟩ | ⟨a, len, cap, elems, rest, n, _, hcs, hx, _, hl, hm, hlen, hel, _⟩
  · exact .inl hx
  · refine .inr ⟨a, len, cap, hcs, hl, hm, fun i hi => ?_⟩
    have hE := hel i hi
    rw [hc, Nat.mul_one] at hE
    have hi' : i < elems.length := by omega
    rw [List.getElem?_eq_getElem hi'] at hE
    generalize elems[i] = y at hE
    simp only [Option.bind_eq_some_iff] at hE
    obtain ⟨c1, hc1, hy1⟩ := hE
    obtain ⟨v, hv, _⟩ := DataW.trod_bool he hy1
    have e0 : (a.add i).add 0 = a.add i := by simp [Addr.add]
    have : ∃ c, c1 = [c] ∧ w.cell? (a.add i) = some c := by
      unfold World.cells? at hc1
      split at hc1
      · simp only [List.range_succ, List.range_zero, List.nil_append, List.mapM_cons, List.mapM_nil, e0] at hc1
        cases hcc : w.cell? (a.add i) with
        | none => simp [hcc] at hc1
        | some c => simp [hcc] at hc1; exact ⟨c, hc1.symm, rfl⟩
      · cases hc1
    obtain ⟨c, rfl, hcell⟩ := this
    simp at hv
    exact ⟨v, by rw [hcell, hv]⟩
end
/-- What a walk is told of it: place by place. -/
def Flags (w : World) (A : Option Addr) (n : Nat) : Prop := ∀ i, i < n → ∃ b o, A = some ⟨b, o, none⟩ ∧ b < w.heap.size ∧ ∃ v : Bool, w.cell? ⟨b, o + i, none⟩ = some (.bool v)
theorem flags_of {w : World} {a : Option Addr} {len cap : Nat} (h : IsFlags w a len cap) : len ≤ cap ∧ cap ≤ maxLen ∧ Flags w a len := by
  rcases h with ⟨rfl, rfl, rfl⟩ | ⟨x, rfl, hl, hm, hc⟩
  · exact ⟨Nat.le_refl _, Nat.zero_le _, fun i hi => absurd hi (by omega)⟩
  · refine ⟨hl, hm, fun i hi => ?_⟩
    obtain ⟨b, o, sp⟩ := x
    obtain ⟨v0, h0⟩ := hc 0 (by omega)
    obtain rfl : sp = none := by simpa [Addr.add] using World.cell?_spot h0
    obtain ⟨v, hv⟩ := hc i hi
    have e : (⟨b, o, none⟩ : Addr).add i = ⟨b, o + i, none⟩ := by unfold Addr.add; split <;> simp_all
    rw [e] at hv
    exact ⟨b, o, rfl, World.block_lt_of_cell? _ _ hv, v, hv⟩
end Go.Proofs.Ytfolefadjdcehaa
