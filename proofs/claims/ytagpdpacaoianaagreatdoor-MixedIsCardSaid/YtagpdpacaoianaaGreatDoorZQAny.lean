/- The document's balanced ones. -/
import Derived.Test.YtagpdpacaoianaaGreatDoorZQGood
import Derived.Deep.QuietTactic
import Derived.BigQuiet
namespace Go.Proofs.YtagpdpacaoianaaGreatDoor
open Go.RowKit
set_option linter.unusedVariables false
set_option maxRecDepth 20000
theorem exc_snoc {l : List Nat} (hb : Bin l) {b : Nat} (h2 : b < 2) : ∀ k, k ≤ l.length → exc (val (l ++ [b])) k = exc (val l) k := by
  have hb' : Bin (l ++ [b]) := hb.append fun x hx => by simp at hx; omega
  intro k
  induction k with
  | zero => intro _; rw [(exc_Exc _).zero, (exc_Exc _).zero]
  | succ k ih =>
    intro hk
    rw [exc_list hb', exc_list hb, ih (by omega), List.getD_eq_getElem?_getD, List.getElem?_append_left (by omega), ← List.getD_eq_getElem?_getD]
theorem exc_snoc1 {l : List Nat} (hb : Bin l) {b : Nat} (h2 : b < 2) : exc (val (l ++ [b])) (l.length + 1) = exc (val l) l.length + (2 * (b : Int) - 1) := by
  have hb' : Bin (l ++ [b]) := hb.append fun x hx => by simp at hx; omega
  rw [exc_list hb', exc_snoc hb h2 _ (Nat.le_refl _), List.getD_eq_getElem?_getD, List.getElem?_append_right (Nat.le_refl _), Nat.sub_self]
  rfl
/-- Balanced so far: o stand open, and as many may still be closed. -/
structure Sofar (l : List Nat) (N o : Nat) : Prop where
  bin : Bin l
  len : l.length = N
  open_ : exc (val l) N = (o : Int)
  up : ∀ k, k ≤ N → 0 ≤ exc (val l) k
theorem Sofar.nil : Sofar [] 0 0 := ⟨Bin.nil, rfl, (exc_Exc _).zero, fun k hk => by obtain rfl : k = 0 := by omega
                                                                                    rw [(exc_Exc _).zero]; exact Int.le_refl _⟩
theorem Sofar.push {l : List Nat} {N o : Nat} (h : Sofar l N o) : Sofar (l ++ [1]) (N + 1) (o + 1) := by
  have e := exc_snoc1 h.bin (b := 1) (by omega)
  rw [h.len, h.open_] at e
  refine ⟨h.bin.append fun x hx => by simp at hx; omega, by rw [List.length_append, h.len]; rfl, by rw [e]; omega, fun k hk => ?_⟩
  by_cases hk1 : k = N + 1
  · rw [hk1, e]; omega
  · rw [exc_snoc h.bin (by omega) k (by rw [h.len]; omega)]; exact h.up k (by omega)
theorem Sofar.pop {l : List Nat} {N o : Nat} (h : Sofar l N (o + 1)) : Sofar (l ++ [0]) (N + 1) o := by
  have e := exc_snoc1 h.bin (b := 0) (by omega)
  rw [h.len, h.open_] at e
  refine ⟨h.bin.append fun x hx => by simp at hx; omega, by rw [List.length_append, h.len]; rfl, by rw [e]; omega, fun k hk => ?_⟩
  by_cases hk1 : k = N + 1
  · rw [hk1, e]; omega
  · rw [exc_snoc h.bin (by omega) k (by rw [h.len]; omega)]; exact h.up k (by omega)
def AnyP (w : World) (N : Nat) (e : Ending) (w' : World) : Prop :=
  ∃ l A c, Bin l ∧ l.length = N ∧ Bal (exc (val l)) N ∧ e = .returned (.slice A N c) ∧ N ≤ c ∧ c ≤ maxLen ∧ w'.ownsRow w.heap.size 3 1 (.slice A N c) N (I64 (ofNB l)) ∧ Below w.heap.size w w'
end Go.Proofs.YtagpdpacaoianaaGreatDoor
