/- Lists of noughts and ones, and the number that they are; no program in sight. At, Text and Bytes of a vector. Words of four letters as numbers: mathematics. At of a word. Add of a word; the word of a walk. Lists of steps; the word of a walk. The document's examples of layer 9. made: a map of numbers, and the document's (layer 9). Tree of a walk. Steps read one by one; a part's row of numbers. -/
import Derived.Test.YtgcbdoljapnecaaGreatZg15
import Derived.BigQuiet
import Derived.Test.YtgcbdoljapnecaaGreatZg14
import Derived.Test.YtgcbdoljapnecaaGreatZDPhi
import Derived.Deep.RegionHeld3
import Derived.Deep.DeepCutAuto
namespace Go.Proofs.YtgcbdoljapnecaaGreat
set_option linter.unusedVariables false

/-- Noughts and ones. -/
def Bin (l : List Nat) : Prop := ∀ b ∈ l, b < 2
theorem Bin.nil : Bin [] := fun _ h => by cases h
theorem Bin.tail {b : Nat} {l : List Nat} (h : Bin (b :: l)) : Bin l := fun x hx => h x (List.mem_cons_of_mem _ hx)
theorem Bin.append {l m : List Nat} (h : Bin l) (k : Bin m) : Bin (l ++ m) := fun x hx => by
  rcases List.mem_append.1 hx with hx | hx
  · exact h x hx
  · exact k x hx
theorem Bin.take {l : List Nat} (h : Bin l) (k : Nat) : Bin (l.take k) := fun x hx => h x (List.mem_of_mem_take hx)
theorem Bin.drop {l : List Nat} (h : Bin l) (k : Nat) : Bin (l.drop k) := fun x hx => h x (List.mem_of_mem_drop hx)
theorem Bin.getD {l : List Nat} (h : Bin l) (i : Nat) : l.getD i 0 < 2 := by
  by_cases hi : i < l.length
  · rw [List.getD_eq_getElem?_getD, List.getElem?_eq_getElem hi]
    exact h _ (List.getElem_mem hi)
  · rw [List.getD_eq_getElem?_getD, List.getElem?_eq_none (by omega)]; decide
end Go.Proofs.YtgcbdoljapnecaaGreat
namespace Go.Proofs.YtgcbdoljapnecaaGreat
open Go.RowKit
set_option linter.unusedVariables false

end Go.Proofs.YtgcbdoljapnecaaGreat
namespace Go.Proofs.YtgcbdoljapnecaaGreat
set_option maxRecDepth 20000
open Go.RowKit
set_option linter.unusedVariables false
end Go.Proofs.YtgcbdoljapnecaaGreat
namespace Go.Proofs.YtgcbdoljapnecaaGreat
set_option maxRecDepth 20000
open Go.RowKit
set_option linter.unusedVariables false
end Go.Proofs.YtgcbdoljapnecaaGreat
namespace Go.Proofs.YtgcbdoljapnecaaGreat
set_option maxRecDepth 20000
open Go.RowKit
set_option linter.unusedVariables false
def Kd (x : Int) : Prop := 0 ≤ x ∧ x < 4
instance (x : Int) : Decidable (Kd x) := by unfold Kd; exact inferInstance
def toN (z : List Int) : List Nat := z.map Int.toNat
end Go.Proofs.YtgcbdoljapnecaaGreat
namespace Go.Proofs.YtgcbdoljapnecaaGreat
set_option maxRecDepth 20000
open Go.RowKit
set_option linter.unusedVariables false
/-- A slice of n steps, two numbers each. -/
def RdS (w : World) (B : Nat) (A : Option Addr) (n : Nat) (L : List Int) : Prop :=
  L.length = 2 * n ∧ (0 < n → ∃ b, A = some ⟨b, 0, none⟩ ∧ b < B ∧ ∀ k, k < 2 * n → w.cell? ⟨b, k, none⟩ = some (.int .i64 (L.getD k 0)))
theorem RdS.below {w w' : World} {B n : Nat} {A : Option Addr} {L : List Int} (h : RdS w B A n L) (z : Below B w w') : RdS w' B A n L :=
  ⟨h.1, fun h0 => by
    obtain ⟨b, e, hb, k⟩ := h.2 h0
    exact ⟨b, e, hb, fun i hi => (z.cell (p := ⟨b, i, none⟩) hb).trans (k i hi)⟩⟩
theorem RdS.up {w : World} {B B' n : Nat} {A : Option Addr} {L : List Int} (h : RdS w B A n L) (z : B ≤ B') : RdS w B' A n L :=
  ⟨h.1, fun h0 => by
    obtain ⟨b, e, hb, k⟩ := h.2 h0
    exact ⟨b, e, by omega, k⟩⟩
theorem RdS.own {w : World} {base : Nat} {A : Option Addr} {n c : Nat} {L : List Int} (h : w.ownsRow base 158 2 (.slice A n c) n (I64 L)) : RdS w w.heap.size A n L := by
  have hl : L.length = 2 * n := by have := h.1; rw [I64_len] at this; omega
  refine ⟨hl, fun hn => ?_⟩
  rcases h.2 with ⟨_, h0⟩ | ⟨g, cap, cur, hv, hb, hg, _⟩
  · omega
  · simp only [Value.slice.injEq, true_and] at hv
    obtain ⟨rfl, rfl⟩ := hv
    refine ⟨g, rfl, (Array.getElem?_eq_some_iff.1 hg).1, fun k hk => ?_⟩
    rw [h.cellAt k (by omega)]
    exact I64_get L k (by omega)
theorem RdS.nil (w : World) (B : Nat) (A : Option Addr) : RdS w B A 0 [] := ⟨rfl, fun h => absurd h (by omega)⟩
theorem RdS.take {w : World} {B n : Nat} {A : Option Addr} {L : List Int} (h : RdS w B A n L) (k : Nat) (hk : k ≤ n) : RdS w B A k (L.take (2 * k)) :=
  ⟨by rw [List.length_take, h.1]; omega, fun h0 => by
    obtain ⟨b, e, hb, kk⟩ := h.2 (by omega)
    refine ⟨b, e, hb, fun i hi => ?_⟩
    rw [kk i (by omega)]
    simp [List.getD_eq_getElem?_getD, hi]⟩
end Go.Proofs.YtgcbdoljapnecaaGreat
namespace Go.Proofs.YtgcbdoljapnecaaGreat
set_option maxRecDepth 20000
open Go.RowKit
set_option linter.unusedVariables false
end Go.Proofs.YtgcbdoljapnecaaGreat
namespace Go.Proofs.YtgcbdoljapnecaaGreat
set_option maxRecDepth 20000
open Go.RowKit
set_option linter.unusedVariables false
end Go.Proofs.YtgcbdoljapnecaaGreat
namespace Go.Proofs.YtgcbdoljapnecaaGreat
set_option maxRecDepth 20000
open Go.RowKit
set_option linter.unusedVariables false
end Go.Proofs.YtgcbdoljapnecaaGreat
namespace Go.Proofs.YtgcbdoljapnecaaGreat
set_option maxRecDepth 20000
open Go.RowKit
set_option linter.unusedVariables false
theorem wst_mono (sg nm : Nat → Nat) (m V r : Nat) (i : Nat) : ∀ N k, k ≤ N → i < 2 * k → (wst sg nm m V r N).getD i 0 = (wst sg nm m V r k).getD i 0
  | 0, k, h, hi => by omega
  | N + 1, k, h, hi => by
    rcases Nat.lt_or_ge N k with c | c
    · rw [show k = N + 1 by omega]
    · rw [← wst_mono sg nm m V r i N k c hi]
      have := wst_len sg nm m V r N
      rw [show wst sg nm m V r (N + 1) = wst sg nm m V r N ++ [((wrun sg nm m V r N).d : Int), (((wrun sg nm m V r N).k nm : Nat) : Int)] from rfl]
      rw [List.getD_eq_getElem?_getD, List.getElem?_append_left (by omega), ← List.getD_eq_getElem?_getD]
theorem wst_d (sg nm : Nat → Nat) (m V r : Nat) {N k : Nat} (h : k < N) : (wst sg nm m V r N).getD (2 * k) 0 = ((wrun sg nm m V r k).d : Int) := by
  rw [wst_mono sg nm m V r _ N (k + 1) (by omega) (by omega)]
  have := wst_len sg nm m V r k
  unfold wst
  rw [List.getD_eq_getElem?_getD, List.getElem?_append_right (by omega), this, Nat.sub_self]; rfl
end Go.Proofs.YtgcbdoljapnecaaGreat
