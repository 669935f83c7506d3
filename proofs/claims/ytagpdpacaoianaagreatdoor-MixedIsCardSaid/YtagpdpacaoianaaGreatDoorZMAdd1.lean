/- One bit behind a vector that lies within S. -/
import Derived.Test.YtagpdpacaoianaaGreatDoorZg2
namespace Go.Proofs.YtagpdpacaoianaaGreatDoor
set_option maxRecDepth 20000
open Go.RowKit
set_option linter.unusedVariables false
/-- One bit behind, as the program's text does it: a slice of one is made. -/
theorem add1_p (g : Nat) (l : List Nat) (A : Option Addr) (b : Nat) (w : World) (hv : VecAt w g (val l) l.length A) (hb : b < 2) (hn : l.length + 65 ≤ 1000000) :
    Calls Tryz.prog 17 #[.pointer (some ⟨g, 0, none⟩), .slice (some ⟨w.heap.size, 0, none⟩) 1 1] (w.alloc (.cells #[.int .i64 (b : Int)] 3)) fun e w' =>
      e = .returned (.tuple #[]) ∧ ∃ A', VecAt w' g (val (l ++ [b])) (l ++ [b]).length A' ∧ Mod (foot g A) w w' ∧ (A' = A ∨ ∃ b, A' = some ⟨b, 0, none⟩ ∧ w.heap.size ≤ b) := by
  have hvA := VecB.below hv ((Below.refl w.heap.size w).alloc (Nat.le_refl _) (.cells #[.int .i64 (b : Int)] 3))
  have r5 := Rd.new w 3 #[.int .i64 (b : Int)] 1 (I64 [(b : Int)]) (by simp [I64]) (by simp)
  refine (add_p g l A (some ⟨w.heap.size, 0, none⟩) 1 1 [(b : Int)] _ hvA (r5.up (by simp)) (fun i hi hf => by
        obtain ⟨a, e, rfl⟩ := hi
        cases e
        exact absurd (VecB.foot_lt hv hf) (Nat.lt_irrefl _)) (by omega)).mono ?_
  rintro e w' ⟨rfl, A', h1, m, h2⟩
  have hb1 : [(b : Int)].map bit1 = [b] := by
    have := bit1_ofN (l := [b]) (fun x hx => by rw [List.mem_singleton.1 hx]; exact hb)
    simpa [ofNB] using this
  rw [hb1] at h1
  refine ⟨rfl, A', h1, ⟨m.os, m.tape, m.output, Nat.le_trans (by simp) m.size, fun k hk hn => ?_⟩, ?_⟩
  · exact (m.block k (by simp; omega) hn).trans (Below.heap_alloc _ _ _ hk)
  · rcases h2 with rfl | ⟨b', rfl, hb'⟩
    · exact .inl rfl
    · exact .inr ⟨b', rfl, Nat.le_trans (by simp) hb'⟩
/-- A vector within S. -/
def VecS (w : World) (S : Nat → Prop) (g : Nat) (l : List Nat) : Prop := ∃ A, VecAt w g (val l) l.length A ∧ ∀ i, foot g A i → S i
theorem VecS.mod {w w' : World} {S T : Nat → Prop} {g : Nat} {l : List Nat} (h : VecS w S g l) (m : Mod T w w') (hs : ∀ i, S i → ¬ T i) : VecS w' S g l := by
  obtain ⟨A, hv, sf⟩ := h
  exact ⟨A, hv.mod m (fun i hi => hs i (sf i hi)), sf⟩
theorem VecS.below {w w' : World} {S : Nat → Prop} {g : Nat} {l : List Nat} (h : VecS w S g l) (m : Below w.heap.size w w') : VecS w' S g l := by
  obtain ⟨A, hv, sf⟩ := h
  exact ⟨A, VecB.below hv m, sf⟩
theorem addS_p (g : Nat) (S : Nat → Prop) (l : List Nat) (b : Nat) (w : World) (hv : VecS w S g l) (hS : ∀ i, w.heap.size ≤ i → S i) (hb : b < 2) (hn : l.length + 65 ≤ 1000000) :
    Calls Tryz.prog 17 #[.pointer (some ⟨g, 0, none⟩), .slice (some ⟨w.heap.size, 0, none⟩) 1 1] (w.alloc (.cells #[.int .i64 (b : Int)] 3)) fun e w' =>
      e = .returned (.tuple #[]) ∧ VecS w' S g (l ++ [b]) ∧ Mod S w w' := by
  obtain ⟨A, h1, sf⟩ := hv
  refine (add1_p g l A b w h1 hb hn).mono ?_
  rintro e w' ⟨rfl, A', h2, m, ha⟩
  refine ⟨rfl, ⟨A', h2, ?_⟩, m.mono fun i _ hi => sf i hi⟩
  rintro i (rfl | ⟨b', rfl, rfl⟩)
  · exact sf _ (.inl rfl)
  · rcases ha with e | ⟨b2, e, h⟩
    · exact sf _ (.inr ⟨_, e.symm, rfl⟩)
    · cases e; exact hS _ h
end Go.Proofs.YtagpdpacaoianaaGreatDoor
