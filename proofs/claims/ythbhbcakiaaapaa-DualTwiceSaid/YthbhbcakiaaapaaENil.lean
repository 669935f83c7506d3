/- triangles: has each border three darts. Names and Loops of a nil map. -/
import Derived.Test.YthbhbcakiaaapaaELoops
namespace Go.Proofs.Ythbhbcakiaaapaa
set_option maxRecDepth 20000
open Go.RowKit
set_option linter.unusedVariables false
/-- The border of d has three darts. -/
def Tri (l : List Nat) (d : Nat) : Prop := (phiL l).getD d 0 ≠ d ∧ (phiL l).getD ((phiL l).getD ((phiL l).getD d 0) 0) 0 = d
def TriPost (w : World) (l : List Nat) (e : Ending) (w' : World) : Prop :=
  ∃ r : Bool, e = .returned (.bool r) ∧ (r = true ↔ ∀ d, d < l.length → Tri l d) ∧ Below w.heap.size w w'
theorem TriPost.no {w w' : World} {l : List Nat} {e : Ending} (d : Nat) (hd : d < l.length) (h : ¬ Tri l d) (he : e = .returned (.bool false)) (hb : Below w.heap.size w w') : TriPost w l e w' := ⟨false, he, ⟨fun c => (by cases c), fun c => absurd (c d hd) h⟩, hb⟩
theorem TriPost.yes {w w' : World} {l : List Nat} {e : Ending} (h : ∀ d, d < l.length → Tri l d) (he : e = .returned (.bool true)) (hb : Below w.heap.size w w') : TriPost w l e w' := ⟨true, he, ⟨fun _ => h, fun _ => rfl⟩, hb⟩
end Go.Proofs.Ythbhbcakiaaapaa
namespace Go.Proofs.Ythbhbcakiaaapaa
set_option maxRecDepth 20000
open Go.RowKit
set_option linter.unusedVariables false
theorem loops_nil (w : World) :
    Calls Try.prog 40 #[.pointer none] w fun e w' => e = .returned (.int .i64 0) ∧ Below w.heap.size w w' := by
  have EP := Lib.hid (edges_nil w)
  go_enter Try.func40, Try.ntmps40
  go_wp2_with (go_at_call 25; refine EP.out.mono ?_; rintro e w1 ⟨rfl, hb1⟩)
  go_loopw [3, 7] (fun cv i wr => cv = .int .i64 0 ∧ i = .int .i64 0 ∧ Below w.heap.size w wr) (fun _ i _ => 0)
  case atStart => exact ⟨rfl, rfl, hb1⟩
  case round =>
    obtain ⟨rfl, rfl, hbl⟩ := hrel
    go_wp2_with fail
    go_ret
    exact ⟨rfl, hbl⟩
theorem enames_nil (w : World) :
    Calls Try.prog 73 #[.pointer none] w (NewI64 w []) := by
  have HR : Hid (∀ w', Below (w.alloc (.cells #[.int .i64 (-1)] 3)).heap.size (w.alloc (.cells #[.int .i64 (-1)] 3)) w' → Rd w' (w.heap.size + 1) (some ⟨w.heap.size, 0, none⟩) 1 (I64 [-1]) ∧ w.heap.size + 1 ≤ w'.heap.size ∧ Below w.heap.size w w') := fun w' m => by
    have e : (w.alloc (.cells #[.int .i64 (-1)] 3)).heap.size = w.heap.size + 1 := by simp
    have r := Rd.new w 3 #[.int .i64 (-1)] 1 (I64 [-1]) (by simp [I64]) (by simp)
    have z := m.size
    rw [e] at m z
    exact ⟨r.below m, z, ((Below.refl _ _).alloc (Nat.le_refl _) _).trans (m.mono (by omega))⟩
  have DN := Lib.hid (fun W => darts_nil W)
  have RP : Hid (∀ w1, Rd w1 (w.heap.size + 1) (some ⟨w.heap.size, 0, none⟩) 1 (I64 [-1]) ∧ w.heap.size + 1 ≤ w1.heap.size ∧ Below w.heap.size w w1 → Calls Try.prog 81 #[.slice (some ⟨w.heap.size, 0, none⟩) 1 1, .int .i64 0] w1 fun e w' => e = .returned (.slice (some ⟨w1.heap.size, 0, none⟩) 0 0) ∧ w'.ownsRow w1.heap.size 3 1 (.slice (some ⟨w1.heap.size, 0, none⟩) 0 0) 0 (I64 (List.replicate 0 (-1))) ∧ Below w1.heap.size w1 w') := fun w1 h => repeat_p w.heap.size 0 1 (-1) (w.heap.size + 1) w1 (by omega) h.1 h.2.1
  go_enter Try.func73, Try.ntmps73
  go_wp2_with (first
    | (go_at_call 81; refine (RP.out _ HR1.out).mono ?_; rintro e w2 ⟨rfl, hown, hb2⟩)
    | (go_at_call 17; refine (DN.out _).mono ?_; rintro e w1 ⟨rfl, hb1⟩; have HR1 := Lib.hid (HR.out _ hb1)))
  have hown2 := hown.base_le' (show w.heap.size ≤ w1.heap.size by have := HR1.out.2.1; omega)
  have hbl2 : Below w.heap.size w w2 := HR1.out.2.2.trans (hb2.mono (show w.heap.size ≤ w1.heap.size by have := HR1.out.2.1; omega))
  have HO2 := Lib.hid hown2
  clear hown hb2 hown2 hb1 HR1 HR
  generalize w1.heap.size = gn at *
  go_loopw [4, 12] (fun pv i wr => i = .int .i64 0 ∧ Hid (wr.ownsRow w.heap.size 3 1 (.slice (some ⟨gn, 0, none⟩) 0 0) 0 (I64 (List.replicate 0 (-1)))) ∧ Below w.heap.size w wr) (fun _ i _ => 0)
  case atStart => exact ⟨rfl, HO2, hbl2⟩
  case round =>
    obtain ⟨rfl, HO, hbl⟩ := hrel
    go_wp2_with fail
    go_ret
    exact .mk rfl HO.out hbl
end Go.Proofs.Ythbhbcakiaaapaa
