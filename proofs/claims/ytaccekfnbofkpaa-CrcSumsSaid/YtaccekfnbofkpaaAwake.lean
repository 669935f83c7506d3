/- The statements' own first question: the document's example. -/
import Derived.Test.YtaccekfnbofkpaaBytes
import Derived.Deep.DeepMust
import Derived.Lib.SlBytesConst
import Derived.Laws.IdiomStrings
namespace Go.Proofs.Ytaccekfnbofkpaa
open Go.RowKit

theorem awake_sum : crcSum [49, 50, 51, 52, 53, 54, 55, 56, 57] = 3421780262 := by decide +kernel

theorem Rd.mark (w : World) (t : TypeId) (fr : Nat × Nat) (cs : Array Value) (n : Nat) (xs : List Value) (h : cs.toList = xs) (hn : cs.size = n) : Rd (w.alloc (.cells cs t fr)) (w.heap.size + 1) (some ⟨w.heap.size, 0, none⟩) n xs := by
  subst h; subst hn
  refine ⟨by simp, fun _ => ⟨_, _, rfl, by omega, fun j hj => ?_⟩⟩
  rw [World.cell?_alloc_mark, Nat.zero_add]
  simp at hj ⊢

theorem awake_any (w : World) :
    Calls Try.prog 7 #[] w fun e w' => e = .returned (.bool true) ∧ Below w.heap.size w w' := by
  have kc := fun (w : World) (C : Array Value) (n c : Nat) => Lib.run_convert_bytes_const (P := Try.prog) w 26 5 C n c Try.underlying26 Try.underlying5
  go_enter Try.func7, Try.ntmps7
  go_wp2_with fail
  refine (of_any _ 9 9 (w.heap.size + 1) [49, 50, 51, 52, 53, 54, 55, 56, 57] _ (Rd.mark _ _ _ _ _ _ (by simp [U8]) (by simp)) (by simp) (by simp) (by omega)).mono ?_
  rintro e w1 ⟨rfl, hb⟩
  have HA := Lib.hid awake_sum
  rw [HA.out]
  go_wp2
  go_ret
  exact ⟨rfl, ((Below.refl _ _).alloc (Nat.le_refl _) _).trans (hb.mono (by simp))⟩

end Go.Proofs.Ytaccekfnbofkpaa
