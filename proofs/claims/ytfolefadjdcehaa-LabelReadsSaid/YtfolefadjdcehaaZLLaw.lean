/- Names that keep mates have bits; the document's example. -/
import Derived.Test.YtfolefadjdcehaaZg4
import Derived.Test.YtfolefadjdcehaaZg5
import Derived.Test.YtfolefadjdcehaaZLMix
import Derived.Test.YtfolefadjdcehaaZBText
import Derived.Test.YtfolefadjdcehaaZBRefB
namespace Go.Proofs.Ytfolefadjdcehaa
set_option maxRecDepth 20000
open Go.RowKit
set_option linter.unusedVariables false
theorem Nam.kp {n : Nat} {L q : List Nat} (h : Nam n L q) : Kp L :=
  Kp.of (by rw [h.len]; exact h.ev) fun d hd => by
    rw [mt_mateN, mt_mateN]; exact h.mt d (by rw [← h.len]; exact hd)
theorem Nam.small {n : Nat} {L q : List Nat} (h : Nam n L q) (hn : n ≤ 1000) : ∀ e, e < L.length / 2 → L.getD (2 * e) 0 / 2 < 2 ^ lw (L.length / 2) := fun e he => by
  have h1 := h.lt (d := 2 * e) (by have := h.len; omega)
  have h2 := lw_le (n := L.length / 2) (by have := h.len; omega)
  have h3 : sgL L (2 * e) = L.getD (2 * e) 0 := rfl
  have h4 := h.len
  have h5 := h.ev
  omega
theorem Nam.dec {n : Nat} {L q : List Nat} (h : Nam n L q) (hn : n ≤ 1000) : decL (lw (n / 2)) (val (lbl (lw (n / 2)) L (n / 2))) (n / 2) = L := by
  have := decL_lbl (lw (L.length / 2)) L h.kp (h.small hn)
  rwa [h.len] at this
/-- The text of a vector's bits. -/
theorem ltext_p (g : Nat) (l : List Nat) (B : Nat) (A : Option Addr) (w : World) (h : VecB w B g (val l) l.length A) (hb : Bin l) :
    Calls Try.prog 13 #[.pointer (some ⟨g, 0, none⟩)] w fun e w' => e = .returned (.string (textOf l)) ∧ Below w.heap.size w w' := by
  have h1 := text_p g _ _ B A w h
  rwa [numL_val hb _ (Nat.le_refl _), List.take_length] at h1
def ex20 : List Nat := [2, 3, 1, 0]
theorem ex20_kp : Kp ex20 := ⟨by decide, fun e he => by
  have : e = 0 ∨ e = 1 := by simp [ex20] at he; omega
  rcases this with rfl | rfl <;> decide⟩
theorem ex20_good : Good (ofN ex20) := by
  intro i hi
  have : i = 0 ∨ i = 1 ∨ i = 2 ∨ i = 3 := by simp [ex20, ofN] at hi; omega
  refine ⟨by rcases this with rfl | rfl | rfl | rfl <;> decide, by rcases this with rfl | rfl | rfl | rfl <;> decide, fun j hj => ?_⟩
  rcases this with rfl | rfl | rfl | rfl
  · omega
  · obtain rfl : j = 0 := by omega
    decide
  · rcases (by omega : j = 0 ∨ j = 1) with rfl | rfl <;> decide
  · rcases (by omega : j = 0 ∨ j = 1 ∨ j = 2) with rfl | rfl | rfl <;> decide
theorem ex20_bits : lbl (lw (ex20.length / 2)) ex20 (ex20.length / 2) = [1, 0, 0, 1] := by decide +kernel
theorem ex20_size : lsz (ex20.length / 2) = [1, 0, 0, 1].length := by decide +kernel
theorem ex20_text : textOf [1, 0, 0, 1] = ⟨#[49, 48, 48, 49]⟩ := by decide +kernel
set_option maxHeartbeats 2000000 in
theorem awake20_p (w : World) :
    Calls Try.prog 8 #[] w fun e w' => e = .returned (.bool true) ∧ Below w.heap.size w w' := by
  go_enter Try.func8, Try.ntmps8
  go_wp2_with fail
  refine (of_p _ 4 4 (w.heap.size + 1) [2, 3, 1, 0] _ (Rd.new _ _ _ _ _ (by simp [I64]) (by simp)) (by omega)).mono ?_
  rintro e w1 ⟨⟨g, l, b, hl, rfl, hp, _⟩ | ⟨hno, _⟩, hb1⟩
  · obtain rfl : l = ex20 := (ofN_inj (show ofN ex20 = ofN l from hl)).symm
    have B1 : Hid (Below w.heap.size w w1) := ((Below.refl _ _).alloc (Nat.le_refl _) _).trans (hb1.mono (by simp))
    have EN := Lib.hid (lencode_p g ex20 b w1 hp (by decide) ex20_kp)
    unfold LEncPost at EN
    rw [ex20_bits, ex20_size] at EN
    clear hl hp hb1
    go_wp2_with fail
    refine EN.out.mono ?_
    rintro e w2 ⟨g2, A2, rfl, hv, _, b2⟩
    have TX := Lib.hid (ltext_p g2 [1, 0, 0, 1] _ A2 w2 hv (fun b hb => by simp at hb; omega))
    rw [ex20_text] at TX
    have B2 := Lib.hid (B1.out.trans (b2.mono B1.out.size))
    clear hv b2 EN B1
    go_wp2_with fail
    refine TX.out.mono ?_
    rintro e w3 ⟨rfl, b3⟩
    have B3 := Lib.hid (B2.out.trans (b3.mono B2.out.size))
    clear b3 TX
    go_wp2_with fail
    go_ret
    exact ⟨rfl, B3.out⟩
  · exact absurd (show Good [2, 3, 1, 0] from ex20_good) hno
end Go.Proofs.Ytfolefadjdcehaa
