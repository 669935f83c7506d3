/- The document's example of rank; a nil index. -/
import Derived.Test.YtimhpiancpfdbaaDoorKMade
namespace Go.Proofs.YtimhpiancpfdbaaDoor
open Go.RowKit
set_option linter.unusedVariables false
set_option maxRecDepth 20000 in
set_option maxHeartbeats 4000000 in
theorem kawake_p (w : World) (hT : Tab w) (hl : 0 < w.heap.size) :
    Calls Tryd.prog 8 #[] w fun e w' => e = .returned (.bool true) ∧ Below w.heap.size w w' := by
  have b0 := (Below.refl w.heap.size w).alloc (Nat.le_refl _) (.cells #[.int .u8 6] 5)
  have r0 := Rd.new w 5 #[.int .u8 6] 1 (U8 [6]) (by simp [U8]) (by simp)
  have MD := Lib.hid (made_p (some ⟨w.heap.size, 0, none⟩) 1 1 _ 4 0 [6] _ r0 (fun b hb => by simp at hb; omega) (by simp) (by omega) (by omega) (by omega))
  have hre : reps (few [6] 4) (0 % 40 + 1) = [0, 1, 1, 0] := by decide
  rw [hre] at MD
  have B0 := Lib.hid b0
  have Z0 : Hid ((w.alloc (.cells #[.int .u8 6] 5)).heap.size = w.heap.size + 1) := by show _ = _; simp
  have HT0 := Lib.hid (hT.below hl b0)
  have HL := Lib.hid hl
  clear r0 b0 hre hT hl
  go_enter Tryd.func8, Tryd.ntmps8
  go_wp2_with fail
  refine MD.out.mono ?_
  rintro e w1 ⟨g, A, c, rfl, _, _, hx, own1, b1, hg1⟩
  have hval : val [0, 1, 1, 0] = 6 := by decide
  have hlen : [0, 1, 1, 0].length = 4 := rfl
  rw [hval, hlen] at hx
  rw [hlen]
  have RK := Lib.hid (rank_yes g 6 4 0 2 false 1 w1 hx (by omega) (.inr rfl) (by omega))
  have hc1 : cb 1 6 2 = 1 := by decide
  rw [hc1] at RK
  have HG := Lib.hid hg1
  have B1 := Lib.hid b1
  clear hx own1 b1 hg1 hc1 hval hlen MD
  go_wp2_with fail
  refine RK.out.mono ?_
  rintro e w2 ⟨rfl, h2, m2⟩
  have b2 : Below w.heap.size w w2 := by
    have h1 := Z0.out
    have h3 := HG.out
    exact (B0.out.trans (B1.out.mono (by omega))).trans (m2.belowB (by have := B1.out.size; omega) fun i hi hx => by omega)
  have hgw : w.heap.size < g := by have h1 := Z0.out; have h3 := HG.out; omega
  have hT2 := HT0.out
  have SL := Lib.hid (sel_yes g 6 4 1 1 true 0 w2 h2 ((HT0.out.below (by have := Z0.out; have := HL.out; omega) B1.out).mod m2 (by have := HL.out; omega) (by have := B1.out.size; have := Z0.out; have := HL.out; omega)) (by omega) (.inl rfl) (by decide) (by have := HL.out; omega))
  have B2 := Lib.hid b2
  clear h2 m2 b2 hT2 RK
  go_wp2_with fail
  refine SL.out.mono ?_
  rintro e w3 ⟨p, rfl, hp4, hI, hc, h3, m3⟩
  obtain rfl : p = 3 := cb_unique hI (show IsB 0 6 3 from rfl) (by rw [hc]; decide)
  have b3 : Below w.heap.size w w3 := B2.out.trans (m3.belowB B2.out.size fun i hi hx => by omega)
  have B3 := Lib.hid b3
  clear hI hc h3 m3 b3 hgw SL
  go_wp2_with fail
  go_ret
  exact ⟨rfl, B3.out⟩
end Go.Proofs.YtimhpiancpfdbaaDoor
