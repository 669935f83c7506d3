/- The document's example of bits. -/
import Derived.Test.YtladmlhpemhahaaBText
namespace Go.Proofs.Ytladmlhpemhahaa
open Go.RowKit
set_option linter.unusedVariables false

theorem awake_text : textOf (numL 6 4) = ⟨#[48, 49, 49, 48]⟩ := by decide +kernel
set_option maxHeartbeats 1000000 in
theorem awake_p (w : World) :
    Calls Try.prog 9 #[] w fun e w' => e = .returned (.bool true) ∧ Below w.heap.size w w' := by
  have NW := Lib.hid (bnew_p w)
  go_enter Try.func9, Try.ntmps9
  go_wp2_with fail
  refine NW.out.mono ?_
  rintro e w1 ⟨rfl, hv1, hb1⟩
  have NM := Lib.hid (num_p _ 0 0 6 4 none w1 hv1 (by omega) (by omega) (by omega))
  have HV1 := Lib.hid hv1
  have HB1 := Lib.hid hb1
  clear hv1 hb1
  have hs1 := HB1.out.size
  go_wp2_with (go_at_call 12; refine NM.out.mono ?_)
  rintro e w2 hp
  have hb2 := hp.below HV1.out
  obtain ⟨rfl, A', hv2, _, _⟩ := hp
  have hc : cnt64 4 = 4 := by decide
  have hput : put 0 0 6 4 = 6 := by decide
  rw [hc, hput] at hv2
  have TX := Lib.hid (text_p w.heap.size 6 4 _ A' w2 hv2)
  have HT := Lib.hid awake_text
  have HV2 := Lib.hid hv2
  clear hv2 hc hput NM NW
  go_wp2_with (go_at_call 34; refine TX.out.mono ?_)
  rintro e w3 ⟨rfl, hb3⟩
  rw [HT.out]
  have hv3 := HV2.out.below hb3
  have BY := Lib.hid (bytes_p w.heap.size 6 4 _ A' w3 hv3)
  have hbl : bytesL 6 4 = [6] := by decide
  rw [hbl] at BY
  clear hv3 TX
  go_wp2_with (first
    | (go_at_call 29; refine BY.out.mono ?_; rintro e w4 ⟨A4, c4, rfl, hc4, hm4, hown4, hb4⟩; have r4 := (Rd.ofOwn hown4).alloc (.cells #[.int .u8 6] 5); have r5 := Rd.new w4 5 #[.int .u8 6] 1 (U8 [6]) (by simp [U8]) (by simp); have EQ := Lib.hid (equal_same A4 (some ⟨w4.heap.size, 0, none⟩) 1 c4 1 1 _ _ [6] _ r4 r5 (by simp)); have HB4 := Lib.hid hb4; clear hown4 r4 r5 hb4)
    | (go_at_call 26; refine EQ.out.mono ?_; rintro e w5 ⟨rfl, rfl⟩))
  go_ret
  refine ⟨rfl, ?_⟩
  have h1 := hb2.size
  have h2 := hb3.size
  have h3 := HB4.out.size
  exact (((HB1.out.trans hb2).trans (hb3.mono (by omega))).trans (HB4.out.mono (by omega))).alloc (by omega) _
end Go.Proofs.Ytladmlhpemhahaa
