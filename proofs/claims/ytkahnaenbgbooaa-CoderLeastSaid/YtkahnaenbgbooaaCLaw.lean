/- A vector of a list; the document's example of the code. -/
import Derived.Test.YtkahnaenbgbooaaCTop
import Derived.Test.YtkahnaenbgbooaaBOfG
namespace Go.Proofs.Ytkahnaenbgbooaa
set_option maxRecDepth 20000
open Go.RowKit
set_option linter.unusedVariables false

theorem vec18_p (l : List Nat) (As : Option Addr) (n c : Nat) (w : World) (h : Rd w w.heap.size As n (I64 (ofNB l))) (hb : Bin l) (hn : l.length ≤ 900000) :
    Calls Try.prog 11 #[.slice As n c] w fun e w' => ∃ g A, e = .returned (.pointer (some ⟨g, 0, none⟩)) ∧ VecAt w' g (val l) l.length A ∧ Below w.heap.size w w' ∧ w.heap.size ≤ g := by
  have hl : l.length = n := by rw [← ofN_lenB, ← I64_len, h.len]
  have H := Lib.hid h
  have HB := Lib.hid hb
  have BN := Lib.hid bnew_p
  clear h hb
  go_enter Try.func11, Try.ntmps11
  go_wp2_with fail
  refine (BN.out _).mono ?_
  rintro e w1 ⟨rfl, hv, b1⟩
  have AD := Lib.hid (add_p0 w.heap.size [] none As n c (ofNB l) w1 hv ((H.out.below b1).up b1.size) (fun h0 i hi hf => by
    obtain ⟨a, e, rfl⟩ := hi
    obtain ⟨b, o, e2, hb2, _⟩ := H.out.at_ h0
    rw [e2] at e
    cases e
    rcases hf with hf | ⟨b', hf, _⟩
    · have hf : b = w.heap.size := hf
      omega
    · cases hf) (by simp; omega))
  rw [List.nil_append, bit1_ofN HB.out] at AD
  have B1 := Lib.hid b1
  clear hv b1 BN
  go_wp2_with fail
  refine AD.out.mono ?_
  rintro e w2 ⟨rfl, A2, hv2, m2, _⟩
  have HV2 := Lib.hid hv2
  have B2 : Hid (Below w.heap.size w w2) := B1.out.trans (m2.belowB B1.out.size (fun i hi h => by
    rcases h with h | ⟨b, h, _⟩
    · omega
    · cases h))
  clear hv2 m2 AD B1
  go_wp2_with fail
  go_ret
  exact ⟨w.heap.size, A2, rfl, HV2.out, B2.out, Nat.le_refl _⟩
theorem bin_01 : BinB [0, 1] := fun b hb => by simp at hb; omega
theorem code_nil3 : codeOf 3 [] = [0, 1] := by decide +kernel
theorem text_01 : textOf [0, 1] = ⟨#[48, 49]⟩ := by decide +kernel
set_option maxHeartbeats 1000000 in
theorem awake18_p (w : World) :
    Calls Try.prog 8 #[] w fun e w' => e = .returned (.bool true) ∧ Below w.heap.size w w' := by
  have BN := Lib.hid bnew_p
  go_enter Try.func8, Try.ntmps8
  go_wp2_with fail
  refine (BN.out _).mono ?_
  rintro e w1 ⟨rfl, hv, b1⟩
  have EV := Lib.hid (Encode_p 3 w.heap.size [] _ none w1 hv (fun _ h => by cases h) (by decide) (by decide))
  rw [code_nil3] at EV
  have B1 := Lib.hid b1
  clear hv b1 BN
  go_wp2_with fail
  refine EV.out.mono ?_
  rintro e w2 ⟨g, A, rfl, hv2, b2, l2⟩
  have DP := Lib.hid (Decode_p 3 g 0 [0, 1] _ A w2 hv2 bin_01 (by decide) (by decide))
  have HV2 := Lib.hid hv2
  have B2 := Lib.hid (B1.out.trans (b2.mono B1.out.size))
  clear hv2 b2 B1 EV
  go_wp2_with fail
  refine DP.out.mono ?_
  rintro e w3 ⟨hor, b3⟩
  rcases hor with ⟨u, gw, A3, hu, _, _, rfl, hv3, hg⟩ | ⟨hno, _⟩
  · have hn := numL_val (l := [0, 1]) bin_01 2 (Nat.le_refl _)
    have TX := Lib.hid (text_p g _ _ _ A w3 (VecB.below HV2.out b3))
    have hq : numL (val [0, 1]) [0, 1].length = [0, 1] := hn
    rw [hq, text_01] at TX
    have B3 := Lib.hid (B2.out.trans (b3.mono B2.out.size))
    rw [hu] at hv3
    have HV3 := Lib.hid hv3
    clear hv3 hn hq b3 DP
    go_wp2_with fail
    refine TX.out.mono ?_
    rintro e w4 ⟨rfl, b4⟩
    have LN := Lib.hid (blen_p gw _ _ A3 w4 (VecB.below HV3.out b4))
    have B4 := Lib.hid (B3.out.trans (b4.mono B3.out.size))
    clear b4 TX
    go_wp2_with fail
    refine LN.out.mono ?_
    rintro e w5 ⟨rfl, rfl⟩
    go_wp2_with fail
    go_ret
    exact ⟨rfl, B4.out⟩
  · exact absurd code_nil3 (hno [] (fun _ h => by cases h) rfl)
end Go.Proofs.Ytkahnaenbgbooaa
