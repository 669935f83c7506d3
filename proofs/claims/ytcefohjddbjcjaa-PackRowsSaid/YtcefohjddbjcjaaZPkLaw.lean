/- A vector of a list; the document's examples of bytes. -/
import Derived.Test.YtcefohjddbjcjaaZPkPack
import Derived.Test.YtcefohjddbjcjaaZPkRNum
import Derived.Test.YtcefohjddbjcjaaZBOfG
import Derived.Test.YtcefohjddbjcjaaZg3
namespace Go.Proofs.Ytcefohjddbjcjaa
set_option maxRecDepth 20000
open Go.RowKit
set_option linter.unusedVariables false
theorem vec19_p (l : List Nat) (As : Option Addr) (n c : Nat) (w : World) (h : Rd w w.heap.size As n (I64 (ofNB l))) (hb : Bin l) (hn : l.length ≤ 900000) :
    Calls Try.prog 17 #[.slice As n c] w fun e w' => ∃ g A, e = .returned (.pointer (some ⟨g, 0, none⟩)) ∧ VecAt w' g (val l) l.length A ∧ Below w.heap.size w w' ∧ w.heap.size ≤ g := by
  have hl : l.length = n := by rw [← ofN_lenB, ← I64_len, h.len]
  have H := Lib.hid h
  have HB := Lib.hid hb
  have BN := Lib.hid bnew_p
  clear h hb
  go_enter Try.func17, Try.ntmps17
  go_wp2_with fail
  refine (BN.out _).mono ?_
  rintro e w1 ⟨rfl, hv, b1⟩
  have AD := Lib.hid (add_p0 w.heap.size [] none As n c (ofNB l) w1 hv ((H.out.below b1).up b1.size) (fun h0 i hi hf => by
    obtain ⟨a, e, rfl⟩ := hi
    obtain ⟨b, o, e2, hb2, _⟩ := H.out.at_ h0
    rw [e2] at e
    cases e
    rcases hf with hf | ⟨b', hf, _⟩
    · have hf : b = w.heap.size := hf
      omega
    · cases hf) (by simp; omega))
  rw [List.nil_append, bit1_ofN HB.out] at AD
  have B1 := Lib.hid b1
  clear hv b1 BN
  go_wp2_with fail
  refine AD.out.mono ?_
  rintro e w2 ⟨rfl, A2, hv2, m2, _⟩
  have HV2 := Lib.hid hv2
  have B2 : Hid (Below w.heap.size w w2) := B1.out.trans (m2.belowB B1.out.size (fun i hi h => by
    rcases h with h | ⟨b, h, _⟩
    · omega
    · cases h))
  clear hv2 m2 AD B1
  go_wp2_with fail
  go_ret
  exact ⟨w.heap.size, A2, rfl, HV2.out, B2.out, Nat.le_refl _⟩
theorem numB_300 : numB 300 = [172, 2] := by rw [numB_big (by decide), numB_small (by decide)]
theorem numB_2 : numB 2 = [2] := numB_small (by decide)
theorem numB_0 : numB 0 = [0] := numB_small (by decide)
theorem code_nilk : ∀ k, k < 9 → codeOf k [] = [0, 1] := by decide +kernel
theorem cdB_nil {k : Nat} (h : k < 9) : (cdB [] k).length = 3 := by
  unfold cdB
  rw [code_nilk k h]
  simp [numB_2, bytesL_len]
theorem stB_nil : stB [] = [0] := by decide
theorem bestB_nil : ∀ k, k ≤ 9 → bestB [] k = [0]
  | 0, _ => stB_nil
  | k + 1, h => by
    rw [bestB, bestB_nil k (by omega), if_neg (by rw [cdB_nil (by omega)]; decide)]
theorem packB_nil (plain : Bool) : packB [] plain = [0] := by
  unfold packB
  split
  · exact stB_nil
  · exact bestB_nil 9 (by omega)
set_option maxHeartbeats 2000000 in
theorem awake19_p (w : World) :
    Calls Try.prog 8 #[] w fun e w' => e = .returned (.bool true) ∧ Below w.heap.size w w' := by
  have NP := Lib.hid (pkNum_p none 0 0 300 [] w (Rd.nil _ _ _) (by decide) (by omega) (by omega))
  rw [List.nil_append, numB_300] at NP
  have BN := Lib.hid bnew_p
  go_enter Try.func8, Try.ntmps8
  go_wp2_with fail
  refine NP.out.mono ?_
  rintro e w1 ⟨A1, c1, rfl, hc1, hm1, ho1, b1⟩
  rw [show ([172, 2] : List Nat).length = 2 from rfl] at ho1 hc1 ⊢
  have bb := (Below.refl w1.heap.size w1).alloc (Nat.le_refl _) (.cells #[.int .u8 172, .int .u8 2] 5)
  have r2 := Rd.new w1 5 #[.int .u8 172, .int .u8 2] 2 (U8 [172, 2]) (by simp [U8]) (by simp)
  have EQ := Lib.hid (equal_same A1 (some ⟨w1.heap.size, 0, none⟩) 2 c1 2 2 _ _ [172, 2] _ ((Rd.ofOwn ho1).onto bb) r2 (fun b hb => by simp at hb; omega))
  have B1 := Lib.hid (b1.trans (bb.mono b1.size))
  clear ho1 hc1 hm1 b1 bb r2 NP
  go_wp2_with fail
  refine EQ.out.mono ?_
  rintro e w2 ⟨rfl, rfl⟩
  go_wp2_with fail
  refine (BN.out _).mono ?_
  rintro e w3 ⟨rfl, hv, b3⟩
  rw [show (w1.alloc (.cells #[.int .u8 172, .int .u8 2] 5)).heap.size = w1.heap.size + 1 by simp] at hv
  have PK := Lib.hid (pack_p (some ⟨w1.heap.size + 1, 0, none⟩) [] false w3 (Packs.of (l := []) hv (fun _ h => by cases h) (by decide)) (by decide))
  rw [packB_nil] at PK
  have B3 := Lib.hid (B1.out.trans (b3.mono B1.out.size))
  clear hv b3 BN B1 EQ
  go_wp2_with fail
  refine PK.out.mono ?_
  rintro e w4 ⟨A4, c4, rfl, hc4, hm4, ho4, b4⟩
  rw [show ([0] : List Nat).length = 1 from rfl] at ho4 hc4 ⊢
  have bb := (Below.refl w4.heap.size w4).alloc (Nat.le_refl _) (.cells #[.int .u8 0] 5)
  have r2 := Rd.new w4 5 #[.int .u8 0] 1 (U8 [0]) (by simp [U8]) (by simp)
  have EQ := Lib.hid (equal_same A4 (some ⟨w4.heap.size, 0, none⟩) 1 c4 1 1 _ _ [0] _ ((Rd.ofOwn ho4).onto bb) r2 (fun b hb => by simp at hb; omega))
  have B4a := B3.out.trans (b4.mono B3.out.size)
  have B4 := Lib.hid (B4a.trans (bb.mono B4a.size))
  clear ho4 hc4 hm4 b4 bb r2 PK B3 B4a
  go_wp2_with fail
  refine EQ.out.mono ?_
  rintro e w5 ⟨rfl, rfl⟩
  go_wp2_with fail
  go_ret
  exact ⟨rfl, B4.out⟩
end Go.Proofs.Ytcefohjddbjcjaa
