/- like: a vector has just these bits. -/
import Derived.Test.YtladmlhpemhahaaBRefB
namespace Go.Proofs.Ytladmlhpemhahaa
open Go.RowKit
set_option linter.unusedVariables false

theorem Bin.sum_le {l : List Nat} (h : Bin l) : l.sum ≤ l.length := by
  have := Go.Proofs.Ytladmlhpemhahaa.sum_le h l.length
  rwa [List.take_of_length_le (Nat.le_refl _)] at this
theorem val_div_bit {l : List Nat} (h : Bin l) (i : Nat) : val l / 2 ^ i % 2 = l.getD i 0 := val_bit h i
set_option maxHeartbeats 4000000 in
theorem like_p (g : Nat) (l : List Nat) (A As : Option Addr) (B n c : Nat) (w : World) (hv : VecB w B g (val l) l.length A) (hb : Bin l) (h : Rd w w.heap.size As n (I64 (ofN l))) :
    Calls Try.prog 16 #[.pointer (some ⟨g, 0, none⟩), .slice As n c] w fun e w' => e = .returned (.bool true) ∧ Below w.heap.size w w' := by
  have hl : l.length = n := by rw [← ofN_len, ← I64_len, h.len]
  rw [hl] at hv
  have hn := hv.2.1
  have HL := Lib.hid hl
  have HB := Lib.hid hb
  have HV := Lib.hid hv
  have HR := Lib.hid h
  have hsum : l.sum ≤ 1000000 := by have := hb.sum_le; omega
  have LN := Lib.hid (blen_p g (val l) n A w hv)
  have ON := ones_p g (val l) n B A w hv
  have hpv := pop_val hb
  rw [hl] at hpv
  rw [hpv] at ON
  have ONH := Lib.hid ON
  have RO := Lib.hid (refOnes_p As n c _ l w h hb hn)
  have TX := text_p g (val l) n B A w hv
  have hnl : numL (val l) n = l := by rw [numL_val hb n (by omega), List.take_of_length_le (by omega)]
  rw [hnl] at TX
  have TXH := Lib.hid TX
  have hin : (n : Int) ≤ (n : Int) := Int.le_refl _
  clear hl hb hv h ON hpv TX hnl hin
  generalize l.sum = sm at *
  obtain ⟨tx, htx⟩ : ∃ tx, tx = textOf l := ⟨_, rfl⟩
  rw [← htx] at TXH
  go_enter Try.func16, Try.ntmps16
  go_wp2_with fail
  refine LN.out.mono ?_
  rintro e w1 ⟨rfl, rfl⟩
  go_wp2_with fail
  refine ONH.out.mono ?_
  rintro e w1 ⟨rfl, rfl⟩
  go_wp2_with fail
  refine RO.out.mono ?_
  rintro e w1 ⟨rfl, rfl⟩
  go_wp2_with fail
  refine TXH.out.mono ?_
  rintro e w1 ⟨rfl, b1⟩
  have RT := Lib.hid (refText_p As n c _ l w1 (HR.out.below b1) HB.out hn)
  rw [← htx] at RT
  clear htx TXH ONH RO LN
  go_wp2_with fail
  refine RT.out.mono ?_
  rintro e w2 ⟨rfl, rfl⟩
  have BY := Lib.hid (bytes_p g (val l) n B A w1 (HV.out.below b1))
  go_wp2_with fail
  refine BY.out.mono ?_
  rintro e w2 ⟨A2, c2, rfl, hc2, hm2, hown2, b2⟩
  have hb12 : Below w.heap.size w w2 := b1.trans (b2.mono b1.size)
  have RB := refBytes_p As n c _ l w2 (HR.out.below hb12) hb12.size HB.out hn
  rw [HL.out] at RB
  have RBH := Lib.hid RB
  have R2 := Lib.hid (Rd.ofOwn hown2)
  have HB12 := Lib.hid hb12
  have B1 := Lib.hid b1
  clear RB hown2 hb12 b1 b2 RT BY
  go_wp2_with fail
  refine RBH.out.mono ?_
  rintro e w3 ⟨A3, c3, rfl, hc3, hm3, hown3, b3⟩
  have EQ := Lib.hid (equal_same A2 A3 _ c2 _ c3 _ _ _ w3 (R2.out.below b3) (Rd.ofOwn hown3) (bytesL_lt _ _))
  have HB3 : Hid (Below w.heap.size w w3) := HB12.out.trans (b3.mono HB12.out.size)
  clear hown3 b3 RBH R2 HB12
  go_wp2_with fail
  refine EQ.out.mono ?_
  rintro e w4 ⟨rfl, rfl⟩
  have HV3 : Hid (VecB w3 B g (val l) n A) := HV.out.below HB3.out
  have AT1 := Lib.hid (at_out (some ⟨g, 0, none⟩) n (-1) w3 (by omega) (.inl (by omega)) (blen_p g (val l) n A w3 HV3.out))
  have AT2 := Lib.hid (at_out (some ⟨g, 0, none⟩) n (n : Int) w3 (by omega) (.inr (Int.le_refl _)) (blen_p g (val l) n A w3 HV3.out))
  clear EQ
  go_wp2_with fail
  refine AT1.out.mono ?_
  rintro e w4 ⟨rfl, rfl⟩
  go_wp2_with fail
  refine AT2.out.mono ?_
  rintro e w4 ⟨rfl, rfl⟩
  have HR3 : Hid (Rd w3 w.heap.size As n (I64 (ofN l))) := HR.out.below HB3.out
  clear AT1 AT2 HR HV
  go_wp2_with fail
  go_loopw [48] (fun i wr => ∃ k : Nat, k ≤ n ∧ i = .int .i64 (k : Int) ∧ wr = w3) (fun i _ => n - (intOf i).toNat)
  case atStart => exact ⟨0, by omega, rfl, rfl⟩
  case round =>
    obtain ⟨k, hk, rfl, rfl⟩ := hrel
    by_cases hlt : k < n
    · obtain ⟨b, o, rfl, _, k1⟩ := HR3.out.i64 (by omega)
      have t1 := k1 k hlt
      rw [ofN_get] at t1
      have AT := at_p g (val l) n k B A wr HV3.out hlt
      rw [val_bit HB.out] at AT
      have ATH := Lib.hid AT
      clear k1 AT
      generalize l.getD k 0 = z at *
      go_wp2_with fail
      refine ATH.out.mono ?_
      rintro e w4 ⟨rfl, rfl⟩
      go_wp2_with fail
      go_roundw
      case rel => exact ⟨k + 1, by omega, by go_num, trivial⟩
      case measure => simp [intOf]; omega
    · obtain rfl : k = n := by omega
      go_wp2_with fail
      go_ret
      exact ⟨rfl, HB3.out⟩
end Go.Proofs.Ytladmlhpemhahaa
