/- PackNil: of nothing. -/
import Derived.Test.YtcefohjddbjcjaaZPkLaw
import Derived.Test.YtcefohjddbjcjaaZPkUnpk
namespace Go.Proofs.Ytcefohjddbjcjaa
set_option maxRecDepth 20000
open Go.RowKit
set_option linter.unusedVariables false
set_option maxHeartbeats 1000000 in
theorem pbytes_nil (w : World) :
    Calls Try.prog 22 #[.pointer none] w (NewU8 w []) := by
  have L := Lib.hid (blen_nil w)
  obtain ⟨m, hm⟩ : ∃ m : Nat, Hid (m = 0) := ⟨0, rfl⟩
  have BF : Hid (Calls Try.prog 33 #[.int .i64 0] w fun e w' => e = .returned (.int .i64 (m : Int)) ∧ w = w') := by rw [hm.out]; exact bytesFor_p 0 w (by omega)
  obtain ⟨i0, hi0, hz0, hz1, hz2⟩ := info_parts info_u8
  have hmk := run_make_one (P := Try.prog) 23 5 i0 (.int .u8 0) 1 Try.underlying23 hi0 hz0 hz1 hz2 rfl .i64 .i64 m (by rw [hm.out]; omega) (by rw [hm.out]; omega)
  have hm9 : m ≤ 1000000 := by rw [hm.out]; omega
  have hown := own_made w 5 m (.int .u8 0) (by simp only [maxLen]; omega)
  rw [List.toArray_replicate] at hown
  go_enter Try.func22, Try.ntmps22
  go_wp2_with (first
    | (go_at_call 21; refine L.out.mono ?_; rintro e w' ⟨rfl, rfl⟩)
    | (go_at_call 33; refine BF.out.mono ?_; rintro e w' ⟨rfl, rfl⟩))
  go_loopw [12] (fun i wr => i = .int .i64 0 ∧ Below w.heap.size w wr ∧ Hid (wr.ownsRow w.heap.size 5 1 (.slice (some ⟨w.heap.size, 0, none⟩) m m) m (List.replicate m (.int .u8 0)))) (fun i _ => 0)
  case atStart => exact ⟨rfl, (Below.refl _ _).alloc (Nat.le_refl _) _, hown⟩
  case round =>
    obtain ⟨rfl, hbl, ho⟩ := hrel
    obtain rfl : m = 0 := hm.out
    clear hown
    go_wp2_with fail
    go_ret
    exact NewU8.mk rfl ho.out hbl
theorem Encode_nil (k : Nat) (w : World) (hk : k ≤ 8) :
    Calls Try.prog 35 #[.pointer none, .int .i64 (k : Int)] w fun e w' => ∃ g A, e = .returned (.tuple #[.pointer (some ⟨g, 0, none⟩), .int .i64 0]) ∧ VecAt w' g (val (codeOf k [])) (codeOf k []).length A ∧ Below w.heap.size w w' := by
  have EV := Lib.hid (encode_n k w hk)
  have IO := Lib.hid (fun W => isOrder_yes k W hk)
  clear hk
  go_enter Try.func35, Try.ntmps35
  go_wp2_with fail
  refine (IO.out _).mono ?_
  rintro e w1 ⟨rfl, rfl⟩
  go_wp2_with fail
  refine EV.out.mono ?_
  rintro e w1 ⟨g', A', rfl, h1, b1, l1⟩
  have H1 := Lib.hid h1
  have B1 := Lib.hid b1
  clear h1 b1 EV
  go_wp2_with fail
  go_ret2
  exact ⟨g', A', rfl, H1.out, B1.out⟩
theorem Packs.nil_ (w : World) : Packs w none [] := ⟨fun W _ => pbytes_nil W, fun k W hk _ => Encode_nil k W hk⟩
theorem begins_nil (x : Nat) : ¬ Begins [] x := begins_no (fun j hj => absurd hj (by simp))
set_option maxHeartbeats 4000000 in
theorem packNil_walk (plain : Bool) (n : Int) (w : World) :
    Calls Try.prog 6 #[.bool plain, .int .i64 n] w fun e w' => e = .returned (.bool true) ∧ Below w.heap.size w w' := by
  have AW := Lib.hid (awake19_p w)
  go_enter Try.func6, Try.ntmps6
  go_wp2_with fail
  refine AW.out.mono ?_
  rintro e w1 ⟨rfl, b1⟩
  have bb := (Below.refl w1.heap.size w1).alloc (Nat.le_refl _) (.cells #[.int .u8 0] 5)
  have r2 := Rd.new w1 5 #[.int .u8 0] 1 (U8 [0]) (by simp [U8]) (by simp)
  have UP := Lib.hid (unp_p (some ⟨w1.heap.size, 0, none⟩) 1 1 0 [0] plain _ (r2.up (by simp)) (fun b hb => by simp at hb; omega) (by omega) (by omega) (by omega) (by omega))
  have B1 := Lib.hid (b1.trans (bb.mono b1.size))
  clear b1 bb r2 AW
  go_wp2_with fail
  refine UP.out.mono ?_
  rintro e w2 ⟨hor, b2⟩
  rcases hor with ⟨l, g, A, hb, hl, _, rfl, hv⟩ | ⟨hno, _⟩
  rotate_left
  · exact absurd (by rw [packB_nil]; rfl) (hno [] (fun _ h => by cases h) rfl [])
  obtain rfl : l = [] := List.eq_nil_of_length_eq_zero hl
  rw [packB_nil, show ([0] : List Nat).length = 1 from rfl]
  have B2 := Lib.hid (B1.out.trans (b2.mono B1.out.size))
  have HV := Lib.hid hv
  have UE := Lib.hid (unp_empty none 0 0 plain w2 (by omega))
  clear hb hl hv b2 UP B1
  go_wp2_with fail
  refine UE.out.mono ?_
  rintro e w3 ⟨rfl, rfl⟩
  have GN := Lib.hid (pkGet_p none 0 0 0 [] w2 (Rd.nil _ _ _) (fun _ h => by cases h) (by omega))
  clear UE
  go_wp2_with fail
  refine GN.out.mono ?_
  rintro e w3 ⟨hor, rfl⟩
  obtain rfl : e = .returned (.tuple #[.int .u64 0, .int .i64 0, .int .i64 3]) := by
    rcases hor with ⟨x, hx, _⟩ | ⟨_, e⟩
    · exact absurd hx (begins_nil x)
    · exact e
  have PK := Lib.hid (pack_p none [] plain w2 (Packs.nil_ w2) (by decide))
  rw [packB_nil] at PK
  clear hor GN
  go_wp2_with fail
  refine PK.out.mono ?_
  rintro e w4 ⟨A4, c4, rfl, hc4, hm4, ho4, b4⟩
  rw [show ([0] : List Nat).length = 1 from rfl] at ho4 hc4 ⊢
  have bb := (Below.refl w4.heap.size w4).alloc (Nat.le_refl _) (.cells #[.int .u8 0] 5)
  have r2 := Rd.new w4 5 #[.int .u8 0] 1 (U8 [0]) (by simp [U8]) (by simp)
  have EQ := Lib.hid (equal_same A4 (some ⟨w4.heap.size, 0, none⟩) 1 c4 1 1 _ _ [0] _ ((Rd.ofOwn ho4).onto bb) r2 (fun b hb => by simp at hb; omega))
  have B4a := B2.out.trans (b4.mono B2.out.size)
  have B4 := Lib.hid (B4a.trans (bb.mono B4a.size))
  have LN := Lib.hid (blen_p g _ _ A _ (VecB.below (VecB.below HV.out b4) bb))
  have NP := Lib.hid (pkNum_p none 0 0 0 [] (w4.alloc (.cells #[.int .u8 0] 5)) (Rd.nil _ _ _) (by decide) (by omega) (by omega))
  rw [List.nil_append, numB_0] at NP
  generalize hw5 : w4.alloc (.cells #[.int .u8 0] 5) = w5 at *
  clear ho4 hc4 hm4 b4 bb r2 PK B4a B2 HV
  go_wp2_with fail
  refine EQ.out.mono ?_
  rintro e w6 ⟨rfl, rfl⟩
  go_wp2_with fail
  refine LN.out.mono ?_
  rintro e w6 ⟨rfl, rfl⟩
  go_wp2_with fail
  refine NP.out.mono ?_
  rintro e w6 ⟨A6, c6, rfl, hc6, hm6, ho6, b6⟩
  rw [show ([0] : List Nat).length = 1 from rfl] at ho6 hc6 ⊢
  have bb := (Below.refl w6.heap.size w6).alloc (Nat.le_refl _) (.cells #[.int .u8 0] 5)
  have r2 := Rd.new w6 5 #[.int .u8 0] 1 (U8 [0]) (by simp [U8]) (by simp)
  have EQ2 := Lib.hid (equal_same A6 (some ⟨w6.heap.size, 0, none⟩) 1 c6 1 1 _ _ [0] _ ((Rd.ofOwn ho6).onto bb) r2 (fun b hb => by simp at hb; omega))
  have B6a := B4.out.trans (b6.mono B4.out.size)
  have B6 := Lib.hid (B6a.trans (bb.mono B6a.size))
  clear ho6 hc6 hm6 b6 bb r2 NP B6a B4 EQ LN
  go_wp2_with fail
  refine EQ2.out.mono ?_
  rintro e w7 ⟨rfl, rfl⟩
  go_wp2_with fail
  go_ret
  exact ⟨rfl, B6.out⟩
end Go.Proofs.Ytcefohjddbjcjaa
