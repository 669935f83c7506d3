/- The bits of a word, and a word of bits. -/
import Derived.Test.YtagpdpacaoianaaGreatDoorZg6
import Derived.Test.YtagpdpacaoianaaGreatDoorZMCnt
import Derived.Test.YtagpdpacaoianaaGreatDoorZBJoin
import Derived.Test.YtagpdpacaoianaaGreatDoorZBRefB
namespace Go.Proofs.YtagpdpacaoianaaGreatDoor
set_option maxRecDepth 20000
open Go.RowKit
set_option linter.unusedVariables false
/-- Two bits a letter. -/
def wbits (ks : List Nat) : List Nat := ks.flatMap fun k => [k % 2, k / 2 % 2]
theorem wbits_snoc (ks : List Nat) (k : Nat) : wbits (ks ++ [k]) = wbits ks ++ [k % 2, k / 2 % 2] := by simp [wbits]
theorem wbits_len : ∀ ks : List Nat, (wbits ks).length = 2 * ks.length
  | [] => rfl
  | k :: ks => by
    have := wbits_len ks
    unfold wbits at *
    rw [List.flatMap_cons, List.length_append, this, List.length_cons]; simp; omega
theorem wbits_bin (ks : List Nat) : Bin (wbits ks) := fun b hb => by
  unfold wbits at hb
  obtain ⟨k, _, h⟩ := List.mem_flatMap.1 hb
  simp at h
  omega
theorem wv_wbits : ∀ ks : List Nat, wv ks = val (wbits ks)
  | [] => rfl
  | k :: ks => by
    have := wv_wbits ks
    unfold wbits at *
    rw [List.flatMap_cons]
    show k % 4 + 4 * wv ks = k % 2 + 2 * (k / 2 % 2 + 2 * val (List.flatMap (fun k => [k % 2, k / 2 % 2]) ks))
    rw [← this]; omega
/-- Letters of bits. -/
theorem wbits_text (ks : List Nat) : textOf (numL (wv ks) (2 * ks.length)) = textOf (wbits ks) := by
  rw [wv_wbits, numL_val (wbits_bin ks) _ (by rw [wbits_len]; exact Nat.le_refl _), List.take_of_length_le (by rw [wbits_len]; exact Nat.le_refl _)]
theorem joinnil_p (g : Nat) (w : World) : Calls Tryz.prog 47 #[.pointer (some ⟨g, 0, none⟩), .pointer none] w fun e w' => e = .returned (.tuple #[]) ∧ w = w' := by
  go_enter Tryz.func47, Tryz.ntmps47
  go_wp2_with fail
  refine bodyPost_ret (results_none rfl _ _ _) rfl ⟨rfl, rfl⟩
/-- A vector as new as the call. -/
def NewBits (w : World) (ks : List Nat) (e : Ending) (w' : World) : Prop := ∃ gv A, e = .returned (.pointer (some ⟨gv, 0, none⟩)) ∧ VecAt w' gv (val (wbits ks)) (wbits ks).length A ∧ Below w.heap.size w w' ∧ w.heap.size ≤ gv
set_option maxHeartbeats 1000000 in
theorem mbits_p (B g : Nat) (ks : List Nat) (w : World) (h : WordAt w B g ks) (hn : ks.length ≤ 400000) :
    Calls Tryz.prog 16 #[.pointer (some ⟨g, 0, none⟩)] w (NewBits w ks) := by
  have BN := Lib.hid (bnew_p w)
  obtain ⟨h1, h2, gv, A, h3, h4, h5⟩ := h
  have h5' : VecB w gv gv (val (wbits ks)) (wbits ks).length A := by
    have := h5
    rw [wv_wbits, ← wbits_len] at this
    exact VecB.base this (by omega)
  have H4 := Lib.hid h4
  have H5 := Lib.hid h5'
  clear h4 h5 h5'
  go_enter Tryz.func16, Tryz.ntmps16
  go_wp2_with fail
  refine BN.out.mono ?_
  rintro e w1 ⟨rfl, hv, b1⟩
  have c0 : w1.cell? ⟨g, 0, none⟩ = some (.pointer (some ⟨gv, 0, none⟩)) := (H4.out.below b1).cell 0
  have jp := bjoin_p w.heap.size gv gv [] (wbits ks) none A w1 hv (H5.out.below b1) (fun i hi hj => by
    have h9 := H5.out.foot_lt hj
    rcases hi with rfl | ⟨b, e, _⟩
    · omega
    · cases e) (wbits_bin ks) (by simp [wbits_len]; omega)
  have HB1 := Lib.hid b1
  have HV := Lib.hid hv
  have JP := Lib.hid jp
  clear hv b1 jp BN H5 H4
  go_wp2_with fail
  refine JP.out.mono ?_
  intro e w2 hp
  have hb := NumPost.below hp HV.out
  obtain ⟨rfl, A', hv2, hm, ha⟩ := hp
  rw [List.nil_append] at hv2
  have V2 := Lib.hid hv2
  have B2 : Hid (Below w.heap.size w w2) := HB1.out.trans hb
  clear hb hv2 hm ha JP HV HB1
  go_wp2_with fail
  go_ret
  exact ⟨_, A', rfl, V2.out, B2.out, Nat.le_refl _⟩
theorem mbits_nil (w : World) : Calls Tryz.prog 16 #[.pointer none] w fun e w' => e = .returned (.pointer none) ∧ w = w' := by
  go_enter Tryz.func16, Tryz.ntmps16
  go_wp2_with fail
  go_ret
  exact ⟨rfl, rfl⟩
set_option maxHeartbeats 1000000 in
theorem mtext_nil (w : World) : Calls Tryz.prog 34 #[.pointer none] w fun e w' => e = .returned (.string { data := #[] }) ∧ Below w.heap.size w w' := by
  have LP := Lib.hid (mlen_nil w)
  obtain ⟨i0, hi0, hz0, hz1, hz2⟩ := info_parts info_u8
  have hmk := run_make_one (P := Tryz.prog) 43 5 i0 (.int .u8 0) 1 Tryz.underlying43 hi0 hz0 hz1 hz2 rfl .i64 .i64 0 (by omega) (by omega)
  have hmk0 : ∀ W : World, (Instr.makeSlice 43 (.int .i64 0) (.int .i64 0)).run Tryz.prog W = .ok (.slice (some ⟨W.heap.size, 0, none⟩) 0 0) (W.alloc (.cells #[] 5)) := fun W => hmk W
  clear hmk
  go_enter Tryz.func34, Tryz.ntmps34
  go_wp2_with fail
  refine LP.out.mono ?_
  rintro e w' ⟨rfl, rfl⟩
  go_wp2_with fail
  go_loopw [10] (fun i wr => i = .int .i64 0 ∧ Below w.heap.size w wr) (fun _ _ => 0)
  case atStart => exact ⟨rfl, (Below.refl _ _).alloc (Nat.le_refl _) _⟩
  case round =>
    obtain ⟨rfl, hbl⟩ := hrel
    have hend : Rd wr (w.heap.size + 1) (some ⟨w.heap.size, 0, none⟩) 0 (U8 []) := ⟨rfl, fun h => absurd h (by omega)⟩
    have hcv := conv_bytes (some ⟨w.heap.size, 0, none⟩) 0 0 _ [] wr hend
    go_wp2_with fail
    go_ret
    exact ⟨rfl, hbl⟩
/-- The word of bits. -/
def OfPost4 (w : World) (ks : List Nat) (e : Ending) (w' : World) : Prop := ∃ g, e = .returned (.tuple #[.pointer (some ⟨g, 0, none⟩), .int .i64 0]) ∧ WordAt w' w.heap.size g ks ∧ Below w.heap.size w w'
set_option maxHeartbeats 1000000 in
theorem mof_p (h : Nat) (A : Option Addr) (ks : List Nat) (w : World) (hk : ∀ x ∈ ks, x < 4) (hv : VecAt w h (val (wbits ks)) (wbits ks).length A) (hn : ks.length ≤ 400000) :
    Calls Tryz.prog 18 #[.pointer (some ⟨h, 0, none⟩)] w (OfPost4 w ks) := by
  have LN := Lib.hid (blen_p h _ _ A w hv)
  have MN := Lib.hid (mnew_p w)
  have HV := Lib.hid hv
  have HK := Lib.hid hk
  rw [wbits_len] at LN
  obtain ⟨n2, hn2⟩ : ∃ n2, n2 = 2 * ks.length := ⟨_, rfl⟩
  rw [← hn2] at LN
  have e1 : (n2 : Int) % 2 = 0 := by omega
  have e2 : (n2 : Int).tmod 2 = 0 := by rw [Int.tmod_eq_emod_of_nonneg (by omega)]; exact e1
  clear hn2 hv hk
  go_enter Tryz.func18, Tryz.ntmps18
  go_wp2_with fail
  refine LN.out.mono ?_
  rintro e w1 ⟨rfl, rfl⟩
  go_wp2_with fail
  refine MN.out.mono ?_
  rintro e w2 ⟨g, rfl, hw, b2⟩
  obtain ⟨h1, h2, gv, A2, h3, h4, h5⟩ := hw
  have c0 : w2.cell? ⟨g, 0, none⟩ = some (.pointer (some ⟨gv, 0, none⟩)) := h4.cell 0
  have h5' : VecAt w2 gv (val []) ([] : List Nat).length A2 := h5
  have jp := bjoin_p gv h (h + 1) [] (wbits ks) A2 A w2 h5' (HV.out.below b2) (fun i hi hj => by
    have h9 := HV.out.foot_lt hj
    rcases VecB.foot_le (B := w.heap.size) (VecB.base (B' := w.heap.size) h5 (by omega)) hi with q | q
    · omega
    · omega) (wbits_bin ks) (by simp [wbits_len]; omega)
  have JP := Lib.hid jp
  have B2 := Lib.hid b2
  have H4 := Lib.hid h4
  have H5 := Lib.hid h5'
  clear h4 h5 h5' jp b2 LN MN HV
  go_wp2_with fail
  refine JP.out.mono ?_
  intro e w3 hp
  have hb := NumPost.below hp H5.out
  obtain ⟨rfl, A', hv3, hm, ha⟩ := hp
  rw [List.nil_append] at hv3
  have W3 : Hid (WordAt w3 w.heap.size g ks) := by
    refine ⟨HK.out, h2, gv, A', h3, H4.out.mod hm (foot_word H4.out H5.out), ?_⟩
    rw [wv_wbits, ← wbits_len]; exact hv3
  have B3 : Hid (Below w.heap.size w w3) := B2.out.trans (hb.mono h3)
  clear hb hv3 hm ha JP
  go_wp2_with fail
  go_ret2
  exact ⟨g, rfl, W3.out, B3.out⟩
theorem mof_odd (h V n : Nat) (A : Option Addr) (w : World) (hv : VecAt w h V (2 * n + 1) A) :
    Calls Tryz.prog 18 #[.pointer (some ⟨h, 0, none⟩)] w fun e w' => e = .returned (.tuple #[.pointer none, .int .i64 3]) ∧ w = w' := by
  have LN := Lib.hid (blen_p h _ _ A w hv)
  have hn := hv.2.1
  obtain ⟨n2, hn2⟩ : ∃ n2, n2 = 2 * n + 1 := ⟨_, rfl⟩
  rw [← hn2] at LN hn
  have e1 : (n2 : Int) % 2 = 1 := by omega
  have e2 : (n2 : Int).tmod 2 = 1 := by rw [Int.tmod_eq_emod_of_nonneg (by omega)]; exact e1
  clear hn2 hv
  go_enter Tryz.func18, Tryz.ntmps18
  go_wp2_with fail
  refine LN.out.mono ?_
  rintro e w1 ⟨rfl, rfl⟩
  go_wp2_with fail
  go_ret2
  exact ⟨rfl, rfl⟩
set_option maxHeartbeats 1000000 in
theorem mof_nil (w : World) : Calls Tryz.prog 18 #[.pointer none] w (OfPost4 w []) := by
  have LN := Lib.hid (blen_nil w)
  have MN := Lib.hid (mnew_p w)
  go_enter Tryz.func18, Tryz.ntmps18
  go_wp2_with fail
  refine LN.out.mono ?_
  rintro e w1 ⟨rfl, rfl⟩
  go_wp2_with fail
  refine MN.out.mono ?_
  rintro e w2 ⟨g, rfl, hw, b2⟩
  obtain ⟨h1, h2, gv, A2, h3, h4, h5⟩ := hw
  have c0 : w2.cell? ⟨g, 0, none⟩ = some (.pointer (some ⟨gv, 0, none⟩)) := h4.cell 0
  have JN := Lib.hid (joinnil_p gv w2)
  have W2 : Hid (WordAt w2 w.heap.size g []) := ⟨h1, h2, gv, A2, h3, h4, h5⟩
  have B2 := Lib.hid b2
  clear h4 h5 b2 LN MN h1
  go_wp2_with fail
  refine JN.out.mono ?_
  rintro e w3 ⟨rfl, rfl⟩
  go_wp2_with fail
  go_ret2
  exact ⟨g, rfl, W2.out, B2.out⟩
end Go.Proofs.YtagpdpacaoianaaGreatDoor
