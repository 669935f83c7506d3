/- At of a word. -/
import Derived.Test.YtgohdhmijfajfaaWWordM
import Derived.BigQuiet
namespace Go.Proofs.Ytgohdhmijfajfaa
set_option maxRecDepth 20000
open Go.RowKit
set_option linter.unusedVariables false
set_option maxHeartbeats 4000000 in
theorem mat_p (B g : Nat) (ks : List Nat) (i : Nat) (w : World) (h : WordAt w B g ks) (hi : i < ks.length) (hn : ks.length ≤ 400000) : Calls Try.prog 39 #[.pointer (some ⟨g, 0, none⟩), .int .i64 (i : Int)] w fun e w' => e = .returned (.int .i64 ((ks.getD i 0 : Nat) : Int)) ∧ ∃ j, w' = w.drewN j := by
  have LP := Lib.hid (mlen_p B g ks w h)
  obtain ⟨h1, h2, gv, A, h3, h4, h5⟩ := h
  obtain ⟨a, ha⟩ : ∃ a, a = 2 * i := ⟨_, rfl⟩
  obtain ⟨a1, ha1⟩ : ∃ a1, a1 = 2 * i + 1 := ⟨_, rfl⟩
  obtain ⟨bt, hbt⟩ : ∃ bt : Nat → Nat, ∀ p, bt p = wv ks / 2 ^ p % 2 := ⟨_, fun _ => rfl⟩
  have AT : Hid (∀ (j p : Nat), p < 2 * ks.length → Calls Try.prog 69 #[.pointer (some ⟨gv, 0, none⟩), .int .i64 (p : Int)] (w.drewN j) fun e w' => e = .returned (.int .i64 ((bt p : Nat) : Int)) ∧ w.drewN j = w') := fun j p hp => by
    rw [hbt]; exact at_p gv _ _ p (gv + 1) A (w.drewN j) (VecB.below h5 (below_draws (Below.refl _ _) j)) hp
  have hx : bt a = ks.getD i 0 % 2 := by rw [hbt, ha]; exact wv_lo ks i hi
  have hy : bt a1 = ks.getD i 0 / 2 % 2 := by rw [hbt, ha1]; exact wv_hi ks i hi
  have hal : a < 2 * ks.length := by omega
  have ha1l : a1 < 2 * ks.length := by omega
  have AT0 := Lib.hid (fun j => AT.out j a hal)
  have AT1 := Lib.hid (fun j => AT.out j a1 ha1l)
  have c0 : w.cell? ⟨g, 0, none⟩ = some (.pointer (some ⟨gv, 0, none⟩)) := h4.cell 0
  have hk4 : ks.getD i 0 < 4 := h1 _ (by rw [List.getD_eq_getElem?_getD, List.getElem?_eq_getElem hi]; exact List.getElem_mem hi)
  generalize ks.getD i 0 = k at *
  have f1 : 2 * (i : Int) = (a : Int) := by omega
  have f2 : (a : Int) + 1 = (a1 : Int) := by omega
  have g1 : IntKind.i64.wrap (a : Int) = (a : Int) := by simp [IntKind.wrap, IntKind.signed, IntKind.bits]; omega
  have g2 : IntKind.i64.wrap (a1 : Int) = (a1 : Int) := by simp [IntKind.wrap, IntKind.signed, IntKind.bits]; omega
  obtain ⟨y2, hy2⟩ : ∃ y2, y2 = 2 * bt a1 := ⟨_, rfl⟩
  have f3 : 2 * ((bt a1 : Nat) : Int) = (y2 : Int) := by omega
  have g3 : IntKind.i64.wrap (y2 : Int) = (y2 : Int) := by simp [IntKind.wrap, IntKind.signed, IntKind.bits]; omega
  have f4 : ((bt a : Nat) : Int) + (y2 : Int) = (k : Int) := by omega
  have g4 : IntKind.i64.wrap (k : Int) = (k : Int) := by simp [IntKind.wrap, IntKind.signed, IntKind.bits]; omega
  have hlt : ¬ (ks.length : Int) ≤ (i : Int) := by omega
  have hlt2 : decide ((ks.length : Int) ≤ (i : Int)) = false := by rw [decide_eq_false_iff_not]; exact hlt
  clear h4 h5 ha ha1 hx hy hy2 h1 hbt hal ha1l AT
  have AT : Hid (∀ (j p : Nat), (p = a ∨ p = a1) → Calls Try.prog 69 #[.pointer (some ⟨gv, 0, none⟩), .int .i64 (p : Int)] (w.drewN j) fun e w' => e = .returned (.int .i64 ((bt p : Nat) : Int)) ∧ w.drewN j = w') := fun j p hp => by
    rcases hp with rfl | rfl
    · exact AT0.out j
    · exact AT1.out j
  clear AT0 AT1
  go_enter Try.func39, Try.ntmps39
  go_wp2_with fail
  refine LP.out.mono ?_
  rintro e w' ⟨rfl, rfl⟩
  go_wp2_with fail
  go_quiet ((go_at_call 69; exact (AT.out _ _ (by first | exact .inl rfl | exact .inr rfl)).mono fun e w' h => ⟨h.1, _, h.2.symm⟩))
  go_wp2_with fail
  go_ret
  exact ⟨rfl, _, rfl⟩
/-- The text of letters. -/
def signN (k : Nat) : Nat := [40, 41, 91, 93].getD k 0
def textM (ks : List Nat) : ByteArray := strOfNums (ks.map fun k => ((signN k : Nat) : Int))
theorem strOfNums_map (X : List Nat) : strOfNums (X.map fun (b : Nat) => (b : Int)) = strOfNums (X.map fun (b : Nat) => (b : Int)) := rfl
set_option maxHeartbeats 4000000 in
theorem mtext_p (B g : Nat) (ks : List Nat) (w : World) (h : WordAt w B g ks) (hn : ks.length ≤ 400000) :
    Calls Try.prog 15 #[.pointer (some ⟨g, 0, none⟩)] w fun e w' => e = .returned (.string (textM ks)) ∧ Below w.heap.size w w' := by
  have LP := Lib.hid (mlen_p B g ks w h)
  obtain ⟨n, hnn⟩ : ∃ n, n = ks.length := ⟨_, rfl⟩
  rw [← hnn] at LP hn
  obtain ⟨X, hX⟩ : ∃ X, X = ks.map signN := ⟨_, rfl⟩
  have HX : Hid (X.length = n) := by show _ = _; rw [hX, List.length_map, hnn]
  have HT : Hid (textM ks = strOfNums (X.map fun (b : Nat) => (b : Int))) := by
    show _ = _
    rw [hX, textM, List.map_map]; rfl
  have H4 := Lib.hid h.1
  have XG : Hid (∀ i, i < n → ∃ k, k < 4 ∧ ks.getD i 0 = k ∧ X.getD i 0 = signN k) := fun i hi => by
    have hil : i < ks.length := by omega
    refine ⟨ks.getD i 0, H4.out _ (by rw [List.getD_eq_getElem?_getD, List.getElem?_eq_getElem hil]; exact List.getElem_mem hil), rfl, ?_⟩
    rw [hX]; simp [List.getD_eq_getElem?_getD, hil]
  have AP : Hid (∀ (i : Nat) (W : World), i < n → Below w.heap.size w W → Calls Try.prog 39 #[.pointer (some ⟨g, 0, none⟩), .int .i64 (i : Int)] W fun e w' => e = .returned (.int .i64 ((ks.getD i 0 : Nat) : Int)) ∧ Below W.heap.size W w') := fun i W hi z =>
    (mat_p B g ks i W (h.below z) (by omega) (by omega)).mono fun e w' ⟨h1, j, h2⟩ => ⟨h1, by rw [h2]; exact below_draws (Below.refl _ _) j⟩
  obtain ⟨i0, hi0, hz0, hz1, hz2⟩ := info_parts info_u8
  have hmk := run_make_one (P := Try.prog) 22 5 i0 (.int .u8 0) 1 Try.underlying22 hi0 hz0 hz1 hz2 rfl .i64 .i64 n (by omega) (by omega)
  clear h hX hnn H4
  go_enter Try.func15, Try.ntmps15
  go_wp2_with fail
  refine LP.out.mono ?_
  rintro e w' ⟨rfl, rfl⟩
  go_wp2_with fail
  go_loopw [10] (fun i wr => ∃ k : Nat, k ≤ n ∧ i = .int .i64 k ∧ Blk wr w.heap.size 5 (U8 (X.take k ++ List.replicate (n - k) 0)).toArray ∧ Below w.heap.size w wr) (fun i _ => n - (intOf i).toNat)
  case atStart =>
    refine ⟨0, by omega, rfl, ?_, (Below.refl _ _).alloc (Nat.le_refl _) _⟩
    have := Blk.new w 5 (Array.replicate n (.int .u8 0))
    simpa [U8] using this
  case round =>
    obtain ⟨k, hk, rfl, hbk, hbl⟩ := hrel
    by_cases hlt : k < n
    · obtain ⟨q, hq4, hq, hxq⟩ := XG.out k hlt
      have AT := Lib.hid (AP.out k wr hlt hbl)
      rw [hq] at AT
      have hf := fill_next X k n HX.out hlt
      rw [hxq] at hf
      have HFX := Lib.hid hf
      have hqI : (q : Int) = 0 ∨ (q : Int) = 1 ∨ (q : Int) = 2 ∨ (q : Int) = 3 := by omega
      have hsg : ∀ W : World, (Instr.index 9 (.string { data := #[40, 41, 91, 93] }) (.int .i64 (q : Int))).run Try.prog W = .ok (.int .u8 ((signN q : Nat) : Int)) W := fun W => by
        rcases (show q = 0 ∨ q = 1 ∨ q = 2 ∨ q = 3 by omega) with rfl | rfl | rfl | rfl <;> rfl
      have hs256 : signN q < 256 := by
        rcases (show q = 0 ∨ q = 1 ∨ q = 2 ∨ q = 3 by omega) with rfl | rfl | rfl | rfl <;> decide
      generalize signN q = y at *
      clear hf hq hxq hqI hq4
      obtain ⟨z, hz⟩ : ∃ z, (U8 (X.take k ++ List.replicate (n - k) 0)).toArray[k]? = some z := ⟨_, Array.getElem?_eq_getElem (by simp [U8_len]; have := HX.out; omega)⟩
      have HBK := Lib.hid hbk
      have HBL := Lib.hid hbl
      have HZ := Lib.hid hz
      clear hbk hbl hz
      go_wp2_with fail
      refine AT.out.mono ?_
      rintro e w2 ⟨rfl, z2⟩
      have hbk2 := HBK.out.below z2
      have tz : w2.cell? ⟨w.heap.size, k, none⟩ = some z := (hbk2.cell k).trans HZ.out
      have fz : w2.frozen? ⟨w.heap.size, k, none⟩ = false := hbk2.frozen k
      have NB := Lib.hid (hbk2.set_ k (.int .u8 (y : Int)))
      have ZB := Lib.hid ((HBL.out.trans (z2.mono HBL.out.size)).setCell (p := ⟨w.heap.size, k, none⟩) (Nat.le_refl _) (.int .u8 (y : Int)))
      clear hbk2 z2 HBK HBL AT
      go_wp2_with fail
      go_roundw
      case rel =>
        refine ⟨k + 1, by omega, by go_num, ?_, ZB.out⟩
        have := NB.out
        rw [HFX.out] at this
        exact this
      case measure => simp [intOf]; omega
    · obtain rfl : k = n := by omega
      rw [Nat.sub_self, List.replicate_zero, List.append_nil, List.take_of_length_le (by rw [HX.out]; exact Nat.le_refl _)] at hbk
      have hend : Rd wr (w.heap.size + 1) (some ⟨w.heap.size, 0, none⟩) k (U8 X) :=
        ⟨by rw [U8_len, HX.out], fun _ => ⟨_, _, rfl, Nat.lt_succ_self _, fun j hj => by rw [Nat.zero_add, hbk.cell]; simp at hj ⊢⟩⟩
      have hcv := conv_bytes (some ⟨w.heap.size, 0, none⟩) k k _ X wr hend
      go_wp2_with fail
      go_ret
      exact ⟨by rw [HT.out]; rfl, hbl⟩
end Go.Proofs.Ytgohdhmijfajfaa
