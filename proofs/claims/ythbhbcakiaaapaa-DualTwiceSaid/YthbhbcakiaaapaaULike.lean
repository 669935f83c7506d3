/- The law's like, and the document's Dual and Mirror. -/
import Derived.Test.YthbhbcakiaaapaaUTurn
import Derived.Test.YthbhbcakiaaapaaUMade
import Derived.Test.YthbhbcakiaaapaaDMakes
import Derived.Test.YthbhbcakiaaapaaEqualI
import Derived.Test.YthbhbcakiaaapaaPRef
import Derived.Deep.RegionHeld3
import Derived.Deep.RegionWith
namespace Go.Proofs.Ythbhbcakiaaapaa
set_option maxRecDepth 100000
open Go.RowKit
set_option linter.unusedVariables false
set_option maxHeartbeats 4000000 in
theorem like10_p (g : Nat) (l b : List Nat) (root lone : Int) (A : Option Addr) (c : Nat) (w : World) (h : MapAt w g l b root lone) (hr : Rd w w.heap.size A l.length (I64 (ofN l))) (hc : l.length ≤ c) (hcm : c ≤ maxLen) :
    Calls Try.prog 13 #[.pointer (some ⟨g, 0, none⟩), .agg #[.slice A l.length c, .int .i64 root, .int .i64 lone]] w fun e w' => e = .returned (.bool true) ∧ Below w.heap.size w w' := by
  unfold maxLen at hcm
  have hle := h.2.1
  have hb0 := (Below.refl w.heap.size w).alloc (Nat.le_refl _) (.cells #[.slice A l.length c, .int .i64 root, .int .i64 lone] 27)
  have HX := Lib.hid (Blk.new w 27 #[.slice A l.length c, .int .i64 root, .int .i64 lone])
  have HM := Lib.hid (h.below hb0)
  have HR := Lib.hid (hr.more hb0)
  have HB0 := Lib.hid hb0
  clear h hr hb0
  go_enter Try.func13, Try.ntmps13
  go_wp2_with fail
  generalize hw3 : w.alloc (.cells #[.slice A l.length c, .int .i64 root, .int .i64 lone] 27) = w3 at *
  have hX3 : w.heap.size < w3.heap.size := by rw [← hw3]; simp
  have x0 : w3.cell? ⟨w.heap.size, 0, none⟩ = some (.slice A l.length c) := HX.out.cell 0
  have x1 : w3.cell? ⟨w.heap.size, 1, none⟩ = some (.int .i64 root) := HX.out.cell 1
  have x2 : w3.cell? ⟨w.heap.size, 2, none⟩ = some (.int .i64 lone) := HX.out.cell 2
  have SK : Hid (∀ W, Below w3.heap.size w3 W → Below w3.heap.size w3 W ∧ W.cell? ⟨w.heap.size, 0, none⟩ = some (.slice A l.length c) ∧ W.cell? ⟨w.heap.size, 1, none⟩ = some (.int .i64 root) ∧ W.cell? ⟨w.heap.size, 2, none⟩ = some (.int .i64 lone)) := fun W m => ⟨m, (m.cell (p := ⟨w.heap.size, 0, none⟩) hX3).trans x0, (m.cell (p := ⟨w.heap.size, 1, none⟩) hX3).trans x1, (m.cell (p := ⟨w.heap.size, 2, none⟩) hX3).trans x2⟩
  clear hw3 x0 x1 x2
  have d0 : Below w3.heap.size w3 w3.drew := (Below.refl _ _).drew
  have K1 : Hid (∀ w', Below w3.heap.size w3 w' → Calls Try.prog 29 #[.pointer (some ⟨g, 0, none⟩)] w' fun e w'' => e = .returned (.int .i64 root) ∧ Below w3.heap.size w3 w'') := fun w' hb => (root_p g l b root lone w' (HM.out.below hb)).mono fun e w'' ⟨he, h2⟩ => ⟨he, h2 ▸ hb⟩
  have K2 : Hid (∀ w', Below w3.heap.size w3 w' → Calls Try.prog 22 #[.pointer (some ⟨g, 0, none⟩)] w' fun e w'' => e = .returned (.int .i64 lone) ∧ Below w3.heap.size w3 w'') := fun w' hb => (lone_p g l b root lone w' (HM.out.below hb)).mono fun e w'' ⟨he, h2⟩ => ⟨he, h2 ▸ hb⟩
  have K6 : Hid (∀ w', Below w3.heap.size w3 w' → Calls Try.prog 42 #[.pointer (some ⟨g, 0, none⟩)] w' fun e w'' => ∃ A9 c9, e = .returned (.slice A9 l.length c9) ∧ l.length ≤ c9 ∧ c9 ≤ maxLen ∧ Rd w'' w''.heap.size A9 l.length (I64 (ofN l)) ∧ Below w3.heap.size w3 w'') := fun w' hb =>
    (mlist_p g l b root lone w' (HM.out.below hb)).mono fun e w'' ⟨A9, c9, he, h1, h2, h3, h4⟩ => by
      rw [ofN_len] at he h1 h3
      exact ⟨A9, c9, he, h1, h2, Rd.ofOwn h3, hb.trans (h4.mono hb.size)⟩
  have K7 : Hid (∀ A9 c9 w', Rd w' w'.heap.size A9 l.length (I64 (ofN l)) → l.length ≤ c9 → c9 ≤ maxLen → Below w3.heap.size w3 w' →
      Calls Try.prog 41 #[.slice A9 l.length c9, .slice A l.length c] w' fun e w'' => e = .returned (.bool true) ∧ Below w3.heap.size w3 w'') := fun A9 c9 w' h1 h2 h3 hb => by
    unfold maxLen at h3
    exact (equalI_any A9 A l.length c9 l.length c _ _ (ofN l) (ofN l) w' h1 (HR.out.more hb) (by omega) (by omega)).mono fun e w'' ⟨he, j, hw⟩ => ⟨by rw [he, decide_eq_true rfl], by rw [hw]; exact below_draws hb j⟩
  clear HX HM HR
  go_region_held3 (fun w' => Below w3.heap.size w3 w' ∧ w'.cell? ⟨w.heap.size, 0, none⟩ = some (.slice A l.length c) ∧ w'.cell? ⟨w.heap.size, 1, none⟩ = some (.int .i64 root) ∧ w'.cell? ⟨w.heap.size, 2, none⟩ = some (.int .i64 lone))
    (exact SK.out _ (by assumption))
    (first
    | (go_at_call 29; (with_reducible refine (K1.out _ (by assumption)).mono ?_); rintro e wa ⟨rfl, hba⟩)
    | (go_at_call 22; (with_reducible refine (K2.out _ (by assumption)).mono ?_); rintro e wa ⟨rfl, hba⟩)
    | (go_at_call 42; (with_reducible refine (K6.out _ (by assumption)).mono ?_); rintro e w9 ⟨A9, c9, rfl, hc9, hm9, r9, hba⟩)
    | (go_at_call 41; (with_reducible refine (K7.out _ _ _ r9 hc9 hm9 (by assumption)).mono ?_); rintro e wa ⟨rfl, hba⟩; clear r9))
  all_goals (
    go_wp2_with fail
    go_ret
    exact ⟨rfl, HB0.out.trans (Below.mono hba HB0.out.size)⟩)
def NewR (w : World) (l : List Nat) (root lone : Int) (e : Ending) (w' : World) : Prop :=
  ∃ A c, e = .returned (.agg #[.slice A l.length c, .int .i64 root, .int .i64 lone]) ∧ l.length ≤ c ∧ c ≤ maxLen ∧ Rd w' w'.heap.size A l.length (I64 (ofN l)) ∧ Below w.heap.size w w'
set_option maxHeartbeats 4000000 in
theorem rdual10_p (A : Option Addr) (c : Nat) (l b : List Nat) (root lone : Int) (w : World) (h : Rd w w.heap.size A l.length (I64 (ofN l))) (hi : Inv l b) (he : l.length % 2 = 0) (hn : l.length ≤ 100000) :
    Calls Try.prog 14 #[.agg #[.slice A l.length c, .int .i64 root, .int .i64 lone]] w (NewR w (phiL l) root lone) := by
  have hb0 := ((Below.refl w.heap.size w).alloc (Nat.le_refl _) (.cells #[.slice A l.length c, .int .i64 root, .int .i64 lone] 27)).alloc (by simp) (.cells #[.slice none 0 0, .int .i64 0, .int .i64 0] 27)
  have HX := Lib.hid ((Blk.new w 27 #[.slice A l.length c, .int .i64 root, .int .i64 lone]).alloc (.cells #[.slice none 0 0, .int .i64 0, .int .i64 0] 27))
  have hy := (Blk.new (w.alloc (.cells #[.slice A l.length c, .int .i64 root, .int .i64 lone] 27)) 27 #[.slice none 0 0, .int .i64 0, .int .i64 0])
  rw [show (w.alloc (.cells #[.slice A l.length c, .int .i64 root, .int .i64 lone] 27)).heap.size = w.heap.size + 1 by simp] at hy
  have HY := Lib.hid hy
  have HR := Lib.hid (h.more hb0)
  have HB0 := Lib.hid hb0
  have HINF := Lib.hid info_rmap
  have HE := Lib.hid he
  have HI := Lib.hid hi
  have HLL : Hid ((ofN (phiL l)).length = l.length) := by show _ = _; rw [ofN_len]; exact phiL_len l
  have HLN : Hid ((phiL l).length = l.length) := by show _ = _; exact phiL_len l
  clear h hb0 he hi hy
  go_enter Try.func14, Try.ntmps14
  go_wp2_with fail
  generalize hw3 : (w.alloc (.cells #[.slice A l.length c, .int .i64 root, .int .i64 lone] 27)).alloc (.cells #[.slice none 0 0, .int .i64 0, .int .i64 0] 27) = w3 at *
  have hX3 : w.heap.size + 1 < w3.heap.size := by rw [← hw3]; simp
  have x0 : w3.cell? ⟨w.heap.size, 0, none⟩ = some (.slice A l.length c) := HX.out.cell 0
  have x1 : w3.cell? ⟨w.heap.size, 1, none⟩ = some (.int .i64 root) := HX.out.cell 1
  have x2 : w3.cell? ⟨w.heap.size, 2, none⟩ = some (.int .i64 lone) := HX.out.cell 2
  have SK : Hid (∀ W, Below w3.heap.size w3 W → W.cell? ⟨w.heap.size, 0, none⟩ = some (.slice A l.length c) ∧ W.cell? ⟨w.heap.size, 1, none⟩ = some (.int .i64 root) ∧ W.cell? ⟨w.heap.size, 2, none⟩ = some (.int .i64 lone)) := fun W m => ⟨(m.cell (p := ⟨w.heap.size, 0, none⟩) (show w.heap.size < w3.heap.size by omega)).trans x0, (m.cell (p := ⟨w.heap.size, 1, none⟩) (show w.heap.size < w3.heap.size by omega)).trans x1, (m.cell (p := ⟨w.heap.size, 2, none⟩) (show w.heap.size < w3.heap.size by omega)).trans x2⟩
  clear hw3
  have PH : Hid (∀ W, Below w3.heap.size w3 W → Calls Try.prog 47 #[.agg #[.slice A l.length c, .int .i64 root, .int .i64 lone]] W (NewI64 W (ofN (phiL l)))) := fun W m => rphi_p A c l root lone W (HR.out.more m) HE.out hn
  have Z0 := (Below.refl w3.heap.size w3).drew
  clear HX
  go_region_with (first
    | (go_at_call 47; refine (PH.out _ Z0).mono ?_; rintro e w9 ⟨A9, c9, rfl, hc9, hm9, hown9, hb9⟩; rw [HLL.out] at hown9 hc9 ⊢; have Z9 := Lib.hid (Z0.trans (hb9.mono Z0.size)); obtain ⟨y0, y1, y2⟩ := SK.out _ Z9.out; have HY9 := Lib.hid (HY.out.below Z9.out); have r0 := HY9.out.cell 0; have r1 := HY9.out.cell 1; have r2 := HY9.out.cell 2; have f0 := HY9.out.frozen 0; have f1 := HY9.out.frozen 1; have f2 := HY9.out.frozen 2; simp at r0 r1 r2; have HO9 := Lib.hid hown9; have HC9 := Lib.hid (And.intro hc9 hm9); clear hown9 hb9 hc9 hm9))
  all_goals (
    go_wp2_with fail
    have hs9 := Z9.out.size
    have MM : Mod (fun i => i = w.heap.size + 1) w9 (((w9.setCell ⟨w.heap.size + 1, 0, none⟩ (.slice A9 l.length c9)).setCell ⟨w.heap.size + 1, 1, none⟩ (.int .i64 root)).setCell ⟨w.heap.size + 1, 2, none⟩ (.int .i64 lone)) :=
      Mod.setCell (p := ⟨w.heap.size + 1, 2, none⟩) (Mod.setCell (p := ⟨w.heap.size + 1, 1, none⟩) (Mod.setCell (p := ⟨w.heap.size + 1, 0, none⟩) (Mod.refl (fun i => i = w.heap.size + 1) w9) (fun _ => rfl) _) (fun _ => rfl) _) (fun _ => rfl) _
    have hblk : Blk (((w9.setCell ⟨w.heap.size + 1, 0, none⟩ (.slice A9 l.length c9)).setCell ⟨w.heap.size + 1, 1, none⟩ (.int .i64 root)).setCell ⟨w.heap.size + 1, 2, none⟩ (.int .i64 lone)) (w.heap.size + 1) 27 #[.slice A9 l.length c9, .int .i64 root, .int .i64 lone] := by
      have := ((HY9.out.set_ 0 (.slice A9 l.length c9)).set_ 1 (.int .i64 root)).set_ 2 (.int .i64 lone)
      simpa using this
    refine bodyPost_ret (results_cell_row rfl _ _ (w.heap.size + 1) 27 _ (0, 0) _ rfl hblk Try.underlying27 rfl HINF.out) rfl ?_
    have BB := HB0.out.trans (Z9.out.mono HB0.out.size)
    have BX := BB.trans (MM.belowB (Nat.le_trans HB0.out.size hs9) fun i hi hf => by omega)
    refine ⟨A9, c9, by rw [HLN.out], by rw [HLN.out]; exact HC9.out.1, HC9.out.2, ?_, BX⟩
    rw [HLN.out]
    exact ((Rd.ofOwn HO9.out).mod MM (Nat.le_refl _) (fun h0 i hi hf => by
      obtain ⟨a, e, rfl⟩ := hi
      obtain ⟨q, e2, h1, _⟩ := own_some HO9.out h0
      rw [e2] at e
      cases e
      have h2 := Z0.size
      simp at hf h1 h2
      omega)).up MM.size)
set_option maxHeartbeats 4000000 in
theorem rmirror10_p (A : Option Addr) (c : Nat) (l b : List Nat) (root lone : Int) (w : World) (h : Rd w w.heap.size A l.length (I64 (ofN l))) (hi : Inv l b) (he : l.length % 2 = 0) (hn : l.length ≤ 100000) :
    Calls Try.prog 15 #[.agg #[.slice A l.length c, .int .i64 root, .int .i64 lone]] w (NewR w (b) root lone) := by
  have hb0 := ((Below.refl w.heap.size w).alloc (Nat.le_refl _) (.cells #[.slice A l.length c, .int .i64 root, .int .i64 lone] 27)).alloc (by simp) (.cells #[.slice none 0 0, .int .i64 0, .int .i64 0] 27)
  have HX := Lib.hid ((Blk.new w 27 #[.slice A l.length c, .int .i64 root, .int .i64 lone]).alloc (.cells #[.slice none 0 0, .int .i64 0, .int .i64 0] 27))
  have hy := (Blk.new (w.alloc (.cells #[.slice A l.length c, .int .i64 root, .int .i64 lone] 27)) 27 #[.slice none 0 0, .int .i64 0, .int .i64 0])
  rw [show (w.alloc (.cells #[.slice A l.length c, .int .i64 root, .int .i64 lone] 27)).heap.size = w.heap.size + 1 by simp] at hy
  have HY := Lib.hid hy
  have HR := Lib.hid (h.more hb0)
  have HB0 := Lib.hid hb0
  have HINF := Lib.hid info_rmap
  have HE := Lib.hid he
  have HI := Lib.hid hi
  have HLL : Hid ((ofN (b)).length = l.length) := by show _ = _; rw [ofN_len]; exact HI.out.len
  have HLN : Hid ((b).length = l.length) := by show _ = _; exact HI.out.len
  clear h hb0 he hi hy
  go_enter Try.func15, Try.ntmps15
  go_wp2_with fail
  generalize hw3 : (w.alloc (.cells #[.slice A l.length c, .int .i64 root, .int .i64 lone] 27)).alloc (.cells #[.slice none 0 0, .int .i64 0, .int .i64 0] 27) = w3 at *
  have hX3 : w.heap.size + 1 < w3.heap.size := by rw [← hw3]; simp
  have x0 : w3.cell? ⟨w.heap.size, 0, none⟩ = some (.slice A l.length c) := HX.out.cell 0
  have x1 : w3.cell? ⟨w.heap.size, 1, none⟩ = some (.int .i64 root) := HX.out.cell 1
  have x2 : w3.cell? ⟨w.heap.size, 2, none⟩ = some (.int .i64 lone) := HX.out.cell 2
  have SK : Hid (∀ W, Below w3.heap.size w3 W → W.cell? ⟨w.heap.size, 0, none⟩ = some (.slice A l.length c) ∧ W.cell? ⟨w.heap.size, 1, none⟩ = some (.int .i64 root) ∧ W.cell? ⟨w.heap.size, 2, none⟩ = some (.int .i64 lone)) := fun W m => ⟨(m.cell (p := ⟨w.heap.size, 0, none⟩) (show w.heap.size < w3.heap.size by omega)).trans x0, (m.cell (p := ⟨w.heap.size, 1, none⟩) (show w.heap.size < w3.heap.size by omega)).trans x1, (m.cell (p := ⟨w.heap.size, 2, none⟩) (show w.heap.size < w3.heap.size by omega)).trans x2⟩
  clear hw3
  have PH : Hid (∀ W, Below w3.heap.size w3 W → Calls Try.prog 48 #[.slice A l.length c] W (NewI64 W (ofN (b)))) := fun W m => rinverse_p A c _ l b W (HR.out.more m) HI.out (by omega)
  have Z0 := (Below.refl w3.heap.size w3).drew
  clear HX
  go_region_with (first
    | (go_at_call 48; refine (PH.out _ Z0).mono ?_; rintro e w9 ⟨A9, c9, rfl, hc9, hm9, hown9, hb9⟩; rw [HLL.out] at hown9 hc9 ⊢; have Z9 := Lib.hid (Z0.trans (hb9.mono Z0.size)); obtain ⟨y0, y1, y2⟩ := SK.out _ Z9.out; have HY9 := Lib.hid (HY.out.below Z9.out); have r0 := HY9.out.cell 0; have r1 := HY9.out.cell 1; have r2 := HY9.out.cell 2; have f0 := HY9.out.frozen 0; have f1 := HY9.out.frozen 1; have f2 := HY9.out.frozen 2; simp at r0 r1 r2; have HO9 := Lib.hid hown9; have HC9 := Lib.hid (And.intro hc9 hm9); clear hown9 hb9 hc9 hm9))
  all_goals (
    go_wp2_with fail
    have hs9 := Z9.out.size
    have MM : Mod (fun i => i = w.heap.size + 1) w9 (((w9.setCell ⟨w.heap.size + 1, 0, none⟩ (.slice A9 l.length c9)).setCell ⟨w.heap.size + 1, 1, none⟩ (.int .i64 root)).setCell ⟨w.heap.size + 1, 2, none⟩ (.int .i64 lone)) :=
      Mod.setCell (p := ⟨w.heap.size + 1, 2, none⟩) (Mod.setCell (p := ⟨w.heap.size + 1, 1, none⟩) (Mod.setCell (p := ⟨w.heap.size + 1, 0, none⟩) (Mod.refl (fun i => i = w.heap.size + 1) w9) (fun _ => rfl) _) (fun _ => rfl) _) (fun _ => rfl) _
    have hblk : Blk (((w9.setCell ⟨w.heap.size + 1, 0, none⟩ (.slice A9 l.length c9)).setCell ⟨w.heap.size + 1, 1, none⟩ (.int .i64 root)).setCell ⟨w.heap.size + 1, 2, none⟩ (.int .i64 lone)) (w.heap.size + 1) 27 #[.slice A9 l.length c9, .int .i64 root, .int .i64 lone] := by
      have := ((HY9.out.set_ 0 (.slice A9 l.length c9)).set_ 1 (.int .i64 root)).set_ 2 (.int .i64 lone)
      simpa using this
    refine bodyPost_ret (results_cell_row rfl _ _ (w.heap.size + 1) 27 _ (0, 0) _ rfl hblk Try.underlying27 rfl HINF.out) rfl ?_
    have BB := HB0.out.trans (Z9.out.mono HB0.out.size)
    have BX := BB.trans (MM.belowB (Nat.le_trans HB0.out.size hs9) fun i hi hf => by omega)
    refine ⟨A9, c9, by rw [HLN.out], by rw [HLN.out]; exact HC9.out.1, HC9.out.2, ?_, BX⟩
    rw [HLN.out]
    exact ((Rd.ofOwn HO9.out).mod MM (Nat.le_refl _) (fun h0 i hi hf => by
      obtain ⟨a, e, rfl⟩ := hi
      obtain ⟨q, e2, h1, _⟩ := own_some HO9.out h0
      rw [e2] at e
      cases e
      have h2 := Z0.size
      simp at hf h1 h2
      omega)).up MM.size)
end Go.Proofs.Ythbhbcakiaaapaa
