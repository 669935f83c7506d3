/- The index of a word: how many of a kind are ahead, where one stands, how great the directories are. -/
import Derived.Test.YtagpdpacaoianaaGreatDoorZMIdx
import Derived.Test.YtagpdpacaoianaaGreatDoorZMCnt
import Derived.Test.YtagpdpacaoianaaGreatDoorZMIndex
import Derived.Test.YtagpdpacaoianaaGreatDoorZg3
import Derived.Deep.RegionWith
import Derived.BigQuiet
namespace Go.Proofs.YtagpdpacaoianaaGreatDoor
set_option maxRecDepth 20000
open Go.RowKit
set_option linter.unusedVariables false
section
variable {w0 w : World} {m gx p0 g0 p1 g1 q : Nat} {ks : List Nat}
theorem Mx.lts (h : Mx w0 w m gx p0 g0 p1 g1 ks q) (i : Nat) (hi : MxS gx p0 g0 p1 g1 i) : i < w.heap.size := by
  obtain ⟨d, k, _, hx⟩ := h.ix
  obtain ⟨d0, ha⟩ := h.pa
  obtain ⟨d1, hb⟩ := h.pb
  obtain ⟨cx, bx⟩ := hx.blk_
  obtain ⟨ca, ba⟩ := ha.blk_
  obtain ⟨cb', bb⟩ := hb.blk_
  obtain ⟨cga, bga⟩ := ha.gblk
  obtain ⟨cgb, bgb⟩ := hb.gblk
  rcases hi with rfl | rfl | rfl | rfl | rfl
  · exact bx.lt
  · exact ba.lt
  · exact bga.lt
  · exact bb.lt
  · exact bgb.lt
theorem exc_cnt (s y : Nat) (ks : List Nat) (hy : y ≤ (ownL s ks).length) : exc (val (ownL s ks)) y = 2 * ((((ownL s ks).take y).sum : Nat) : Int) - (y : Int) := exc_pop _ (ownL_bin s ks) y hy
set_option maxHeartbeats 2000000 in
theorem icount0_p (h : Mx w0 w m gx p0 g0 p1 g1 ks q) (y : Nat) (hy : y ≤ (ownL 0 ks).length) (hq : q ≤ 1000000) :
    Calls Tryz.prog 68 #[.pointer (some ⟨m, 0, none⟩), .int .i64 0, .int .i64 (y : Int)] w (MxP w0 w m gx p0 g0 p1 g1 ks (q + 1) (.returned (.int .i64 ((cntO 0 y ks : Nat) : Int)))) := by
  have hn9 := h.n9
  have hle := bin_sum_le ((ownL_bin 0 ks).take y)
  rw [List.length_take, Nat.min_eq_left hy] at hle
  have hex := exc_cnt 0 y ks hy
  have hcn : Hid (cntO 0 y ks = ((ownL 0 ks).take y).sum) := by
    show _ = _
    unfold cntO
    rw [if_pos (by decide)]
  have hy9 : y ≤ 1000000 := by
    have h1 := ah_le 0 ks ks.length (Nat.le_refl _)
    rw [ah_all] at h1; omega
  have EX : Hid (Calls Tryz.prog 90 #[.pointer (some ⟨p0, 0, none⟩), .int .i64 (y : Int)] w.drew fun e w' => e = .returned (.tuple #[.int .i64 (exc (val (ownL 0 ks)) y), .int .i64 0]) ∧ Mx w0 w' m gx p0 g0 p1 g1 ks (q + 1) ∧ Mod (MxS gx p0 g0 p1 g1) w.drew w') := by
    have hd := h.below ((Below.refl w.heap.size w).drew)
    obtain ⟨d, hp⟩ := hd.pa
    refine (pexc_yes p0 g0 _ _ q d w.drew y hp hy hq).mono ?_
    rintro e w' ⟨he, h1, h2⟩
    exact ⟨he, hd.askA h1 (by omega) (mod_g h2), two_mx0 (mod_g h2)⟩
  obtain ⟨S, hS⟩ : ∃ S, S = ((ownL 0 ks).take y).sum := ⟨_, rfl⟩
  rw [← hS] at hle hex hcn
  have f1 : (y : Int) + exc (val (ownL 0 ks)) y = ((2 * S : Nat) : Int) := by rw [hex]; omega
  have hE1 : -1000000 ≤ exc (val (ownL 0 ks)) y := by omega
  have hE2 : exc (val (ownL 0 ks)) y ≤ 1000000 := by omega
  generalize exc (val (ownL 0 ks)) y = E at *
  obtain ⟨T, hT⟩ : ∃ T, T = 2 * S := ⟨_, rfl⟩
  rw [← hT] at f1
  have f2 : IntKind.i64.wrap (T : Int) = (T : Int) := by rw [IntKind.wrap_i64]; omega
  have f3 : (T : Int).tdiv 2 = (S : Int) := by rw [Int.tdiv_eq_ediv_of_nonneg (by omega)]; omega
  have f4 : (T : Int) / 2 = (S : Int) := by omega
  have f5 : IntKind.i64.wrap (S : Int) = (S : Int) := by rw [IntKind.wrap_i64]; omega
  have f6 : (y : Int) - (S : Int) = ((y - S : Nat) : Int) := by omega
  have f7 : IntKind.i64.wrap ((y - S : Nat) : Int) = ((y - S : Nat) : Int) := by rw [IntKind.wrap_i64]; omega
  have SP : Hid (∀ W, Calls Tryz.prog 51 #[.int .i64 0] W fun e w' => e = .returned (.int .i64 0) ∧ W = w') := fun W => shapeOf_p 0 W (by decide)
  have OP : Hid (∀ W, Calls Tryz.prog 54 #[.int .i64 0] W fun e w' => e = .returned (.int .i64 1) ∧ W = w') := fun W => opening_p 0 W (by decide)
  have cc := h.c1
  have H := Lib.hid h
  clear h hex hS hT hle
  go_enter Tryz.func68, Tryz.ntmps68
  go_wp2_with fail
  go_region_with (first
    | (go_at_call 90; (with_reducible refine EX.out.mono ?_); rintro e wa ⟨rfl, ha, ma⟩; have k1 := ha.c1; have HA := Lib.hid ha; have MA := Lib.hid ma; clear ha ma)
    | (go_at_call 51; (with_reducible refine (SP.out _).mono ?_); rintro e wb ⟨rfl, rfl⟩))
  all_goals (
    go_wp2_with fail
    refine (OP.out _).mono ?_
    rintro e wb ⟨rfl, rfl⟩
    go_wp2_with fail
    go_ret
    exact ⟨by rw [hcn.out]; first | rfl | (show _ = _; simp [f6, f7]), HA.out, (Mod.refl (MxS gx p0 g0 p1 g1) w).drew.trans MA.out fun _ _ h => h⟩)
set_option maxHeartbeats 2000000 in
theorem icount1_p (h : Mx w0 w m gx p0 g0 p1 g1 ks q) (y : Nat) (hy : y ≤ (ownL 0 ks).length) (hq : q ≤ 1000000) :
    Calls Tryz.prog 68 #[.pointer (some ⟨m, 0, none⟩), .int .i64 1, .int .i64 (y : Int)] w (MxP w0 w m gx p0 g0 p1 g1 ks (q + 1) (.returned (.int .i64 ((cntO 1 y ks : Nat) : Int)))) := by
  have hn9 := h.n9
  have hle := bin_sum_le ((ownL_bin 0 ks).take y)
  rw [List.length_take, Nat.min_eq_left hy] at hle
  have hex := exc_cnt 0 y ks hy
  have hcn : Hid (cntO 1 y ks = (y - ((ownL 0 ks).take y).sum)) := by
    show _ = _
    unfold cntO
    rw [if_neg (by decide)]
  have hy9 : y ≤ 1000000 := by
    have h1 := ah_le 0 ks ks.length (Nat.le_refl _)
    rw [ah_all] at h1; omega
  have EX : Hid (Calls Tryz.prog 90 #[.pointer (some ⟨p0, 0, none⟩), .int .i64 (y : Int)] w.drew fun e w' => e = .returned (.tuple #[.int .i64 (exc (val (ownL 0 ks)) y), .int .i64 0]) ∧ Mx w0 w' m gx p0 g0 p1 g1 ks (q + 1) ∧ Mod (MxS gx p0 g0 p1 g1) w.drew w') := by
    have hd := h.below ((Below.refl w.heap.size w).drew)
    obtain ⟨d, hp⟩ := hd.pa
    refine (pexc_yes p0 g0 _ _ q d w.drew y hp hy hq).mono ?_
    rintro e w' ⟨he, h1, h2⟩
    exact ⟨he, hd.askA h1 (by omega) (mod_g h2), two_mx0 (mod_g h2)⟩
  obtain ⟨S, hS⟩ : ∃ S, S = ((ownL 0 ks).take y).sum := ⟨_, rfl⟩
  rw [← hS] at hle hex hcn
  have f1 : (y : Int) + exc (val (ownL 0 ks)) y = ((2 * S : Nat) : Int) := by rw [hex]; omega
  have hE1 : -1000000 ≤ exc (val (ownL 0 ks)) y := by omega
  have hE2 : exc (val (ownL 0 ks)) y ≤ 1000000 := by omega
  generalize exc (val (ownL 0 ks)) y = E at *
  obtain ⟨T, hT⟩ : ∃ T, T = 2 * S := ⟨_, rfl⟩
  rw [← hT] at f1
  have f2 : IntKind.i64.wrap (T : Int) = (T : Int) := by rw [IntKind.wrap_i64]; omega
  have f3 : (T : Int).tdiv 2 = (S : Int) := by rw [Int.tdiv_eq_ediv_of_nonneg (by omega)]; omega
  have f4 : (T : Int) / 2 = (S : Int) := by omega
  have f5 : IntKind.i64.wrap (S : Int) = (S : Int) := by rw [IntKind.wrap_i64]; omega
  have f6 : (y : Int) - (S : Int) = ((y - S : Nat) : Int) := by omega
  have f7 : IntKind.i64.wrap ((y - S : Nat) : Int) = ((y - S : Nat) : Int) := by rw [IntKind.wrap_i64]; omega
  have SP : Hid (∀ W, Calls Tryz.prog 51 #[.int .i64 1] W fun e w' => e = .returned (.int .i64 0) ∧ W = w') := fun W => shapeOf_p 1 W (by decide)
  have OP : Hid (∀ W, Calls Tryz.prog 54 #[.int .i64 1] W fun e w' => e = .returned (.int .i64 0) ∧ W = w') := fun W => opening_p 1 W (by decide)
  have cc := h.c1
  have H := Lib.hid h
  clear h hex hS hT hle
  go_enter Tryz.func68, Tryz.ntmps68
  go_wp2_with fail
  go_region_with (first
    | (go_at_call 90; (with_reducible refine EX.out.mono ?_); rintro e wa ⟨rfl, ha, ma⟩; have k1 := ha.c1; have HA := Lib.hid ha; have MA := Lib.hid ma; clear ha ma)
    | (go_at_call 51; (with_reducible refine (SP.out _).mono ?_); rintro e wb ⟨rfl, rfl⟩))
  all_goals (
    go_wp2_with fail
    refine (OP.out _).mono ?_
    rintro e wb ⟨rfl, rfl⟩
    go_wp2_with fail
    go_ret
    exact ⟨by rw [hcn.out]; first | rfl | (show _ = _; simp [f6, f7]), HA.out, (Mod.refl (MxS gx p0 g0 p1 g1) w).drew.trans MA.out fun _ _ h => h⟩)
set_option maxHeartbeats 2000000 in
theorem icount2_p (h : Mx w0 w m gx p0 g0 p1 g1 ks q) (y : Nat) (hy : y ≤ (ownL 1 ks).length) (hq : q ≤ 1000000) :
    Calls Tryz.prog 68 #[.pointer (some ⟨m, 0, none⟩), .int .i64 2, .int .i64 (y : Int)] w (MxP w0 w m gx p0 g0 p1 g1 ks (q + 1) (.returned (.int .i64 ((cntO 2 y ks : Nat) : Int)))) := by
  have hn9 := h.n9
  have hle := bin_sum_le ((ownL_bin 1 ks).take y)
  rw [List.length_take, Nat.min_eq_left hy] at hle
  have hex := exc_cnt 1 y ks hy
  have hcn : Hid (cntO 2 y ks = ((ownL 1 ks).take y).sum) := by
    show _ = _
    unfold cntO
    rw [if_pos (by decide)]
  have hy9 : y ≤ 1000000 := by
    have h1 := ah_le 1 ks ks.length (Nat.le_refl _)
    rw [ah_all] at h1; omega
  have EX : Hid (Calls Tryz.prog 90 #[.pointer (some ⟨p1, 0, none⟩), .int .i64 (y : Int)] w.drew fun e w' => e = .returned (.tuple #[.int .i64 (exc (val (ownL 1 ks)) y), .int .i64 0]) ∧ Mx w0 w' m gx p0 g0 p1 g1 ks (q + 1) ∧ Mod (MxS gx p0 g0 p1 g1) w.drew w') := by
    have hd := h.below ((Below.refl w.heap.size w).drew)
    obtain ⟨d, hp⟩ := hd.pb
    refine (pexc_yes p1 g1 _ _ q d w.drew y hp hy hq).mono ?_
    rintro e w' ⟨he, h1, h2⟩
    exact ⟨he, hd.askB h1 (by omega) (mod_g h2), two_mx1 (mod_g h2)⟩
  obtain ⟨S, hS⟩ : ∃ S, S = ((ownL 1 ks).take y).sum := ⟨_, rfl⟩
  rw [← hS] at hle hex hcn
  have f1 : (y : Int) + exc (val (ownL 1 ks)) y = ((2 * S : Nat) : Int) := by rw [hex]; omega
  have hE1 : -1000000 ≤ exc (val (ownL 1 ks)) y := by omega
  have hE2 : exc (val (ownL 1 ks)) y ≤ 1000000 := by omega
  generalize exc (val (ownL 1 ks)) y = E at *
  obtain ⟨T, hT⟩ : ∃ T, T = 2 * S := ⟨_, rfl⟩
  rw [← hT] at f1
  have f2 : IntKind.i64.wrap (T : Int) = (T : Int) := by rw [IntKind.wrap_i64]; omega
  have f3 : (T : Int).tdiv 2 = (S : Int) := by rw [Int.tdiv_eq_ediv_of_nonneg (by omega)]; omega
  have f4 : (T : Int) / 2 = (S : Int) := by omega
  have f5 : IntKind.i64.wrap (S : Int) = (S : Int) := by rw [IntKind.wrap_i64]; omega
  have f6 : (y : Int) - (S : Int) = ((y - S : Nat) : Int) := by omega
  have f7 : IntKind.i64.wrap ((y - S : Nat) : Int) = ((y - S : Nat) : Int) := by rw [IntKind.wrap_i64]; omega
  have SP : Hid (∀ W, Calls Tryz.prog 51 #[.int .i64 2] W fun e w' => e = .returned (.int .i64 1) ∧ W = w') := fun W => shapeOf_p 2 W (by decide)
  have OP : Hid (∀ W, Calls Tryz.prog 54 #[.int .i64 2] W fun e w' => e = .returned (.int .i64 1) ∧ W = w') := fun W => opening_p 2 W (by decide)
  have cc := h.c2
  have H := Lib.hid h
  clear h hex hS hT hle
  go_enter Tryz.func68, Tryz.ntmps68
  go_wp2_with fail
  go_region_with (first
    | (go_at_call 90; (with_reducible refine EX.out.mono ?_); rintro e wa ⟨rfl, ha, ma⟩; have k1 := ha.c2; have HA := Lib.hid ha; have MA := Lib.hid ma; clear ha ma)
    | (go_at_call 51; (with_reducible refine (SP.out _).mono ?_); rintro e wb ⟨rfl, rfl⟩))
  all_goals (
    go_wp2_with fail
    refine (OP.out _).mono ?_
    rintro e wb ⟨rfl, rfl⟩
    go_wp2_with fail
    go_ret
    exact ⟨by rw [hcn.out]; first | rfl | (show _ = _; simp [f6, f7]), HA.out, (Mod.refl (MxS gx p0 g0 p1 g1) w).drew.trans MA.out fun _ _ h => h⟩)
set_option maxHeartbeats 2000000 in
theorem icount3_p (h : Mx w0 w m gx p0 g0 p1 g1 ks q) (y : Nat) (hy : y ≤ (ownL 1 ks).length) (hq : q ≤ 1000000) :
    Calls Tryz.prog 68 #[.pointer (some ⟨m, 0, none⟩), .int .i64 3, .int .i64 (y : Int)] w (MxP w0 w m gx p0 g0 p1 g1 ks (q + 1) (.returned (.int .i64 ((cntO 3 y ks : Nat) : Int)))) := by
  have hn9 := h.n9
  have hle := bin_sum_le ((ownL_bin 1 ks).take y)
  rw [List.length_take, Nat.min_eq_left hy] at hle
  have hex := exc_cnt 1 y ks hy
  have hcn : Hid (cntO 3 y ks = (y - ((ownL 1 ks).take y).sum)) := by
    show _ = _
    unfold cntO
    rw [if_neg (by decide)]
  have hy9 : y ≤ 1000000 := by
    have h1 := ah_le 1 ks ks.length (Nat.le_refl _)
    rw [ah_all] at h1; omega
  have EX : Hid (Calls Tryz.prog 90 #[.pointer (some ⟨p1, 0, none⟩), .int .i64 (y : Int)] w.drew fun e w' => e = .returned (.tuple #[.int .i64 (exc (val (ownL 1 ks)) y), .int .i64 0]) ∧ Mx w0 w' m gx p0 g0 p1 g1 ks (q + 1) ∧ Mod (MxS gx p0 g0 p1 g1) w.drew w') := by
    have hd := h.below ((Below.refl w.heap.size w).drew)
    obtain ⟨d, hp⟩ := hd.pb
    refine (pexc_yes p1 g1 _ _ q d w.drew y hp hy hq).mono ?_
    rintro e w' ⟨he, h1, h2⟩
    exact ⟨he, hd.askB h1 (by omega) (mod_g h2), two_mx1 (mod_g h2)⟩
  obtain ⟨S, hS⟩ : ∃ S, S = ((ownL 1 ks).take y).sum := ⟨_, rfl⟩
  rw [← hS] at hle hex hcn
  have f1 : (y : Int) + exc (val (ownL 1 ks)) y = ((2 * S : Nat) : Int) := by rw [hex]; omega
  have hE1 : -1000000 ≤ exc (val (ownL 1 ks)) y := by omega
  have hE2 : exc (val (ownL 1 ks)) y ≤ 1000000 := by omega
  generalize exc (val (ownL 1 ks)) y = E at *
  obtain ⟨T, hT⟩ : ∃ T, T = 2 * S := ⟨_, rfl⟩
  rw [← hT] at f1
  have f2 : IntKind.i64.wrap (T : Int) = (T : Int) := by rw [IntKind.wrap_i64]; omega
  have f3 : (T : Int).tdiv 2 = (S : Int) := by rw [Int.tdiv_eq_ediv_of_nonneg (by omega)]; omega
  have f4 : (T : Int) / 2 = (S : Int) := by omega
  have f5 : IntKind.i64.wrap (S : Int) = (S : Int) := by rw [IntKind.wrap_i64]; omega
  have f6 : (y : Int) - (S : Int) = ((y - S : Nat) : Int) := by omega
  have f7 : IntKind.i64.wrap ((y - S : Nat) : Int) = ((y - S : Nat) : Int) := by rw [IntKind.wrap_i64]; omega
  have SP : Hid (∀ W, Calls Tryz.prog 51 #[.int .i64 3] W fun e w' => e = .returned (.int .i64 1) ∧ W = w') := fun W => shapeOf_p 3 W (by decide)
  have OP : Hid (∀ W, Calls Tryz.prog 54 #[.int .i64 3] W fun e w' => e = .returned (.int .i64 0) ∧ W = w') := fun W => opening_p 3 W (by decide)
  have cc := h.c2
  have H := Lib.hid h
  clear h hex hS hT hle
  go_enter Tryz.func68, Tryz.ntmps68
  go_wp2_with fail
  go_region_with (first
    | (go_at_call 90; (with_reducible refine EX.out.mono ?_); rintro e wa ⟨rfl, ha, ma⟩; have k1 := ha.c2; have HA := Lib.hid ha; have MA := Lib.hid ma; clear ha ma)
    | (go_at_call 51; (with_reducible refine (SP.out _).mono ?_); rintro e wb ⟨rfl, rfl⟩))
  all_goals (
    go_wp2_with fail
    refine (OP.out _).mono ?_
    rintro e wb ⟨rfl, rfl⟩
    go_wp2_with fail
    go_ret
    exact ⟨by rw [hcn.out]; first | rfl | (show _ = _; simp [f6, f7]), HA.out, (Mod.refl (MxS gx p0 g0 p1 g1) w).drew.trans MA.out fun _ _ h => h⟩)
theorem icount_p (h : Mx w0 w m gx p0 g0 p1 g1 ks q) (k y : Nat) (hk : k < 4) (hy : y ≤ (ownL (k / 2) ks).length) (hq : q ≤ 1000000) :
    Calls Tryz.prog 68 #[.pointer (some ⟨m, 0, none⟩), .int .i64 (k : Int), .int .i64 (y : Int)] w (MxP w0 w m gx p0 g0 p1 g1 ks (q + 1) (.returned (.int .i64 ((cntO k y ks : Nat) : Int)))) := by
  rcases (by omega : k = 0 ∨ k = 1 ∨ k = 2 ∨ k = 3) with rfl | rfl | rfl | rfl
  · exact icount0_p h y hy hq
  · exact icount1_p h y hy hq
  · exact icount2_p h y hy hq
  · exact icount3_p h y hy hq
set_option maxHeartbeats 1000000 in
theorem irank_p (h : Mx w0 w m gx p0 g0 p1 g1 ks q) (k i : Nat) (hk : k < 4) (hi : i ≤ ks.length) (hq : q ≤ 900000) :
    Calls Tryz.prog 29 #[.pointer (some ⟨m, 0, none⟩), .int .i64 (k : Int), .int .i64 (i : Int)] w (MxP w0 w m gx p0 g0 p1 g1 ks (q + 2) (.returned (.tuple #[.int .i64 ((cntK k (ks.take i) : Nat) : Int), .int .i64 0]))) := by
  have LN := Lib.hid (ilen_p h)
  have RD := Lib.hid (ready4_ok ⟨m, 0, none⟩ (i : Int) (ks.length : Int) w (by omega) (by omega))
  have KD := Lib.hid (isKind_p (k : Int) w)
  rw [decide_eq_true (show Kd (k : Int) from ⟨by omega, by omega⟩)] at KD
  have SP := Lib.hid (shapeOf_p k w hk)
  have AP := Lib.hid (ahead_p h (k / 2) i (by omega) hi (by omega))
  have hah := ah_end (k / 2) ks i hi
  have HC := Lib.hid (cntO_ah h.kd hk i)
  generalize ah (k / 2) ks i = y at *
  have IC : Hid (∀ W, Mx w0 W m gx p0 g0 p1 g1 ks (q + 1) → Calls Tryz.prog 68 #[.pointer (some ⟨m, 0, none⟩), .int .i64 (k : Int), .int .i64 (y : Int)] W (MxP w0 W m gx p0 g0 p1 g1 ks (q + 1 + 1) (.returned (.int .i64 ((cntO k y ks : Nat) : Int))))) := fun W h1 => icount_p h1 k y hk hah (by omega)
  rw [HC.out] at IC
  clear h hah
  generalize k / 2 = s at *
  go_enter Tryz.func29, Tryz.ntmps29
  go_wp2_with fail
  refine LN.out.mono ?_
  rintro e w1 ⟨rfl, rfl⟩
  go_wp2_with fail
  refine RD.out.mono ?_
  rintro e w1 ⟨rfl, rfl⟩
  go_wp2_with fail
  refine KD.out.mono ?_
  rintro e w1 ⟨rfl, rfl⟩
  go_wp2_with fail
  refine SP.out.mono ?_
  rintro e w1 ⟨rfl, rfl⟩
  go_wp2_with fail
  refine AP.out.mono ?_
  rintro e w1 ⟨rfl, h1, m1⟩
  have I1 := Lib.hid (IC.out w1 h1)
  have M1 := Lib.hid m1
  clear h1 m1 AP IC
  go_wp2_with fail
  refine I1.out.mono ?_
  rintro e w2 ⟨rfl, h2, m2⟩
  have H2 := Lib.hid h2
  have M2 := Lib.hid (M1.out.trans m2 fun _ _ h => h)
  clear h2 m2 M1 I1
  go_wp2_with fail
  go_ret2
  exact ⟨rfl, H2.out, M2.out⟩
theorem irank_no (h : Mx w0 w m gx p0 g0 p1 g1 ks q) (z i : Int) (hno : ¬ Kd z ∨ i < 0 ∨ (ks.length : Int) < i) :
    Calls Tryz.prog 29 #[.pointer (some ⟨m, 0, none⟩), .int .i64 z, .int .i64 i] w fun e w' => e = .returned (.tuple #[.int .i64 0, .int .i64 1]) ∧ w = w' := by
  have LN := Lib.hid (ilen_p h)
  clear h
  by_cases hi : i < 0 ∨ (ks.length : Int) < i
  · have RD := Lib.hid (ready4_no ⟨m, 0, none⟩ i (ks.length : Int) w hi)
    clear hno hi
    go_enter Tryz.func29, Tryz.ntmps29
    go_wp2_with fail
    refine LN.out.mono ?_
    rintro e w1 ⟨rfl, rfl⟩
    go_wp2_with fail
    refine RD.out.mono ?_
    rintro e w1 ⟨rfl, rfl⟩
    go_wp2_with fail
    go_ret2
    exact ⟨rfl, rfl⟩
  · have RD := Lib.hid (ready4_ok ⟨m, 0, none⟩ i (ks.length : Int) w (by omega) (by omega))
    have KD := Lib.hid (isKind_p z w)
    rw [decide_eq_false (hno.resolve_right hi)] at KD
    clear hno hi
    go_enter Tryz.func29, Tryz.ntmps29
    go_wp2_with fail
    refine LN.out.mono ?_
    rintro e w1 ⟨rfl, rfl⟩
    go_wp2_with fail
    refine RD.out.mono ?_
    rintro e w1 ⟨rfl, rfl⟩
    go_wp2_with fail
    refine KD.out.mono ?_
    rintro e w1 ⟨rfl, rfl⟩
    go_wp2_with fail
    go_ret2
    exact ⟨rfl, rfl⟩
theorem irank_nil (z i : Int) (w : World) : Calls Tryz.prog 29 #[.pointer none, .int .i64 z, .int .i64 i] w fun e w' => e = .returned (.tuple #[.int .i64 0, .int .i64 2]) ∧ w = w' := by
  have LN := Lib.hid (ilen_nil w)
  have RD := Lib.hid (ready4_nil i 0 w)
  go_enter Tryz.func29, Tryz.ntmps29
  go_wp2_with fail
  refine LN.out.mono ?_
  rintro e w1 ⟨rfl, rfl⟩
  go_wp2_with fail
  refine RD.out.mono ?_
  rintro e w1 ⟨rfl, rfl⟩
  go_wp2_with fail
  go_ret2
  exact ⟨rfl, rfl⟩
end
end Go.Proofs.YtagpdpacaoianaaGreatDoor
