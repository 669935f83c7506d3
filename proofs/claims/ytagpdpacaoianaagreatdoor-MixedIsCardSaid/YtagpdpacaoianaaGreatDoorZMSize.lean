/- How great the directories of a word's index are. -/
import Derived.Test.YtagpdpacaoianaaGreatDoorZMAsk
namespace Go.Proofs.YtagpdpacaoianaaGreatDoor
set_option maxRecDepth 20000
open Go.RowKit
set_option linter.unusedVariables false
theorem psizeM_p (p g V n q : Nat) (w : World) (h : PIx w p g V n q) : Calls Tryz.prog 67 #[.pointer (some ⟨p, 0, none⟩)] w fun e w' => ∃ M H : Nat, e = .returned (.int .i64 (64 * (M : Int))) ∧ M + 1 = 2 * 2 ^ H ∧ M ≤ 20000 ∧ Lvs ((n + 511) / 512) H ∧ w = w' := by
  have hn := h.n9
  have PL := Lib.hid (plen_p p g V n q w h)
  have BF := Lib.hid (blocksFor_p w n (by omega))
  have NF := Lib.hid (nodesFor_p w ((n + 511) / 512) (by omega))
  clear h
  generalize (n + 511) / 512 = B at *
  go_enter Tryz.func67, Tryz.ntmps67
  go_wp2_with (first
    | (go_at_call 69; refine PL.out.mono ?_; rintro e w' ⟨rfl, rfl⟩)
    | (go_at_call 89; refine BF.out.mono ?_; rintro e w' ⟨rfl, rfl⟩))
  refine NF.out.mono ?_
  rintro e w' ⟨H, L, M, rfl, hM, hL1, hL9, hLH, hlv, rfl⟩
  have HLV := Lib.hid hlv
  have HLH := Lib.hid hLH
  have hM9 : M ≤ 20000 := by omega
  have HM := Lib.hid hM
  clear hlv hLH hM
  go_wp2
  go_ret
  exact ⟨M, H, rfl, by rw [HM.out, HLH.out], hM9, HLV.out, rfl⟩
theorem lvs_M {b H M : Nat} (h : Lvs b H) (hM : M + 1 = 2 * 2 ^ H) : M ≤ 4 * b + 1 := by
  cases H with
  | zero => simp at hM; omega
  | succ H =>
    have h1 := h.2 H (by omega)
    rw [Nat.pow_succ] at hM; omega
section
variable {w0 w : World} {m gx p0 g0 p1 g1 q : Nat} {ks : List Nat}
set_option maxHeartbeats 1000000 in
theorem isize_p (h : Mx w0 w m gx p0 g0 p1 g1 ks q) (hn : ks.length ≤ 1000000) : Calls Tryz.prog 28 #[.pointer (some ⟨m, 0, none⟩)] w fun e w' => ∃ x : Nat, e = .returned (.int .i64 (x : Int)) ∧ x ≤ 32 * (blk ks.length + 1) + 64 * (4 * (((ownL 0 ks).length + 511) / 512) + 1) + 64 * (4 * (((ownL 1 ks).length + 511) / 512) + 1) ∧ w = w' := by
  obtain ⟨d, k, _, hx⟩ := h.ix
  obtain ⟨d0, ha⟩ := h.pa
  obtain ⟨d1, hb⟩ := h.pb
  have XS := Lib.hid (xsize_p gx _ _ k d w hx)
  have PA := Lib.hid (psizeM_p p0 g0 _ _ q w ha.ix)
  have PB := Lib.hid (psizeM_p p1 g1 _ _ q w hb.ix)
  have hb9 : blk ks.length ≤ 1000000 := by unfold blk; omega
  have c0 := h.c0
  have c1 := h.c1
  have c2 := h.c2
  clear h hx ha hb
  obtain ⟨bl, hbl⟩ : ∃ bl, bl = blk ks.length := ⟨_, rfl⟩
  obtain ⟨X, hX⟩ : ∃ X, X = 32 * (bl + 1) := ⟨_, rfl⟩
  have hX2 : (32 : Int) * ((bl : Int) + 1) = (X : Int) := by omega
  rw [← hbl] at XS hb9 ⊢
  rw [hX2] at XS
  have HX := Lib.hid hX
  have hX9 : X ≤ 40000000 := by omega
  clear hX hX2 hbl
  have ix0 : ∀ W : World, (Instr.index 77 (.agg #[.pointer (some ⟨p0, 0, none⟩), .pointer (some ⟨p1, 0, none⟩)]) (.int .i64 0)).run Tryz.prog W = .ok (.pointer (some ⟨p0, 0, none⟩)) W := fun W => by rfl
  have ix1 : ∀ W : World, (Instr.index 77 (.agg #[.pointer (some ⟨p0, 0, none⟩), .pointer (some ⟨p1, 0, none⟩)]) (.int .i64 1)).run Tryz.prog W = .ok (.pointer (some ⟨p1, 0, none⟩)) W := fun W => by rfl
  obtain ⟨a, ha⟩ : ∃ a, a = ((ownL 0 ks).length + 511) / 512 := ⟨_, rfl⟩
  obtain ⟨b, hb⟩ : ∃ b, b = ((ownL 1 ks).length + 511) / 512 := ⟨_, rfl⟩
  rw [← ha] at PA ⊢
  rw [← hb] at PB ⊢
  clear ha hb
  go_enter Tryz.func28, Tryz.ntmps28
  go_wp2_with fail
  refine XS.out.mono ?_
  rintro e w1 ⟨rfl, rfl⟩
  go_wp2_with fail
  go_loop [3, 17] (fun x i => ∃ Y : Nat, x = .int .i64 (Y : Int) ∧ Y ≤ 100000000 ∧ (i = .int .i64 0 ∧ Y = X ∨ i = .int .i64 1 ∧ Hid (Y ≤ X + 64 * (4 * a + 1)) ∧ Y ≤ 50000000 ∨ i = .int .i64 2 ∧ Hid (Y ≤ X + 64 * (4 * a + 1) + 64 * (4 * b + 1)))) (fun _ i => 2 - (intOf i).toNat)
  case atStart => exact ⟨X, rfl, by omega, .inl ⟨rfl, rfl⟩⟩
  case round =>
    obtain ⟨Y, rfl, hY9, ⟨rfl, rfl⟩ | ⟨rfl, hY, hY5⟩ | ⟨rfl, hY⟩⟩ := hrel
    · go_wp2_with fail
      refine PA.out.mono ?_
      rintro e w2 ⟨M, H, rfl, hM, hM9, hlv, rfl⟩
      have hMa := lvs_M hlv hM
      obtain ⟨Z, hZ⟩ : ∃ Z, Z = Y + 64 * M := ⟨_, rfl⟩
      have e1 : (Y : Int) + 64 * (M : Int) = (Z : Int) := by omega
      have e2 : IntKind.i64.wrap (Z : Int) = (Z : Int) := by rw [IntKind.wrap_i64]; omega
      have HZ : Hid (Z ≤ Y + 64 * (4 * a + 1)) := by show _ ≤ _; omega
      have hZ9 : Z ≤ 50000000 := by omega
      clear hM hlv hMa hZ
      go_wp2_with fail
      go_round
      case rel => exact ⟨Z, by first | rfl | (show _ = _; simp [e1]), by omega, .inr (.inl ⟨by go_num, HZ, hZ9⟩)⟩
      case measure => simp [intOf]
    · go_wp2_with fail
      refine PB.out.mono ?_
      rintro e w2 ⟨M, H, rfl, hM, hM9, hlv, rfl⟩
      have hMa := lvs_M hlv hM
      obtain ⟨Z, hZ⟩ : ∃ Z, Z = Y + 64 * M := ⟨_, rfl⟩
      have e1 : (Y : Int) + 64 * (M : Int) = (Z : Int) := by omega
      have e2 : IntKind.i64.wrap (Z : Int) = (Z : Int) := by rw [IntKind.wrap_i64]; omega
      have HZ : Hid (Z ≤ X + 64 * (4 * a + 1) + 64 * (4 * b + 1)) := by show _ ≤ _; have := hY.out; omega
      have hZ9 : Z ≤ 100000000 := by omega
      clear hM hlv hMa hZ
      go_wp2_with fail
      go_round
      case rel => exact ⟨Z, by first | rfl | (show _ = _; simp [e1]), hZ9, .inr (.inr ⟨by go_num, HZ⟩)⟩
      case measure => simp [intOf]
    · go_wp2_with fail
      go_ret
      exact ⟨Y, rfl, by have := hY.out; have := HX.out; omega, rfl⟩
theorem isize_nil (w : World) : Calls Tryz.prog 28 #[.pointer none] w fun e w' => e = .returned (.int .i64 0) ∧ w = w' := by
  go_enter Tryz.func28, Tryz.ntmps28
  go_wp2_with fail
  go_ret
  exact ⟨rfl, rfl⟩
end
end Go.Proofs.YtagpdpacaoianaaGreatDoor
