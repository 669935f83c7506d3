/- EulerWheels: the walk. -/
import Derived.Test.YtpplhooojfchpaaEWheelM
import Derived.Test.YtpplhooojfchpaaEAwake
import Derived.BigQuiet
namespace Go.Proofs.Ytpplhooojfchpaa
open Go.RowKit
set_option linter.unusedVariables false
set_option maxRecDepth 20000
theorem bool_of2 (P : Prop) : ∃ b : Bool, b = true ↔ P := by
  by_cases h : P
  · exact ⟨true, fun _ => h, fun _ => rfl⟩
  · exact ⟨false, fun c => (by cases c), fun c => absurd c h⟩
theorem bool_same2 {a b : Bool} {P : Prop} (h1 : a = true ↔ P) (h2 : b = true ↔ P) : a = b := by
  cases a <;> cases b <;> simp_all
set_option maxHeartbeats 8000000 in
theorem eulerWheels_walk (kk : Nat) (w : World) (hkk : kk < 256) :
    Calls Try.prog 6 #[.int .u8 (kk : Int)] w fun e w' => e = .returned (.bool true) ∧ Below w.heap.size w w' := by
  have AW := Lib.hid (awake8_p w)
  obtain ⟨c, hc, hc12⟩ : ∃ c, Hid (c = kk % 12) ∧ c < 12 := ⟨_, rfl, Nat.mod_lt _ (by decide)⟩
  have e1 : (kk : Int) % 12 = (c : Int) := by have := hc.out; omega
  obtain ⟨N, hN⟩ : ∃ N, N = 3 + c := ⟨_, rfl⟩
  have e2 : 3 + (c : Int) = (N : Int) := by omega
  have hN3 : 3 ≤ N := by omega
  have hN15 : N < 15 := by omega
  have WA := Lib.hid (wheel_all N hN3 hN15)
  obtain ⟨M4, hM4⟩ : ∃ M4, M4 = 4 * N := ⟨_, rfl⟩
  obtain ⟨M2, hM2⟩ : ∃ M2, M2 = 2 * N := ⟨_, rfl⟩
  have e3 : 4 * (N : Int) = (M4 : Int) := by omega
  have e4 : 2 * (N : Int) = (M2 : Int) := by omega
  have HM4 := Lib.hid hM4
  have HM2 := Lib.hid hM2
  have hM4l : M4 ≤ 100 := by omega
  have hM2l : M2 ≤ 100 := by omega
  obtain ⟨i0, hi0, hz0, hz1, hz2⟩ := info_parts info_int
  have hmk4 := run_make_one (P := Try.prog) 25 3 i0 (.int .i64 0) 8 Try.underlying25 hi0 hz0 hz1 hz2 rfl .i64 .i64 M4 (by omega) (by omega)
  have hmk2 := run_make_one (P := Try.prog) 25 3 i0 (.int .i64 0) 8 Try.underlying25 hi0 hz0 hz1 hz2 rfl .i64 .i64 M2 (by omega) (by omega)
  have HZ0 : Hid (List.replicate M4 0 = wst N 0 ∧ List.replicate M2 0 = cst N 0) := by
    show _ ∧ _
    rw [hM4, hM2]; exact ⟨rfl, rfl⟩
  clear hN hM4 hM2
  go_enter Try.func6, Try.ntmps6
  go_wp2_with fail
  refine AW.out.mono ?_
  rintro e w1 ⟨rfl, b1⟩
  have B1 := Lib.hid b1
  clear b1 AW
  have own4 := own_made w1 3 M4 (.int .i64 0) (by simp only [maxLen]; omega)
  have own2 := own_made (w1.alloc (.cells (List.replicate M4 (.int .i64 0)).toArray 3)) 3 M2 (.int .i64 0) (by simp only [maxLen]; omega)
  rw [← I64_replicate] at own4 own2
  have sz1 : (w1.alloc (.cells (List.replicate M4 (.int .i64 0)).toArray 3)).heap.size = w1.heap.size + 1 := by simp
  rw [I64_replicate, sz1] at own2
  have OA := Lib.hid ((own4).alloc (.cells (List.replicate M2 (.int .i64 0)).toArray 3))
  have OB := Lib.hid own2
  have BA := Lib.hid ((((Below.refl w1.heap.size w1).alloc (Nat.le_refl _) (.cells (List.replicate M4 (.int .i64 0)).toArray 3))).alloc (show w1.heap.size ≤ _ by simp) (.cells (List.replicate M2 (.int .i64 0)).toArray 3))
  clear own4 own2 sz1
  go_wp2_with fail
  clear hmk4 hmk2
  go_loopw [27] (fun i wr => ∃ (k : Nat), k ≤ N ∧ i = .int .i64 (k : Int) ∧ Hid (wr.ownsRow w1.heap.size 3 1 (.slice (some ⟨w1.heap.size, 0, none⟩) M4 M4) M4 (I64 (ofN (wst N k)))) ∧ Hid (wr.ownsRow w1.heap.size 3 1 (.slice (some ⟨w1.heap.size + 1, 0, none⟩) M2 M2) M2 (I64 (ofN (cst N k)))) ∧ Hid (Below w1.heap.size w1 wr)) (fun i _ => N - (intOf i).toNat)
  case atStart =>
    refine ⟨0, by omega, rfl, ?_, ?_, Lib.hid (by simpa using BA.out)⟩
    · rw [← HZ0.out.1]
      exact Lib.hid (by simpa [I64, ofN] using OA.out)
    · rw [← HZ0.out.2]
      have := OB.out.base_le' (show w1.heap.size ≤ w1.heap.size + 1 by omega)
      exact Lib.hid (by simpa [I64, ofN] using this)
  case round =>
    clear OA OB BA HZ0
    obtain ⟨k, hk, rfl, HW, HC, HB⟩ := hrel
    by_cases hlt : k < N
    · have hdk : decide (k < N) = true := by rw [decide_eq_true_iff]; exact hlt
      obtain ⟨p, hp⟩ : ∃ p, p = (k + N - 1) % N := ⟨_, rfl⟩
      obtain ⟨q, hq⟩ : ∃ q, q = (k + 1) % N := ⟨_, rfl⟩
      have hpN : p < N := by rw [hp]; exact Nat.mod_lt _ (by omega)
      have hqN : q < N := by rw [hq]; exact Nat.mod_lt _ (by omega)
      have hpI : ((k : Int) + (N : Int) - 1) % (N : Int) = (p : Int) := by
        rw [hp, Int.natCast_emod]
        congr 1
        omega
      have hqI : ((k : Int) + 1) % (N : Int) = (q : Int) := by rw [hq, Int.natCast_emod]; rfl
      have hpT : ((k : Int) + (N : Int) - 1).tmod (N : Int) = (p : Int) := by rw [Int.tmod_eq_emod_of_nonneg (by omega)]; exact hpI
      have hqT : ((k : Int) + 1).tmod (N : Int) = (q : Int) := by rw [Int.tmod_eq_emod_of_nonneg (by omega)]; exact hqI
      obtain ⟨o, ho⟩ : ∃ o, o = 2 * k := ⟨_, rfl⟩
      obtain ⟨i, hi⟩ : ∃ i, i = 2 * p + 1 := ⟨_, rfl⟩
      obtain ⟨s, hs⟩ : ∃ s, s = 2 * (N + k) := ⟨_, rfl⟩
      obtain ⟨s1, hs1⟩ : ∃ s1, s1 = 2 * (N + k) + 1 := ⟨_, rfl⟩
      obtain ⟨t, ht⟩ : ∃ t, t = 2 * (N + q) := ⟨_, rfl⟩
      have f1 : 2 * (k : Int) = (o : Int) := by omega
      have f2 : 2 * (p : Int) + 1 = (i : Int) := by omega
      have f3 : 2 * ((N : Int) + (k : Int)) = (s : Int) := by omega
      have f4 : (s : Int) + 1 = (s1 : Int) := by omega
      have f5 : 2 * ((N : Int) + (q : Int)) = (t : Int) := by omega
      have g1 : IntKind.i64.wrap (o : Int) = (o : Int) := by simp [IntKind.wrap, IntKind.signed, IntKind.bits]; omega
      have g2 : IntKind.i64.wrap ((k : Int) + (N : Int)) = (k : Int) + (N : Int) := by simp [IntKind.wrap, IntKind.signed, IntKind.bits]; omega
      have g3 : IntKind.i64.wrap ((k : Int) + (N : Int) - 1) = (k : Int) + (N : Int) - 1 := by simp [IntKind.wrap, IntKind.signed, IntKind.bits]; omega
      have g4 : IntKind.i64.wrap (2 * (p : Int)) = 2 * (p : Int) := by simp [IntKind.wrap, IntKind.signed, IntKind.bits]; omega
      have g5 : IntKind.i64.wrap (i : Int) = (i : Int) := by simp [IntKind.wrap, IntKind.signed, IntKind.bits]; omega
      have g6 : IntKind.i64.wrap ((N : Int) + (k : Int)) = (N : Int) + (k : Int) := by simp [IntKind.wrap, IntKind.signed, IntKind.bits]; omega
      have g7 : IntKind.i64.wrap (s : Int) = (s : Int) := by simp [IntKind.wrap, IntKind.signed, IntKind.bits]; omega
      have g8 : IntKind.i64.wrap (s1 : Int) = (s1 : Int) := by simp [IntKind.wrap, IntKind.signed, IntKind.bits]; omega
      have g9 : (N : Int) ≠ 0 := by omega
      have HWN : Hid (wst N (k + 1) = ((((wst N k).set o s1).set s1 i).set i o).set s t) := by
        show _ = _
        rw [ho, hi, hs, hs1, ht, hp, hq]; rfl
      have HCN : Hid (cst N (k + 1) = ((cst N k).set o i).set i o) := by
        show _ = _
        rw [ho, hi, hp]; rfl
      have l4 := HM4.out
      have l2 := HM2.out
      have b1 : o < M4 := by omega
      have b2 : s1 < M4 := by omega
      have b3 : i < M4 := by omega
      have b4 : s < M4 := by omega
      have b5 : o < M2 := by omega
      have b6 : i < M2 := by omega
      have n1 : o ≠ s1 := by omega
      have n2 : o ≠ i := by omega
      have n3 : o ≠ s := by omega
      have n4 : s1 ≠ i := by omega
      have n5 : s1 ≠ s := by omega
      have n6 : i ≠ s := by omega
      have m1 := n1.symm
      have m2 := n2.symm
      have m3 := n3.symm
      have m4 := n4.symm
      have m5 := n5.symm
      have m6 := n6.symm
      have BI := Lib.hid (And.intro b1 (And.intro b2 (And.intro b3 (And.intro b4 (And.intro b5 b6)))))
      clear hp hq ho hi hs hs1 ht l4 l2 hpI hqI
      have hpI : ((k : Int) + (N : Int) - 1) % (N : Int) = (p : Int) := by rw [← Int.tmod_eq_emod_of_nonneg (by omega)]; exact hpT
      have hqI : ((k : Int) + 1) % (N : Int) = (q : Int) := by rw [← Int.tmod_eq_emod_of_nonneg (by omega)]; exact hqT
      go_wp2_with fail
      go_quiet (fail)
      have HWq : Hid ((wr.drewN nq).ownsRow w1.heap.size 3 1 (.slice (some ⟨w1.heap.size, 0, none⟩) M4 M4) M4 (I64 (ofN (wst N k)))) := own_below HW.out (below_draws (Below.refl _ _) nq)
      have HCq : Hid ((wr.drewN nq).ownsRow w1.heap.size 3 1 (.slice (some ⟨w1.heap.size + 1, 0, none⟩) M2 M2) M2 (I64 (ofN (cst N k)))) := own_below HC.out (below_draws (Below.refl _ _) nq)
      have HBq : Hid (Below w1.heap.size w1 (wr.drewN nq)) := below_draws HB.out nq
      clear HW HC HB
      generalize wr.drewN nq = wx at *
      have c1 := own_cellI HWq.out o b1
      have c2 := own_cellI HWq.out s1 b2
      have c3 := own_cellI HWq.out i b3
      have c4 := own_cellI HWq.out s b4
      have d1 := own_cellI HCq.out o b5
      have d2 := own_cellI HCq.out i b6
      have x1 := HWq.out.frozenAt o
      have x2 := HWq.out.frozenAt s1
      have x3 := HWq.out.frozenAt i
      have x4 := HWq.out.frozenAt s
      have y1 := HCq.out.frozenAt o
      have y2 := HCq.out.frozenAt i
      generalize (ofN (wst N k)).getD o 0 = u1 at c1
      generalize (ofN (wst N k)).getD s1 0 = u2 at c2
      generalize (ofN (wst N k)).getD i 0 = u3 at c3
      generalize (ofN (wst N k)).getD s 0 = u4 at c4
      generalize (ofN (cst N k)).getD o 0 = u5 at d1
      generalize (ofN (cst N k)).getD i 0 = u6 at d2
      have HF : Hid (∀ W, W = (((((wx.setCell ⟨w1.heap.size, o, none⟩ (.int .i64 (s1 : Int))).setCell ⟨w1.heap.size, s1, none⟩ (.int .i64 (i : Int))).setCell ⟨w1.heap.size, i, none⟩ (.int .i64 (o : Int))).setCell ⟨w1.heap.size, s, none⟩ (.int .i64 (t : Int))).setCell ⟨w1.heap.size + 1, o, none⟩ (.int .i64 (i : Int))).setCell ⟨w1.heap.size + 1, i, none⟩ (.int .i64 (o : Int)) →
          W.ownsRow w1.heap.size 3 1 (.slice (some ⟨w1.heap.size, 0, none⟩) M4 M4) M4 (I64 (ofN (wst N (k + 1)))) ∧ W.ownsRow w1.heap.size 3 1 (.slice (some ⟨w1.heap.size + 1, 0, none⟩) M2 M2) M2 (I64 (ofN (cst N (k + 1)))) ∧ Below w1.heap.size w1 W) := fun W hW => by
        subst hW
        have a1 := own_setN (own_setN (own_setN (own_setN HWq.out o s1) s1 i) i o) s t
        rw [← HWN.out] at a1
        have mm : ∀ (v : World) (x : Nat) (u : Value), Mod (fun j => j = w1.heap.size) v (v.setCell ⟨w1.heap.size, x, none⟩ u) := fun v x u => Mod.setCell (p := ⟨w1.heap.size, x, none⟩) (Mod.refl (fun j => j = w1.heap.size) v) (fun _ => rfl) u
        have mc : ∀ (v : World) (x : Nat) (u : Value), Mod (fun j => j = w1.heap.size + 1) v (v.setCell ⟨w1.heap.size + 1, x, none⟩ u) := fun v x u => Mod.setCell (p := ⟨w1.heap.size + 1, x, none⟩) (Mod.refl (fun j => j = w1.heap.size + 1) v) (fun _ => rfl) u
        have ne1 : ∀ j, (Value.slice (some ⟨w1.heap.size + 1, 0, none⟩) M2 M2).ownBlock = some j → ¬ j = w1.heap.size := fun j hj e => by simp [Value.ownBlock] at hj; omega
        have ne2 : ∀ j, (Value.slice (some ⟨w1.heap.size, 0, none⟩) M4 M4).ownBlock = some j → ¬ j = w1.heap.size + 1 := fun j hj e => by simp [Value.ownBlock] at hj; omega
        refine ⟨own_mod (own_mod a1 (mc _ _ _) ne2) (mc _ _ _) ne2, ?_, ?_⟩
        · rw [HCN.out]
          exact own_setN (own_setN (own_mod (own_mod (own_mod (own_mod HCq.out (mm _ _ _) ne1) (mm _ _ _) ne1) (mm _ _ _) ne1) (mm _ _ _) ne1) o i) i o
        · exact (((((HBq.out.setCell (p := ⟨w1.heap.size, o, none⟩) (Nat.le_refl _) _).setCell (p := ⟨w1.heap.size, s1, none⟩) (Nat.le_refl _) _).setCell (p := ⟨w1.heap.size, i, none⟩) (Nat.le_refl _) _).setCell (p := ⟨w1.heap.size, s, none⟩) (Nat.le_refl _) _).setCell (p := ⟨w1.heap.size + 1, o, none⟩) (Nat.le_succ _) _).setCell (p := ⟨w1.heap.size + 1, i, none⟩) (Nat.le_succ _) _
      go_wp2_with fail
      go_roundw
      case rel =>
        obtain ⟨r1, r2, r3⟩ := HF.out _ rfl
        exact ⟨k + 1, by omega, by go_num, r1, r2, r3⟩
      case measure => simp [intOf]; omega
    · obtain rfl : k = N := by omega
      have hdk : decide (k < k) = false := by simp
      obtain ⟨⟨bw, wi, we, wg, wp, wl, wd, wt, wv, wf⟩, ⟨bc, ci, ce, cg, cp, cl, cd, ct, cv, cf⟩⟩ := WA.out
      have hwl := wst_len k k
      have hcl := cst_len k k
      have RW := Lib.hid (Rd.ofOwn HW.out)
      have RC := Lib.hid (Rd.ofOwn HC.out)
      have hM4e := HM4.out
      have hM2e := HM2.out
      have NW := Lib.hid (new_ok _ M4 M4 (wst k k) bw 0 0 wr RW.out wi (by omega) (by omega) (.inr ⟨by omega, by omega, by omega⟩) (by omega) (by omega))
      have BR := Lib.hid (B1.out.trans (HB.out.mono B1.out.size))
      obtain ⟨bt, hbt⟩ := bool_of2 (k = 3)
      have hbe : ((k : Int) == 3) = bt := by rw [Bool.eq_iff_iff, hbt, beq_iff_eq]; omega
      have H1 := Lib.hid (And.intro wg (And.intro wp (And.intro wl (And.intro wd (And.intro wt (And.intro wv wf))))))
      have H2 := Lib.hid (And.intro cg (And.intro cp (And.intro cl (And.intro cd (And.intro ct (And.intro cv cf))))))
      have HBT := Lib.hid hbt
      have CI := Lib.hid ci
      have HM2e := Lib.hid hM2e
      have hk20 : k ≤ 20 := by omega
      clear wi we wg wp wl wd wt wv wf ci ce cg cp cl cd ct cv cf hwl hcl hM4e hM2e hbt HW HC HB WA hlt hk
      go_wp2_with fail
      refine NW.out.mono ?_
      rintro e w3 ⟨gw, rfl, hmw, b3, _⟩
      have NC := Lib.hid (new_ok _ M2 M2 (cst k k) bc 0 0 w3 ((RC.out.below b3).lt) CI.out (by have := HM2e.out; omega) (by omega) (.inr ⟨by have := HM2e.out; omega, by omega, by have := HM2e.out; omega⟩) (by omega) (by omega))
      have HMW := Lib.hid hmw
      have B3 := Lib.hid (BR.out.trans (b3.mono BR.out.size))
      clear hmw b3 NW RC RW
      go_wp2_with fail
      refine NC.out.mono ?_
      rintro e w4 ⟨gc, rfl, hmc, b4, _⟩
      have MW := Lib.hid (HMW.out.below b4)
      have MC := Lib.hid hmc
      have B4 := Lib.hid (B3.out.trans (b4.mono B3.out.size))
      clear hmc b4 NC HMW B3
      have K1 : Hid (∀ W, Below w4.heap.size w4 W → Calls Try.prog 24 #[.pointer (some ⟨gw, 0, none⟩)] W fun e w' => e = .returned (.bool true) ∧ Below W.heap.size W w') := fun W m => by
        have := planar_p gw (wst k k) bw 0 0 W (MW.out.below m)
        rwa [H1.out.1] at this
      have K2 : Hid (∀ W, Below w4.heap.size w4 W → Calls Try.prog 28 #[.pointer (some ⟨gw, 0, none⟩)] W fun e w' => e = .returned (.bool true) ∧ Below W.heap.size W w') := fun W m => by
        have := simple_p gw (wst k k) bw 0 0 W (MW.out.below m)
        rwa [decide_eq_true ⟨H1.out.2.2.1, H1.out.2.2.2.1⟩] at this
      have K3 : Hid (∀ W, Below w4.heap.size w4 W → Calls Try.prog 25 #[.pointer (some ⟨gw, 0, none⟩)] W fun e w' => e = .returned (.bool true) ∧ Below W.heap.size W w') := fun W m => by
        have := connected_p gw (wst k k) bw 0 0 W (MW.out.below m)
        rwa [H1.out.2.1] at this
      have K4 : Hid (∀ W, Below w4.heap.size w4 W → Calls Try.prog 29 #[.pointer (some ⟨gw, 0, none⟩)] W fun e w' => e = .returned (.bool bt) ∧ Below W.heap.size W w') := fun W m => (triang_p gw (wst k k) bw 0 0 W (MW.out.below m)).mono fun e w' ⟨r, h1, h3, h2⟩ => ⟨by rw [h1, bool_same2 (h3.trans H1.out.2.2.2.2.1) HBT.out], h2⟩
      have K5 : Hid (∀ W, Below w4.heap.size w4 W → Calls Try.prog 16 #[.pointer (some ⟨gw, 0, none⟩)] W fun e w' => e = .returned (.int .i64 ((k : Int) + 1)) ∧ Below W.heap.size W w') := fun W m => by
        have := vertices_p gw (wst k k) bw 0 0 W (MW.out.below m)
        rwa [H1.out.2.2.2.2.2.1, show (((k + 1 : Nat) : Int)) + 0 = (k : Int) + 1 by omega] at this
      have K6 : Hid (∀ W, Below w4.heap.size w4 W → Calls Try.prog 18 #[.pointer (some ⟨gw, 0, none⟩)] W fun e w' => e = .returned (.int .i64 ((k : Int) + 1)) ∧ Below W.heap.size W w') := fun W m => by
        have := borders_p gw (wst k k) bw 0 0 W (MW.out.below m)
        rwa [H1.out.2.2.2.2.2.2, show (((k + 1 : Nat) : Int)) = (k : Int) + 1 by omega] at this
      have K7 : Hid (∀ W, Below w4.heap.size w4 W → Calls Try.prog 24 #[.pointer (some ⟨gc, 0, none⟩)] W fun e w' => e = .returned (.bool true) ∧ Below W.heap.size W w') := fun W m => by
        have := planar_p gc (cst k k) bc 0 0 W (MC.out.below m)
        rwa [H2.out.1] at this
      have K8 : Hid (∀ W, Below w4.heap.size w4 W → Calls Try.prog 29 #[.pointer (some ⟨gc, 0, none⟩)] W fun e w' => e = .returned (.bool bt) ∧ Below W.heap.size W w') := fun W m => (triang_p gc (cst k k) bc 0 0 W (MC.out.below m)).mono fun e w' ⟨r, h1, h3, h2⟩ => ⟨by rw [h1, bool_same2 (h3.trans H2.out.2.2.2.2.1) HBT.out], h2⟩
      have K9 : Hid (∀ W, Below w4.heap.size w4 W → Calls Try.prog 18 #[.pointer (some ⟨gc, 0, none⟩)] W fun e w' => e = .returned (.int .i64 2) ∧ Below W.heap.size W w') := fun W m => by
        have := borders_p gc (cst k k) bc 0 0 W (MC.out.below m)
        rwa [H2.out.2.2.2.2.2.2] at this
      clear H1 H2 HBT MW MC
      have Z0 := Below.refl w4.heap.size w4
      go_wp2_with fail
      refine (K1.out _ Z0).mono ?_
      rintro e v1 ⟨rfl, z⟩
      have Z1 := Z0.trans (z.mono Z0.size)
      clear z
      go_wp2_with fail
      refine (K2.out _ Z1).mono ?_
      rintro e v2 ⟨rfl, z⟩
      have Z2 := Z1.trans (z.mono Z1.size)
      clear z
      go_wp2_with fail
      refine (K3.out _ Z2).mono ?_
      rintro e v3 ⟨rfl, z⟩
      have Z3 := Z2.trans (z.mono Z2.size)
      clear z
      go_wp2_with fail
      refine (K4.out _ Z3).mono ?_
      rintro e v4 ⟨rfl, z⟩
      have Z4 := Z3.trans (z.mono Z3.size)
      clear z
      go_wp2_with fail
      refine (K5.out _ Z4).mono ?_
      rintro e v5 ⟨rfl, z⟩
      have Z5 := Z4.trans (z.mono Z4.size)
      clear z
      go_wp2_with fail
      refine (K6.out _ Z5).mono ?_
      rintro e v6 ⟨rfl, z⟩
      have Z6 := Z5.trans (z.mono Z5.size)
      clear z
      go_wp2_with fail
      refine (K7.out _ Z6).mono ?_
      rintro e v7 ⟨rfl, z⟩
      have Z7 := Z6.trans (z.mono Z6.size)
      clear z
      go_wp2_with fail
      refine (K8.out _ Z7).mono ?_
      rintro e v8 ⟨rfl, z⟩
      have Z8 := Z7.trans (z.mono Z7.size)
      clear z
      go_wp2_with fail
      refine (K9.out _ Z8).mono ?_
      rintro e v9 ⟨rfl, z⟩
      have Z9 := Z8.trans (z.mono Z8.size)
      clear z
      have BB := Lib.hid (B4.out.trans (Z9.mono B4.out.size))
      go_wp2_with fail
      go_ret
      exact ⟨rfl, BB.out⟩
end Go.Proofs.Ytpplhooojfchpaa
