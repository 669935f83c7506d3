/- EulerNil: the walk. -/
import Derived.Test.YtpplhooojfchpaaEAwake
import Derived.Test.YtpplhooojfchpaaEDblW
namespace Go.Proofs.Ytpplhooojfchpaa
open Go.RowKit Go.Maps
set_option linter.unusedVariables false
set_option maxRecDepth 20000
theorem genus_nil (w : World) : Calls Try.prog 23 #[.pointer none] w fun e w' => e = .returned (.int .i64 0) ∧ Below w.heap.size w w' := by
  have PN := Lib.hid (parts_nil w)
  go_enter Try.func23, Try.ntmps23
  go_wp2_with fail
  refine PN.out.mono ?_
  rintro e w1 ⟨rfl, hb1⟩
  have B1 := Lib.hid hb1
  clear hb1
  go_wp2_with fail
  go_loopw [3, 9] (fun s3 i wr => s3 = .int .i64 0 ∧ i = .int .i64 0 ∧ wr = w1) (fun _ _ _ => 0)
  case atStart => exact ⟨rfl, rfl, rfl⟩
  case round =>
    obtain ⟨rfl, rfl, rfl⟩ := hrel
    go_wp2_with fail
    go_ret
    exact ⟨rfl, B1.out⟩
theorem connected_nil (w : World) : Calls Try.prog 25 #[.pointer none] w fun e w' => e = .returned (.bool false) ∧ Below w.heap.size w w' := by
  have PN := Lib.hid (parts_nil w)
  go_enter Try.func25, Try.ntmps25
  go_wp2_with fail
  refine PN.out.mono ?_
  rintro e w1 ⟨rfl, hb1⟩
  have B1 := Lib.hid hb1
  clear hb1
  go_wp2_with fail
  go_ret
  exact ⟨rfl, B1.out⟩
theorem simple_nil (w : World) : Calls Try.prog 28 #[.pointer none] w fun e w' => e = .returned (.bool false) ∧ w = w' := by
  go_enter Try.func28, Try.ntmps28
  go_wp2_with fail
  go_ret
  exact ⟨rfl, rfl⟩
theorem triang_nil (w : World) : Calls Try.prog 29 #[.pointer none] w fun e w' => e = .returned (.bool false) ∧ Below w.heap.size w w' := by
  have PN := Lib.hid (connected_nil w)
  go_enter Try.func29, Try.ntmps29
  go_wp2_with fail
  refine PN.out.mono ?_
  rintro e w1 ⟨rfl, hb1⟩
  have B1 := Lib.hid hb1
  clear hb1
  go_wp2_with fail
  go_ret
  exact ⟨rfl, B1.out⟩
theorem doubles_nil (w : World) : Calls Try.prog 27 #[.pointer none] w fun e w' => e = .returned (.int .i64 0) ∧ Below w.heap.size w w' := by
  have hmm := @run_makeMap Try.prog
  have hba := (Below.refl w.heap.size w).alloc (Nat.le_refl _) (.map #[] 0)
  have EP := Lib.hid (fun W => edges_nil W)
  have HBA := Lib.hid hba
  clear hba
  go_enter Try.func27, Try.ntmps27
  go_wp2_with fail
  refine (EP.out _).mono ?_
  rintro e w1 ⟨rfl, hb1⟩
  have B1 := Lib.hid (HBA.out.trans (hb1.mono HBA.out.size))
  clear hb1
  go_wp2_with fail
  go_loopw [3, 10] (fun s3 i wr => s3 = .int .i64 0 ∧ i = .int .i64 0 ∧ wr = w1) (fun _ _ _ => 0)
  case atStart => exact ⟨rfl, rfl, rfl⟩
  case round =>
    obtain ⟨rfl, rfl, rfl⟩ := hrel
    go_wp2_with fail
    go_ret
    exact ⟨rfl, B1.out⟩
theorem nil_inv : Inv [] [] := by refine ⟨rfl, ?_, ?_, ?_, ?_⟩ <;> (intro i hi; simp at hi)
theorem pN_nil : pN [] = 0 := by have := pN_le []; simp at this; exact this
theorem genusN_nil : genusN [] = 0 := by unfold genusN; rw [pN_nil]; rfl
set_option maxHeartbeats 4000000 in
theorem eulerNil_walk (n : Nat) (w : World) (hn : n < 256) :
    Calls Try.prog 7 #[.int .u8 (n : Int)] w fun e w' => e = .returned (.bool true) ∧ Below w.heap.size w w' := by
  have AW := Lib.hid (awake8_p w)
  go_enter Try.func7, Try.ntmps7
  go_wp2_with fail
  refine AW.out.mono ?_
  rintro e w1 ⟨rfl, b1⟩
  have NO := Lib.hid (new_ok none 0 0 [] [] (-1) (n : Int) w1 (Rd.nil _ _ _) nil_inv (by decide) (by omega) (.inl ⟨rfl, rfl⟩) (by omega) (by omega))
  have B1 := Lib.hid b1
  clear b1 AW
  go_wp2_with fail
  refine NO.out.mono ?_
  rintro e w2 ⟨g, rfl, hmap, b2, _⟩
  have HM := Lib.hid hmap
  have B2 := Lib.hid (B1.out.trans (b2.mono B1.out.size))
  clear hmap b2 NO
  have K1 : Hid (∀ W, Below w2.heap.size w2 W → Calls Try.prog 11 #[.pointer (some ⟨g, 0, none⟩)] W (NewPt W n (partsC [] n))) := fun W m => by
    have := parts_p g [] [] (-1) n W (HM.out.below m)
    rwa [pN_nil, Nat.zero_add] at this
  have K2 : Hid (∀ W, Below w2.heap.size w2 W → Calls Try.prog 24 #[.pointer (some ⟨g, 0, none⟩)] W fun e w' => e = .returned (.bool true) ∧ Below W.heap.size W w') := fun W m => by
    have := planar_p g [] [] (-1) n W (HM.out.below m)
    rwa [genusN_nil] at this
  have K3 : Hid (∀ W, Below w2.heap.size w2 W → Calls Try.prog 25 #[.pointer (some ⟨g, 0, none⟩)] W fun e w' => e = .returned (.bool (decide (n = 1))) ∧ Below W.heap.size W w') := fun W m => by
    have := connected_p g [] [] (-1) n W (HM.out.below m)
    rwa [pN_nil, Nat.zero_add] at this
  have K4 : Hid (∀ W, Below w2.heap.size w2 W → Calls Try.prog 28 #[.pointer (some ⟨g, 0, none⟩)] W fun e w' => e = .returned (.bool true) ∧ Below W.heap.size W w') := fun W m => by
    have := simple_p g [] [] (-1) n W (HM.out.below m)
    rwa [decide_eq_true (show loopsN [] (([] : List Nat).length / 2) = 0 ∧ dblN [] (([] : List Nat).length / 2) = 0 from ⟨rfl, rfl⟩)] at this
  have K5 : Hid (∀ W, Below w2.heap.size w2 W → Calls Try.prog 29 #[.pointer (some ⟨g, 0, none⟩)] W fun e w' => e = .returned (.bool false) ∧ Below W.heap.size W w') := fun W m =>
    (triang_p g [] [] (-1) n W (HM.out.below m)).mono fun e w' ⟨r, he, hr, hb⟩ => by
      have : r = false := by
        cases r with
        | false => rfl
        | true =>
          have t := hr.1 rfl
          have t1 := t.1
          have t2 := t.2.1
          rw [pN_nil] at t1
          have : (sizes []).length = 0 := by rw [sizes_is nil_inv]; rfl
          omega
      exact ⟨by rw [he, this], hb⟩
  have H_parts_nil := Lib.hid (fun W => parts_nil W)
  have H_enames_nil := Lib.hid (fun W => enames_nil W)
  have H_genus_nil := Lib.hid (fun W => genus_nil W)
  have H_loops_nil := Lib.hid (fun W => loops_nil W)
  have H_doubles_nil := Lib.hid (fun W => doubles_nil W)
  have H_planar_nil := Lib.hid (fun W => planar_nil W)
  have H_connected_nil := Lib.hid (fun W => connected_nil W)
  have H_simple_nil := Lib.hid (fun W => simple_nil W)
  have H_triang_nil := Lib.hid (fun W => triang_nil W)
  by_cases hn1 : n = 1
  · have e1 : ((n : Int) == 1) = true := by rw [beq_iff_eq]; omega
    rw [decide_eq_true hn1] at K3
    clear hn1
    have Z := Below.refl w2.heap.size w2
    go_wp2_with fail
    refine (H_parts_nil.out _).mono ?_
    rintro e v1 ⟨rfl, z⟩
    replace Z := Z.trans (z.mono Z.size)
    clear z
    go_wp2_with fail
    refine (H_enames_nil.out _).mono ?_
    rintro e v2 ⟨A9, c9, rfl, _, _, _, z⟩
    replace Z := Z.trans (z.mono Z.size)
    clear z
    go_wp2_with fail
    refine (H_genus_nil.out _).mono ?_
    rintro e v3 ⟨rfl, z⟩
    replace Z := Z.trans (z.mono Z.size)
    clear z
    go_wp2_with fail
    refine (H_loops_nil.out _).mono ?_
    rintro e v4 ⟨rfl, z⟩
    replace Z := Z.trans (z.mono Z.size)
    clear z
    go_wp2_with fail
    refine (H_doubles_nil.out _).mono ?_
    rintro e v5 ⟨rfl, z⟩
    replace Z := Z.trans (z.mono Z.size)
    clear z
    go_wp2_with fail
    refine (H_planar_nil.out _).mono ?_
    rintro e v6 ⟨rfl, rfl⟩
    go_wp2_with fail
    refine (H_connected_nil.out _).mono ?_
    rintro e v7 ⟨rfl, z⟩
    replace Z := Z.trans (z.mono Z.size)
    clear z
    go_wp2_with fail
    refine (H_simple_nil.out _).mono ?_
    rintro e v8 ⟨rfl, rfl⟩
    go_wp2_with fail
    refine (H_triang_nil.out _).mono ?_
    rintro e v9 ⟨rfl, z⟩
    replace Z := Z.trans (z.mono Z.size)
    clear z
    go_wp2_with fail
    refine (K1.out _ Z).mono ?_
    rintro e x1 ⟨A9, c9, rfl, _, _, _, z⟩
    replace Z := Z.trans (z.mono Z.size)
    clear z
    go_wp2_with fail
    refine (K2.out _ Z).mono ?_
    rintro e x2 ⟨rfl, z⟩
    replace Z := Z.trans (z.mono Z.size)
    clear z
    go_wp2_with fail
    refine (K3.out _ Z).mono ?_
    rintro e x3 ⟨rfl, z⟩
    replace Z := Z.trans (z.mono Z.size)
    clear z
    go_wp2_with fail
    refine (K4.out _ Z).mono ?_
    rintro e x4 ⟨rfl, z⟩
    replace Z := Z.trans (z.mono Z.size)
    clear z
    go_wp2_with fail
    refine (K5.out _ Z).mono ?_
    rintro e x5 ⟨rfl, z⟩
    replace Z := Z.trans (z.mono Z.size)
    clear z
    have BB := Lib.hid (B2.out.trans (Z.mono B2.out.size))
    go_wp2_with fail
    go_ret
    exact ⟨rfl, BB.out⟩
  · have e1 : ((n : Int) == 1) = false := by rw [beq_eq_false_iff_ne]; omega
    rw [decide_eq_false hn1] at K3
    clear hn1
    have Z := Below.refl w2.heap.size w2
    go_wp2_with fail
    refine (H_parts_nil.out _).mono ?_
    rintro e v1 ⟨rfl, z⟩
    replace Z := Z.trans (z.mono Z.size)
    clear z
    go_wp2_with fail
    refine (H_enames_nil.out _).mono ?_
    rintro e v2 ⟨A9, c9, rfl, _, _, _, z⟩
    replace Z := Z.trans (z.mono Z.size)
    clear z
    go_wp2_with fail
    refine (H_genus_nil.out _).mono ?_
    rintro e v3 ⟨rfl, z⟩
    replace Z := Z.trans (z.mono Z.size)
    clear z
    go_wp2_with fail
    refine (H_loops_nil.out _).mono ?_
    rintro e v4 ⟨rfl, z⟩
    replace Z := Z.trans (z.mono Z.size)
    clear z
    go_wp2_with fail
    refine (H_doubles_nil.out _).mono ?_
    rintro e v5 ⟨rfl, z⟩
    replace Z := Z.trans (z.mono Z.size)
    clear z
    go_wp2_with fail
    refine (H_planar_nil.out _).mono ?_
    rintro e v6 ⟨rfl, rfl⟩
    go_wp2_with fail
    refine (H_connected_nil.out _).mono ?_
    rintro e v7 ⟨rfl, z⟩
    replace Z := Z.trans (z.mono Z.size)
    clear z
    go_wp2_with fail
    refine (H_simple_nil.out _).mono ?_
    rintro e v8 ⟨rfl, rfl⟩
    go_wp2_with fail
    refine (H_triang_nil.out _).mono ?_
    rintro e v9 ⟨rfl, z⟩
    replace Z := Z.trans (z.mono Z.size)
    clear z
    go_wp2_with fail
    refine (K1.out _ Z).mono ?_
    rintro e x1 ⟨A9, c9, rfl, _, _, _, z⟩
    replace Z := Z.trans (z.mono Z.size)
    clear z
    go_wp2_with fail
    refine (K2.out _ Z).mono ?_
    rintro e x2 ⟨rfl, z⟩
    replace Z := Z.trans (z.mono Z.size)
    clear z
    go_wp2_with fail
    refine (K3.out _ Z).mono ?_
    rintro e x3 ⟨rfl, z⟩
    replace Z := Z.trans (z.mono Z.size)
    clear z
    go_wp2_with fail
    refine (K4.out _ Z).mono ?_
    rintro e x4 ⟨rfl, z⟩
    replace Z := Z.trans (z.mono Z.size)
    clear z
    go_wp2_with fail
    refine (K5.out _ Z).mono ?_
    rintro e x5 ⟨rfl, z⟩
    replace Z := Z.trans (z.mono Z.size)
    clear z
    have BB := Lib.hid (B2.out.trans (Z.mono B2.out.size))
    go_wp2_with fail
    go_ret
    exact ⟨rfl, BB.out⟩
end Go.Proofs.Ytpplhooojfchpaa
