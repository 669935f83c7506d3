/- A map turned another way: the map seen from its faces, and the mirror. The document's examples of layer 10, and what nil answers. -/
import Derived.Test.YthdmkcnclmgdlaaZg2
import Derived.Test.YthdmkcnclmgdlaaZg15
import Derived.Test.YthdmkcnclmgdlaaZDMap2
namespace Go.Proofs.Ythdmkcnclmgdlaa
set_option maxRecDepth 20000
open Go.RowKit
set_option linter.unusedVariables false
theorem getDN_setU (y : List Nat) (k j v : Nat) (hk : k < y.length) : (y.set k v).getD j 0 = if j = k then v else y.getD j 0 := by
  rw [List.getD_eq_getElem?_getD, List.getD_eq_getElem?_getD, List.getElem?_set]
  by_cases h : k = j
  · subst h; simp [hk]
  · simp [h, Ne.symm h]
theorem own_setNU {w : World} {base : Nat} {g n c : Nat} {y : List Nat} (h : w.ownsRow base 3 1 (.slice (some ⟨g, 0, none⟩) n c) n (I64 (ofN y))) (k v : Nat) :
    (w.setCell ⟨g, k, none⟩ (.int .i64 (v : Int))).ownsRow base 3 1 (.slice (some ⟨g, 0, none⟩) n c) n (I64 (ofN (y.set k v))) := by
  rw [show ofN (y.set k v) = (ofN y).set k (v : Int) by simp [ofN, List.map_set]]; exact own_setI h k _
end Go.Proofs.Ythdmkcnclmgdlaa
namespace Go.Proofs.Ythdmkcnclmgdlaa
set_option maxRecDepth 20000
open Go.RowKit
set_option linter.unusedVariables false
theorem leads_id0 : Leads idL 0 := fun j hj => absurd hj (by omega)
theorem leads_id1 : Leads idL 1 := by
  intro j hj
  obtain rfl : j = 0 := by omega
  rw [mem_orb idL_inv (by decide)]
  rintro ⟨k, hk⟩
  rw [it_id] at hk
  omega
theorem name_id0 : nameOf idL 0 = 0 := by rw [name_lead idL_inv (by decide) leads_id0, met_zero]
theorem name_id1 : nameOf idL 1 = 1 := by rw [name_lead idL_inv (by decide) leads_id1, met_lead idL 0 leads_id0, met_zero]
theorem deg_id0 : degOf idL 0 0 = 1 := by
  have h := sizes_id
  unfold degOf
  rw [if_neg (by omega), if_neg (by omega)]
  unfold sizes at h ⊢
  rw [sizesTo_len] at h
  rw [show (0 : Int).toNat = 0 from rfl, sizesTo_get _ _ _ _ (by omega), show idL.length = 0 + 1 + 1 from rfl, cntN_next, cntN_next, name_id0, name_id1]
  simp [cntN]
theorem deg_id1 : degOf idL 0 1 = 1 := by
  have h := sizes_id
  unfold degOf
  rw [if_neg (by omega), if_neg (by omega)]
  unfold sizes at h ⊢
  rw [sizesTo_len] at h
  rw [show (1 : Int).toNat = 1 from rfl, sizesTo_get _ _ _ _ (by omega), show idL.length = 0 + 1 + 1 from rfl, cntN_next, cntN_next, name_id0, name_id1]
  simp [cntN]
theorem isOf_0 (d : Nat) (w : World) (hd : d < 2) :
    Calls Try.prog 100 #[.int .i64 (d : Int), .int .i64 0] w fun e w' => e = .returned (.bool true) ∧ w = w' := by
  have h2 : (d : Int) / 2 = 0 := by omega
  go_enter Try.func100, Try.ntmps100
  go_wp2_with fail
  go_ret
  exact ⟨rfl, rfl⟩
theorem ready_in (g : Nat) (l b : List Nat) (root lone : Int) (i : Nat) (w : World) (h : MapAt w g l b root lone) (hi : i < l.length / 2) :
    Calls Try.prog 74 #[.pointer (some ⟨g, 0, none⟩), .int .i64 (i : Int)] w fun e w' => e = .returned (.int .i64 0) ∧ Below w.heap.size w w' := by
  have EP := Lib.hid (edges_p g l b root lone w h)
  generalize l.length / 2 = m at *
  have h1 : decide (m ≤ i) = false := by rw [decide_eq_false_iff_not]; omega
  have h2 : decide ((m : Int) ≤ (i : Int)) = false := by rw [decide_eq_false_iff_not]; omega
  have h3 : ¬ (m : Int) ≤ (i : Int) := by omega
  have h4 : ¬ (i : Int) < 0 := by omega
  clear h
  go_enter Try.func74, Try.ntmps74
  go_wp2_with fail
  refine EP.out.mono ?_
  rintro e w1 ⟨rfl, b1⟩
  go_wp2_with fail
  go_ret
  exact ⟨rfl, b1⟩
theorem ready_nil (i : Int) (w : World) :
    Calls Try.prog 74 #[.pointer none, .int .i64 i] w fun e w' => e = .returned (.int .i64 2) ∧ w = w' := by
  go_enter Try.func74, Try.ntmps74
  go_wp2_with fail
  go_ret
  exact ⟨rfl, rfl⟩
theorem cut_nil (i : Int) (w : World) :
    Calls Try.prog 30 #[.pointer none, .int .i64 i] w fun e w' => e = .returned (.tuple #[.pointer none, .int .i64 2]) ∧ w = w' := by
  go_enter Try.func30, Try.ntmps30
  go_wp2_with fail
  refine (ready_nil i w).mono ?_
  rintro e w' ⟨rfl, rfl⟩
  go_wp2_with fail
  go_ret2
  exact ⟨rfl, rfl⟩
theorem shrink_nil (i : Int) (w : World) :
    Calls Try.prog 29 #[.pointer none, .int .i64 i] w fun e w' => e = .returned (.tuple #[.pointer none, .int .i64 2]) ∧ w = w' := by
  go_enter Try.func29, Try.ntmps29
  go_wp2_with fail
  refine (ready_nil i w).mono ?_
  rintro e w' ⟨rfl, rfl⟩
  go_wp2_with fail
  go_ret2
  exact ⟨rfl, rfl⟩
theorem besides_id (g : Nat) (w : World) (h : MapAt w g idL idL 0 0) :
    Calls Try.prog 75 #[.pointer (some ⟨g, 0, none⟩), .int .i64 0] w fun e w' => ∃ A c, e = .returned (.slice A 2 c) ∧ Rd w' w'.heap.size A 2 (I64 [0, 0]) ∧ Below w.heap.size w w' := by
  have V0 : Hid (∀ W, Below w.heap.size w W → Calls Try.prog 56 #[.pointer (some ⟨g, 0, none⟩), .int .i64 0] W fun e w' => e = .returned (.int .i64 0) ∧ Below W.heap.size W w') := fun W m => by
    have := vertex_in g idL idL 0 0 0 W (h.below m) (by decide)
    rw [name_id0] at this; exact this
  have V1 : Hid (∀ W, Below w.heap.size w W → Calls Try.prog 56 #[.pointer (some ⟨g, 0, none⟩), .int .i64 1] W fun e w' => e = .returned (.int .i64 1) ∧ Below W.heap.size W w') := fun W m => by
    have := vertex_in g idL idL 0 0 1 W (h.below m) (by decide)
    rw [name_id1] at this; exact this
  have D0 : Hid (∀ W, Below w.heap.size w W → Calls Try.prog 26 #[.pointer (some ⟨g, 0, none⟩), .int .i64 0] W fun e w' => e = .returned (.int .i64 1) ∧ Below W.heap.size W w') := fun W m => by
    have := degree_p g idL idL 0 0 0 W (h.below m)
    rw [deg_id0] at this; exact this
  have D1 : Hid (∀ W, Below w.heap.size w W → Calls Try.prog 26 #[.pointer (some ⟨g, 0, none⟩), .int .i64 1] W fun e w' => e = .returned (.int .i64 1) ∧ Below W.heap.size W w') := fun W m => by
    have := degree_p g idL idL 0 0 1 W (h.below m)
    rw [deg_id1] at this; exact this
  have Z0 := Below.refl w.heap.size w
  clear h
  go_enter Try.func75, Try.ntmps75
  go_wp2_with fail
  refine (V0.out _ Z0).mono ?_
  rintro e w1 ⟨rfl, z⟩
  have Z1 := Z0.trans (z.mono Z0.size)
  clear z
  go_wp2_with fail
  refine (V1.out _ Z1).mono ?_
  rintro e w2 ⟨rfl, z⟩
  have Z2 := Z1.trans (z.mono Z1.size)
  clear z
  go_wp2_with fail
  refine (D0.out _ Z2).mono ?_
  rintro e w3 ⟨rfl, z⟩
  have Z3 := Z2.trans (z.mono Z2.size)
  clear z
  go_wp2_with fail
  refine (D1.out _ Z3).mono ?_
  rintro e w4 ⟨rfl, z⟩
  have Z4 := Lib.hid (Z3.trans (z.mono Z3.size))
  clear z Z0 Z1 Z2 Z3
  go_wp2_with fail
  go_ret
  exact ⟨_, _, rfl, (Rd.new w4 3 #[.int .i64 0, .int .i64 0] 2 _ (by simp [I64]) (by simp)).up (by simp), Z4.out.alloc Z4.out.size _⟩
set_option maxHeartbeats 2000000 in
theorem heir_id (g : Nat) (w : World) (h : MapAt w g idL idL 0 0) :
    Calls Try.prog 102 #[.pointer (some ⟨g, 0, none⟩), .int .i64 0] w fun e w' => e = .returned (.int .i64 (-1)) ∧ Below w.heap.size w w' := by
  have R0 : Hid (∀ W, Below w.heap.size w W → Calls Try.prog 13 #[.pointer (some ⟨g, 0, none⟩)] W fun e w' => e = .returned (.int .i64 0) ∧ W = w') := fun W m => root_p g idL idL 0 0 W (h.below m)
  have K0 : Hid (∀ W, Below w.heap.size w W → Calls Try.prog 64 #[.pointer (some ⟨g, 0, none⟩), .int .i64 0] W fun e w' => e = .returned (.int .i64 0) ∧ Below W.heap.size W w') := fun W m => mback_in g idL idL 0 0 0 W (h.below m) (by decide)
  have E0 : Hid (∀ W, Below w.heap.size w W → Calls Try.prog 21 #[.pointer (some ⟨g, 0, none⟩)] W fun e w' => e = .returned (.int .i64 1) ∧ Below W.heap.size W w') := fun W m => edges_p g idL idL 0 0 W (h.below m)
  have Z0 := Below.refl w.heap.size w
  clear h
  go_enter Try.func102, Try.ntmps102
  go_wp2_with fail
  refine (R0.out _ Z0).mono ?_
  rintro e w' ⟨rfl, rfl⟩
  go_wp2_with fail
  go_loopw [5] (fun d wr => d = .int .i64 0 ∧ Hid (Below w.heap.size w wr)) (fun _ _ => 0)
  case atStart => exact ⟨rfl, Below.refl _ _⟩
  case round =>
    obtain ⟨rfl, HB⟩ := hrel
    clear Z0
    go_wp2_with fail
    refine (isOf_0 0 _ (by omega)).mono ?_
    rintro e w' ⟨rfl, rfl⟩
    go_wp2_with fail
    refine (K0.out _ HB.out).mono ?_
    rintro e w1 ⟨rfl, z⟩
    have Z1 := HB.out.trans (z.mono HB.out.size)
    clear z
    go_wp2_with fail
    refine (R0.out _ Z1).mono ?_
    rintro e w' ⟨rfl, rfl⟩
    go_wp2_with fail
    refine (E0.out _ Z1).mono ?_
    rintro e w2 ⟨rfl, z⟩
    have Z2 := Z1.trans (z.mono Z1.size)
    clear z
    go_wp2_with fail
    go_ret
    exact ⟨rfl, Z2⟩
theorem nil_inv : Inv ([] : List Nat) [] := ⟨rfl, fun i hi => absurd hi (by simp), fun i hi => absurd hi (by simp), fun i hi => absurd hi (by simp), fun i hi => absurd hi (by simp)⟩
set_option maxHeartbeats 4000000 in
theorem without_id (F : Value) (g x : Nat) (w : World) (h : MapAt w g idL idL 0 0) (hx : x ≤ 2) :
    Calls Try.prog 76 #[.pointer (some ⟨g, 0, none⟩), .int .i64 0, F, .int .i64 (x : Int)] w (NewMap w [] [] (-1) (x : Int)) := by
  have DP : Hid (∀ W, Below w.heap.size w W → Calls Try.prog 17 #[.pointer (some ⟨g, 0, none⟩)] W fun e w' => e = .returned (.int .i64 2) ∧ Below W.heap.size W w') := fun W m => darts_p g idL idL 0 0 W (h.below m)
  have LP : Hid (∀ W, Below w.heap.size w W → Calls Try.prog 14 #[.pointer (some ⟨g, 0, none⟩)] W fun e w' => e = .returned (.int .i64 0) ∧ W = w') := fun W m => lone_p g idL idL 0 0 W (h.below m)
  have HP : Hid (∀ W, Below w.heap.size w W → Calls Try.prog 102 #[.pointer (some ⟨g, 0, none⟩), .int .i64 0] W fun e w' => e = .returned (.int .i64 (-1)) ∧ Below W.heap.size W w') := fun W m => heir_id g W (h.below m)
  obtain ⟨i0, hi0, hz0, hz1, hz2⟩ := info_parts info_int
  have hmk := run_make_one (P := Try.prog) 25 3 i0 (.int .i64 0) 8 Try.underlying25 hi0 hz0 hz1 hz2 rfl .i64 .i64 0 (by omega) (by omega)
  have hmk0 : ∀ W : World, (Instr.makeSlice 25 (.int .i64 0) (.int .i64 0)).run Try.prog W = .ok (.slice (some ⟨W.heap.size, 0, none⟩) 0 0) (W.alloc (.cells (List.replicate 0 (Value.int .i64 0)).toArray 3)) := fun W => hmk W
  clear hmk
  have NP : Hid (∀ (g0 : Nat) (W : World), Calls Try.prog 36 #[.slice (some ⟨g0, 0, none⟩) 0 0, .int .i64 (-1), .int .i64 (x : Int)] W (NewMap W [] [] (-1) (x : Int))) := fun g0 W => new_ok _ 0 0 [] [] (-1) (x : Int) W (Rd.nil _ _ _) nil_inv rfl (by omega) (.inl ⟨rfl, rfl⟩) (by omega) (by omega)
  have Z0 := Below.refl w.heap.size w
  clear h
  go_enter Try.func76, Try.ntmps76
  go_wp2_with fail
  refine (DP.out _ Z0).mono ?_
  rintro e w1 ⟨rfl, z⟩
  have Z1 := Z0.trans (z.mono Z0.size)
  clear z Z0
  go_wp2_with fail
  have Z2 := Z1.alloc Z1.size (.cells (List.replicate 0 (Value.int .i64 0)).toArray 3)
  simp only [List.replicate_zero] at Z2
  refine (DP.out _ (by first | exact Z2 | simpa using Z2)).mono ?_
  rintro e w2 ⟨rfl, z⟩
  have Z3 := Lib.hid (Z2.trans (z.mono Z2.size))
  clear z Z1 Z2 hmk0
  go_wp2_with fail
  go_loopw [10, 19] (fun s i wr => ∃ (k : Nat), k ≤ 2 ∧ s = .slice (some ⟨w1.heap.size, 0, none⟩) 0 0 ∧ i = .int .i64 (k : Int) ∧ Hid (Below w.heap.size w wr)) (fun _ i _ => 2 - (intOf i).toNat)
  case atStart => exact ⟨0, by omega, rfl, rfl, Z3.out⟩
  case round =>
    obtain ⟨k, hk, rfl, rfl, HB⟩ := hrel
    clear Z3
    by_cases hlt : k < 2
    · have hdk : decide (k < 2) = true := by rw [decide_eq_true_iff]; exact hlt
      have hdi : decide ((k : Int) < 2) = true := by rw [decide_eq_true_iff]; omega
      have hki : (k : Int) < 2 := by omega
      go_wp2_with fail
      refine (isOf_0 k _ hlt).mono ?_
      rintro e w' ⟨rfl, rfl⟩
      go_wp2_with fail
      go_roundw
      case rel => exact ⟨k + 1, by omega, rfl, by go_num, HB.out⟩
      case measure => simp [intOf]; omega
    · obtain rfl : k = 2 := by omega
      go_wp2_with fail
      refine (HP.out _ HB.out).mono ?_
      rintro e w3 ⟨rfl, z⟩
      have Z4 := HB.out.trans (z.mono HB.out.size)
      clear z
      go_wp2_with fail
      refine (LP.out _ Z4).mono ?_
      rintro e w' ⟨rfl, rfl⟩
      go_wp2_with fail
      refine (NP.out _ _).mono ?_
      rintro e w4 ⟨g4, rfl, hm, b4, hlo⟩
      have HM := Lib.hid hm
      have HLO := Lib.hid (show MapLo w.heap.size w4 g4 from by
        obtain ⟨p, A, n, c, S, k, d, q, A', n', c', S', k', d', rt, ln, hb, h1, h2, h3, h4, h5, h6, h7⟩ := hlo
        have hs := Z4.size
        exact ⟨p, A, n, c, S, k, d, q, A', n', c', S', k', d', rt, ln, hb, by omega, h2.le hs, h3.le hs, h4.le hs, h5.le hs, h6.le hs, h7.le hs⟩)
      have BB := Lib.hid (Z4.trans (b4.mono Z4.size))
      clear hm hlo b4
      go_wp2_with fail
      go_ret2
      exact ⟨g4, rfl, HM.out, BB.out, HLO.out⟩

theorem rd_two {w w' : World} {A : Option Addr} (h : Rd w w.heap.size A 2 (I64 [0, 0])) (m : Below w.heap.size w w') : ∃ b o, A = some ⟨b, o, none⟩ ∧ w'.cell? ⟨b, o, none⟩ = some (.int .i64 0) ∧ w'.cell? ⟨b, o + 1, none⟩ = some (.int .i64 0) := by
  obtain ⟨b, o, rfl, hb, H⟩ := (h.below m).at_ (by omega)
  exact ⟨b, o, rfl, H 0 (by simp [I64]), H 1 (by simp [I64])⟩
set_option maxHeartbeats 4000000 in
theorem cut_id (g : Nat) (w : World) (h : MapAt w g idL idL 0 0) :
    Calls Try.prog 30 #[.pointer (some ⟨g, 0, none⟩), .int .i64 0] w (NewMap w [] [] (-1) 2) := by
  have RP := Lib.hid (ready_in g idL idL 0 0 0 w h (by decide))
  have BP : Hid (∀ W, Below w.heap.size w W → Calls Try.prog 75 #[.pointer (some ⟨g, 0, none⟩), .int .i64 0] W fun e w' => ∃ A c, e = .returned (.slice A 2 c) ∧ Rd w' w'.heap.size A 2 (I64 [0, 0]) ∧ Below W.heap.size W w') := fun W m => besides_id g W (h.below m)
  have WP : Hid (∀ F W, Below w.heap.size w W → Calls Try.prog 76 #[.pointer (some ⟨g, 0, none⟩), .int .i64 0, F, .int .i64 2] W (NewMap W [] [] (-1) 2)) := fun F W m => without_id F g 2 W (h.below m) (by omega)
  have hmf : ∀ (fn : Fn) (first cap : Array Value) (w : World), (Instr.makeFunc fn first cap).run Try.prog w = .ok (.func fn first cap) w := fun _ _ _ _ => rfl
  clear h
  go_enter Try.func30, Try.ntmps30
  go_wp2_with fail
  refine RP.out.mono ?_
  rintro e w1 ⟨rfl, b1⟩
  go_wp2_with fail
  refine (BP.out _ b1).mono ?_
  rintro e w2 ⟨A, c, rfl, hr, b2⟩
  have B2 := Lib.hid (b1.trans (b2.mono b1.size))
  have HR := Lib.hid hr
  clear b1 b2 hr RP BP
  go_wp2_with fail
  go_loopw [7, 20] (fun s i wr => ∃ (k : Nat), k ≤ 2 ∧ s = .int .i64 (k : Int) ∧ i = .int .i64 (k : Int) ∧ wr = w2) (fun _ i _ => 2 - (intOf i).toNat)
  case atStart => exact ⟨0, by omega, rfl, rfl, rfl⟩
  case round =>
    obtain ⟨k, hk, rfl, rfl, rfl⟩ := hrel
    obtain ⟨b, o, rfl, x0, x1⟩ := rd_two HR.out (Below.refl _ _)
    by_cases hlt : k < 2
    · obtain hk2 | hk2 : k = 0 ∨ k = 1 := by omega
      · subst hk2
        go_wp2_with fail
        go_roundw
        case rel => exact ⟨1, by omega, by go_num, by go_num, trivial⟩
        case measure => simp [intOf]
      · subst hk2
        go_wp2_with fail
        go_roundw
        case rel => exact ⟨2, by omega, by go_num, by go_num, trivial⟩
        case measure => simp [intOf]
    · obtain rfl : k = 2 := by omega
      clear hlt hk x0 x1
      go_wp2_with fail
      refine (WP.out _ _ B2.out).mono ?_
      rintro e w3 ⟨g3, rfl, hm, b3, hlo⟩
      have HM := Lib.hid hm
      have HLO := Lib.hid (show MapLo w.heap.size w3 g3 from by
        obtain ⟨p, A, n, c, S, k, d, q, A', n', c', S', k', d', rt, ln, hb, h1, h2, h3, h4, h5, h6, h7⟩ := hlo
        have hs := B2.out.size
        exact ⟨p, A, n, c, S, k, d, q, A', n', c', S', k', d', rt, ln, hb, by omega, h2.le hs, h3.le hs, h4.le hs, h5.le hs, h6.le hs, h7.le hs⟩)
      have BB := Lib.hid (B2.out.trans (b3.mono B2.out.size))
      clear hm hlo b3
      go_wp2_with fail
      go_ret2
      exact ⟨g3, rfl, HM.out, BB.out, HLO.out⟩
set_option maxHeartbeats 4000000 in
theorem shrink_id (g : Nat) (w : World) (h : MapAt w g idL idL 0 0) :
    Calls Try.prog 29 #[.pointer (some ⟨g, 0, none⟩), .int .i64 0] w (NewMap w [] [] (-1) 1) := by
  have RP := Lib.hid (ready_in g idL idL 0 0 0 w h (by decide))
  have BP : Hid (∀ W, Below w.heap.size w W → Calls Try.prog 75 #[.pointer (some ⟨g, 0, none⟩), .int .i64 0] W fun e w' => ∃ A c, e = .returned (.slice A 2 c) ∧ Rd w' w'.heap.size A 2 (I64 [0, 0]) ∧ Below W.heap.size W w') := fun W m => besides_id g W (h.below m)
  have WP : Hid (∀ F W, Below w.heap.size w W → Calls Try.prog 76 #[.pointer (some ⟨g, 0, none⟩), .int .i64 0, F, .int .i64 1] W (NewMap W [] [] (-1) 1)) := fun F W m => without_id F g 1 W (h.below m) (by omega)
  have hmf : ∀ (fn : Fn) (first cap : Array Value) (w : World), (Instr.makeFunc fn first cap).run Try.prog w = .ok (.func fn first cap) w := fun _ _ _ _ => rfl
  clear h
  go_enter Try.func29, Try.ntmps29
  go_wp2_with fail
  refine RP.out.mono ?_
  rintro e w1 ⟨rfl, b1⟩
  go_wp2_with fail
  refine (BP.out _ b1).mono ?_
  rintro e w2 ⟨A, c, rfl, hr, b2⟩
  have B2 := Lib.hid (b1.trans (b2.mono b1.size))
  obtain ⟨b, o, rfl, x0, x1⟩ := rd_two hr (Below.refl _ _)
  clear b1 b2 hr RP BP
  go_wp2_with fail
  go_region
  all_goals (
    have B3 := Lib.hid (below_draws B2.out 1)
    go_wp2_with fail
    refine (WP.out _ _ (by first | exact B2.out.drew | exact B3.out)).mono ?_
    rintro e w3 ⟨g3, rfl, hm, b3, hlo⟩
    have HM := Lib.hid hm
    have hs := B2.out.size
    have HLO := Lib.hid (show MapLo w.heap.size w3 g3 from by
      obtain ⟨p, A, n, c, S, k, d, q, A', n', c', S', k', d', rt, ln, hb, h1, h2, h3, h4, h5, h6, h7⟩ := hlo
      exact ⟨p, A, n, c, S, k, d, q, A', n', c', S', k', d', rt, ln, hb, Nat.le_trans hs h1, h2.le hs, h3.le hs, h4.le hs, h5.le hs, h6.le hs, h7.le hs⟩)
    have BB := Lib.hid (B2.out.drew.trans (b3.mono B2.out.drew.size))
    clear hm hlo b3
    go_wp2_with fail
    go_ret2
    exact ⟨g3, rfl, HM.out, BB.out, HLO.out⟩)
end Go.Proofs.Ythdmkcnclmgdlaa
