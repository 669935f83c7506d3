/- GrowNil: the walk. -/
import Derived.Test.YtchefejoembilaaZGStar
import Derived.Test.YtchefejoembilaaZEGenR
namespace Go.Proofs.Ytchefejoembilaa
set_option maxRecDepth 100000
open Go.RowKit
set_option linter.unusedVariables false
theorem met_sizesG {l b : List Nat} (h : Inv l b) : (sizes l).length = metB l := by rw [← met_is h]; simp [sizes, sizesTo]
set_option maxHeartbeats 4000000 in
theorem awake23_p (w : World) : Calls Try.prog 8 #[] w fun e w' => e = .returned (.bool true) ∧ Below w.heap.size w w' := by
  have SP := Lib.hid (seed_p w)
  have li := leaf_inv sd_inv (show 0 < sdL.length by decide)
  have HE : Hid ((leafL sdL 0).length / 2 = 2) := by show _ = _; rw [li.2]; rfl
  have HV : Hid ((sizes (leafL sdL 0)).length = 3) := by show _ = _; rw [met_sizesG li.1]; decide
  clear li
  go_enter Try.func8, Try.ntmps8
  go_wp2_with fail
  refine SP.out.mono ?_
  rintro e w1 ⟨g, rfl, m1, b1⟩
  have LP := Lib.hid (leaf_in g sdL sdL 0 0 0 w1 m1 sd_inv (.inr (by decide)) (by decide) (by decide))
  have B1 := Lib.hid b1
  clear m1 b1
  go_wp2_with fail
  refine LP.out.mono ?_
  rintro e w2 ⟨g2, rfl, m2, b2⟩
  have M2 := Lib.hid m2
  have B2 := Lib.hid (B1.out.trans (b2.mono B1.out.size))
  have EP : Hid (Calls Try.prog 22 #[.pointer (some ⟨g2, 0, none⟩)] w2 fun e w' => e = .returned (.int .i64 2) ∧ Below w2.heap.size w2 w') := by
    have := edges_p g2 _ _ _ _ w2 m2
    rwa [HE.out] at this
  have VP : Hid (∀ W, Below w2.heap.size w2 W → Calls Try.prog 20 #[.pointer (some ⟨g2, 0, none⟩)] W fun e w' => e = .returned (.int .i64 3) ∧ Below W.heap.size W w') := fun W m => by
    have := vertices_p g2 _ _ _ _ W (M2.out.below m)
    rw [HV.out] at this
    exact this
  clear m2 b2
  go_wp2_with fail
  refine EP.out.mono ?_
  rintro e w3 ⟨rfl, b3⟩
  have B3 := Lib.hid b3
  clear b3
  go_wp2_with fail
  refine (VP.out _ B3.out).mono ?_
  rintro e w4 ⟨rfl, b4⟩
  have F := Lib.hid (B2.out.trans ((B3.out.trans (b4.mono B3.out.size)).mono B2.out.size))
  clear b4
  go_wp2_with fail
  go_ret
  exact ⟨rfl, F.out⟩
set_option maxHeartbeats 4000000 in
theorem do_leaf (v : Option Addr) (d e : Int) (w : World) (Q : Option Addr → Int → World → Prop) (h : Calls Try.prog 34 #[.pointer v, .int .i64 d] w fun en w' => ∃ p x, en = .returned (.tuple #[.pointer p, .int .i64 x]) ∧ Q p x w') :
    Calls Try.prog 10 #[.pointer v, .int .i64 0, .int .i64 d, .int .i64 e] w fun en w' => ∃ p x, en = .returned (.tuple #[.pointer p, .int .i64 x]) ∧ Q p x w' := by
  have H := Lib.hid h
  clear h
  go_enter Try.func10, Try.ntmps10
  go_wp2_with fail
  refine H.out.mono ?_
  rintro en w1 ⟨p, x, rfl, q⟩
  have HQ := Lib.hid q
  clear q
  go_wp2_with fail
  go_ret2
  exact ⟨p, x, rfl, HQ.out⟩
set_option maxHeartbeats 4000000 in
theorem do_chord (v : Option Addr) (d e : Int) (w : World) (Q : Option Addr → Int → World → Prop) (h : Calls Try.prog 31 #[.pointer v, .int .i64 d, .int .i64 e] w fun en w' => ∃ p x, en = .returned (.tuple #[.pointer p, .int .i64 x]) ∧ Q p x w') :
    Calls Try.prog 10 #[.pointer v, .int .i64 1, .int .i64 d, .int .i64 e] w fun en w' => ∃ p x, en = .returned (.tuple #[.pointer p, .int .i64 x]) ∧ Q p x w' := by
  have H := Lib.hid h
  clear h
  go_enter Try.func10, Try.ntmps10
  go_wp2_with fail
  refine H.out.mono ?_
  rintro en w1 ⟨p, x, rfl, q⟩
  have HQ := Lib.hid q
  clear q
  go_wp2_with fail
  go_ret2
  exact ⟨p, x, rfl, HQ.out⟩
set_option maxHeartbeats 4000000 in
theorem do_split (v : Option Addr) (d e : Int) (w : World) (Q : Option Addr → Int → World → Prop) (h : Calls Try.prog 39 #[.pointer v, .int .i64 d] w fun en w' => ∃ p x, en = .returned (.tuple #[.pointer p, .int .i64 x]) ∧ Q p x w') :
    Calls Try.prog 10 #[.pointer v, .int .i64 2, .int .i64 d, .int .i64 e] w fun en w' => ∃ p x, en = .returned (.tuple #[.pointer p, .int .i64 x]) ∧ Q p x w' := by
  have H := Lib.hid h
  clear h
  go_enter Try.func10, Try.ntmps10
  go_wp2_with fail
  refine H.out.mono ?_
  rintro en w1 ⟨p, x, rfl, q⟩
  have HQ := Lib.hid q
  clear q
  go_wp2_with fail
  go_ret2
  exact ⟨p, x, rfl, HQ.out⟩
set_option maxHeartbeats 4000000 in
theorem do_star (v : Option Addr) (d e : Int) (w : World) (Q : Option Addr → Int → World → Prop) (h : Calls Try.prog 25 #[.pointer v, .int .i64 d] w fun en w' => ∃ p x, en = .returned (.tuple #[.pointer p, .int .i64 x]) ∧ Q p x w') :
    Calls Try.prog 10 #[.pointer v, .int .i64 3, .int .i64 d, .int .i64 e] w fun en w' => ∃ p x, en = .returned (.tuple #[.pointer p, .int .i64 x]) ∧ Q p x w' := by
  have H := Lib.hid h
  clear h
  go_enter Try.func10, Try.ntmps10
  go_wp2_with fail
  refine H.out.mono ?_
  rintro en w1 ⟨p, x, rfl, q⟩
  have HQ := Lib.hid q
  clear q
  go_wp2_with fail
  go_ret2
  exact ⟨p, x, rfl, HQ.out⟩
set_option maxHeartbeats 4000000 in
theorem do_flip (v : Option Addr) (d e : Int) (w : World) (Q : Option Addr → Int → World → Prop) (h : Calls Try.prog 28 #[.pointer v, .int .i64 d] w fun en w' => ∃ p x, en = .returned (.tuple #[.pointer p, .int .i64 x]) ∧ Q p x w') :
    Calls Try.prog 10 #[.pointer v, .int .i64 4, .int .i64 d, .int .i64 e] w fun en w' => ∃ p x, en = .returned (.tuple #[.pointer p, .int .i64 x]) ∧ Q p x w' := by
  have H := Lib.hid h
  clear h
  go_enter Try.func10, Try.ntmps10
  go_wp2_with fail
  refine H.out.mono ?_
  rintro en w1 ⟨p, x, rfl, q⟩
  have HQ := Lib.hid q
  clear q
  go_wp2_with fail
  go_ret2
  exact ⟨p, x, rfl, HQ.out⟩
theorem do_seed (g k : Nat) (d : Int) (w : World) (h : MapAt w g sdL sdL 0 0) (hk : k < 5) :
    Calls Try.prog 10 #[.pointer (some ⟨g, 0, none⟩), .int .i64 (k : Int), .int .i64 d, .int .i64 0] w fun en w' => ∃ p x, en = .returned (.tuple #[.pointer p, .int .i64 x]) ∧ ((x = 1 ↔ (d < 0 ∨ 1 < d)) ∧ Below w.heap.size w w') := by
  have hl : sdL.length = 2 := rfl
  have hr : RootOk 0 sdL.length := .inr (by decide)
  have hn : sdL.length ≤ 30000 := by decide
  have hn6 : sdL.length ≤ 60000 := by decide
  by_cases o : d < 0 ∨ 1 < d
  · have o2 : d < 0 ∨ (sdL.length : Int) ≤ d := by rw [hl]; omega
    have fin : ∀ (en : Ending) (w' : World), (en = .returned (.tuple #[.pointer none, .int .i64 1]) ∧ Below w.heap.size w w') → ∃ p x, en = .returned (.tuple #[.pointer p, .int .i64 x]) ∧ ((x = 1 ↔ (d < 0 ∨ 1 < d)) ∧ Below w.heap.size w w') := fun en w' ⟨q1, q2⟩ => ⟨none, 1, q1, ⟨fun _ => o, fun _ => rfl⟩, q2⟩
    have hk5 : k = 0 ∨ k = 1 ∨ k = 2 ∨ k = 3 ∨ k = 4 := by omega
    rcases hk5 with rfl | rfl | rfl | rfl | rfl
    · exact do_leaf _ _ _ _ _ ((leaf_out g sdL sdL 0 0 d w h o2).mono fun en w' q => fin en w' q)
    · exact do_chord _ _ _ _ _ ((chord_out g sdL sdL 0 0 d 0 w h (.inl o2)).mono fun en w' q => fin en w' q)
    · exact do_split _ _ _ _ _ ((split_out g sdL sdL 0 0 d w h o2).mono fun en w' q => fin en w' q)
    · exact do_star _ _ _ _ _ ((star_out g sdL sdL 0 0 d w h o2).mono fun en w' q => fin en w' q)
    · exact do_flip _ _ _ _ _ ((flip_out g sdL sdL 0 0 d w h o2).mono fun en w' q => fin en w' q)
  · obtain ⟨dn, rfl⟩ : ∃ dn : Nat, d = (dn : Int) := ⟨d.toNat, by omega⟩
    have hd : dn < sdL.length := by rw [hl]; omega
    have fin : ∀ (en : Ending) (w' : World), (∀ x : Int, x = 0 ∨ x = 8 → (∃ p, en = .returned (.tuple #[.pointer p, .int .i64 x])) → Below w.heap.size w w' → ∃ p x, en = .returned (.tuple #[.pointer p, .int .i64 x]) ∧ ((x = 1 ↔ ((dn : Int) < 0 ∨ 1 < (dn : Int))) ∧ Below w.heap.size w w')) := fun en w' x hx ⟨p, q1⟩ q2 => ⟨p, x, q1, ⟨fun c => by omega, fun c => absurd c o⟩, q2⟩
    have hk5 : k = 0 ∨ k = 1 ∨ k = 2 ∨ k = 3 ∨ k = 4 := by omega
    rcases hk5 with rfl | rfl | rfl | rfl | rfl
    · exact do_leaf _ _ _ _ _ ((leaf_in g sdL sdL 0 0 dn w h sd_inv hr hd hn6).mono fun en w' ⟨g', q1, q2, q3⟩ => fin en w' 0 (.inl rfl) ⟨_, q1⟩ q3)
    · by_cases c : nameOf (phiL sdL) (sdL.getD dn 0) = nameOf (phiL sdL) (sdL.getD 0 0)
      · exact do_chord _ _ _ _ _ ((chord_in g sdL sdL 0 0 dn 0 w h sd_inv hr hd (by decide) hn6 c).mono fun en w' ⟨g', q1, q2, q3⟩ => fin en w' 0 (.inl rfl) ⟨_, q1⟩ q3)
      · exact do_chord _ _ _ _ _ ((chord_two g sdL sdL 0 0 dn 0 w h sd_inv hr hd (by decide) hn6 c).mono fun en w' ⟨q1, q3⟩ => fin en w' 8 (.inr rfl) ⟨_, q1⟩ q3)
    · exact do_split _ _ _ _ _ ((split_in g sdL sdL 0 0 dn w h sd_inv hr hd hn6).mono fun en w' ⟨g', q1, q2, q3⟩ => fin en w' 0 (.inl rfl) ⟨_, q1⟩ q3)
    · exact do_star _ _ _ _ _ ((star_in g sdL sdL 0 0 dn w h sd_inv hr hd hn).mono fun en w' ⟨g', q1, q2, q3⟩ => fin en w' 0 (.inl rfl) ⟨_, q1⟩ q3)
    · by_cases c : Flips sdL dn
      · exact do_flip _ _ _ _ _ ((flip_in g sdL sdL 0 0 dn w h sd_inv hr hd hn6 c).mono fun en w' ⟨g', q1, q2, q3⟩ => fin en w' 0 (.inl rfl) ⟨_, q1⟩ q3)
      · exact do_flip _ _ _ _ _ ((flip_no g sdL sdL 0 0 dn w h hd c).mono fun en w' ⟨q1, q3⟩ => fin en w' 8 (.inr rfl) ⟨_, q1⟩ q3)
theorem do_nil (k : Nat) (w : World) (hk : k < 5) :
    Calls Try.prog 10 #[.pointer none, .int .i64 (k : Int), .int .i64 0, .int .i64 0] w fun en w' => ∃ p x, en = .returned (.tuple #[.pointer p, .int .i64 x]) ∧ (x = 2 ∧ Below w.heap.size w w') := by
  have fin : ∀ (en : Ending) (w' : World), (en = .returned (.tuple #[.pointer none, .int .i64 2]) ∧ Below w.heap.size w w') → ∃ p x, en = .returned (.tuple #[.pointer p, .int .i64 x]) ∧ (x = 2 ∧ Below w.heap.size w w') := fun en w' ⟨q1, q2⟩ => ⟨none, 2, q1, rfl, q2⟩
  have hk5 : k = 0 ∨ k = 1 ∨ k = 2 ∨ k = 3 ∨ k = 4 := by omega
  rcases hk5 with rfl | rfl | rfl | rfl | rfl
  · exact do_leaf _ _ _ _ _ ((leaf_nil 0 w).mono fun en w' q => fin en w' q)
  · exact do_chord _ _ _ _ _ ((chord_nil 0 0 w).mono fun en w' q => fin en w' q)
  · exact do_split _ _ _ _ _ ((split_nil 0 w).mono fun en w' q => fin en w' q)
  · exact do_star _ _ _ _ _ ((star_nil 0 w).mono fun en w' q => fin en w' q)
  · exact do_flip _ _ _ _ _ ((flip_nil 0 w).mono fun en w' q => fin en w' q)
set_option maxHeartbeats 8000000 in
theorem growNil_walk (d : Int) (w : World) :
    Calls Try.prog 6 #[.int .i64 d] w fun e w' => e = .returned (.bool true) ∧ Below w.heap.size w w' := by
  have AW := Lib.hid (awake23_p w)
  go_enter Try.func6, Try.ntmps6
  go_wp2_with fail
  refine AW.out.mono ?_
  rintro e w1 ⟨rfl, b1⟩
  have SP := Lib.hid (seed_p w1)
  have B1 := Lib.hid b1
  clear b1 AW
  go_wp2_with fail
  refine SP.out.mono ?_
  rintro e w2 ⟨g, rfl, m2, b2⟩
  have HM := Lib.hid m2
  have B2 := Lib.hid (B1.out.trans (b2.mono B1.out.size))
  clear m2 b2 SP B1
  have DN : Hid (∀ k W, k < 5 → Calls Try.prog 10 #[.pointer none, .int .i64 ((k : Nat) : Int), .int .i64 0, .int .i64 0] W fun en w' => ∃ p x, en = .returned (.tuple #[.pointer p, .int .i64 x]) ∧ (x = 2 ∧ Below W.heap.size W w')) := fun k W hk => do_nil k W hk
  have DS : Hid (∀ k W, k < 5 → Below w2.heap.size w2 W → Calls Try.prog 10 #[.pointer (some ⟨g, 0, none⟩), .int .i64 ((k : Nat) : Int), .int .i64 d, .int .i64 0] W fun en w' => ∃ p x, en = .returned (.tuple #[.pointer p, .int .i64 x]) ∧ ((x = 1 ↔ (d < 0 ∨ 1 < d)) ∧ Below W.heap.size W w')) := fun k W hk m => do_seed g k d W (HM.out.below m) hk
  have CP : Hid (∀ W, Below w2.heap.size w2 W → Calls Try.prog 31 #[.pointer (some ⟨g, 0, none⟩), .int .i64 0, .int .i64 d] W fun en w' => ∃ p x, en = .returned (.tuple #[.pointer p, .int .i64 x]) ∧ ((x = 1 ↔ (d < 0 ∨ 1 < d)) ∧ Below W.heap.size W w')) := fun W m => by
    have hl : sdL.length = 2 := rfl
    by_cases o : d < 0 ∨ 1 < d
    · exact (chord_out g sdL sdL 0 0 0 d W (HM.out.below m) (.inr (by rw [hl]; omega))).mono fun en w' ⟨q1, q2⟩ => ⟨none, 1, q1, ⟨fun _ => o, fun _ => rfl⟩, q2⟩
    · obtain ⟨dn, rfl⟩ : ∃ dn : Nat, d = (dn : Int) := ⟨d.toNat, by omega⟩
      have hd : dn < sdL.length := by rw [hl]; omega
      by_cases c : nameOf (phiL sdL) (sdL.getD 0 0) = nameOf (phiL sdL) (sdL.getD dn 0)
      · exact (chord_in g sdL sdL 0 0 0 dn W (HM.out.below m) sd_inv (.inr (by decide)) (by decide) hd (by decide) c).mono fun en w' ⟨g', q1, q2, q3⟩ => ⟨_, 0, q1, ⟨fun c => by omega, fun c => absurd c o⟩, q3⟩
      · exact (chord_two g sdL sdL 0 0 0 dn W (HM.out.below m) sd_inv (.inr (by decide)) (by decide) hd (by decide) c).mono fun en w' ⟨q1, q3⟩ => ⟨_, 8, q1, ⟨fun c => by omega, fun c => absurd c o⟩, q3⟩
  have EP : Hid (∀ W, Below w2.heap.size w2 W → Calls Try.prog 22 #[.pointer (some ⟨g, 0, none⟩)] W fun e w' => e = .returned (.int .i64 1) ∧ Below W.heap.size W w') := fun W m => edges_p g _ _ _ _ W (HM.out.below m)
  have VP : Hid (∀ W, Below w2.heap.size w2 W → Calls Try.prog 20 #[.pointer (some ⟨g, 0, none⟩)] W fun e w' => e = .returned (.int .i64 2) ∧ Below W.heap.size W w') := fun W m => by
    have h1 := vertices_p g _ _ _ _ W (HM.out.below m)
    have h2 : (sizes sdL).length = 2 := by rw [met_sizesG sd_inv]; decide
    rw [h2] at h1
    exact h1
  have RP : Hid (∀ W, Below w2.heap.size w2 W → Calls Try.prog 14 #[.pointer (some ⟨g, 0, none⟩)] W fun e w' => e = .returned (.int .i64 0) ∧ W = w') := fun W m => root_p g _ _ _ _ W (HM.out.below m)
  go_wp2_with fail
  go_loopw [14] (fun i wr => ∃ (k : Nat), k ≤ 5 ∧ i = .int .i64 (k : Int) ∧ Hid (Below w2.heap.size w2 wr)) (fun i _ => 5 - (intOf i).toNat)
  case atStart => exact ⟨0, by omega, rfl, Below.refl _ _⟩
  case round =>
    obtain ⟨k, hk, rfl, HB⟩ := hrel
    by_cases hlt : k < 5
    · have hdk : decide (k < 5) = true := decide_eq_true hlt
      have hlti : (k : Int) < 5 := by omega
      have D1 := Lib.hid (DN.out k wr hlt)
      have D2 := Lib.hid (fun W m => DS.out k W hlt m)
      go_wp2_with fail
      refine D1.out.mono ?_
      rintro e w3 ⟨p3, x3, rfl, rfl, b3⟩
      have B3 := Lib.hid (HB.out.trans (b3.mono HB.out.size))
      clear b3
      go_wp2_with fail
      refine (D2.out _ B3.out).mono ?_
      rintro e w4 ⟨p4, x4, rfl, hx, b4⟩
      have B4 := Lib.hid (B3.out.trans (b4.mono B3.out.size))
      have HX := Lib.hid hx
      clear b4 hx
      by_cases o1 : d < 0
      · have hx1 : x4 = 1 := HX.out.2 (.inl o1)
        subst hx1
        have od : decide (d < 0) = true := decide_eq_true o1
        go_wp2_with fail
        go_roundw
        case rel => exact ⟨k + 1, by omega, by go_num, B4⟩
        case measure => simp [intOf]; omega
      · have od : decide (d < 0) = false := decide_eq_false o1
        by_cases o2 : 1 < d
        · have hx1 : x4 = 1 := HX.out.2 (.inr o2)
          subst hx1
          have od2 : decide (1 < d) = true := decide_eq_true o2
          go_wp2_with fail
          go_roundw
          case rel => exact ⟨k + 1, by omega, by go_num, B4⟩
          case measure => simp [intOf]; omega
        · have hx1 : x4 ≠ 1 := fun c => by rcases HX.out.1 c with q | q <;> omega
          have od2 : decide (1 < d) = false := decide_eq_false o2
          have ox : (x4 == 1) = false := by simp [hx1]
          have ox2 : decide (x4 = 1) = false := decide_eq_false hx1
          go_wp2_with fail
          go_roundw
          case rel => exact ⟨k + 1, by omega, by go_num, B4⟩
          case measure => simp [intOf]; omega
    · obtain rfl : k = 5 := by omega
      go_wp2_with fail
      refine (CP.out _ HB.out).mono ?_
      rintro e w3 ⟨p3, x3, rfl, hx, b3⟩
      have B3 := Lib.hid (HB.out.trans (b3.mono HB.out.size))
      have HX := Lib.hid hx
      clear b3 hx
      go_wp2_with fail
      refine (EP.out _ B3.out).mono ?_
      rintro e w4 ⟨rfl, b4⟩
      have B4 := Lib.hid (B3.out.trans (b4.mono B3.out.size))
      clear b4
      go_wp2_with fail
      refine (VP.out _ B4.out).mono ?_
      rintro e w5 ⟨rfl, b5⟩
      have B5 := Lib.hid (B4.out.trans (b5.mono B4.out.size))
      clear b5
      go_wp2_with fail
      refine (RP.out _ B5.out).mono ?_
      rintro e w6 ⟨rfl, rfl⟩
      have F := Lib.hid (B2.out.trans (B5.out.mono B2.out.size))
      by_cases o1 : d < 0
      · have hx1 : x3 = 1 := HX.out.2 (.inl o1)
        subst hx1
        have od : decide (d < 0) = true := decide_eq_true o1
        go_wp2_with fail
        go_ret
        exact ⟨rfl, F.out⟩
      · have od : decide (d < 0) = false := decide_eq_false o1
        by_cases o2 : 1 < d
        · have hx1 : x3 = 1 := HX.out.2 (.inr o2)
          subst hx1
          have od2 : decide (1 < d) = true := decide_eq_true o2
          go_wp2_with fail
          go_ret
          exact ⟨rfl, F.out⟩
        · have hx1 : x3 ≠ 1 := fun c => by rcases HX.out.1 c with q | q <;> omega
          have od2 : decide (1 < d) = false := decide_eq_false o2
          have ox : (x3 == 1) = false := by simp [hx1]
          have ox2 : decide (x3 = 1) = false := decide_eq_false hx1
          go_wp2_with fail
          go_ret
          exact ⟨rfl, F.out⟩
end Go.Proofs.Ytchefejoembilaa
