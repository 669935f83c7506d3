/- The statements' own first question: the document's example. -/
import Derived.Test.YtgofopkilpihlaaPRef2
namespace Go.Proofs.Ytgofopkilpihlaa
open Go.RowKit
set_option linter.unusedVariables false

def ex : List Nat := [2, 1, 0]
theorem ex_inv : Inv ex ex := by
  refine ⟨rfl, ?_, ?_, ?_, ?_⟩ <;> (intro i hi; match i, hi with
    | 0, _ => decide
    | 1, _ => decide
    | 2, _ => decide)
theorem ex_per0 : per ex 0 = 2 := per_unique (per_is ex_inv (by decide)) ⟨by decide, rfl, fun j h1 h2 => by
  obtain rfl : j = 1 := by omega
  decide⟩
theorem ex_per1 : per ex 1 = 1 := per_unique (per_is ex_inv (by decide)) ⟨by decide, rfl, fun j h1 h2 => by omega⟩
theorem ex_orb0 : orb ex 0 = [0, 2] := by unfold orb; rw [ex_per0]; rfl
theorem ex_orb1 : orb ex 1 = [1] := by unfold orb; rw [ex_per1]; rfl
theorem ex_l0 : Leads ex 0 := fun j hj => by omega
theorem ex_l1 : Leads ex 1 := fun j hj => by
  obtain rfl : j = 0 := by omega
  rw [ex_orb0]; decide
theorem ex_l2 : ¬ Leads ex 2 := fun h => h 0 (by omega) (by rw [ex_orb0]; decide)
theorem ex_leads : leads ex 3 = [0, 1] := by
  rw [leads_next, leads_next, leads_next, if_pos ex_l0, if_pos ex_l1, if_neg ex_l2]
  rfl
theorem ex_orbits : orbits ex = [[0, 2], [1]] := by
  unfold orbits
  rw [show ex.length = 3 from rfl, ex_leads]
  simp [ex_orb0, ex_orb1]
theorem ex_names : names ex = [0, 1, 0] := by
  have h0 : lead ex 0 = 0 := lead_eq ex_inv (by decide) (by decide) ex_l0 (by rw [ex_orb0]; decide)
  have h1 : lead ex 1 = 1 := lead_eq ex_inv (by decide) (by decide) ex_l1 (by rw [ex_orb1]; decide)
  have h2 : lead ex 2 = 0 := lead_eq ex_inv (by decide) (by decide) ex_l0 (by rw [ex_orb0]; decide)
  have k0 : leads ex 0 = [] := rfl
  have k1 : leads ex 1 = [0] := by rw [leads_next, if_pos ex_l0]; rfl
  show (List.range 3).map (nameOf ex) = _
  simp [List.range_succ, nameOf, h0, h1, h2, k0, k1]
theorem ofN_inj {l m : List Nat} (h : ofN l = ofN m) : l = m := by
  refine getD_ext (by rw [← ofN_len l, h, ofN_len]) fun i _ => ?_
  have := congrArg (fun q => q.getD i 0) h
  simp only [ofN_get] at this
  omega

set_option maxHeartbeats 2000000 in
theorem awake_p (w : World) :
    Calls Try.prog 8 #[] w fun e w' => e = .returned (.bool true) ∧ Below w.heap.size w w' := by
  go_enter Try.func8, Try.ntmps8
  go_wp2_with fail
  refine (of_p _ 3 3 (w.heap.size + 1) [2, 1, 0] _ (Rd.new _ _ _ _ _ (by simp [I64]) (by simp)) (by omega)).mono ?_
  rintro e w1 ⟨⟨g, l, b, hl, rfl, hp, _⟩ | ⟨hno, _⟩, hb1⟩
  · obtain rfl : l = ex := (ofN_inj (show ofN ex = ofN l from hl)).symm
    have hb1' : Below w.heap.size w w1 := ((Below.refl _ _).alloc (Nat.le_refl _) _).trans (hb1.mono (by simp))
    have EO := Lib.hid ex_orbits
    have EN := Lib.hid ex_names
    clear hl
    go_wp2_with fail
    refine (orbits_p g ex b _ hp).mono ?_
    rintro e w2 ⟨Ao, co, vs, rfl, hco, hov, hrows, hb2⟩
    rw [EO.out] at hco hov hrows ⊢
    obtain ⟨go, rfl, hgo, hgo'⟩ := own_some hov (by simp)
    obtain ⟨A0, c0, v0, hc0, o0⟩ := hrows.2 0 (by simp)
    obtain ⟨A1, c1, v1, hc1, o1⟩ := hrows.2 1 (by simp)
    have d0 : w2.cell? ⟨go, 0, none⟩ = some (.slice A0 2 c0) := by rw [hov.cellAt 0 (by simp)]; exact v0
    have d1 : w2.cell? ⟨go, 1, none⟩ = some (.slice A1 1 c1) := by rw [hov.cellAt 1 (by simp)]; exact v1
    have q0 : Rd w2 w2.heap.size A0 2 (I64 [0, 2]) := Rd.ofOwn o0
    have q1 : Rd w2 w2.heap.size A1 1 (I64 [1]) := Rd.ofOwn o1
    have hp2 := hp.below hb2
    have hb2' : Below w.heap.size w w2 := hb1'.trans (hb2.mono hb1'.size)
    clear hrows v0 v1 o0 o1 hov hco
    go_wp2_with fail
    have r0 := Rd.new w2 3 #[.int .i64 0, .int .i64 2] 2 (I64 [0, 2]) (by simp [I64]) (by simp)
    refine (equalI_any A0 _ 2 c0 2 2 _ _ [0, 2] [0, 2] _ (q0.alloc _) r0 (by omega) (by omega)).mono ?_
    rintro e w3 ⟨rfl, k3, rfl⟩
    have b3 : Below w2.heap.size w2 ((w2.alloc (.cells #[.int .i64 0, .int .i64 2] 3)).drewN k3) := below_draws ((Below.refl _ _).alloc (Nat.le_refl _) _) k3
    have d1' := (b3.cell (p := ⟨go, 1, none⟩) hgo').trans d1
    have q1' := (q1.below b3)
    have hp3 := hp2.below b3
    have B3 := Lib.hid (hb2'.trans (b3.mono hb2'.size))
    clear d0 d1 q0 q1 b3 hp2
    go_wp2_with fail
    obtain ⟨w3, hw3⟩ : ∃ W, W = (w2.alloc (.cells #[.int .i64 0, .int .i64 2] 3)).drewN k3 := ⟨_, rfl⟩
    rw [← hw3] at d1' q1' hp3 B3
    have hw4 : (((w2.alloc (.cells #[.int .i64 0, .int .i64 2] 3)).alloc (.cells #[.int .i64 1] 3)).drewN k3) = w3.alloc (.cells #[.int .i64 1] 3) := by rw [hw3]; rfl
    have hz3 : w3.heap.size = w2.heap.size + 1 := by rw [hw3]; simp
    have r1 := Rd.new w3 3 #[.int .i64 1] 1 (I64 [1]) (by simp [I64]) (by simp)
    rw [hz3, ← hw4] at r1
    have q1'' := q1'.alloc (.cells #[.int .i64 1] 3)
    have hp4 := hp3.below ((Below.refl _ _).alloc (Nat.le_refl _) (.cells #[.int .i64 1] 3))
    have hB4 := B3.out.trans (((Below.refl _ _).alloc (Nat.le_refl _) (.cells #[.int .i64 1] 3)).mono B3.out.size)
    rw [← hw4] at q1'' hp4 hB4
    have B4 := Lib.hid hB4
    clear hw4 hz3 B3 hp3 q1' d1' hB4 hw3
    refine (equalI_any A1 _ 1 c1 1 1 _ _ [1] [1] _ q1'' r1 (by omega) (by omega)).mono ?_
    rintro e w5 ⟨rfl, k5, rfl⟩
    have hp5 := hp4.drewN k5
    have hB5 := below_draws B4.out k5
    rw [World.drewN_drewN] at hp5 hB5
    have B5 := Lib.hid hB5
    clear hB5
    go_wp2_with fail
    refine (names_p g ex b _ hp5).mono ?_
    rintro e w6 ⟨A6, k6, rfl, hk6, hm6, hown6, hb6⟩
    rw [EN.out] at hown6 hk6 ⊢
    have r6 := (Rd.ofOwn hown6).alloc (.cells #[.int .i64 0, .int .i64 1, .int .i64 0] 3)
    have r7 := Rd.new w6 3 #[.int .i64 0, .int .i64 1, .int .i64 0] 3 (I64 [0, 1, 0]) (by simp [I64]) (by simp)
    have B6 : Hid (Below w.heap.size w (w6.alloc (.cells #[.int .i64 0, .int .i64 1, .int .i64 0] 3))) := (B5.out.trans (hb6.mono B5.out.size)).alloc (Nat.le_trans B5.out.size hb6.size) _
    go_wp2_with fail
    refine (equalI_any A6 _ 3 k6 3 3 _ _ [0, 1, 0] [0, 1, 0] _ r6 r7 (by omega) (by omega)).mono ?_
    rintro e w8 ⟨rfl, k8, rfl⟩
    go_wp2
    go_ret
    exact ⟨rfl, below_draws B6.out k8⟩
  · exact absurd (show Good (ofN ex) from ex_inv.good) hno
end Go.Proofs.Ytgofopkilpihlaa
