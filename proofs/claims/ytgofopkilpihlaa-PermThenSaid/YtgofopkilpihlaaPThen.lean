/- The walk of the statement on one permutation behind the other. -/
import Derived.Test.YtgofopkilpihlaaPRow
namespace Go.Proofs.Ytgofopkilpihlaa
open Go.RowKit
set_option linter.unusedVariables false

/-- An answer of two that is the permutation of a right list. -/
def OfGood (w : World) (l b : List Nat) (e : Ending) (w' : World) : Prop :=
  ∃ g, e = .returned (.tuple #[.pointer (some ⟨g, 0, none⟩), .int .i64 0]) ∧ PermAt w' g l b ∧ Below w.heap.size w w'
theorem of_good (A : Option Addr) (n c B : Nat) (l b : List Nat) (w : World) (h : Rd w B A n (I64 (ofN l))) (hinv : Inv l b) (hn : n ≤ 1000000) :
    Calls Try.prog 10 #[.slice A n c] w (OfGood w l b) := by
  refine (of_p A n c B (ofN l) w h hn).mono fun e w' ⟨hp, hb⟩ => ?_
  rcases hp with ⟨g, l', b', hl, he, hpa, _⟩ | ⟨hno, _⟩
  · obtain rfl : l' = l := (ofN_inj hl).symm
    have hbb : b' = b := hpa.1.unique hinv
    rw [hbb] at hpa
    exact ⟨g, he, hpa, hb⟩
  · exact absurd hinv.good hno
theorem same_yes (g g' : Nat) (l b d : List Nat) (w : World) (h : PermAt w g l b) (k : PermAt w g' l d) :
    Calls Try.prog 28 #[.pointer (some ⟨g, 0, none⟩), .pointer (some ⟨g', 0, none⟩)] w fun e w' => e = .returned (.bool true) ∧ ∃ j, w' = w.drewN j :=
  (same_pp g g' l b l d w h k).mono fun e w' ⟨he, hw⟩ => ⟨by rw [he, decide_eq_true rfl], hw⟩

theorem comp_one {l b : List Nat} (h : Inv l b) : comp l b = oneL l.length := by
  refine getD_ext (by rw [comp_len]; simp [oneL]) fun i hi => ?_
  rw [comp_len] at hi
  rw [comp_get _ _ _ hi, h.lb i hi, oneL_get _ _ hi]
theorem comp_assoc (l r s : List Nat) (hlt : ∀ i, i < l.length → l.getD i 0 < r.length) : comp (comp l r) s = comp l (comp r s) := by
  refine getD_ext (by rw [comp_len, comp_len, comp_len]) fun i hi => ?_
  rw [comp_len, comp_len] at hi
  rw [comp_get _ _ _ (by rw [comp_len]; exact hi), comp_get _ _ _ hi, comp_get _ _ _ hi, comp_get _ _ _ (hlt i hi)]

set_option maxRecDepth 100000 in
set_option maxHeartbeats 8000000 in
theorem permThen_walk (n m n1 n2 n3 c1 c2 c3 : Nat) (A1 A2 A3 : Option Addr) (x1 x2 x3 : List Int) (w : World) (hn : n < 256) (hm : m < 256)
    (h1 : Rd w w.heap.size A1 n1 (Z8 x1)) (h2 : Rd w w.heap.size A2 n2 (Z8 x2)) (h3 : Rd w w.heap.size A3 n3 (Z8 x3))
    (b1 : ∀ x ∈ x1, 0 ≤ x ∧ x < 256) (b2 : ∀ x ∈ x2, 0 ≤ x ∧ x < 256) (b3 : ∀ x ∈ x3, 0 ≤ x ∧ x < 256)
    (l1 : n1 ≤ 9223372036854775807) (l2 : n2 ≤ 9223372036854775807) (l3 : n3 ≤ 9223372036854775807) :
    Calls Try.prog 5 #[.int .u8 (n : Int), .int .u8 (m : Int), .slice A1 n1 c1, .slice A2 n2 c2, .slice A3 n3 c3] w fun e w' => e = .returned (.bool true) ∧ Below w.heap.size w w' := by
  obtain ⟨k, hk⟩ : ∃ k : Nat, (n : Int) % 15 = (k : Int) ∧ k < 15 := ⟨n % 15, by omega, by omega⟩
  obtain ⟨j, hj⟩ : ∃ j : Nat, (m : Int) % 15 = (j : Int) ∧ j < 15 := ⟨m % 15, by omega, by omega⟩
  obtain ⟨hk, hk15⟩ := hk
  obtain ⟨hj, hj15⟩ := hj
  go_enter Try.func5, Try.ntmps5
  go_wp2_with fail
  refine (awake_p _).mono ?_
  rintro e w1 ⟨rfl, hb1⟩
  go_wp2_with fail
  refine (mix_p k n1 c1 _ A1 x1 _ (h1.below hb1) b1 (by omega) l1).mono ?_
  rintro e w2 ⟨l, b, il, hll, D2, k2, rfl, hk2, hm2, hown2, hb2⟩
  have z1 := hb1.size
  have z2 := hb2.size
  have hB2 : Below w.heap.size w w2 := hb1.trans (hb2.mono z1)
  go_wp2_with fail
  refine (mix_p j n2 c2 _ A2 x2 _ (h2.below hB2) b2 (by omega) l2).mono ?_
  rintro e w3 ⟨r, d, ir, hlr, D3, k3, rfl, hk3, hm3, hown3, hb3⟩
  have z3 := hb3.size
  have hB3 : Below w.heap.size w w3 := hB2.trans (hb3.mono hB2.size)
  go_wp2_with fail
  refine (mix_p j n3 c3 _ A3 x3 _ (h3.below hB3) b3 (by omega) l3).mono ?_
  rintro e w4 ⟨s, t, is_, hls, D4, k4, rfl, hk4, hm4, hown4, hb4⟩
  have z4 := hb4.size
  have hB4 : Below w.heap.size w w4 := hB3.trans (hb4.mono hB3.size)
  clear h1 h2 h3 b1 b2 b3 hB2 hB3
  have r2 := (Rd.ofOwn hown2).below hb3
  have r2 := r2.below (hb4.mono z3)
  have r3 := (Rd.ofOwn hown3).below hb4
  have r4 := Rd.ofOwn hown4
  clear hown2 hown3 hown4 hb1 hb2 hb3 hb4
  rw [ofN_len] at r2 r3 r4 hk2 hk3 hk4
  rw [ofN_len l, ofN_len r, ofN_len s]
  obtain rfl := hll
  obtain rfl := hlr
  rw [hls] at r4 hk4 ⊢
  have HLS := Lib.hid hls
  clear hls
  go_wp2_with fail
  refine (of_good D2 _ _ _ l b _ r2 il (by omega)).mono ?_
  rintro e w5 ⟨g1, rfl, hp1, hb5⟩
  have z5 := hb5.size
  have hB5 : Below w.heap.size w w5 := hB4.trans (hb5.mono hB4.size)
  have r2 := (r2.lt).below hb5
  have r3 := (r3.lt).below hb5
  have r4 := (r4.lt).below hb5
  clear hb5 hB4
  go_wp2_with fail
  refine (of_good D3 _ _ _ r d _ r3 ir (by omega)).mono ?_
  rintro e w6 ⟨g2, rfl, hp2, hb6⟩
  have z6 := hb6.size
  have hB6 : Below w.heap.size w w6 := hB5.trans (hb6.mono hB5.size)
  have r2 := (r2.up z5).below hb6
  have r3 := (r3.up z5).below hb6
  have r4 := (r4.up z5).below hb6
  have hp1 := hp1.below hb6
  clear hb6 hB5
  go_wp2_with fail
  refine (of_good D4 _ _ _ s t _ r4 is_ (by omega)).mono ?_
  rintro e w7 ⟨g3, rfl, hp3, hb7⟩
  have z7 := hb7.size
  have hB7 : Below w.heap.size w w7 := hB6.trans (hb7.mono hB6.size)
  have r2 := (r2.up z6).below hb7
  have r3 := (r3.up z6).below hb7
  have hp1 := hp1.below hb7
  have hp2 := hp2.below hb7
  clear hb7 hB6 r4
  go_wp2_with fail
  by_cases hlen : l.length = r.length
  · refine (then_p g1 g2 l b r d _ hp1 hp2 hlen).mono ?_
    rintro e w8 ⟨g4, rfl, hp4, hb8⟩
    have z8 := hb8.size
    have hB8 : Below w.heap.size w w8 := hB7.trans (hb8.mono hB7.size)
    have r2 := (r2.up z7).below hb8
    have r3 := (r3.up z7).below hb8
    have hp1 := hp1.below hb8
    have hp2 := hp2.below hb8
    have hp3 := hp3.below hb8
    clear hb8 hB7
    have hne : ((l.length : Int) != (r.length : Int)) = false := by simp [hlen]
    have HL := Lib.hid hlen
    rw [hlen] at r2
    go_wp2_with fail
    have AT : Hid (∀ q, q < r.length → ∀ d', Calls Try.prog 13 #[.pointer (some ⟨g4, 0, none⟩), .int .i64 (q : Int)] (w8.drewN d') fun e w' => e = .returned (.int .i64 ((r.getD (l.getD q 0) 0 : Nat) : Int)) ∧ w8.drewN d' = w') := fun q hq d' => by
      have := at_in g4 (comp l r) (comp d b) q _ (hp4.drewN d') (by rw [comp_len]; omega)
      rwa [comp_get _ _ _ (by omega)] at this
    clear hne
    rw [hlen] at hk2
    have HLT : Hid (∀ i, i < r.length → l.getD i 0 < r.length) := fun i hi => by have := il.lt i (by omega); omega
    clear hk hlen
    go_loopw [84] (fun i wx => ∃ q dd : Nat, q ≤ r.length ∧ i = .int .i64 (q : Int) ∧ wx = w8.drewN dd) (fun i _ => ((r.length : Int) - intOf i).toNat)
    case atStart => exact ⟨0, 0, by omega, rfl, rfl⟩
    case round =>
      obtain ⟨q, dd, hq, rfl, rfl⟩ := hrel
      by_cases hlt : q < r.length
      · obtain ⟨v1, o1, rfl, hB1, m1⟩ := r2.i64 (by omega)
        obtain ⟨v2, o2, rfl, hB2, m2⟩ := r3.i64 (by omega)
        have t1 := m1 q hlt
        have hxl := HLT.out q hlt
        have t2 := m2 (l.getD q 0) hxl
        have AQ := Lib.hid (AT.out q hlt)
        rw [ofN_get] at t1 t2
        clear m1 m2 hp1 hp2 hp3 hp4 r2 r3 il ir is_ AT HLT
        generalize l.getD q 0 = x at *
        generalize r.getD x 0 = x2 at *
        go_wp2_with fail
        go_quiet ((go_at_call 13; exact (AQ.out _).mono fun e w' h => ⟨h.1, _, h.2.symm⟩))
        go_wp2
        go_roundw
        case rel => exact ⟨q + 1, _, by omega, by go_num, by first | rfl | exact World.drewN_drewN _ _ _⟩
        case measure => simp [intOf]; omega
      · obtain rfl : q = r.length := by omega
        have hq1 := hp1.drewN dd
        have hq2 := hp2.drewN dd
        have hq3 := hp3.drewN dd
        have hq4 := hp4.drewN dd
        have hB := below_draws hB8 dd
        clear hp1 hp2 hp3 hp4 AT HLT r2 r3 hlt hB8
        generalize w8.drewN dd = v at *
        have lb : b.length = l.length := il.len
        have ld : d.length = r.length := ir.len
        have lU : (comp l r).length = l.length := comp_len _ _
        have LLB : Hid (l.length = b.length) := lb.symm
        have LUS : Hid ((comp l r).length = s.length) := by show _ = _; rw [comp_len, HL.out, HLS.out]
        have LLY : Hid (l.length = (comp r s).length) := by show _ = _; rw [comp_len, HL.out]
        have LDB : Hid (d.length = b.length) := by show _ = _; rw [ld, lb, HL.out]
        clear lb ld lU
        have EONE : Hid (comp l b = oneL r.length) := by show _ = _; rw [comp_one il, HL.out]
        have EXZ : Hid (comp (comp l r) s = comp l (comp r s)) := comp_assoc l r s fun i hi => by have := il.lt i hi; have := HL.out; omega
        go_wp2_with fail
        refine (inverse_p g1 l b _ hq1).mono ?_
        rintro e v1 ⟨h_pi, rfl, P_pi, B_pi⟩
        have hq1 := hq1.below B_pi
        have hq2 := hq2.below B_pi
        have hq3 := hq3.below B_pi
        have hq4 := hq4.below B_pi
        have hB := hB.trans (B_pi.mono hB.size)
        clear B_pi
        go_wp2_with fail
        refine (then_p g1 h_pi l b b l _ hq1 P_pi LLB.out).mono ?_
        rintro e v2 ⟨h_one, rfl, P_one, B_one⟩
        have hq1 := hq1.below B_one
        have hq2 := hq2.below B_one
        have hq3 := hq3.below B_one
        have hq4 := hq4.below B_one
        have P_pi := P_pi.below B_one
        have hB := hB.trans (B_one.mono hB.size)
        clear B_one
        go_wp2_with fail
        refine (then_p g4 g3 (comp l r) (comp d b) s t _ hq4 hq3 LUS.out).mono ?_
        rintro e v3 ⟨h_x, rfl, P_x, B_x⟩
        have hq1 := hq1.below B_x
        have hq2 := hq2.below B_x
        have hq3 := hq3.below B_x
        have hq4 := hq4.below B_x
        have P_pi := P_pi.below B_x
        have P_one := P_one.below B_x
        have hB := hB.trans (B_x.mono hB.size)
        clear B_x
        go_wp2_with fail
        refine (then_p g2 g3 r d s t _ hq2 hq3 HLS.out.symm).mono ?_
        rintro e v4 ⟨h_y, rfl, P_y, B_y⟩
        have hq1 := hq1.below B_y
        have hq2 := hq2.below B_y
        have hq3 := hq3.below B_y
        have hq4 := hq4.below B_y
        have P_pi := P_pi.below B_y
        have P_one := P_one.below B_y
        have P_x := P_x.below B_y
        have hB := hB.trans (B_y.mono hB.size)
        clear B_y
        go_wp2_with fail
        refine (then_p g1 h_y l b (comp r s) (comp t d) _ hq1 P_y LLY.out).mono ?_
        rintro e v5 ⟨h_z, rfl, P_z, B_z⟩
        have hq1 := hq1.below B_z
        have hq2 := hq2.below B_z
        have hq3 := hq3.below B_z
        have hq4 := hq4.below B_z
        have P_pi := P_pi.below B_z
        have P_one := P_one.below B_z
        have P_x := P_x.below B_z
        have P_y := P_y.below B_z
        have hB := hB.trans (B_z.mono hB.size)
        clear B_z
        go_wp2_with fail
        refine (inverse_p g2 r d _ hq2).mono ?_
        rintro e v6 ⟨h_qi, rfl, P_qi, B_qi⟩
        have hq1 := hq1.below B_qi
        have hq2 := hq2.below B_qi
        have hq3 := hq3.below B_qi
        have hq4 := hq4.below B_qi
        have P_pi := P_pi.below B_qi
        have P_one := P_one.below B_qi
        have P_x := P_x.below B_qi
        have P_y := P_y.below B_qi
        have P_z := P_z.below B_qi
        have hB := hB.trans (B_qi.mono hB.size)
        clear B_qi
        go_wp2_with fail
        refine (inverse_p g1 l b _ hq1).mono ?_
        rintro e v7 ⟨h_pj, rfl, P_pj, B_pj⟩
        have hq1 := hq1.below B_pj
        have hq2 := hq2.below B_pj
        have hq3 := hq3.below B_pj
        have hq4 := hq4.below B_pj
        have P_pi := P_pi.below B_pj
        have P_one := P_one.below B_pj
        have P_x := P_x.below B_pj
        have P_y := P_y.below B_pj
        have P_z := P_z.below B_pj
        have P_qi := P_qi.below B_pj
        have hB := hB.trans (B_pj.mono hB.size)
        clear B_pj
        go_wp2_with fail
        refine (then_p h_qi h_pj d r b l _ P_qi P_pj LDB.out).mono ?_
        rintro e v8 ⟨h_i, rfl, P_i, B_i⟩
        have hq1 := hq1.below B_i
        have hq2 := hq2.below B_i
        have hq3 := hq3.below B_i
        have hq4 := hq4.below B_i
        have P_pi := P_pi.below B_i
        have P_one := P_one.below B_i
        have P_x := P_x.below B_i
        have P_y := P_y.below B_i
        have P_z := P_z.below B_i
        have P_qi := P_qi.below B_i
        have P_pj := P_pj.below B_i
        have hB := hB.trans (B_i.mono hB.size)
        clear B_i
        go_wp2_with fail
        refine (one_p (r.length : Int) _ (by omega) (by omega)).mono ?_
        rintro e v9 ⟨h_o1, rfl, P_o1, B_o1⟩
        have hq1 := hq1.below B_o1
        have hq2 := hq2.below B_o1
        have hq3 := hq3.below B_o1
        have hq4 := hq4.below B_o1
        have P_pi := P_pi.below B_o1
        have P_one := P_one.below B_o1
        have P_x := P_x.below B_o1
        have P_y := P_y.below B_o1
        have P_z := P_z.below B_o1
        have P_qi := P_qi.below B_o1
        have P_pj := P_pj.below B_o1
        have P_i := P_i.below B_o1
        have hB := hB.trans (B_o1.mono hB.size)
        clear B_o1
        rw [Int.toNat_natCast] at P_o1
        go_wp2_with fail
        rw [EONE.out] at P_one
        refine (same_yes h_one h_o1 _ _ _ _ P_one P_o1).mono ?_
        rintro e v10 ⟨rfl, dd10, rfl⟩
        have hq1 := hq1.drewN dd10
        have hq2 := hq2.drewN dd10
        have hq3 := hq3.drewN dd10
        have hq4 := hq4.drewN dd10
        have P_pi := P_pi.drewN dd10
        have P_one := P_one.drewN dd10
        have P_x := P_x.drewN dd10
        have P_y := P_y.drewN dd10
        have P_z := P_z.drewN dd10
        have P_qi := P_qi.drewN dd10
        have P_pj := P_pj.drewN dd10
        have P_i := P_i.drewN dd10
        have P_o1 := P_o1.drewN dd10
        have hB := below_draws hB dd10
        generalize hv10 : World.drewN _ dd10 = y10 at *
        clear hv10
        go_wp2_with fail
        rw [EXZ.out] at P_x
        refine (same_yes h_x h_z _ _ _ _ P_x P_z).mono ?_
        rintro e v11 ⟨rfl, dd11, rfl⟩
        have hq1 := hq1.drewN dd11
        have hq2 := hq2.drewN dd11
        have hq3 := hq3.drewN dd11
        have hq4 := hq4.drewN dd11
        have P_pi := P_pi.drewN dd11
        have P_one := P_one.drewN dd11
        have P_x := P_x.drewN dd11
        have P_y := P_y.drewN dd11
        have P_z := P_z.drewN dd11
        have P_qi := P_qi.drewN dd11
        have P_pj := P_pj.drewN dd11
        have P_i := P_i.drewN dd11
        have P_o1 := P_o1.drewN dd11
        have hB := below_draws hB dd11
        generalize hv11 : World.drewN _ dd11 = y11 at *
        clear hv11
        go_wp2_with fail
        refine (inverse_p g4 (comp l r) (comp d b) _ hq4).mono ?_
        rintro e v12 ⟨h_ui, rfl, P_ui, B_ui⟩
        have hq1 := hq1.below B_ui
        have hq2 := hq2.below B_ui
        have hq3 := hq3.below B_ui
        have hq4 := hq4.below B_ui
        have P_pi := P_pi.below B_ui
        have P_one := P_one.below B_ui
        have P_x := P_x.below B_ui
        have P_y := P_y.below B_ui
        have P_z := P_z.below B_ui
        have P_qi := P_qi.below B_ui
        have P_pj := P_pj.below B_ui
        have P_i := P_i.below B_ui
        have P_o1 := P_o1.below B_ui
        have hB := hB.trans (B_ui.mono hB.size)
        clear B_ui
        go_wp2_with fail
        refine (same_yes h_ui h_i _ _ _ _ P_ui P_i).mono ?_
        rintro e v13 ⟨rfl, dd13, rfl⟩
        have hq1 := hq1.drewN dd13
        have hq2 := hq2.drewN dd13
        have hq3 := hq3.drewN dd13
        have hq4 := hq4.drewN dd13
        have P_pi := P_pi.drewN dd13
        have P_one := P_one.drewN dd13
        have P_x := P_x.drewN dd13
        have P_y := P_y.drewN dd13
        have P_z := P_z.drewN dd13
        have P_qi := P_qi.drewN dd13
        have P_pj := P_pj.drewN dd13
        have P_i := P_i.drewN dd13
        have P_o1 := P_o1.drewN dd13
        have P_ui := P_ui.drewN dd13
        have hB := below_draws hB dd13
        generalize hv13 : World.drewN _ dd13 = y13 at *
        clear hv13
        go_wp2_with fail
        refine (inverse_p g4 (comp l r) (comp d b) _ hq4).mono ?_
        rintro e v14 ⟨h_uj, rfl, P_uj, B_uj⟩
        have hq1 := hq1.below B_uj
        have hq2 := hq2.below B_uj
        have hq3 := hq3.below B_uj
        have hq4 := hq4.below B_uj
        have P_pi := P_pi.below B_uj
        have P_one := P_one.below B_uj
        have P_x := P_x.below B_uj
        have P_y := P_y.below B_uj
        have P_z := P_z.below B_uj
        have P_qi := P_qi.below B_uj
        have P_pj := P_pj.below B_uj
        have P_i := P_i.below B_uj
        have P_o1 := P_o1.below B_uj
        have P_ui := P_ui.below B_uj
        have hB := hB.trans (B_uj.mono hB.size)
        clear B_uj
        go_wp2_with fail
        refine (inverse_p h_uj (comp d b) (comp l r) _ P_uj).mono ?_
        rintro e v15 ⟨h_uk, rfl, P_uk, B_uk⟩
        have hq1 := hq1.below B_uk
        have hq2 := hq2.below B_uk
        have hq3 := hq3.below B_uk
        have hq4 := hq4.below B_uk
        have P_pi := P_pi.below B_uk
        have P_one := P_one.below B_uk
        have P_x := P_x.below B_uk
        have P_y := P_y.below B_uk
        have P_z := P_z.below B_uk
        have P_qi := P_qi.below B_uk
        have P_pj := P_pj.below B_uk
        have P_i := P_i.below B_uk
        have P_o1 := P_o1.below B_uk
        have P_ui := P_ui.below B_uk
        have P_uj := P_uj.below B_uk
        have hB := hB.trans (B_uk.mono hB.size)
        clear B_uk
        go_wp2_with fail
        refine (same_yes g4 h_uk _ _ _ _ hq4 P_uk).mono ?_
        rintro e v16 ⟨rfl, dd16, rfl⟩
        have hq1 := hq1.drewN dd16
        have hq2 := hq2.drewN dd16
        have hq3 := hq3.drewN dd16
        have hq4 := hq4.drewN dd16
        have P_pi := P_pi.drewN dd16
        have P_one := P_one.drewN dd16
        have P_x := P_x.drewN dd16
        have P_y := P_y.drewN dd16
        have P_z := P_z.drewN dd16
        have P_qi := P_qi.drewN dd16
        have P_pj := P_pj.drewN dd16
        have P_i := P_i.drewN dd16
        have P_o1 := P_o1.drewN dd16
        have P_ui := P_ui.drewN dd16
        have P_uj := P_uj.drewN dd16
        have P_uk := P_uk.drewN dd16
        have hB := below_draws hB dd16
        generalize hv16 : World.drewN _ dd16 = y16 at *
        clear hv16
        go_wp2
        go_ret
        exact ⟨rfl, hB⟩
  · refine (then_range g1 g2 l b r d _ hp1 hp2 hlen).mono ?_
    rintro e w8 ⟨rfl, rfl⟩
    have hne : ((l.length : Int) != (r.length : Int)) = true := by simp; omega
    go_wp2
    go_ret
    exact ⟨rfl, hB7⟩
end Go.Proofs.Ytgofopkilpihlaa
