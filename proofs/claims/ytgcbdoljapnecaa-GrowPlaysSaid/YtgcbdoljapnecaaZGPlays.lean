/- GrowPlays: the walk. -/
import Derived.Test.YtgcbdoljapnecaaZg15
import Derived.Test.YtgcbdoljapnecaaZg23
import Derived.Test.YtgcbdoljapnecaaZg1
import Derived.Deep.RegionHeld3
namespace Go.Proofs.Ytgcbdoljapnecaa
set_option maxRecDepth 100000
open Go.RowKit
set_option linter.unusedVariables false
set_option maxHeartbeats 8000000 in
theorem growPlays_walk (A : Option Addr) (kd n m c r wy : Nat) (d e : Int) (by_ : List Int) (w : World) (h : Rd w w.heap.size A m (Z8 by_)) (hb : ∀ x ∈ by_, 0 ≤ x ∧ x < 256) (hm : m ≤ c) (hm2 : c ≤ maxLen) (hn : n < 256) (hr : r < 256) (hwy : wy < 256) :
    Calls Try.prog 3 #[.int .u8 (kd : Int), .int .u8 (n : Int), .slice A m c, .int .u8 (r : Int), .int .u8 (wy : Int), .int .i64 d, .int .i64 e] w fun e w' => e = .returned (.bool true) ∧ Below w.heap.size w w' := by
  have AW := Lib.hid (awake23_p w)
  have MD : Hid (∀ W, Below w.heap.size w W → Calls Try.prog 6 #[.int .u8 (kd : Int), .int .u8 (n : Int), .slice A m c, .int .u8 (r : Int)] W (MadeIs (fun _ _ _ => True) W)) := fun W z =>
    made23_any kd n r m c w.heap.size A by_ W (h.below z) hb z.size hn hr (by simp [maxLen] at hm2; omega)
  clear h hb hm hm2 hn hr
  go_enter Try.func3, Try.ntmps3
  go_wp2_with fail
  refine AW.out.mono ?_
  rintro en w1 ⟨rfl, b1⟩
  have B1 := Lib.hid b1
  have MP := Lib.hid (MD.out w1 b1)
  clear b1 AW MD
  go_wp2_with fail
  refine MP.out.mono ?_
  rintro en w2 ⟨g, v, l, b, root, lone, rfl, hmap, hrm, hl, hroot, hlo, -, b2⟩
  obtain ⟨hinv, A2, c2, hla, rfl, hc2, hm2, r2⟩ := hrm
  clear MP hla
  have B2 := B1.out.trans (b2.mono B1.out.size)
  have hal := (Below.refl w2.heap.size w2).alloc (Nat.le_refl _) (.cells #[.slice A2 l.length c2, .int .i64 root, .int .i64 (lone : Int)] 27)
  obtain ⟨gx, hgx⟩ : ∃ gx, gx = w2.heap.size := ⟨_, rfl⟩
  have hX := Blk.new w2 27 #[.slice A2 l.length c2, .int .i64 root, .int .i64 (lone : Int)]
  rw [← hgx] at hX
  have HX := Lib.hid hX
  have HM3 := Lib.hid (hmap.below hal)
  have B3 := Lib.hid (B2.trans (hal.mono B2.size))
  have HR3 := Lib.hid (r2.more hal)
  obtain ⟨N, hN⟩ : ∃ N, N = l.length := ⟨_, rfl⟩
  have HI := Lib.hid (And.intro hinv (And.intro hroot (And.intro hc2 hm2)))
  have hev : l.length % 2 = 0 := hmap.1.1
  rw [← hN] at HX B3 HR3
  rw [← hN] at HM3
  have HN := Lib.hid hN
  have HG := Lib.hid hgx
  have hNb : N ≤ 1000 := by omega
  have HEV := Lib.hid hev
  clear hmap r2 hal B2 B1 b2 hX hinv hroot hc2 hev
  rw [← hN]
  clear hN hgx hl
  obtain ⟨k, hk⟩ : ∃ k, k = wy % 5 := ⟨_, rfl⟩
  have hk5 : k < 5 := by omega
  have k1 : (wy : Int) % 5 = (k : Int) := by omega
  have k1t : (wy : Int).tmod 5 = (k : Int) := by rw [Int.tmod_eq_emod_of_nonneg (by omega)]; exact k1
  have wk : IntKind.i64.wrap (k : Int) = (k : Int) := by simp [IntKind.wrap, IntKind.signed, IntKind.bits]; omega
  have wk8 : IntKind.u8.wrap (k : Int) = (k : Int) := by simp [IntKind.wrap, IntKind.signed, IntKind.bits]; omega
  obtain ⟨X, hXx⟩ : ∃ X, X = growE k l d e := ⟨_, rfl⟩
  obtain ⟨o, ho⟩ : ∃ o, o = (growO k l b d.toNat e.toNat).1 := ⟨_, rfl⟩
  obtain ⟨ob, hob⟩ : ∃ ob, ob = (growO k l b d.toNat e.toNat).2 := ⟨_, rfl⟩
  have HO : Hid (X = 0 → o.length ≤ 3000) := fun h0 => by
    have := (growO_inv HI.out.1 HEV.out hk5 (hXx.symm.trans h0)).2.1
    rw [← ho] at this
    have := HN.out
    omega
  go_upto_region 4 with fail
  rw [← HG.out]
  generalize w2.alloc (.cells #[.slice A2 N c2, .int .i64 root, .int .i64 (lone : Int)] 27) = w3 at *
  have DO : Hid (∀ W, Below w3.heap.size w3 W → Calls Try.prog 7 #[.pointer (some ⟨g, 0, none⟩), .int .i64 (k : Int), .int .i64 d, .int .i64 e] W fun en w' => ∃ p, en = .returned (.tuple #[.pointer p, .int .i64 X]) ∧ Below w3.heap.size w3 w' ∧
      Hid ((X = 0 ∧ ∃ g', p = some ⟨g', 0, none⟩ ∧ MapAt w' g' o ob root (lone : Int)) ∨ (X ≠ 0 ∧ p = none))) := fun W z => by
    refine (do_a k hk5 (HM3.out.below z) HI.out.1 HI.out.2.1 (by rw [← HN.out]; omega)).mono ?_
    rintro en w' ⟨p, x, rfl, q1, q2, q3⟩
    rw [← hXx] at q1
    subst q1
    rw [← ho, ← hob] at q3
    exact ⟨p, rfl, z.trans (q2.mono z.size), q3⟩
  have RD : Hid (∀ W, Below w3.heap.size w3 W → Calls Try.prog 8 #[.agg #[.slice A2 N c2, .int .i64 root, .int .i64 (lone : Int)], .int .i64 (k : Int), .int .i64 d, .int .i64 e] W fun en w' => ∃ A n c, en = .returned (.tuple #[.agg #[.slice A n c, .int .i64 root, .int .i64 (lone : Int)], .int .i64 X]) ∧ Below W.heap.size W w' ∧
      Hid (X = 0 → n = o.length ∧ n ≤ c ∧ c ≤ maxLen ∧ Rd w' w'.heap.size A n (I64 (ofN o)))) := fun W z => by
    have hr := (HR3.out.below z).up z.size
    have := rdo23_a k hk5 A2 c2 l b root (lone : Int) d e W (by rw [← HN.out]; exact hr) HI.out.1 HEV.out (by rw [← HN.out]; omega)
    rw [← HN.out] at this
    refine this.mono ?_
    rintro en w' ⟨A, n, c, rfl, q1, q2⟩
    rw [← hXx, ← ho] at q2
    rw [← hXx]
    exact ⟨A, n, c, rfl, q1, fun h0 => by
      obtain ⟨z1, z2, z3, z4⟩ := q2 h0
      exact ⟨z1, z2, z3, Rd.ofOwn z4⟩⟩
  clear hXx ho hob hk hk5
  have CX : Hid (∀ W, Below w3.heap.size w3 W → W.cell? ⟨gx, 0, none⟩ = some (.slice A2 N c2) ∧ W.cell? ⟨gx, 1, none⟩ = some (.int .i64 root) ∧ W.cell? ⟨gx, 2, none⟩ = some (.int .i64 (lone : Int))) := fun W z => ⟨(HX.out.below z).cell 0, (HX.out.below z).cell 1, (HX.out.below z).cell 2⟩
  go_wp2_with fail
  refine (DO.out _ (Below.refl _ _)).mono ?_
  rintro en w4 ⟨p, rfl, b4, HT⟩
  obtain ⟨x0, x1, x2⟩ := CX.out _ b4
  have RD4 := Lib.hid (RD.out _ b4)
  have Z4 := Lib.hid b4
  clear DO RD b4 k1 k1t
  go_wp2_with fail
  refine RD4.out.mono ?_
  rintro en w5 ⟨A5, n5, c5, rfl, b5, HD⟩
  have Z5 := Lib.hid (Z4.out.trans (b5.mono Z4.out.size))
  have V5 := Lib.hid b5
  have hal5 := Lib.hid ((Below.refl w5.heap.size w5).alloc (Nat.le_refl _) (.cells #[.slice A5 n5 c5, .int .i64 root, .int .i64 (lone : Int)] 27))
  obtain ⟨gy, hgy⟩ : ∃ gy, gy = w5.heap.size := ⟨_, rfl⟩
  have HY := Lib.hid (Blk.new w5 27 #[.slice A5 n5 c5, .int .i64 root, .int .i64 (lone : Int)])
  rw [← hgy] at HY
  have HGY := Lib.hid hgy
  clear b5 RD4 x0 x1 x2 hgy
  go_upto_region 7 with fail
  rw [← HGY.out]
  generalize hw6 : w5.alloc (.cells #[.slice A5 n5 c5, .int .i64 root, .int .i64 (lone : Int)] 27) = w6 at *
  clear hw6
  have Z6 := Lib.hid (Z5.out.trans (hal5.out.mono Z5.out.size))
  have hz6 := Z6.out.size
  have LP : Hid (∀ W, Below w6.heap.size w6 W → Calls Try.prog 10 #[.pointer (some ⟨g, 0, none⟩)] W fun en w' => ∃ A9 c9, en = .returned (.slice A9 N c9) ∧ Hid (Rd w' w'.heap.size A9 N (I64 (ofN l))) ∧ Below w6.heap.size w6 w') := fun W z => by
    refine (mlist_p g l b root lone W (HM3.out.below (Z6.out.trans (z.mono hz6)))).mono ?_
    rintro en w' ⟨A9, c9, rfl, h1, h2, h3, h4⟩
    have hNl := HN.out
    rw [ofN_len, ← hNl] at h3 ⊢
    exact ⟨A9, c9, rfl, Rd.ofOwn h3, z.trans (h4.mono z.size)⟩
  have EP : Hid (∀ W A9 c9, Below w6.heap.size w6 W → Rd W W.heap.size A9 N (I64 (ofN l)) → Calls Try.prog 9 #[.slice A9 N c9, .slice A2 N c2] W fun en w' => en = .returned (.bool true) ∧ Below w6.heap.size w6 w') := fun W A9 c9 z hA => by
    have hr := HR3.out.below (Z6.out.trans (z.mono hz6))
    have hNl := HN.out
    refine (equalI_any A9 A2 N c9 N c2 _ _ (ofN l) (ofN l) W hA hr (by omega) (by omega)).mono ?_
    rintro en w' ⟨q1, q, q2⟩
    exact ⟨by rw [q1, decide_eq_true rfl], by rw [q2]; exact below_draws z q⟩
  have KH : Hid (∀ W, Below w6.heap.size w6 W → Below w6.heap.size w6 W ∧ W.cell? ⟨gx, 0, none⟩ = some (.slice A2 N c2)) := fun W z => ⟨z, (CX.out W (Z6.out.trans (z.mono hz6))).1⟩
  have a0 := Below.refl w6.heap.size w6
  have a1 := a0.drew
  obtain ⟨-, y0⟩ := KH.out _ a0
  obtain ⟨-, v0⟩ := KH.out _ a1
  have xx : ((X : Int) != X) = false := by simp
  go_cut [61] from 51 to 62 (fun v wx => v = .bool false ∧ Below w6.heap.size w6 wx)
  case first =>
    go_region_held3 (fun W => Below w6.heap.size w6 W ∧ W.cell? ⟨gx, 0, none⟩ = some (.slice A2 N c2)) (exact KH.out _ (by assumption)) (first
      | (go_at_call 10; (with_reducible refine (LP.out _ (by assumption)).mono ?_); rintro en wl ⟨A9, c9, rfl, HA, hbl⟩)
      | (go_at_call 9; (with_reducible refine (EP.out _ _ _ (by assumption) HA.out).mono ?_); rintro en wq ⟨rfl, hbq⟩))
    all_goals (go_wp2_with fail)
    all_goals (go_meet)
    all_goals (exact ⟨rfl, by assumption⟩)
  case rest =>
    obtain ⟨rfl, bc⟩ := hcut
    have ZC := Lib.hid (Z6.out.trans (bc.mono hz6))
    have HB := Lib.hid (B3.out.trans (ZC.out.mono B3.out.size))
    have BC := Lib.hid bc
    clear LP EP KH a0 a1 y0 v0 xx bc
    by_cases h0 : X = 0
    · subst h0
      rcases HT.out with ⟨-, g', rfl, hm4⟩ | ⟨q, -⟩
      · obtain ⟨d1, d2, d3, d4⟩ := HD.out rfl
        have hob := HO.out rfl
        subst d1
        have hM6 := Lib.hid ((hm4.below V5.out).below hal5.out)
        have R6 := Lib.hid (d4.more hal5.out)
        have hd3 : c5 ≤ 9223372036854775807 := by unfold maxLen at d3; omega
        have LO : Hid (∀ W, Below wc.heap.size wc W → Calls Try.prog 10 #[.pointer (some ⟨g', 0, none⟩)] W fun en w' => ∃ A9 c9, en = .returned (.slice A9 o.length c9) ∧ Hid (Rd w' w'.heap.size A9 o.length (I64 (ofN o))) ∧ Below wc.heap.size wc w') := fun W z => by
          refine (mlist_p g' o ob root lone W (hM6.out.below (BC.out.trans (z.mono BC.out.size)))).mono ?_
          rintro en w' ⟨A9, c9, rfl, h1, h2, h3, h4⟩
          rw [ofN_len] at h3 ⊢
          exact ⟨A9, c9, rfl, Rd.ofOwn h3, z.trans (h4.mono z.size)⟩
        have EO : Hid (∀ W A9 c9, Below wc.heap.size wc W → Rd W W.heap.size A9 o.length (I64 (ofN o)) → Calls Try.prog 9 #[.slice A9 o.length c9, .slice A5 o.length c5] W fun en w' => en = .returned (.bool true) ∧ Below wc.heap.size wc w') := fun W A9 c9 z hA => by
          have hr := R6.out.below (BC.out.trans (z.mono BC.out.size))
          refine (equalI_any A9 A5 o.length c9 o.length c5 _ _ (ofN o) (ofN o) W hA hr (by omega) (by omega)).mono ?_
          rintro en w' ⟨q1, q, q2⟩
          exact ⟨by rw [q1, decide_eq_true rfl], by rw [q2]; exact below_draws z q⟩
        have RO : Hid (∀ W, Below wc.heap.size wc W → Calls Try.prog 11 #[.pointer (some ⟨g', 0, none⟩)] W fun en w' => en = .returned (.int .i64 root) ∧ Below wc.heap.size wc w') := fun W z =>
          (root_p g' o ob root lone W (hM6.out.below (BC.out.trans (z.mono BC.out.size)))).mono fun en w' ⟨q1, q2⟩ => ⟨q1, by rw [← q2]; exact z⟩
        have NO : Hid (∀ W, Below wc.heap.size wc W → Calls Try.prog 12 #[.pointer (some ⟨g', 0, none⟩)] W fun en w' => en = .returned (.int .i64 (lone : Int)) ∧ Below wc.heap.size wc w') := fun W z =>
          (lone_p g' o ob root lone W (hM6.out.below (BC.out.trans (z.mono BC.out.size)))).mono fun en w' ⟨q1, q2⟩ => ⟨q1, by rw [← q2]; exact z⟩
        have KC : Hid (∀ W, Below wc.heap.size wc W → Below wc.heap.size wc W ∧ W.cell? ⟨gx, 1, none⟩ = some (.int .i64 root) ∧ W.cell? ⟨gx, 2, none⟩ = some (.int .i64 (lone : Int)) ∧ W.cell? ⟨gy, 0, none⟩ = some (.slice A5 o.length c5)) := fun W z => by
          obtain ⟨-, u1, u2⟩ := CX.out W (ZC.out.trans (z.mono ZC.out.size))
          exact ⟨z, u1, u2, (HY.out.below (BC.out.trans (z.mono BC.out.size))).cell 0⟩
        have BB : Hid (∀ W, Below wc.heap.size wc W → Below w.heap.size w W) := fun W z => HB.out.trans (z.mono HB.out.size)
        have a0 := Below.refl wc.heap.size wc
        have a1 := a0.drew
        obtain ⟨-, y0, y1, y2⟩ := KC.out _ a0
        obtain ⟨-, v0, v1, v2⟩ := KC.out _ a1
        clear hm4 d2 d3 d4 HD HT HO
        go_upto_region 11 with fail
        go_region_held3 (fun W => Below wc.heap.size wc W ∧ W.cell? ⟨gx, 1, none⟩ = some (.int .i64 root) ∧ W.cell? ⟨gx, 2, none⟩ = some (.int .i64 (lone : Int)) ∧ W.cell? ⟨gy, 0, none⟩ = some (.slice A5 o.length c5)) (exact KC.out _ (by assumption)) (first
          | (go_at_call 10; (with_reducible refine (LO.out _ (by assumption)).mono ?_); rintro en wl ⟨A9, c9, rfl, HA, hbl⟩)
          | (go_at_call 9; (with_reducible refine (EO.out _ _ _ (by assumption) HA.out).mono ?_); rintro en wq ⟨rfl, hbq⟩)
          | (go_at_call 11; (with_reducible refine (RO.out _ (by assumption)).mono ?_); rintro en wr1 ⟨rfl, hbr⟩)
          | (go_at_call 12; (with_reducible refine (NO.out _ (by assumption)).mono ?_); rintro en wn ⟨rfl, hbn⟩))
        all_goals (go_wp2_with fail)
        all_goals (go_ret)
        all_goals (exact ⟨rfl, BB.out _ (by assumption)⟩)
      · exact absurd rfl q
    · have h0I : ¬ (X : Int) = 0 := h0
      have h0b : ((X : Int) != 0) = true := by rw [bne_iff_ne]; exact h0
      have h0d : decide (X = 0) = false := decide_eq_false h0
      obtain rfl : p = none := by
        rcases HT.out with ⟨q, -⟩ | ⟨-, q⟩
        · exact absurd q h0
        · exact q
      clear h0 HT HD
      go_wp2_with fail
      go_ret
      exact ⟨rfl, HB.out⟩
end Go.Proofs.Ytgcbdoljapnecaa
