/- GrowBack: the walk. -/
import Derived.Test.YthdmkcnclmgdlaaZg13
import Derived.Test.YthdmkcnclmgdlaaZg19
import Derived.Test.YthdmkcnclmgdlaaZg1
import Derived.Deep.RegionHeld3
namespace Go.Proofs.Ythdmkcnclmgdlaa
set_option maxRecDepth 100000
open Go.RowKit
set_option linter.unusedVariables false
set_option maxHeartbeats 8000000 in
theorem growBack_walk (A : Option Addr) (kd n m c r wy dd ee : Nat) (by_ : List Int) (w : World) (h : Rd w w.heap.size A m (Z8 by_)) (hb : ∀ x ∈ by_, 0 ≤ x ∧ x < 256) (hm : m ≤ c) (hm2 : c ≤ maxLen) (hn : n < 256) (hr : r < 256) (hwy : wy < 256) (hdd : dd < 256) (hee : ee < 256) :
    Calls Try.prog 6 #[.int .u8 (kd : Int), .int .u8 (n : Int), .slice A m c, .int .u8 (r : Int), .int .u8 (wy : Int), .int .u8 (dd : Int), .int .u8 (ee : Int)] w fun e w' => e = .returned (.bool true) ∧ Below w.heap.size w w' := by
  have AW := Lib.hid (awake23_p w)
  have MD : Hid (∀ W, Below w.heap.size w W → Calls Try.prog 8 #[.int .u8 (kd : Int), .int .u8 (n : Int), .slice A m c, .int .u8 (r : Int)] W (MadeIs (fun _ _ _ => True) W)) := fun W z =>
    made23_any kd n r m c w.heap.size A by_ W (h.below z) hb z.size hn hr (by simp [maxLen] at hm2; omega)
  clear h hb hm hm2 hn hr
  go_enter Try.func6, Try.ntmps6
  go_wp2_with fail
  refine AW.out.mono ?_
  rintro e w1 ⟨rfl, b1⟩
  have B1 := Lib.hid b1
  have MP := Lib.hid (MD.out w1 b1)
  clear b1 AW MD
  go_wp2_with fail
  refine MP.out.mono ?_
  rintro e w2 ⟨g, v, l, b, root, lone, rfl, hmap, hrm, hl, hroot, hlo, -, b2⟩
  obtain ⟨hinv, A2, c2, hla, rfl, hc2, hm2, r2⟩ := hrm
  clear MP hla
  have B2 := B1.out.trans (b2.mono B1.out.size)
  have hal := (Below.refl w2.heap.size w2).alloc (Nat.le_refl _) (.cells #[.slice A2 l.length c2, .int .i64 root, .int .i64 (lone : Int)] 27)
  obtain ⟨gx, hgx⟩ : ∃ gx, gx = w2.heap.size := ⟨_, rfl⟩
  have hX := Blk.new w2 27 #[.slice A2 l.length c2, .int .i64 root, .int .i64 (lone : Int)]
  rw [← hgx] at hX
  have HX := Lib.hid hX
  have HM3 := Lib.hid (hmap.below hal)
  have B3 := Lib.hid (B2.trans (hal.mono B2.size))
  have HR3 := Lib.hid (r2.more hal)
  obtain ⟨N, hN⟩ : ∃ N, N = l.length := ⟨_, rfl⟩
  have HI := Lib.hid (And.intro hinv (And.intro hroot (And.intro hc2 hm2)))
  have hev : l.length % 2 = 0 := hmap.1.1
  rw [← hN] at HX B3 HR3
  rw [← hN] at HM3
  have HN := Lib.hid hN
  have HG := Lib.hid hgx
  clear hmap r2 hal B2 B1 b2 hX hinv hroot hc2
  rw [← hN]
  clear hN hgx
  go_upto_region 4 with fail
  rw [← HG.out]
  generalize w2.alloc (.cells #[.slice A2 N c2, .int .i64 root, .int .i64 (lone : Int)] 27) = w3 at *
  have DP : Hid (∀ W, Below w3.heap.size w3 W → Calls Try.prog 17 #[.pointer (some ⟨g, 0, none⟩)] W fun e w' => e = .returned (.int .i64 (N : Int)) ∧ Below w3.heap.size w3 w') := fun W z => by
    rw [HN.out]; exact (darts_p g l b root lone W (HM3.out.below z)).mono fun e w' ⟨q1, q2⟩ => ⟨q1, z.trans (q2.mono z.size)⟩
  go_wp2_with fail
  refine (DP.out _ (Below.refl _ _)).mono ?_
  rintro e w4 ⟨rfl, b4⟩
  have Z4 := Lib.hid b4
  clear b4
  by_cases h0 : N = 0
  · subst h0
    have HZ := Lib.hid (B3.out.trans (Z4.out.mono B3.out.size))
    have x0 := (HX.out.below Z4.out).cell 0
    simp at x0
    go_wp2_with fail
    go_ret
    exact ⟨rfl, HZ.out⟩
  · have h0b : ((N : Int) == 0) = false := by simp; omega
    have h0d : decide (N = 0) = false := decide_eq_false h0
    have h0I : ¬ (N : Int) = 0 := by omega
    have hNb : N ≤ 1000 := by rw [HN.out]; exact hl
    obtain ⟨rn, rfl, hrn⟩ : ∃ rn : Nat, root = (rn : Int) ∧ rn < N := by
      rcases HI.out.2.1 with ⟨q1, q2⟩ | ⟨q1, q2, q3⟩
      · have := HN.out; omega
      · exact ⟨root.toNat, by omega, by have := HN.out; omega⟩
    obtain ⟨k, hk⟩ : ∃ k, k = wy % 3 := ⟨_, rfl⟩
    obtain ⟨d, hd⟩ : ∃ d, d = dd % N := ⟨_, rfl⟩
    obtain ⟨e, he⟩ : ∃ e, e = ee % N := ⟨_, rfl⟩
    have hk3 : k < 3 := by omega
    have hdN : d < N := by rw [hd]; exact Nat.mod_lt _ (by omega)
    have heN : e < N := by rw [he]; exact Nat.mod_lt _ (by omega)
    have k1 : (wy : Int) % 3 = (k : Int) := by omega
    have d1 : (dd : Int) % (N : Int) = (d : Int) := by rw [hd]; rfl
    have d1t : (dd : Int).tmod (N : Int) = (d : Int) := by rw [Int.tmod_eq_emod_of_nonneg (by omega)]; exact d1
    have e1 : (ee : Int) % (N : Int) = (e : Int) := by rw [he]; rfl
    have e1t : (ee : Int).tmod (N : Int) = (e : Int) := by rw [Int.tmod_eq_emod_of_nonneg (by omega)]; exact e1
    have wd : IntKind.i64.wrap (d : Int) = (d : Int) := by simp [IntKind.wrap, IntKind.signed, IntKind.bits]; omega
    have we : IntKind.i64.wrap (e : Int) = (e : Int) := by simp [IntKind.wrap, IntKind.signed, IntKind.bits]; omega
    have wk : IntKind.i64.wrap (k : Int) = (k : Int) := by simp [IntKind.wrap, IntKind.signed, IntKind.bits]; omega
    have wdd : IntKind.i64.wrap (dd : Int) = (dd : Int) := by simp [IntKind.wrap, IntKind.signed, IntKind.bits]; omega
    have wee : IntKind.i64.wrap (ee : Int) = (ee : Int) := by simp [IntKind.wrap, IntKind.signed, IntKind.bits]; omega
    have DO : Hid (∀ W, Below w3.heap.size w3 W → Calls Try.prog 9 #[.pointer (some ⟨g, 0, none⟩), .int .i64 (k : Int), .int .i64 (d : Int), .int .i64 (e : Int)] W fun en w' => ∃ p x, en = .returned (.tuple #[.pointer p, .int .i64 x]) ∧ Below w3.heap.size w3 w' ∧
        Hid ((∃ g' o ob, p = some ⟨g', 0, none⟩ ∧ x = 0 ∧ MapAt w' g' o ob (rn : Int) (lone : Int) ∧ GB k l o ob) ∨ (k = 1 ∧ p = none ∧ x = 8))) := fun W z => by
      refine (grow_do k g l b rn lone d e W (HM3.out.below z) HI.out.1 HI.out.2.1 hk3 (by rw [← HN.out]; exact hdN) (by rw [← HN.out]; exact heN) (by rw [← HN.out]; omega)).mono ?_
      rintro en w' (⟨g', o, ob, rfl, q1, q2, q3⟩ | ⟨q0, rfl, q3⟩)
      · exact ⟨_, _, rfl, z.trans (q3.mono z.size), .inl ⟨g', o, ob, rfl, rfl, q1, q2⟩⟩
      · exact ⟨_, _, rfl, z.trans (q3.mono z.size), .inr ⟨q0, rfl, rfl⟩⟩
    have hn0 : ¬ (N : Int) = 0 := h0I
    have HEV := Lib.hid hev
    clear hk hd he hev hl
    go_upto_region 7 with fail
    clear k1
    go_cut [18, 19] from 43 to 58 (fun p4 x4 wx => ∃ p x, p4 = .pointer p ∧ x4 = .int .i64 x ∧ Below w3.heap.size w3 wx ∧ Hid ((∃ g' o ob, p = some ⟨g', 0, none⟩ ∧ x = 0 ∧ MapAt wx g' o ob (rn : Int) (lone : Int) ∧ GB k l o ob) ∨ (k = 1 ∧ p = none ∧ x = 8)))
    case first =>
      have hba0 := Z4.out
      have hba1 := hba0.drew
      go_region_held3 (fun W => Below w3.heap.size w3 W) (assumption) (first
        | (go_at_call 9; (with_reducible refine (DO.out _ (by assumption)).mono ?_); rintro en wb ⟨p, x, rfl, hbb, HT⟩)
        | (go_at_call 17; (with_reducible refine (DP.out _ (by assumption)).mono ?_); rintro en wa ⟨rfl, hba⟩))
      all_goals (go_wp2_with fail)
      all_goals (go_meet)
      all_goals (exact ⟨_, _, rfl, rfl, hbb, HT⟩)
    case rest =>
      obtain ⟨p, x, rfl, rfl, hz, HT⟩ := hcut
      obtain ⟨E, hE⟩ : ∃ E, E = l.length / 2 := ⟨_, rfl⟩
      have EP : Hid (∀ W, Below w3.heap.size w3 W → Calls Try.prog 21 #[.pointer (some ⟨g, 0, none⟩)] W fun e w' => e = .returned (.int .i64 (E : Int)) ∧ Below w3.heap.size w3 w') := fun W z => by
        rw [hE]; exact (edges_p g l b rn lone W (HM3.out.below z)).mono fun e w' ⟨q1, q2⟩ => ⟨q1, z.trans (q2.mono z.size)⟩
      have hlo6 : (lone : Int) ≤ 60000 := by omega
      have HRN : Hid (rn < l.length ∧ l.length % 2 = 0) := ⟨by rw [← HN.out]; exact hrn, HEV.out⟩
      clear DO DP Z4
      rcases HT.out with ⟨g', o, ob, rfl, rfl, q1, q2⟩ | ⟨hk1, rfl, rfl⟩
      · have SH : Hid (∀ W, Below wc.heap.size wc W → Calls Try.prog 29 #[.pointer (some ⟨g', 0, none⟩), .int .i64 (E : Int)] W fun en w' => ∃ p x, en = .returned (.tuple #[.pointer p, .int .i64 x]) ∧ Hid (k ≠ 1 → x = 0 ∧ ∃ g' b', p = some ⟨g', 0, none⟩ ∧ MapAt w' g' l b' (rn : Int) (lone : Int)) ∧ Below wc.heap.size wc w') := fun W z => by
          rw [hE]
          refine (shrink_k k g' rn l o ob lone W q2 (q1.below z) HRN.out.1 HRN.out.2 (by omega) hlo6).mono ?_
          rintro en w' ⟨p, x, rfl, z1, z2⟩
          exact ⟨p, x, rfl, z1, z.trans (z2.mono z.size)⟩
        have CU : Hid (k = 1 → ∀ W, Below wc.heap.size wc W → Calls Try.prog 30 #[.pointer (some ⟨g', 0, none⟩), .int .i64 (E : Int)] W fun en w' => ∃ g2 b', en = .returned (.tuple #[.pointer (some ⟨g2, 0, none⟩), .int .i64 0]) ∧ Hid (MapAt w' g2 l b' (rn : Int) (lone : Int)) ∧ Below wc.heap.size wc w') := fun hk W z => by
          subst hk
          rw [hE]
          refine (cut_k g' rn l o ob lone W q2 (q1.below z) HRN.out.1 HRN.out.2 (by omega) hlo6).mono ?_
          rintro en w' ⟨g2, b', rfl, z1, z2⟩
          exact ⟨g2, b', rfl, z1, z.trans (z2.mono z.size)⟩
        have EP2 : Hid (∀ W, Below wc.heap.size wc W → Calls Try.prog 21 #[.pointer (some ⟨g, 0, none⟩)] W fun e w' => e = .returned (.int .i64 (E : Int)) ∧ Below wc.heap.size wc w') := fun W z => by
          rw [hE]; exact (edges_p g l b rn lone W (HM3.out.below (hz.trans (z.mono hz.size)))).mono fun e w' ⟨q1, q2⟩ => ⟨q1, z.trans (q2.mono z.size)⟩
        have HZ := Lib.hid hz
        -- what is asked at the end
        have FIN : Hid (∀ W gb b', MapAt W gb l b' (rn : Int) (lone : Int) → Below w3.heap.size w3 W →
            (∀ W', Below W.heap.size W W' → Calls Try.prog 12 #[.pointer (some ⟨gb, 0, none⟩)] W' fun en w' => ∃ A9 c9, en = .returned (.slice A9 N c9) ∧ Hid (Rd w' w'.heap.size A9 N (I64 (ofN l))) ∧ Below W.heap.size W w') ∧
            (∀ W' A9 c9, Below W.heap.size W W' → Rd W' W'.heap.size A9 N (I64 (ofN l)) → Calls Try.prog 11 #[.slice A9 N c9, .slice A2 N c2] W' fun en w' => en = .returned (.bool true) ∧ Below W.heap.size W w') ∧
            (∀ W', Below W.heap.size W W' → Calls Try.prog 13 #[.pointer (some ⟨gb, 0, none⟩)] W' fun en w' => en = .returned (.int .i64 (rn : Int)) ∧ Below W.heap.size W w') ∧
            (∀ W', Below W.heap.size W W' → Calls Try.prog 14 #[.pointer (some ⟨gb, 0, none⟩)] W' fun en w' => en = .returned (.int .i64 (lone : Int)) ∧ Below W.heap.size W w') ∧
            (∀ W', Below W.heap.size W W' → W'.cell? ⟨gx, 0, none⟩ = some (.slice A2 N c2) ∧ W'.cell? ⟨gx, 1, none⟩ = some (.int .i64 (rn : Int)) ∧ W'.cell? ⟨gx, 2, none⟩ = some (.int .i64 (lone : Int)))) := fun W gb b' hM hW => by
          have hNl := HN.out
          refine ⟨fun W' z => ?_, fun W' A9 c9 z hA => ?_, fun W' z => ?_, fun W' z => ?_, fun W' z => ?_⟩
          · refine (mlist_p gb l b' rn lone W' (hM.below z)).mono ?_
            rintro en w' ⟨A9, c9, rfl, h1, h2, h3, h4⟩
            rw [ofN_len, ← hNl] at h3 ⊢
            exact ⟨A9, c9, rfl, Rd.ofOwn h3, z.trans (h4.mono z.size)⟩
          · have hr := HR3.out.below (hW.trans (z.mono hW.size))
            refine (equalI_any A9 A2 N c9 N c2 _ _ (ofN l) (ofN l) W' hA hr (by omega) (by omega)).mono ?_
            rintro en w' ⟨q1, q, q2⟩
            exact ⟨by rw [q1, decide_eq_true rfl], by rw [q2]; exact below_draws z q⟩
          · exact (root_p gb l b' rn lone W' (hM.below z)).mono fun en w' ⟨q1, q2⟩ => ⟨q1, by rw [← q2]; exact z⟩
          · exact (lone_p gb l b' rn lone W' (hM.below z)).mono fun en w' ⟨q1, q2⟩ => ⟨q1, by rw [← q2]; exact z⟩
          · have hx := HX.out.below (hW.trans (z.mono hW.size))
            exact ⟨hx.cell 0, hx.cell 1, hx.cell 2⟩
        clear q1 q2 hz hE EP HT
        go_wp2_with fail
        refine (EP2.out _ (Below.refl _ _)).mono ?_
        rintro en w5 ⟨rfl, z5⟩
        have S5 := Lib.hid (SH.out _ z5)
        clear z5 SH
        go_wp2_with fail
        refine S5.out.mono ?_
        rintro en w6 ⟨p6, x6, rfl, HS6, z6⟩
        have Z6 := Lib.hid z6
        clear z6 S5
        by_cases hk1 : k = 1
        · subst hk1
          go_wp2_with fail
          refine (EP2.out _ Z6.out).mono ?_
          rintro en w7 ⟨rfl, z7⟩
          have C7 := Lib.hid (CU.out trivial _ z7)
          clear z7 CU
          go_wp2_with fail
          refine C7.out.mono ?_
          rintro en w8 ⟨g2, b8, rfl, HM8, z8⟩
          have HZ8 := Lib.hid (HZ.out.trans (z8.mono HZ.out.size))
          obtain ⟨L1, E1, R1, N1, C1⟩ := FIN.out _ _ _ HM8.out HZ8.out
          have LH := Lib.hid L1
          have EH := Lib.hid E1
          have RH := Lib.hid R1
          have NH := Lib.hid N1
          have KH : Hid (∀ W', Below w8.heap.size w8 W' → Below w8.heap.size w8 W' ∧ W'.cell? ⟨gx, 0, none⟩ = some (.slice A2 N c2) ∧ W'.cell? ⟨gx, 1, none⟩ = some (.int .i64 (rn : Int)) ∧ W'.cell? ⟨gx, 2, none⟩ = some (.int .i64 (lone : Int))) := fun W' z => ⟨z, C1 W' z⟩
          have BB : Hid (∀ W', Below w8.heap.size w8 W' → Below w.heap.size w W') := fun W' z => B3.out.trans ((HZ8.out.trans (z.mono HZ8.out.size)).mono B3.out.size)
          obtain ⟨y0, y1, y2⟩ := C1 _ (Below.refl _ _)
          have zz0 := Below.refl w8.heap.size w8
          have zz1 := zz0.drew
          clear L1 E1 R1 N1 C1 FIN z8
          go_upto_region 13 with fail
          go_region_held3 (fun W' => Below w8.heap.size w8 W' ∧ W'.cell? ⟨gx, 0, none⟩ = some (.slice A2 N c2) ∧ W'.cell? ⟨gx, 1, none⟩ = some (.int .i64 (rn : Int)) ∧ W'.cell? ⟨gx, 2, none⟩ = some (.int .i64 (lone : Int)))
            (exact KH.out _ (by assumption)) (first
            | (go_at_call 12; (with_reducible refine (LH.out _ (by assumption)).mono ?_); rintro en wl ⟨A9, c9, rfl, HA, hbl⟩)
            | (go_at_call 11; (with_reducible refine (EH.out _ _ _ (by assumption) HA.out).mono ?_); rintro en wq ⟨rfl, hbq⟩)
            | (go_at_call 13; (with_reducible refine (RH.out _ (by assumption)).mono ?_); rintro en wr1 ⟨rfl, hbr⟩)
            | (go_at_call 14; (with_reducible refine (NH.out _ (by assumption)).mono ?_); rintro en wn ⟨rfl, hbn⟩))
          all_goals (go_wp2_with fail)
          all_goals (go_ret)
          all_goals (exact ⟨rfl, BB.out _ (by assumption)⟩)
        · obtain ⟨hx6, g2, b8, rfl, hm8⟩ := HS6.out hk1
          subst hx6
          have HM8 := Lib.hid hm8
          have HZ8 := Lib.hid (HZ.out.trans (Z6.out.mono HZ.out.size))
          have k1I : ¬ (k : Int) = 1 := by omega
          have k1b : ((k : Int) == 1) = false := by simp; omega
          have k1d : decide (k = 1) = false := decide_eq_false hk1
          clear hm8 HS6
          obtain ⟨L1, E1, R1, N1, C1⟩ := FIN.out _ _ _ HM8.out HZ8.out
          have LH := Lib.hid L1
          have EH := Lib.hid E1
          have RH := Lib.hid R1
          have NH := Lib.hid N1
          have KH : Hid (∀ W', Below w6.heap.size w6 W' → Below w6.heap.size w6 W' ∧ W'.cell? ⟨gx, 0, none⟩ = some (.slice A2 N c2) ∧ W'.cell? ⟨gx, 1, none⟩ = some (.int .i64 (rn : Int)) ∧ W'.cell? ⟨gx, 2, none⟩ = some (.int .i64 (lone : Int))) := fun W' z => ⟨z, C1 W' z⟩
          have BB : Hid (∀ W', Below w6.heap.size w6 W' → Below w.heap.size w W') := fun W' z => B3.out.trans ((HZ8.out.trans (z.mono HZ8.out.size)).mono B3.out.size)
          obtain ⟨y0, y1, y2⟩ := C1 _ (Below.refl _ _)
          have zz0 := Below.refl w6.heap.size w6
          have zz1 := zz0.drew
          clear L1 E1 R1 N1 C1 FIN 
          go_upto_region 13 with fail
          go_region_held3 (fun W' => Below w6.heap.size w6 W' ∧ W'.cell? ⟨gx, 0, none⟩ = some (.slice A2 N c2) ∧ W'.cell? ⟨gx, 1, none⟩ = some (.int .i64 (rn : Int)) ∧ W'.cell? ⟨gx, 2, none⟩ = some (.int .i64 (lone : Int)))
            (exact KH.out _ (by assumption)) (first
            | (go_at_call 12; (with_reducible refine (LH.out _ (by assumption)).mono ?_); rintro en wl ⟨A9, c9, rfl, HA, hbl⟩)
            | (go_at_call 11; (with_reducible refine (EH.out _ _ _ (by assumption) HA.out).mono ?_); rintro en wq ⟨rfl, hbq⟩)
            | (go_at_call 13; (with_reducible refine (RH.out _ (by assumption)).mono ?_); rintro en wr1 ⟨rfl, hbr⟩)
            | (go_at_call 14; (with_reducible refine (NH.out _ (by assumption)).mono ?_); rintro en wn ⟨rfl, hbn⟩))
          all_goals (go_wp2_with fail)
          all_goals (go_ret)
          all_goals (exact ⟨rfl, BB.out _ (by assumption)⟩)
      · subst hk1
        have HZ := Lib.hid (B3.out.trans (hz.mono B3.out.size))
        clear hE
        go_wp2_with fail
        go_ret
        exact ⟨rfl, HZ.out⟩
end Go.Proofs.Ythdmkcnclmgdlaa
