/- GrowFlips: the walk. -/
import Derived.Test.YthdmkcnclmgdlaaZg6
import Derived.Test.YthdmkcnclmgdlaaZg13
import Derived.Test.YthdmkcnclmgdlaaZg12
import Derived.Test.YthdmkcnclmgdlaaZg8
namespace Go.Proofs.Ythdmkcnclmgdlaa
set_option maxRecDepth 100000
open Go.RowKit
set_option linter.unusedVariables false
/-- The turns when so many flips are done. -/
noncomputable def flpS (l b : List Nat) (d : Nat) : Nat → List Nat × List Nat
  | 0 => (l, b)
  | j + 1 => (flipL (flpS l b d j).1 (flpS l b d j).2 d, flipB (flpS l b d j).1 (flpS l b d j).2 d)
theorem flpS_succ (l b : List Nat) (d j : Nat) : flpS l b d (j + 1) = (flipL (flpS l b d j).1 (flpS l b d j).2 d, flipB (flpS l b d j).1 (flpS l b d j).2 d) := rfl
theorem flpS_four {l b : List Nat} (h : Inv l b) (he : l.length % 2 = 0) {d : Nat} (hd : d < l.length) (hf : Flips l d) : (flpS l b d 4).1 = l := by
  obtain ⟨p, q, r, s, x, R⟩ := flips_six h he hd hf
  obtain ⟨l1, b1, l2, b2, l3, b3, e1, f1, e2, f2, e3, f3, i1, i2, i3, n1, n2, n3, hl⟩ := flip_four h he x R
  have s0 : flpS l b d 0 = (l, b) := rfl
  have s1 : flpS l b d 1 = (l1, b1) := by rw [show 1 = 0 + 1 from rfl, flpS_succ, s0, e1, f1]
  have s2 : flpS l b d 2 = (l2, b2) := by rw [show 2 = 1 + 1 from rfl, flpS_succ, s1, e2, f2]
  have s3 : flpS l b d 3 = (l3, b3) := by rw [show 3 = 2 + 1 from rfl, flpS_succ, s2, e3, f3]
  rw [show 4 = 3 + 1 from rfl, flpS_succ, s3]; exact hl
set_option maxHeartbeats 8000000 in
theorem growFlips_walk (A : Option Addr) (n m c r dd : Nat) (by_ : List Int) (w : World) (h : Rd w w.heap.size A m (Z8 by_)) (hb : ∀ x ∈ by_, 0 ≤ x ∧ x < 256) (hm : m ≤ c) (hm2 : c ≤ maxLen) (hn : n < 256) (hr : r < 256) (hdd : dd < 256) :
    Calls Try.prog 5 #[.int .u8 (n : Int), .slice A m c, .int .u8 (r : Int), .int .u8 (dd : Int)] w fun e w' => e = .returned (.bool true) ∧ Below w.heap.size w w' := by
  have AW := Lib.hid (awake23_p w)
  have MD : Hid (∀ W, Below w.heap.size w W → Calls Try.prog 8 #[.int .u8 2, .int .u8 (n : Int), .slice A m c, .int .u8 (r : Int)] W (MadeIs (KTri (n % 8)) W)) := fun W z =>
    made23_2 2 n r m c w.heap.size A by_ W (h.below z) hb z.size rfl hn hr (by simp [maxLen] at hm2; omega)
  clear h hb hm hm2 hn hr
  go_enter Try.func5, Try.ntmps5
  go_wp2_with fail
  refine AW.out.mono ?_
  rintro e w1 ⟨rfl, b1⟩
  have B1 := Lib.hid b1
  have MP := Lib.hid (MD.out w1 b1)
  clear b1 AW MD
  go_wp2_with fail
  refine MP.out.mono ?_
  rintro e w2 ⟨g, v, l, b, root, rfl, hmap, hrm, hl, hroot, ⟨vv, hlen, T⟩, b2⟩
  obtain ⟨hinv, A2, c2, hla, rfl, hc2, hm2, r2⟩ := hrm
  clear MP hla hc2 hm2 r2
  have B2 := B1.out.trans (b2.mono B1.out.size)
  have hal := (Below.refl w2.heap.size w2).alloc (Nat.le_refl _) (.cells #[.slice A2 l.length c2, .int .i64 root, .int .i64 0] 27)
  have HX := Lib.hid (Blk.new w2 27 #[.slice A2 l.length c2, .int .i64 root, .int .i64 0])
  have HM3 := Lib.hid (hmap.below hal)
  have B3 := Lib.hid (B2.trans (hal.mono B2.size))
  obtain ⟨V, hV⟩ : ∃ V, V = n % 8 + 3 := ⟨_, rfl⟩
  rw [← hV] at T
  obtain ⟨N, hN⟩ : ∃ N, N = l.length := ⟨_, rfl⟩
  obtain ⟨k, hk⟩ : ∃ k, k = dd % N := ⟨_, rfl⟩
  have hkN : k < N := by rw [hk]; exact Nat.mod_lt _ (by omega)
  have hkl : k < l.length := by omega
  obtain ⟨sl, si, sv, ST⟩ := star_tg T hinv hkl
  obtain ⟨S, hS⟩ : ∃ S, S = starL l b k := ⟨_, rfl⟩
  obtain ⟨SB, hSB⟩ : ∃ SB, SB = starB l b k := ⟨_, rfl⟩
  have SP : Hid (∀ W g, MapAt W g l b root 0 → Calls Try.prog 24 #[.pointer (some ⟨g, 0, none⟩), .int .i64 (k : Int)] W fun en w' => ∃ g', en = .returned (.tuple #[.pointer (some ⟨g', 0, none⟩), .int .i64 0]) ∧ MapAt w' g' S SB root 0 ∧ Below W.heap.size W w') := fun W g q => by
    rw [hS, hSB]; exact star_in g l b root 0 k W q hinv hroot hkl (by omega)
  rw [← hS] at sl si ST
  rw [← hSB] at si
  have hMB := tg_verts ST si
  have TT : Hid (TriangN S 0) := tg_triang ST si
  obtain ⟨V1, hV1⟩ : ∃ V1, V1 = V + 1 := ⟨_, rfl⟩
  obtain ⟨dg, hdg⟩ : ∃ dg, dg = degOf S 0 ((V : Nat) : Int) := ⟨_, rfl⟩
  have hdg0 : dg ≠ 0 := by rw [hdg]; exact deg_last si (by omega) hMB
  have TP : Hid (∀ W g, MapAt W g S SB root 0 → Calls Try.prog 25 #[.pointer (some ⟨g, 0, none⟩)] W (BoolPost (TriangN S 0) W)) := fun W g q => triang_p g S SB root 0 W q
  have VP : Hid (∀ W g, MapAt W g S SB root 0 → Calls Try.prog 19 #[.pointer (some ⟨g, 0, none⟩)] W fun e w' => e = .returned (.int .i64 (V1 : Int)) ∧ Below W.heap.size W w') := fun W g q => by
    have h1 := vertices_p g S SB root 0 W q
    rw [show ((sizes S).length : Int) + 0 = (V1 : Int) by rw [sizes_is si, hMB, hV1]; omega] at h1
    exact h1
  have DP : Hid (∀ W g, MapAt W g S SB root 0 → Calls Try.prog 26 #[.pointer (some ⟨g, 0, none⟩), .int .i64 (V : Int)] W fun e w' => e = .returned (.int .i64 dg) ∧ Below W.heap.size W w') := fun W g q => by rw [hdg]; exact degree_p g S SB root 0 _ W q
  have tV : (V1 : Int) - 1 = (V : Int) := by omega
  have wV : IntKind.i64.wrap (V : Int) = (V : Int) := by simp [IntKind.wrap, IntKind.signed, IntKind.bits]; omega
  have dg1 : (dg == 0) = false := by simp [hdg0]
  have dg2 : decide (dg = 0) = false := decide_eq_false hdg0
  have h1t : (dd : Int).tmod (N : Int) = (k : Int) := by rw [Int.tmod_eq_emod_of_nonneg (by omega), hk]; rfl
  have h1 : (dd : Int) % (N : Int) = (k : Int) := by rw [hk]; rfl
  have hm0 : ¬ (N : Int) = 0 := by omega
  have hm0n : ¬ N = 0 := by omega
  have hmb : ((N : Int) == 0) = false := by simp; omega
  have hmb2 : decide (N = 0) = false := decide_eq_false hm0n
  have wd : IntKind.i64.wrap (k : Int) = (k : Int) := by simp [IntKind.wrap, IntKind.signed, IntKind.bits]; omega
  have wt : IntKind.i64.wrap (dd : Int) = (dd : Int) := by simp [IntKind.wrap, IntKind.signed, IntKind.bits]; omega
  have FP : Hid (∀ j l' b', Inv l' b' → l'.length = N → (l', b') = flpS l b k j → ∀ W g, MapAt W g l' b' root 0 → Calls Try.prog 27 #[.pointer (some ⟨g, 0, none⟩), .int .i64 (k : Int)] W fun en w' =>
      (Flips l' k ∧ ∃ g' l2 b2, en = .returned (.tuple #[.pointer (some ⟨g', 0, none⟩), .int .i64 0]) ∧ MapAt w' g' l2 b2 root 0 ∧ Inv l2 b2 ∧ l2.length = N ∧ (l2, b2) = flpS l b k (j + 1) ∧ Below W.heap.size W w') ∨
      (en = .returned (.tuple #[.pointer none, .int .i64 8]) ∧ Below W.heap.size W w')) := fun j l' b' hi hl' hj W g q => by
    by_cases hf : Flips l' k
    · obtain ⟨u1, u2⟩ := flip_inv hi (by rw [hl', hN]; exact T.ev) (d := k) (by omega) hf.1
      refine (flip_in g l' b' root 0 k W q hi (by rw [hl', hN]; exact hroot) (by omega) (by omega) hf).mono ?_
      rintro en w' ⟨g', q1, q2, q3⟩
      refine .inl ⟨hf, g', _, _, q1, q2, u1, by rw [u2, hl'], ?_, q3⟩
      rw [flpS_succ, ← hj]
    · exact (flip_no g l' b' root 0 k W q (by omega) hf).mono fun en w' ⟨q1, q2⟩ => .inr ⟨q1, q2⟩
  have DS : Hid (∀ l' b', (l', b') = flpS l b k 4 → Flips l k → ∀ W g', MapAt W g l b root 0 → MapAt W g' l' b' root 0 → Calls Try.prog 28 #[.pointer (some ⟨g', 0, none⟩), .pointer (some ⟨g, 0, none⟩)] W fun e w' => e = .returned (.bool true) ∧ Below W.heap.size W w') := fun l' b' hj hf W g' q q' => by
    have e4 : l' = l := by have := congrArg Prod.fst hj; rw [flpS_four hinv T.ev hkl hf] at this; exact this
    have := dsame_p g' g l' b' l b root 0 root 0 W q' q
    rwa [decide_eq_true ⟨rfl, rfl, e4⟩] at this
  have HI := Lib.hid (And.intro hinv hN.symm)
  clear T ST sl si hMB hS hSB hV1 hdg hV hk hroot hlen hmap hl hal hinv b2 B2 B1
  rw [← hN] at HX HM3 B3
  rw [← hN]
  clear hN
  go_upto_region 4 with fail
  generalize w2.alloc (.cells #[.slice A2 N c2, .int .i64 root, .int .i64 0] 27) = w3 at *
  have x0 := HX.out.cell 0
  simp at x0
  go_wp2_with fail
  refine (SP.out _ _ HM3.out).mono ?_
  rintro e w4 ⟨gs, rfl, q4, b4⟩
  have Z4 := Lib.hid b4
  have T4 := Lib.hid (TP.out _ _ q4)
  have Q4 := Lib.hid q4
  clear b4 q4 x0 SP TP HX
  go_wp2_with fail
  refine T4.out.mono ?_
  rintro e w5 ⟨tb, rfl, htb, b5⟩
  have htt : tb = true := htb.2 TT.out
  subst htt
  have Q5 := Lib.hid (Q4.out.below b5)
  have Z5 := Lib.hid (Z4.out.trans (b5.mono Z4.out.size))
  have V5 := Lib.hid (VP.out _ _ Q5.out)
  clear b5 htb Z4 Q4 T4 TT VP
  go_wp2_with fail
  refine V5.out.mono ?_
  rintro e w6 ⟨rfl, b6⟩
  have Z6 := Lib.hid (Z5.out.trans (b6.mono Z5.out.size))
  have D6 := Lib.hid (DP.out _ _ (Q5.out.below b6))
  clear b6 Z5 Q5 V5 DP
  go_wp2_with fail
  refine D6.out.mono ?_
  rintro e w7 ⟨rfl, b7⟩
  have Z7 := Lib.hid (Z6.out.trans (b7.mono Z6.out.size))
  clear b7 Z6 D6
  go_wp2_with fail
  go_loopw [14, 15, 53] (fun o f i wr => ∃ (j : Nat) (g' : Nat) (x : Int) (l' b' : List Nat), j ≤ 4 ∧ i = .int .i64 (j : Int) ∧ o = .pointer (some ⟨g', 0, none⟩) ∧ (f = .int .i64 x ∨ f = undef) ∧
    Hid (MapAt wr g' l' b' root 0 ∧ Inv l' b' ∧ l'.length = N ∧ (l', b') = flpS l b k j ∧ (0 < j → Flips l k) ∧ Below w3.heap.size w3 wr)) (fun _ _ i _ => 4 - (intOf i).toNat)
  case atStart => exact ⟨0, g, 0, l, b, by omega, rfl, rfl, .inr rfl, HM3.out.below Z7.out, HI.out.1, HI.out.2, rfl, fun c => absurd c (by omega), Z7.out⟩
  case round =>
    clear Z7
    obtain ⟨j, g', x, l', b', hj, rfl, rfl, hf, HS⟩ := hrel
    clear hf
    by_cases hlt : j < 4
    · have hdk : decide (j < 4) = true := decide_eq_true hlt
      have hki : (j : Int) < 4 := by omega
      have F1 := Lib.hid (FP.out j l' b' HS.out.2.1 HS.out.2.2.1 HS.out.2.2.2.1 wr g' HS.out.1)
      go_wp2_with fail
      refine F1.out.mono ?_
      rintro e wz (⟨hfl, g2, l2, b2, rfl, q1, q2, q3, q4, z⟩ | ⟨rfl, z⟩)
      · have HN : Hid (MapAt wz g2 l2 b2 root 0 ∧ Inv l2 b2 ∧ l2.length = N ∧ (l2, b2) = flpS l b k (j + 1) ∧ (0 < j + 1 → Flips l k) ∧ Below w3.heap.size w3 wz) := ⟨q1, q2, q3, q4, fun _ => by
          obtain ⟨u1, u2, u3, u4, u5, u6⟩ := HS.out
          rcases Nat.eq_zero_or_pos j with c | c
          · subst c
            have : l' = l := congrArg Prod.fst u4
            rw [← this]; exact hfl
          · exact u5 c, HS.out.2.2.2.2.2.trans (z.mono HS.out.2.2.2.2.2.size)⟩
        clear hfl q1 q2 q3 q4 z
        go_wp2_with fail
        go_roundw
        case rel => exact ⟨j + 1, g2, 0, l2, b2, by omega, by go_num, rfl, .inl rfl, HN⟩
        case measure => simp [intOf]; omega
      · have HZ := Lib.hid (B3.out.trans ((HS.out.2.2.2.2.2.trans (z.mono HS.out.2.2.2.2.2.size)).mono B3.out.size))
        clear z
        go_wp2_with fail
        go_ret
        exact ⟨rfl, HZ.out⟩
    · obtain rfl : j = 4 := by omega
      have D1 := Lib.hid (DS.out l' b' HS.out.2.2.2.1 (HS.out.2.2.2.2.1 (by omega)) wr g' (HM3.out.below HS.out.2.2.2.2.2) HS.out.1)
      have HZ := Lib.hid (B3.out.trans (HS.out.2.2.2.2.2.mono B3.out.size))
      go_wp2_with fail
      refine D1.out.mono ?_
      rintro e wz ⟨rfl, z⟩
      have HZ2 := Lib.hid (HZ.out.trans (z.mono HZ.out.size))
      clear z
      go_wp2_with fail
      go_ret
      exact ⟨rfl, HZ2.out⟩
end Go.Proofs.Ythdmkcnclmgdlaa
