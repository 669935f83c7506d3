/- CanonShapes: the walk. -/
import Derived.Test.YtoncollcefanjaaZg21
import Derived.Test.YtoncollcefanjaaZCnTqA
namespace Go.Proofs.Ytoncollcefanjaa
set_option maxRecDepth 100000
open Go.RowKit
set_option linter.unusedVariables false
set_option linter.unusedSimpArgs false
open Classical in
set_option maxHeartbeats 16000000 in
theorem canonShapes_walk (A0 : Option Addr) (n m0 c0 rr : Nat) (by_ : List Int) (w : World) (hn : n < 256) (hrr : rr < 256)
    (h0 : Rd w w.heap.size A0 m0 (Z8 by_)) (hb0 : ∀ x ∈ by_, 0 ≤ x ∧ x < 256) (hmc0 : m0 ≤ c0) (hcm0 : c0 ≤ maxLen) :
    Calls Try.prog 6 #[.int .u8 (n : Int), .slice A0 m0 c0, .int .u8 (rr : Int)] w fun e w' => e = .returned (.bool true) ∧ Below w.heap.size w w' := by
  have hcm0' : c0 ≤ 9223372036854775807 := by unfold maxLen at hcm0; omega
  have AW := Lib.hid (awake11_p w)
  have H0 := Lib.hid h0
  have HB0 := Lib.hid hb0
  obtain ⟨kk, hkk⟩ : ∃ kk, kk = n % 8 := ⟨_, rfl⟩
  have hkb : kk < 8 := by omega
  have y1 : (n : Int) % 8 = (kk : Int) := by omega
  have y2 : (n : Int).tmod 8 = (kk : Int) := by rw [Int.tmod_eq_emod_of_nonneg (by omega)]; omega
  clear h0 hb0 hkk hcm0
  go_enter Try.func6, Try.ntmps6
  go_wp2_with fail
  refine AW.out.mono ?_
  rintro e w1 ⟨rfl, b1⟩
  have B1 := Lib.hid b1
  have AN := Lib.hid (any_p kk rr m0 c0 w.heap.size A0 by_ w1 (H0.out.below b1) HB0.out b1.size (by omega) hrr (by omega))
  clear b1 AW H0 HB0
  go_wp2_with fail
  refine AN.out.mono ?_
  rintro e w2 ⟨v, l, b, root, rfl, hrm, hl, hroot, b2⟩
  obtain ⟨hinv, A, cA, hla, rfl, hlc, hcA, hrA⟩ := hrm
  obtain ⟨N, hN⟩ : ∃ N, N = l.length := ⟨_, rfl⟩
  have HNN := Lib.hid hN
  have hN2 : N = 2 * kk := by omega
  rw [← hN] at hrA ⊢
  rw [← hN2] at hroot
  have HRT : Hid (RootOk root l.length) := by rw [← hN]; exact hroot
  have HEV : Hid (l.length % 2 = 0) := by show _ = _; omega
  have HI := Lib.hid hinv
  have bx := (Below.refl w2.heap.size w2).alloc (Nat.le_refl _) (.cells #[.slice A N cA, .int .i64 root, .int .i64 0] 26)
  have XB := Lib.hid (Blk.new w2 26 #[.slice A N cA, .int .i64 root, .int .i64 0])
  have B2a := B1.out.trans (b2.mono B1.out.size)
  have B3 : Hid (Below w.heap.size w (w2.alloc (.cells #[.slice A N cA, .int .i64 root, .int .i64 0] 26))) := B2a.trans (bx.mono B2a.size)
  have hN16 : N ≤ 16 := by omega
  have RA := Lib.hid (hrA.more bx)
  clear hN hinv hla hlc hcA hrA b2 bx B2a B1 AN hl hroot hN2
  go_wp2_with fail
  generalize w2.alloc (.cells #[.slice A N cA, .int .i64 root, .int .i64 0] 26) = w3 at *
  generalize w2.heap.size = gx at *
  have OFX := of11_p A cA l b root 0 w3 (by have := RA.out; rwa [HNN.out] at this) HI.out HEV.out (by have := HNN.out; omega) HRT.out (by omega) (by omega)
  rw [← HNN.out] at OFX
  have PTX : Hid (∀ W, Below w3.heap.size w3 W → Calls Try.prog 22 #[.agg #[.slice A N cA, .int .i64 root, .int .i64 0]] W (NewQt W (pN l) (partsC l (pN l)))) := fun W mm => by
    have := reparts_p A cA l b root 0 W (by have := RA.out.more mm; rwa [HNN.out] at this) HI.out HEV.out (by have := HNN.out; omega) (by omega)
    rwa [← HNN.out] at this
  have hgx := XB.out.lt
  have x0' := XB.out.cell 0
  have x1' := XB.out.cell 1
  have x2' := XB.out.cell 2
  simp at x0' x1' x2'
  have SK : Hid (∀ W, Below w3.heap.size w3 W → W.cell? ⟨gx, 0, none⟩ = some (.slice A N cA) ∧ W.cell? ⟨gx, 1, none⟩ = some (.int .i64 root) ∧ W.cell? ⟨gx, 2, none⟩ = some (.int .i64 0)) := fun W m => ⟨(m.cell (p := ⟨gx, 0, none⟩) hgx).trans x0', (m.cell (p := ⟨gx, 1, none⟩) hgx).trans x1', (m.cell (p := ⟨gx, 2, none⟩) hgx).trans x2'⟩
  clear x0' x1' x2' hgx
  refine OFX.mono ?_
  rintro e w4 ⟨g, rfl, m4, z4⟩
  have Z4 := Lib.hid z4
  obtain ⟨np, hnp⟩ : ∃ np, np = pN l := ⟨_, rfl⟩
  rw [← hnp] at PTX
  have HNP := Lib.hid hnp
  obtain ⟨sh, hsh, SH⟩ : ∃ sh : Nat, ((N = 0 ∨ np ≠ 1) → sh = 0) ∧ Hid (Calls Try.prog 28 #[.pointer (some ⟨g, 0, none⟩)] w4 fun e w' => e = .returned (.int .i64 (sh : Int)) ∧ Below w4.heap.size w4 w') ∧ Hid (N ≠ 0 → np = 1 → ∃ r : Nat, root = (r : Int) ∧ r < l.length ∧ sh = num (TurnsTo l r) l.length) := by
    rcases HRT.out with ⟨h0, h1⟩ | ⟨h0, h1, h2⟩
    · exact ⟨0, fun _ => rfl, by
        have := cshape_e g l b root 0 w4 m4 h0
        exact this, fun hN0 => absurd (by rw [HNN.out]; exact h0) hN0⟩
    · refine ⟨shpN l root.toNat 0, fun h => ?_, ?_, fun hN0 h1' => ⟨root.toNat, by omega, by omega, ?_⟩⟩
      · unfold shpN; rw [if_pos (by have := HNN.out; omega)]
      · have e : root = ((root.toNat : Nat) : Int) := by omega
        have m5 := m4
        rw [e] at m5
        exact cshape_p g l b root.toNat 0 w4 m5 HI.out (fun _ => by omega)
      · unfold shpN; rw [if_neg (by have := HNN.out; omega)]
  obtain ⟨SH, HSH⟩ := SH
  have HS0 := Lib.hid hsh
  clear m4 z4 hnp hsh OFX
  go_wp2_with fail
  refine SH.out.mono ?_
  rintro e w5 ⟨rfl, z⟩
  have Z5 := Lib.hid (Z4.out.trans (z.mono Z4.out.size))
  have B5 := Lib.hid (B3.out.trans (Z5.out.mono B3.out.size))
  clear z SH Z4
  obtain ⟨x0, x1, x2⟩ := SK.out _ Z5.out
  by_cases hN0 : N = 0
  · have hNb : ((N : Int) == 0) = true := by rw [hN0]; rfl
    have hs0 : sh = 0 := HS0.out (.inl hN0)
    subst hs0
    clear hN0
    go_wp2_with fail
    go_ret
    exact ⟨by simp, B5.out⟩
  · have hNb : ((N : Int) == 0) = false := by rw [beq_eq_false_iff_ne]; omega
    have R1 := Lib.hid (PTX.out w5 Z5.out)
    clear PTX
    go_wp2_with fail
    refine R1.out.mono ?_
    rintro e w6 ⟨Aq, cq, rfl, _, _, _, z⟩
    have Z6 := Lib.hid (Z5.out.trans (z.mono Z5.out.size))
    have B6 := Lib.hid (B3.out.trans (Z6.out.mono B3.out.size))
    clear z R1 Z5 B5 x0 x1 x2
    obtain ⟨x0, x1, x2⟩ := SK.out _ Z6.out
    by_cases hn1 : np = 1
    · have hb1 : ((np : Int) != 1) = false := by rw [hn1]; rfl
      obtain ⟨r, hr, hrl, hsh⟩ := HSH.out hN0 hn1
      have HQ1 : Hid (pN l = 1) := by show _ = _; rw [← HNP.out]; exact hn1
      have hpp : ∀ i j, i < l.length → j < l.length → part l i j := fun i j hi hj => one_of_pN HI.out HEV.out HQ1.out hi hj
      have hpos := turns_part HI.out HEV.out hpp hrl
      rw [← hsh, ← HNN.out] at hpos
      have HPOS := Lib.hid hpos
      have hpos1 : 0 < sh := hpos.1
      have hshn : sh ≤ N := by rw [hsh, HNN.out]; exact num_le _ _
      have HCNT : Hid (num (fun d => TurnsTo l d r) N = sh) := by
        show _ = _
        rw [hsh, HNN.out]
        exact num_congr fun d hd => ⟨fun t => (turns_eqv HI.out HEV.out).symm _ _ hd hrl t, fun t => (turns_eqv HI.out HEV.out).symm _ _ hrl hd t⟩
      subst hr
      have TT : Hid (∀ W, Below w6.heap.size w6 W → ∀ d, d < N → ∀ ans : Bool, (ans = true ↔ TurnsTo l d r) → Calls Try.prog 27 #[.agg #[.slice A N cA, .int .i64 (d : Int), .int .i64 0], .agg #[.slice A N cA, .int .i64 (r : Int), .int .i64 0]] W fun e w' => e = .returned (.bool ans) ∧ Below W.heap.size W w') := fun W m d hd ans ha => by
        have mm := Z6.out.trans (m.mono Z6.out.size)
        have hdl : d < l.length := by rw [← HNN.out]; exact hd
        have ra : Rd W W.heap.size A l.length (I64 (ofN l)) := by have := RA.out.more mm; rwa [HNN.out] at this
        have := rturn_p A A cA cA l b l b d r 0 ans W ra ra HI.out HI.out HEV.out (by have := HNN.out; omega) (by have := HNN.out; omega) hdl hrl (fun j hj => hpp _ _ hdl hj) ha
        rwa [← HNN.out] at this
      clear hsh hpos hpp hn1 hrl HSH HS0 HNP
      go_wp2_with fail
      go_loopw [10, 39] (fun c i wr => ∃ (j q : Nat), j ≤ N ∧ q ≤ j ∧ i = .int .i64 (j : Int) ∧ c = .int .i64 (q : Int) ∧ Hid (q = num (fun d => TurnsTo l d r) j) ∧ Hid (Below w6.heap.size w6 wr)) (fun _ i _ => N - (intOf i).toNat)
      case atStart => exact ⟨0, 0, by omega, by omega, rfl, rfl, rfl, Below.refl _ _⟩
      case round =>
        obtain ⟨j, q, hj, hqj, rfl, rfl, HC, HB⟩ := hrel
        clear x0 x1 x2
        obtain ⟨x0, x1, x2⟩ := SK.out _ (Z6.out.trans (HB.out.mono Z6.out.size))
        by_cases hlt : j < N
        · have hdj : decide (j < N) = true := by rw [decide_eq_true_iff]; exact hlt
          have NX := Lib.hid (num_next (fun d => TurnsTo l d r) j)
          by_cases ht : TurnsTo l j r
          · have T1 := Lib.hid (TT.out wr HB.out j hlt true ⟨fun _ => ht, fun _ => rfl⟩)
            have HC2 : Hid (q + 1 = num (fun d => TurnsTo l d r) (j + 1)) := by show _ = _; rw [NX.out.1 ht, HC.out]
            clear ht
            go_wp2_with fail
            refine T1.out.mono ?_
            rintro e w' ⟨rfl, z⟩
            have HB2 := Lib.hid (HB.out.trans (z.mono HB.out.size))
            clear z T1
            go_wp2_with fail
            go_roundw
            case rel => exact ⟨j + 1, q + 1, by omega, by omega, by go_num, by go_num, HC2, HB2⟩
            case measure => simp [intOf]; omega
          · have T1 := Lib.hid (TT.out wr HB.out j hlt false ⟨fun h => (by cases h), fun h => absurd h ht⟩)
            have HC2 : Hid (q = num (fun d => TurnsTo l d r) (j + 1)) := by show _ = _; rw [NX.out.2 ht, HC.out]
            clear ht
            go_wp2_with fail
            refine T1.out.mono ?_
            rintro e w' ⟨rfl, z⟩
            have HB2 := Lib.hid (HB.out.trans (z.mono HB.out.size))
            clear z T1
            go_wp2_with fail
            go_roundw
            case rel => exact ⟨j + 1, q, by omega, by omega, by go_num, rfl, HC2, HB2⟩
            case measure => simp [intOf]; omega
        · obtain rfl : j = N := by omega
          have hdj : decide (j < j) = false := by simp
          obtain rfl : q = sh := by have := HC.out; have := HCNT.out; omega
          have hq0 : decide (0 < q) = true := by rw [decide_eq_true_iff]; exact hpos1
          have hqi : (0 : Int) < (q : Int) := by omega
          have hqz : ¬ (q : Int) = 0 := by omega
          have hm : (j : Int) % (q : Int) = 0 := by have := HPOS.out.2; rw [← Int.natCast_emod, this]; rfl
          have hm2 : (j : Int).tmod (q : Int) = 0 := by rw [Int.tmod_eq_emod_of_nonneg (by omega)]; exact hm
          have BF := Lib.hid (B6.out.trans (HB.out.mono B6.out.size))
          clear HC HCNT HPOS HB TT
          go_wp2_with fail
          go_ret
          exact ⟨by simp [hm], BF.out⟩
    · have hb1 : ((np : Int) != 1) = true := by rw [bne_iff_ne]; omega
      have hs0 : sh = 0 := HS0.out (.inr hn1)
      subst hs0
      clear hn1
      go_wp2_with fail
      go_ret
      exact ⟨by simp, B6.out⟩
end Go.Proofs.Ytoncollcefanjaa
