/- The document's Loops and Doubles. -/
import Derived.Test.YtpplhooojfchpaaEGenR
import Derived.BigQuiet
namespace Go.Proofs.Ytpplhooojfchpaa
set_option maxRecDepth 20000
open Go.RowKit
set_option linter.unusedVariables false
section
variable {l b : List Nat}
/-- Does a dart ahead of k lie as d does. -/
def LikeD (l : List Nat) (d y : Nat) : Prop := nameOf l y = nameOf l d ∧ nameOf l (mateN y) = nameOf l (d + 1)
theorem like_iff (l : List Nat) (e : Nat) : (∃ y, y < 2 * e ∧ LikeD l (2 * e) y) ↔ 0 < prN l (lowE l e) (highE l e) e := by
  constructor
  · rintro ⟨y, hy, h1, h2⟩
    have hf : y / 2 < e := by omega
    refine Classical.byContradiction fun hn => ?_
    have h0 : prN l (lowE l e) (highE l e) e = 0 := by omega
    have key : ∀ k, k ≤ e → y / 2 < k → 0 < prN l (lowE l e) (highE l e) k := fun k => by
      induction k with
      | zero => intro _ h; omega
      | succ k ih =>
        intro hk hyk
        by_cases c : y / 2 = k
        · have : prN l (lowE l e) (highE l e) (k + 1) = prN l (lowE l e) (highE l e) k + 1 := by
            refine (num_next _ k).1 ?_
            unfold lowE highE
            rw [mateN_eq] at h2
            by_cases p : y % 2 = 0
            · rw [if_pos p] at h2
              have e1 : 2 * k = y := by omega
              have e2 : 2 * k + 1 = y + 1 := by omega
              rw [e1, h1, h2]
              exact ⟨rfl, rfl⟩
            · rw [if_neg p] at h2
              have e1 : 2 * k = y - 1 := by omega
              have e2 : y - 1 + 1 = y := by omega
              rw [e1, e2, h1, h2]
              exact ⟨Nat.min_comm _ _, Nat.max_comm _ _⟩
          omega
        · have := ih (by omega) (by omega)
          by_cases q : lowE l k = lowE l e ∧ highE l k = highE l e
          · have : prN l (lowE l e) (highE l e) (k + 1) = prN l (lowE l e) (highE l e) k + 1 := (num_next _ k).1 q
            omega
          · have : prN l (lowE l e) (highE l e) (k + 1) = prN l (lowE l e) (highE l e) k := (num_next _ k).2 q
            omega
    have := key e (Nat.le_refl _) hf
    omega
  · intro h
    obtain ⟨f, hf, h1, h2⟩ := num_has h
    unfold lowE at h1
    unfold highE at h2
    have hc : (nameOf l (2 * f) = nameOf l (2 * e) ∧ nameOf l (2 * f + 1) = nameOf l (2 * e + 1)) ∨ (nameOf l (2 * f) = nameOf l (2 * e + 1) ∧ nameOf l (2 * f + 1) = nameOf l (2 * e)) := by omega
    rcases hc with ⟨a1, a2⟩ | ⟨a1, a2⟩
    · refine ⟨2 * f, by omega, a1, ?_⟩
      rw [mateN_eq, if_pos (by omega)]; exact a2
    · refine ⟨2 * f + 1, by omega, a2, ?_⟩
      rw [mateN_eq, if_neg (by omega)]; exact a1
theorem loop_iff (l : List Nat) (e : Nat) : lowE l e = highE l e ↔ nameOf l (2 * e) = nameOf l (2 * e + 1) := by unfold lowE highE; omega
end
set_option maxHeartbeats 4000000 in
theorem reloops_p (A : Option Addr) (c : Nat) (l b : List Nat) (root lone : Int) (w : World) (h : Rd w w.heap.size A l.length (I64 (ofN l))) (hinv : Inv l b) (he : l.length % 2 = 0) (hn : l.length ≤ 100000) :
    Calls Try.prog 21 #[.agg #[.slice A l.length c, .int .i64 root, .int .i64 lone]] w fun e w' => e = .returned (.int .i64 (loopsN l (l.length / 2) : Int)) ∧ Below w.heap.size w w' := by
  have hb0 := (Below.refl w.heap.size w).alloc (Nat.le_refl _) (.cells #[.slice A l.length c, .int .i64 root, .int .i64 lone] 27)
  have h1 := (h.below hb0).lt
  have RN := Lib.hid (rnames_p A c _ l b _ h1 hinv (by omega))
  have HB0 := Lib.hid hb0
  have hs0 : w.heap.size ≤ (w.alloc (.cells #[.slice A l.length c, .int .i64 root, .int .i64 lone] 27)).heap.size := by simp
  have HE := Lib.hid he
  have HZ : Hid (0 = loopsN l 0) := rfl
  clear h hb0 h1 hinv he
  go_enter Try.func21, Try.ntmps21
  go_wp2_with fail
  refine RN.out.mono ?_
  rintro e w2 ⟨An, cn, rfl, hcn, hmn, hown, hb2⟩
  rw [ofN_len, names_len] at hown hcn ⊢
  have HO := Lib.hid hown
  have HB2 := Lib.hid (HB0.out.trans (hb2.mono hs0))
  clear hown hb2 RN HB0 hs0
  go_wp2_with fail
  go_loopw [3, 5] (fun s3 s5 wr => ∃ (q p : Nat), q ≤ l.length ∧ p ≤ q ∧ Hid (q % 2 = 0) ∧ s3 = .int .i64 (p : Int) ∧ s5 = .int .i64 (q : Int) ∧ Hid (p = loopsN l (q / 2)) ∧ Hid (Below w2.heap.size w2 wr)) (fun _ s5 _ => l.length - (intOf s5).toNat)
  case atStart => exact ⟨0, 0, by omega, by omega, rfl, rfl, rfl, HZ, Below.refl _ _⟩
  case round =>
    obtain ⟨q, p, hq, hpq, HQ, rfl, rfl, HP, HB⟩ := hrel
    by_cases hlt : q < l.length
    · have hlt2 : q + 1 < l.length := by have := HQ.out; have := HE.out; omega
      obtain ⟨gn, rfl, hgn, hgn'⟩ := own_some HO.out (by omega)
      have hO := own_below HO.out HB.out
      have c0 := own_cellI hO q hlt
      have c1 := own_cellI hO (q + 1) hlt2
      rw [ofN_get, names_get _ _ hlt] at c0
      rw [ofN_get, names_get _ _ hlt2] at c1
      have hdq : decide (q < l.length) = true := by rw [decide_eq_true_iff]; exact hlt
      have wq : IntKind.i64.wrap ((q : Int) + 1) = (q : Int) + 1 := by simp [IntKind.wrap, IntKind.signed, IntKind.bits]; omega
      have hqI : (q : Int) + 1 < (l.length : Int) := by omega
      have NX := Lib.hid (loopsN_next l (q / 2))
      have LI : Hid (lowE l (q / 2) = highE l (q / 2) ↔ nameOf l q = nameOf l (q + 1)) := by
        have := loop_iff l (q / 2)
        rwa [show 2 * (q / 2) = q by have := HQ.out; omega] at this
      have hq2 : Hid ((q + 2) / 2 = q / 2 + 1) := by show _ = _; omega
      have hq3 : Hid ((q + 2) % 2 = 0) := by show _ = _; have := HQ.out; omega
      obtain ⟨x, hx⟩ : ∃ x, x = nameOf l q := ⟨_, rfl⟩
      obtain ⟨y, hy⟩ : ∃ y, y = nameOf l (q + 1) := ⟨_, rfl⟩
      rw [← hx] at c0 LI
      rw [← hy] at c1 LI
      clear hx hy hO
      by_cases e : x = y
      · have eb : ((x : Int) == (y : Int)) = true := by rw [beq_iff_eq]; omega
        have NX2 := Lib.hid (NX.out.1 (LI.out.2 e))
        clear e
        go_wp2_with fail
        go_quiet (fail)
        go_wp2_with fail
        go_roundw
        case rel => exact ⟨q + 2, p + 1, by omega, by omega, hq3.out, by go_num, by go_num, by show _ = _; rw [hq2.out, NX2.out, HP.out], below_draws HB.out _⟩
        case measure => simp [intOf]; omega
      · have eb : ((x : Int) == (y : Int)) = false := by rw [beq_eq_false_iff_ne]; omega
        have NX2 := Lib.hid (NX.out.2 (fun z => e (LI.out.1 z)))
        clear e
        go_wp2_with fail
        go_quiet (fail)
        go_wp2_with fail
        go_roundw
        case rel => exact ⟨q + 2, p, by omega, by omega, hq3.out, rfl, by go_num, by show _ = _; rw [hq2.out, NX2.out, HP.out], below_draws HB.out _⟩
        case measure => simp [intOf]; omega
    · obtain rfl : q = l.length := by omega
      have hdq : decide (l.length < l.length) = false := by simp
      go_wp2_with fail
      go_ret
      exact ⟨by rw [← HP.out]; rfl, HB2.out.trans (HB.out.mono HB2.out.size)⟩
end Go.Proofs.Ytpplhooojfchpaa
