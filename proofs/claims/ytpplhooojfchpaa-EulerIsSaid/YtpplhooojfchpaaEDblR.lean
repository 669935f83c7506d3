/- The document's Doubles: the walk. -/
import Derived.Test.YtpplhooojfchpaaELoopsR
import Derived.BigQuiet
namespace Go.Proofs.Ytpplhooojfchpaa
set_option maxRecDepth 20000
open Go.RowKit
set_option linter.unusedVariables false
set_option maxHeartbeats 8000000 in
theorem redoubles_p (A : Option Addr) (c : Nat) (l b : List Nat) (root lone : Int) (w : World) (h : Rd w w.heap.size A l.length (I64 (ofN l))) (hinv : Inv l b) (he : l.length % 2 = 0) (hn : l.length ≤ 100000) :
    Calls Try.prog 22 #[.agg #[.slice A l.length c, .int .i64 root, .int .i64 lone]] w fun e w' => e = .returned (.int .i64 (dblN l (l.length / 2) : Int)) ∧ Below w.heap.size w w' := by
  have hb0 := (Below.refl w.heap.size w).alloc (Nat.le_refl _) (.cells #[.slice A l.length c, .int .i64 root, .int .i64 lone] 27)
  have h1 := (h.below hb0).lt
  have RN := Lib.hid (rnames_p A c _ l b _ h1 hinv (by omega))
  have HB0 := Lib.hid hb0
  have hs0 : w.heap.size ≤ (w.alloc (.cells #[.slice A l.length c, .int .i64 root, .int .i64 lone] 27)).heap.size := by simp
  have HE := Lib.hid he
  have HZ : Hid (0 = dblN l 0) := rfl
  clear h hb0 h1 hinv he
  go_enter Try.func22, Try.ntmps22
  go_wp2_with fail
  refine RN.out.mono ?_
  rintro e w2 ⟨An, cn, rfl, hcn, hmn, hown, hb2⟩
  rw [ofN_len, names_len] at hown hcn ⊢
  have HO := Lib.hid hown
  have HB2 := Lib.hid (HB0.out.trans (hb2.mono hs0))
  clear hown hb2 RN HB0 hs0
  go_wp2_with fail
  go_loopw [3, 5] (fun s3 s5 wr => ∃ (q p : Nat), q ≤ l.length ∧ p ≤ q ∧ Hid (q % 2 = 0) ∧ s3 = .int .i64 (p : Int) ∧ s5 = .int .i64 (q : Int) ∧ Hid (p = dblN l (q / 2)) ∧ Hid (Below w2.heap.size w2 wr)) (fun _ s5 _ => l.length - (intOf s5).toNat)
  case atStart => exact ⟨0, 0, by omega, by omega, rfl, rfl, rfl, HZ, Below.refl _ _⟩
  case round =>
    obtain ⟨q, p, hq, hpq, HQ, rfl, rfl, HP, HB⟩ := hrel
    by_cases hlt : q < l.length
    · have hlt2 : q + 1 < l.length := by have := HQ.out; have := HE.out; omega
      obtain ⟨gn, rfl, hgn, hgn'⟩ := own_some HO.out (by omega)
      have hdq : decide (q < l.length) = true := by rw [decide_eq_true_iff]; exact hlt
      have wq : IntKind.i64.wrap ((q : Int) + 1) = (q : Int) + 1 := by simp [IntKind.wrap, IntKind.signed, IntKind.bits]; omega
      have hqI : (q : Int) + 1 < (l.length : Int) := by omega
      have NX := Lib.hid (num_next (fun e => lowE l e ≠ highE l e ∧ 0 < prN l (lowE l e) (highE l e) e) (q / 2))
      have hqq : 2 * (q / 2) = q := by have := HQ.out; omega
      have LI := Lib.hid (loop_iff l (q / 2))
      have LK := Lib.hid (like_iff l (q / 2))
      rw [hqq] at LI LK
      have hq2 : Hid ((q + 2) / 2 = q / 2 + 1) := by show _ = _; omega
      have hq3 : Hid ((q + 2) % 2 = 0) := by show _ = _; have := HQ.out; omega
      have DX : Hid (dblN l (q / 2 + 1) = num (fun e => lowE l e ≠ highE l e ∧ 0 < prN l (lowE l e) (highE l e) e) (q / 2 + 1) ∧ dblN l (q / 2) = num (fun e => lowE l e ≠ highE l e ∧ 0 < prN l (lowE l e) (highE l e) e) (q / 2)) := ⟨rfl, rfl⟩
      have HTX : Hid (∀ y, LikeD l q y ↔ (nameOf l y = nameOf l q ∧ nameOf l (mateN y) = nameOf l (q + 1))) := fun y => Iff.rfl
      clear hqq
      obtain ⟨nd, hnd⟩ : ∃ nd, nd = nameOf l q := ⟨_, rfl⟩
      obtain ⟨ne, hne⟩ : ∃ ne, ne = nameOf l (q + 1) := ⟨_, rfl⟩
      rw [← hnd, ← hne] at LI HTX
      have HND := Lib.hid hnd
      have HNE := Lib.hid hne
      clear hnd hne
      go_wp2_with fail
      go_loopw [6, 7] (fun s6 s7 wr => ∃ (t : Bool) (x : Nat), x ≤ q ∧ s6 = .bool t ∧ s7 = .int .i64 (x : Int) ∧ Hid (t = true ↔ ∃ y, y < x ∧ LikeD l q y) ∧ Hid (Below w2.heap.size w2 wr)) (fun _ s7 _ => q - (intOf s7).toNat)
      case atStart => exact ⟨false, 0, by omega, rfl, rfl, ⟨fun c => (by cases c), fun ⟨y, hy, _⟩ => absurd hy (by omega)⟩, HB⟩
      case round =>
        clear HB
        obtain ⟨t, x, hx, rfl, rfl, HT, HB⟩ := hrel
        by_cases hxq : x < q
        · have hdx : decide (x < q) = true := by rw [decide_eq_true_iff]; exact hxq
          have hml : mateN x < l.length := mateN_lt HE.out (by omega)
          have hO := own_below HO.out HB.out
          have cx := own_cellI hO x (by omega)
          have cd := own_cellI hO q hlt
          have ce := own_cellI hO (q + 1) hlt2
          have cm := own_cellI hO (mateN x) hml
          rw [ofN_get, names_get _ _ (by omega)] at cx cd ce cm
          rw [← HND.out] at cd
          rw [← HNE.out] at ce
          have HS : Hid (∀ t' : Bool, (t' = true ↔ t = true ∨ LikeD l q x) → (t' = true ↔ ∃ y, y < x + 1 ∧ LikeD l q y)) := fun t' ht => by
            rw [ht, HT.out]
            constructor
            · rintro (⟨y, h1, h2⟩ | h)
              · exact ⟨y, by omega, h2⟩
              · exact ⟨x, by omega, h⟩
            · rintro ⟨y, h1, h2⟩
              by_cases e : y = x
              · subst e; exact .inr h2
              · exact .inl ⟨y, by omega, h2⟩
          have HTI := Lib.hid (HTX.out x)
          have MT := Lib.hid (fun W => rmate_p x W (by omega))
          obtain ⟨nx, hnx⟩ : ∃ nx, nx = nameOf l x := ⟨_, rfl⟩
          obtain ⟨nm, hnm⟩ : ∃ nm, nm = nameOf l (mateN x) := ⟨_, rfl⟩
          rw [← hnx] at cx HTI
          rw [← hnm] at cm HTI
          clear hnx hnm hO
          generalize mateN x = mx at *
          cases t with
          | true =>
            have HS2 := Lib.hid (HS.out true ⟨fun _ => .inl rfl, fun _ => rfl⟩)
            go_wp2_with fail
            go_quiet (fail)
            go_wp2_with fail
            go_roundw
            case rel => exact ⟨true, x + 1, by omega, rfl, by go_num, ⟨fun _ => HS2.out.1 (by first | rfl | trivial), fun _ => rfl⟩, below_draws HB.out _⟩
            case measure => simp [intOf]; omega
          | false =>
            by_cases e1 : nx = nd
            · have eb1 : ((nx : Int) == (nd : Int)) = true := by rw [beq_iff_eq]; omega
              by_cases e2 : nm = ne
              · have eb2 : ((nm : Int) == (ne : Int)) = true := by rw [beq_iff_eq]; omega
                have HS2 := Lib.hid (HS.out true ⟨fun _ => .inr (HTI.out.2 ⟨e1, e2⟩), fun _ => rfl⟩)
                clear e1 e2
                go_wp2_with fail
                go_quiet ((go_at_call 43; exact Calls.quiet_of_same ((MT.out _).mono fun e w' ⟨he, hw⟩ => ⟨he, hw.symm⟩)))
                go_wp2_with fail
                go_roundw
                case rel => exact ⟨true, x + 1, by omega, rfl, by go_num, ⟨fun _ => HS2.out.1 (by first | rfl | trivial), fun _ => rfl⟩, below_draws HB.out _⟩
                case measure => simp [intOf]; omega
              · have eb2 : ((nm : Int) == (ne : Int)) = false := by rw [beq_eq_false_iff_ne]; omega
                have HS2 := Lib.hid (HS.out false ⟨fun h => (by cases h), fun h => (h.elim (fun h => (by cases h)) fun h => absurd (HTI.out.1 h).2 e2)⟩)
                clear e1 e2
                go_wp2_with fail
                go_quiet ((go_at_call 43; exact Calls.quiet_of_same ((MT.out _).mono fun e w' ⟨he, hw⟩ => ⟨he, hw.symm⟩)))
                go_wp2_with fail
                go_roundw
                case rel => exact ⟨false, x + 1, by omega, rfl, by go_num, HS2.out, below_draws HB.out _⟩
                case measure => simp [intOf]; omega
            · have eb1 : ((nx : Int) == (nd : Int)) = false := by rw [beq_eq_false_iff_ne]; omega
              have HS2 := Lib.hid (HS.out false ⟨fun h => (by cases h), fun h => (h.elim (fun h => (by cases h)) fun h => absurd (HTI.out.1 h).1 e1)⟩)
              clear e1
              go_wp2_with fail
              go_quiet ((go_at_call 43; exact Calls.quiet_of_same ((MT.out _).mono fun e w' ⟨he, hw⟩ => ⟨he, hw.symm⟩)))
              go_wp2_with fail
              go_roundw
              case rel => exact ⟨false, x + 1, by omega, rfl, by go_num, HS2.out, below_draws HB.out _⟩
              case measure => simp [intOf]; omega
        · obtain rfl : x = q := by omega
          have hdx : decide (x < x) = false := by simp
          have hO := own_below HO.out HB.out
          have cd := own_cellI hO x hlt
          have ce := own_cellI hO (x + 1) hlt2
          rw [ofN_get, names_get _ _ (by omega)] at cd ce
          rw [← HND.out] at cd
          rw [← HNE.out] at ce
          have HTL : Hid (t = true ↔ 0 < prN l (lowE l (x / 2)) (highE l (x / 2)) (x / 2)) := HT.out.trans LK.out
          clear hO hxq
          cases t with
          | false =>
            have NX2 := Lib.hid (NX.out.2 (fun z => by have := HTL.out.2 z.2; cases this))
            go_wp2_with fail
            go_quiet (fail)
            go_wp2_with fail
            go_roundw
            case rel => exact ⟨x + 2, p, by omega, by omega, hq3.out, rfl, by go_num, by show _ = _; rw [hq2.out, DX.out.1, NX2.out, ← DX.out.2, HP.out], below_draws HB.out _⟩
            case measure => simp [intOf]; omega
          | true =>
            by_cases e : nd = ne
            · have eb : ((nd : Int) != (ne : Int)) = false := by rw [bne_eq_false_iff_eq]; omega
              have NX2 := Lib.hid (NX.out.2 (fun z => z.1 (LI.out.2 e)))
              clear e
              go_wp2_with fail
              go_quiet (fail)
              go_wp2_with fail
              go_roundw
              case rel => exact ⟨x + 2, p, by omega, by omega, hq3.out, rfl, by go_num, by show _ = _; rw [hq2.out, DX.out.1, NX2.out, ← DX.out.2, HP.out], below_draws HB.out _⟩
              case measure => simp [intOf]; omega
            · have eb : ((nd : Int) != (ne : Int)) = true := by rw [bne_iff_ne]; omega
              have NX2 := Lib.hid (NX.out.1 ⟨fun z => e (LI.out.1 z), HTL.out.1 rfl⟩)
              clear e
              go_wp2_with fail
              go_quiet (fail)
              go_wp2_with fail
              go_roundw
              case rel => exact ⟨x + 2, p + 1, by omega, by omega, hq3.out, by go_num, by go_num, by show _ = _; rw [hq2.out, DX.out.1, NX2.out, ← DX.out.2, HP.out], below_draws HB.out _⟩
              case measure => simp [intOf]; omega
    · obtain rfl : q = l.length := by omega
      have hdq : decide (l.length < l.length) = false := by simp
      go_wp2_with fail
      go_ret
      exact ⟨by rw [← HP.out]; rfl, HB2.out.trans (HB.out.mono HB2.out.size)⟩
end Go.Proofs.Ytpplhooojfchpaa
