/- The walk of the statement on a permutation taken many times. -/
import Derived.Test.YtgofopkilpihlaaPTimesM
namespace Go.Proofs.Ytgofopkilpihlaa
open Go.RowKit
set_option linter.unusedVariables false

set_option maxRecDepth 100000 in
set_option maxHeartbeats 8000000 in
theorem permTimes_walk (n n1 c1 : Nat) (A1 : Option Addr) (x1 : List Int) (w : World) (hn : n < 256)
    (h1 : Rd w w.heap.size A1 n1 (Z8 x1)) (b1 : ∀ x ∈ x1, 0 ≤ x ∧ x < 256) (l1 : n1 ≤ 9223372036854775807) :
    Calls Try.prog 7 #[.int .u8 (n : Int), .slice A1 n1 c1] w fun e w' => e = .returned (.bool true) ∧ Below w.heap.size w w' := by
  obtain ⟨k, hk, hk9⟩ : ∃ k : Nat, (n : Int) % 9 = (k : Int) ∧ k < 9 := ⟨n % 9, by omega, by omega⟩
  go_enter Try.func7, Try.ntmps7
  go_wp2_with fail
  refine (awake_p _).mono ?_
  rintro e w1 ⟨rfl, hb1⟩
  go_wp2_with fail
  refine (mix_p k n1 c1 _ A1 x1 _ (h1.below hb1) b1 (by omega) l1).mono ?_
  rintro e w2 ⟨l, b, il, hll, D, kD, rfl, hkD, hmD, hown2, hb2⟩
  have hB := hb1.trans (hb2.mono hb1.size)
  have rl := Rd.ofOwn hown2
  clear h1 b1 hown2 hb1 hb2
  rw [ofN_len] at rl hkD ⊢
  obtain rfl := hll
  go_wp2_with fail
  refine (of_good D _ _ _ l b _ rl il (by omega)).mono ?_
  rintro e w3 ⟨g, rfl, hp, hb3⟩
  have hB := hB.trans (hb3.mono hB.size)
  clear hb3 rl
  go_wp2_with fail
  refine (orbits_p g l b _ hp).mono ?_
  rintro e w5 ⟨F, kF, vs, rfl, hkF, hov, hrows, hb5⟩
  have hB := hB.trans (hb5.mono hB.size)
  have hp := hp.below hb5
  have ro := Rd.ofOwn hov
  clear hov hb5
  have HIL := Lib.hid il
  have HROWS := Lib.hid hrows
  obtain ⟨M, hM⟩ : ∃ M, M = (orbits l).length := ⟨_, rfl⟩
  have HM := Lib.hid hM
  have hMl : M ≤ 9 := by
    have : (orbits l).length ≤ l.length := by
      unfold orbits leads
      rw [List.length_map]
      exact Nat.le_trans (List.length_filter_le _ _) (by rw [List.length_range]; exact Nat.le_refl _)
    omega
  rw [← hM] at ro hkF ⊢
  clear hM hrows
  have HT : Hid (∀ k, k ≤ M → 1 ≤ tl l k ∧ tl l k ≤ 840) := fun k hk => tl_pos HIL.out (by omega) k (by rw [← HM.out]; exact hk)
  have HLEN : Hid (∀ k, k < M → 1 ≤ olen l k ∧ olen l k ≤ l.length) := fun k hk => olen_pos HIL.out (by rw [← HM.out]; exact hk)
  go_wp2_with fail
  go_loopw [8, 32] (fun s v wr => ∃ k S : Nat, k ≤ M ∧ Hid (S = tl l k) ∧ 1 ≤ S ∧ S ≤ 840 ∧ s = .int .i64 (S : Int) ∧ v = .int .i64 (k : Int) ∧ Below w5.heap.size w5 wr) (fun _ v _ => M - (intOf v).toNat)
  case atStart => exact ⟨0, 1, by omega, rfl, by omega, by omega, rfl, rfl, Below.refl _ _⟩
  case round =>
    obtain ⟨k, S, hk, hS, hS1, hS8, rfl, rfl, hbl⟩ := hrel
    have roR := ro.more hbl
    have hpR := hp.below hbl
    have hBR := hB.trans (hbl.mono hB.size)
    have hrR := HROWS.out.below hbl
    by_cases hlt : k < M
    · obtain ⟨Ak, ck, hvk, hck, hok⟩ := hrR.2 k (by rw [← HM.out]; exact hlt)
      obtain ⟨P, hP⟩ : ∃ P, P = olen l k := ⟨_, rfl⟩
      have hP' : ((orbits l).getD k []).length = P := hP.symm
      obtain ⟨hP1, hP2⟩ := HLEN.out k hlt
      rw [← hP] at hP1 hP2
      rw [hP'] at hvk hck
      have HP := Lib.hid hP
      obtain ⟨bF, oF, rfl, hbF, hcF⟩ := roR.at_ (by omega)
      have hvl : vs.length = M := roR.len
      have tF := hcF k (by rw [hvl]; exact hlt)
      have tk : vs[k]'(by rw [hvl]; exact hlt) = .slice Ak P ck := by
        have h := hvk
        rw [List.getElem?_eq_getElem (by rw [hvl]; exact hlt)] at h
        exact Option.some.inj h
      rw [tk] at tF
      have HTN := HT.out (k + 1) (by omega)
      have HNEXT : Hid (∀ G, G = Nat.gcd S P → S / G * P = tl l (k + 1)) := fun G hG => by
        rw [lcm_step S P G hG]
        show _ = Nat.lcm (tl l k) (olen l k)
        rw [hS.out, HP.out]
      have HTN' := Lib.hid HTN
      clear tk hcF hvk hP hP' hrR hvl roR hok HTN
      go_wp2_with fail
      go_loopw [11, 12] (fun s v wx => ∃ a c : Nat, s = .int .i64 (a : Int) ∧ v = .int .i64 (c : Int) ∧ Hid (Nat.gcd a c = Nat.gcd S P) ∧ a ≤ 840 ∧ c ≤ 840 ∧ Below wr.heap.size wr wx) (fun _ v _ => (intOf v).toNat)
      case atStart => exact ⟨S, P, rfl, rfl, rfl, by omega, by omega, Below.refl _ _⟩
      case round =>
        rename_i wr0 _
        obtain ⟨a, c, rfl, rfl, hg, ha, hc, hbx⟩ := hrel
        by_cases hc0 : 0 < c
        · have hmod : Int.tmod (a : Int) (c : Int) = ((a % c : Nat) : Int) := rfl
          have hlt2 := Nat.mod_lt a hc0
          have HG : Hid (Nat.gcd c (a % c) = Nat.gcd S P) := by
            show _ = _
            rw [Nat.gcd_comm c, ← Nat.gcd_rec, Nat.gcd_comm c a]
            exact hg.out
          go_wp2_with fail
          go_region
          go_wp2
          go_roundw
          case rel => exact ⟨c, a % c, rfl, by go_num, HG, by omega, by omega, hbx.drew⟩
          case measure => simp [intOf]; omega
        · obtain rfl : c = 0 := by omega
          have hga : a = Nat.gcd S P := by rw [← hg.out, Nat.gcd_zero_right]
          have ha1 : 1 ≤ a := by rw [hga]; exact Nat.gcd_pos_of_pos_left _ (by omega)
          have hmulN := HNEXT.out a hga
          obtain ⟨hT1, hT2⟩ := HTN'.out
          obtain ⟨T, hTT⟩ : ∃ T, T = tl l (k + 1) := ⟨_, rfl⟩
          obtain ⟨Q, hQ⟩ : ∃ Q, Q = S / a := ⟨_, rfl⟩
          have hdiv : Int.tdiv (S : Int) (a : Int) = (Q : Int) := by rw [hQ]; rfl
          rw [← hTT] at hmulN hT1 hT2
          rw [← hQ] at hmulN
          have hQS : Q ≤ 840 := by rw [hQ]; exact Nat.le_trans (Nat.div_le_self _ _) hS8
          have hmul : (Q : Int) * (P : Int) = (T : Int) := by rw [← hmulN]; simp
          have HTT := Lib.hid hTT
          clear hTT hQ hmulN hga hg hc0
          go_wp2
          go_roundw
          case rel => exact ⟨k + 1, T, by omega, HTT.out, hT1, hT2, by go_num, by go_num, hbl.trans (hbx.mono hbl.size)⟩
          case measure => simp [intOf]; omega
    · obtain rfl : k = M := by omega
      go_wp2_with fail
      have ONE : Hid (∀ w', Calls Try.prog 29 #[.int .i64 (l.length : Int)] w' (NewP w' (oneL l.length) (oneL l.length))) := fun w' => by
        have := one_p (l.length : Int) w' (by omega) (by omega)
        rwa [Int.toNat_natCast] at this
      have HBK : Hid (pw l S = oneL l.length) := by show _ = _; rw [hS.out, HM.out]; exact pw_back HIL.out
      have HNT : Hid (∀ q, 0 < q → q < S → pw l q ≠ oneL l.length) := fun q h1 h2 => pw_not HIL.out q h1 (by rw [← HM.out, ← hS.out]; exact h2)
      clear roR hrR HT HLEN hS
      refine (ONE.out _).mono ?_
      rintro e w6 ⟨g6, rfl, hp6, hb6⟩
      rw [← pw_zero] at hp6
      have hp7 := hpR.below hb6
      have hB7 := hBR.trans (hb6.mono hBR.size)
      clear hb6 hpR hBR hbl
      go_wp2_with fail
      go_loopw [13, 56] (fun s v wx => ∃ (q g' : Nat) (b' : List Nat), q ≤ S ∧ s = .pointer (some ⟨g', 0, none⟩) ∧ v = .int .i64 (q : Int) ∧ PermAt wx g' (pw l q) b' ∧ Below w6.heap.size w6 wx) (fun _ v _ => S - (intOf v).toNat)
      case atStart => exact ⟨0, g6, _, by omega, rfl, rfl, hp6, Below.refl _ _⟩
      case round =>
        rename_i wr0 _
        obtain ⟨q, g', b', hq, rfl, rfl, hx, hby⟩ := hrel
        have hpY := hp7.below hby
        by_cases hqS : q < S
        · have STEP : Hid (∀ w', PermAt w' g' (pw l q) b' → PermAt w' g l b → Calls Try.prog 27 #[.pointer (some ⟨g', 0, none⟩), .pointer (some ⟨g, 0, none⟩)] w' (NewP2 w' (pw l (q + 1)) (comp b b'))) := fun w' h h' => by
            have := then_p g' g (pw l q) b' l b w' h h' (pw_len _ _)
            rwa [pw_next] at this
          by_cases hq0 : q = 0
          · subst hq0
            go_wp2_with fail
            refine (STEP.out _ hx hpY).mono ?_
            rintro e w8 ⟨g8, rfl, hp8, hb8⟩
            go_wp2
            go_roundw
            case rel => exact ⟨1, g8, _, by omega, rfl, rfl, hp8, hby.trans (hb8.mono hby.size)⟩
            case measure => simp [intOf]; omega
          · have hq1 : 0 < q := by omega
            have hd := decide_eq_false (HNT.out q hq1 hqS)
            have HD := Lib.hid hd
            clear hd
            go_wp2_with fail
            refine (ONE.out _).mono ?_
            rintro e w8 ⟨g8, rfl, hp8, hb8⟩
            have hx8 := hx.below hb8
            have hpY8 := hpY.below hb8
            have hby8 := hby.trans (hb8.mono hby.size)
            go_wp2_with fail
            refine (same_pp g' g8 _ _ _ _ _ hx8 hp8).mono ?_
            rintro e w9 ⟨rfl, d9, rfl⟩
            rw [HD.out]
            have hx9 := hx8.drewN d9
            have hpY9 := hpY8.drewN d9
            have hby9 := below_draws hby8 d9
            clear hb8 hx8 hpY8 hby8 hp8
            generalize hv9 : World.drewN _ d9 = y9 at *
            clear hv9
            go_wp2_with fail
            refine (STEP.out _ hx9 hpY9).mono ?_
            rintro e w10 ⟨g10, rfl, hp10, hb10⟩
            go_wp2
            go_roundw
            case rel => exact ⟨q + 1, g10, _, by omega, rfl, by go_num, hp10, hby9.trans (hb10.mono hby9.size)⟩
            case measure => simp [intOf]; omega
        · obtain rfl : q = S := by omega
          rw [HBK.out] at hx
          have hBY := hB7.trans (hby.mono hB7.size)
          go_wp2_with fail
          refine (ONE.out _).mono ?_
          rintro e w8 ⟨g8, rfl, hp8, hb8⟩
          have hx8 := hx.below hb8
          have hBY8 := hBY.trans (hb8.mono hBY.size)
          go_wp2_with fail
          refine (same_yes g' g8 _ _ _ _ hx8 hp8).mono ?_
          rintro e w9 ⟨rfl, d9, rfl⟩
          go_wp2
          go_ret
          exact ⟨rfl, below_draws hBY8 d9⟩
end Go.Proofs.Ytgofopkilpihlaa
