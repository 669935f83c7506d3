/- ParenOnce: the directory is made once. -/
import Derived.Test.YtdpejjokdncfnaaDoorQPst
import Derived.Test.YtdpejjokdncfnaaDoorQLow
namespace Go.Proofs.YtdpejjokdncfnaaDoor
open Go.RowKit
set_option linter.unusedVariables false
set_option maxRecDepth 20000
set_option maxHeartbeats 16000000 in
theorem parenOnce_walk (A0 A3 : Option Addr) (n0 c0 n3 c3 pr : Nat) (bs : List Nat) (z : List Int) (w : World) (hT : Nul w)
    (h0 : Rd w w.heap.size A0 n0 (U8 bs)) (hbs : ∀ b ∈ bs, b < 256) (hn0 : n0 ≤ c0) (hc0 : c0 ≤ maxLen) (hpr : pr < 65536)
    (h3 : Rd w w.heap.size A3 n3 (I64 z)) (hz : ∀ i, -9223372036854775808 ≤ z.getD i 0 ∧ z.getD i 0 ≤ 9223372036854775807) (hn3 : n3 ≤ c3) (hc3 : c3 ≤ maxLen) :
    Calls Tryd.prog 6 #[.int .u16 (pr : Int), .slice A0 n0 c0, .slice A3 n3 c3] w fun e w' => e = .returned (.bool true) ∧ Below w.heap.size w w' := by
  unfold maxLen at hc0 hc3
  have AW := Lib.hid (qawake_p w hT)
  have HT := Lib.hid hT
  have H0 := Lib.hid h0
  have HBS := Lib.hid hbs
  obtain ⟨P, hP, hP9⟩ : ∃ P : Nat, (pr : Int) % 1500 = (P : Int) ∧ P ≤ 1499 := ⟨pr % 1500, by omega, by omega⟩
  have H3 := Lib.hid h3
  have HZ := Lib.hid hz
  clear hT h0 hbs h3 hz
  go_enter Tryd.func6, Tryd.ntmps6
  go_wp2_with fail
  refine AW.out.mono ?_
  rintro e w1 ⟨rfl, b1⟩
  have AN := Lib.hid (any_p A0 n0 c0 P bs w1 ((H0.out.below b1).up b1.size) HBS.out (by omega) (by omega))
  have B1 := Lib.hid b1
  clear b1 AW
  go_wp2_with fail
  refine AN.out.mono ?_
  rintro e w2 ⟨l, A, c, hbin, hlen, hbal, rfl, hmc, hcm, own2, b2⟩
  obtain ⟨N, hN⟩ : ∃ N, 2 * P = N := ⟨_, rfl⟩
  rw [hN] at hlen hbal hmc own2 ⊢
  have hN9 : N ≤ 3000 := by omega
  have MD := Lib.hid (qmade_p A N c l w2 (Rd.ofOwn own2) hbin (by omega))
  have R2 := Lib.hid (Rd.ofOwn own2)
  have B2 : Hid (Below w.heap.size w w2) := B1.out.trans (b2.mono B1.out.size)
  have HBIN := Lib.hid hbin
  have HBAL := Lib.hid hbal
  clear hbin hlen hbal own2 b2 AN B1 hN
  go_wp2_with fail
  refine MD.out.mono ?_
  rintro e w3 (⟨_, p, g, rfl, hp, hg, b3⟩ | ⟨hno, _⟩)
  case inr => exact absurd HBAL.out hno
  have PS3 : Hid (Pst w w3 p g (val l) N 0 false) := ⟨hp, HT.out, by have := B2.out.size; omega, B2.out.trans (b3.mono B2.out.size)⟩
  have BU := Lib.hid (pbuilt_p p g (val l) N 0 false w3 hp)
  rw [show b01 false = 0 from rfl] at BU
  have hpl := hp.lt
  have hgp := hp.1
  clear hp hg b3 MD R2 B2
  go_wp2_with (go_at_call 24; refine BU.out.mono ?_; rintro e w' ⟨rfl, rfl⟩)
  go_loopw [10, 46] (fun x v wr => ∃ (k q : Nat) (d : Bool), k ≤ n3 ∧ k ≤ 20 ∧ q ≤ 4 * k ∧ x = .int .i64 (b01 d) ∧ v = .int .i64 (k : Int) ∧ Hid (Pst w wr p g (val l) N q d)) (fun _ v _ => n3 - (intOf v).toNat)
  case atStart => exact ⟨0, 0, false, by omega, by omega, by omega, rfl, rfl, PS3.out⟩
  case round =>
    clear BU PS3
    obtain ⟨k, q, d, hk, hk20, hq, rfl, rfl, hps⟩ := hrel
    obtain ⟨bd, hbd⟩ : ∃ bd, b01 d = bd := ⟨_, rfl⟩
    have hbd9 : 0 ≤ bd ∧ bd ≤ 1 := by rw [← hbd]; cases d <;> decide
    rw [hbd]
    by_cases hlt : k < n3
    · obtain ⟨b', o, e, hbw, k1⟩ := (H3.out.below hps.out.bel).i64 (by omega)
      subst e
      have t1 := k1 k hlt
      have hv := HZ.out k
      clear k1 hbw
      generalize z.getD k 0 = v at *
      by_cases h20 : k < 20
      · by_cases hm0 : k % 3 = 0
        · have hmI : (k : Int) % 3 = 0 := by omega
          clear hm0
          by_cases hyes : 0 ≤ v ∧ v < (N : Int)
          · obtain ⟨hv0, hv1⟩ := hyes
            have hyes := hv0
            obtain ⟨vi, hvi⟩ : ∃ vi : Nat, v = (vi : Int) := ⟨v.toNat, by omega⟩
            subst hvi
            have Q := Lib.hid (mate_yes p g (val l) N q d wr vi hps.out.nulr hps.out.hp hps.out.at_ HBAL.out (by omega) (by omega))
            clear hyes
            go_wp2_with fail
            refine Q.out.mono ?_
            rintro e w5 ⟨h5, m5, y5, rfl, _, hy51, hy52⟩
            have PS5 := Lib.hid (hps.out.on h5 m5)
            have BU := Lib.hid (pbuilt_p p g (val l) N (q + 4) true w5 h5)
            rw [show b01 true = 1 from rfl] at BU
            clear h5 m5 Q hps
            go_wp2_with (go_at_call 24; refine BU.out.mono ?_; rintro e w' ⟨rfl, rfl⟩)
            go_roundw
            case rel => exact ⟨k + 1, q + 4, true, by omega, by omega, by omega, rfl, by go_num, PS5.out⟩
            case measure => simp [intOf]; omega
          · have hnc : v < 0 ∨ ¬ (v < (N : Int)) := by omega
            have Q := Lib.hid (mate_no p g (val l) N q d wr v hps.out.at_ (by omega))
            have BU := Lib.hid (pbuilt_p p g (val l) N q d wr hps.out.at_)
            rw [hbd] at BU
            have HBD := Lib.hid hbd
            clear hbd
            by_cases hv0 : 0 ≤ v
            · have hvl : ¬ v ≤ (N : Int) - 1 := by omega
              have hvd : decide (v ≤ (N : Int) - 1) = false := decide_eq_false hvl
              clear hyes hvl
              go_wp2_with (first
                | (go_at_call 19; refine Q.out.mono ?_; rintro e w' ⟨rfl, rfl⟩)
                | (go_at_call 24; refine BU.out.mono ?_; rintro e w' ⟨rfl, rfl⟩))
              go_roundw
              case rel => exact ⟨k + 1, q, d, by omega, by omega, by omega, by rw [HBD.out], by go_num, hps.out⟩
              case measure => simp [intOf]; omega
            · have hvd : decide (0 ≤ v) = false := decide_eq_false hv0
              clear hyes hv0
              go_wp2_with (first
                | (go_at_call 19; refine Q.out.mono ?_; rintro e w' ⟨rfl, rfl⟩)
                | (go_at_call 24; refine BU.out.mono ?_; rintro e w' ⟨rfl, rfl⟩))
              go_roundw
              case rel => exact ⟨k + 1, q, d, by omega, by omega, by omega, by rw [HBD.out], by go_num, hps.out⟩
              case measure => simp [intOf]; omega
        · by_cases hm1 : k % 3 = 1
          · have hmI : (k : Int) % 3 = 1 := by omega
            clear hm0 hm1
            by_cases hyes : 0 ≤ v ∧ v < (N : Int)
            · obtain ⟨hv0, hv1⟩ := hyes
              have hyes := hv0
              obtain ⟨vi, hvi⟩ : ∃ vi : Nat, v = (vi : Int) := ⟨v.toNat, by omega⟩
              subst hvi
              have Q := Lib.hid (round_yes p g (val l) N q d wr vi hps.out.nulr hps.out.hp hps.out.at_ HBAL.out (by omega) (by omega))
              clear hyes
              go_wp2_with fail
              refine Q.out.mono ?_
              rintro e w5 ⟨h5, m5, y5, rfl, _, hy51, hy52⟩
              have PS5 := Lib.hid (hps.out.on h5 m5)
              have BU := Lib.hid (pbuilt_p p g (val l) N (q + 4) true w5 h5)
              rw [show b01 true = 1 from rfl] at BU
              clear h5 m5 Q hps
              go_wp2_with (go_at_call 24; refine BU.out.mono ?_; rintro e w' ⟨rfl, rfl⟩)
              go_roundw
              case rel => exact ⟨k + 1, q + 4, true, by omega, by omega, by omega, rfl, by go_num, PS5.out⟩
              case measure => simp [intOf]; omega
            · have hnc : v < 0 ∨ ¬ (v < (N : Int)) := by omega
              have Q := Lib.hid (round_no p g (val l) N q d wr v hps.out.at_ (by omega))
              have BU := Lib.hid (pbuilt_p p g (val l) N q d wr hps.out.at_)
              rw [hbd] at BU
              have HBD := Lib.hid hbd
              clear hbd
              by_cases hv0 : 0 ≤ v
              · have hvl : ¬ v ≤ (N : Int) - 1 := by omega
                have hvd : decide (v ≤ (N : Int) - 1) = false := decide_eq_false hvl
                clear hyes hvl
                go_wp2_with (first
                  | (go_at_call 20; refine Q.out.mono ?_; rintro e w' ⟨rfl, rfl⟩)
                  | (go_at_call 24; refine BU.out.mono ?_; rintro e w' ⟨rfl, rfl⟩))
                go_roundw
                case rel => exact ⟨k + 1, q, d, by omega, by omega, by omega, by rw [HBD.out], by go_num, hps.out⟩
                case measure => simp [intOf]; omega
              · have hvd : decide (0 ≤ v) = false := decide_eq_false hv0
                clear hyes hv0
                go_wp2_with (first
                  | (go_at_call 20; refine Q.out.mono ?_; rintro e w' ⟨rfl, rfl⟩)
                  | (go_at_call 24; refine BU.out.mono ?_; rintro e w' ⟨rfl, rfl⟩))
                go_roundw
                case rel => exact ⟨k + 1, q, d, by omega, by omega, by omega, by rw [HBD.out], by go_num, hps.out⟩
                case measure => simp [intOf]; omega
          · have hmI : (k : Int) % 3 = 2 := by omega
            clear hm0 hm1
            by_cases hyes : 0 ≤ v ∧ v ≤ (N : Int)
            · obtain ⟨hv0, hv1⟩ := hyes
              have hyes := hv0
              obtain ⟨vi, hvi⟩ : ∃ vi : Nat, v = (vi : Int) := ⟨v.toNat, by omega⟩
              subst hvi
              have Q := Lib.hid (low_yes p g (val l) N q d wr vi vi hps.out.nulr hps.out.hp hps.out.hg hps.out.at_ (by omega) (by omega) (by omega))
              clear hyes
              go_wp2_with fail
              refine Q.out.mono ?_
              rintro e w5 ⟨h5, m5, y5, rfl, _, hy51, hy52⟩
              have PS5 := Lib.hid (hps.out.on h5 m5)
              have BU := Lib.hid (pbuilt_p p g (val l) N (q + 4) true w5 h5)
              rw [show b01 true = 1 from rfl] at BU
              clear h5 m5 Q hps
              go_wp2_with (go_at_call 24; refine BU.out.mono ?_; rintro e w' ⟨rfl, rfl⟩)
              go_roundw
              case rel => exact ⟨k + 1, q + 4, true, by omega, by omega, by omega, rfl, by go_num, PS5.out⟩
              case measure => simp [intOf]; omega
            · have hnc : v < 0 ∨ ¬ (v ≤ (N : Int)) := by omega
              have Q := Lib.hid (low_no p g (val l) N q d wr v v hps.out.at_ (by omega))
              have BU := Lib.hid (pbuilt_p p g (val l) N q d wr hps.out.at_)
              rw [hbd] at BU
              have HBD := Lib.hid hbd
              clear hbd
              by_cases hv0 : 0 ≤ v
              · have hvl : ¬ v ≤ (N : Int) := by omega
                have hvd : decide (v ≤ (N : Int)) = false := decide_eq_false hvl
                clear hyes hvl
                go_wp2_with (first
                  | (go_at_call 22; refine Q.out.mono ?_; rintro e w' ⟨rfl, rfl⟩)
                  | (go_at_call 24; refine BU.out.mono ?_; rintro e w' ⟨rfl, rfl⟩))
                go_roundw
                case rel => exact ⟨k + 1, q, d, by omega, by omega, by omega, by rw [HBD.out], by go_num, hps.out⟩
                case measure => simp [intOf]; omega
              · have hvd : decide (0 ≤ v) = false := decide_eq_false hv0
                clear hyes hv0
                go_wp2_with (first
                  | (go_at_call 22; refine Q.out.mono ?_; rintro e w' ⟨rfl, rfl⟩)
                  | (go_at_call 24; refine BU.out.mono ?_; rintro e w' ⟨rfl, rfl⟩))
                go_roundw
                case rel => exact ⟨k + 1, q, d, by omega, by omega, by omega, by rw [HBD.out], by go_num, hps.out⟩
                case measure => simp [intOf]; omega
      · obtain rfl : k = 20 := by omega
        go_wp2_with fail
        go_loop [15] (fun x => ∃ L h : Nat, x = .int .i64 (L : Int) ∧ 1 ≤ L ∧ L ≤ 4096 ∧ Hid (L = 2 ^ h ∧ ∀ j, j < h → 2 ^ j * 512 < N)) (fun x => N - (intOf x).toNat)
        case atStart => exact ⟨1, 0, rfl, by omega, by omega, ⟨rfl, fun j hj => by omega⟩⟩
        case round =>
          obtain ⟨L, h, rfl, hL1, hL9, hLh⟩ := hrel
          by_cases hmore : L * 512 < N
          · have NX : Hid (L * 2 = 2 ^ (h + 1) ∧ ∀ j, j < h + 1 → 2 ^ j * 512 < N) := ⟨by rw [pow_up, ← hLh.out.1]; omega, fun j hj => by
              by_cases e : j = h
              · rw [e, ← hLh.out.1]; exact hmore
              · exact hLh.out.2 j (by omega)⟩
            have hmI : (L : Int) * 512 < (N : Int) := by omega
            go_wp2_with fail
            go_round
            case rel => exact ⟨L * 2, h + 1, by go_num, by omega, by omega, NX.out⟩
            case measure => simp [intOf]; omega
          · have LV : Hid (Lvs ((N + 511) / 512) h) := ⟨by rw [← hLh.out.1]; omega, fun j hj => by have := hLh.out.2 j hj; omega⟩
            have hmI : decide ((L : Int) * 512 < (N : Int)) = false := decide_eq_false (by omega)
            have SZ := Lib.hid (psize_p p g (val l) N q wr hps.out.at_.ix)
            have MN := Lib.hid fun w' => mate_nil 0 (by omega) w'
            have RN := Lib.hid fun w' => round_nil 0 (by omega) w'
            have LN := Lib.hid fun w' => low_nil 0 0 w'
            have EN := Lib.hid fun w' => pexc_nil 0 w'
            have PN := Lib.hid fun w' => plen_nil w'
            have SN := Lib.hid fun w' => psize_nil w'
            have BN := Lib.hid fun w' => pbuilt_nil w'
            have ON := Lib.hid fun w' => popen_nil 0 w'
            have HLH := Lib.hid hLh.out.1
            clear hLh hmore
            go_wp2_with (first
              | (go_at_call 19; refine (MN.out _).mono ?_; rintro e w' ⟨rfl, rfl⟩)
              | (go_at_call 20; refine (RN.out _).mono ?_; rintro e w' ⟨rfl, rfl⟩)
              | (go_at_call 22; refine (LN.out _).mono ?_; rintro e w' ⟨rfl, rfl⟩)
              | (go_at_call 21; refine (EN.out _).mono ?_; rintro e w' ⟨rfl, rfl⟩))
            refine SZ.out.mono ?_
            rintro e w' ⟨M, H, rfl, hM, hM9, hlv, rfl⟩
            obtain rfl := hlv.uniq LV.out
            have hML : (M : Int) = 2 * (L : Int) - 1 := by have := HLH.out; omega
            have hMb : (64 * (M : Int) == 64 * (2 * (L : Int) - 1)) = true := by rw [hML]; exact beq_self_eq_true _
            rw [hML]
            clear hM hlv hML hMb SZ
            go_wp2_with (first
              | (go_at_call 15; refine (PN.out _).mono ?_; rintro e w' ⟨rfl, rfl⟩)
              | (go_at_call 25; refine (SN.out _).mono ?_; rintro e w' ⟨rfl, rfl⟩)
              | (go_at_call 24; refine (BN.out _).mono ?_; rintro e w' ⟨rfl, rfl⟩)
              | (go_at_call 14; refine (ON.out _).mono ?_; rintro e w' ⟨rfl, rfl⟩))
            go_ret
            exact ⟨rfl, hps.out.bel⟩
    · obtain rfl : k = n3 := by omega
      have hltb : decide ((k : Int) < (k : Int)) = false := decide_eq_false (by omega)
      go_wp2_with fail
      go_loop [15] (fun x => ∃ L h : Nat, x = .int .i64 (L : Int) ∧ 1 ≤ L ∧ L ≤ 4096 ∧ Hid (L = 2 ^ h ∧ ∀ j, j < h → 2 ^ j * 512 < N)) (fun x => N - (intOf x).toNat)
      case atStart => exact ⟨1, 0, rfl, by omega, by omega, ⟨rfl, fun j hj => by omega⟩⟩
      case round =>
        obtain ⟨L, h, rfl, hL1, hL9, hLh⟩ := hrel
        by_cases hmore : L * 512 < N
        · have NX : Hid (L * 2 = 2 ^ (h + 1) ∧ ∀ j, j < h + 1 → 2 ^ j * 512 < N) := ⟨by rw [pow_up, ← hLh.out.1]; omega, fun j hj => by
            by_cases e : j = h
            · rw [e, ← hLh.out.1]; exact hmore
            · exact hLh.out.2 j (by omega)⟩
          have hmI : (L : Int) * 512 < (N : Int) := by omega
          go_wp2_with fail
          go_round
          case rel => exact ⟨L * 2, h + 1, by go_num, by omega, by omega, NX.out⟩
          case measure => simp [intOf]; omega
        · have LV : Hid (Lvs ((N + 511) / 512) h) := ⟨by rw [← hLh.out.1]; omega, fun j hj => by have := hLh.out.2 j hj; omega⟩
          have hmI : decide ((L : Int) * 512 < (N : Int)) = false := decide_eq_false (by omega)
          have SZ := Lib.hid (psize_p p g (val l) N q wr hps.out.at_.ix)
          have MN := Lib.hid fun w' => mate_nil 0 (by omega) w'
          have RN := Lib.hid fun w' => round_nil 0 (by omega) w'
          have LN := Lib.hid fun w' => low_nil 0 0 w'
          have EN := Lib.hid fun w' => pexc_nil 0 w'
          have PN := Lib.hid fun w' => plen_nil w'
          have SN := Lib.hid fun w' => psize_nil w'
          have BN := Lib.hid fun w' => pbuilt_nil w'
          have ON := Lib.hid fun w' => popen_nil 0 w'
          have HLH := Lib.hid hLh.out.1
          clear hLh hmore
          go_wp2_with (first
            | (go_at_call 19; refine (MN.out _).mono ?_; rintro e w' ⟨rfl, rfl⟩)
            | (go_at_call 20; refine (RN.out _).mono ?_; rintro e w' ⟨rfl, rfl⟩)
            | (go_at_call 22; refine (LN.out _).mono ?_; rintro e w' ⟨rfl, rfl⟩)
            | (go_at_call 21; refine (EN.out _).mono ?_; rintro e w' ⟨rfl, rfl⟩))
          refine SZ.out.mono ?_
          rintro e w' ⟨M, H, rfl, hM, hM9, hlv, rfl⟩
          obtain rfl := hlv.uniq LV.out
          have hML : (M : Int) = 2 * (L : Int) - 1 := by have := HLH.out; omega
          have hMb : (64 * (M : Int) == 64 * (2 * (L : Int) - 1)) = true := by rw [hML]; exact beq_self_eq_true _
          rw [hML]
          clear hM hlv hML hMb SZ
          go_wp2_with (first
            | (go_at_call 15; refine (PN.out _).mono ?_; rintro e w' ⟨rfl, rfl⟩)
            | (go_at_call 25; refine (SN.out _).mono ?_; rintro e w' ⟨rfl, rfl⟩)
            | (go_at_call 24; refine (BN.out _).mono ?_; rintro e w' ⟨rfl, rfl⟩)
            | (go_at_call 14; refine (ON.out _).mono ?_; rintro e w' ⟨rfl, rfl⟩))
          go_ret
          exact ⟨rfl, hps.out.bel⟩
end Go.Proofs.YtdpejjokdncfnaaDoor
