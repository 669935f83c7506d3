/- RankOnce: the directory is made once. -/
import Derived.Test.YtbebejkiihlokaaDoorKRow
namespace Go.Proofs.YtbebejkiihlokaaDoor
open Go.RowKit
set_option linter.unusedVariables false
set_option maxRecDepth 20000 in
set_option maxHeartbeats 16000000 in
theorem rankOnce_walk (A0 A3 : Option Addr) (n0 c0 m t n3 c3 : Nat) (bs : List Nat) (z : List Int) (w : World) (hT : Tab w)
    (h0 : Rd w w.heap.size A0 n0 (U8 bs)) (hbs : ∀ b ∈ bs, b < 256) (hn0 : n0 ≤ c0) (hc0 : c0 ≤ maxLen) (hm : m < 256) (ht : t < 65536)
    (h3 : Rd w w.heap.size A3 n3 (I64 z)) (hz : ∀ i, -9223372036854775808 ≤ z.getD i 0 ∧ z.getD i 0 ≤ 9223372036854775807) (hn3 : n3 ≤ c3) (hc3 : c3 ≤ maxLen) :
    Calls Tryd.prog 5 #[.slice A0 n0 c0, .int .u8 (m : Int), .int .u16 (t : Int), .slice A3 n3 c3] w fun e w' => e = .returned (.bool true) ∧ Below w.heap.size w w' := by
  unfold maxLen at hc0 hc3
  have AW := Lib.hid (kawake_p w hT hT.lt)
  have HT := Lib.hid hT
  have H0 := Lib.hid h0
  have H3 := Lib.hid h3
  have HZ := Lib.hid hz
  have HBS := Lib.hid hbs
  clear hT h0 h3 hz hbs
  go_enter Tryd.func5, Tryd.ntmps5
  go_wp2_with fail
  refine AW.out.mono ?_
  rintro e w1 ⟨rfl, b1⟩
  have MD := Lib.hid (made_p A0 n0 c0 w.heap.size m t bs w1 (H0.out.below b1) HBS.out b1.size (by omega) hm ht)
  have B1 := Lib.hid b1
  clear b1 AW
  go_wp2_with fail
  refine MD.out.mono ?_
  rintro e w2 hmd
  obtain ⟨g, A, n, c, l, rfl, ha, hl⟩ := asks_of_made hmd hm B1.out
  have HA := Lib.hid ha
  have hn9 := ha.m9
  have hmc := ha.mc
  have hcm : c ≤ 9223372036854775807 := by have := ha.cm; unfold maxLen at this; omega
  have BU := Lib.hid (xbuilt_p g (val l) n 0 false w2 HA.out.idx)
  rw [show b01 false = 0 from rfl] at BU
  have AS := Lib.hid (xasked_p g (val l) n 0 false w2 HA.out.idx)
  rw [show ((0 : Nat) : Int) = 0 from rfl] at AS
  clear hmd ha MD B1 hl
  go_wp2_with (first
    | (go_at_call 19; refine BU.out.mono ?_; rintro e w' ⟨rfl, rfl⟩)
    | (go_at_call 16; refine AS.out.mono ?_; rintro e w' ⟨rfl, rfl⟩))
  go_loopw [11, 12, 36] (fun x y v wr => ∃ (k : Nat) (d : Bool), k ≤ n3 ∧ k ≤ 30 ∧ x = .int .i64 (b01 d) ∧ y = .int .i64 (k : Int) ∧ v = .int .i64 (k : Int) ∧ Hid (Asks w wr g k n c l d A)) (fun _ _ v _ => n3 - (intOf v).toNat)
  case atStart => exact ⟨0, false, by omega, by omega, rfl, rfl, rfl, HA.out⟩
  case round =>
    clear BU AS HA
    obtain ⟨k, d, hk, hk30, rfl, rfl, rfl, hx⟩ := hrel
    by_cases hlt : k < n3
    · obtain ⟨b, o, e, hbw, k1⟩ := (H3.out.below hx.out.bel).i64 (by omega)
      subst e
      have t1 := k1 k hlt
      have hv := HZ.out k
      clear k1 hbw
      generalize z.getD k 0 = v at *
      by_cases h30 : k < 30
      · obtain ⟨r, hr⟩ : ∃ r, v.tmod 2 = r := ⟨_, rfl⟩
        obtain ⟨bd, hbd⟩ : ∃ bd, b01 d = bd := ⟨_, rfl⟩
        have hbd9 : 0 ≤ bd ∧ bd ≤ 1 := by rw [← hbd]; cases d <;> decide
        have ek1 : ((k + 1 : Nat) : Int) = (k : Int) + 1 := by omega
        by_cases hpar : (k : Int) % 2 = 0
        · skip
          by_cases hyes : (r = 0 ∨ r = 1) ∧ 0 ≤ v ∧ v ≤ (n : Int)
          · obtain ⟨hb, h0v, h1v⟩ := hyes
            obtain ⟨kk, hkk⟩ : ∃ kk : Nat, v = (kk : Int) := ⟨v.toNat, by omega⟩
            have QY := Lib.hid (rank_yes g (val l) n k kk d r wr hx.out.idx (by omega) hb (by omega))
            rw [← hkk] at QY
            clear hb h1v
            rw [hbd]
            clear hkk hbd
            go_wp2_with fail
            refine QY.out.mono ?_
            rintro e w5 ⟨rfl, h5, m5⟩
            have HX := Lib.hid (hx.out.ask h5 m5)
            have BU := Lib.hid (xbuilt_p g (val l) n (k + 1) true w5 HX.out.idx)
            rw [show b01 true = 1 from rfl] at BU
            have AS := Lib.hid (xasked_p g (val l) n (k + 1) true w5 HX.out.idx)
            rw [ek1] at AS
            clear h5 m5 QY ek1
            go_wp2_with (first
              | (go_at_call 19; refine BU.out.mono ?_; rintro e w' ⟨rfl, rfl⟩)
              | (go_at_call 16; refine AS.out.mono ?_; rintro e w' ⟨rfl, rfl⟩))
            go_roundw
            case rel => exact ⟨k + 1, true, by omega, by omega, rfl, by go_num, by go_num, HX.out⟩
            case measure => simp [intOf]; omega
          · have QN := Lib.hid (rank_no g (val l) n k d r v wr hx.out.idx (by omega) (by omega))
            clear hyes
            rw [hbd]
            go_wp2_with fail
            refine QN.out.mono ?_
            rintro e w5 ⟨rfl, h5, m5⟩
            have HX := Lib.hid (hx.out.ask h5 m5)
            have BU := Lib.hid (xbuilt_p g (val l) n (k + 1) d w5 HX.out.idx)
            rw [hbd] at BU
            have AS := Lib.hid (xasked_p g (val l) n (k + 1) d w5 HX.out.idx)
            rw [ek1] at AS
            have HBD := Lib.hid hbd
            clear h5 m5 QN ek1 hbd
            go_wp2_with (first
              | (go_at_call 19; refine BU.out.mono ?_; rintro e w' ⟨rfl, rfl⟩)
              | (go_at_call 16; refine AS.out.mono ?_; rintro e w' ⟨rfl, rfl⟩))
            go_roundw
            case rel => exact ⟨k + 1, d, by omega, by omega, by rw [HBD.out], by go_num, by go_num, HX.out⟩
            case measure => simp [intOf]; omega
        · have hpar1 : (k : Int) % 2 = 1 := by omega
          clear hpar
          by_cases hyes : (r = 0 ∨ r = 1) ∧ 0 ≤ v ∧ v < ((cb r (val l) n : Nat) : Int)
          · obtain ⟨hb, h0v, h1v⟩ := hyes
            obtain ⟨kk, hkk⟩ : ∃ kk : Nat, v = (kk : Int) := ⟨v.toNat, by omega⟩
            have QY := Lib.hid (sel_yes g (val l) n k kk d r wr hx.out.idx (hx.out.tab HT.out) (by omega) hb (by omega) (by have := hx.out.gle; have := HT.out.lt; omega))
            rw [← hkk] at QY
            clear hb h1v
            rw [hbd]
            clear hkk hbd
            go_wp2_with fail
            refine QY.out.mono ?_
            rintro e w5 ⟨p, rfl, _, _, _, h5, m5⟩
            have HX := Lib.hid (hx.out.ask h5 m5)
            have BU := Lib.hid (xbuilt_p g (val l) n (k + 1) true w5 HX.out.idx)
            rw [show b01 true = 1 from rfl] at BU
            have AS := Lib.hid (xasked_p g (val l) n (k + 1) true w5 HX.out.idx)
            rw [ek1] at AS
            clear h5 m5 QY ek1
            go_wp2_with (first
              | (go_at_call 19; refine BU.out.mono ?_; rintro e w' ⟨rfl, rfl⟩)
              | (go_at_call 16; refine AS.out.mono ?_; rintro e w' ⟨rfl, rfl⟩))
            go_roundw
            case rel => exact ⟨k + 1, true, by omega, by omega, rfl, by go_num, by go_num, HX.out⟩
            case measure => simp [intOf]; omega
          · have QN := Lib.hid (sel_no g (val l) n k d r v wr hx.out.idx (by omega) (by omega))
            clear hyes
            rw [hbd]
            go_wp2_with fail
            refine QN.out.mono ?_
            rintro e w5 ⟨rfl, h5, m5⟩
            have HX := Lib.hid (hx.out.ask h5 m5)
            have BU := Lib.hid (xbuilt_p g (val l) n (k + 1) d w5 HX.out.idx)
            rw [hbd] at BU
            have AS := Lib.hid (xasked_p g (val l) n (k + 1) d w5 HX.out.idx)
            rw [ek1] at AS
            have HBD := Lib.hid hbd
            clear h5 m5 QN ek1 hbd
            go_wp2_with (first
              | (go_at_call 19; refine BU.out.mono ?_; rintro e w' ⟨rfl, rfl⟩)
              | (go_at_call 16; refine AS.out.mono ?_; rintro e w' ⟨rfl, rfl⟩))
            go_roundw
            case rel => exact ⟨k + 1, d, by omega, by omega, by rw [HBD.out], by go_num, by go_num, HX.out⟩
            case measure => simp [intOf]; omega
      · obtain rfl : k = 30 := by omega
        have hB9 : n / 512 ≤ 19 := by omega
        obtain ⟨B, hB⟩ : ∃ B : Nat, (n : Int) / 512 = (B : Int) ∧ B = n / 512 := ⟨n / 512, by omega, rfl⟩
        have hB1 := hB.1
        obtain ⟨R, hR, hR9⟩ : ∃ R : Nat, (n : Int) % 512 = (R : Int) ∧ R = n % 512 := ⟨n % 512, by omega, rfl⟩
        have XS := Lib.hid (xsize_p g (val l) n 30 d wr hx.out.idx)
        by_cases hR0 : R = 0
        · have hbl : blk n = B := by unfold blk; omega
          rw [hbl] at XS
          subst hR0
          have hd : decide (32 * ((B : Int) + 1) ≤ (n : Int) + 4096) = true := decide_eq_true (by omega)
          clear hB hR9 hbl
          go_wp2_with (go_at_call 20; refine XS.out.mono ?_; rintro e w' ⟨rfl, rfl⟩)
          go_ret
          exact ⟨rfl, hx.out.bel⟩
        · have hbl : blk n = B + 1 := by unfold blk; omega
          rw [hbl, show (((B + 1 : Nat) : Int) + 1) = (B : Int) + 1 + 1 by omega] at XS
          have hRp : (0 : Int) < (R : Int) := by omega
          have hd : decide (32 * ((B : Int) + 1 + 1) ≤ (n : Int) + 4096) = true := decide_eq_true (by omega)
          clear hB hR9 hbl
          go_wp2_with (go_at_call 20; refine XS.out.mono ?_; rintro e w' ⟨rfl, rfl⟩)
          go_ret
          exact ⟨rfl, hx.out.bel⟩
    · obtain rfl : k = n3 := by omega
      have hB9 : n / 512 ≤ 19 := by omega
      obtain ⟨B, hB⟩ : ∃ B : Nat, (n : Int) / 512 = (B : Int) ∧ B = n / 512 := ⟨n / 512, by omega, rfl⟩
      have hB1 := hB.1
      obtain ⟨R, hR, hR9⟩ : ∃ R : Nat, (n : Int) % 512 = (R : Int) ∧ R = n % 512 := ⟨n % 512, by omega, rfl⟩
      have XS := Lib.hid (xsize_p g (val l) n k d wr hx.out.idx)
      by_cases hR0 : R = 0
      · have hbl : blk n = B := by unfold blk; omega
        rw [hbl] at XS
        subst hR0
        have hd : decide (32 * ((B : Int) + 1) ≤ (n : Int) + 4096) = true := decide_eq_true (by omega)
        clear hB hR9 hbl
        go_wp2_with (go_at_call 20; refine XS.out.mono ?_; rintro e w' ⟨rfl, rfl⟩)
        go_ret
        exact ⟨rfl, hx.out.bel⟩
      · have hbl : blk n = B + 1 := by unfold blk; omega
        rw [hbl, show (((B + 1 : Nat) : Int) + 1) = (B : Int) + 1 + 1 by omega] at XS
        have hRp : (0 : Int) < (R : Int) := by omega
        have hd : decide (32 * ((B : Int) + 1 + 1) ≤ (n : Int) + 4096) = true := decide_eq_true (by omega)
        clear hB hR9 hbl
        go_wp2_with (go_at_call 20; refine XS.out.mono ?_; rintro e w' ⟨rfl, rfl⟩)
        go_ret
        exact ⟨rfl, hx.out.bel⟩
end Go.Proofs.YtbebejkiihlokaaDoor
