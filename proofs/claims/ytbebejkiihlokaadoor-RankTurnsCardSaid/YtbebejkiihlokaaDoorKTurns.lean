/- RankTurns: each is the other's turn. -/
import Derived.Test.YtbebejkiihlokaaDoorKRaw
namespace Go.Proofs.YtbebejkiihlokaaDoor
open Go.RowKit
set_option linter.unusedVariables false
theorem cb_sum (V k : Nat) : cb 0 V k + cb 1 V k = k := by
  have := pop_le V k
  unfold cb
  rw [if_pos rfl, if_neg (by decide)]
  omega
/-- What is selected behind the place k stands not ahead of it. -/
theorem sel_behind {bit : Int} {V k p : Nat} (hI : IsB bit V p) (hc : cb bit V p = cb bit V k) : k ≤ p := by
  rcases Nat.lt_or_ge p k with h | h
  · have h1 := cb_mono bit V (show p + 1 ≤ k by omega)
    rw [cb_next hI] at h1
    omega
  · exact h
set_option maxRecDepth 20000 in
set_option maxHeartbeats 16000000 in
theorem rankTurns_walk (A0 : Option Addr) (n0 c0 m t i : Nat) (bs : List Nat) (w : World) (hT : Tab w)
    (h0 : Rd w w.heap.size A0 n0 (U8 bs)) (hbs : ∀ b ∈ bs, b < 256) (hn0 : n0 ≤ c0) (hc0 : c0 ≤ maxLen) (hm : m < 256) (ht : t < 65536) (hi : i < 65536) :
    Calls Tryd.prog 7 #[.slice A0 n0 c0, .int .u8 (m : Int), .int .u16 (t : Int), .int .u16 (i : Int)] w fun e w' => e = .returned (.bool true) ∧ Below w.heap.size w w' := by
  unfold maxLen at hc0
  have AW := Lib.hid (kawake_p w hT hT.lt)
  have HT := Lib.hid hT
  have H0 := Lib.hid h0
  have HBS := Lib.hid hbs
  clear hT h0 hbs
  go_enter Tryd.func7, Tryd.ntmps7
  go_wp2_with fail
  refine AW.out.mono ?_
  rintro e w1 ⟨rfl, b1⟩
  have MD := Lib.hid (made_p A0 n0 c0 w.heap.size m t bs w1 (H0.out.below b1) HBS.out b1.size (by omega) hm ht)
  have B1 := Lib.hid b1
  clear b1 AW
  go_wp2_with fail
  refine MD.out.mono ?_
  rintro e w2 hmd
  obtain ⟨g, A, n, c, l, rfl, ha, hl⟩ := asks_of_made hmd hm B1.out
  have HA := Lib.hid ha
  have hn9 := ha.m9
  have hmc := ha.mc
  have hcm : c ≤ 9223372036854775807 := by have := ha.cm; unfold maxLen at this; omega
  obtain ⟨k, hk, hkn⟩ : ∃ k : Nat, (i : Int) % ((n : Int) + 1) = (k : Int) ∧ k ≤ n := ⟨i % (n + 1), (by rw [show (n : Int) + 1 = ((n + 1 : Nat) : Int) by omega]; exact (Int.natCast_emod i (n + 1)).symm), by have := Nat.mod_lt i (show 0 < n + 1 by omega); omega⟩
  have hpos : (n : Int) + 1 ≠ 0 := by omega
  clear hmd ha MD B1 hl
  have R0 := Lib.hid (rank_yes g (val l) n 0 k false 0 w2 HA.out.idx (by omega) (.inl rfl) hkn)
  have hs := cb_sum (val l) k
  have HAB : Hid (∃ a b : Nat, a = cb 0 (val l) k ∧ b = cb 1 (val l) k) := ⟨_, _, rfl, rfl⟩
  obtain ⟨a, b, ea, eb⟩ := HAB.out
  rw [← ea] at R0
  rw [← ea, ← eb] at hs
  have EA := Lib.hid ea
  have EB := Lib.hid eb
  clear ea eb HAB
  go_wp2_with fail
  refine R0.out.mono ?_
  rintro e w3 ⟨rfl, h3, m3⟩
  have HA3 := Lib.hid (HA.out.ask h3 m3)
  clear h3 m3 R0 HA
  have R1 := Lib.hid (rank_yes g (val l) n 1 k true 1 w3 HA3.out.idx (by omega) (.inr rfl) hkn)
  rw [← EB.out] at R1
  go_wp2_with fail
  refine R1.out.mono ?_
  rintro e w4 ⟨rfl, h4, m4⟩
  have HA4 := Lib.hid (HA3.out.ask h4 m4)
  clear h4 m4 R1 HA3
  have hab : (a : Int) + (b : Int) = (k : Int) := by omega
  have hb5 := Blk.new w4 3 #[.int .i64 (a : Int), .int .i64 (b : Int)]
  have HB5 := Lib.hid hb5
  have HA5 : Hid (Asks w (w4.alloc (.cells #[.int .i64 (a : Int), .int .i64 (b : Int)] 3)) g 2 n c l true A) := by
    have m5 : Mod (fun i => i = g) w4 (w4.alloc (.cells #[.int .i64 (a : Int), .int .i64 (b : Int)] 3)) := Mod.alloc (Mod.refl _ w4) _
    exact HA4.out.ask (HA4.out.idx.below ((Below.refl w4.heap.size w4).alloc (Nat.le_refl _) _)) m5
  have hgs : Hid (g < w4.heap.size) := HA4.out.idx.lt
  clear hb5 HA4
  go_wp2_with fail
  generalize w4.heap.size = s at *
  go_loopw [68] (fun x wr => ∃ j q : Nat, j ≤ 2 ∧ q ≤ 2 + 3 * j ∧ x = .int .i64 (j : Int) ∧ Hid (Asks w wr g q n c l true A) ∧ Hid (Blk wr s 3 #[.int .i64 (a : Int), .int .i64 (b : Int)])) (fun x _ => 2 - (intOf x).toNat)
  case atStart => exact ⟨0, 2, by omega, by omega, rfl, HA5.out, HB5.out⟩
  case round =>
    clear HA5 HB5
    obtain ⟨j, q, hj, hq, rfl, hx, hbk⟩ := hrel
    have hj3 : j = 0 ∨ j = 1 ∨ j = 2 := by omega
    rcases hj3 with rfl | rfl | rfl
    · have c0 : wr.cell? ⟨s, 0, none⟩ = some (.int .i64 (a : Int)) := hbk.out.cell 0
      have hgs' : g < s := hgs.out
      have hsw : s < wr.heap.size := hbk.out.lt
      by_cases hlt : a < cb 0 (val l) n
      · have SL := Lib.hid (sel_yes g (val l) n q a true 0 wr hx.out.idx (hx.out.tab HT.out) (by omega) (by first | exact .inl rfl | exact .inr rfl) hlt (by have := hx.out.gle; have := HT.out.lt; omega))
        go_wp2_with fail
        refine SL.out.mono ?_
        rintro e w6 ⟨p, rfl, hpn, hpI, hpk, h6, m6⟩
        have HX6 := Lib.hid (hx.out.ask h6 m6)
        have HB6 := Lib.hid (hbk.out.mod m6 (by omega))
        have hkp : k ≤ p := sel_behind hpI (by rw [hpk, EA.out])
        have RA := Lib.hid (rank_yes g (val l) n (q + 1) n true 0 w6 HX6.out.idx (by omega) (by first | exact .inl rfl | exact .inr rfl) (Nat.le_refl _))
        obtain ⟨o, ho⟩ : ∃ o, o = cb 0 (val l) n := ⟨_, rfl⟩
        rw [← ho] at RA hlt
        have HP := Lib.hid (And.intro hpI hpk)
        clear h6 m6 SL hpI hpk c0
        go_wp2_with fail
        refine RA.out.mono ?_
        rintro e w7 ⟨rfl, h7, m7⟩
        have HX7 := Lib.hid (HX6.out.ask h7 m7)
        have HB7 := Lib.hid (HB6.out.mod m7 (by omega))
        obtain ⟨b9, o9, e9, hb9, k9⟩ := (Rd.ofOwn HX7.out.own).i64 (by omega)
        have t9 := k9 p hpn
        rw [ofN_get, (isB_list HX7.out.bin (by first | exact .inl rfl | exact .inr rfl) p).1 HP.out.1] at t9
        subst e9
        have RP := Lib.hid (rank_yes g (val l) n (q + 2) p true 0 w7 HX7.out.idx (by omega) (by first | exact .inl rfl | exact .inr rfl) (by omega))
        rw [HP.out.2] at RP
        clear h7 m7 RA k9 HB6 HX6
        go_wp2_with fail
        refine RP.out.mono ?_
        rintro e w8 ⟨rfl, h8, m8⟩
        have HX8 := Lib.hid (HX7.out.ask h8 m8)
        have HB8 := Lib.hid (HB7.out.mod m8 (by omega))
        clear h8 m8 RP t9 HX7 HB7
        go_wp2_with fail
        go_roundw
        case rel => exact ⟨0 + 1, q + 3, by omega, by omega, rfl, HX8.out, HB8.out⟩
        case measure => simp [intOf]
      · have SL := Lib.hid (sel_no g (val l) n q true 0 (a : Int) wr hx.out.idx (by omega) (.inr (.inr (by omega))))
        go_wp2_with fail
        refine SL.out.mono ?_
        rintro e w6 ⟨rfl, h6, m6⟩
        have HX6 := Lib.hid (hx.out.ask h6 m6)
        have HB6 := Lib.hid (hbk.out.mod m6 (by omega))
        have RA := Lib.hid (rank_yes g (val l) n (q + 1) n true 0 w6 HX6.out.idx (by omega) (by first | exact .inl rfl | exact .inr rfl) (Nat.le_refl _))
        obtain ⟨o, ho⟩ : ∃ o, o = cb 0 (val l) n := ⟨_, rfl⟩
        rw [← ho] at RA hlt
        clear h6 m6 SL c0
        go_wp2_with fail
        refine RA.out.mono ?_
        rintro e w7 ⟨rfl, h7, m7⟩
        have HX7 := Lib.hid (HX6.out.ask h7 m7)
        have HB7 := Lib.hid (HB6.out.mod m7 (by omega))
        clear h7 m7 RA HX6 HB6
        go_wp2_with fail
        go_roundw
        case rel => exact ⟨0 + 1, q + 2, by omega, by omega, rfl, HX7.out, HB7.out⟩
        case measure => simp [intOf]
    · have c0 : wr.cell? ⟨s, 1, none⟩ = some (.int .i64 (b : Int)) := hbk.out.cell 1
      have hgs' : g < s := hgs.out
      have hsw : s < wr.heap.size := hbk.out.lt
      by_cases hlt : b < cb 1 (val l) n
      · have SL := Lib.hid (sel_yes g (val l) n q b true 1 wr hx.out.idx (hx.out.tab HT.out) (by omega) (by first | exact .inl rfl | exact .inr rfl) hlt (by have := hx.out.gle; have := HT.out.lt; omega))
        go_wp2_with fail
        refine SL.out.mono ?_
        rintro e w6 ⟨p, rfl, hpn, hpI, hpk, h6, m6⟩
        have HX6 := Lib.hid (hx.out.ask h6 m6)
        have HB6 := Lib.hid (hbk.out.mod m6 (by omega))
        have hkp : k ≤ p := sel_behind hpI (by rw [hpk, EB.out])
        have RA := Lib.hid (rank_yes g (val l) n (q + 1) n true 1 w6 HX6.out.idx (by omega) (by first | exact .inl rfl | exact .inr rfl) (Nat.le_refl _))
        obtain ⟨o, ho⟩ : ∃ o, o = cb 1 (val l) n := ⟨_, rfl⟩
        rw [← ho] at RA hlt
        have HP := Lib.hid (And.intro hpI hpk)
        clear h6 m6 SL hpI hpk c0
        go_wp2_with fail
        refine RA.out.mono ?_
        rintro e w7 ⟨rfl, h7, m7⟩
        have HX7 := Lib.hid (HX6.out.ask h7 m7)
        have HB7 := Lib.hid (HB6.out.mod m7 (by omega))
        obtain ⟨b9, o9, e9, hb9, k9⟩ := (Rd.ofOwn HX7.out.own).i64 (by omega)
        have t9 := k9 p hpn
        rw [ofN_get, (isB_list HX7.out.bin (by first | exact .inl rfl | exact .inr rfl) p).1 HP.out.1] at t9
        subst e9
        have RP := Lib.hid (rank_yes g (val l) n (q + 2) p true 1 w7 HX7.out.idx (by omega) (by first | exact .inl rfl | exact .inr rfl) (by omega))
        rw [HP.out.2] at RP
        clear h7 m7 RA k9 HB6 HX6
        go_wp2_with fail
        refine RP.out.mono ?_
        rintro e w8 ⟨rfl, h8, m8⟩
        have HX8 := Lib.hid (HX7.out.ask h8 m8)
        have HB8 := Lib.hid (HB7.out.mod m8 (by omega))
        clear h8 m8 RP t9 HX7 HB7
        go_wp2_with fail
        go_roundw
        case rel => exact ⟨1 + 1, q + 3, by omega, by omega, rfl, HX8.out, HB8.out⟩
        case measure => simp [intOf]
      · have SL := Lib.hid (sel_no g (val l) n q true 1 (b : Int) wr hx.out.idx (by omega) (.inr (.inr (by omega))))
        go_wp2_with fail
        refine SL.out.mono ?_
        rintro e w6 ⟨rfl, h6, m6⟩
        have HX6 := Lib.hid (hx.out.ask h6 m6)
        have HB6 := Lib.hid (hbk.out.mod m6 (by omega))
        have RA := Lib.hid (rank_yes g (val l) n (q + 1) n true 1 w6 HX6.out.idx (by omega) (by first | exact .inl rfl | exact .inr rfl) (Nat.le_refl _))
        obtain ⟨o, ho⟩ : ∃ o, o = cb 1 (val l) n := ⟨_, rfl⟩
        rw [← ho] at RA hlt
        clear h6 m6 SL c0
        go_wp2_with fail
        refine RA.out.mono ?_
        rintro e w7 ⟨rfl, h7, m7⟩
        have HX7 := Lib.hid (HX6.out.ask h7 m7)
        have HB7 := Lib.hid (HB6.out.mod m7 (by omega))
        clear h7 m7 RA HX6 HB6
        go_wp2_with fail
        go_roundw
        case rel => exact ⟨1 + 1, q + 2, by omega, by omega, rfl, HX7.out, HB7.out⟩
        case measure => simp [intOf]
    · go_wp2_with fail
      go_ret
      exact ⟨rfl, hx.out.bel⟩
end Go.Proofs.YtbebejkiihlokaaDoor
