/- ParenJoins: the mates of two, one behind the other, and of one within a pair. -/
import Derived.Test.YtdpejjokdncfnaaDoorQJoinM
namespace Go.Proofs.YtdpejjokdncfnaaDoor
open Go.RowKit
set_option linter.unusedVariables false
set_option maxRecDepth 20000
set_option maxHeartbeats 16000000 in
theorem parenJoins_walk (A0 A1 : Option Addr) (n0 c0 n1 c1 na nb ii : Nat) (bs cs : List Nat) (w : World) (hT : Nul w)
    (h0 : Rd w w.heap.size A0 n0 (U8 bs)) (hbs : ∀ b ∈ bs, b < 256) (hn0 : n0 ≤ c0) (hc0 : c0 ≤ maxLen)
    (h1 : Rd w w.heap.size A1 n1 (U8 cs)) (hcs : ∀ b ∈ cs, b < 256) (hn1 : n1 ≤ c1) (hc1 : c1 ≤ maxLen) (hna : na < 65536) (hnb : nb < 65536) (hii : ii < 65536) :
    Calls Tryd.prog 7 #[.int .u16 (na : Int), .int .u16 (nb : Int), .slice A0 n0 c0, .slice A1 n1 c1, .int .u16 (ii : Int)] w fun e w' => e = .returned (.bool true) ∧ Below w.heap.size w w' := by
  unfold maxLen at hc0 hc1
  obtain ⟨i0, hi0, hz0, hz1, hz2⟩ := info_parts info_int
  have AW := Lib.hid (qawake_p w hT)
  have HT := Lib.hid hT
  have H0 := Lib.hid h0
  have H1 := Lib.hid h1
  have HBS := Lib.hid hbs
  have HCS := Lib.hid hcs
  obtain ⟨Pa, hPa, hPa9⟩ : ∃ P : Nat, (na : Int) % 300 = (P : Int) ∧ P ≤ 299 := ⟨na % 300, by omega, by omega⟩
  obtain ⟨Pb, hPb, hPb9⟩ : ∃ P : Nat, (nb : Int) % 300 = (P : Int) ∧ P ≤ 299 := ⟨nb % 300, by omega, by omega⟩
  clear hT h0 hbs h1 hcs
  go_enter Tryd.func7, Tryd.ntmps7
  go_wp2_with fail
  refine AW.out.mono ?_
  rintro e w1 ⟨rfl, b1⟩
  have AN := Lib.hid (any_p A0 n0 c0 Pa bs w1 ((H0.out.below b1).up b1.size) HBS.out (by omega) (by omega))
  have B1 := Lib.hid b1
  clear b1 AW
  go_wp2_with fail
  refine AN.out.mono ?_
  rintro e w2 ⟨la, Aa, ca, habin, halen, habal, rfl, hamc, hacm, owna, b2⟩
  have B2 : Hid (Below w.heap.size w w2) := B1.out.trans (b2.mono B1.out.size)
  have AN2 := Lib.hid (any_p A1 n1 c1 Pb cs w2 ((H1.out.below B2.out).up B2.out.size) HCS.out (by omega) (by omega))
  obtain ⟨Na, hNa⟩ : ∃ N, 2 * Pa = N := ⟨_, rfl⟩
  rw [hNa] at halen habal hamc owna ⊢
  have hNa9 : Na ≤ 598 := by omega
  have RA := Lib.hid (Rd.ofOwn owna)
  have BA := Lib.hid habal
  have IA := Lib.hid habin
  have LA := Lib.hid halen
  clear habin halen habal owna b2 AN hNa B1
  go_wp2_with fail
  refine AN2.out.mono ?_
  rintro e w3 ⟨lb, Ab, cb', hbbin, hblen, hbbal, rfl, hbmc, hbcm, ownb, b3⟩
  obtain ⟨Nb, hNb⟩ : ∃ N, 2 * Pb = N := ⟨_, rfl⟩
  rw [hNb] at hblen hbbal hbmc ownb ⊢
  have hNb9 : Nb ≤ 598 := by omega
  have B3 : Hid (Below w.heap.size w w3) := B2.out.trans (b3.mono B2.out.size)
  have RA3 := Lib.hid (RA.out.below b3)
  have hs23 : w2.heap.size ≤ w3.heap.size := b3.size
  have RB := Lib.hid (Rd.ofOwn ownb)
  have BB := Lib.hid hbbal
  have IB := Lib.hid hbbin
  have LB := Lib.hid hblen
  have MA := Lib.hid (qmade_p Aa Na ca la w3 (RA3.out.up hs23) IA.out (by omega))
  have BJ : Hid (Bal (exc (val (la ++ lb))) (Na + Nb)) := by
    have := bal_append IA.out IB.out (by rw [LA.out]; exact BA.out) (by rw [LB.out]; exact BB.out)
    rw [LA.out, LB.out] at this
    exact this
  have BW : Hid (Bal (exc (val (([1] ++ la) ++ [0]))) (Na + 2)) := by
    have := wrap_bal IA.out (by rw [LA.out]; exact BA.out)
    rw [LA.out] at this
    exact this
  have WP : Hid (Pair (exc (val (([1] ++ la) ++ [0]))) 0 (Na + 1)) := by
    have := wrap_pair IA.out (by rw [LA.out]; exact BA.out)
    rw [LA.out] at this
    exact this
  have SW : Hid (∀ k, k ≤ Na → exc (val (([1] ++ la) ++ [0])) (1 + k) = 1 + exc (val la) k) := fun k hk => wrap_exc IA.out k (by rw [LA.out]; exact hk)
  have SA : Hid (∀ k, k ≤ Na → exc (val (la ++ lb)) (0 + k) = 0 + exc (val la) k) := fun k hk => by rw [Nat.zero_add, exc_pre IA.out IB.out k (by rw [LA.out]; exact hk)]; omega
  have SJ : Hid (∀ k, k ≤ Nb → exc (val (la ++ lb)) (Na + k) = 0 + exc (val lb) k) := fun k hk => by
    have := exc_append IA.out IB.out k (by rw [LB.out]; exact hk)
    rw [LA.out, BA.out.2] at this
    exact this
  clear hbbin hblen hbbal ownb b3 AN2 hNb B2 RA
  go_wp2_with fail
  refine MA.out.mono ?_
  rintro e w4 (⟨_, p1, g1, rfl, hp1, hg1, b4⟩ | ⟨hno, _⟩)
  case inr => exact absurd BA.out hno
  have P1 : Hid (Pst w w4 p1 g1 (val la) Na 0 false) := ⟨hp1, HT.out, by have := B3.out.size; omega, B3.out.trans (b4.mono B3.out.size)⟩
  have RA4 := Lib.hid ((RA3.out.up hs23).below b4)
  have RB4 := Lib.hid (RB.out.below b4)
  have hs34 : w3.heap.size ≤ w4.heap.size := b4.size
  have hl1 := hp1.lt
  have hgp1 := hp1.1
  have MB := Lib.hid (qmade_p Ab Nb cb' lb w4 (RB4.out.up hs34) IB.out (by omega))
  clear hp1 hg1 b4 MA RA3 RB B3
  go_wp2_with fail
  refine MB.out.mono ?_
  rintro e w5 (⟨_, p2, g2, rfl, hp2, hg2, b5⟩ | ⟨hno, _⟩)
  case inr => exact absurd BB.out hno
  have P1b := Lib.hid (P1.out.below b5)
  have P2 : Hid (Pst w w5 p2 g2 (val lb) Nb 0 false) := ⟨hp2, HT.out, by have := P1.out.bel.size; omega, P1.out.bel.trans (b5.mono P1.out.bel.size)⟩
  have RA5 := Lib.hid ((RA4.out.up hs34).below b5)
  have RB5 := Lib.hid ((RB4.out.up hs34).below b5)
  have hs45 : w4.heap.size ≤ w5.heap.size := b5.size
  have hl2 := hp2.lt
  have hgp2 := hp2.1
  have h12 : p1 < g2 := by omega
  have hP2s : p2 < w5.heap.size := hl2
  clear hp2 hg2 b5 MB RA4 RB4 P1
  have hz5 : (w5.alloc (.cells #[] 3)).heap.size = w5.heap.size + 1 := by simp
  have oa : (w5.alloc (.cells #[] 3)).ownsRow w5.heap.size 3 1 (.slice (some ⟨w5.heap.size, 0, none⟩) 0 0) 0 (I64 (ofN [])) := World.ownsRow_lit (base := w5.heap.size) (e := 3) (size := 1) w5 #[] 0 (Nat.le_refl _) (by simp [maxLen]) (by simp)
  have bx5 := (Below.refl w5.heap.size w5).alloc (Nat.le_refl _) (.cells #[] 3)
  have ra := (RA5.out.up hs45).below bx5
  have hx5 : w5.heap.size ≤ (w5.alloc (.cells #[] 3)).heap.size := by omega
  go_wp2_with (first
    | (at_builtin; go_must (refine wpList_append_rd _ rfl _ _ 24 rfl w5.heap.size 3 i0 (.int .i64 0) 8 Tryd.underlying24 hi0 hz0 hz1 hz2 rfl (.slice (some ⟨w5.heap.size, 0, none⟩) 0 0) 0 (I64 (ofN [])) rfl oa w5.heap.size Aa Na ca (I64 (ofN la)) rfl ra (I64_one _) (by simp only [maxLen]; omega) (by omega) hx5 ?_)))
  intro A6 c6 w6 hc6 hm6 own6 hg6 _
  have b56 : Below w5.heap.size w5 w6 := bx5.trans (Below.appended oa hg6 hx5)
  have o6 : w6.ownsRow w5.heap.size 3 1 (.slice A6 Na c6) Na (I64 (ofN la)) := by
    have := own6
    rw [show I64 (ofN []) ++ I64 (ofN la) = I64 (ofN la) from rfl] at this
    exact this
  have R6 := (RB5.out.up hs45).below b56
  have hx6 : w5.heap.size ≤ w6.heap.size := b56.size
  have B56 := Lib.hid b56
  clear oa bx5 ra hx5 own6 hg6 b56 hz5
  go_wp2_with (first
    | (at_builtin; go_must (refine wpList_append_rd _ rfl _ _ 24 rfl w5.heap.size 3 i0 (.int .i64 0) 8 Tryd.underlying24 hi0 hz0 hz1 hz2 rfl (.slice A6 Na c6) Na (I64 (ofN la)) rfl o6 w5.heap.size Ab Nb cb' (I64 (ofN lb)) rfl R6 (I64_one _) (by simp only [maxLen]; omega) (by omega) hx6 ?_)))
  intro A7 c7 w7 hc7 hm7 own7 hg7 _
  have b57 : Below w5.heap.size w5 w7 := B56.out.trans (Below.appended o6 hg7 hx6)
  have o7 : w7.ownsRow w5.heap.size 3 1 (.slice A7 (Na + Nb) c7) (Na + Nb) (I64 (ofN (la ++ lb))) := by
    have := own7
    rw [← I64_append, ← ofN_append] at this
    exact this
  have P1c := Lib.hid (P1b.out.below b57)
  have P2c := Lib.hid (P2.out.below b57)
  have RA7 := Lib.hid ((RA5.out.up hs45).below b57)
  have hs57 : w5.heap.size ≤ w7.heap.size := b57.size
  have MJ := Lib.hid (qmade_p A7 (Na + Nb) c7 (la ++ lb) w7 (Rd.ofOwn o7) (IA.out.append IB.out) (by omega))
  clear o6 R6 hx6 B56 own7 hg7 P1b P2 RA5 RB5 b57 o7
  go_wp2_with fail
  refine MJ.out.mono ?_
  rintro e w8 (⟨_, p3, g3, rfl, hp3, hg3, b8⟩ | ⟨hno, _⟩)
  case inr => exact absurd BJ.out hno
  have P1d := Lib.hid (P1c.out.below b8)
  have P2d := Lib.hid (P2c.out.below b8)
  have P3 : Hid (Pst w w8 p3 g3 (val (la ++ lb)) (Na + Nb) 0 false) := ⟨hp3, HT.out, by have := P1c.out.bel.size; omega, P1c.out.bel.trans (b8.mono P1c.out.bel.size)⟩
  have RA8 := Lib.hid ((RA7.out.up hs57).below b8)
  have hs78 : w7.heap.size ≤ w8.heap.size := b8.size
  have hl3 := hp3.lt
  have hgp3 := hp3.1
  have h23 : p2 < g3 := by omega
  clear hp3 hg3 b8 MJ RA7 P1c P2c
  have bx8 := (Below.refl w8.heap.size w8).alloc (Nat.le_refl _) (.cells #[.int .i64 1] 3)
  have hz8 : (w8.alloc (.cells #[.int .i64 1] 3)).heap.size = w8.heap.size + 1 := by simp
  have o8 : (w8.alloc (.cells #[.int .i64 1] 3)).ownsRow w8.heap.size 3 1 (.slice (some ⟨w8.heap.size, 0, none⟩) 1 1) 1 (I64 (ofN [1])) := World.ownsRow_lit (base := w8.heap.size) (e := 3) (size := 1) w8 #[.int .i64 1] 1 (Nat.le_refl _) (by simp [maxLen]) (by simp)
  have ra8 := (RA8.out.up hs78).below bx8
  have hx8 : w8.heap.size ≤ (w8.alloc (.cells #[.int .i64 1] 3)).heap.size := by omega
  go_wp2_with (first
    | (at_builtin; go_must (refine wpList_append_rd _ rfl _ _ 24 rfl w8.heap.size 3 i0 (.int .i64 0) 8 Tryd.underlying24 hi0 hz0 hz1 hz2 rfl (.slice (some ⟨w8.heap.size, 0, none⟩) 1 1) 1 (I64 (ofN [1])) rfl o8 w8.heap.size Aa Na ca (I64 (ofN la)) rfl ra8 (I64_one _) (by simp only [maxLen]; omega) (by omega) hx8 ?_)))
  intro A9 c9 w9 hc9 hm9 own9 hg9 _
  have b89 : Below w8.heap.size w8 w9 := bx8.trans (Below.appended o8 hg9 hx8)
  have o9 : w9.ownsRow w8.heap.size 3 1 (.slice A9 (1 + Na) c9) (1 + Na) (I64 (ofN ([1] ++ la))) := by
    have := own9
    rw [← I64_append, ← ofN_append] at this
    exact this
  have B89 := Lib.hid b89
  have bx9 := (Below.refl w9.heap.size w9).alloc (Nat.le_refl _) (.cells #[.int .i64 0] 3)
  have o9' := own_below o9 bx9
  have hz9 : (w9.alloc (.cells #[.int .i64 0] 3)).heap.size = w9.heap.size + 1 := by simp
  have ra9 := Rd.new w9 3 #[.int .i64 0] 1 (I64 (ofN [0])) (by simp [I64, ofN]) (by simp)
  have hx9 : w8.heap.size ≤ (w9.alloc (.cells #[.int .i64 0] 3)).heap.size := by have := b89.size; omega
  clear bx8 o8 ra8 hx8 hz8 own9 hg9 b89
  go_wp2_with (first
    | (at_builtin; go_must (refine wpList_append_rd _ rfl _ _ 24 rfl w8.heap.size 3 i0 (.int .i64 0) 8 Tryd.underlying24 hi0 hz0 hz1 hz2 rfl (.slice A9 (1 + Na) c9) (1 + Na) (I64 (ofN ([1] ++ la))) rfl o9' (w9.heap.size + 1) (some ⟨w9.heap.size, 0, none⟩) 1 1 (I64 (ofN [0])) rfl ra9 (I64_one _) (by simp only [maxLen]; omega) (by omega) hx9 ?_)))
  intro A10 c10 w10 hc10 hm10 own10 hg10 _
  have b8t : Below w8.heap.size w8 w10 := (B89.out.trans (bx9.mono B89.out.size)).trans (Below.appended o9' hg10 hx9)
  have o10 : w10.ownsRow w8.heap.size 3 1 (.slice A10 (1 + Na + 1) c10) (1 + Na + 1) (I64 (ofN (([1] ++ la) ++ [0]))) := by
    have := own10
    rw [← I64_append, ← ofN_append] at this
    exact this
  have P1e := Lib.hid (P1d.out.below b8t)
  have P2e := Lib.hid (P2d.out.below b8t)
  have P3e := Lib.hid (P3.out.below b8t)
  have hs8t : w8.heap.size ≤ w10.heap.size := b8t.size
  have h1b : Bin [1] := fun x hx => by simp at hx; omega
  have h0b : Bin [0] := fun x hx => by simp at hx; omega
  have MW := Lib.hid (qmade_p A10 (1 + Na + 1) c10 (([1] ++ la) ++ [0]) w10 (Rd.ofOwn o10) ((h1b.append IA.out).append h0b) (by omega))
  rw [show 1 + Na + 1 = Na + 2 by omega] at MW ⊢
  obtain ⟨lw, hlw⟩ : ∃ lw, ([1] ++ la) ++ [0] = lw := ⟨_, rfl⟩
  rw [hlw] at MW
  have SW' : Hid (∀ k, k ≤ Na → exc (val lw) (1 + k) = 1 + exc (val la) k) := by rw [← hlw]; exact SW.out
  have WP' : Hid (Pair (exc (val lw)) 0 (Na + 1)) := by rw [← hlw]; exact WP.out
  have BW' : Hid (Bal (exc (val lw)) (Na + 2)) := by rw [← hlw]; exact BW.out
  clear B89 bx9 o9 o9' hz9 ra9 hx9 own10 hg10 P1d P2d P3 b8t o10 h1b h0b SW WP BW hlw RA8
  go_wp2_with fail
  refine MW.out.mono ?_
  rintro e w11 (⟨_, p4, g4, rfl, hp4, hg4, b11⟩ | ⟨hno, _⟩)
  case inr => exact absurd BW'.out hno
  have Q1 := Lib.hid (P1e.out.below b11)
  have Q2 := Lib.hid (P2e.out.below b11)
  have Q3 := Lib.hid (P3e.out.below b11)
  have Q4 : Hid (Pst w w11 p4 g4 (val lw) (Na + 2) 0 false) := ⟨hp4, HT.out, by have := P1e.out.bel.size; omega, P1e.out.bel.trans (b11.mono P1e.out.bel.size)⟩
  have hgp4 := hp4.1
  have h34 : p3 < g4 := by omega
  have C0 := Lib.hid (mate_yes p4 g4 (val lw) (Na + 2) 0 false w11 0 Q4.out.nulr Q4.out.hp hp4 BW'.out (by omega) (by omega))
  clear hp4 hg4 b11 MW P1e P2e P3e
  go_wp2_with fail
  refine C0.out.mono ?_
  rintro e u1 ⟨h1, m1, x, rfl, hx, hx1, hx2⟩
  obtain rfl : x = (Na : Int) + 1 := hx.uniq (exc_Exc _) ⟨Na + 1, by omega, .inl WP'.out⟩
  have T1 := Lib.hid (Q1.out.off Q4.out (by omega) (by omega) m1)
  have T2 := Lib.hid (Q2.out.off Q4.out (by omega) (by omega) m1)
  have T3 := Lib.hid (Q3.out.off Q4.out (by omega) (by omega) m1)
  have T4 := Lib.hid (Q4.out.on h1 m1)
  clear h1 m1 hx C0 Q1 Q2 Q3 Q4 WP'
  by_cases ha0 : 0 < Na
  · obtain ⟨k, hk, hkb⟩ : ∃ k : Nat, (ii : Int) % (Na : Int) = (k : Int) ∧ k < Na := ⟨ii % Na, (Int.natCast_emod ii Na).symm, Nat.mod_lt ii ha0⟩
    have ha0I : (0 : Int) < (Na : Int) := by omega
    have hanz : (Na : Int) ≠ 0 := by omega
    have D1 := Lib.hid (mate_yes p1 g1 (val la) Na 0 false u1 k T1.out.nulr T1.out.hp T1.out.at_ BA.out hkb (by omega))
    go_wp2_with fail
    refine D1.out.mono ?_
    rintro e u2 ⟨h1, m1, x, rfl, hx, hx1, hx2⟩
    have U2 := Lib.hid (T2.out.off T1.out (by omega) (by omega) m1)
    have U3 := Lib.hid (T3.out.off T1.out (by omega) (by omega) m1)
    have U4 := Lib.hid (T4.out.off T1.out (by omega) (by omega) m1)
    have HXA := Lib.hid hx
    clear h1 m1 hx D1 T1 T2 T3 T4
    have D2 := Lib.hid (mate_yes p3 g3 (val (la ++ lb)) (Na + Nb) 0 false u2 k U3.out.nulr U3.out.hp U3.out.at_ BJ.out (by omega) (by omega))
    go_wp2_with fail
    refine D2.out.mono ?_
    rintro e u3 ⟨h1, m1, y, rfl, hy, hy1, hy2⟩
    obtain rfl : y = x := by
      have := MateOK.shift (exc_Exc _) (s := 0) (n := Na) (t := 0) (fun k hk => SA.out k hk) BA.out hkb HXA.out
      rw [Nat.zero_add] at this
      have e := hy.uniq (exc_Exc _) this
      omega
    have V2 := Lib.hid (U2.out.off U3.out (by omega) (by omega) m1)
    have V4 := Lib.hid (U4.out.off U3.out (by omega) (by omega) m1)
    have V3 := Lib.hid (U3.out.on h1 m1)
    clear h1 m1 hy D2 U2 U3 U4
    have D3 := Lib.hid (mate_yes p4 g4 (val lw) (Na + 2) 4 true u3 (1 + k) V4.out.nulr V4.out.hp V4.out.at_ BW'.out (by omega) (by omega))
    rw [show ((1 + k : Nat) : Int) = (k : Int) + 1 by omega] at D3
    go_wp2_with fail
    refine D3.out.mono ?_
    rintro e u4 ⟨h1, m1, z, rfl, hz, hz1, hz2⟩
    obtain rfl : z = y + 1 := by
      have := MateOK.shift (exc_Exc _) (s := 1) (n := Na) (t := 1) (fun k hk => SW'.out k hk) BA.out hkb HXA.out
      have e := hz.uniq (exc_Exc _) this
      omega
    have W2 := Lib.hid (V2.out.off V4.out (by omega) (by omega) m1)
    have W3 := Lib.hid (V3.out.off V4.out (by omega) (by omega) m1)
    clear h1 m1 hz D3 V2 V3 V4 hk
    by_cases hb0 : 0 < Nb
    · obtain ⟨j, hj, hjb⟩ : ∃ j : Nat, (ii : Int) % (Nb : Int) = (j : Int) ∧ j < Nb := ⟨ii % Nb, (Int.natCast_emod ii Nb).symm, Nat.mod_lt ii hb0⟩
      have hb0I : (0 : Int) < (Nb : Int) := by omega
      have hbnz : (Nb : Int) ≠ 0 := by omega
      have C1 := Lib.hid (mate_yes p2 g2 (val lb) Nb 0 false _ j W2.out.nulr W2.out.hp W2.out.at_ BB.out hjb (by omega))
      go_wp2_with fail
      refine C1.out.mono ?_
      rintro e v1 ⟨h1, m1, x, rfl, hx, hx1, hx2⟩
      have PJ := Lib.hid (W3.out.off W2.out (by omega) (by omega) m1)
      have PB := Lib.hid (W2.out.on h1 m1)
      have HXB := Lib.hid hx
      clear h1 m1 hx C1
      have C2 := Lib.hid (mate_yes p3 g3 (val (la ++ lb)) (Na + Nb) (0 + 4) true _ (Na + j) PJ.out.nulr PJ.out.hp PJ.out.at_ BJ.out (by omega) (by omega))
      rw [show ((Na + j : Nat) : Int) = (Na : Int) + (j : Int) by omega] at C2
      go_wp2_with fail
      refine C2.out.mono ?_
      rintro e v2 ⟨h2, m2, y, rfl, hy, hy1, hy2⟩
      obtain rfl : y = (Na : Int) + x := hy.uniq (exc_Exc _) (MateOK.shift (exc_Exc _) (n := Nb) (t := 0) (fun k hk => SJ.out k hk) BB.out hjb HXB.out)
      have PF := Lib.hid (PJ.out.on h2 m2)
      clear h2 m2 hy C2
      go_wp2_with fail
      go_ret
      exact ⟨rfl, PF.out.bel⟩
    · obtain rfl : Nb = 0 := by omega
      go_wp2_with fail
      go_ret
      exact ⟨rfl, W3.out.bel⟩
  · have had : decide ((0 : Int) < (Na : Int)) = false := decide_eq_false (by omega)
    by_cases hb0 : 0 < Nb
    · obtain ⟨j, hj, hjb⟩ : ∃ j : Nat, (ii : Int) % (Nb : Int) = (j : Int) ∧ j < Nb := ⟨ii % Nb, (Int.natCast_emod ii Nb).symm, Nat.mod_lt ii hb0⟩
      have hb0I : (0 : Int) < (Nb : Int) := by omega
      have hbnz : (Nb : Int) ≠ 0 := by omega
      have C1 := Lib.hid (mate_yes p2 g2 (val lb) Nb 0 false _ j T2.out.nulr T2.out.hp T2.out.at_ BB.out hjb (by omega))
      go_wp2_with fail
      refine C1.out.mono ?_
      rintro e v1 ⟨h1, m1, x, rfl, hx, hx1, hx2⟩
      have PJ := Lib.hid (T3.out.off T2.out (by omega) (by omega) m1)
      have PB := Lib.hid (T2.out.on h1 m1)
      have HXB := Lib.hid hx
      clear h1 m1 hx C1
      have C2 := Lib.hid (mate_yes p3 g3 (val (la ++ lb)) (Na + Nb) 0 false _ (Na + j) PJ.out.nulr PJ.out.hp PJ.out.at_ BJ.out (by omega) (by omega))
      rw [show ((Na + j : Nat) : Int) = (Na : Int) + (j : Int) by omega] at C2
      go_wp2_with fail
      refine C2.out.mono ?_
      rintro e v2 ⟨h2, m2, y, rfl, hy, hy1, hy2⟩
      obtain rfl : y = (Na : Int) + x := hy.uniq (exc_Exc _) (MateOK.shift (exc_Exc _) (n := Nb) (t := 0) (fun k hk => SJ.out k hk) BB.out hjb HXB.out)
      have PF := Lib.hid (PJ.out.on h2 m2)
      clear h2 m2 hy C2
      go_wp2_with fail
      go_ret
      exact ⟨rfl, PF.out.bel⟩
    · obtain rfl : Nb = 0 := by omega
      go_wp2_with fail
      go_ret
      exact ⟨rfl, T3.out.bel⟩
end Go.Proofs.YtdpejjokdncfnaaDoor
