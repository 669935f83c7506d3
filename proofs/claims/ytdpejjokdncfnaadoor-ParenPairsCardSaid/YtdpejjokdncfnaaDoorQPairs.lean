/- ParenPairs: mates, and the pairs around, are the document's. -/
import Derived.Test.YtdpejjokdncfnaaDoorQMates
import Derived.Test.YtdpejjokdncfnaaDoorQRow
import Derived.Test.YtdpejjokdncfnaaDoorQLaid
namespace Go.Proofs.YtdpejjokdncfnaaDoor
open Go.RowKit
set_option linter.unusedVariables false
set_option maxRecDepth 20000
theorem MateOK.lt {E : Nat → Int} (hE : Exc E) {n i : Nat} {y : Int} (h : MateOK E i y) (hB : Bal E n) (hi : i < n) : ∃ q : Nat, y = (q : Int) ∧ q < n := by
  obtain ⟨q, rfl, hp | hp⟩ := h
  · refine ⟨q, rfl, ?_⟩
    obtain ⟨j, hj⟩ := fwd_ex hB hi (hB.1 i (by omega))
    have := (hj.pair hE (hp.opens hE)).uniq hp
    have := hj.le
    have := hj.lt
    omega
  · exact ⟨q, rfl, by have := hp.lt; omega⟩
/-- What stands in memory, of parentheses that are asked. -/
structure Pst (w wr : World) (p g V n q : Nat) (d : Bool) : Prop where
  at_ : PAt wr p g V n d q
  nul : Nul w
  gl : w.heap.size ≤ g
  bel : Below w.heap.size w wr
theorem Pst.hp {w wr : World} {p g V n q : Nat} {d : Bool} (h : Pst w wr p g V n q d) : p ≠ 0 := by
  have h1 := h.nul.lt
  have h2 := h.gl
  have h3 := h.at_.1
  show p ≠ 0
  omega
theorem Pst.hg {w wr : World} {p g V n q : Nat} {d : Bool} (h : Pst w wr p g V n q d) : g ≠ 0 := by
  have h1 := h.nul.lt
  have h2 := h.gl
  show g ≠ 0
  omega
theorem Pst.nulr {w wr : World} {p g V n q : Nat} {d : Bool} (h : Pst w wr p g V n q d) : Nul wr := h.nul.below h.nul.lt h.bel
theorem Pst.on {w wr w' : World} {p g V n q q' : Nat} {d d' : Bool} (h : Pst w wr p g V n q d) (h' : PAt w' p g V n d' q') (m : Mod (Two2 g p) wr w') : Pst w w' p g V n q' d' :=
  ⟨h', h.nul, h.gl, h.bel.trans (m.belowB h.bel.size fun i hi hx => by have := h.gl; have := h.at_.1; rcases hx with hx | hx <;> omega)⟩
theorem Pst.below {w wr w' : World} {p g V n q : Nat} {d : Bool} (h : Pst w wr p g V n q d) (m : Below wr.heap.size wr w') : Pst w w' p g V n q d :=
  ⟨h.at_.below m, h.nul, h.gl, h.bel.trans (m.mono h.bel.size)⟩
theorem own_two {w w' : World} {base p g m c : Nat} {A : Option Addr} {xs : List Value} (h : w.ownsRow base 3 1 (.slice A m c) m xs) (hm : Mod (Two2 g p) w w') (hg : g < base) (hp : p < base) : w'.ownsRow base 3 1 (.slice A m c) m xs :=
  own_mod h hm fun k hk hx => by have := (h.lt k hk).1; rcases hx with hx | hx <;> omega
set_option maxHeartbeats 16000000 in
theorem parenPairs_walk (A0 : Option Addr) (n0 c0 pr st : Nat) (bs : List Nat) (w : World) (hT : Nul w)
    (h0 : Rd w w.heap.size A0 n0 (U8 bs)) (hbs : ∀ b ∈ bs, b < 256) (hn0 : n0 ≤ c0) (hc0 : c0 ≤ maxLen) (hpr : pr < 65536) (hst : st < 256) :
    Calls Tryd.prog 4 #[.int .u16 (pr : Int), .slice A0 n0 c0, .int .u8 (st : Int)] w fun e w' => e = .returned (.bool true) ∧ Below w.heap.size w w' := by
  unfold maxLen at hc0
  have AW := Lib.hid (qawake_p w hT)
  have HT := Lib.hid hT
  have H0 := Lib.hid h0
  have HBS := Lib.hid hbs
  obtain ⟨P, hP, hP9⟩ : ∃ P : Nat, (pr : Int) % 3000 = (P : Int) ∧ P ≤ 2999 := ⟨pr % 3000, by omega, by omega⟩
  obtain ⟨T, hT50, hT9⟩ : ∃ T : Nat, (st : Int) % 50 = (T : Int) ∧ T ≤ 49 := ⟨st % 50, by omega, by omega⟩
  clear hT h0 hbs
  go_enter Tryd.func4, Tryd.ntmps4
  go_wp2_with fail
  refine AW.out.mono ?_
  rintro e w1 ⟨rfl, b1⟩
  have AN := Lib.hid (any_p A0 n0 c0 P bs w1 ((H0.out.below b1).up b1.size) HBS.out (by omega) (by omega))
  have B1 := Lib.hid b1
  clear b1 AW
  go_wp2_with fail
  refine AN.out.mono ?_
  rintro e w2 ⟨l, A, c, hbin, hlen, hbal, rfl, hmc, hcm, own2, b2⟩
  obtain ⟨N, hN⟩ : ∃ N, 2 * P = N := ⟨_, rfl⟩
  rw [hN] at hlen hbal hmc own2 ⊢
  have hN9 : N ≤ 6000 := by omega
  have MD := Lib.hid (qmade_p A N c l w2 (Rd.ofOwn own2) hbin (by omega))
  have R2 := Lib.hid (Rd.ofOwn own2)
  have B2 : Hid (Below w.heap.size w w2) := B1.out.trans (b2.mono B1.out.size)
  have HBIN := Lib.hid hbin
  have HBAL := Lib.hid hbal
  clear hbin hlen hbal own2 b2 AN B1 hN
  go_wp2_with fail
  refine MD.out.mono ?_
  rintro e w3 (⟨_, p, g, rfl, hp, hg, b3⟩ | ⟨hno, _⟩)
  case inr => exact absurd HBAL.out hno
  have PS3 : Hid (Pst w w3 p g (val l) N 0 false) := ⟨hp, HT.out, by have := B2.out.size; omega, B2.out.trans (b3.mono B2.out.size)⟩
  have R3 := Lib.hid ((R2.out.below b3).up b3.size)
  have MT := Lib.hid (mates_p A N c l w3 R3.out HBIN.out (by omega) HBAL.out)
  have hpl := hp.lt
  have hgp := hp.1
  clear hp hg b3 MD R2 B2
  go_wp2_with fail
  refine MT.out.mono ?_
  rintro e w4 ⟨Y, Z, cy, cz, y, z, rfl, oy, oz, hyz, b4⟩
  have PS4 := Lib.hid (PS3.out.below b4)
  have OY := Lib.hid oy
  have OZ := Lib.hid oz
  have HYZ := Lib.hid hyz
  generalize w3.heap.size = B3 at *
  have hgl : g < B3 := by omega
  clear oy oz hyz b4 MT PS3 R3
  go_wp2_with fail
  go_loopw [12] (fun x wr => ∃ (i q : Nat) (d : Bool), x = .int .i64 (i : Int) ∧ i ≤ N + 50 ∧ q ≤ 12 * i ∧ Hid (Pst w wr p g (val l) N q d) ∧ Hid (wr.ownsRow B3 3 1 (.slice Y N cy) N (I64 y)) ∧ Hid (wr.ownsRow B3 3 1 (.slice Z N cz) N (I64 z))) (fun x _ => N + 60 - (intOf x).toNat)
  case atStart => exact ⟨0, 0, false, rfl, by omega, by omega, PS4.out, OY.out, OZ.out⟩
  case round =>
    clear PS4 OY OZ
    obtain ⟨i, q, d, rfl, hi, hq, hps, hoy, hoz⟩ := hrel
    by_cases hlt : i < N
    · obtain ⟨gy, ey, _, _⟩ := own_some hoy.out (by omega)
      obtain ⟨gz, ez, _, _⟩ := own_some hoz.out (by omega)
      subst ey ez
      obtain ⟨hmi, hri⟩ := HYZ.out i hlt
      have M1 := Lib.hid (mate_yes p g (val l) N q d wr i hps.out.nulr hps.out.hp hps.out.at_ HBAL.out hlt (by omega))
      obtain ⟨yi, hyi⟩ : ∃ yi, y.getD i 0 = yi := ⟨_, rfl⟩
      obtain ⟨zi, hzi⟩ : ∃ zi, z.getD i 0 = zi := ⟨_, rfl⟩
      rw [hyi] at hmi
      rw [hzi] at hri
      have HYI := Lib.hid hyi
      have HZI := Lib.hid hzi
      have HMI := Lib.hid hmi
      have HRI := Lib.hid hri
      clear hyi hzi hmi hri
      go_wp2_with fail
      refine M1.out.mono ?_
      rintro e w5 ⟨h5, m5, a, rfl, ha, ha1, ha2⟩
      obtain rfl : a = yi := ha.uniq (exc_Exc _) HMI.out
      have PS5 := Lib.hid (hps.out.on h5 m5)
      have OY5 := Lib.hid (own_two hoy.out m5 hgl hpl)
      have OZ5 := Lib.hid (own_two hoz.out m5 hgl hpl)
      have R1 := Lib.hid (round_yes p g (val l) N (q + 4) true w5 i PS5.out.nulr PS5.out.hp PS5.out.at_ HBAL.out hlt (by omega))
      clear h5 m5 ha M1 hps hoy hoz
      go_wp2_with fail
      refine R1.out.mono ?_
      rintro e w6 ⟨h6, m6, b, rfl, hb, hb1, hb2⟩
      obtain rfl : b = zi := hb.uniq (exc_Exc _) HRI.out
      have PS6 := Lib.hid (PS5.out.on h6 m6)
      have OY6 := Lib.hid (own_two OY5.out m6 hgl hpl)
      have OZ6 := Lib.hid (own_two OZ5.out m6 hgl hpl)
      have cyi : w6.cell? ⟨gy, i, none⟩ = some (.int .i64 a) := by rw [own_cellI OY6.out i hlt, HYI.out]
      have czi : w6.cell? ⟨gz, i, none⟩ = some (.int .i64 b) := by rw [own_cellI OZ6.out i hlt, HZI.out]
      obtain ⟨k, hk, hkN⟩ := HMI.out.lt (exc_Exc _) HBAL.out hlt
      subst hk
      have M2 := Lib.hid (mate_yes p g (val l) N (q + 8) true w6 k PS6.out.nulr PS6.out.hp PS6.out.at_ HBAL.out hkN (by omega))
      have HBK := Lib.hid HMI.out.back
      clear h6 m6 hb R1 PS5 OY5 OZ5
      go_wp2_with fail
      refine M2.out.mono ?_
      rintro e w7 ⟨h7, m7, c7, rfl, hc, hc1, hc2⟩
      obtain rfl : c7 = (i : Int) := hc.uniq (exc_Exc _) HBK.out
      have PS7 := Lib.hid (PS6.out.on h7 m7)
      have OY7 := Lib.hid (own_two OY6.out m7 hgl hpl)
      have OZ7 := Lib.hid (own_two OZ6.out m7 hgl hpl)
      clear h7 m7 hc M2 PS6 OY6 OZ6 cyi czi
      go_wp2_with fail
      go_roundw
      case rel => exact ⟨i + (1 + T), q + 12, true, congrArg (Value.int .i64) (by omega), by omega, by omega, PS7.out, OY7.out, OZ7.out⟩
      case measure => simp [intOf]; omega
    · have hltb : decide ((i : Int) < (N : Int)) = false := decide_eq_false (by omega)
      go_wp2_with fail
      go_ret
      exact ⟨rfl, hps.out.bel⟩
end Go.Proofs.YtdpejjokdncfnaaDoor
