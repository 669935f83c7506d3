/- BitsCuts: parts of a vector, and the whole put together again. -/
import Derived.Test.YtfaeeedjmlkpiaaBJoin
import Derived.Test.YtfaeeedjmlkpiaaBBytes
namespace Go.Proofs.Ytfaeeedjmlkpiaa
open Go.RowKit
set_option linter.unusedVariables false

theorem Sep.ofNew {w w' : World} {B g V n h U m : Nat} {A C : Option Addr} (hv : VecB w B g V n A) (hu : VecAt w' h U m C) (hh : w.heap.size ≤ h) : Sep g A h C := fun i hi hj => by
  have h1 := hv.foot_lt hi
  rcases VecB.foot_le hu hj with rfl | h2 <;> omega
theorem VecB.kept {w w' : World} {B B' g V n h U m : Nat} {A C C' : Option Addr} (hv : VecB w B g V n A) (s : Sep h C g A) (p : ∃ C', VecAt w' h U m C' ∧ Mod (foot h C) w w' ∧ (C' = C ∨ ∃ b, C' = some ⟨b, 0, none⟩ ∧ w.heap.size ≤ b)) : VecB w' B g V n A := by
  obtain ⟨_, _, hm, _⟩ := p
  exact hv.mod hm fun i hi hj => s i hj hi
theorem cut_three (L : List Nat) (f t : Nat) (hft : f ≤ t) : (L.take f ++ (L.drop f).take (t - f)) ++ L.drop t = L := by
  rw [← List.take_add, show f + (t - f) = t by omega, List.take_append_drop]
set_option maxHeartbeats 8000000 in
theorem bitsCuts_walk (A0 : Option Addr) (n0 c0 : Nat) (bs0 : List Nat) (fr to : Int) (w : World)
    (h0 : Rd w w.heap.size A0 n0 (U8 bs0)) (hbs0 : ∀ b ∈ bs0, b < 256) (hn0 : n0 ≤ c0) (hc0 : c0 ≤ maxLen) (hf0 : -9223372036854775808 ≤ fr ∧ fr ≤ 9223372036854775807) (ht0 : -9223372036854775808 ≤ to ∧ to ≤ 9223372036854775807) :
    Calls Try.prog 6 #[.slice A0 n0 c0, .int .i64 fr, .int .i64 to] w fun e w' => e = .returned (.bool true) ∧ Below w.heap.size w w' := by
  unfold maxLen at hc0
  have AW := Lib.hid (awake_p w)
  have H0 := Lib.hid h0
  have HB0 := Lib.hid hbs0
  clear h0 hbs0
  go_enter Try.func6, Try.ntmps6
  go_wp2_with fail
  refine AW.out.mono ?_
  rintro e w1 ⟨rfl, b1⟩
  have FW := Lib.hid (few_p A0 n0 c0 _ 200 bs0 w1 (H0.out.below b1) HB0.out b1.size (by omega) (by omega))
  have B1 := Lib.hid b1
  obtain ⟨L, hL⟩ : ∃ L, L = few bs0 200 := ⟨_, rfl⟩
  obtain ⟨N, hN⟩ : ∃ N, N = L.length := ⟨_, rfl⟩
  have HBL : Hid (Bin L) := by show Bin L; rw [hL]; exact few_bin _ _
  have hN3 : N ≤ 200 := by rw [hN, hL, few_len]; omega
  rw [← hL] at FW
  have HN := Lib.hid hN
  clear b1 AW hL hN
  go_wp2_with fail
  refine FW.out.mono ?_
  rintro e w2 ⟨A, c, rfl, hc, hm, hown, b2⟩
  rw [ofN_len, ← HN.out] at hown hc ⊢
  have r2 := Rd.ofOwn hown
  have hA : 0 < N → ∃ q, A = some ⟨q, 0, none⟩ := fun h => by obtain ⟨q, e, _⟩ := own_some hown h; exact ⟨q, e⟩
  have hA' : A = none ∨ ∃ q, A = some ⟨q, 0, none⟩ := by
    rcases hown.2 with ⟨h2, _⟩ | ⟨g', cap, cur, hv, _⟩
    · simp only [Value.slice.injEq] at h2; exact .inl h2.1
    · simp only [Value.slice.injEq] at hv; exact .inr ⟨g', hv.1⟩
  have HA := Lib.hid hA'
  have B2 : Hid (Below w.heap.size w w2) := B1.out.trans (b2.mono B1.out.size)
  have OF := Lib.hid (of_p A N c L w2 r2 HBL.out (by omega))
  have R2 := Lib.hid r2
  unfold maxLen at hm
  clear hown r2 b2 FW B1 hA hA'
  go_wp2_with fail
  refine OF.out.mono ?_
  rintro e w3 ⟨g, Av, rfl, hv, hg, b3⟩
  have HV3 := Lib.hid hv
  have R3 : Hid (Rd w3 w2.heap.size A N (I64 (ofN L))) := R2.out.below b3
  have B3 : Hid (Below w.heap.size w w3) := B2.out.trans (b3.mono B2.out.size)
  have hs23 := b3.size
  have hs2 := B2.out.size
  clear hv b3 OF B2 R2
  by_cases hout : fr < 0 ∨ to < fr ∨ (N : Int) < to
  · have CO := Lib.hid (cut_out g (val L) L.length _ Av fr to w3 HV3.out (by rw [← HN.out]; exact hout))
    by_cases h1 : fr < 0
    · clear hout
      go_wp2_with fail
      refine CO.out.mono ?_
      rintro e w4 ⟨rfl, rfl⟩
      go_wp2_with fail
      go_ret
      exact ⟨rfl, B3.out⟩
    · by_cases h2 : to < fr
      · clear hout
        go_wp2_with fail
        refine CO.out.mono ?_
        rintro e w4 ⟨rfl, rfl⟩
        go_wp2_with fail
        go_ret
        exact ⟨rfl, B3.out⟩
      · have h3 : (N : Int) < to := by omega
        clear hout
        go_wp2_with fail
        refine CO.out.mono ?_
        rintro e w4 ⟨rfl, rfl⟩
        go_wp2_with fail
        go_ret
        exact ⟨rfl, B3.out⟩
  · obtain ⟨f, rfl⟩ : ∃ f : Nat, fr = (f : Int) := ⟨fr.toNat, by omega⟩
    obtain ⟨t, rfl⟩ : ∃ t : Nat, to = (t : Int) := ⟨to.toNat, by omega⟩
    have hft : f ≤ t := by omega
    have htN : t ≤ N := by omega
    have g1 : ¬ (t : Int) < (f : Int) := by omega
    have g2 : ¬ (N : Int) < (t : Int) := by omega
    have hNl : L.length + 64 ≤ 1000000 := by rw [← HN.out]; omega
    have htL : t ≤ L.length := by rw [← HN.out]; exact htN
    have C1 := Lib.hid (cut_p g L _ f t Av w3 HV3.out HBL.out hft htL hNl)
    clear hout hf0 ht0
    go_wp2_with fail
    refine C1.out.mono ?_
    rintro e w4 ⟨gw, Aw, rfl, hw4, hh, b4⟩
    have HV4 : Hid (VecAt w4 g (val L) L.length Av) := VecB.below HV3.out b4
    have SVW : Hid (Sep g Av gw Aw) := Sep.ofNew HV3.out hw4 hh
    have HW4 := Lib.hid hw4
    have R4 : Hid (Rd w4 w2.heap.size A N (I64 (ofN L))) := R3.out.below (b4.mono hs23)
    have B4 : Hid (Below w.heap.size w w4) := B3.out.trans (b4.mono (Nat.le_trans hs2 hs23))
    have hs34 := b4.size
    clear hw4 b4 C1 HV3 R3 B3
    have C2 := cut_p g L _ 0 f Av w4 HV4.out HBL.out (by omega) (by omega) hNl
    rw [List.drop_zero, Nat.sub_zero] at C2
    have C2H := Lib.hid C2
    clear C2
    go_wp2_with fail
    refine C2H.out.mono ?_
    rintro e w5 ⟨ga, Aa, rfl, ha5, hga, b5⟩
    have HV5 : Hid (VecAt w5 g (val L) L.length Av) := VecB.below HV4.out b5
    have HW5 : Hid (VecAt w5 gw (val ((L.drop f).take (t - f))) (t - f) Aw) := VecB.below HW4.out b5
    have SVA : Hid (Sep g Av ga Aa) := Sep.ofNew HV4.out ha5 hga
    have SWA : Hid (Sep gw Aw ga Aa) := Sep.ofNew HW4.out ha5 hga
    have HA5 := Lib.hid ha5
    have R5 : Hid (Rd w5 w2.heap.size A N (I64 (ofN L))) := R4.out.below (b5.mono (by omega))
    have B5 : Hid (Below w.heap.size w w5) := B4.out.trans (b5.mono (by omega))
    have hs45 := b5.size
    clear ha5 b5 C2H HV4 R4 B4 HW4
    have C3 := cut_p g L _ t L.length Av w5 HV5.out HBL.out htL (Nat.le_refl _) hNl
    rw [List.take_of_length_le (by rw [List.length_drop]; exact Nat.le_refl _), ← HN.out] at C3
    have C3H := Lib.hid C3
    clear C3
    go_wp2_with fail
    refine C3H.out.mono ?_
    rintro e w6 ⟨gb, Ab, rfl, hb6, hgb, b6⟩
    have HV6 : Hid (VecAt w6 g (val L) N Av) := by have := VecB.below HV5.out b6; rwa [← HN.out] at this
    have HW6 : Hid (VecAt w6 gw (val ((L.drop f).take (t - f))) (t - f) Aw) := VecB.below HW5.out b6
    have HA6 : Hid (VecAt w6 ga (val (L.take f)) f Aa) := VecB.below HA5.out b6
    have SAB : Hid (Sep ga Aa gb Ab) := Sep.ofNew HA5.out hb6 hgb
    have HB6 := Lib.hid hb6
    have R6 : Hid (Rd w6 w2.heap.size A N (I64 (ofN L))) := R5.out.below (b6.mono (by omega))
    have B6 : Hid (Below w.heap.size w w6) := B5.out.trans (b6.mono (by omega))
    have hs56 := b6.size
    clear hb6 b6 C3H HV5 R5 B5 HW5 HA5
    have hlw : ((L.drop f).take (t - f)).length = t - f := by rw [List.length_take, List.length_drop, ← HN.out]; omega
    have hla : (L.take f).length = f := by rw [List.length_take, ← HN.out]; omega
    have hlb : (L.drop t).length = N - t := by rw [List.length_drop, ← HN.out]
    have hbw := (HBL.out.drop f).take (t - f)
    have hbb := HBL.out.drop t
    have LK : Hid (∀ As c', Rd w6 w6.heap.size As (t - f) (I64 (ofN ((L.drop f).take (t - f)))) → Calls Try.prog 16 #[.pointer (some ⟨gw, 0, none⟩), .slice As (t - f) c'] w6 fun e w' => e = .returned (.bool true) ∧ Below w6.heap.size w6 w') := fun As c' hr =>
      like_p gw _ Aw As _ (t - f) c' w6 (by rw [hlw]; exact HW6.out) hbw hr
    have hfc : (f : Int) ≤ (c : Int) := by omega
    have htc : (t : Int) ≤ (c : Int) := by omega
    go_wp2_with fail
    focus (
      have hr : Rd w6 w6.heap.size A (t - f) (I64 (ofN ((L.drop f).take (t - f)))) := by
        rw [show t - f = 0 by omega]
        exact Rd.nil _ _ _
      refine (LK.out _ _ hr).mono ?_
      clear hr)
    rotate_left
    focus (
      have hr : Rd w6 w6.heap.size (Option.map (fun x => x.add f) A) (t - f) (I64 (ofN ((L.drop f).take (t - f)))) := by
        rcases HA.out with rfl | ⟨q, rfl⟩
        · have := R6.out.none_
          rw [show t - f = 0 by omega]
          exact Rd.nil _ _ _
        · have r := ((R6.out.drop f).take (t - f) (by omega)).up (show w2.heap.size ≤ w6.heap.size by omega)
          rw [show ((I64 (ofN L)).drop f).take (t - f) = I64 (ofN ((L.drop f).take (t - f))) by simp [I64, ofN, List.map_drop, List.map_take]] at r
          have e : (⟨q, 0, none⟩ : Addr).add f = ⟨q, 0 + f, none⟩ := by unfold Addr.add; split <;> simp_all
          rw [Option.map_some, e]
          exact r
      refine (LK.out _ _ hr).mono ?_
      clear hr)
    all_goals (
      rintro e w7 ⟨rfl, b7⟩
      have HV7 : Hid (VecAt w7 g (val L) N Av) := VecB.below HV6.out b7
      have HW7 : Hid (VecAt w7 gw (val ((L.drop f).take (t - f))) ((L.drop f).take (t - f)).length Aw) := by rw [hlw]; exact VecB.below HW6.out b7
      have HA7 : Hid (VecAt w7 ga (val (L.take f)) (L.take f).length Aa) := by rw [hla]; exact VecB.below HA6.out b7
      have HB7 : Hid (VecAt w7 gb (val (L.drop t)) (L.drop t).length Ab) := by rw [hlb]; exact VecB.below HB6.out b7
      have R7 : Hid (Rd w7 w2.heap.size A N (I64 (ofN L))) := R6.out.below (b7.mono (by omega))
      have B7 : Hid (Below w.heap.size w w7) := B6.out.trans (b7.mono (by omega))
      have hs67 := b7.size
      clear b7 HV6 HW6 HA6 HB6 R6 B6 LK
      have J1 := Lib.hid (join_p ga gw _ (L.take f) ((L.drop f).take (t - f)) Aa Aw w7 HA7.out HW7.out (fun i hi hj => SWA.out i hj hi) hbw (by rw [hla, hlw]; omega))
      go_wp2_with fail
      refine J1.out.mono ?_
      rintro e w8 hp
      have b8 : Below w2.heap.size w7 w8 := (hp.below HA7.out).mono (by omega)
      obtain ⟨rfl, Aa1, ha8, hm8, hal⟩ := hp
      have HV8 : Hid (VecAt w8 g (val L) N Av) := VecB.mod HV7.out hm8 fun i hi hj => SVA.out i hi hj
      have HW8 : Hid (VecAt w8 gw (val ((L.drop f).take (t - f))) ((L.drop f).take (t - f)).length Aw) := VecB.mod HW7.out hm8 fun i hi hj => SWA.out i hi hj
      have HB8 : Hid (VecAt w8 gb (val (L.drop t)) (L.drop t).length Ab) := VecB.mod HB7.out hm8 fun i hi hj => SAB.out i hj hi
      have SVA1 : Hid (Sep ga Aa1 g Av) := Sep.next SVA.out.symm HV7.out hal
      have SWA1 : Hid (Sep ga Aa1 gw Aw) := Sep.next SWA.out.symm HW7.out hal
      have SAB1 : Hid (Sep ga Aa1 gb Ab) := Sep.next SAB.out HB7.out hal
      have HA8 := Lib.hid ha8
      have R8 : Hid (Rd w8 w2.heap.size A N (I64 (ofN L))) := R7.out.below b8
      have B8 : Hid (Below w.heap.size w w8) := B7.out.trans (b8.mono hs2)
      have hs78 := hm8.size
      clear b8 ha8 hm8 hal HV7 HW7 HA7 HB7 R7 B7 J1 SVA SWA SAB
      have J2 := join_p ga gb _ (L.take f ++ (L.drop f).take (t - f)) (L.drop t) Aa1 Ab w8 HA8.out HB8.out SAB1.out hbb (by rw [List.length_append, hla, hlw, hlb]; omega)
      rw [cut_three L f t hft, ← HN.out] at J2
      have J2H := Lib.hid J2
      clear J2
      go_wp2_with fail
      refine J2H.out.mono ?_
      rintro e w9 hp
      have b9 : Below w2.heap.size w8 w9 := (hp.below HA8.out).mono (by omega)
      obtain ⟨rfl, Aa2, ha9, hm9, hal⟩ := hp
      have HV9 : Hid (VecAt w9 g (val L) N Av) := VecB.mod HV8.out hm9 fun i hi hj => SVA1.out i hj hi
      have HW9 : Hid (VecAt w9 gw (val ((L.drop f).take (t - f))) ((L.drop f).take (t - f)).length Aw) := VecB.mod HW8.out hm9 fun i hi hj => SWA1.out i hj hi
      have SVA2 : Hid (Sep ga Aa2 g Av) := Sep.next SVA1.out HV8.out hal
      have SWA2 : Hid (Sep ga Aa2 gw Aw) := Sep.next SWA1.out HW8.out hal
      have HA9 := Lib.hid ha9
      have R9 : Hid (Rd w9 w2.heap.size A N (I64 (ofN L))) := R8.out.below b9
      have B9 : Hid (Below w.heap.size w w9) := B8.out.trans (b9.mono hs2)
      have hs89 := hm9.size
      clear b9 ha9 hm9 hal HV8 HW8 HA8 HB8 R8 B8 J2H SVA1 SWA1 SAB1
      have BY1 := Lib.hid (bytes_p g (val L) N _ Av w9 HV9.out)
      go_wp2_with fail
      refine BY1.out.mono ?_
      rintro e w10 ⟨P1, d1, rfl, hd1, hdm1, own1, b10⟩
      have BY2 := Lib.hid (bytes_p gw _ _ _ Aw w10 (VecB.below HW9.out b10))
      have OW1 := Lib.hid own1
      have B10 := Lib.hid b10
      clear own1 b10 BY1
      go_wp2_with fail
      refine BY2.out.mono ?_
      rintro e w11 ⟨P2, d2, rfl, hd2, hdm2, own2, b11⟩
      have q1 := bytesL_lt (val L) N
      have q2 := bytesL_lt (val ((L.drop f).take (t - f))) ((L.drop f).take (t - f)).length
      have n1 : (bytesL (val L) N).length ≤ 100 := by rw [bytesL_len]; omega
      have n2 : (bytesL (val ((L.drop f).take (t - f))) ((L.drop f).take (t - f)).length).length ≤ 100 := by rw [bytesL_len, hlw]; omega
      generalize bytesL (val L) N = p1 at *
      generalize bytesL (val ((L.drop f).take (t - f))) ((L.drop f).take (t - f)).length = p2 at *
      generalize hm1 : p1.length = m1 at *
      generalize hm2 : p2.length = m2 at *
      have O1 : Hid (w11.ownsRow w9.heap.size 5 1 (.slice P1 m1 d1) m1 (U8 p1)) := own_below OW1.out b11
      have hR1 : 0 < m1 → ∃ b, P1 = some ⟨b, 0, none⟩ ∧ w9.heap.size ≤ b ∧ b < w10.heap.size := fun h0 => own_some OW1.out h0
      have hR2 : 0 < m2 → ∃ b, P2 = some ⟨b, 0, none⟩ ∧ w10.heap.size ≤ b ∧ b < w11.heap.size := fun h0 => own_some own2 h0
      have HR1 := Lib.hid hR1
      have HR2 := Lib.hid hR2
      have O2 := Lib.hid own2
      have hs910 := B10.out.size
      have hs1011 := b11.size
      have B911 : Hid (Below w9.heap.size w9 w11) := B10.out.trans (b11.mono hs910)
      have BK := Lib.hid (Blk.new w11 38 #[.slice P1 m1 d1, .slice P2 m2 d2])
      have hQ1 := Lib.hid q1
      have hQ2 := Lib.hid q2
      clear hR1 hR2 own2 OW1 b11 B10 BY2 q1 q2 hm1 hm2
      have hown1 := O1.out.alloc (.cells #[.slice P1 m1 d1, .slice P2 m2 d2] 38)
      have hown2 := O2.out.alloc (.cells #[.slice P1 m1 d1, .slice P2 m2 d2] 38)
      have B912 : Hid (Below w9.heap.size w9 (w11.alloc (.cells #[.slice P1 m1 d1, .slice P2 m2 d2] 38))) := B911.out.alloc (Nat.le_trans hs910 hs1011) _
      have OO1 := Lib.hid hown1
      have OO2 := Lib.hid hown2
      clear hown1 hown2 O1 O2 B911
      go_wp2_with fail
      generalize hW12 : w11.alloc (.cells #[.slice P1 m1 d1, .slice P2 m2 d2] 38) = w12 at *
      have hs12 : w11.heap.size < w12.heap.size := by rw [← hW12]; simp
      clear hW12
      generalize w11.heap.size = s3 at *
      generalize w10.heap.size = s2 at *
      go_loopw [87] (fun i wr => ∃ k : Nat, k ≤ 2 ∧ i = .int .i64 (k : Int) ∧ Hid (k = 0 → ∃ ys, wr.ownsRow w9.heap.size 5 1 (.slice P1 m1 d1) m1 (U8 ys) ∧ ∀ b ∈ ys, b < 256) ∧ Hid (k ≤ 1 → ∃ ys, wr.ownsRow s2 5 1 (.slice P2 m2 d2) m2 (U8 ys) ∧ ∀ b ∈ ys, b < 256) ∧
        Hid (Blk wr s3 38 #[.slice P1 m1 d1, .slice P2 m2 d2]) ∧ Hid (Mod (fun i => w9.heap.size ≤ i ∧ i < s3) w12 wr)) (fun i _ => 2 - (intOf i).toNat)
      case atStart => exact ⟨0, by omega, rfl, fun _ => ⟨p1, OO1.out, hQ1.out⟩, fun _ => ⟨p2, OO2.out, hQ2.out⟩, BK.out, Mod.refl _ _⟩
      case round =>
        clear OO1 OO2 BK
        obtain ⟨k, hk, rfl, ho1, ho2, hbk, hmo⟩ := hrel
        by_cases hlt : k < 2
        · obtain ⟨P, mp, dp, lo, hi, ys, hcell, hown, hys, hrg, hlo, hhi, hnext, hmp⟩ : ∃ (P : Option Addr) (mp dp lo hi : Nat) (ys : List Nat), wr.cell? ⟨s3, k, none⟩ = some (.slice P mp dp) ∧ Hid (wr.ownsRow lo 5 1 (.slice P mp dp) mp (U8 ys)) ∧ Hid (∀ b ∈ ys, b < 256) ∧
              Hid (0 < mp → ∃ b, P = some ⟨b, 0, none⟩ ∧ lo ≤ b ∧ b < hi) ∧ w9.heap.size ≤ lo ∧ hi ≤ s3 ∧ Hid (∀ w', Mod (fun i => lo ≤ i ∧ i < hi) wr w' → k + 1 ≤ 1 → ∃ ys, w'.ownsRow s2 5 1 (.slice P2 m2 d2) m2 (U8 ys) ∧ ∀ b ∈ ys, b < 256) ∧ mp ≤ 100 := by
            rcases (show k = 0 ∨ k = 1 by omega) with rfl | rfl
            · obtain ⟨ys, h1, h2⟩ := ho1.out rfl
              refine ⟨P1, m1, d1, w9.heap.size, s2, ys, hbk.out.cell 0, h1, h2, HR1.out, Nat.le_refl _, hs1011, fun w' hm _ => ?_, n1⟩
              obtain ⟨zs, h3, h4⟩ := ho2.out (by omega)
              refine ⟨zs, own_mod h3 hm fun q hq hx => ?_, h4⟩
              have := (h3.lt q hq).1
              omega
            · obtain ⟨ys, h1, h2⟩ := ho2.out (by omega)
              exact ⟨P2, m2, d2, s2, s3, ys, hbk.out.cell 1, h1, h2, HR2.out, hs910, Nat.le_refl _, fun w' hm h => absurd h (by omega), n2⟩
          have hkI : (k : Int) < 2 := by omega
          clear ho1 ho2
          obtain ⟨w13, hw13⟩ : ∃ w13, w13 = wr := ⟨wr, rfl⟩
          subst hw13
          go_wp2_with fail
          go_loopw [93] (fun i wq => ∃ (j : Nat) (zs : List Nat), j ≤ mp ∧ i = .int .i64 (j : Int) ∧ Hid (∀ b ∈ zs, b < 256) ∧ Hid (wq.ownsRow lo 5 1 (.slice P mp dp) mp (U8 zs)) ∧ Hid (Mod (fun i => lo ≤ i ∧ i < hi) w13 wq)) (fun i _ => mp - (intOf i).toNat)
          case atStart => exact ⟨0, ys, by omega, rfl, hys.out, hown.out, Mod.refl _ _⟩
          case round =>
            obtain ⟨j, zs, hj, rfl, hzs, how, hmi⟩ := hrel
            by_cases hjlt : j < mp
            · obtain ⟨q, hq, hq1, hq2⟩ := hrg.out (by omega)
              subst hq
              have t1 := own_cell8 how.out j hjlt
              have f1 := how.out.frozenAt j
              have hyl : zs.getD j 0 < 256 := by
                have := own_len8 how.out
                rw [List.getD_eq_getElem?_getD, List.getElem?_eq_getElem (by omega)]; exact hzs.out _ (List.getElem_mem _)
              have hx := xor8 _ hyl
              have hxl := xor8_lt _ hyl
              have OS := Lib.hid (own_set8 how.out j (zs.getD j 0 ^^^ 255))
              have hYS : Hid (∀ b ∈ zs.set j (zs.getD j 0 ^^^ 255), b < 256) := fun b hb => by
                rcases List.mem_or_eq_of_mem_set hb with h | h
                · exact hzs.out b h
                · rw [h]; exact hxl
              clear hcell
              generalize zs.getD j 0 ^^^ 255 = y2 at *
              generalize zs.getD j 0 = y at *
              go_wp2_with fail
              go_roundw
              case rel => exact ⟨j + 1, _, by omega, by go_num, hYS, OS.out, hmi.out.setCell (p := ⟨q, j, none⟩) (fun _ => ⟨hq1, hq2⟩) _⟩
              case measure => simp [intOf]; omega
            · obtain rfl : j = mp := by omega
              have hnx := hnext.out _ hmi.out
              have hmo2 : Hid (Mod (fun i => w9.heap.size ≤ i ∧ i < s3) w12 wr) := hmo.out.trans hmi.out fun i _ hi => ⟨by omega, by omega⟩
              have hbk2 : Hid (Blk wr s3 38 #[.slice P1 m1 d1, .slice P2 m2 d2]) := hbk.out.mod hmi.out fun hi => by omega
              clear hcell hown how
              go_wp2_with fail
              go_roundw
              case rel => exact ⟨k + 1, by omega, by go_num, fun h => absurd h (by omega), hnx, hbk2, hmo2⟩
              case measure => simp [intOf]; omega
        · obtain rfl : k = 2 := by omega
          have b12 := hmo.out
          have HV13 : Hid (VecAt wr g (val L) N Av) := VecB.mod (VecB.below HV9.out (B912.out.mono (Nat.le_refl _))) b12 fun i hi hf => by have := VecB.foot_lt HV9.out hi; omega
          have HW13 : Hid (VecAt wr gw (val ((L.drop f).take (t - f))) ((L.drop f).take (t - f)).length Aw) := VecB.mod (VecB.below HW9.out B912.out) b12 fun i hi hf => by have := VecB.foot_lt HW9.out hi; omega
          have HA13 : Hid (VecAt wr ga (val L) N Aa2) := VecB.mod (VecB.below HA9.out B912.out) b12 fun i hi hf => by have := VecB.foot_lt HA9.out hi; omega
          have hb13 : Hid (Below w9.heap.size w9 wr) := B912.out.trans (b12.belowB (by have := B912.out.size; omega) fun i hi hf => by omega)
          have R13 : Hid (Rd wr w2.heap.size A N (I64 (ofN L))) := R9.out.below (hb13.out.mono (by omega))
          have B13 : Hid (Below w.heap.size w wr) := B9.out.trans (hb13.out.mono (by omega))
          have hs13 := hb13.out.size
          have h2w : w2.heap.size ≤ wr.heap.size := by omega
          clear ho1 ho2 hbk hmo b12 HV9 HW9 HA9 R9 B9
          have r3 := Rd.new wr 3 #[.int .i64 1] 1 (I64 [1]) (by simp [I64]) (by simp)
          have hwx := VecB.below HW13.out ((Below.refl _ _).alloc (Nat.le_refl _) (.cells #[.int .i64 1] 3))
          have AD := Lib.hid (add_p gw ((L.drop f).take (t - f)) Aw (some ⟨wr.heap.size, 0, none⟩) 1 1 [1] _ hwx (r3.up (by simp)) (fun i hi hf => by
            obtain ⟨a, e, rfl⟩ := hi
            cases e
            exact absurd (VecB.foot_lt HW13.out hf) (Nat.lt_irrefl _)) (by rw [hlw]; omega))
          have hal0 := (Below.refl wr.heap.size wr).alloc (Nat.le_refl _) (.cells #[.int .i64 1] 3)
          have HV14 : Hid (VecAt (wr.alloc (.cells #[.int .i64 1] 3)) g (val L) N Av) := VecB.below HV13.out hal0
          have HA14 : Hid (VecAt (wr.alloc (.cells #[.int .i64 1] 3)) ga (val L) N Aa2) := VecB.below HA13.out hal0
          have HWX := Lib.hid hwx
          have R14 : Hid (Rd (wr.alloc (.cells #[.int .i64 1] 3)) w2.heap.size A N (I64 (ofN L))) := R13.out.below (hal0.mono (by omega))
          have B14 : Hid (Below w.heap.size w (wr.alloc (.cells #[.int .i64 1] 3))) := B13.out.trans (hal0.mono (by omega))
          clear r3 hwx hal0 HV13 HW13 HA13 R13 B13
          go_wp2_with fail
          refine AD.out.mono ?_
          rintro e w15 hp
          have b15 : Below w2.heap.size _ w15 := (hp.below HWX.out).mono (by omega)
          obtain ⟨rfl, Aw2, _, hm15, _⟩ := hp
          have hv15 : VecAt w15 g (val L) N Av := VecB.mod HV14.out hm15 fun i hi hj => SVW.out i hi hj
          have ha15 : VecAt w15 ga (val L) N Aa2 := VecB.mod HA14.out hm15 fun i hi hj => SWA2.out i hi hj
          have r15 : Rd w15 w2.heap.size A N (I64 (ofN L)) := R14.out.below b15
          have B15 : Hid (Below w.heap.size w w15) := B14.out.trans (b15.mono hs2)
          have SM := Lib.hid (same_vv ga g (val L) (val L) N N _ _ Aa2 Av w15 ha15 hv15)
          rw [show decide (N = N ∧ val L = val L) = true by simp] at SM
          have LKE : Hid (∀ j c', Calls Try.prog 16 #[.pointer (some ⟨g, 0, none⟩), .slice A N c'] (w15.drewN j) fun e w' => e = .returned (.bool true) ∧ Below (w15.drewN j).heap.size (w15.drewN j) w') := fun j c' =>
            like_p g L Av A _ N c' (w15.drewN j) (by rw [← HN.out]; exact VecB.drewN hv15 j) HBL.out ((r15.up (Nat.le_trans h2w (Nat.le_trans (by simp) b15.size))).drewN j)
          clear hv15 ha15 r15 b15 hm15 HV14 HA14 HWX R14 B14 AD
          go_wp2_with fail
          refine SM.out.mono ?_
          rintro e w16 ⟨rfl, j, rfl⟩
          go_wp2_with fail
          refine (LKE.out _ _).mono ?_
          rintro e w17 ⟨rfl, b17⟩
          go_wp2_with fail
          go_ret
          refine ⟨rfl, (below_draws B15.out j).trans (b17.mono ?_)⟩
          exact B15.out.size)
end Go.Proofs.Ytfaeeedjmlkpiaa
