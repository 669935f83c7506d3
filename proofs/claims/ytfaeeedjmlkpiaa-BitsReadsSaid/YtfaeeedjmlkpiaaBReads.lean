/- BitsReads: bits read again in numbers of any sizes. -/
import Derived.Test.YtfaeeedjmlkpiaaBOf
import Derived.Test.YtfaeeedjmlkpiaaBRead
import Derived.Test.YtfaeeedjmlkpiaaBRow
namespace Go.Proofs.Ytfaeeedjmlkpiaa
open Go.RowKit
set_option linter.unusedVariables false

theorem ofN_drop_I (l : List Nat) (k : Nat) : (I64 (ofN l)).drop k = I64 (ofN (l.drop k)) := by rw [ofN_drop]; simp [I64, List.map_drop]
theorem ofN_take_I (l : List Nat) (k : Nat) : (I64 (ofN l)).take k = I64 (ofN (l.take k)) := by rw [ofN_take, I64_take]
set_option maxHeartbeats 4000000 in
theorem bitsReads_walk (A1 A2 : Option Addr) (n1 c1 n2 c2 : Nat) (bs : List Nat) (z : List Int) (w : World)
    (h1 : Rd w w.heap.size A1 n1 (U8 bs)) (hb1 : ∀ b ∈ bs, b < 256) (hn1 : n1 ≤ c1) (hc1 : c1 ≤ maxLen)
    (h2 : Rd w w.heap.size A2 n2 (I64 z)) (hz : ∀ i, -9223372036854775808 ≤ z.getD i 0 ∧ z.getD i 0 ≤ 9223372036854775807) (hn2 : n2 ≤ c2) (hc2 : c2 ≤ maxLen) :
    Calls Try.prog 4 #[.slice A1 n1 c1, .slice A2 n2 c2] w fun e w' => e = .returned (.bool true) ∧ Below w.heap.size w w' := by
  unfold maxLen at hc1 hc2
  have AW := Lib.hid (awake_p w)
  have H1 := Lib.hid h1
  have H2 := Lib.hid h2
  have HZ := Lib.hid hz
  have HB := Lib.hid hb1
  clear h1 h2 hz hb1
  go_enter Try.func4, Try.ntmps4
  go_wp2_with (go_at_call 9; refine AW.out.mono ?_)
  rintro e w1 ⟨rfl, b1⟩
  have FW := Lib.hid (few_p A1 n1 c1 _ 300 bs w1 (H1.out.below b1) HB.out b1.size (by omega) (by omega))
  have B1 := Lib.hid b1
  obtain ⟨L, hL⟩ : ∃ L, L = few bs 300 := ⟨_, rfl⟩
  obtain ⟨N, hN⟩ : ∃ N, N = L.length := ⟨_, rfl⟩
  have HBL : Hid (Bin L) := by show Bin L; rw [hL]; exact few_bin _ _
  have hN3 : N ≤ 300 := by rw [hN, hL, few_len]; omega
  rw [← hL] at FW
  have HN := Lib.hid hN
  clear b1 AW hL hN
  go_wp2_with (go_at_call 18; refine FW.out.mono ?_)
  rintro e w2 ⟨A, c, rfl, hc, hm, hown, b2⟩
  rw [ofN_len, ← HN.out] at hown hc ⊢
  have r2 := Rd.ofOwn hown
  have hA : A = none ∨ ∃ q, A = some ⟨q, 0, none⟩ := by
    rcases hown.2 with ⟨h2, _⟩ | ⟨g', cap, cur, hv, _⟩
    · simp only [Value.slice.injEq] at h2; exact .inl h2.1
    · simp only [Value.slice.injEq] at hv; exact .inr ⟨g', hv.1⟩
  have B2 : Hid (Below w.heap.size w w2) := B1.out.trans (b2.mono B1.out.size)
  have OF := Lib.hid (of_p A N c L w2 r2 HBL.out (by omega))
  have R2 := Lib.hid r2
  have HA := Lib.hid hA
  clear hown r2 b2 FW B1 hA
  go_wp2_with (go_at_call 14; refine OF.out.mono ?_)
  rintro e w3 ⟨g, Av, rfl, hv, hg, b3⟩
  rw [← HN.out] at hv
  have RD := Lib.hid (read_p g (val L) N _ Av w3 hv)
  have HV := Lib.hid hv
  have R3 : Hid (Rd w3 w2.heap.size A N (I64 (ofN L))) := R2.out.below b3
  have B3 : Hid (Below w.heap.size w w3) := B2.out.trans (b3.mono B2.out.size)
  have hs23 := b3.size
  have B2s : w.heap.size ≤ w2.heap.size := B2.out.size
  clear hv b3 OF B2 R2
  go_wp2_with (go_at_call 19; refine RD.out.mono ?_)
  rintro e w4 ⟨r, rfl, hr, b4⟩
  have HV4 : Hid (VecAt w4 g (val L) L.length Av) := by rw [← HN.out]; exact VecB.below HV.out b4
  have hvA := (VecB.below HV4.out ((Below.refl _ _).alloc (Nat.le_refl _) (.cells #[.int .i64 1, .int .i64 0, .int .i64 1] 3)))
  have r5 := Rd.new w4 3 #[.int .i64 1, .int .i64 0, .int .i64 1] 3 (I64 [1, 0, 1]) (by simp [I64]) (by simp)
  have AD := Lib.hid (add_p g L Av (some ⟨w4.heap.size, 0, none⟩) 3 3 [1, 0, 1] _ hvA (r5.up (by simp)) (fun i hi hf => by
        obtain ⟨a, e, rfl⟩ := hi
        cases e
        exact absurd (VecB.foot_lt HV4.out hf) (Nat.lt_irrefl _)) (by rw [← HN.out]; omega))
  have HR := Lib.hid hr
  have B4 := Lib.hid b4
  have HVA := Lib.hid hvA
  clear hr b4 hvA r5 RD
  go_wp2_with (go_at_call 11; refine AD.out.mono ?_)
  rintro e w5 hp
  have hb5 := hp.below HVA.out
  obtain ⟨rfl, A5, _, hm5, _⟩ := hp
  have hR5 : ReadAt w5 w3.heap.size r (val L) N 0 := (HR.out.below ((Below.refl _ _).alloc (Nat.le_refl _) _)).mod hm5 fun i hi hl hf => by
    have := VecB.foot_lt HV.out hf; omega
  have h35 : Below g w3 w5 := ((B4.out.mono (Nat.le_of_lt (VecB.hlt HV.out))).alloc (Nat.le_trans (Nat.le_of_lt (VecB.hlt HV.out)) B4.out.size) _).trans hb5
  have B5 : Hid (Below w.heap.size w w5) := B3.out.trans (h35.mono (Nat.le_trans B2s hg))
  have hL5 : Rd w5 w3.heap.size A N (I64 (ofN L)) := (R3.out.below (h35.mono hg)).up hs23
  have HR5 := Lib.hid hR5
  have HL5 := Lib.hid hL5
  have h3s : w3.heap.size ≤ w5.heap.size := h35.size
  have hws : w.heap.size ≤ w3.heap.size := B3.out.size
  clear hR5 hL5 hb5 hm5 h35 AD HR HV HV4 HVA B3 B4 R3
  have hcap : c ≤ 9223372036854775807 := by unfold maxLen at hm; omega
  generalize w3.heap.size = base at *
  obtain ⟨V, hV⟩ : ∃ V, V = val L := ⟨_, rfl⟩
  rw [← hV] at HR5
  have HVV := Lib.hid hV
  clear hV hm
  go_wp2
  go_loopw [5, 26] (fun v i wr => ∃ (k p m : Nat) (Ap : Option Addr) (cp : Nat), k ≤ n2 ∧ i = .int .i64 (k : Int) ∧ Hid (m + p = N) ∧ m ≤ 300 ∧ v = .slice Ap m cp ∧ m ≤ cp ∧ cp ≤ 9223372036854775807 ∧ (Ap = none ∨ ∃ q o, Ap = some ⟨q, o, none⟩) ∧
    Hid (Rd wr base Ap m (I64 (ofN (L.drop p)))) ∧ Hid (ReadAt wr base r V N p) ∧ Hid (Below w.heap.size w5 wr) ∧ base ≤ wr.heap.size) (fun _ i _ => n2 - (intOf i).toNat)
  case atStart =>
    refine ⟨0, 0, N, A, c, by omega, rfl, by show _ = _; omega, hN3, rfl, hc, hcap, ?_, ?_, HR5.out, Below.refl _ _, h3s⟩
    · rcases HA.out with h | ⟨q, h⟩
      · exact .inl h
      · exact .inr ⟨q, 0, h⟩
    · show Rd _ _ _ _ _
      rw [List.drop_zero]; exact HL5.out
  case round =>
    clear HR5 HL5 HA hc hcap
    obtain ⟨k, p, m, Ap, cp, hk, rfl, hmp, hm3, rfl, hmc, hcp, hAp, hrd, hre, hbl, hbw⟩ := hrel
    by_cases hlt : k < n2
    · have hr := H2.out.below (B5.out.trans hbl.out)
      obtain ⟨b, o, rfl, _, k1⟩ := hr.i64 (by omega)
      have t1 := k1 k hlt
      obtain ⟨hx1, hx2⟩ := HZ.out k
      clear hr k1
      by_cases h40 : 40 ≤ k
      · have h40' : (40 : Int) ≤ (k : Int) := by omega
        generalize z.getD k 0 = x at *
        go_wp2
        go_ret
        exact ⟨rfl, B5.out.trans hbl.out⟩
      · have h40' : ¬ (40 : Int) ≤ (k : Int) := by omega
        have hlt' : (k : Int) < (n2 : Int) := by omega
        clear h40
        generalize z.getD k 0 = x at *
        have hnp : N - p = m := by have := hmp.out; omega
        by_cases hno : m < cnt64 x
        · have RN := Lib.hid (rnum_no base r V N p x wr hre.out ⟨hx1, hx2⟩ (by rw [hnp]; exact hno))
          have SZ := Lib.hid (fun w' => size_p x w' ⟨hx1, hx2⟩)
          generalize cnt64 x = kk at *
          have hno' : (m : Int) < (kk : Int) := by omega
          clear hnp
          go_wp2_with fail
          refine RN.out.mono ?_
          rintro e w6 ⟨rfl, j1, rfl⟩
          have LF := Lib.hid (left_p base r V N p _ (hre.out.below (below_draws (Below.refl _ _) j1)))
          rw [show N - p = m by have := hmp.out; omega] at LF
          go_wp2_with fail
          refine (SZ.out _).mono ?_
          rintro e w7 ⟨rfl, rfl⟩
          go_wp2_with fail
          refine LF.out.mono ?_
          rintro e w8 ⟨rfl, j2, rfl⟩
          go_wp2_with fail
          go_roundw
          case rel => exact ⟨k + 1, p, m, Ap, cp, by omega, by go_num, hmp, hm3, rfl, hmc, hcp, hAp, hrd.out.below (below_draws (Below.refl _ _) _), hre.out.below (below_draws (Below.refl _ _) _), below_draws hbl.out _, hbw⟩
          case measure => simp [intOf]; omega
        · have RN := Lib.hid (rnum_yes base r V N p x wr hre.out ⟨hx1, hx2⟩ (by omega))
          have SZ := Lib.hid (fun w' => size_p x w' ⟨hx1, hx2⟩)
          have hk64 : cnt64 x ≤ 64 := by unfold cnt64; split <;> (try split) <;> omega
          generalize cnt64 x = kk at *
          have hno' : ¬ (m : Int) < (kk : Int) := by omega
          have hkm : kk ≤ m := by omega
          have hkc : (kk : Int) ≤ (cp : Int) := by omega
          have hkm' : (kk : Int) ≤ (m : Int) := by omega
          obtain ⟨y, hy⟩ : ∃ y, y = val ((L.drop p).take kk) := ⟨_, rfl⟩
          have e1 : V / 2 ^ p % 2 ^ kk = y := by rw [hy, val_take (HBL.out.drop p), val_drop HBL.out, HVV.out]
          rw [e1] at RN
          have HY := Lib.hid hy
          clear hnp e1 hy hno
          go_wp2_with fail
          refine RN.out.mono ?_
          rintro e w6 ⟨rfl, hr6, hm6⟩
          have hrr : base ≤ r := hr6.2.1
          have hb6 : Below base wr w6 := hm6.belowB hbw fun i hi e => by omega
          have LF := Lib.hid (left_p base r V N (p + kk) w6 hr6)
          rw [show N - (p + kk) = m - kk by have := hmp.out; omega] at LF
          have HB6 : Hid (Below w.heap.size w5 w6) := hbl.out.trans (hb6.mono hws)
          have HRD6 : Hid (Rd w6 base Ap m (I64 (ofN (L.drop p)))) := hrd.out.below hb6
          have HRE6 := Lib.hid hr6
          have hbw6 : base ≤ w6.heap.size := Nat.le_trans hbw hb6.size
          have MP : Hid (m - kk + (p + kk) = N) := by show _ = _; have := hmp.out; omega
          clear hr6 hm6 hb6 hrd hre hbl RN
          have VL : Hid (∀ c', Calls Try.prog 23 #[.slice Ap kk c'] w6 fun e w' => e = .returned (.int .u64 (y : Int)) ∧ w6 = w') := fun c' => by
            have r := HRD6.out.take kk hkm
            rw [ofN_take_I] at r
            have := value_p Ap kk c' base _ _ r ((HBL.out.drop p).take kk) (by omega)
            rwa [← HY.out] at this
          rcases hAp with rfl | ⟨q, o', rfl⟩
          · obtain rfl : m = 0 := HRD6.out.none_
            obtain rfl : kk = 0 := by omega
            go_wp2_with fail
            refine (SZ.out _).mono ?_
            rintro e w7 ⟨rfl, rfl⟩
            go_wp2_with fail
            refine (VL.out _).mono ?_
            rintro e w7 ⟨rfl, rfl⟩
            go_wp2_with fail
            refine LF.out.mono ?_
            rintro e w8 ⟨rfl, j2, rfl⟩
            go_wp2_with fail
            go_roundw
            case rel => exact ⟨k + 1, p, 0, none, cp, by omega, by go_num, hmp, by omega, rfl, by omega, hcp, .inl rfl, HRD6.out.below (below_draws (Below.refl _ _) _), HRE6.out.below (below_draws (Below.refl _ _) _), below_draws HB6.out _, hbw6⟩
            case measure => simp [intOf]; omega
          · go_wp2_with fail
            refine (SZ.out _).mono ?_
            rintro e w7 ⟨rfl, rfl⟩
            go_wp2_with fail
            refine (VL.out _).mono ?_
            rintro e w7 ⟨rfl, rfl⟩
            go_wp2_with fail
            · refine LF.out.mono ?_
              rintro e w8 ⟨rfl, j2, rfl⟩
              go_wp2_with fail
              have RDN : Hid (Rd w6 base (some ⟨q, o', none⟩) (m - kk) (I64 (ofN (L.drop (p + kk))))) := by
                have e1 : L.drop (p + kk) = [] := List.drop_of_length_le (by have := hmp.out; have := HN.out; omega)
                rw [e1, show m - kk = 0 by omega]
                exact Rd.nil _ _ _
              go_roundw
              case rel => exact ⟨k + 1, p + kk, m - kk, some ⟨q, o', none⟩, 0, by omega, by go_num, MP, by omega, rfl, by omega, by omega, .inr ⟨_, _, rfl⟩, RDN.out.below (below_draws (Below.refl _ _) _), HRE6.out.below (below_draws (Below.refl _ _) _), below_draws HB6.out _, hbw6⟩
              case measure => simp [intOf]; omega
            · refine LF.out.mono ?_
              rintro e w8 ⟨rfl, j2, rfl⟩
              go_wp2_with fail
              have RDN : Hid (Rd w6 base (some ⟨q, o' + kk, none⟩) (m - kk) (I64 (ofN (L.drop (p + kk))))) := by
                have := HRD6.out.drop kk
                rw [ofN_drop_I, List.drop_drop] at this
                exact this
              go_roundw
              case rel => exact ⟨k + 1, p + kk, m - kk, some ⟨q, o' + kk, none⟩, cp - kk, by omega, by go_num, MP, by omega, rfl, by omega, by omega, .inr ⟨_, _, rfl⟩, RDN.out.below (below_draws (Below.refl _ _) _), HRE6.out.below (below_draws (Below.refl _ _) _), below_draws HB6.out _, hbw6⟩
              case measure => simp [intOf]; omega
    · obtain rfl : k = n2 := by omega
      go_wp2
      go_ret
      exact ⟨rfl, B5.out.trans hbl.out⟩
end Go.Proofs.Ytfaeeedjmlkpiaa
