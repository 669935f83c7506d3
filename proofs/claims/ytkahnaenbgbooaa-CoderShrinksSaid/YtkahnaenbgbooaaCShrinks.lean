/- CoderShrinks: of many bits that are all the same the code of order 0 is short. -/
import Derived.Test.YtkahnaenbgbooaaCLaw
import Derived.Test.YtkahnaenbgbooaaCShrinkM
namespace Go.Proofs.Ytkahnaenbgbooaa
set_option maxRecDepth 20000
open Go.RowKit
set_option linter.unusedVariables false

theorem wf_u16 {x : Int} (h : (Lit.int .u16 x).wf = true) : ∃ n : Nat, x = (n : Int) ∧ n < 65536 := by
  simp only [Lit.wf, IntKind.min, IntKind.max, IntKind.signed, IntKind.bits] at h
  simp at h
  exact ⟨x.toNat, by omega, by omega⟩
theorem digL_half (x : Nat) (h : 0 < x) : digL x = digL (x / 2) + 1 := by
  have hb : ∀ y, Nat.beq y 0 = decide (y = 0) := fun y => by
    by_cases h : y = 0
    · subst h; rfl
    · rw [decide_eq_false h, ← Bool.not_eq_true, Nat.beq_eq]; exact h
  unfold digL
  rw [hb, hb]
  by_cases h2 : 2 ≤ x
  · have e1 : decide (x = 0) = false := by rw [decide_eq_false_iff_not]; omega
    have e2 : decide (x / 2 = 0) = false := by rw [decide_eq_false_iff_not]; omega
    rw [e1, e2, cond_false, cond_false, Nat.log2_def, if_pos h2]
  · obtain rfl : x = 1 := by omega
    rfl
set_option maxHeartbeats 4000000 in
theorem coderShrinks_walk (bit : Bool) (a : Nat) (w : World) (ha : a < 65536) :
    Calls Try.prog 6 #[.bool bit, .int .u16 (a : Int)] w fun e w' => e = .returned (.bool true) ∧ Below w.heap.size w w' := by
  have AW := Lib.hid (awake18_p w)
  have BN := Lib.hid bnew_p
  have hmod : ((a : Int) % 6000) = ((a % 6000 : Nat) : Int) := by omega
  have hmod2 : ((a : Int)).tmod 6000 = ((a % 6000 : Nat) : Int) := by rw [Int.tmod_eq_emod_of_nonneg (by omega)]; omega
  have hm60 : a % 6000 < 6000 := Nat.mod_lt _ (by decide)
  generalize a % 6000 = n at *
  obtain ⟨b, hb⟩ : ∃ b : Nat, b = if bit = true then 1 else 0 := ⟨_, rfl⟩
  have hb2 : b < 2 := by rw [hb]; split <;> omega
  have HS := Lib.hid (shrinks b n hb2 hm60)
  have HBB : Hid (∀ n, BinB (List.replicate n b)) := fun n x hx => by rw [List.eq_of_mem_replicate hx]; exact hb2
  go_enter Try.func6, Try.ntmps6
  go_wp2_with fail
  refine AW.out.mono ?_
  rintro e w1 ⟨rfl, b1⟩
  have B1 := Lib.hid b1
  clear b1 AW
  go_simp
  iterate 20 go_step
  go_cut [5] from 14 to 14 (fun x wx => x = .int .i64 (b : Int) ∧ w1 = wx)
  case first =>
    cases bit with
    | true =>
      simp at hb
      subst hb
      go_wp2_with fail
      go_meet
      exact ⟨rfl, rfl⟩
    | false =>
      simp at hb
      subst hb
      go_wp2_with fail
      go_meet
      exact ⟨rfl, rfl⟩
  case rest =>
    obtain ⟨rfl, rfl⟩ := hcut
    clear hb
    go_wp2_with fail
    refine (BN.out _).mono ?_
    rintro e w2 ⟨rfl, hv2, b2⟩
    have HV2 : Hid (VecS w2 (fun i => w1.heap.size ≤ i) w1.heap.size []) := ⟨none, hv2, fun i hi => by rcases hi with rfl | ⟨b, h, _⟩; (· omega); (· cases h)⟩
    have B2 := Lib.hid (B1.out.trans (b2.mono B1.out.size))
    have h12 := b2.size
    have hg0 : w.heap.size ≤ w1.heap.size := B1.out.size
    clear hv2 b2 BN
    generalize w1.heap.size = g at *
    go_wp2_with fail
    go_loopw [20] (fun i wr => ∃ j : Nat, j ≤ n ∧ i = .int .i64 (j : Int) ∧ Hid (VecS wr (fun i => g ≤ i) g (List.replicate j b)) ∧ Hid (Below w.heap.size w wr) ∧ Hid (g ≤ wr.heap.size)) (fun i _ => n - (intOf i).toNat)
    case atStart => exact ⟨0, by omega, rfl, HV2, B2, h12⟩
    case round =>
      clear HV2 B2 h12
      obtain ⟨j, hj, rfl, HV, HB, HG⟩ := hrel
      by_cases hlt : j < n
      · have AD := Lib.hid (addS_p g (fun i => g ≤ i) (List.replicate j b) b wr HV.out (fun i hi => Nat.le_trans HG.out hi) hb2 (by simp; omega))
        rw [← List.replicate_succ'] at AD
        go_wp2_with fail
        refine AD.out.mono ?_
        rintro e w3 ⟨rfl, hv3, m3⟩
        have HV3 := Lib.hid hv3
        have HG3 : Hid (g ≤ w3.heap.size) := Nat.le_trans HG.out m3.size
        have HB3 : Hid (Below w.heap.size w w3) := HB.out.trans (m3.belowB HB.out.size (fun i hi h => by have : g ≤ i := h; omega))
        clear hv3 m3 AD HV HB HG
        go_wp2_with fail
        go_roundw
        case rel => exact ⟨j + 1, by omega, by go_num, HV3, HB3, HG3⟩
        case measure => simp [intOf]; omega
      · obtain rfl : j = n := by omega
        obtain ⟨A, hva, _⟩ := HV.out
        have EV := Lib.hid (Encode_p 0 g (List.replicate j b) _ A wr hva (HBB.out j) (by decide) (by simp; omega))
        clear hva HV HG
        go_wp2_with fail
        refine EV.out.mono ?_
        rintro e w3 ⟨g3, A3, rfl, hv3, b3, _⟩
        have HV3 := Lib.hid hv3
        have B3 := Lib.hid (HB.out.trans (b3.mono HB.out.size))
        clear hv3 b3 EV HB
        obtain ⟨Ln, hLn⟩ : ∃ Ln, Ln = (codeOf 0 (List.replicate j b)).length := ⟨_, rfl⟩
        rw [← hLn] at HV3 HS
        clear hLn hj hlt
        go_wp2_with fail
        go_loopw [10, 11] (fun d x wr => ∃ dn xn : Nat, d = .int .i64 (dn : Int) ∧ x = .int .i64 (xn : Int) ∧ xn < 6000 ∧ dn ≤ 100000 - xn ∧ Hid (digL j = dn + digL xn) ∧ w3 = wr) (fun _ x _ => (intOf x).toNat)
        case atStart => exact ⟨0, j, rfl, rfl, hm60, by omega, by show _ = _; omega, rfl⟩
        case round =>
          obtain ⟨dn, xn, rfl, rfl, hx6, hd6, HD, rfl⟩ := hrel
          by_cases hx : 0 < xn
          · have hq : (xn : Int).tdiv 2 = ((xn / 2 : Nat) : Int) := by rw [Int.tdiv_eq_ediv_of_nonneg (by omega)]; omega
            have HD2 : Hid (digL j = (dn + 1) + digL (xn / 2)) := by
              show _ = _
              rw [HD.out, digL_half xn hx]; omega
            have hxi : 0 < (xn : Int) := by omega
            obtain ⟨y, hy⟩ : ∃ y, y = xn / 2 := ⟨_, rfl⟩
            rw [← hy] at hq HD2
            have hy2 : y < xn := by omega
            clear hy HD
            go_wp2_with fail
            go_roundw
            case rel => exact ⟨dn + 1, y, by go_num, rfl, by omega, by omega, HD2, trivial⟩
            case measure => simp [intOf]; omega
          · obtain rfl : xn = 0 := by omega
            have hd0 : digL 0 = 0 := rfl
            have hle : Ln ≤ dn + 4 := by have := HS.out; have := HD.out; omega
            have LN := Lib.hid (blen_p g3 _ _ A3 w3 HV3.out)
            have hli : (Ln : Int) ≤ (dn : Int) + 4 := by omega
            clear hle HD hd0
            go_wp2_with fail
            refine LN.out.mono ?_
            rintro e w7 ⟨rfl, rfl⟩
            go_wp2_with fail
            go_ret
            exact ⟨rfl, B3.out⟩
end Go.Proofs.Ytkahnaenbgbooaa
