/- The document's Good; ParenIs. -/
import Derived.Test.YtdpejjokdncfnaaDoorQMade
namespace Go.Proofs.YtdpejjokdncfnaaDoor
open Go.RowKit
set_option linter.unusedVariables false
set_option maxRecDepth 20000
theorem exc_list {l : List Nat} (hb : Bin l) (i : Nat) : exc (val l) (i + 1) = exc (val l) i + (2 * ((l.getD i 0 : Nat) : Int) - 1) := by
  rw [exc_next, val_bit hb]
def GoodP (w : World) (l : List Nat) (m : Nat) (e : Ending) (w' : World) : Prop := w = w' ∧ ∃ r : Bool, e = .returned (.bool r) ∧ (r = true ↔ Bal (exc (val l)) m)
theorem GoodP.no {w : World} {l : List Nat} {m : Nat} {e : Ending} (he : e = .returned (.bool false)) (h : ¬ Bal (exc (val l)) m) : GoodP w l m e w := ⟨rfl, false, he, by simp [h]⟩
theorem GoodP.yes {w : World} {l : List Nat} {m : Nat} {e : Ending} (he : e = .returned (.bool true)) (h : Bal (exc (val l)) m) : GoodP w l m e w := ⟨rfl, true, he, by simp [h]⟩
set_option maxHeartbeats 4000000 in
theorem good_p (A : Option Addr) (m c B : Nat) (l : List Nat) (w : World) (hr : Rd w B A m (I64 (ofN l))) (hb : Bin l) (hm : m ≤ 1000000) :
    Calls Tryd.prog 13 #[.slice A m c] w (GoodP w l m) := by
  have HR := Lib.hid hr
  have HBN := Lib.hid hb
  have HE := Lib.hid (exc_Exc (val l))
  have HX := Lib.hid (fun i => exc_list hb i)
  clear hr hb
  go_enter Tryd.func13, Tryd.ntmps13
  go_wp2_with fail
  go_loop [3, 8] (fun z x => ∃ (i : Nat) (y : Int), x = .int .i64 (i : Int) ∧ z = .int .i64 y ∧ i ≤ m ∧ -1000000 ≤ y ∧ y ≤ 1000000 ∧ Hid (exc (val l) i = y) ∧ Hid (∀ k, k ≤ i → 0 ≤ exc (val l) k)) (fun _ x => m - (intOf x).toNat)
  case atStart => exact ⟨0, 0, rfl, rfl, by omega, by omega, by omega, HE.out.zero, fun k hk => by obtain rfl : k = 0 := by omega
                                                                                                   rw [HE.out.zero]; exact Int.le_refl _⟩
  case round =>
    obtain ⟨i, y, rfl, rfl, hi, hy1, hy2, hy, hab⟩ := hrel
    by_cases hlt : i < m
    · obtain ⟨b', o, e, _, k1⟩ := HR.out.i64 (by omega)
      subst e
      have t1 := k1 i hlt
      rw [ofN_get] at t1
      have hx := HX.out i
      have hb2 := HBN.out.getD i
      have hbd := HE.out.bound (i + 1)
      rw [hx, hy.out] at hbd
      rw [hy.out] at hx
      clear k1
      generalize l.getD i 0 = b at *
      have HXI := Lib.hid hx
      clear hx
      by_cases hb1 : b = 1
      · subst hb1
        have t2 : w.cell? ⟨b', o + i, none⟩ = some (.int .i64 1) := t1
        have HS : Hid (exc (val l) (i + 1) = y + 1) := by show _ = _; rw [HXI.out]; rfl
        clear t1
        by_cases hneg : y + 1 < 0
        · have NB : Hid (¬ Bal (exc (val l)) m) := fun hB => by have := hB.1 (i + 1) (by omega); rw [HS.out] at this; omega
          go_wp2_with fail
          go_ret
          exact GoodP.no rfl NB.out
        · have hd : decide (y + 1 < 0) = false := decide_eq_false hneg
          have HAB : Hid (∀ k, k ≤ i + 1 → 0 ≤ exc (val l) k) := fun k hk => by
            by_cases e : k = i + 1
            · rw [e, HS.out]; omega
            · exact hab.out k (by omega)
          clear hneg
          go_wp2_with fail
          go_round
          case rel => exact ⟨i + 1, y + 1, by go_num, rfl, by omega, by omega, by omega, HS.out, HAB.out⟩
          case measure => simp [intOf]; omega
      · obtain rfl : b = 0 := by omega
        have t2 : w.cell? ⟨b', o + i, none⟩ = some (.int .i64 0) := t1
        have HS : Hid (exc (val l) (i + 1) = y - 1) := by show _ = _; rw [HXI.out]; show y + (2 * 0 - 1) = y - 1; omega
        clear t1 hb1
        by_cases hneg : y - 1 < 0
        · have NB : Hid (¬ Bal (exc (val l)) m) := fun hB => by have := hB.1 (i + 1) (by omega); rw [HS.out] at this; omega
          go_wp2_with fail
          go_ret
          exact GoodP.no rfl NB.out
        · have hd : decide (y - 1 < 0) = false := decide_eq_false hneg
          have HAB : Hid (∀ k, k ≤ i + 1 → 0 ≤ exc (val l) k) := fun k hk => by
            by_cases e : k = i + 1
            · rw [e, HS.out]; omega
            · exact hab.out k (by omega)
          go_wp2_with fail
          go_round
          case rel => exact ⟨i + 1, y - 1, by go_num, rfl, by omega, by omega, by omega, HS.out, HAB.out⟩
          case measure => simp [intOf]; omega
    · obtain rfl : i = m := by omega
      by_cases hy0 : y = 0
      · have YB : Hid (Bal (exc (val l)) i) := ⟨hab.out, by rw [hy.out, hy0]⟩
        subst hy0
        go_wp2_with fail
        go_ret
        exact GoodP.yes rfl YB.out
      · have NB : Hid (¬ Bal (exc (val l)) i) := fun hB => hy0 (by rw [← hy.out]; exact hB.2)
        have g0 : (y == 0) = false := by rw [beq_eq_false_iff_ne]; exact hy0
        clear hy0
        go_wp2_with fail
        go_ret
        exact GoodP.no rfl NB.out
set_option maxHeartbeats 8000000 in
theorem parenIs_walk (A0 : Option Addr) (n0 c0 m : Nat) (bs : List Nat) (w : World) (hT : Nul w)
    (h0 : Rd w w.heap.size A0 n0 (U8 bs)) (hbs : ∀ b ∈ bs, b < 256) (hn0 : n0 ≤ c0) (hc0 : c0 ≤ maxLen) (hm : m < 256) :
    Calls Tryd.prog 3 #[.slice A0 n0 c0, .int .u8 (m : Int)] w fun e w' => e = .returned (.bool true) ∧ Below w.heap.size w w' := by
  unfold maxLen at hc0
  have AW := Lib.hid (qawake_p w hT)
  have H0 := Lib.hid h0
  have HBS := Lib.hid hbs
  obtain ⟨k, hk, hk9⟩ : ∃ k : Nat, (m : Int) % 40 = (k : Int) ∧ k < 40 := ⟨m % 40, by omega, by omega⟩
  clear hT h0 hbs
  go_enter Tryd.func3, Tryd.ntmps3
  go_wp2_with fail
  refine AW.out.mono ?_
  rintro e w1 ⟨rfl, b1⟩
  have FW := Lib.hid (few_p A0 n0 c0 w.heap.size k bs w1 (H0.out.below b1) HBS.out b1.size (by omega) (by omega))
  have B1 := Lib.hid b1
  clear b1 AW
  go_wp2_with fail
  refine FW.out.mono ?_
  rintro e w2 ⟨A, c, rfl, hmc, hcm, own2, b2⟩
  have HBN := Lib.hid (few_bin bs k)
  have hl9 : (few bs k).length ≤ 40 := by rw [few_len]; omega
  generalize few bs k = l at *
  obtain ⟨n, hn⟩ : ∃ n, (ofN l).length = n := ⟨_, rfl⟩
  rw [hn] at own2 hmc ⊢
  have hln : l.length = n := by rw [← hn, ofN_len]
  have hn9 : n ≤ 40 := by omega
  have R2 := Lib.hid (Rd.ofOwn own2)
  have B2 : Hid (Below w.heap.size w w2) := B1.out.trans (b2.mono B1.out.size)
  have NW := Lib.hid (bnew_p w2)
  have HLN := Lib.hid hln
  clear own2 b2 hn hln FW B1 hl9
  go_wp2_with fail
  refine NW.out.mono ?_
  rintro e w3 ⟨rfl, hv3, b3⟩
  have hv3' : VecAt w3 w2.heap.size (val []) ([] : List Nat).length none := hv3
  have r3 := R2.out.below b3
  have hws : w2.heap.size < w3.heap.size := hv3.foot_lt (.inl rfl)
  have AD := Lib.hid (add_p0 w2.heap.size [] none A n c (ofN l) w3 hv3' (r3.up (by omega)) (fun h0 i hi hf => by
    obtain ⟨b, o, e, hb, _⟩ := r3.at_ h0
    obtain ⟨a, ea, ei⟩ := hi
    rw [e] at ea
    obtain rfl := Option.some.inj ea
    have h9 : b = i := ei
    rcases hf with hf | ⟨b', e', _⟩
    · omega
    · cases e') (by simp; omega))
  rw [bit1_ofN HBN.out, List.nil_append, HLN.out] at AD
  have HV3 := Lib.hid hv3'
  have R3 := Lib.hid r3
  have B3 : Hid (Below w.heap.size w w3) := B2.out.trans (b3.mono B2.out.size)
  clear hv3 hv3' r3 b3 NW R2
  go_wp2_with fail
  refine AD.out.mono ?_
  rintro e w4 hp4
  have b4 := hp4.below HV3.out
  obtain ⟨rfl, Av, hv4, m4, ha4⟩ := hp4
  have XN := Lib.hid (pnew_p w2.heap.size (val l) n _ Av w4 hv4)
  have hs4 : w2.heap.size ≤ w4.heap.size := by have := b4.size; omega
  have R4 := Lib.hid ((R3.out.below b4).up hs4)
  have B4 : Hid (Below w.heap.size w w4) := B3.out.trans (b4.mono B2.out.size)
  clear hv4 b4 m4 ha4 AD HV3 R3 B3
  go_wp2_with fail
  refine XN.out.mono ?_
  rintro e w5 hp5
  rcases hp5 with ⟨hB, p, x, rfl, hpa, hx, b5⟩ | ⟨hB, rfl, b5⟩
  · have R5 := Lib.hid (R4.out.below b5)
    have B5 : Hid (Below w.heap.size w w5) := B4.out.trans (b5.mono B4.out.size)
    have GD := Lib.hid (good_p A n c _ l w5 R5.out HBN.out (by omega))
    have HPA := Lib.hid hpa
    have HBL := Lib.hid hB
    clear hpa b5 hB XN
    go_wp2_with fail
    refine GD.out.mono ?_
    rintro e w6 ⟨rfl, r, rfl, hr⟩
    obtain rfl : r = true := hr.2 HBL.out
    have PL := Lib.hid (plen_p p x (val l) n 0 w5 HPA.out.ix)
    clear hr GD
    go_wp2_with fail
    go_loop [9] (fun z => ∃ i : Int, z = .int .i64 i ∧ -1 ≤ i ∧ i ≤ (n : Int) + 1) (fun z => ((n : Int) + 1 - intOf z).toNat)
    case atStart => exact ⟨-1, rfl, by omega, by omega⟩
    case round =>
      obtain ⟨i, rfl, hi1, hi2⟩ := hrel
      by_cases hend : (n : Int) < i
      · go_wp2_with (go_at_call 15; refine PL.out.mono ?_; rintro e w' ⟨rfl, rfl⟩)
        go_ret
        exact ⟨rfl, B5.out⟩
      · by_cases hin : 0 ≤ i ∧ i < (n : Int)
        · obtain ⟨hi0, hin⟩ := hin
          obtain ⟨j, rfl⟩ : ∃ j : Nat, i = (j : Int) := ⟨i.toNat, by omega⟩
          have hjn : j < n := by omega
          have OP := Lib.hid (popen_in p x (val l) n 0 w5 j HPA.out.ix hjn)
          rw [val_bit HBN.out] at OP
          obtain ⟨b', o, e, _, k1⟩ := R5.out.i64 (by omega)
          subst e
          have t1 := k1 j hjn
          rw [ofN_get] at t1
          have hb2 := HBN.out.getD j
          clear k1
          generalize l.getD j 0 = b at *
          have hb01 : b = 0 ∨ b = 1 := by omega
          rcases hb01 with rfl | rfl
          · have t2 : w5.cell? ⟨b', o + j, none⟩ = some (.int .i64 0) := t1
            clear t1
            go_wp2_with (go_at_call 14; refine OP.out.mono ?_; rintro e w' ⟨rfl, rfl⟩)
            go_round
            case rel => exact ⟨(j : Int) + 1, by go_num, by omega, by omega⟩
            case measure => simp [intOf]; omega
          · have t2 : w5.cell? ⟨b', o + j, none⟩ = some (.int .i64 1) := t1
            clear t1
            go_wp2_with (go_at_call 14; refine OP.out.mono ?_; rintro e w' ⟨rfl, rfl⟩)
            go_round
            case rel => exact ⟨(j : Int) + 1, by go_num, by omega, by omega⟩
            case measure => simp [intOf]; omega
        · have OP := Lib.hid (popen_out p x (val l) n 0 w5 i HPA.out.ix (by omega))
          by_cases hi0 : 0 ≤ i
          · obtain rfl : i = (n : Int) := by omega
            clear hin hend
            go_wp2_with (go_at_call 14; refine OP.out.mono ?_; rintro e w' ⟨rfl, rfl⟩)
            go_round
            case rel => exact ⟨(n : Int) + 1, by go_num, by omega, by omega⟩
            case measure => simp [intOf]
          · obtain rfl : i = -1 := by omega
            clear hin hend hi0
            go_wp2_with (go_at_call 14; refine OP.out.mono ?_; rintro e w' ⟨rfl, rfl⟩)
            go_round
            case rel => exact ⟨0, by go_num, by omega, by omega⟩
            case measure => simp [intOf]; omega
  · have R5 := Lib.hid (R4.out.below b5)
    have B5 : Hid (Below w.heap.size w w5) := B4.out.trans (b5.mono B4.out.size)
    have GD := Lib.hid (good_p A n c _ l w5 R5.out HBN.out (by omega))
    have HBL := Lib.hid hB
    clear b5 hB XN
    go_wp2_with fail
    refine GD.out.mono ?_
    rintro e w6 ⟨rfl, r, rfl, hr⟩
    obtain rfl : r = false := by
      cases r with
      | false => rfl
      | true => exact absurd (hr.1 rfl) HBL.out
    clear hr GD
    go_wp2_with fail
    go_ret
    exact ⟨rfl, B5.out⟩
end Go.Proofs.YtdpejjokdncfnaaDoor
