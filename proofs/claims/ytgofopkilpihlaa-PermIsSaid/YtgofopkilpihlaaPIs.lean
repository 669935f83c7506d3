/- The walk of the statement on which lists are permutations. -/
import Derived.Test.YtgofopkilpihlaaPRow
namespace Go.Proofs.Ytgofopkilpihlaa
open Go.RowKit
set_option linter.unusedVariables false

set_option maxRecDepth 100000 in
set_option maxHeartbeats 4000000 in
theorem permIs_walk (A : Option Addr) (n c : Nat) (z : List Int) (w : World) (h : Rd w w.heap.size A n (I64 z)) (hnc : n ≤ c) (hcm : c ≤ maxLen) :
    Calls Try.prog 3 #[.slice A n c] w fun e w' => e = .returned (.bool true) ∧ Below w.heap.size w w' := by
  unfold maxLen at hcm
  go_enter Try.func3, Try.ntmps3
  go_wp2_with fail
  refine (awake_p _).mono ?_
  rintro e w1 ⟨rfl, hb1⟩
  go_upto_region 3 with fail
  go_cut [0] (fun s0 wx => ∃ (A2 : Option Addr) (k2 : Nat) (y : List Int), s0 = .slice A2 y.length k2 ∧ y.length ≤ 20 ∧ wx.ownsRow w1.heap.size 3 1 (.slice A2 y.length k2) y.length (I64 y) ∧ Below w.heap.size w wx)
  case first =>
    have hcut : ∀ m ≤ n, ∃ y : List Int, Hid (y.length = m) ∧ Rd w w.heap.size A m (I64 y) := fun m hm =>
      ⟨z.take m, by show _ = _; rw [← I64_len, (h.cutI64 m hm).len], h.cutI64 m hm⟩
    clear h
    go_wp2_with fail
    case' inl => have hh := hcut 20 (by omega)
    case' inr => have hh := hcut n (by omega)
    all_goals
      obtain ⟨y, hyl, hr⟩ := hh
      have hy20 : y.length ≤ 20 := by rw [hyl.out]; omega
      refine (cloneI_any A _ _ _ y _ (hr.below hb1) (by omega)).mono ?_
      rintro e w2 ⟨A2, k2, rfl, hk2, hm2, hown2, hb2⟩
      go_wp2_with fail
      go_meet
      exact ⟨A2, k2, y, rfl, hy20, hown2, hb1.trans (hb2.mono hb1.size)⟩
  case rest =>
    obtain ⟨A2, k2, y, rfl, hy20, hown2, hb2⟩ := hcut
    clear h
    go_wp2_with fail
    have ry := Rd.ofOwn hown2
    refine (cloneI_any A2 _ _ _ y _ ry (by omega)).mono ?_
    rintro e w3 ⟨A3, k3, rfl, hk3, hm3, hown3, hb3⟩
    go_wp2_with fail
    refine (of_p A3 _ _ _ y _ (Rd.ofOwn hown3) (by omega)).mono ?_
    rintro e w4 ⟨hpost, hb4⟩
    have ry4 := (ry.below hb3).below (hb4.mono hb3.size)
    have hown3' := own_below hown3 hb4
    have hb24 : Below wc.heap.size wc w4 := hb3.trans (hb4.mono hb3.size)
    have hs3 := hb3.size
    have hs4 := hb4.size
    have hA3 : ∀ a : Addr, A3 = some a → a.block < w3.heap.size := fun a ha => by subst ha; exact (hown3.lt a.block rfl).2
    have HA3 := Lib.hid hA3
    clear hA3
    rcases hpost with ⟨g, l, b, hzl, rfl, hp, hlo⟩ | ⟨hno, rfl⟩
    · have hyn : y.length = l.length := by rw [hzl, ofN_len]
      have HYN := Lib.hid hyn
      rw [hyn] at hown3' ry4 hy20 ⊢
      clear hown3 hown2 ry hyn
      have HG : Hid (Good y) := by show Good y; rw [hzl]; exact hp.1.good
      have HZL := Lib.hid hzl
      clear hzl
      go_wp2
      go_loopw [30] (fun i wr => ∃ (k : Nat) (u : List Int), k ≤ l.length ∧ i = .int .i64 k ∧ wr.ownsRow wc.heap.size 3 1 (.slice A3 l.length k3) l.length (I64 u) ∧ Mod (fun q => wc.heap.size ≤ q ∧ q < w3.heap.size) w4 wr) (fun i _ => l.length - (intOf i).toNat)
      case atStart => exact ⟨0, y, by omega, rfl, hown3', Mod.refl _ _⟩
      case round =>
        clear hown3'
        obtain ⟨k, u, hk, rfl, hown3, hmd⟩ := hrel
        by_cases hlt : k < l.length
        · obtain ⟨g3, rfl, hg3, hg3'⟩ := own_some hown3 (by omega)
          have hc := own_cellI hown3 k hlt
          have hf := hown3.frozenAt k
          generalize u.getD k 0 = uk at hc
          go_wp2
          go_roundw
          case rel => exact ⟨k + 1, u.set k 0, by omega, by go_num, own_setI hown3 k 0, hmd.setCell (p := ⟨g3, k, none⟩) (fun _ => ⟨hg3, show g3 < _ from HA3.out ⟨g3, 0, none⟩ rfl⟩) _⟩
          case measure => simp [intOf]; omega
        · obtain rfl : k = l.length := by omega
          have hpR := hp.mod hlo hmd (fun i hi => hi.2)
          have hbR : Below wc.heap.size w4 wr := hmd.belowB (by omega) (fun i hi hx => by omega)
          have ryR := ry4.below hbR
          have hszR := hbR.size
          have hblR : Below w.heap.size w wr := (hb2.trans (hb24.mono hb2.size)).trans (hbR.mono hb2.size)
          rw [HZL.out] at ryR
          clear hown3 hmd hp hlo ry4 hbR
          have ryR2 := ryR.lt
          go_wp2_with fail
          refine (is_p A2 _ _ _ (ofN l) _ ryR (by omega)).mono ?_
          rintro e w5 ⟨⟨rfl, hg⟩ | ⟨rfl, hg⟩, rfl⟩
          · clear hg
            go_wp2_with fail
            refine (rinverse_p A2 _ _ l b _ ryR hpR.1 (by omega)).mono ?_
            rintro e w6 ⟨A6, k6, rfl, hk6, hm6, hown6, hb6⟩
            have hbl : b.length = l.length := hpR.1.len
            rw [ofN_len, hbl] at hown6 hk6 ⊢
            have hp6 := hpR.below hb6
            have ry6 := ryR2.below hb6
            have r6 := Rd.ofOwn hown6
            have hbl6 : Below w.heap.size w w6 := hblR.trans (hb6.mono hblR.size)
            have HBL := Lib.hid hbl
            clear hpR ryR ryR2 hown6 hb6 hbl
            go_wp2
            go_loopw [8] (fun i wx => ∃ k d : Nat, k ≤ l.length + 2 ∧ i = .int .i64 ((k : Int) - 1) ∧ wx = w6.drewN d) (fun i _ => ((l.length : Int) + 1 - intOf i).toNat)
            case atStart => exact ⟨0, 0, by omega, rfl, rfl⟩
            case round =>
              obtain ⟨k, d, hk, rfl, rfl⟩ := hrel
              have hpk := hp6.drewN d
              by_cases hk0 : k = 0
              · subst hk0
                rw [show ((0 : Nat) : Int) - 1 = -1 from rfl]
                go_wp2_with fail
                refine (at_out g l b (-1) _ hpk (.inl (by omega))).mono ?_
                rintro e w7 ⟨rfl, rfl⟩
                go_wp2_with fail
                refine (back_out g l b (-1) _ hpk (.inl (by omega))).mono ?_
                rintro e w7 ⟨rfl, rfl⟩
                go_wp2
                go_roundw
                case rel => exact ⟨1, d, by omega, rfl, rfl⟩
                case measure => simp [intOf] <;> omega
              · obtain ⟨q, rfl⟩ : ∃ q, k = q + 1 := ⟨k - 1, by omega⟩
                rw [show ((q + 1 : Nat) : Int) - 1 = (q : Int) by omega]
                by_cases hq : q < l.length
                · obtain ⟨b1, o1, rfl, hB1, m1⟩ := ry6.i64 (by omega)
                  obtain ⟨b2, o2, rfl, hB2, m2⟩ := r6.i64 (by omega)
                  have t1 := m1 q hq
                  have t2 := m2 q hq
                  rw [ofN_get] at t1 t2
                  have hat := Lib.hid (at_in g l b q (w6.drewN d) hpk hq)
                  have hbk := Lib.hid (back_in g l b q (w6.drewN d) hpk hq)
                  have hat' : ∀ W, W = w6.drewN d → True := fun _ _ => trivial
                  clear m1 m2 hat'
                  have AT : Hid (∀ d', Calls Try.prog 13 #[.pointer (some ⟨g, 0, none⟩), .int .i64 (q : Int)] (w6.drewN d') fun e w' => e = .returned (.int .i64 ((l.getD q 0 : Nat) : Int)) ∧ w6.drewN d' = w') := fun d' => at_in g l b q _ (hp6.drewN d') hq
                  have BK : Hid (∀ d', Calls Try.prog 14 #[.pointer (some ⟨g, 0, none⟩), .int .i64 (q : Int)] (w6.drewN d') fun e w' => e = .returned (.int .i64 ((b.getD q 0 : Nat) : Int)) ∧ w6.drewN d' = w') := fun d' => back_in g l b q _ (hp6.drewN d') hq
                  clear hat hbk
                  generalize l.getD q 0 = x at *
                  generalize b.getD q 0 = x2 at *
                  go_wp2
                  go_quiet (fail)
                  go_wp2_with fail
                  refine (AT.out _).mono ?_
                  rintro e w7 ⟨rfl, rfl⟩
                  go_wp2_with fail
                  refine (BK.out _).mono ?_
                  rintro e w7 ⟨rfl, rfl⟩
                  go_wp2
                  go_roundw
                  case rel => exact ⟨q + 2, _, by omega, by go_num, by first | rfl | exact World.drewN_drewN _ _ _⟩
                  case measure => simp [intOf]; omega
                · by_cases hq2 : q = l.length
                  · subst hq2
                    go_wp2_with fail
                    refine (at_out g l b _ _ hpk (.inr (by omega))).mono ?_
                    rintro e w7 ⟨rfl, rfl⟩
                    go_wp2_with fail
                    refine (back_out g l b _ _ hpk (.inr (by omega))).mono ?_
                    rintro e w7 ⟨rfl, rfl⟩
                    go_wp2
                    go_roundw
                    case rel => exact ⟨l.length + 2, d, by omega, by go_num, rfl⟩
                    case measure => simp [intOf]
                  · have hq3 : ¬ ((q : Int) ≤ (l.length : Int)) := by omega
                    go_wp2_with fail
                    refine (list_p g l b _ hpk).mono ?_
                    rintro e w8 ⟨A8, k8, rfl, hk8, hm8, hown8, hb8⟩
                    rw [ofN_len] at hown8 hk8 ⊢
                    rw [World.heap_drewN] at hown8 hb8
                    have hB8 : Below w6.heap.size w6 w8 := ⟨hb8.os, hb8.tape, hb8.output, hb8.size, hb8.block⟩
                    clear hb8 hq3 hq2 hpk
                    go_wp2
                    go_loopw [86] (fun i wx => ∃ (k : Nat) (u : List Int), k ≤ l.length ∧ i = .int .i64 k ∧ wx.ownsRow w6.heap.size 3 1 (.slice A8 l.length k8) l.length (I64 u) ∧ Below w6.heap.size w6 wx) (fun i _ => l.length - (intOf i).toNat)
                    case atStart => exact ⟨0, ofN l, by omega, rfl, hown8, hB8⟩
                    case round =>
                      clear hown8 hB8
                      obtain ⟨k, u, hk, rfl, hown8, hB8⟩ := hrel
                      by_cases hlt : k < l.length
                      · obtain ⟨g8, rfl, hg8, hg8'⟩ := own_some hown8 (by omega)
                        have hc := own_cellI hown8 k hlt
                        have hf := hown8.frozenAt k
                        generalize u.getD k 0 = uk at hc
                        go_wp2
                        go_roundw
                        case rel => exact ⟨k + 1, u.set k 0, by omega, by go_num, own_setI hown8 k 0, hB8.setCell hg8 _⟩
                        case measure => simp [intOf]; omega
                      · obtain rfl : k = l.length := by omega
                        have hp9 := hp6.below hB8
                        have ry9 := (ry6.lt).below hB8
                        have r9 := r6.below hB8
                        have hblF := hbl6.trans (hB8.mono hbl6.size)
                        have hz9 := hB8.size
                        clear hown8 hlt
                        go_wp2_with fail
                        refine (len_p g l b _ hp9).mono ?_
                        rintro e w9 ⟨rfl, rfl⟩
                        go_wp2_with fail
                        refine (list_p g l b _ hp9).mono ?_
                        rintro e w10 ⟨A10, k10, rfl, hk10, hm10, hown10, hb10⟩
                        rw [ofN_len] at hown10 hk10 ⊢
                        have hp10 := hp9.below hb10
                        have r10 := Rd.ofOwn hown10
                        have ry10 := ry9.below (hb10.mono hz9)
                        have r10b := r9.below (hb10.mono hz9)
                        have hbl10 := hblF.trans (hb10.mono hblF.size)
                        have hz10 := hb10.size
                        go_wp2_with fail
                        refine (equalI_any A10 A2 _ _ _ _ _ _ (ofN l) (ofN l) _ r10 ry10 (by omega) (by omega)).mono ?_
                        rintro e w11 ⟨he, d11, rfl⟩
                        rw [decide_eq_true rfl] at he
                        subst he
                        have hp11 := hp10.drewN d11
                        have r11 := r10b.drewN d11
                        have hbl11 := below_draws hbl10 d11
                        go_wp2_with fail
                        refine (inverse_p g l b _ hp11).mono ?_
                        rintro e w12 ⟨g12, rfl, hp12, hb12⟩
                        have r12 := r11.below (hb12.mono (by rw [World.heap_drewN]; omega))
                        have hbl12 := hbl11.trans (hb12.mono hbl11.size)
                        have hz12 := hb12.size
                        rw [World.heap_drewN] at hz12
                        go_wp2_with fail
                        refine (list_p g12 b l _ hp12).mono ?_
                        rintro e w13 ⟨A13, k13, rfl, hk13, hm13, hown13, hb13⟩
                        rw [ofN_len, HBL.out] at hown13 hk13 ⊢
                        have r13 := Rd.ofOwn hown13
                        have r13b := r12.below (hb13.mono (by omega))
                        have hbl13 := hbl12.trans (hb13.mono hbl12.size)
                        go_wp2_with fail
                        refine (equalI_any A13 A6 _ _ _ _ _ _ (ofN b) (ofN b) _ r13 r13b (by omega) (by omega)).mono ?_
                        rintro e w14 ⟨he, d14, rfl⟩
                        rw [decide_eq_true rfl] at he
                        subst he
                        go_wp2
                        go_ret
                        exact ⟨rfl, below_draws hbl13 d14⟩
          · exact absurd hpR.1.good hg
    · have hyn : Hid (y.length = y.length) := rfl
      clear hown3 hown2 ry
      go_wp2
      go_loopw [30] (fun i wr => ∃ (k : Nat) (u : List Int), k ≤ y.length ∧ i = .int .i64 k ∧ wr.ownsRow wc.heap.size 3 1 (.slice A3 y.length k3) y.length (I64 u) ∧ Below wc.heap.size w4 wr) (fun i _ => y.length - (intOf i).toNat)
      case atStart => exact ⟨0, y, by omega, rfl, hown3', Below.refl _ _⟩
      case round =>
        clear hown3'
        obtain ⟨k, u, hk, rfl, hown3, hmd⟩ := hrel
        by_cases hlt : k < y.length
        · obtain ⟨g3, rfl, hg3, hg3'⟩ := own_some hown3 (by omega)
          have hc := own_cellI hown3 k hlt
          have hf := hown3.frozenAt k
          generalize u.getD k 0 = uk at hc
          go_wp2
          go_roundw
          case rel => exact ⟨k + 1, u.set k 0, by omega, by go_num, own_setI hown3 k 0, hmd.setCell hg3 _⟩
          case measure => simp [intOf]; omega
        · obtain rfl : k = y.length := by omega
          have ryR := ry4.below hmd
          have hblR : Below w.heap.size w wr := (hb2.trans (hb24.mono hb2.size)).trans (hmd.mono hb2.size)
          go_wp2_with fail
          refine (is_p A2 _ _ _ y _ ryR (by omega)).mono ?_
          rintro e w5 ⟨⟨rfl, hg⟩ | ⟨rfl, hg⟩, rfl⟩
          · exact absurd hg hno
          · go_wp2
            go_ret
            exact ⟨rfl, hblR⟩
end Go.Proofs.Ytgofopkilpihlaa
