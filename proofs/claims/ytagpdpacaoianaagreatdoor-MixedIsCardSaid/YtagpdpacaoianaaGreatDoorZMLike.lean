/- Has a word just these letters? -/
import Derived.Test.YtagpdpacaoianaaGreatDoorZMText
import Derived.Test.YtagpdpacaoianaaGreatDoorZMBits
namespace Go.Proofs.YtagpdpacaoianaaGreatDoor
set_option maxRecDepth 20000
open Go.RowKit
set_option linter.unusedVariables false
theorem mat_out (B g : Nat) (ks : List Nat) (i : Int) (w : World) (h : WordAt w B g ks) (hi : i < 0 ∨ (ks.length : Int) ≤ i) : Calls Tryz.prog 36 #[.pointer (some ⟨g, 0, none⟩), .int .i64 i] w fun e w' => e = .returned (.int .i64 (-1)) ∧ w = w' := by
  have LP := Lib.hid (mlen_p B g ks w h)
  clear h
  by_cases h0 : i < 0
  · go_enter Tryz.func36, Tryz.ntmps36
    go_wp2_with fail
    go_ret
    exact ⟨rfl, rfl⟩
  · have h1 : (ks.length : Int) ≤ i := by omega
    have h2 : 0 ≤ i := by omega
    clear hi h0
    go_enter Tryz.func36, Tryz.ntmps36
    go_wp2_with fail
    refine LP.out.mono ?_
    rintro e w1 ⟨rfl, rfl⟩
    go_wp2_with fail
    go_ret
    exact ⟨rfl, rfl⟩
theorem mat_nil (i : Int) (w : World) : Calls Tryz.prog 36 #[.pointer none, .int .i64 i] w fun e w' => e = .returned (.int .i64 (-1)) ∧ w = w' := by
  have LP := Lib.hid (mlen_nil w)
  by_cases h0 : i < 0
  · go_enter Tryz.func36, Tryz.ntmps36
    go_wp2_with fail
    go_ret
    exact ⟨rfl, rfl⟩
  · have h2 : 0 ≤ i := by omega
    clear h0
    go_enter Tryz.func36, Tryz.ntmps36
    go_wp2_with fail
    refine LP.out.mono ?_
    rintro e w1 ⟨rfl, rfl⟩
    go_wp2_with fail
    go_ret
    exact ⟨rfl, rfl⟩
set_option maxRecDepth 100000 in
set_option maxHeartbeats 8000000 in
theorem like4_p (B g : Nat) (ks : List Nat) (A : Option Addr) (n c : Nat) (w : World) (h : WordAt w B g ks) (hr : Rd w w.heap.size A n (I64 (ofNB ks))) (hn : n ≤ 100000) :
    Calls Tryz.prog 12 #[.pointer (some ⟨g, 0, none⟩), .slice A n c] w fun e w' => e = .returned (.bool true) ∧ Below w.heap.size w w' := by
  obtain ⟨i0, hi0, hz0, hz1, hz2⟩ := info_parts info_int
  have hl : ks.length = n := by have := hr.len; rw [I64_len, ofN_lenB] at this; exact this
  have HL := Lib.hid hl
  have LN := Lib.hid (fun W (m : Below w.heap.size w W) => mlen_p B g ks W (h.below m))
  have TX := Lib.hid (fun W (m : Below w.heap.size w W) => mtext_p B g ks W (h.below m) (by omega))
  have RT := Lib.hid (fun W (m : Below w.heap.size w W) => refTextM_p A n c _ ks W (hr.below m) h.1 (by omega))
  have AO := Lib.hid (fun i W (hi : i < 0 ∨ (ks.length : Int) ≤ i) (m : Below w.heap.size w W) => mat_out B g ks i W (h.below m) hi)
  have AT := Lib.hid (fun i W (hi : i < ks.length) (m : Below w.heap.size w W) => mat_p B g ks i W (h.below m) hi (by omega))
  have CT := Lib.hid (fun z W (m : Below w.heap.size w W) => mcount_p B g ks z W (h.below m) (by omega))
  have RC := Lib.hid (fun z W (m : Below w.heap.size w W) => refCount4_p A n c _ ks z W (hr.below m) (by omega))
  have BT := Lib.hid (fun W (m : Below w.heap.size w W) => mbits_p B g ks W (h.below m) (by omega))
  have HR := Lib.hid hr
  have HK : Hid (∀ i, ks.getD i 0 < 4) := fun i => Kds.getD h.1 i
  have CZ : Hid (∀ z, cntZ z ks ≤ 100000) := fun z => by have := cntZ_le z ks; omega
  rw [hl] at LN AO AT
  clear h hr hl
  have b0 := Below.refl w.heap.size w
  go_enter Tryz.func12, Tryz.ntmps12
  go_wp2_with fail
  refine (LN.out w b0).mono ?_
  rintro e w1 ⟨rfl, rfl⟩
  go_wp2_with fail
  refine (TX.out w b0).mono ?_
  rintro e w1 ⟨rfl, b1⟩
  obtain ⟨tx, htx⟩ : ∃ tx, tx = textM ks := ⟨_, rfl⟩
  have R1 := Lib.hid (RT.out w1 b1)
  have A1 := Lib.hid (AO.out (-1) w1 (.inl (by omega)) b1)
  have A2 := Lib.hid (AO.out (n : Int) w1 (.inr (Int.le_refl _)) b1)
  have B1 := Lib.hid b1
  rw [← htx] at R1 ⊢
  clear htx b1 TX RT b0 LN
  go_wp2_with fail
  refine R1.out.mono ?_
  rintro e w2 ⟨rfl, rfl⟩
  go_wp2_with fail
  refine A1.out.mono ?_
  rintro e w2 ⟨rfl, rfl⟩
  go_wp2_with fail
  refine A2.out.mono ?_
  rintro e w2 ⟨rfl, rfl⟩
  clear R1 A1 A2 AO
  go_wp2_with fail
  go_loopw [5, 35] (fun x i wr => ∃ (j cc : Nat) (A5 : Option Addr), j ≤ n ∧ i = .int .i64 (j : Int) ∧ x = .slice A5 (2 * j) cc ∧ Hid (wr.ownsRow w.heap.size 3 1 (.slice A5 (2 * j) cc) (2 * j) (I64 (ofNB (wbits (ks.take j))))) ∧ Hid (Below w.heap.size w wr)) (fun _ i _ => n - (intOf i).toNat)
  case atStart => exact ⟨0, 0, none, by omega, rfl, rfl, World.ownsRow_nil _ _ _ _, B1⟩
  case round =>
    clear B1
    obtain ⟨j, cc, A5, hj, rfl, rfl, HO, HB⟩ := hrel
    by_cases hlt : j < n
    · have AX := Lib.hid (AT.out j wr hlt HB.out)
      obtain ⟨b', o, e, _, k1⟩ := (HR.out.below HB.out).i64 (by omega)
      subst e
      have t1 := k1 j hlt
      rw [ofN_getB] at t1
      have hk4 := HK.out j
      have NX : Hid (wbits (ks.take (j + 1)) = wbits (ks.take j) ++ [ks.getD j 0 % 2, ks.getD j 0 / 2 % 2]) := by
        show _ = _; rw [take_snoc ks j (by rw [HL.out]; exact hlt), wbits_snoc]
      generalize ks.getD j 0 = x at *
      obtain ⟨p, hp⟩ : ∃ p, p = x % 2 := ⟨_, rfl⟩
      obtain ⟨q, hq⟩ : ∃ q, q = x / 2 := ⟨_, rfl⟩
      have hq2 : x / 2 % 2 = q := by omega
      rw [← hp, hq2] at NX
      have m1 : (x : Int).tmod 2 = (p : Int) := by rw [Int.tmod_eq_emod_of_nonneg (by omega)]; omega
      have m2 : (x : Int) % 2 = (p : Int) := by omega
      have d1 : (x : Int).tdiv 2 = (q : Int) := by rw [Int.tdiv_eq_ediv_of_nonneg (by omega)]; omega
      have d2 : (x : Int) / 2 = (q : Int) := by omega
      have w1' : IntKind.i64.wrap (p : Int) = (p : Int) := by rw [IntKind.wrap_i64]; omega
      have w2' : IntKind.i64.wrap (q : Int) = (q : Int) := by rw [IntKind.wrap_i64]; omega
      clear hp hq hq2 k1
      go_wp2_with fail
      refine AX.out.mono ?_
      rintro e w3 ⟨rfl, jj, rfl⟩
      have HB3 := Lib.hid (below_draws HB.out jj)
      have HO3 := Lib.hid (own_below HO.out (below_draws (Below.refl _ wr) jj))
      have t3 : (wr.drewN jj).cell? ⟨b', o + j, none⟩ = some (.int .i64 (x : Int)) := t1
      generalize wr.drewN jj = w3 at *
      have bA := (Below.refl w3.heap.size w3).alloc (Nat.le_refl _) (.cells #[.int .i64 (p : Int), .int .i64 (q : Int)] 3)
      have ownA := own_below HO3.out bA
      have rA := Rd.new w3 3 #[.int .i64 (p : Int), .int .i64 (q : Int)] 2 (I64 [(p : Int), (q : Int)]) (by simp [I64]) (by simp)
      have e1 : 2 * j + 2 ≤ maxLen := by simp only [maxLen]; omega
      have e2 : (2 * j + 2) * 8 ≤ 140737488355328 := by omega
      have e3 : w.heap.size ≤ (w3.alloc (.cells #[.int .i64 (p : Int), .int .i64 (q : Int)] 3)).heap.size := by have := HB3.out.size; simp; omega
      clear t1 HB HO AX
      go_wp2_with (first
        | (at_builtin; go_must (refine wpList_append_rd _ rfl _ _ 27 rfl w.heap.size 3 i0 (.int .i64 0) 8 Tryz.underlying27 hi0 hz0 hz1 hz2 rfl (.slice A5 (2 * j) cc) (2 * j) (I64 (ofNB (wbits (ks.take j)))) rfl ownA (w3.heap.size + 1) (some ⟨w3.heap.size, 0, none⟩) 2 2 (I64 [(p : Int), (q : Int)]) rfl rA (I64_one _) e1 e2 e3 ?_)))
      intro A7 c7 w7 hc7 hm7 hown7 hg7 _
      have O7 : Hid (w7.ownsRow w.heap.size 3 1 (.slice A7 (2 * (j + 1)) c7) (2 * (j + 1)) (I64 (ofNB (wbits (ks.take (j + 1)))))) := by
        have := hown7
        rw [← I64_append] at this
        rw [NX.out, ofN_appendB]
        exact this
      have B7 : Hid (Below w.heap.size w w7) := (HB3.out.trans (bA.mono HB3.out.size)).trans (Below.appended ownA hg7 e3)
      clear bA ownA rA e1 e2 e3 hown7 hg7 HB3 HO3
      go_wp2_with fail
      go_roundw
      case rel => exact ⟨j + 1, c7, A7, by omega, by go_num, rfl, O7, B7⟩
      case measure => simp [intOf]; omega
    · obtain rfl : j = n := by omega
      have HO4 : Hid (wr.ownsRow w.heap.size 3 1 (.slice A5 (2 * j) cc) (2 * j) (I64 (ofNB (wbits ks)))) := by
        have := HO.out
        rw [List.take_of_length_le (by rw [HL.out]; exact Nat.le_refl _)] at this
        exact this
      clear HO
      go_wp2_with fail
      go_loopw [8] (fun i wx => ∃ z : Int, i = .int .i64 z ∧ -1 ≤ z ∧ z ≤ 5 ∧ Hid (wx.ownsRow w.heap.size 3 1 (.slice A5 (2 * j) cc) (2 * j) (I64 (ofNB (wbits ks)))) ∧ Hid (Below w.heap.size w wx)) (fun i _ => (5 - intOf i).toNat)
      case atStart => exact ⟨-1, rfl, by omega, by omega, HO4, HB⟩
      case round =>
        clear HO4 HB
        obtain ⟨z, rfl, hz1', hz5, HO, HB⟩ := hrel
        by_cases hz : z < 5
        · have C1 := Lib.hid (CT.out z wr HB.out)
          have hcz := CZ.out z
          obtain ⟨v, hv⟩ : ∃ v, v = cntZ z ks := ⟨_, rfl⟩
          have RC1 := Lib.hid (fun W m => RC.out z W m)
          rw [← hv] at C1 RC1 hcz
          clear hv
          go_wp2_with fail
          refine C1.out.mono ?_
          rintro e w3 ⟨rfl, b3⟩
          have HB3 := Lib.hid (HB.out.trans (b3.mono HB.out.size))
          have HO3 := Lib.hid (own_below HO.out b3)
          clear b3 C1 HB HO
          go_wp2_with fail
          refine (RC1.out w3 HB3.out).mono ?_
          rintro e w4 ⟨rfl, rfl⟩
          go_wp2_with fail
          go_roundw
          case rel => exact ⟨z + 1, by go_num, by omega, by omega, HO3, HB3⟩
          case measure => simp [intOf]; omega
        · obtain rfl : z = 5 := by omega
          have BT1 := Lib.hid (BT.out wr HB.out)
          clear hz
          go_wp2_with fail
          refine BT1.out.mono ?_
          rintro e w3 ⟨gv, Av, rfl, hv, b3, _⟩
          have TX3 := Lib.hid (text_p gv _ _ (gv + 1) Av w3 hv)
          have HB3 := Lib.hid (HB.out.trans (b3.mono HB.out.size))
          have HO3 := Lib.hid (own_below HO.out b3)
          have en : numL (val (wbits ks)) (wbits ks).length = wbits ks := by
            rw [numL_val (wbits_bin ks) _ (Nat.le_refl _), List.take_of_length_le (Nat.le_refl _)]
          rw [en] at TX3
          clear hv b3 BT1 HB HO en
          go_wp2_with fail
          refine TX3.out.mono ?_
          rintro e w4 ⟨rfl, b4⟩
          have HB4 := Lib.hid (HB3.out.trans (b4.mono HB3.out.size))
          have RT4 := Lib.hid (refText_p A5 (2 * j) cc _ (wbits ks) w4 (Rd.ofOwn (own_below HO3.out b4)) (wbits_bin ks) (by omega))
          obtain ⟨tt, htt⟩ : ∃ tt, tt = textOf (wbits ks) := ⟨_, rfl⟩
          rw [← htt] at RT4 ⊢
          clear htt b4 TX3 HB3 HO3
          go_wp2_with fail
          refine RT4.out.mono ?_
          rintro e w5 ⟨rfl, rfl⟩
          go_wp2_with fail
          go_ret
          exact ⟨by first | rfl | (show _ = _; simp), HB4.out⟩
end Go.Proofs.YtagpdpacaoianaaGreatDoor
