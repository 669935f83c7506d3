/- PackStrict: any bytes begin with the pack of just the bits that they are unpacked to, or are refused. -/
import Derived.Test.YtcefohjddbjcjaaZPkNums
import Derived.Test.YtcefohjddbjcjaaZPkUnpk
import Derived.Test.YtcefohjddbjcjaaZBBytes
import Derived.Test.YtcefohjddbjcjaaZg3
import Derived.Deep.RegionHeld3
import Derived.Deep.RegionWith
namespace Go.Proofs.Ytcefohjddbjcjaa
set_option maxRecDepth 100000
open Go.RowKit
set_option linter.unusedVariables false
theorem packB_pos (l : List Nat) (plain : Bool) : 1 ≤ (packB l plain).length := by
  unfold packB
  split
  · simp [stB]
  · rcases bestB_is l 9 with e | ⟨j, _, e⟩
    · rw [e]; simp [stB]
    · rw [e]; simp [cdB]
theorem xor8n (x y : Nat) (hx : x < 256) (hy : y < 256) : bits .xor .u8 (x : Int) (y : Int) = ((x ^^^ y : Nat) : Int) := u8_xor_nat x y hx hy
theorem xor8n_lt (x y : Nat) (hx : x < 256) (hy : y < 256) : x ^^^ y < 256 := Nat.xor_lt_two_pow (n := 8) hx hy
set_option maxHeartbeats 8000000 in
theorem packStrict_walk (A : Option Addr) (n c a t : Nat) (N : Int) (plain whole : Bool) (bs : List Nat) (w : World) (h : Rd w w.heap.size A n (U8 bs)) (hb : ∀ b ∈ bs, b < 256) (hnc : n ≤ c) (hcm : c ≤ maxLen) (hN : -9223372036854775808 ≤ N ∧ N ≤ 9223372036854775807) (ha : a < 256) (ht : t < 256) :
    Calls Try.prog 5 #[.slice A n c, .int .i64 N, .int .u8 (a : Int), .int .u8 (t : Int), .bool plain, .bool whole] w fun e w' => e = .returned (.bool true) ∧ Below w.heap.size w w' := by
  unfold maxLen at hcm
  have AW := Lib.hid (awake19_p w)
  have H := Lib.hid h
  have hm15 := min_k 40 n (by omega) (by omega)
  obtain ⟨m, hm⟩ : ∃ m, m = min n 40 := ⟨_, rfl⟩
  rw [← hm] at hm15
  have hm40 : ∀ w, (Builtin.min_ #[3, 3] 3 #[.int .i64 (n : Int), .int .i64 40]).run Try.prog w = .ok (.int .i64 (m : Int)) w := hm15
  have hm1 : m ≤ 40 := by omega
  have hm2 : m ≤ n := by omega
  have hmi : (m : Int) ≤ (c : Int) := by omega
  obtain ⟨P, hP⟩ : ∃ P, P = bs.take m := ⟨_, rfl⟩
  have hbl : bs.length = n := by rw [← h.len, U8_len]
  have hPl : P.length = m := by rw [hP, List.length_take]; omega
  have HPL := Lib.hid hPl
  have HPB : Hid (∀ b ∈ P, b < 256) := fun b hb' => hb b (by rw [hP] at hb'; exact List.mem_of_mem_take hb')
  have HPE := Lib.hid hP
  have CL : Hid (∀ c' W, Below w.heap.size w W → Calls Try.prog 9 #[.slice A m c'] W (NewU8 W P)) := fun c' W mm => by
    rw [HPE.out]
    exact clone_any A m c' w.heap.size (bs.take m) W ((H.out.below mm).cutU8 m hm2) (by omega)
  clear h hb hm hm15 hP hPl hbl
  go_enter Try.func5, Try.ntmps5
  go_wp2_with fail
  refine AW.out.mono ?_
  rintro e w1 ⟨rfl, b1⟩
  have B1 := Lib.hid b1
  have C1' := Lib.hid (fun c' => CL.out c' w1 b1)
  clear b1 AW CL H
  go_wp2_with fail
  refine (C1'.out _).mono ?_
  rintro e w2 ⟨A2, c2, rfl, hc2, hm2', ho2, b2⟩
  rw [HPL.out] at ho2 hc2 ⊢
  have R2 := Lib.hid (Rd.ofOwn ho2)
  have B2 := Lib.hid (B1.out.trans (b2.mono B1.out.size))
  have hc29 : c2 ≤ 9223372036854775807 := by unfold maxLen at hm2'; omega
  clear ho2 hm2' b2 B1 C1'
  go_upto_region 4 with fail
  go_cut [29] from 24 to 30 (fun v wx => ∃ f : Bool, v = .bool f ∧ w2 = wx ∧ (f = true ↔ 300 < N ∧ N ≤ 16777216))
  case first =>
    by_cases h3 : 300 < N
    · by_cases h4 : N ≤ 16777216
      · clear hN
        go_wp2_with fail
        go_meet
        exact ⟨true, rfl, rfl, by simp [h3, h4]⟩
      · clear hN
        go_wp2_with fail
        go_meet
        exact ⟨false, rfl, rfl, by first | (constructor <;> intro e <;> first | (exfalso; omega) | cases e) | (intro e; omega) | omega⟩
    · clear hN
      go_wp2_with fail
      go_meet
      exact ⟨false, rfl, rfl, by first | (constructor <;> intro e <;> first | (exfalso; omega) | cases e) | (intro e; omega) | omega⟩
  case rest =>
  obtain ⟨f, rfl, rfl, hf⟩ := hcut
  have HF := Lib.hid hf
  clear hf
  go_upto_if 29 with fail
  go_cut [1] from 30 to 32 (fun v wx => ∃ q : Int, v = .int .i64 q ∧ w2 = wx ∧ (q < 0 ∨ 16777216 < q ∨ (0 ≤ q ∧ q ≤ 300)))
  case first =>
    cases f
    · have hq : N < 0 ∨ 16777216 < N ∨ (0 ≤ N ∧ N ≤ 300) := by
        have := HF.out
        by_cases h1 : N < 0
        · exact .inl h1
        · by_cases h2 : 16777216 < N
          · exact .inr (.inl h2)
          · refine .inr (.inr ⟨by omega, ?_⟩)
            rcases Int.lt_or_le 300 N with c | c
            · exact absurd (this.2 ⟨c, by omega⟩) (by simp)
            · exact c
      go_wp2_with fail
      go_meet
      exact ⟨N, rfl, rfl, hq⟩
    · have h12 := HF.out.1 rfl
      obtain ⟨q, hq⟩ : ∃ q, q = N % 300 := ⟨_, rfl⟩
      have e1 : N.tmod 300 = q := by rw [Int.tmod_eq_emod_of_nonneg (by omega)]; exact hq.symm
      have e2 : N % 300 = q := hq.symm
      have hq2 : 0 ≤ q ∧ q ≤ 300 := by omega
      clear hN h12 hq
      go_wp2_with fail
      go_meet
      exact ⟨q, rfl, rfl, .inr (.inr hq2)⟩
  case rest =>
  obtain ⟨q, rfl, rfl, hq⟩ := hcut
  have HQ := Lib.hid hq
  clear hq HF hN
  go_upto_if 32 with fail
  go_cut [0, 1] from 33 to 57 (fun u v wx => ∃ (A3 : Option Addr) (m3 c3 : Nat) (T : List Nat) (q : Int), u = .slice A3 m3 c3 ∧ v = .int .i64 q ∧ m3 ≤ 60 ∧ m3 ≤ c3 ∧ c3 ≤ 9223372036854775807 ∧ Hid (∀ b ∈ T, b < 256) ∧ Hid (Rd wx wx.heap.size A3 m3 (U8 T)) ∧ Hid (Below w.heap.size w wx) ∧ Hid (q < 0 ∨ 16777216 < q ∨ (0 ≤ q ∧ q ≤ 320)))
  case first =>
    cases whole
    · go_wp2_with fail
      go_meet
      exact ⟨A2, m, c2, P, q, rfl, rfl, by omega, hc2, hc29, HPB.out, R2.out, B2.out, by show _ ∨ _; have := HQ.out; omega⟩
    · obtain ⟨m8, hm8⟩ : ∃ m8, m8 = 8 * m := ⟨_, rfl⟩
      have hm8i : 8 * (m : Int) = (m8 : Int) := by omega
      have hm8b : m8 ≤ 320 := by omega
      have FW := Lib.hid (few_p A2 m c2 w2.heap.size m8 P w2 R2.out HPB.out (Nat.le_refl _) (by omega) (by omega))
      obtain ⟨L, hL⟩ : ∃ L, L = few P m8 := ⟨_, rfl⟩
      have HLB : Hid (Bin L) := by show Bin L; rw [hL]; exact few_bin _ _
      have hLl : L.length ≤ 320 := by rw [hL, few_len]; omega
      rw [← hL] at FW
      obtain ⟨ll, hll⟩ : ∃ ll, ll = L.length := ⟨_, rfl⟩
      have HLL := Lib.hid hll
      rw [← hll] at hLl
      have hfl : (ofNB L).length = ll := by rw [ofN_lenB, hll]
      have HFL := Lib.hid hfl
      clear hm8 hL HQ hll hfl
      go_wp2_with fail
      refine FW.out.mono ?_
      rintro e w3 ⟨A4, c4, rfl, hc4, hm4, ho4, b4⟩
      rw [HFL.out] at ho4 hc4 ⊢
      have VP := Lib.hid (vec19_p L A4 ll c4 w3 (Rd.ofOwn ho4) HLB.out (by rw [← HLL.out]; omega))
      have B4 := Lib.hid (B2.out.trans (b4.mono B2.out.size))
      clear ho4 hc4 hm4 b4 FW
      go_wp2_with fail
      refine VP.out.mono ?_
      rintro e w4 ⟨g5, A5, rfl, hv5, b5, _⟩
      have PK := Lib.hid (pack_p (some ⟨g5, 0, none⟩) L plain w4 (Packs.of hv5 HLB.out (by rw [← HLL.out]; omega)) (by rw [← HLL.out]; omega))
      have B5 := Lib.hid (B4.out.trans (b5.mono B4.out.size))
      clear hv5 b5 VP B4
      go_wp2_with fail
      refine PK.out.mono ?_
      rintro e w5 ⟨A6, c6, rfl, hc6, hm6, ho6, b6⟩
      have hpos := packB_pos L plain
      have hpl := packB_len L plain
      have HTB0 := Lib.hid (packB_lt L plain)
      rw [← HLL.out] at hpl
      generalize packB L plain = T0 at *
      obtain ⟨m3, hm3⟩ : ∃ m3, m3 = T0.length := ⟨_, rfl⟩
      have HM3 := Lib.hid hm3
      rw [← hm3] at ho6 hc6 hpos hpl ⊢
      obtain ⟨gA, rfl, hgA, hgA2⟩ := own_some ho6 (by omega)
      obtain ⟨i, hi⟩ : ∃ i, i = a % m3 := ⟨_, rfl⟩
      have him : i < m3 := by rw [hi]; exact Nat.mod_lt _ (by omega)
      have e1 : (a : Int) % (m3 : Int) = (i : Int) := by rw [hi]; first | rfl | simp
      have e2 : (a : Int).tmod (m3 : Int) = (i : Int) := by rw [Int.tmod_eq_emod_of_nonneg (by omega)]; exact e1
      have ci := own_cell8 ho6 i him
      have fi := ho6.frozenAt i
      obtain ⟨x, hx⟩ : ∃ x, x = T0.getD i 0 := ⟨_, rfl⟩
      have hxb : x < 256 := by
        have hil : i < T0.length := by rw [← HM3.out]; exact him
        rw [hx, List.getD_eq_getElem?_getD, List.getElem?_eq_getElem hil]
        exact HTB0.out _ (List.getElem_mem hil)
      rw [← hx] at ci
      have hxo := xor8n x t hxb ht
      have hyb := xor8n_lt x t hxb ht
      generalize x ^^^ t = y at *
      have HO7 := Lib.hid (own_set8 ho6 i y)
      have HTB7 : Hid (∀ b ∈ T0.set i y, b < 256) := fun b hb => by
        rcases List.mem_or_eq_of_mem_set hb with hb | rfl
        · exact HTB0.out b hb
        · exact hyb
      have B7 : Hid (Below w.heap.size w (w5.setCell ⟨gA, i, none⟩ (.int .u8 (y : Int)))) := (B5.out.trans (b6.mono B5.out.size)).setCell (p := ⟨gA, i, none⟩) (Nat.le_trans B5.out.size hgA) _
      have hc69 : c6 ≤ 9223372036854775807 := by unfold maxLen at hm6; omega
      have himi : (i : Int) < (m3 : Int) := by omega
      have hne : ((m3 : Int) == 0) = false := by simp; omega
      have hne2 : (m3 == 0) = false := by simp; omega
      clear ho6 hm6 b6 PK B5 hm3 hi hx HTB0
      go_wp2_with fail
      go_meet
      exact ⟨some ⟨gA, 0, none⟩, m3, c6, T0.set i y, (m8 : Int), rfl, rfl, by omega, hc6, hc69, HTB7.out, Rd.ofOwn HO7.out, B7.out, by show _ ∨ _; omega⟩
  case rest =>
    obtain ⟨A3, m3, c3, T, q, rfl, rfl, hm3, hmc, hc9, HTB, HR, HB, HQ3⟩ := hcut
    clear R2 B2 HPL HPB HPE HQ hc2 hc29
    by_cases hr : q < 0 ∨ 16777216 < q
    · have UR := Lib.hid (unp_range A3 m3 c3 q plain wc hr)
      rcases hr with hr | hr
      · clear HQ3
        go_wp2_with fail
        refine UR.out.mono ?_
        rintro e w6 ⟨rfl, rfl⟩
        go_wp2_with fail
        go_ret
        exact ⟨rfl, HB.out⟩
      · have hr0 : ¬ q < 0 := by omega
        clear HQ3
        go_wp2_with fail
        refine UR.out.mono ?_
        rintro e w6 ⟨rfl, rfl⟩
        go_wp2_with fail
        go_ret
        exact ⟨rfl, HB.out⟩
    · obtain ⟨M, rfl⟩ : ∃ M : Nat, q = (M : Int) := ⟨q.toNat, by omega⟩
      have hM : M ≤ 320 := by have := HQ3.out; omega
      have hM0 : ¬ (M : Int) < 0 := by omega
      have hM1 : ¬ (16777216 : Int) < (M : Int) := by omega
      have UP := Lib.hid (unp_p A3 m3 c3 M T plain wc HR.out HTB.out (by omega) hmc hc9 (by omega))
      clear HQ3 hr
      go_wp2_with fail
      refine UP.out.mono ?_
      rintro e w6 ⟨hor, b6⟩
      have B6 := Lib.hid (HB.out.trans (b6.mono HB.out.size))
      rcases hor with ⟨l, g, A', hlb, hll, ⟨rest, hT⟩, rfl, hv⟩ | ⟨_, er, her, rfl⟩
      rotate_left
      · rcases her with rfl | rfl
        · clear b6 UP
          go_wp2_with fail
          go_ret
          exact ⟨rfl, B6.out⟩
        · clear b6 UP
          go_wp2_with fail
          go_ret
          exact ⟨rfl, B6.out⟩
      · obtain ⟨sz, hsz⟩ : ∃ sz, sz = (packB l plain).length := ⟨_, rfl⟩
        have hTl : T.length = m3 := by rw [← U8_len, HR.out.len]
        have hszm : sz ≤ m3 := by rw [← hTl, hT, List.length_append, ← hsz]; omega
        have HTK : Hid (T.take sz = packB l plain) := by show _ = _; rw [hT, List.take_append_of_le_length (by omega), List.take_of_length_le (by omega)]
        have R6 := Lib.hid (HR.out.onto b6)
        have LNP : Hid (∀ W, Below w6.heap.size w6 W → Calls Try.prog 21 #[.pointer (some ⟨g, 0, none⟩)] W fun e w' => e = .returned (.int .i64 (M : Int)) ∧ W = w') := fun W mm => by
          have := blen_p g _ _ A' W (VecB.below hv mm)
          rwa [hll] at this
        have PKP : Hid (∀ W, Below w6.heap.size w6 W → Calls Try.prog 16 #[.pointer (some ⟨g, 0, none⟩), .bool plain] W (NewU8 W (packB l plain))) := fun W mm => pack_p _ l plain W (Packs.of (VecB.below hv mm) hlb (by rw [hll]; omega)) (by rw [hll]; omega)
        have HSZ := Lib.hid hsz
        have EQP : Hid (∀ A9 c9 c' W, Below w6.heap.size w6 W → Rd W W.heap.size A9 sz (U8 (packB l plain)) → Calls Try.prog 14 #[.slice A9 sz c9, .slice A3 sz c'] W fun e w' => e = .returned (.bool true) ∧ W = w') := fun A9 c9 c' W mm h1 => by
          have h2 := (R6.out.onto mm).cutU8 sz hszm
          rw [HTK.out] at h2
          exact equal_same A9 A3 sz c9 sz c' _ _ (packB l plain) W h1 h2 (packB_lt l plain)
        rw [← hsz]
        have hszi : (sz : Int) ≤ (m3 : Int) := by omega
        have hszc : (sz : Int) ≤ (c3 : Int) := by omega
        have hba0 := Below.refl w6.heap.size w6
        have hba1 := hba0.drew
        clear b6 UP hlb hll hT hsz hTl hv HTK HR HB
        go_upto_region 17 with fail
        go_region_held3 (fun W => Below w6.heap.size w6 W)
          (assumption)
          (first
          | (go_at_call 21; (with_reducible refine (LNP.out _ (by assumption)).mono ?_); rintro e wf ⟨rfl, rfl⟩)
          | (go_at_call 16; (with_reducible refine (PKP.out _ (by assumption)).mono ?_); rintro e w7 ⟨A7, c7, rfl, hc7, hm7, ho7, b7⟩; rw [← HSZ.out] at ho7 ⊢; have hba := hba1.trans (b7.mono hba1.size); have rd7 := Rd.ofOwn ho7)
          | (go_at_call 14; (with_reducible refine (EQP.out _ _ _ _ (by assumption) rd7).mono ?_); rintro e wg ⟨rfl, rfl⟩))
        all_goals (
          go_wp2_with fail
          go_ret
          exact ⟨rfl, B6.out.trans (hba.mono B6.out.size)⟩)
end Go.Proofs.Ytcefohjddbjcjaa
