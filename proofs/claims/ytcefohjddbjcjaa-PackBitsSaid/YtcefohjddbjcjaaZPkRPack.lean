/- The document's Pack. -/
import Derived.Test.YtcefohjddbjcjaaZPkNums
import Derived.Test.YtcefohjddbjcjaaZCRefE
import Derived.Test.YtcefohjddbjcjaaZBRefB
namespace Go.Proofs.Ytcefohjddbjcjaa
set_option maxRecDepth 100000
open Go.RowKit
set_option linter.unusedVariables false
theorem code_len9p (k : Nat) (l : List Nat) (h : l.length ≤ 1200) : (codeOf k l).length ≤ 50000 := by
  rw [code_len]
  have := est_ways k l
  omega
set_option maxHeartbeats 8000000 in
theorem rpack_p (A : Option Addr) (n c : Nat) (l : List Nat) (plain : Bool) (w : World) (h : Rd w w.heap.size A n (I64 (ofNB l))) (hb : Bin l) (hn : n ≤ 1200) :
    Calls Try.prog 18 #[.slice A n c, .bool plain] w (NewU8 w (packB l plain)) := by
  obtain ⟨i0, hi0, hz0, hz1, hz2⟩ := info_parts info_u8
  have hl : l.length = n := by rw [← ofN_lenB, ← I64_len, h.len]
  have HL := Lib.hid hl
  have H := Lib.hid h
  have HB := Lib.hid hb
  have hown := World.ownsRow_lit (base := w.heap.size) (e := 5) (size := 1) w #[.int .u8 0] 1 (Nat.le_refl _) (by decide) rfl
  have bb := (Below.refl w.heap.size w).alloc (Nat.le_refl _) (.cells #[.int .u8 0] 5)
  have BY := Lib.hid (refBytes_p A n c w.heap.size l _ ((h.below bb)) bb.size hb (by omega))
  obtain ⟨Y, hY⟩ : ∃ Y, Y = bytesL (val l) l.length := ⟨_, rfl⟩
  have hYl : Y.length ≤ 200 := by rw [hY, bytesL_len]; omega
  have HS : Hid (stB l = 0 :: Y) := by show _ = _; rw [hY]; rfl
  rw [← hY] at BY
  obtain ⟨ln, hln⟩ : ∃ ln, ln = Y.length := ⟨_, rfl⟩
  rw [← hln] at hYl
  have HLN := Lib.hid hln
  have HO := Lib.hid hown
  have HBB := Lib.hid bb
  clear h hY hown bb hln hl hb
  go_enter Try.func18, Try.ntmps18
  go_wp2_with fail
  refine BY.out.mono ?_
  rintro e w2 ⟨A2, c2, rfl, hc2, hm2, ho2, b2⟩
  rw [← HLN.out] at ho2 hc2 ⊢
  have rd2 := Rd.ofOwn ho2
  have hB2 := HBB.out.trans (b2.mono HBB.out.size)
  have hO2 := own_below HO.out b2
  have t1 : 1 + ln ≤ maxLen := by simp only [maxLen]; omega
  have t2 : (1 + ln) * 1 ≤ 140737488355328 := by omega
  have t3 := hB2.size
  go_wp2_with (first
    | (at_builtin; go_loud (refine wpList_append_rd _ rfl _ _ 23 rfl w.heap.size 5 i0 (.int .u8 0) 1 Try.underlying23 hi0 hz0 hz1 hz2 rfl (.slice (some ⟨w.heap.size, 0, none⟩) 1 1) 1 (U8 [0]) rfl hO2 w2.heap.size A2 ln c2 (U8 Y) rfl rd2 (U8_one _) t1 t2 t3 ?_)))
  intro A6 c6 w6 hc6 hm6 hown6 hg6 _
  have HB6 : Hid (Below w.heap.size w w6) := hB2.trans (Below.appended hO2 hg6 t3)
  have HO6 : Hid (w6.ownsRow w.heap.size 5 1 (.slice A6 (1 + ln) c6) (1 + ln) (U8 (bestB l 0))) := by
    show World.ownsRow _ _ _ _ _ _ _
    rw [bestB, HS.out]; exact hown6
  have HLL : Hid ((bestB l 0).length = 1 + ln) := by show _ = _; rw [bestB, HS.out, List.length_cons, HLN.out]; omega
  obtain ⟨ln1, hln1⟩ : ∃ ln1, ln1 = 1 + ln := ⟨_, rfl⟩
  rw [← hln1] at HO6 HLL hc6 ⊢
  have hl1b : ln1 ≤ 201 := by omega
  clear hown6 hg6 rd2 ho2 hln1 t1 t2 t3 hO2 hB2 hm2 b2 BY HBB HO
  cases plain
  rotate_left
  · have HPK : Hid (packB l true = bestB l 0) := by show _ = _; simp [packB, bestB]
    go_wp2_with fail
    go_loopw [5, 6] (fun s u wr => u = .int .i64 0 ∧ s = .slice A6 ln1 c6 ∧ wr = w6) (fun _ _ _ => 0)
    case atStart => exact ⟨rfl, rfl, rfl⟩
    case round =>
      obtain ⟨rfl, rfl, rfl⟩ := hrel
      go_wp2_with fail
      go_ret
      refine NewU8.mk rfl ?_ HB6.out
      rw [HPK.out, HLL.out]
      exact HO6.out
  · have HPK : Hid (packB l false = bestB l 9) := by show _ = _; simp [packB]
    go_wp2_with fail
    go_loopw [5, 6] (fun s u wr => ∃ (k ln cv : Nat) (Av : Option Addr), k ≤ 9 ∧ u = .int .i64 (k : Int) ∧ s = .slice Av ln cv ∧ Hid (ln = (bestB l k).length) ∧ ln ≤ cv ∧ cv ≤ maxLen ∧ Hid (wr.ownsRow w.heap.size 5 1 (.slice Av ln cv) ln (U8 (bestB l k))) ∧ Hid (Below w.heap.size w wr)) (fun _ u _ => 9 - (intOf u).toNat)
    case atStart => exact ⟨0, ln1, c6, A6, by omega, rfl, rfl, HLL.out.symm, hc6, hm6, HO6.out, HB6.out⟩
    case round =>
      clear HO6 HB6 hc6 hm6 HLL hl1b
      obtain ⟨k, ln, cv, Av, hk, rfl, rfl, hln, hlc, hcm, ho, hb⟩ := hrel
      by_cases hlt : k < 9
      · have RE := Lib.hid (refEncode_p k A n c l wr ((H.out.below hb.out).up hb.out.size) HB.out (by omega) (by omega))
        have hki : (k : Int) < 9 := by omega
        have HCB := Lib.hid (code_bin k l)
        have hcl := code_len9p k l (by rw [HL.out]; omega)
        have HCD : Hid (cdB l k = ([k + 1] ++ numB (codeOf k l).length) ++ bytesL (val (codeOf k l)) (codeOf k l).length) := by show _ = _; simp [cdB]
        have NXT : Hid (bestB l (k + 1) = if (cdB l k).length < (bestB l k).length then cdB l k else bestB l k) := rfl
        generalize codeOf k l = C at *
        obtain ⟨cl, hcl2⟩ : ∃ cl, cl = C.length := ⟨_, rfl⟩
        have HCL := Lib.hid hcl2
        rw [← hcl2] at hcl HCD
        have hfl : (ofNB C).length = cl := by rw [ofN_lenB, hcl2]
        have HFL := Lib.hid hfl
        obtain ⟨k1, hk1⟩ : ∃ k1, k1 = k + 1 := ⟨_, rfl⟩
        have e1 : (k : Int) + 1 = (k1 : Int) := by omega
        have e2 : (k1 : Int) % 256 = (k1 : Int) := by omega
        rw [← hk1] at HCD
        have HK1 := Lib.hid hk1
        clear hcl2 hfl hk1
        go_wp2_with fail
        refine RE.out.mono ?_
        rintro e w7 ⟨A7, c7, rfl, hc7, hm7, ho7, b7⟩
        rw [HFL.out] at ho7 hc7 ⊢
        have HR7 := Lib.hid (Rd.ofOwn ho7)
        have B7 := Lib.hid (hb.out.trans (b7.mono hb.out.size))
        have HO7 := Lib.hid (own_below ho.out b7)
        have RNP := Lib.hid (fun W => rpNum_p cl W (by omega))
        have hown := World.ownsRow_lit (base := w7.heap.size) (e := 5) (size := 1) w7 #[.int .u8 (k1 : Int)] 1 (Nat.le_refl _) (by decide) rfl
        have bb := (Below.refl w7.heap.size w7).alloc (Nat.le_refl _) (.cells #[.int .u8 (k1 : Int)] 5)
        have HOL := Lib.hid hown
        have HBB := Lib.hid bb
        have h10 := numB_len10 (x := cl) (by omega)
        obtain ⟨nl, hnl⟩ : ∃ nl, nl = (numB cl).length := ⟨_, rfl⟩
        have HNL := Lib.hid hnl
        rw [← hnl] at h10
        clear ho7 hc7 hm7 b7 RE hown bb hnl ho hb
        go_wp2_with fail
        refine (RNP.out _).mono ?_
        rintro e w8 ⟨A8, c8, rfl, hc8, hm8, ho8, b8⟩
        rw [← HNL.out] at ho8 hc8 ⊢
        have rd8 := Rd.ofOwn ho8
        have hB8 := HBB.out.trans (b8.mono HBB.out.size)
        have hO8 := own_below HOL.out b8
        have t1 : 1 + nl ≤ maxLen := by simp only [maxLen]; omega
        have t2 : (1 + nl) * 1 ≤ 140737488355328 := by omega
        have t3 : w7.heap.size ≤ w8.heap.size := hB8.size
        go_wp2_with (first
          | (at_builtin; go_loud (refine wpList_append_rd _ rfl _ _ 23 rfl w7.heap.size 5 i0 (.int .u8 0) 1 Try.underlying23 hi0 hz0 hz1 hz2 rfl (.slice (some ⟨w7.heap.size, 0, none⟩) 1 1) 1 (U8 [k1]) rfl hO8 w8.heap.size A8 nl c8 (U8 (numB cl)) rfl rd8 (U8_one _) t1 t2 t3 ?_)))
        intro A9 c9 w9 hc9 hm9 hown9 hg9 _
        have hb9 : Below w7.heap.size w7 w9 := hB8.trans (Below.appended hO8 hg9 t3)
        have HB9 := Lib.hid hb9
        have HNN : Hid (U8 [k1] ++ U8 (numB cl) = U8 ([k1] ++ numB cl)) := by show _ = _; rw [U8_append]
        rw [HNN.out] at hown9
        have HO9 := Lib.hid hown9
        obtain ⟨n9, hn9⟩ : ∃ n9, n9 = 1 + nl := ⟨_, rfl⟩
        rw [← hn9] at HO9 hc9 ⊢
        have hn9b : n9 ≤ 11 := by omega
        have HN9 : Hid (([k1] ++ numB cl).length = n9) := by show _ = _; rw [List.length_append, ← HNL.out, hn9]; rfl
        have BYP : Hid (∀ W c', Below w7.heap.size w7 W → Calls Try.prog 28 #[.slice A7 cl c'] W (NewU8 W (bytesL (val C) cl))) := fun W c' mm => by
          have := refBytes_p A7 cl c' w7.heap.size C W (HR7.out.below mm) mm.size HCB.out (by omega)
          rwa [← HCL.out] at this
        clear hown9 hg9 t1 t2 t3 rd8 hO8 hB8 ho8 hb9 hn9 RNP hm9
        go_wp2_with fail
        refine (BYP.out _ _ HB9.out).mono ?_
        rintro e wa ⟨Aa, ca, rfl, hca, hma, hoa, ba⟩
        obtain ⟨Z, hZ⟩ : ∃ Z, Z = bytesL (val C) cl := ⟨_, rfl⟩
        have hZl : Z.length ≤ 10000 := by rw [hZ, bytesL_len]; omega
        rw [← hZ] at hoa HCD
        obtain ⟨zl, hzl⟩ : ∃ zl, zl = Z.length := ⟨_, rfl⟩
        have HZL := Lib.hid hzl
        rw [← hZ, ← hzl]
        rw [← hzl] at hoa hZl
        have rda := Rd.ofOwn hoa
        have hBa := HB9.out.trans (ba.mono HB9.out.size)
        have hOa := own_below HO9.out ba
        have t1 : n9 + zl ≤ maxLen := by simp only [maxLen]; omega
        have t2 : (n9 + zl) * 1 ≤ 140737488355328 := by omega
        have t3 : w7.heap.size ≤ wa.heap.size := hBa.size
        clear hZ hzl hca hma hoa
        go_wp2_with (first
          | (at_builtin; go_loud (refine wpList_append_rd _ rfl _ _ 23 rfl w7.heap.size 5 i0 (.int .u8 0) 1 Try.underlying23 hi0 hz0 hz1 hz2 rfl (.slice A9 n9 c9) n9 (U8 ([k1] ++ numB cl)) rfl hOa wa.heap.size Aa zl ca (U8 Z) rfl rda (U8_one _) t1 t2 t3 ?_)))
        intro Ab cb wb hcb hmb hownb hgb _
        have hbb : Below w7.heap.size w7 wb := hBa.trans (Below.appended hOa hgb t3)
        have hownc : wb.ownsRow w7.heap.size 5 1 (.slice Ab (n9 + zl) cb) (n9 + zl) (U8 (cdB l k)) := by
          rw [HCD.out, U8_append ([k1] ++ numB cl) Z]; exact hownb
        have HOB : Hid (wb.ownsRow w.heap.size 5 1 (.slice Ab (n9 + zl) cb) (n9 + zl) (U8 (cdB l k))) := hownc.base_le' B7.out.size
        have HOX := Lib.hid (own_below HO7.out hbb)
        have BB := Lib.hid (B7.out.trans (hbb.mono B7.out.size))
        obtain ⟨m, hm⟩ : ∃ m, m = n9 + zl := ⟨_, rfl⟩
        have HM : Hid (m = (cdB l k).length) := by show _ = _; rw [HCD.out, List.length_append, HN9.out, ← HZL.out, hm]
        rw [← hm] at HOB hcb ⊢
        clear hownb hownc hgb hbb hOa hBa rda t1 t2 t3 hm ba HO9 HB9 HO7 B7
        by_cases hc : m < ln
        · have NX : Hid (bestB l (k + 1) = cdB l k) := by show _ = _; rw [NXT.out, if_pos (by rw [← HM.out, ← hln.out]; exact hc)]
          have hci : (m : Int) < (ln : Int) := by omega
          go_wp2_with fail
          go_roundw
          case rel => exact ⟨k + 1, m, cb, Ab, by omega, by go_num, rfl, by show _ = _; rw [NX.out, HM.out], hcb, hmb, by show World.ownsRow _ _ _ _ _ _ _; rw [NX.out]; exact HOB.out, BB.out⟩
          case measure => simp [intOf]; omega
        · have NX : Hid (bestB l (k + 1) = bestB l k) := by show _ = _; rw [NXT.out, if_neg (by rw [← HM.out, ← hln.out]; exact hc)]
          have hci : ¬ (m : Int) < (ln : Int) := by omega
          go_wp2_with fail
          go_roundw
          case rel => exact ⟨k + 1, ln, cv, Av, by omega, by go_num, rfl, by show _ = _; rw [NX.out, hln.out], hlc, hcm, by show World.ownsRow _ _ _ _ _ _ _; rw [NX.out]; exact HOX.out, BB.out⟩
          case measure => simp [intOf]; omega
      · obtain rfl : k = 9 := by omega
        go_wp2_with fail
        go_ret
        refine NewU8.mk rfl ?_ hb.out
        rw [HPK.out, ← hln.out]
        exact ho.out
end Go.Proofs.Ytcefohjddbjcjaa
