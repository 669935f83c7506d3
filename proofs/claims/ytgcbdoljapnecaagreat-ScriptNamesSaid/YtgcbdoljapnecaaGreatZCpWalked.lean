/- canon's walk of a part. -/
import Derived.Test.YtgcbdoljapnecaaGreatZg11
import Derived.Test.YtgcbdoljapnecaaGreatZg12
import Derived.Test.YtgcbdoljapnecaaGreatZg16
namespace Go.Proofs.YtgcbdoljapnecaaGreat
set_option maxRecDepth 100000
open Go.RowKit
set_option linter.unusedVariables false
set_option linter.unusedSimpArgs false
/-- A part's darts' places, as its walk looks at them. -/
def WalkedPost (w : World) (D L : List Nat) (e : Ending) (w' : World) : Prop :=
  ∃ z : List Nat, NewI64 w (ofN z) e w' ∧ z.map (sgL D) = L ∧ ∀ j ∈ z, j < D.length
set_option maxHeartbeats 8000000 in
theorem cwalked_p (g : Nat) (l b : List Nat) (root lone : Int) (r : Nat) (D pl : List Nat) (A AP : Option Addr) (m c n cP : Nat) (w : World) (h : MapAt w g l b root lone) (hi : Inv l b) (hr : r < l.length) (hD : D = own l r) (hm : m = D.length)
    (hRD : Rd w w.heap.size A m (I64 (ofN D))) (hn : n = l.length) (hRP : Rd w w.heap.size AP n (I64 (ofN pl))) (hp : ∀ i, i < D.length → sgL pl (sgL D i) = i) :
    Calls Tryz.prog 139 #[.agg #[.int .i64 (r : Int), .slice A m c], .pointer (some ⟨g, 0, none⟩), .slice AP n cP] w (WalkedPost w D (wlk l r)) := by
  have hle := h.2.1
  have hev := h.1.1
  obtain ⟨e1, ⟨B, hB⟩, e2, e3, e4, e5⟩ := al_walk hi hev hr hD hp
  have hAl := alN_len (l := l) (D := D) (pl := pl)
  rw [← hm] at e2 hAl
  obtain ⟨A', hA'⟩ : ∃ A', A' = alN l D pl := ⟨_, rfl⟩
  obtain ⟨j, hj⟩ : ∃ j, j = sgL pl r := ⟨_, rfl⟩
  rw [← hA'] at e1 hB e4 e5 hAl
  rw [← hj] at e2 e3 e4 e5
  have hml : m ≤ l.length := by
    rw [hm, hD]; unfold own
    exact Nat.le_trans (List.length_filter_le _ _) (by simp)
  have hDl : Hid (∀ k, k < m → sgL D k < n) := fun k hk => by
    have := sgL_mem (D := D) (show k < D.length by omega)
    rw [hD, own_mem] at this
    rw [hn]; rw [← hD] at this; exact this.1
  have HSG : Hid (∀ k, k < m → sgL l (sgL D k) < n ∧ sgL A' k = sgL pl (sgL l (sgL D k))) := fun k hk => by
    refine ⟨by rw [hn]; exact hi.lt _ (by have := hDl.out k hk; omega), ?_⟩
    rw [hA', alN_get (by omega)]
  obtain ⟨gD, oD, rfl, hgD, cD⟩ := hRD.i64 (by omega)
  obtain ⟨gP, oP, rfl, hgP, cP'⟩ := hRP.i64 (by omega)
  have CD : Hid (∀ W, Below w.heap.size w W → ∀ k, k < m → W.cell? ⟨gD, oD + k, none⟩ = some (.int .i64 ((sgL D k : Nat) : Int))) := fun W z k hk => by
    have := (z.cell (p := ⟨gD, oD + k, none⟩) hgD).trans (cD k hk)
    rwa [ofN_get] at this
  have CP : Hid (∀ W, Below w.heap.size w W → ∀ k, k < n → W.cell? ⟨gP, oP + k, none⟩ = some (.int .i64 ((sgL pl k : Nat) : Int))) := fun W z k hk => by
    have := (z.cell (p := ⟨gP, oP + k, none⟩) hgP).trans (cP' k hk)
    rwa [ofN_get] at this
  have SG : Hid (∀ (W : World), Below w.heap.size w W → ∀ d : Nat, d < n → Calls Tryz.prog 116 #[.pointer (some ⟨g, 0, none⟩), .int .i64 (d : Int)] W fun e w' => e = .returned (.int .i64 ((sgL l d : Nat) : Int)) ∧ Below W.heap.size W w') := fun W z d hd => sigma_in g l b root lone d W (h.below z) (by rw [← hn]; exact hd)
  have hrn : r < n := by omega
  have hmn : m ≤ 131072 := by omega
  have NW : Hid (∀ (W : World) (a : Nat), Rd W W.heap.size (some ⟨a, 0, none⟩) m (I64 (ofN A')) → Calls Tryz.prog 19 #[.slice (some ⟨a, 0, none⟩) m m, .int .i64 (j : Int), .int .i64 0] W (NewMap W A' B (j : Int) 0)) := fun W a z => new_ok _ m m A' B _ 0 W z hB (by rw [← hAl]; exact e1) hmn (.inr ⟨by omega, by omega, by omega⟩) (by omega) (by omega)
  obtain ⟨N, hN⟩ : ∃ N, N = wN (sgL A') (nameOf A') (A'.length / 2) (orbits A').length j := ⟨_, rfl⟩
  have hN1 := (wN_is (sgL_pf hB) (show A'.length = 2 * (A'.length / 2) by omega) (one_nm hB) (fun x hx => name_lt hB hx) (show j < A'.length by omega))
  rw [← hN] at hN1
  have hNm : N ≤ 131072 := by have := hN1.2.1; omega
  have hN0 : 0 < N := hN1.1
  obtain ⟨ws, hws⟩ : ∃ ws : Nat → Nat, ws = fun i => (wrun (sgL A') (nameOf A') (A'.length / 2) (orbits A').length j i).d := ⟨_, rfl⟩
  obtain ⟨WS, hWS⟩ : ∃ WS : List Int, WS = wst (sgL A') (nameOf A') (A'.length / 2) (orbits A').length j N := ⟨_, rfl⟩
  have HW0 : Hid (∀ k, k < N → WS.getD (2 * k) 0 = ((ws k : Nat) : Int)) := fun k hk => by rw [hWS, hws]; exact wst_d _ _ _ _ _ hk
  have HWK : Hid ((List.range N).map ws = wlk A' j) := by show _ = _; rw [hN, hws]; rfl
  have OFP : Hid (∀ (W : World) (g2 : Nat), MapAt W g2 A' B (j : Int) 0 → Calls Tryz.prog 142 #[.pointer (some ⟨g2, 0, none⟩), .int .i64 (j : Int)] W (WalkPost W N WS)) := fun W g2 z => by
    rw [hN, hWS, hN]
    exact walkOf_p g2 A' B (j : Int) 0 j (A'.length / 2) (orbits A').length W z hB (by omega) rfl (by rw [sizes_len]; omega)
  have RT : Hid (∀ (W : World) (g2 : Nat), MapAt W g2 A' B (j : Int) 0 → Calls Tryz.prog 14 #[.pointer (some ⟨g2, 0, none⟩)] W fun e w' => e = .returned (.int .i64 (j : Int)) ∧ W = w') := fun W g2 z => root_p g2 A' B (j : Int) 0 W z
  have FIN : Hid ((wlk A' j).map (sgL D) = wlk l r ∧ ∀ i ∈ wlk A' j, i < D.length) := ⟨e4, e5⟩
  have HAL : Hid (A'.length = m) := hAl
  have HJ : Hid (sgL pl r = j) := hj.symm
  obtain ⟨i0, hi0, hz0, hz1, hz2⟩ := info_parts info_int
  have hmk := run_make_one (P := Tryz.prog) 29 3 i0 (.int .i64 0) 8 Tryz.underlying29 hi0 hz0 hz1 hz2 rfl .i64 .i64 m (by omega) (by omega)
  have hmk2 := run_make_one (P := Tryz.prog) 29 3 i0 (.int .i64 0) 8 Tryz.underlying29 hi0 hz0 hz1 hz2 rfl .i64 .i64 N (by omega) (by omega)
  have HMK2 := Lib.hid hmk2
  have hm0 : 0 < m := by omega
  have hnn : n ≤ 131072 := by omega
  have bx : Hid (Blk (w.alloc (.cells #[.int .i64 (r : Int), .slice (some ⟨gD, oD, none⟩) m c] 150)) w.heap.size 150 #[.int .i64 (r : Int), .slice (some ⟨gD, oD, none⟩) m c]) := Blk.new w 150 #[.int .i64 (r : Int), .slice (some ⟨gD, oD, none⟩) m c]
  have Z1 : Hid (Below w.heap.size w (w.alloc (.cells #[.int .i64 (r : Int), .slice (some ⟨gD, oD, none⟩) m c] 150))) := (Below.refl _ _).alloc (Nat.le_refl _) _
  have hs1 : (w.alloc (.cells #[.int .i64 (r : Int), .slice (some ⟨gD, oD, none⟩) m c] 150)).heap.size = w.heap.size + 1 := by simp
  have x1 := bx.out.cell 1
  simp at x1
  clear h hi hr hD hRD hRP hp hn hm hml hle hev e1 e2 e3 e4 e5 hB hA' hj hAl cD cP' hgD hgP hN hN1 hws hWS hmk2
  go_enter Tryz.func139, Tryz.ntmps139
  have om : ((w.alloc (.cells #[.int .i64 (r : Int), .slice (some ⟨gD, oD, none⟩) m c] 150)).alloc (.cells (List.replicate m (Value.int .i64 0)).toArray 3)).ownsRow w.heap.size 3 1 (.slice (some ⟨w.heap.size + 1, 0, none⟩) m m) m (I64 (ofN (List.replicate m 0))) := by
    have := own_made (w.alloc (.cells #[.int .i64 (r : Int), .slice (some ⟨gD, oD, none⟩) m c] 150)) 3 m (.int .i64 0) (by simp only [maxLen]; omega)
    have e : I64 (ofN (List.replicate m 0)) = List.replicate m (.int .i64 0) := by simp [I64, ofN]
    rw [e]
    rw [hs1] at this
    exact this.base_le' (by omega)
  have OM := Lib.hid om
  have al2 : Below (w.alloc (.cells #[.int .i64 (r : Int), .slice (some ⟨gD, oD, none⟩) m c] 150)).heap.size (w.alloc (.cells #[.int .i64 (r : Int), .slice (some ⟨gD, oD, none⟩) m c] 150)) ((w.alloc (.cells #[.int .i64 (r : Int), .slice (some ⟨gD, oD, none⟩) m c] 150)).alloc (.cells (List.replicate m (Value.int .i64 0)).toArray 3)) := (Below.refl _ _).alloc (Nat.le_refl _) _
  have BX2 := Lib.hid (bx.out.below al2)
  have Z2 := Lib.hid (Z1.out.trans (al2.mono (by rw [hs1]; omega)))
  have x12 := BX2.out.cell 1
  simp at x12
  clear om al2 bx Z1
  go_wp2_with fail
  go_loopw [24] (fun x wr => ∃ (k : Nat) (y : List Nat), k ≤ m ∧ x = .int .i64 (k : Int) ∧ Hid (y.length = m ∧ ∀ i, i < k → sgL y i = sgL A' i) ∧ Hid (wr.ownsRow w.heap.size 3 1 (.slice (some ⟨w.heap.size + 1, 0, none⟩) m m) m (I64 (ofN y))) ∧ Hid (Blk wr w.heap.size 150 #[.int .i64 (r : Int), .slice (some ⟨gD, oD, none⟩) m c]) ∧ Hid (Below w.heap.size w wr)) (fun x _ => m - (intOf x).toNat)
  case atStart => exact ⟨0, List.replicate m 0, Nat.zero_le _, rfl, ⟨by simp, fun i hi => absurd hi (by omega)⟩, OM, BX2, Z2⟩
  case round =>
    clear OM BX2 Z2 x12 x1 hs1 hmk
    obtain ⟨k, y, hk, rfl, HY, O1, BX, ZZ⟩ := hrel
    by_cases hlt : k < m
    · have hdk : decide (k < m) = true := decide_eq_true hlt
      have c0 := CD.out wr ZZ.out k hlt
      obtain ⟨s1, s2⟩ := HSG.out k hlt
      have hdn := hDl.out k hlt
      have SG1 := Lib.hid (SG.out wr ZZ.out (sgL D k) hdn)
      obtain ⟨d, hd⟩ : ∃ d, d = sgL D k := ⟨_, rfl⟩
      rw [← hd] at c0 s1 s2 hdn SG1
      obtain ⟨s, hs⟩ : ∃ s, s = sgL l d := ⟨_, rfl⟩
      rw [← hs] at s1 s2 SG1
      have S2 := Lib.hid s2
      have hki : (k : Int) < (m : Int) := by omega
      have hsi : (s : Int) < (n : Int) := by omega
      clear hd hs s2
      go_wp2_with fail
      refine SG1.out.mono ?_
      rintro e w4 ⟨rfl, b4⟩
      have O2 := Lib.hid (own_below O1.out b4)
      have fo := O2.out.frozenAt k
      obtain ⟨q0, co⟩ : ∃ q0, w4.cell? ⟨w.heap.size + 1, k, none⟩ = some (.int .i64 q0) := ⟨_, own_cellI O2.out k hlt⟩
      have E2 := Lib.hid (ZZ.out.trans (b4.mono ZZ.out.size))
      have cs := CP.out w4 E2.out s s1
      have BX3 := Lib.hid (BX.out.below b4)
      clear b4 O1 SG1 ZZ BX
      go_wp2_with fail
      go_roundw
      case rel =>
        refine ⟨k + 1, y.set k (sgL pl s), by omega, by go_num, ⟨by rw [List.length_set]; exact HY.out.1, fun i hi => ?_⟩, ?_, ?_, ?_⟩
        · show (y.set k (sgL pl s)).getD i 0 = _
          rw [getDN_set _ _ _ _ (by rw [HY.out.1]; exact hlt)]
          by_cases e : i = k
          · rw [if_pos e, e, S2.out]
          · rw [if_neg e]; exact HY.out.2 i (by omega)
        · have := own_setI O2.out k ((sgL pl s : Nat) : Int)
          rw [ofN_setN] at this
          exact this
        · exact BX3.out.mod (Mod.setCell (p := ⟨w.heap.size + 1, k, none⟩) (Mod.refl (fun i => i = w.heap.size + 1) _) (fun _ => rfl) _) (by omega)
        · exact E2.out.setCell (p := ⟨w.heap.size + 1, k, none⟩) (by simp) _
      case measure => simp [intOf]; omega
    · obtain rfl : m = k := by omega
      have hdk : decide (m < m) = false := by simp
      have hyA : y = A' := getDN_extC (by rw [HY.out.1, HAL.out]) fun i hi => HY.out.2 i (by rw [HY.out.1] at hi; exact hi)
      rw [hyA] at O1
      have NW1 := Lib.hid (NW.out wr (w.heap.size + 1) (Rd.ofOwn O1.out))
      have x0 := BX.out.cell 0
      simp at x0
      have cr := CP.out wr ZZ.out r hrn
      rw [HJ.out] at cr
      have hri : (r : Int) < (n : Int) := by omega
      clear hyA HY O1 BX
      go_wp2_with fail
      refine NW1.out.mono ?_
      rintro e w5 ⟨g2, rfl, m5, b5, _⟩
      have RT1 := Lib.hid (RT.out w5 g2 m5)
      have OF1 := Lib.hid (OFP.out w5 g2 m5)
      have Z5 := Lib.hid (ZZ.out.trans (b5.mono ZZ.out.size))
      clear m5 b5 NW1 ZZ x0 cr
      go_wp2_with fail
      refine RT1.out.mono ?_
      rintro e w' ⟨rfl, rfl⟩
      go_wp2_with fail
      refine OF1.out.mono ?_
      rintro e w6 ⟨A6, c6, rfl, o6, b6⟩
      have Z6 := Lib.hid (Z5.out.trans (b6.mono Z5.out.size))
      obtain ⟨g6, rfl, _, hg6⟩ := own_someS o6 hN0
      have hWl : WS.length = N * 2 := by have := o6.1; rw [I64_len] at this; exact this
      have C6 : Hid (∀ W, Below w6.heap.size w6 W → ∀ k, k < N → W.cell? ⟨g6, k * 2, none⟩ = some (.int .i64 ((ws k : Nat) : Int)) ∧ W.cell? ⟨g6, k * 2 + 1, none⟩ = some (.int .i64 (WS.getD (k * 2 + 1) 0))) := fun W z k hk => by
        have a := (z.cell (p := ⟨g6, k * 2, none⟩) hg6).trans (o6.cellAt (k * 2) (by omega))
        have a2 := (z.cell (p := ⟨g6, k * 2 + 1, none⟩) hg6).trans (o6.cellAt (k * 2 + 1) (by omega))
        rw [I64_get _ _ (by omega)] at a a2
        rw [show k * 2 = 2 * k by omega, HW0.out k hk, show 2 * k = k * 2 by omega] at a
        exact ⟨a, a2⟩
      have ON0 : Hid ((w6.alloc (.cells (List.replicate N (Value.int .i64 0)).toArray 3)).ownsRow w6.heap.size 3 1 (.slice (some ⟨w6.heap.size, 0, none⟩) N N) N (I64 (ofN (List.replicate N 0)))) := by
        have := own_made w6 3 N (.int .i64 0) (by simp only [maxLen]; omega)
        have e : I64 (ofN (List.replicate N 0)) = List.replicate N (.int .i64 0) := by simp [I64, ofN]
        rw [e]; exact this
      have ZN0 := Lib.hid ((Below.refl w6.heap.size w6).alloc (Nat.le_refl _) (.cells (List.replicate N (Value.int .i64 0)).toArray 3))
      have hmk2 := HMK2.out
      clear o6 b6 OF1 RT1 Z5 hWl hg6
      go_wp2_with fail
      clear hmk2
      go_loopw [61] (fun x wr => ∃ (i : Nat) (z : List Nat), i ≤ N ∧ x = .int .i64 (i : Int) ∧ Hid (z.length = N ∧ ∀ q, q < i → sgL z q = ws q) ∧ Hid (wr.ownsRow w6.heap.size 3 1 (.slice (some ⟨w6.heap.size, 0, none⟩) N N) N (I64 (ofN z))) ∧ Hid (Below w6.heap.size w6 wr)) (fun x _ => N - (intOf x).toNat)
      case atStart => exact ⟨0, List.replicate N 0, Nat.zero_le _, rfl, ⟨by simp, fun i hi => absurd hi (by omega)⟩, ON0, ZN0⟩
      case round =>
        clear ON0 ZN0
        obtain ⟨i, z, hik, rfl, HZ, ON, ZN⟩ := hrel
        by_cases hlti : i < N
        · have hdi : decide (i < N) = true := decide_eq_true hlti
          obtain ⟨y0, y1⟩ := C6.out wr ZN.out i hlti
          obtain ⟨d, hd⟩ : ∃ d, d = ws i := ⟨_, rfl⟩
          obtain ⟨t, ht⟩ : ∃ t, t = WS.getD (i * 2 + 1) 0 := ⟨_, rfl⟩
          rw [← hd] at y0
          rw [← ht] at y1
          have HDI := Lib.hid hd
          clear hd ht
          have al : Below wr.heap.size wr (wr.alloc (.cells #[.int .i64 (d : Int), .int .i64 t] 158)) := (Below.refl _ _).alloc (Nat.le_refl _) _
          have ON2 := Lib.hid (own_below ON.out al)
          have ZN2 := Lib.hid (ZN.out.trans (al.mono ZN.out.size))
          have fo := ON2.out.frozenAt i
          obtain ⟨q0, co⟩ : ∃ q0, (wr.alloc (.cells #[.int .i64 (d : Int), .int .i64 t] 158)).cell? ⟨w6.heap.size, i, none⟩ = some (.int .i64 q0) := ⟨_, own_cellI ON2.out i hlti⟩
          have hii : (i : Int) < (N : Int) := by omega
          clear al ON ZN
          go_wp2_with fail
          go_roundw
          case rel =>
            refine ⟨i + 1, z.set i d, by omega, by go_num, ⟨by rw [List.length_set]; exact HZ.out.1, fun q hq => ?_⟩, ?_, ?_⟩
            · show (z.set i d).getD q 0 = _
              rw [getDN_set _ _ _ _ (by rw [HZ.out.1]; exact hlti)]
              by_cases e : q = i
              · rw [if_pos e, e, HDI.out]
              · rw [if_neg e]; exact HZ.out.2 q (by omega)
            · have := own_setI ON2.out i (d : Int)
              rw [ofN_setN] at this
              exact this
            · exact ZN2.out.setCell (p := ⟨w6.heap.size, i, none⟩) (Nat.le_refl _) _
          case measure => simp [intOf]; omega
        · obtain rfl : N = i := by omega
          have hdi : decide (N < N) = false := by simp
          go_wp2_with fail
          go_ret
          have hz : z = wlk A' j := by
            rw [← HWK.out]
            refine getDN_extC (by simp [HZ.out.1]) fun q hq => ?_
            rw [HZ.out.1] at hq
            rw [map_rangeN _ _ _ hq]
            exact HZ.out.2 q hq
          refine ⟨wlk A' j, NewI64.mk rfl ?_ (Z6.out.trans (ZN.out.mono Z6.out.size)), FIN.out.1, FIN.out.2⟩
          have := ON.out.base_le' Z6.out.size
          rw [← hz, ofN_len, HZ.out.1]
          exact this
end Go.Proofs.YtgcbdoljapnecaaGreat
