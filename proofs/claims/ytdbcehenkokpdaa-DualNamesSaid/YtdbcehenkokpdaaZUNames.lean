/- DualNames: the walk. -/
import Derived.Test.YtdbcehenkokpdaaZURel
import Derived.Test.YtdbcehenkokpdaaZUNamesL
import Derived.Test.YtdbcehenkokpdaaZUBool
import Derived.Test.YtdbcehenkokpdaaZUMade
import Derived.Test.YtdbcehenkokpdaaZUNil
import Derived.Test.YtdbcehenkokpdaaZUAwake
import Derived.Test.YtdbcehenkokpdaaZEGenR
import Derived.Test.YtdbcehenkokpdaaZEPartsW
import Derived.Test.YtdbcehenkokpdaaZDSame
import Derived.Test.YtdbcehenkokpdaaZDMap2
import Derived.Test.YtdbcehenkokpdaaZPRef2
import Derived.Test.YtdbcehenkokpdaaZPInv
import Derived.Test.YtdbcehenkokpdaaZPOne
import Derived.Deep.RegionHeld3
import Derived.Deep.RegionWith
namespace Go.Proofs.Ytdbcehenkokpdaa
set_option maxRecDepth 100000
open Go.RowKit
set_option linter.unusedVariables false
set_option maxHeartbeats 16000000 in
theorem dualNames_walk (A0 A3 A4 : Option Addr) (n m c rr m3 c3 m4 c4 : Nat) (by_ nm : List Int) (wrong : Bool) (w : World) (h0 : Rd w w.heap.size A0 m (Z8 by_)) (hb0 : ∀ x ∈ by_, 0 ≤ x ∧ x < 256) (hmc : m ≤ c) (hcm : c ≤ maxLen) (hn : n < 256) (hrr : rr < 256)
    (h3 : Rd w w.heap.size A3 m3 (Z8 nm)) (hb3 : ∀ x ∈ nm, 0 ≤ x ∧ x < 256) (hmc3 : m3 ≤ c3) (hcm3 : c3 ≤ maxLen) (h4 : Flags w A4 m4) (hmc4 : m4 ≤ c4) (hcm4 : c4 ≤ maxLen) :
    Calls Try.prog 3 #[.int .u8 (n : Int), .slice A0 m c, .int .u8 (rr : Int), .slice A3 m3 c3, .slice A4 m4 c4, .bool wrong] w fun e w' => e = .returned (.bool true) ∧ Below w.heap.size w w' := by
  unfold maxLen at hcm hcm3 hcm4
  have AW := Lib.hid (awake10_p w)
  have H0 := Lib.hid h0
  have HB0 := Lib.hid hb0
  have H3 := Lib.hid h3
  have HB3 := Lib.hid hb3
  have H4 := Lib.hid h4
  clear h0 hb0 h3 hb3 h4
  go_enter Try.func3, Try.ntmps3
  go_wp2_with fail
  refine AW.out.mono ?_
  rintro e w1 ⟨rfl, b1⟩
  have MD := Lib.hid (made10_p n rr 0 m c _ A0 by_ w1 (H0.out.below b1) HB0.out b1.size hn hrr (by omega) (by omega))
  have B1 := Lib.hid b1
  clear b1 AW
  go_wp2_with fail
  refine MD.out.mono ?_
  rintro e w2 ⟨g, v, l, b, root, rfl, hmap, hrm, hl, hroot, b2⟩
  have e03 : ((0 % 3 : Nat) : Int) = 0 := rfl
  rw [e03] at hmap hrm
  obtain ⟨hinv, A, cA, hla, rfl, hlc, hcA, hrA⟩ := hrm
  have hbx := (Below.refl w2.heap.size w2).alloc (Nat.le_refl _) (.cells #[.slice A l.length cA, .int .i64 root, .int .i64 0] 28)
  have HX := Lib.hid (Blk.new w2 28 #[.slice A l.length cA, .int .i64 root, .int .i64 0])
  have HM := Lib.hid (hmap.below hbx)
  have HR := Lib.hid (hrA.more hbx)
  have HI := Lib.hid hinv
  have hl20 : l.length ≤ 22 := by have := Nat.mod_lt n (show 0 < 12 by decide); omega
  have HEV : Hid (l.length % 2 = 0) := by show _ = _; omega
  have B2 : Hid (Below w.heap.size w w2) := B1.out.trans (b2.mono B1.out.size)
  have B3 : Hid (Below w.heap.size w (w2.alloc (.cells #[.slice A l.length cA, .int .i64 root, .int .i64 0] 28))) := B2.out.trans (hbx.mono B2.out.size)
  have HRT : Hid (RootOk root l.length) := by rw [hl]; exact hroot
  clear hmap hbx hrA hinv b2 B1 MD hlc hcA hla hl hroot B2 e03
  go_upto_region 4 with fail
  generalize hw3 : w2.alloc (.cells #[.slice A l.length cA, .int .i64 root, .int .i64 0] 28) = w3 at *
  have hX3 : w2.heap.size < w3.heap.size := by rw [← hw3]; simp
  have x0' : w3.cell? ⟨w2.heap.size, 0, none⟩ = some (.slice A l.length cA) := HX.out.cell 0
  have x1' : w3.cell? ⟨w2.heap.size, 1, none⟩ = some (.int .i64 root) := HX.out.cell 1
  have XK : Hid (∀ W, Below w3.heap.size w3 W → W.cell? ⟨w2.heap.size, 0, none⟩ = some (.slice A l.length cA) ∧ W.cell? ⟨w2.heap.size, 1, none⟩ = some (.int .i64 root)) := fun W m => ⟨(m.cell (p := ⟨w2.heap.size, 0, none⟩) hX3).trans x0', (m.cell (p := ⟨w2.heap.size, 1, none⟩) hX3).trans x1'⟩
  clear hw3 x0' x1' HX hX3
  generalize w2.heap.size = gx at *
  obtain ⟨M, hM⟩ : ∃ M, M = l.length / 2 := ⟨_, rfl⟩
  obtain ⟨N, hN⟩ : ∃ N, N = l.length := ⟨_, rfl⟩
  have hN2 : N = 2 * M := by have := HEV.out; omega
  have hM11 : M ≤ 11 := by omega
  have EP : Hid (∀ W, Below w3.heap.size w3 W → Calls Try.prog 8 #[.pointer (some ⟨g, 0, none⟩)] W fun e w' => e = .returned (.int .i64 (M : Int)) ∧ Below W.heap.size W w') := fun W m => by rw [hM]; exact edges_p g l b root 0 W (HM.out.below m)
  have MX : Hid (∀ W, Below w3.heap.size w3 W → Calls Try.prog 7 #[.int .i64 (M : Int), .slice A3 m3 c3] W (SomeP W M)) := fun W mm => mix_p M m3 c3 w.heap.size A3 nm W (H3.out.below (B3.out.trans (mm.mono B3.out.size))) HB3.out (by omega) (by omega)
  have Z0 := Below.refl w3.heap.size w3
  have HNN : Hid (N = l.length) := hN
  have HN2 : Hid (N = 2 * M) := hN2
  have hN22 : N ≤ 22 := by omega
  rw [← hN]
  clear hM hN hN2
  go_wp2_with fail
  refine (EP.out _ Z0).mono ?_
  rintro e v1 ⟨rfl, z⟩
  have Z1 := Z0.trans (z.mono Z0.size)
  clear z Z0
  go_wp2_with fail
  refine (MX.out _ Z1).mono ?_
  rintro e v2 ⟨P, PB, hP, hPl, A5, c5, rfl, hc5, hm5, hown5, z⟩
  rw [ofN_len, hPl] at hown5 hc5 ⊢
  have Z2 := Z1.trans (z.mono Z1.size)
  have RP := Lib.hid (Rd.ofOwn hown5)
  have HP := Lib.hid hP
  have HPL := Lib.hid hPl
  have B4 : Hid (Below w3.heap.size w3 v2) := Z2
  obtain ⟨i0, hi0, hz0, hz1, hz2⟩ := info_parts info_int
  clear z Z1 Z2 hown5 hP hPl EP MX
  go_wp2_with fail
  go_loopw [15, 43] (fun s i wr => ∃ (k q : Nat) (L : List Nat) (Av : Option Addr) (cv : Nat), k ≤ M ∧ q = 2 * k ∧ i = .int .i64 (k : Int) ∧ s = .slice Av q cv ∧ q ≤ cv ∧ cv ≤ maxLen ∧ Hid (Flip P L k) ∧ Hid (wr.ownsRow v2.heap.size 3 1 (.slice Av q cv) q (I64 (ofN L))) ∧ Hid (Below v2.heap.size v2 wr)) (fun _ i _ => M - (intOf i).toNat)
  case atStart => exact ⟨0, 0, [], none, 0, by omega, rfl, rfl, rfl, Nat.le_refl _, Nat.zero_le _, ⟨rfl, fun e he => absurd he (by omega)⟩, World.ownsRow_nil _ _ _ _, Below.refl _ _⟩
  case round =>
    obtain ⟨k, q, L, Av, cv, hk, hq, rfl, rfl, hqc, hcv, HF, HO, HB⟩ := hrel
    unfold maxLen at hcv
    by_cases hlt : k < M
    · have hdk : decide (k < M) = true := by rw [decide_eq_true_iff]; exact hlt
      obtain ⟨b5, o5, rfl, hb5, hcz⟩ := (RP.out.more HB.out).i64 (by omega)
      have cP := hcz k hlt
      rw [ofN_get] at cP
      have hx11 : P.getD k 0 < M := by have := HP.out.lt k (by rw [HPL.out]; exact hlt); rw [HPL.out] at this; exact this
      obtain ⟨a, ha⟩ : ∃ a, a = 2 * P.getD k 0 := ⟨_, rfl⟩
      obtain ⟨a1, ha1⟩ : ∃ a1, a1 = 2 * P.getD k 0 + 1 := ⟨_, rfl⟩
      have FN1 : Hid (Flip P (L ++ [a, a1]) (k + 1)) := HF.out.next (.inl ⟨ha, ha1⟩)
      have FN2 : Hid (Flip P (L ++ [a1, a]) (k + 1)) := HF.out.next (.inr ⟨ha1, ha⟩)
      generalize P.getD k 0 = x at *
      have e1 : 2 * (x : Int) = (a : Int) := by omega
      have e2 : (a : Int) + 1 = (a1 : Int) := by omega
      have wa : IntKind.i64.wrap (2 * (x : Int)) = (a : Int) := by rw [e1]; simp [IntKind.wrap, IntKind.signed, IntKind.bits]; omega
      have wa1 : IntKind.i64.wrap (a1 : Int) = (a1 : Int) := by simp [IntKind.wrap, IntKind.signed, IntKind.bits]; omega
      have waa : IntKind.i64.wrap (a : Int) = (a : Int) := by simp [IntKind.wrap, IntKind.signed, IntKind.bits]; omega
      have t1 : q + 2 ≤ maxLen := by simp only [maxLen]; omega
      have t2 : (q + 2) * 8 ≤ 140737488355328 := by omega
      have HBS := HB.out.size
      have BW : Hid (Below w.heap.size w wr) := B3.out.trans ((B4.out.trans (HB.out.mono B4.out.size)).mono B3.out.size)
      have HQ : Hid (q = 2 * k) := hq
      clear ha ha1 hcz hx11 HF hb5 hq
      by_cases hk4 : k < m4
      · have hd4 : decide (k < m4) = true := by rw [decide_eq_true_iff]; exact hk4
        obtain ⟨b4, o4, rfl, hb4, vv, cv4⟩ := H4.out k hk4
        have c4v := (BW.out.cell (p := ⟨b4, o4 + k, none⟩) hb4).trans cv4
        have hkc4 : (k : Int) ≤ (c4 : Int) := by omega
        clear cv4 hb4
        cases vv
        focus (
          have hownA := HO.out.alloc (.cells #[.int .i64 (a : Int), .int .i64 (a1 : Int)] 3)
          have r3 := Rd.new wr 3 #[.int .i64 (a : Int), .int .i64 (a1 : Int)] 2 (I64 [(a : Int), (a1 : Int)]) (by simp [I64]) (by simp)
          have t3 : v2.heap.size ≤ (wr.alloc (.cells #[.int .i64 (a : Int), .int .i64 (a1 : Int)] 3)).heap.size := by simp; omega
          go_wp2_with (first
            | (at_builtin; go_must (refine wpList_append_rd _ rfl _ _ 26 rfl v2.heap.size 3 i0 (.int .i64 0) 8 Try.underlying26 hi0 hz0 hz1 hz2 rfl (.slice Av q cv) q (I64 (ofN L)) rfl hownA (wr.heap.size + 1) (some ⟨wr.heap.size, 0, none⟩) 2 2 (I64 [(a : Int), (a1 : Int)]) rfl r3 (I64_one _) t1 t2 t3 ?_)))
          intro A6 c6 w6 hc6 hm6 hown6 hg6 _
          have hb6 : Below v2.heap.size v2 w6 := (HB.out.trans ((Below.refl v2.heap.size wr).alloc HBS _)).trans (Below.appended hownA hg6 t3)
          have hR : I64 (ofN L) ++ I64 [(a : Int), (a1 : Int)] = I64 (ofN (L ++ [a, a1])) := by rw [ofN_append, I64_append]; rfl
          rw [hR] at hown6
          clear hR hownA r3 hg6
          go_wp2_with fail
          go_roundw
          case rel => exact ⟨k + 1, q + 2, L ++ [a, a1], A6, c6, by omega, by have := HQ.out; omega, by go_num, rfl, hc6, hm6, FN1.out, hown6, hb6⟩
          case measure => simp [intOf]; omega
          )
        focus (
          have hownA := HO.out.alloc (.cells #[.int .i64 (a1 : Int), .int .i64 (a : Int)] 3)
          have r3 := Rd.new wr 3 #[.int .i64 (a1 : Int), .int .i64 (a : Int)] 2 (I64 [(a1 : Int), (a : Int)]) (by simp [I64]) (by simp)
          have t3 : v2.heap.size ≤ (wr.alloc (.cells #[.int .i64 (a1 : Int), .int .i64 (a : Int)] 3)).heap.size := by simp; omega
          go_wp2_with (first
            | (at_builtin; go_must (refine wpList_append_rd _ rfl _ _ 26 rfl v2.heap.size 3 i0 (.int .i64 0) 8 Try.underlying26 hi0 hz0 hz1 hz2 rfl (.slice Av q cv) q (I64 (ofN L)) rfl hownA (wr.heap.size + 1) (some ⟨wr.heap.size, 0, none⟩) 2 2 (I64 [(a1 : Int), (a : Int)]) rfl r3 (I64_one _) t1 t2 t3 ?_)))
          intro A6 c6 w6 hc6 hm6 hown6 hg6 _
          have hb6 : Below v2.heap.size v2 w6 := (HB.out.trans ((Below.refl v2.heap.size wr).alloc HBS _)).trans (Below.appended hownA hg6 t3)
          have hR : I64 (ofN L) ++ I64 [(a1 : Int), (a : Int)] = I64 (ofN (L ++ [a1, a])) := by rw [ofN_append, I64_append]; rfl
          rw [hR] at hown6
          clear hR hownA r3 hg6
          go_wp2_with fail
          go_roundw
          case rel => exact ⟨k + 1, q + 2, L ++ [a1, a], A6, c6, by omega, by have := HQ.out; omega, by go_num, rfl, hc6, hm6, FN2.out, hown6, hb6⟩
          case measure => simp [intOf]; omega
          )
      · have hd4 : decide (k < m4) = false := by rw [decide_eq_false_iff_not]; exact hk4
        have hownA := HO.out.alloc (.cells #[.int .i64 (a : Int), .int .i64 (a1 : Int)] 3)
        have r3 := Rd.new wr 3 #[.int .i64 (a : Int), .int .i64 (a1 : Int)] 2 (I64 [(a : Int), (a1 : Int)]) (by simp [I64]) (by simp)
        have t3 : v2.heap.size ≤ (wr.alloc (.cells #[.int .i64 (a : Int), .int .i64 (a1 : Int)] 3)).heap.size := by simp; omega
        go_wp2_with (first
          | (at_builtin; go_must (refine wpList_append_rd _ rfl _ _ 26 rfl v2.heap.size 3 i0 (.int .i64 0) 8 Try.underlying26 hi0 hz0 hz1 hz2 rfl (.slice Av q cv) q (I64 (ofN L)) rfl hownA (wr.heap.size + 1) (some ⟨wr.heap.size, 0, none⟩) 2 2 (I64 [(a : Int), (a1 : Int)]) rfl r3 (I64_one _) t1 t2 t3 ?_)))
        intro A6 c6 w6 hc6 hm6 hown6 hg6 _
        have hb6 : Below v2.heap.size v2 w6 := (HB.out.trans ((Below.refl v2.heap.size wr).alloc HBS _)).trans (Below.appended hownA hg6 t3)
        have hR : I64 (ofN L) ++ I64 [(a : Int), (a1 : Int)] = I64 (ofN (L ++ [a, a1])) := by rw [ofN_append, I64_append]; rfl
        rw [hR] at hown6
        clear hR hownA r3 hg6
        go_wp2_with fail
        go_roundw
        case rel => exact ⟨k + 1, q + 2, L ++ [a, a1], A6, c6, by omega, by have := HQ.out; omega, by go_num, rfl, hc6, hm6, FN1.out, hown6, hb6⟩
        case measure => simp [intOf]; omega
    · obtain rfl : k = M := by omega
      obtain rfl : q = N := by have := HN2.out; omega
      have hdk : decide (k < k) = false := by simp
      have HGD : Hid (Good (ofN L)) := HF.out.good HP.out HPL.out
      have hLl : L.length = q := by have := HF.out.1; omega
      have HLL : Hid (L.length = q) := hLl
      have HQ2 : Hid (q = 2 * k) := hq
      have B5 : Hid (Below w3.heap.size w3 wr) := B4.out.trans (HB.out.mono B4.out.size)
      have BW : Hid (Below w.heap.size w wr) := B3.out.trans (B5.out.mono B3.out.size)
      obtain ⟨q1, hq1⟩ : ∃ q1, q1 = q + 1 := ⟨_, rfl⟩
      have hqw : (q : Int) + 1 = (q1 : Int) := by omega
      have hqw2 : IntKind.i64.wrap (q1 : Int) = (q1 : Int) := by simp [IntKind.wrap, IntKind.signed, IntKind.bits]; omega
      have DP : Hid (∀ W, Below w3.heap.size w3 W → Calls Try.prog 12 #[.pointer (some ⟨g, 0, none⟩)] W fun e w' => e = .returned (.int .i64 (q : Int)) ∧ Below W.heap.size W w') := fun W m => by rw [HNN.out]; exact darts_p g l b root 0 W (HM.out.below m)
      have OP : Hid (∀ W, Calls Try.prog 11 #[.int .i64 (q1 : Int)] W (NewP W (oneL q1) (oneL q1))) := fun W => by
        have := one_p (q1 : Int) W (by omega) (by omega)
        rwa [Int.toNat_natCast] at this
      have R1 : Hid (∀ g1 W, PermAt W g1 (oneL q1) (oneL q1) → Below w3.heap.size w3 W → Calls Try.prog 10 #[.pointer (some ⟨g, 0, none⟩), .pointer (some ⟨g1, 0, none⟩)] W fun e w' => e = .returned (.tuple #[.pointer none, .int .i64 1]) ∧ Below W.heap.size W w') := fun g1 W h m => relabel_len g g1 l b _ _ root 0 W (HM.out.below m) h (by rw [← HNN.out]; simp [oneL]; omega)
      have Z5 := Below.refl wr.heap.size wr
      have B5K : Hid (∀ W, Below wr.heap.size wr W → Below w3.heap.size w3 W) := fun W m => B5.out.trans (m.mono B5.out.size)
      have HFL : Hid (Flip P L k) := HF.out
      clear hq HPL HP HF hLl RP hq1
      by_cases hT : wrong = true ∧ 2 < q
      · obtain ⟨rfl, hq2⟩ := hT
        have hd2 : decide (2 < q) = true := by rw [decide_eq_true_iff]; exact hq2
        have hq2i : (2 : Int) < (q : Int) := by omega
        have hd2i : decide ((2 : Int) < (q : Int)) = true := by rw [decide_eq_true_iff]; omega
        obtain ⟨gL, rfl, hgL, hgL'⟩ := own_some HO.out (by omega)
        have c0 := own_cellI HO.out 0 (by omega)
        have c2 := own_cellI HO.out 2 hq2
        have f0 := HO.out.frozenAt 0
        have f2 := HO.out.frozenAt 2
        rw [ofN_get] at c0 c2
        have o1 := own_setI HO.out 0 ((L.getD 2 0 : Nat) : Int)
        have o2 := own_setI o1 2 ((L.getD 0 0 : Nat) : Int)
        have c3 := own_cellI o1 2 hq2
        have f3 := o1.frozenAt 2
        have hNS : (((ofN L).set 0 ((L.getD 2 0 : Nat) : Int)).set 2 ((L.getD 0 0 : Nat) : Int)) = ofN (swp2 L) := by simp [ofN, List.map_set, swp2]
        rw [hNS] at o2
        have HGS : Hid (Good (ofN (swp2 L))) := swp2_good HGD.out (by rw [HLL.out]; exact hq2)
        have HNO : Hid (∀ q', ¬ Nam l.length (swp2 L) q') := fun q' => by
          obtain ⟨b', hb'⟩ := good_inv HGD.out
          have := HFL.out.nam hb' (n := l.length) (by rw [← HNN.out]; exact HQ2.out)
          exact swp2_no this (by rw [← HNN.out]; exact hq2) (by rw [HLL.out]; exact HNN.out)
        have O2 := Lib.hid o2
        have BS : Hid (Below v2.heap.size v2 ((wr.setCell ⟨gL, 0, none⟩ (.int .i64 ((L.getD 2 0 : Nat) : Int))).setCell ⟨gL, 2, none⟩ (.int .i64 ((L.getD 0 0 : Nat) : Int)))) := (HB.out.setCell hgL _).setCell hgL _
        have HSL : Hid ((swp2 L).length = q) := by show _ = _; rw [swp2_len]; exact HLL.out
        clear o1 o2 hNS HO HGD HLL
        generalize ((ofN L).set 0 ((L.getD 2 0 : Nat) : Int)).getD 2 0 = z3 at *
        generalize swp2 L = L2 at *
        generalize L.getD 0 0 = y0 at *
        generalize L.getD 2 0 = y2 at *
        clear B5K B5 BW Z5 HB
        go_upto_region 14 with fail
        go_region
        have OW : Hid (World.ownsRow ((wr.setCell ⟨gL, 0, none⟩ (.int .i64 (y2 : Int))).setCell ⟨gL, 2, none⟩ (.int .i64 (y0 : Int))).drew v2.heap.size 3 1 (.slice (some ⟨gL, 0, none⟩) q cv) q (I64 (ofN L2))) := O2.out
        have BX : Hid (Below v2.heap.size v2 ((wr.setCell ⟨gL, 0, none⟩ (.int .i64 (y2 : Int))).setCell ⟨gL, 2, none⟩ (.int .i64 (y0 : Int))).drew) := BS.out.drew
        generalize ((wr.setCell ⟨gL, 0, none⟩ (.int .i64 (y2 : Int))).setCell ⟨gL, 2, none⟩ (.int .i64 (y0 : Int))).drew = u0 at OW BX ⊢
        clear O2 BS c0 c2 c3 f0 f2 f3
        have B6 : Hid (Below w3.heap.size w3 u0) := B4.out.trans (BX.out.mono B4.out.size)
        have PO := Lib.hid (of_p (some ⟨gL, 0, none⟩) q cv _ (ofN L2) u0 (Rd.ofOwn OW.out) (by omega))
        go_wp2_with fail
        refine PO.out.mono ?_
        rintro e u1 ⟨hres, z⟩
        obtain ⟨gp, l2, q2, he, rfl, hpa, _⟩ | ⟨hng, _⟩ := hres
        rotate_left
        exact absurd HGS.out hng
        obtain rfl := ofN_inj he
        have Y1 := B6.out.trans (z.mono B6.out.size)
        have HPA := Lib.hid hpa
        have HIN := Lib.hid hpa.1
        clear z he hpa PO
        have RL := Lib.hid (relabel_p g gp l b L2 q2 root 0 u1 (HM.out.below Y1) HPA.out (by rw [HSL.out]; exact HNN.out) HI.out HIN.out HRT.out)
        go_wp2_with fail
        refine RL.out.mono ?_
        rintro e u2 hres
        obtain ⟨hnam, _⟩ | ⟨_, rfl, z⟩ := hres
        exact absurd hnam (HNO.out _)
        have Y2 := Y1.trans (z.mono Y1.size)
        clear z RL Y1
        go_wp2_with fail
        refine (DP.out _ Y2).mono ?_
        rintro e u3 ⟨rfl, z⟩
        have Y3 := Y2.trans (z.mono Y2.size)
        clear z Y2
        go_wp2_with fail
        refine (OP.out _).mono ?_
        rintro e u4 ⟨g1, rfl, hp1, z⟩
        have Y4 := Y3.trans (z.mono Y3.size)
        have HP1 := Lib.hid hp1
        clear z Y3 hp1
        go_wp2_with fail
        refine (R1.out _ _ HP1.out Y4).mono ?_
        rintro e u5 ⟨rfl, z⟩
        have Y5 := Y4.trans (z.mono Y4.size)
        clear z Y4
        have FIN : Hid (Below w.heap.size w u5) := B3.out.trans (Y5.mono B3.out.size)
        go_wp2_with fail
        go_ret
        exact ⟨by first | rfl | simp, FIN.out⟩
      · cases wrong
        focus (
          have PO := Lib.hid (of_p Av q cv _ (ofN L) wr (Rd.ofOwn HO.out) (by omega))
          have RLW := Lib.hid (Rd.ofOwn HO.out)
          go_wp2_with fail
          refine PO.out.mono ?_
          rintro e u1 ⟨hres, z⟩
          obtain ⟨gp, l2, q2, he, rfl, hpa, _⟩ | ⟨hng, _⟩ := hres
          rotate_left
          exact absurd HGD.out hng
          obtain rfl := ofN_inj he
          have X1 := Z5.trans (z.mono Z5.size)
          have HPA := Lib.hid hpa
          have HIN := Lib.hid hpa.1
          have HNM : Hid (Nam l.length L q2) := HFL.out.nam hpa.1 (by rw [← HNN.out]; exact HQ2.out)
          clear z he hpa PO Z5
          have RL := Lib.hid (relabel_p g gp l b L q2 root 0 u1 (HM.out.below (B5K.out _ X1)) HPA.out (by rw [HLL.out]; exact HNN.out) HI.out HIN.out HRT.out)
          go_wp2_with fail
          refine RL.out.mono ?_
          rintro e u2 hres
          obtain ⟨_, ⟨o, rfl, hmo⟩, z⟩ | ⟨hnam, _⟩ := hres
          rotate_left
          exact absurd HNM.out hnam
          have X2 := X1.trans (z.mono X1.size)
          have HMO := Lib.hid hmo
          have HPA2 := Lib.hid (HPA.out.below z)
          clear z RL X1 hmo
          go_wp2_with fail
          refine (DP.out _ (B5K.out _ X2)).mono ?_
          rintro e u3 ⟨rfl, z⟩
          have X3 := (Below.refl u2.heap.size u2).trans (z.mono (Nat.le_refl _))
          clear z
          go_wp2_with fail
          refine (OP.out _).mono ?_
          rintro e u4 ⟨g1, rfl, hp1, z⟩
          have X4 := X3.trans (z.mono X3.size)
          have HP1 := Lib.hid hp1
          clear z X3 hp1
          go_wp2_with fail
          refine (R1.out _ _ HP1.out (B5K.out _ (X2.trans (X4.mono X2.size)))).mono ?_
          rintro e v ⟨rfl, z⟩
          have X5 := X4.trans (z.mono X4.size)
          have B9 : Hid (Below wr.heap.size wr v) := X2.trans (X5.mono X2.size)
          have B93 : Hid (Below w3.heap.size w3 v) := B5K.out _ B9.out
          have BV : Hid (Below w.heap.size w v) := B3.out.trans (B93.out.mono B3.out.size)
          have MO : Hid (MapAt v o (cjL L q2 l) (cjL L q2 b) (reRoot L root) 0) := HMO.out.below X5
          have MM : Hid (MapAt v g l b root 0) := HM.out.below B93.out
          have PA : Hid (PermAt v gp L q2) := HPA2.out.below X5
          have RLV := Lib.hid (RLW.out.more B9.out)
          have RS := Lib.hid (HR.out.more B93.out)
          have XV : Hid (∀ W, Below v.heap.size v W → W.cell? ⟨gx, 0, none⟩ = some (.slice A q cA) ∧ W.cell? ⟨gx, 1, none⟩ = some (.int .i64 root)) := fun W m => by rw [HNN.out]; exact XK.out W (B93.out.trans (m.mono B93.out.size))
          clear z X4 X5 X2 HMO HPA HPA2 HP1 R1 OP DP HM HR XK RLW HO HGD HB
          have K1 : Hid (∀ W, Below v.heap.size v W → Calls Try.prog 13 #[.pointer (some ⟨o, 0, none⟩)] W fun e w' => e = .returned (.int .i64 (reRoot L root)) ∧ Below v.heap.size v w') := fun W m => (root_p o _ _ _ 0 W (MO.out.below m)).mono fun e w' ⟨h1, h2⟩ => ⟨h1, h2 ▸ m⟩
          have K2 : Hid (∀ W, Below v.heap.size v W → Calls Try.prog 14 #[.pointer (some ⟨gp, 0, none⟩), .int .i64 root] W fun e w' => e = .returned (.int .i64 (reRoot L root)) ∧ Below v.heap.size v w') := fun W m => (at_root gp L q2 root W (PA.out.below m) (by rw [HLL.out, HNN.out]; exact HRT.out)).mono fun e w' ⟨h1, h2⟩ => ⟨h1, h2 ▸ m⟩
          have HRR := Lib.hid (reRoot_back HNM.out HRT.out)
          have HRO := Lib.hid (reRoot_ok HNM.out HRT.out)
          obtain ⟨r2, hr2⟩ : ∃ r2, r2 = reRoot L root := ⟨_, rfl⟩
          rw [← hr2] at K1 K2 MO HRR HRO
          clear hr2
          go_upto_region 22 with fail
          go_cut [131] from 121 to 132 (fun s wx => s = .bool false ∧ Below v.heap.size v wx)
          case first =>
            have d0 : Below v.heap.size v v.drew := (Below.refl _ _).drew
            have hba := d0
            go_region_held3 (fun w' => Below v.heap.size v w' ∧ w'.cell? ⟨gx, 0, none⟩ = some (.slice A q cA) ∧ w'.cell? ⟨gx, 1, none⟩ = some (.int .i64 root))
              (exact ⟨by assumption, XV.out _ (by assumption)⟩)
              (first
              | (go_at_call 13; (with_reducible refine (K1.out _ (by assumption)).mono ?_); rintro e wa ⟨rfl, hba⟩)
              | (go_at_call 14; (with_reducible refine (K2.out _ (by assumption)).mono ?_); rintro e wa ⟨rfl, hba⟩))
            all_goals (go_wp2_with fail; go_meet; exact ⟨rfl, hba⟩)
          case rest =>
            obtain ⟨rfl, hbc⟩ := hcut
            obtain ⟨xa, xb⟩ := XV.out _ hbc
            have HBC := Lib.hid hbc
            clear hbc
            go_wp2_with fail
            go_loopw [135] (fun i wr => ∃ j : Nat, j ≤ q ∧ i = .int .i64 (j : Int) ∧ Hid (Below v.heap.size v wr)) (fun i _ => q - (intOf i).toNat)
            case atStart => exact ⟨0, by omega, rfl, HBC.out⟩
            case round =>
              obtain ⟨j, hj, rfl, HBY⟩ := hrel
              by_cases hj2 : j < q
              · have hdj : decide (j < q) = true := by rw [decide_eq_true_iff]; exact hj2
                have hjl : j < l.length := by rw [← HNN.out]; exact hj2
                obtain ⟨bL, oL, rfl, hbL, hcL⟩ := RLV.out.i64 (by omega)
                have RS2 := RS.out
                rw [← HNN.out] at RS2
                obtain ⟨bS, oS, rfl, hbS, hcS⟩ := RS2.i64 (by omega)
                have hsl : sgL l j < q := by have := HI.out.lt j hjl; rw [← HNN.out] at this; exact this
                have hfl : sgL (phiL l) j < q := by have := (phi_inv HI.out HEV.out).lt j (by rw [phiL_len]; exact hjl); rw [phiL_len, ← HNN.out] at this; exact this
                have d1 := hcL j hj2
                have d2 := hcS j hj2
                have d3 := hcL _ hsl
                have d4 := hcL _ hfl
                rw [ofN_get] at d1 d2 d3 d4
                have hLj : sgL L j < l.length := HNM.out.lt hjl
                have K3 : Hid (∀ W, Below v.heap.size v W → Calls Try.prog 15 #[.pointer (some ⟨o, 0, none⟩), .int .i64 ((sgL L j : Nat) : Int)] W fun e w' => e = .returned (.int .i64 ((sgL L (sgL l j) : Nat) : Int)) ∧ Below v.heap.size v w') := fun W m => by
                  have h := sigma_in o _ _ _ 0 (sgL L j) W (MO.out.below m) (by rw [cjL_len]; exact hLj)
                  have e : (cjL L q2 l).getD (sgL L j) 0 = sgL L (sgL l j) := cj_at HNM.out hjl
                  rw [e] at h
                  exact h.mono fun e w' ⟨h1, h2⟩ => ⟨h1, m.trans (h2.mono m.size)⟩
                have K4 : Hid (∀ W, Below v.heap.size v W → Calls Try.prog 16 #[.pointer (some ⟨o, 0, none⟩), .int .i64 ((sgL L j : Nat) : Int)] W fun e w' => e = .returned (.int .i64 ((sgL L (sgL (phiL l) j) : Nat) : Int)) ∧ Below v.heap.size v w') := fun W m => by
                  have h := phi_in o _ _ _ 0 (sgL L j) W (MO.out.below m) (by rw [cjL_len]; exact hLj)
                  have e : (phiL (cjL L q2 l)).getD (sgL L j) 0 = sgL L (sgL (phiL l) j) := by
                    rw [cj_phi HNM.out]
                    exact cj_at (l := phiL l) (by rw [phiL_len]; exact HNM.out) (by rw [phiL_len]; exact hjl)
                  rw [e] at h
                  exact h.mono fun e w' ⟨h1, h2⟩ => ⟨h1, m.trans (h2.mono m.size)⟩
                have K5 : Hid (∀ W, Below v.heap.size v W → Calls Try.prog 16 #[.pointer (some ⟨g, 0, none⟩), .int .i64 (j : Int)] W fun e w' => e = .returned (.int .i64 ((sgL (phiL l) j : Nat) : Int)) ∧ Below v.heap.size v w') := fun W m => (phi_in g l b root 0 j W (MM.out.below m) hjl).mono fun e w' ⟨h1, h2⟩ => ⟨h1, m.trans (h2.mono m.size)⟩
                have HELD : Hid (∀ W, Below v.heap.size v W → W.cell? ⟨gx, 0, none⟩ = some (.slice (some ⟨bS, oS, none⟩) q cA) ∧ W.cell? ⟨bL, oL + j, none⟩ = some (.int .i64 ((sgL L j : Nat) : Int)) ∧ W.cell? ⟨bS, oS + j, none⟩ = some (.int .i64 ((sgL l j : Nat) : Int)) ∧ W.cell? ⟨bL, oL + sgL l j, none⟩ = some (.int .i64 ((sgL L (sgL l j) : Nat) : Int)) ∧ W.cell? ⟨bL, oL + sgL (phiL l) j, none⟩ = some (.int .i64 ((sgL L (sgL (phiL l) j) : Nat) : Int))) := fun W m =>
                  ⟨(XV.out W m).1, (m.cell (p := ⟨bL, oL + j, none⟩) hbL).trans d1, (m.cell (p := ⟨bS, oS + j, none⟩) hbS).trans d2, (m.cell (p := ⟨bL, oL + sgL l j, none⟩) hbL).trans d3, (m.cell (p := ⟨bL, oL + sgL (phiL l) j, none⟩) hbL).trans d4⟩
                have hcvI : (q : Int) ≤ (cv : Int) := by omega
                clear d1 d2 d3 d4 hcL hcS RS2 hbL hbS K1 K2 hLj hjl XV
                generalize sgL L (sgL l j) = y1 at *
                generalize sgL L (sgL (phiL l) j) = y2 at *
                generalize sgL (phiL l) j = s2 at *
                generalize sgL l j = s1 at *
                generalize sgL L j = y0 at *
                have z1 : (0 : Int) ≤ (s1 : Int) := by omega
                have z2 : (s1 : Int) < (q : Int) := by omega
                have z3 : (s2 : Int) < (q : Int) := by omega
                have z4 : (j : Int) < (q : Int) := by omega
                go_upto_region 27 with fail
                go_cut [167] from 138 to 168 (fun s wx => s = .bool false ∧ Below v.heap.size v wx)
                case first =>
                  have hba : Below v.heap.size v wr.drew := HBY.out.drew
                  go_region_held3 (fun w' => Below v.heap.size v w' ∧ w'.cell? ⟨gx, 0, none⟩ = some (.slice (some ⟨bS, oS, none⟩) q cA) ∧ w'.cell? ⟨bL, oL + j, none⟩ = some (.int .i64 (y0 : Int)) ∧ w'.cell? ⟨bS, oS + j, none⟩ = some (.int .i64 (s1 : Int)) ∧ w'.cell? ⟨bL, oL + s1, none⟩ = some (.int .i64 (y1 : Int)) ∧ w'.cell? ⟨bL, oL + s2, none⟩ = some (.int .i64 (y2 : Int)))
                    (exact ⟨by assumption, HELD.out _ (by assumption)⟩)
                    (first
                    | (go_at_call 15; (with_reducible refine (K3.out _ (by assumption)).mono ?_); rintro e wa ⟨rfl, hba⟩)
                    | (go_at_call 16; (with_reducible refine (K4.out _ (by assumption)).mono ?_); rintro e wa ⟨rfl, hba⟩)
                    | (go_at_call 16; (with_reducible refine (K5.out _ (by assumption)).mono ?_); rintro e wa ⟨rfl, hba⟩))
                  all_goals (go_wp2_with fail; go_meet; exact ⟨rfl, hba⟩)
                case rest =>
                  obtain ⟨rfl, hbd⟩ := hcut
                  have HBD := Lib.hid hbd
                  clear hbd
                  go_wp2_with fail
                  go_roundw
                  case rel => exact ⟨j + 1, by omega, by go_num, HBD.out⟩
                  case measure => simp [intOf]; omega
              · obtain rfl : j = q := by omega
                have hdj : decide (j < j) = false := by simp
                have IV := Lib.hid (inverse_p gp L q2 wr (PA.out.below HBY.out))
                clear K1 K2 XV RS RLV
                go_wp2_with fail
                refine IV.out.mono ?_
                rintro e t1 ⟨gi, rfl, hpi, z⟩
                have T1 := Lib.hid (HBY.out.trans (z.mono HBY.out.size))
                have HPI := Lib.hid hpi
                clear z hpi IV
                have HCI := Lib.hid (cj_inv HNM.out HI.out)
                have HCB := Lib.hid (cj_back HNM.out HI.out)
                have hcl : Hid ((cjL L q2 l).length = l.length) := cjL_len _ _ _
                have HQL : Hid (q2.length = l.length) := by show _ = _; rw [HIN.out.len, HLL.out]; exact HNN.out
                have HNS : Hid (Nam (cjL L q2 l).length q2 L) := by rw [hcl.out]; exact HNM.out.symm
                have RL := Lib.hid (relabel_p o gi (cjL L q2 l) (cjL L q2 b) q2 L r2 0 t1 (MO.out.below T1.out) HPI.out (by rw [HQL.out, hcl.out]) HCI.out HIN.out.symm (by rw [hcl.out]; exact HRO.out))
                go_wp2_with fail
                refine RL.out.mono ?_
                rintro e t2 hres
                obtain ⟨_, ⟨ob, rfl, hmb⟩, z⟩ | ⟨hnam, _⟩ := hres
                rotate_left
                exact absurd HNS.out hnam
                rw [HCB.out, HRR.out] at hmb
                have T2 := Lib.hid (T1.out.trans (z.mono T1.out.size))
                have MB := Lib.hid hmb
                clear z hmb RL
                have SM := Lib.hid (dsame_p ob g l _ l b root 0 root 0 t2 MB.out (MM.out.below T2.out))
                rw [decide_eq_true (show root = root ∧ (0 : Int) = 0 ∧ l = l from ⟨rfl, rfl, rfl⟩)] at SM
                have G1 : Hid (∀ W, Below v.heap.size v W → Calls Try.prog 19 #[.pointer (some ⟨o, 0, none⟩)] W fun e w' => e = .returned (.int .i64 (genusN l : Int)) ∧ Below W.heap.size W w') := fun W m => by
                  have := genus_p o (cjL L q2 l) _ r2 0 W (MO.out.below m)
                  rwa [cj_genus HNM.out HI.out] at this
                have G2 : Hid (∀ W, Below v.heap.size v W → Calls Try.prog 19 #[.pointer (some ⟨g, 0, none⟩)] W fun e w' => e = .returned (.int .i64 (genusN l : Int)) ∧ Below W.heap.size W w') := fun W m => genus_p g l b root 0 W (MM.out.below m)
                have D1 : Hid (∀ W, Below v.heap.size v W → Calls Try.prog 20 #[.pointer (some ⟨o, 0, none⟩)] W fun e w' => e = .returned (.int .i64 (dblN l (l.length / 2) : Int)) ∧ Below W.heap.size W w') := fun W m => by
                  have := doubles_p o (cjL L q2 l) _ r2 0 W (MO.out.below m)
                  rwa [cj_dbl HNM.out HI.out] at this
                have D2 : Hid (∀ W, Below v.heap.size v W → Calls Try.prog 20 #[.pointer (some ⟨g, 0, none⟩)] W fun e w' => e = .returned (.int .i64 (dblN l (l.length / 2) : Int)) ∧ Below W.heap.size W w') := fun W m => doubles_p g l b root 0 W (MM.out.below m)
                generalize genusN l = GG at *
                generalize dblN l (l.length / 2) = DD at *
                go_wp2_with fail
                refine SM.out.mono ?_
                rintro e t3 ⟨rfl, z⟩
                have T3 := T2.out.trans (z.mono T2.out.size)
                clear z
                go_wp2_with fail
                refine (G1.out _ T3).mono ?_
                rintro e t4 ⟨rfl, z⟩
                have T4 := T3.trans (z.mono T3.size)
                clear z
                go_wp2_with fail
                refine (G2.out _ T4).mono ?_
                rintro e t5 ⟨rfl, z⟩
                have T5 := T4.trans (z.mono T4.size)
                clear z
                go_wp2_with fail
                refine (D1.out _ T5).mono ?_
                rintro e t6 ⟨rfl, z⟩
                have T6 := T5.trans (z.mono T5.size)
                clear z
                go_wp2_with fail
                refine (D2.out _ T6).mono ?_
                rintro e t7 ⟨rfl, z⟩
                have T7 := T6.trans (z.mono T6.size)
                have FIN : Hid (Below w.heap.size w t7) := BV.out.trans (T7.mono BV.out.size)
                clear z T3 T4 T5 T6 T7
                go_wp2_with fail
                go_ret
                exact ⟨by first | rfl | simp, FIN.out⟩
          )
        focus (
          have hq2 : ¬ 2 < q := fun h => hT ⟨rfl, h⟩
          have hd2 : decide (2 < q) = false := decide_eq_false hq2
          have hq2i : ¬ (2 : Int) < (q : Int) := by omega
          have hd2i : decide ((2 : Int) < (q : Int)) = false := decide_eq_false hq2i
          have PO := Lib.hid (of_p Av q cv _ (ofN L) wr (Rd.ofOwn HO.out) (by omega))
          have RLW := Lib.hid (Rd.ofOwn HO.out)
          go_wp2_with fail
          refine PO.out.mono ?_
          rintro e u1 ⟨hres, z⟩
          obtain ⟨gp, l2, q2, he, rfl, hpa, _⟩ | ⟨hng, _⟩ := hres
          rotate_left
          exact absurd HGD.out hng
          obtain rfl := ofN_inj he
          have X1 := Z5.trans (z.mono Z5.size)
          have HPA := Lib.hid hpa
          have HIN := Lib.hid hpa.1
          have HNM : Hid (Nam l.length L q2) := HFL.out.nam hpa.1 (by rw [← HNN.out]; exact HQ2.out)
          clear z he hpa PO Z5
          have RL := Lib.hid (relabel_p g gp l b L q2 root 0 u1 (HM.out.below (B5K.out _ X1)) HPA.out (by rw [HLL.out]; exact HNN.out) HI.out HIN.out HRT.out)
          go_wp2_with fail
          refine RL.out.mono ?_
          rintro e u2 hres
          obtain ⟨_, ⟨o, rfl, hmo⟩, z⟩ | ⟨hnam, _⟩ := hres
          rotate_left
          exact absurd HNM.out hnam
          have X2 := X1.trans (z.mono X1.size)
          have HMO := Lib.hid hmo
          have HPA2 := Lib.hid (HPA.out.below z)
          clear z RL X1 hmo
          go_wp2_with fail
          refine (DP.out _ (B5K.out _ X2)).mono ?_
          rintro e u3 ⟨rfl, z⟩
          have X3 := (Below.refl u2.heap.size u2).trans (z.mono (Nat.le_refl _))
          clear z
          go_wp2_with fail
          refine (OP.out _).mono ?_
          rintro e u4 ⟨g1, rfl, hp1, z⟩
          have X4 := X3.trans (z.mono X3.size)
          have HP1 := Lib.hid hp1
          clear z X3 hp1
          go_wp2_with fail
          refine (R1.out _ _ HP1.out (B5K.out _ (X2.trans (X4.mono X2.size)))).mono ?_
          rintro e v ⟨rfl, z⟩
          have X5 := X4.trans (z.mono X4.size)
          have B9 : Hid (Below wr.heap.size wr v) := X2.trans (X5.mono X2.size)
          have B93 : Hid (Below w3.heap.size w3 v) := B5K.out _ B9.out
          have BV : Hid (Below w.heap.size w v) := B3.out.trans (B93.out.mono B3.out.size)
          have MO : Hid (MapAt v o (cjL L q2 l) (cjL L q2 b) (reRoot L root) 0) := HMO.out.below X5
          have MM : Hid (MapAt v g l b root 0) := HM.out.below B93.out
          have PA : Hid (PermAt v gp L q2) := HPA2.out.below X5
          have RLV := Lib.hid (RLW.out.more B9.out)
          have RS := Lib.hid (HR.out.more B93.out)
          have XV : Hid (∀ W, Below v.heap.size v W → W.cell? ⟨gx, 0, none⟩ = some (.slice A q cA) ∧ W.cell? ⟨gx, 1, none⟩ = some (.int .i64 root)) := fun W m => by rw [HNN.out]; exact XK.out W (B93.out.trans (m.mono B93.out.size))
          clear z X4 X5 X2 HMO HPA HPA2 HP1 R1 OP DP HM HR XK RLW HO HGD HB
          have K1 : Hid (∀ W, Below v.heap.size v W → Calls Try.prog 13 #[.pointer (some ⟨o, 0, none⟩)] W fun e w' => e = .returned (.int .i64 (reRoot L root)) ∧ Below v.heap.size v w') := fun W m => (root_p o _ _ _ 0 W (MO.out.below m)).mono fun e w' ⟨h1, h2⟩ => ⟨h1, h2 ▸ m⟩
          have K2 : Hid (∀ W, Below v.heap.size v W → Calls Try.prog 14 #[.pointer (some ⟨gp, 0, none⟩), .int .i64 root] W fun e w' => e = .returned (.int .i64 (reRoot L root)) ∧ Below v.heap.size v w') := fun W m => (at_root gp L q2 root W (PA.out.below m) (by rw [HLL.out, HNN.out]; exact HRT.out)).mono fun e w' ⟨h1, h2⟩ => ⟨h1, h2 ▸ m⟩
          have HRR := Lib.hid (reRoot_back HNM.out HRT.out)
          have HRO := Lib.hid (reRoot_ok HNM.out HRT.out)
          obtain ⟨r2, hr2⟩ : ∃ r2, r2 = reRoot L root := ⟨_, rfl⟩
          rw [← hr2] at K1 K2 MO HRR HRO
          clear hr2
          go_upto_region 22 with fail
          go_cut [131] from 121 to 132 (fun s wx => s = .bool false ∧ Below v.heap.size v wx)
          case first =>
            have d0 : Below v.heap.size v v.drew := (Below.refl _ _).drew
            have hba := d0
            go_region_held3 (fun w' => Below v.heap.size v w' ∧ w'.cell? ⟨gx, 0, none⟩ = some (.slice A q cA) ∧ w'.cell? ⟨gx, 1, none⟩ = some (.int .i64 root))
              (exact ⟨by assumption, XV.out _ (by assumption)⟩)
              (first
              | (go_at_call 13; (with_reducible refine (K1.out _ (by assumption)).mono ?_); rintro e wa ⟨rfl, hba⟩)
              | (go_at_call 14; (with_reducible refine (K2.out _ (by assumption)).mono ?_); rintro e wa ⟨rfl, hba⟩))
            all_goals (go_wp2_with fail; go_meet; exact ⟨rfl, hba⟩)
          case rest =>
            obtain ⟨rfl, hbc⟩ := hcut
            obtain ⟨xa, xb⟩ := XV.out _ hbc
            have HBC := Lib.hid hbc
            clear hbc
            go_wp2_with fail
            go_loopw [135] (fun i wr => ∃ j : Nat, j ≤ q ∧ i = .int .i64 (j : Int) ∧ Hid (Below v.heap.size v wr)) (fun i _ => q - (intOf i).toNat)
            case atStart => exact ⟨0, by omega, rfl, HBC.out⟩
            case round =>
              obtain ⟨j, hj, rfl, HBY⟩ := hrel
              by_cases hj2 : j < q
              · have hdj : decide (j < q) = true := by rw [decide_eq_true_iff]; exact hj2
                have hjl : j < l.length := by rw [← HNN.out]; exact hj2
                obtain ⟨bL, oL, rfl, hbL, hcL⟩ := RLV.out.i64 (by omega)
                have RS2 := RS.out
                rw [← HNN.out] at RS2
                obtain ⟨bS, oS, rfl, hbS, hcS⟩ := RS2.i64 (by omega)
                have hsl : sgL l j < q := by have := HI.out.lt j hjl; rw [← HNN.out] at this; exact this
                have hfl : sgL (phiL l) j < q := by have := (phi_inv HI.out HEV.out).lt j (by rw [phiL_len]; exact hjl); rw [phiL_len, ← HNN.out] at this; exact this
                have d1 := hcL j hj2
                have d2 := hcS j hj2
                have d3 := hcL _ hsl
                have d4 := hcL _ hfl
                rw [ofN_get] at d1 d2 d3 d4
                have hLj : sgL L j < l.length := HNM.out.lt hjl
                have K3 : Hid (∀ W, Below v.heap.size v W → Calls Try.prog 15 #[.pointer (some ⟨o, 0, none⟩), .int .i64 ((sgL L j : Nat) : Int)] W fun e w' => e = .returned (.int .i64 ((sgL L (sgL l j) : Nat) : Int)) ∧ Below v.heap.size v w') := fun W m => by
                  have h := sigma_in o _ _ _ 0 (sgL L j) W (MO.out.below m) (by rw [cjL_len]; exact hLj)
                  have e : (cjL L q2 l).getD (sgL L j) 0 = sgL L (sgL l j) := cj_at HNM.out hjl
                  rw [e] at h
                  exact h.mono fun e w' ⟨h1, h2⟩ => ⟨h1, m.trans (h2.mono m.size)⟩
                have K4 : Hid (∀ W, Below v.heap.size v W → Calls Try.prog 16 #[.pointer (some ⟨o, 0, none⟩), .int .i64 ((sgL L j : Nat) : Int)] W fun e w' => e = .returned (.int .i64 ((sgL L (sgL (phiL l) j) : Nat) : Int)) ∧ Below v.heap.size v w') := fun W m => by
                  have h := phi_in o _ _ _ 0 (sgL L j) W (MO.out.below m) (by rw [cjL_len]; exact hLj)
                  have e : (phiL (cjL L q2 l)).getD (sgL L j) 0 = sgL L (sgL (phiL l) j) := by
                    rw [cj_phi HNM.out]
                    exact cj_at (l := phiL l) (by rw [phiL_len]; exact HNM.out) (by rw [phiL_len]; exact hjl)
                  rw [e] at h
                  exact h.mono fun e w' ⟨h1, h2⟩ => ⟨h1, m.trans (h2.mono m.size)⟩
                have K5 : Hid (∀ W, Below v.heap.size v W → Calls Try.prog 16 #[.pointer (some ⟨g, 0, none⟩), .int .i64 (j : Int)] W fun e w' => e = .returned (.int .i64 ((sgL (phiL l) j : Nat) : Int)) ∧ Below v.heap.size v w') := fun W m => (phi_in g l b root 0 j W (MM.out.below m) hjl).mono fun e w' ⟨h1, h2⟩ => ⟨h1, m.trans (h2.mono m.size)⟩
                have HELD : Hid (∀ W, Below v.heap.size v W → W.cell? ⟨gx, 0, none⟩ = some (.slice (some ⟨bS, oS, none⟩) q cA) ∧ W.cell? ⟨bL, oL + j, none⟩ = some (.int .i64 ((sgL L j : Nat) : Int)) ∧ W.cell? ⟨bS, oS + j, none⟩ = some (.int .i64 ((sgL l j : Nat) : Int)) ∧ W.cell? ⟨bL, oL + sgL l j, none⟩ = some (.int .i64 ((sgL L (sgL l j) : Nat) : Int)) ∧ W.cell? ⟨bL, oL + sgL (phiL l) j, none⟩ = some (.int .i64 ((sgL L (sgL (phiL l) j) : Nat) : Int))) := fun W m =>
                  ⟨(XV.out W m).1, (m.cell (p := ⟨bL, oL + j, none⟩) hbL).trans d1, (m.cell (p := ⟨bS, oS + j, none⟩) hbS).trans d2, (m.cell (p := ⟨bL, oL + sgL l j, none⟩) hbL).trans d3, (m.cell (p := ⟨bL, oL + sgL (phiL l) j, none⟩) hbL).trans d4⟩
                have hcvI : (q : Int) ≤ (cv : Int) := by omega
                clear d1 d2 d3 d4 hcL hcS RS2 hbL hbS K1 K2 hLj hjl XV
                generalize sgL L (sgL l j) = y1 at *
                generalize sgL L (sgL (phiL l) j) = y2 at *
                generalize sgL (phiL l) j = s2 at *
                generalize sgL l j = s1 at *
                generalize sgL L j = y0 at *
                have z1 : (0 : Int) ≤ (s1 : Int) := by omega
                have z2 : (s1 : Int) < (q : Int) := by omega
                have z3 : (s2 : Int) < (q : Int) := by omega
                have z4 : (j : Int) < (q : Int) := by omega
                go_upto_region 27 with fail
                go_cut [167] from 138 to 168 (fun s wx => s = .bool false ∧ Below v.heap.size v wx)
                case first =>
                  have hba : Below v.heap.size v wr.drew := HBY.out.drew
                  go_region_held3 (fun w' => Below v.heap.size v w' ∧ w'.cell? ⟨gx, 0, none⟩ = some (.slice (some ⟨bS, oS, none⟩) q cA) ∧ w'.cell? ⟨bL, oL + j, none⟩ = some (.int .i64 (y0 : Int)) ∧ w'.cell? ⟨bS, oS + j, none⟩ = some (.int .i64 (s1 : Int)) ∧ w'.cell? ⟨bL, oL + s1, none⟩ = some (.int .i64 (y1 : Int)) ∧ w'.cell? ⟨bL, oL + s2, none⟩ = some (.int .i64 (y2 : Int)))
                    (exact ⟨by assumption, HELD.out _ (by assumption)⟩)
                    (first
                    | (go_at_call 15; (with_reducible refine (K3.out _ (by assumption)).mono ?_); rintro e wa ⟨rfl, hba⟩)
                    | (go_at_call 16; (with_reducible refine (K4.out _ (by assumption)).mono ?_); rintro e wa ⟨rfl, hba⟩)
                    | (go_at_call 16; (with_reducible refine (K5.out _ (by assumption)).mono ?_); rintro e wa ⟨rfl, hba⟩))
                  all_goals (go_wp2_with fail; go_meet; exact ⟨rfl, hba⟩)
                case rest =>
                  obtain ⟨rfl, hbd⟩ := hcut
                  have HBD := Lib.hid hbd
                  clear hbd
                  go_wp2_with fail
                  go_roundw
                  case rel => exact ⟨j + 1, by omega, by go_num, HBD.out⟩
                  case measure => simp [intOf]; omega
              · obtain rfl : j = q := by omega
                have hdj : decide (j < j) = false := by simp
                have IV := Lib.hid (inverse_p gp L q2 wr (PA.out.below HBY.out))
                clear K1 K2 XV RS RLV
                go_wp2_with fail
                refine IV.out.mono ?_
                rintro e t1 ⟨gi, rfl, hpi, z⟩
                have T1 := Lib.hid (HBY.out.trans (z.mono HBY.out.size))
                have HPI := Lib.hid hpi
                clear z hpi IV
                have HCI := Lib.hid (cj_inv HNM.out HI.out)
                have HCB := Lib.hid (cj_back HNM.out HI.out)
                have hcl : Hid ((cjL L q2 l).length = l.length) := cjL_len _ _ _
                have HQL : Hid (q2.length = l.length) := by show _ = _; rw [HIN.out.len, HLL.out]; exact HNN.out
                have HNS : Hid (Nam (cjL L q2 l).length q2 L) := by rw [hcl.out]; exact HNM.out.symm
                have RL := Lib.hid (relabel_p o gi (cjL L q2 l) (cjL L q2 b) q2 L r2 0 t1 (MO.out.below T1.out) HPI.out (by rw [HQL.out, hcl.out]) HCI.out HIN.out.symm (by rw [hcl.out]; exact HRO.out))
                go_wp2_with fail
                refine RL.out.mono ?_
                rintro e t2 hres
                obtain ⟨_, ⟨ob, rfl, hmb⟩, z⟩ | ⟨hnam, _⟩ := hres
                rotate_left
                exact absurd HNS.out hnam
                rw [HCB.out, HRR.out] at hmb
                have T2 := Lib.hid (T1.out.trans (z.mono T1.out.size))
                have MB := Lib.hid hmb
                clear z hmb RL
                have SM := Lib.hid (dsame_p ob g l _ l b root 0 root 0 t2 MB.out (MM.out.below T2.out))
                rw [decide_eq_true (show root = root ∧ (0 : Int) = 0 ∧ l = l from ⟨rfl, rfl, rfl⟩)] at SM
                have G1 : Hid (∀ W, Below v.heap.size v W → Calls Try.prog 19 #[.pointer (some ⟨o, 0, none⟩)] W fun e w' => e = .returned (.int .i64 (genusN l : Int)) ∧ Below W.heap.size W w') := fun W m => by
                  have := genus_p o (cjL L q2 l) _ r2 0 W (MO.out.below m)
                  rwa [cj_genus HNM.out HI.out] at this
                have G2 : Hid (∀ W, Below v.heap.size v W → Calls Try.prog 19 #[.pointer (some ⟨g, 0, none⟩)] W fun e w' => e = .returned (.int .i64 (genusN l : Int)) ∧ Below W.heap.size W w') := fun W m => genus_p g l b root 0 W (MM.out.below m)
                have D1 : Hid (∀ W, Below v.heap.size v W → Calls Try.prog 20 #[.pointer (some ⟨o, 0, none⟩)] W fun e w' => e = .returned (.int .i64 (dblN l (l.length / 2) : Int)) ∧ Below W.heap.size W w') := fun W m => by
                  have := doubles_p o (cjL L q2 l) _ r2 0 W (MO.out.below m)
                  rwa [cj_dbl HNM.out HI.out] at this
                have D2 : Hid (∀ W, Below v.heap.size v W → Calls Try.prog 20 #[.pointer (some ⟨g, 0, none⟩)] W fun e w' => e = .returned (.int .i64 (dblN l (l.length / 2) : Int)) ∧ Below W.heap.size W w') := fun W m => doubles_p g l b root 0 W (MM.out.below m)
                generalize genusN l = GG at *
                generalize dblN l (l.length / 2) = DD at *
                go_wp2_with fail
                refine SM.out.mono ?_
                rintro e t3 ⟨rfl, z⟩
                have T3 := T2.out.trans (z.mono T2.out.size)
                clear z
                go_wp2_with fail
                refine (G1.out _ T3).mono ?_
                rintro e t4 ⟨rfl, z⟩
                have T4 := T3.trans (z.mono T3.size)
                clear z
                go_wp2_with fail
                refine (G2.out _ T4).mono ?_
                rintro e t5 ⟨rfl, z⟩
                have T5 := T4.trans (z.mono T4.size)
                clear z
                go_wp2_with fail
                refine (D1.out _ T5).mono ?_
                rintro e t6 ⟨rfl, z⟩
                have T6 := T5.trans (z.mono T5.size)
                clear z
                go_wp2_with fail
                refine (D2.out _ T6).mono ?_
                rintro e t7 ⟨rfl, z⟩
                have T7 := T6.trans (z.mono T6.size)
                have FIN : Hid (Below w.heap.size w t7) := BV.out.trans (T7.mono BV.out.size)
                clear z T3 T4 T5 T6 T7
                go_wp2_with fail
                go_ret
                exact ⟨by first | rfl | simp, FIN.out⟩
          )
end Go.Proofs.Ytdbcehenkokpdaa
