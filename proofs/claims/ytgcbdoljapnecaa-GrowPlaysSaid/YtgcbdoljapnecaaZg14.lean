/- The document's plane maps of numbers. The law's map of numbers: kind 0. The law's map of numbers: kind 1. The triangle that the document's triangulations of numbers begin with. The document's pick: the next of some numbers. -/
import Derived.Test.YtgcbdoljapnecaaZg13
import Derived.Test.YtgcbdoljapnecaaZMAny
import Derived.Test.YtgcbdoljapnecaaZg4
import Derived.Test.YtgcbdoljapnecaaZg10
import Derived.Test.YtgcbdoljapnecaaZg2
import Derived.BigQuiet
namespace Go.Proofs.Ytgcbdoljapnecaa
set_option maxRecDepth 100000
open Go.RowKit
set_option linter.unusedVariables false
theorem nil_invP : Inv [] [] := ⟨rfl, fun _ h => absurd h (by simp), fun _ h => absurd h (by simp), fun _ h => absurd h (by simp), fun _ h => absurd h (by simp)⟩
theorem inLo_none (lo : Nat) : inLo lo none := fun a e => nomatch e
theorem rdecode_nil (A : Option Addr) (c : Nat) (w : World) :
    Calls Try.prog 57 #[.slice A 0 c] w fun e w' => e = .returned (.agg #[.slice none 0 0, .int .i64 (-1), .int .i64 1]) ∧ Below w.heap.size w w' := by
  have k1 := Lib.hid (Blk.new w 27 #[.slice none 0 0, .int .i64 (-1), .int .i64 1])
  have HINF := Lib.hid info_rmap
  have HB := Lib.hid ((Below.refl w.heap.size w).alloc (Nat.le_refl _) (.cells #[.slice none 0 0, .int .i64 (-1), .int .i64 1] 27))
  go_enter Try.func57, Try.ntmps57
  go_wp2_with fail
  refine bodyPost_ret (v := .agg #[.slice none 0 0, .int .i64 (-1), .int .i64 1]) ?_ rfl ?_
  · exact results_cell_row rfl _ _ w.heap.size 27 _ (0, 0) _ rfl k1.out Try.underlying27 rfl HINF.out
  · exact ⟨rfl, HB.out⟩
def KPl (P : Nat) (l b : List Nat) (lone : Nat) : Prop := l.length = 2 * P ∧ lone = if P = 0 then 1 else 0
theorem z8_u8 {by_ : List Int} (hb : ∀ x ∈ by_, 0 ≤ x ∧ x < 256) : Z8 by_ = U8 (by_.map Int.toNat) ∧ ∀ b ∈ by_.map Int.toNat, b < 256 := by
  refine ⟨?_, fun b h => ?_⟩
  · unfold Z8 U8
    rw [List.map_map]
    refine List.map_congr_left fun x hx => ?_
    have := (hb x hx).1
    simp only [Function.comp]
    rw [Int.toNat_of_nonneg this]
  · obtain ⟨x, hx, rfl⟩ := List.mem_map.1 h
    have := hb x hx
    omega
set_option maxHeartbeats 8000000 in
theorem rplane_x (A : Option Addr) (m c B : Nat) (by_ : List Int) (P : Nat) (rt : Nat) (w : World)
    (h : Rd w B A m (Z8 by_)) (hB : B ≤ w.heap.size) (hb : ∀ x ∈ by_, 0 ≤ x ∧ x < 256) (hP : P ≤ 100) (hm : m ≤ 9223372036854775807) (hr1 : rt < 256) :
    Calls Try.prog 24 #[.int .i64 (P : Int), .slice A m c, .int .u8 (rt : Int)] w (XIs (KPl P) w) := by
  obtain ⟨hz8, hb8⟩ := z8_u8 hb
  rw [hz8] at h
  have hal := (Below.refl w.heap.size w).alloc (Nat.le_refl _) (.cells #[.slice none 0 0, .int .i64 0, .int .i64 0] 27)
  have AN := Lib.hid (any4_p A m c P _ (w.alloc (.cells #[.slice none 0 0, .int .i64 0, .int .i64 0] 27)) ((h.up hB).more hal) hb8 hm (by omega))
  have HX0 := Lib.hid (Blk.new w 27 #[.slice none 0 0, .int .i64 0, .int .i64 0])
  have HZ0 := Lib.hid hal
  have HINF := Lib.hid info_rmap
  clear h hal hz8 hb8 hb
  go_enter Try.func24, Try.ntmps24
  go_wp2_with fail
  refine AN.out.mono ?_
  generalize w.alloc (.cells #[.slice none 0 0, .int .i64 0, .int .i64 0] 27) = w1 at *
  rintro e w2 ⟨ks, A1, c1, hs, rfl, hc1, hm1, hown, b2⟩
  have HX2 := Lib.hid (HX0.out.below b2)
  have HZ2 := Lib.hid (HZ0.out.trans (b2.mono HZ0.out.size))
  rcases Nat.eq_zero_or_pos P with h0 | h0
  · subst h0
    have DN := Lib.hid (rdecode_nil A1 c1 w2)
    clear hown b2 hs AN HX0 HZ0 hc1 hm1
    go_wp2_with fail
    refine DN.out.mono ?_
    rintro e w3 ⟨rfl, b3⟩
    have HX3 := Lib.hid (HX2.out.below b3)
    have HZ3 := Lib.hid (HZ2.out.trans (b3.mono HZ2.out.size))
    have HB7 := Lib.hid (Blk.new w3 27 #[.slice none 0 0, .int .i64 (-1), .int .i64 1])
    have hal3 := (Below.refl w3.heap.size w3).alloc (Nat.le_refl _) (.cells #[.slice none 0 0, .int .i64 (-1), .int .i64 1] 27)
    have HX4 := Lib.hid (HX3.out.below hal3)
    have HZ4 := Lib.hid (HZ3.out.trans (hal3.mono HZ3.out.size))
    clear hal3 b3 DN HX2 HZ2 HX3 HZ3
    go_upto_region 2 with fail
    generalize hw4 : w3.alloc (.cells #[.slice none 0 0, .int .i64 (-1), .int .i64 1] 27) = w4 at *
    have x0 := HB7.out.cell 0
    have x1 := HB7.out.cell 1
    have x2 := HB7.out.cell 2
    have q0 := HX4.out.cell 0
    have q1 := HX4.out.cell 1
    have q2 := HX4.out.cell 2
    have f0 := HX4.out.frozen 0
    have f1 := HX4.out.frozen 1
    have f2 := HX4.out.frozen 2
    simp at x0 x1 x2 q0 q1 q2
    clear hw4
    go_wp2_with fail
    obtain ⟨k1, k2, k3⟩ := box_ret (w := w) (g := w.heap.size) (RT := -1) (LF := 1) (A := none) (N := 0) (cS := 0) (base := 0) (xs := []) (Nat.le_refl _) HZ4.out HX4.out (World.ownsRow_nil _ _ _ _)
    refine bodyPost_ret (v := .agg #[.slice none 0 0, .int .i64 (-1), .int .i64 1]) ?_ rfl ?_
    · exact results_cell_row rfl _ _ w.heap.size 27 _ (0, 0) _ rfl k1 Try.underlying27 rfl HINF.out
    · exact ⟨_, [], [], -1, 1, rfl, ⟨nil_invP, none, 0, inLo_none _, rfl, Nat.le_refl _, by simp [maxLen], Rd.ofOwn k2⟩, by simp, by simp, .inl ⟨rfl, rfl⟩, by omega, ⟨rfl, rfl⟩, k3⟩
  · obtain ⟨N, hN⟩ : ∃ N, N = 2 * P := ⟨_, rfl⟩
    rw [← hN] at hs hown hc1
    have DP := Lib.hid (rdecode_p A1 N c1 ks w2 (Rd.ofOwn hown) hs.kd (by omega) (by omega) hs.bal.1 hs.bal.2)
    have HN := Lib.hid hN
    rw [← hN]
    clear hown b2 hs AN HX0 HZ0 hc1 hm1 hN
    go_wp2_with fail
    refine DP.out.mono ?_
    rintro e w3 ⟨l, b, hi, hl, A3, c3, rfl, hc3, hm3, hown3, b3⟩
    rw [hl] at hc3 hown3 ⊢
    obtain ⟨r, hr⟩ : ∃ r, r = rt % N := ⟨_, rfl⟩
    have hN0 : 0 < N := by have := HN.out; omega
    have hNb : N ≤ 200 := by have := HN.out; omega
    have hrN : r < N := by rw [hr]; exact Nat.mod_lt _ hN0
    have h1t : (rt : Int).tmod (N : Int) = (r : Int) := by rw [Int.tmod_eq_emod_of_nonneg (by omega), hr]; rfl
    have h1 : (rt : Int) % (N : Int) = (r : Int) := by rw [hr]; rfl
    have hm0 : ¬ (N : Int) = 0 := by omega
    have hm0n : ¬ N = 0 := by omega
    have hmb : ((N : Int) == 0) = false := by simp; omega
    have hmb2 : decide (N = 0) = false := decide_eq_false hm0n
    have hpI : (0 : Int) < (N : Int) := by omega
    have hpd : decide (0 < N) = true := decide_eq_true hN0
    have wd : IntKind.i64.wrap (r : Int) = (r : Int) := by simp [IntKind.wrap, IntKind.signed, IntKind.bits]; omega
    have wt : IntKind.i64.wrap (rt : Int) = (rt : Int) := by simp [IntKind.wrap, IntKind.signed, IntKind.bits]; omega
    have HX3 := Lib.hid (HX2.out.below b3)
    have HZ3 := Lib.hid (HZ2.out.trans (b3.mono HZ2.out.size))
    have HB7 := Lib.hid (Blk.new w3 27 #[.slice A3 N c3, .int .i64 0, .int .i64 0])
    have hal3 := (Below.refl w3.heap.size w3).alloc (Nat.le_refl _) (.cells #[.slice A3 N c3, .int .i64 0, .int .i64 0] 27)
    have HX4 := Lib.hid (HX3.out.below hal3)
    have HZ4 := Lib.hid (HZ3.out.trans (hal3.mono HZ3.out.size))
    have hw2s : w.heap.size < w2.heap.size := HX2.out.lt
    have HO4 := Lib.hid ((own_below hown3 hal3).base_le' (base' := w.heap.size + 1) (by omega))
    have HI := Lib.hid (And.intro hi (And.intro hl (And.intro hc3 hm3)))
    obtain ⟨g7, hg7⟩ : ∃ g7, g7 = w3.heap.size := ⟨_, rfl⟩
    have hgl : w.heap.size < g7 := by have := HX3.out.lt; omega
    rw [← hg7] at HB7
    clear hal3 b3 DP HX2 HZ2 HX3 HZ3 hi hl hc3 hm3 hown3 hr
    go_upto_region 2 with fail
    rw [← hg7]
    generalize w3.alloc (.cells #[.slice A3 N c3, .int .i64 0, .int .i64 0] 27) = w4 at *
    clear hg7
    have x0 := HB7.out.cell 0
    have x1 := HB7.out.cell 1
    have x2 := HB7.out.cell 2
    have f0 := HB7.out.frozen 0
    have f1 := HB7.out.frozen 1
    have f2 := HB7.out.frozen 2
    simp at x0 x1 x2
    have MS : Mod (fun i => i = g7) w4 (w4.setCell ⟨g7, 1, none⟩ (.int .i64 (r : Int))) := Mod.setCell (p := ⟨g7, 1, none⟩) (Mod.refl (fun i => i = g7) w4) (fun _ => rfl) _
    have B5 : Hid (Blk (w4.setCell ⟨g7, 1, none⟩ (.int .i64 (r : Int))) g7 27 #[.slice A3 N c3, .int .i64 (r : Int), .int .i64 0]) := by
      show Blk _ _ _ _
      have := HB7.out.set_ 1 (.int .i64 (r : Int)); simpa using this
    have X5 := Lib.hid (HX4.out.mod MS (by omega))
    have O5 := Lib.hid (own_mod HO4.out MS (fun i hi hj => own_ne HO4.out HB7.out (by decide) (by rw [hi, hj])))
    have Z5 : Hid (Below w.heap.size w (w4.setCell ⟨g7, 1, none⟩ (.int .i64 (r : Int)))) := HZ4.out.trans (MS.belowB HZ4.out.size fun i hi hj => by omega)
    clear MS HX4 HO4 HZ4
    go_upto_region 4 with fail
    generalize w4.setCell ⟨g7, 1, none⟩ (.int .i64 (r : Int)) = wy at *
    clear x0 x1 x2 f0 f1 f2
    have x0 := B5.out.cell 0
    have x1 := B5.out.cell 1
    have x2 := B5.out.cell 2
    have q0 := X5.out.cell 0
    have q1 := X5.out.cell 1
    have q2 := X5.out.cell 2
    have f0 := X5.out.frozen 0
    have f1 := X5.out.frozen 1
    have f2 := X5.out.frozen 2
    simp at x0 x1 x2 q0 q1 q2
    go_wp2_with fail
    obtain ⟨k1, k2, k3⟩ := box_ret (w := w) (g := w.heap.size) (RT := (r : Int)) (LF := 0) (Nat.le_refl _) Z5.out X5.out O5.out
    refine bodyPost_ret (v := .agg #[.slice A3 N c3, .int .i64 (r : Int), .int .i64 0]) ?_ rfl ?_
    · exact results_cell_row rfl _ _ w.heap.size 27 _ (0, 0) _ rfl k1 Try.underlying27 rfl HINF.out
    · obtain ⟨i1, i2, i3, i4⟩ := HI.out
      refine ⟨_, l, b, (r : Int), 0, rfl, ⟨i1, A3, c3, (own_inLo k2).le (by omega), by rw [i2]; rfl, by rw [i2]; exact i3, i4, by rw [i2]; exact Rd.ofOwn k2⟩, by omega, by rw [i2, HN.out]; omega, ?_, by omega, ⟨by rw [i2, HN.out], by rw [if_neg (by omega)]⟩, k3⟩
      rw [i2]
      exact .inr ⟨by omega, by omega, by omega⟩
end Go.Proofs.Ytgcbdoljapnecaa
namespace Go.Proofs.Ytgcbdoljapnecaa
set_option maxRecDepth 100000
open Go.RowKit
set_option linter.unusedVariables false
set_option maxHeartbeats 4000000 in
theorem made23_0 (kd n r m c B : Nat) (A : Option Addr) (by_ : List Int) (w : World) (h : Rd w B A m (Z8 by_)) (hb : ∀ x ∈ by_, 0 ≤ x ∧ x < 256) (hB : B ≤ w.heap.size) (hkd : kd % 3 = 0) (hn : n < 256) (hr : r < 256) (hm : m ≤ 9223372036854775807) :
    Calls Try.prog 6 #[.int .u8 (kd : Int), .int .u8 (n : Int), .slice A m c, .int .u8 (r : Int)] w (MadeIs (KPl (n % 12)) w) := by
  have hb0 := ((Below.refl w.heap.size w).alloc (Nat.le_refl _) (.cells #[.slice none 0 0, .int .i64 0, .int .i64 0] 27)).alloc (by simp) (.cells #[.slice none 0 0, .int .i64 0, .int .i64 0] 27)
  have hR0 := (Blk.new w 27 #[.slice none 0 0, .int .i64 0, .int .i64 0]).alloc (.cells #[.slice none 0 0, .int .i64 0, .int .i64 0] 27)
  have hX0 := (Blk.new (w.alloc (.cells #[.slice none 0 0, .int .i64 0, .int .i64 0] 27)) 27 #[.slice none 0 0, .int .i64 0, .int .i64 0])
  rw [show (w.alloc (.cells #[.slice none 0 0, .int .i64 0, .int .i64 0] 27)).heap.size = w.heap.size + 1 by simp] at hX0
  obtain ⟨k, hk, hk9⟩ : ∃ k, Hid (k = n % 12) ∧ k < 12 := ⟨_, rfl, Nat.mod_lt _ (by decide)⟩
  have e1 : (n : Int) % 12 = (k : Int) := by have := hk.out; omega
  have e2 : (kd : Int) % 3 = 0 := by omega
  have HBX := Nat.le_trans hB hb0.size
  have AN := Lib.hid (rplane_x A m c B by_ (n % 12) r _ (h.below (hb0.mono hB)) HBX hb (by have := hk.out; omega) hm hr)
  rw [← hk.out] at AN ⊢
  have HINF := Lib.hid info_rmap
  have HR0 := Lib.hid hR0
  have HX0 := Lib.hid hX0
  have HB0 := Lib.hid hb0
  have HW : Hid (((w.alloc (.cells #[.slice none 0 0, .int .i64 0, .int .i64 0] 27)).alloc (.cells #[.slice none 0 0, .int .i64 0, .int .i64 0] 27)).heap.size = w.heap.size + 2) := by show _ = _; simp
  clear h hb hb0 hR0 hX0 hkd HBX
  go_enter Try.func6, Try.ntmps6
  go_wp2_with fail
  refine AN.out.mono ?_
  generalize (w.alloc (.cells #[.slice none 0 0, .int .i64 0, .int .i64 0] 27)).alloc (.cells #[.slice none 0 0, .int .i64 0, .int .i64 0] 27) = w1 at *
  rintro e w2 ⟨v, l, b, root, lone, rfl, hrm, hl, hev, hroot, hlo, hK, b2⟩
  obtain ⟨hinv, A2, c2, hla, rfl, hc2, hm2, r2⟩ := hrm
  have hX := HX0.out.below b2
  have hR := HR0.out.below b2
  have B2 := HB0.out.trans (b2.mono HB0.out.size)
  have M3 := box_mod w2 (w.heap.size + 1) (.slice A2 l.length c2) (.int .i64 root) (.int .i64 (lone : Int))
  have x0 := hX.cell 0
  have x1 := hX.cell 1
  have x2 := hX.cell 2
  have f0 := hX.frozen 0
  have f1 := hX.frozen 1
  have f2 := hX.frozen 2
  simp at x0 x1 x2
  have HX3 : Hid (Blk (((w2.setCell ⟨w.heap.size + 1, 0, none⟩ (.slice A2 l.length c2)).setCell ⟨w.heap.size + 1, 1, none⟩ (.int .i64 root)).setCell ⟨w.heap.size + 1, 2, none⟩ (.int .i64 (lone : Int))) (w.heap.size + 1) 27 #[.slice A2 l.length c2, .int .i64 root, .int .i64 (lone : Int)]) := by
    show Blk _ _ _ _
    have := ((hX.set_ 0 (.slice A2 l.length c2)).set_ 1 (.int .i64 root)).set_ 2 (.int .i64 (lone : Int))
    simpa using this
  have HR3 := Lib.hid (hR.mod M3 (by omega))
  have HB3 : Hid (Below w.heap.size w (((w2.setCell ⟨w.heap.size + 1, 0, none⟩ (.slice A2 l.length c2)).setCell ⟨w.heap.size + 1, 1, none⟩ (.int .i64 root)).setCell ⟨w.heap.size + 1, 2, none⟩ (.int .i64 (lone : Int)))) := B2.trans (M3.belowB B2.size fun i hi hj => by omega)
  have HRD : Hid (Rd (((w2.setCell ⟨w.heap.size + 1, 0, none⟩ (.slice A2 l.length c2)).setCell ⟨w.heap.size + 1, 1, none⟩ (.int .i64 root)).setCell ⟨w.heap.size + 1, 2, none⟩ (.int .i64 (lone : Int))) (((w2.setCell ⟨w.heap.size + 1, 0, none⟩ (.slice A2 l.length c2)).setCell ⟨w.heap.size + 1, 1, none⟩ (.int .i64 root)).setCell ⟨w.heap.size + 1, 2, none⟩ (.int .i64 (lone : Int))).heap.size A2 l.length (I64 (ofN l))) :=
    (r2.mod M3 (Nat.le_refl _) (fun h0 i hi hf => by
      obtain ⟨a, e, rfl⟩ := hi
      have := hla a e
      have := HW.out
      omega)).up M3.size
  have HI := Lib.hid hinv
  have HL := Lib.hid (And.intro hl hev)
  have HRT := Lib.hid hroot
  have HC := Lib.hid (And.intro hc2 hm2)
  have HLA : Hid (inLo (w.heap.size + 1) A2) := hla.le (by rw [HW.out]; omega)
  have HK := Lib.hid hK
  clear hinv hl hev hroot b2 r2 hR hX AN hc2 hm2 hla hK B2 M3 HX0 HR0 HB0
  go_upto_region 8 with fail
  generalize ((w2.setCell ⟨w.heap.size + 1, 0, none⟩ (.slice A2 l.length c2)).setCell ⟨w.heap.size + 1, 1, none⟩ (.int .i64 root)).setCell ⟨w.heap.size + 1, 2, none⟩ (.int .i64 (lone : Int)) = w3 at *
  clear x0 x1 x2 f0 f1 f2
  have x0 := HX3.out.cell 0
  have x1 := HX3.out.cell 1
  have x2 := HX3.out.cell 2
  simp at x0 x1 x2
  have NO := Lib.hid (new_ok A2 l.length c2 l b root (lone : Int) _ HRD.out HI.out HL.out.2 (by have := HL.out.1; omega) HRT.out (by omega) (by omega))
  go_wp2_with fail
  refine NO.out.mono ?_
  rintro e w4 ⟨g, rfl, hmap, b4, hmlo⟩
  have hX4 := HX3.out.below b4
  have hR4 := HR3.out.below b4
  clear x0 x1 x2
  have x0 := hX4.cell 0
  have x1 := hX4.cell 1
  have x2 := hX4.cell 2
  have r0 := hR4.cell 0
  have r1 := hR4.cell 1
  have r2 := hR4.cell 2
  have f0 := hR4.frozen 0
  have f1 := hR4.frozen 1
  have f2 := hR4.frozen 2
  simp at x0 x1 x2 r0 r1 r2
  have HM := Lib.hid hmap
  have HML := Lib.hid hmlo
  have HR4 := Lib.hid hR4
  have R4 := Lib.hid (HRD.out.more b4)
  have B4 : Hid (Below w.heap.size w w4) := HB3.out.trans (b4.mono HB3.out.size)
  have hs3 : w.heap.size + 1 < w3.heap.size := HX3.out.lt
  clear hmap hmlo hX4 hR4 b4 NO HX3 HR3 HRD HB3
  go_wp2_with fail
  go_region
  all_goals go_wp2_with fail
  have MM : Mod (fun i => i = w.heap.size) w4 (((w4.setCell ⟨w.heap.size, 0, none⟩ (.slice A2 l.length c2)).setCell ⟨w.heap.size, 1, none⟩ (.int .i64 root)).setCell ⟨w.heap.size, 2, none⟩ (.int .i64 (lone : Int))).drew :=
    Mod.drew (Mod.setCell (p := ⟨w.heap.size, 2, none⟩) (Mod.setCell (p := ⟨w.heap.size, 1, none⟩) (Mod.setCell (p := ⟨w.heap.size, 0, none⟩) (Mod.refl (fun i => i = w.heap.size) w4) (fun _ => rfl) _) (fun _ => rfl) _) (fun _ => rfl) _)
  have hblk : Blk (((w4.setCell ⟨w.heap.size, 0, none⟩ (.slice A2 l.length c2)).setCell ⟨w.heap.size, 1, none⟩ (.int .i64 root)).setCell ⟨w.heap.size, 2, none⟩ (.int .i64 (lone : Int))).drew w.heap.size 27 #[.slice A2 l.length c2, .int .i64 root, .int .i64 (lone : Int)] := by
    have := ((HR4.out.set_ 0 (.slice A2 l.length c2)).set_ 1 (.int .i64 root)).set_ 2 (.int .i64 (lone : Int))
    exact Blk.drewN (by simpa using this) 1
  refine bodyPost_ret (results_tmp_cell_row rfl _ _ w.heap.size 27 _ (0, 0) _ rfl hblk Try.underlying27 rfl HINF.out) rfl ?_
  refine ⟨g, _, l, b, root, lone, rfl, HM.out.mod HML.out MM (fun i hi => by omega), ⟨HI.out, A2, c2, HLA.out.le (by omega), rfl, HC.out.1, HC.out.2, ?_⟩, HL.out.1, HRT.out, hlo, HK.out, B4.out.trans (MM.belowB B4.out.size fun i hi hf => by omega)⟩
  exact (R4.out.mod MM (Nat.le_refl _) (fun h0 i hi hf => by
    obtain ⟨a, e, rfl⟩ := hi
    have := HLA.out a e
    omega)).up MM.size
end Go.Proofs.Ytgcbdoljapnecaa
namespace Go.Proofs.Ytgcbdoljapnecaa
set_option maxRecDepth 100000
open Go.RowKit
set_option linter.unusedVariables false
def KAny (q : Nat) (l b : List Nat) (lone : Nat) : Prop := lone = 0 ∧ l.length = 2 * q
theorem rany_x (A : Option Addr) (m c B : Nat) (by_ : List Int) (k : Nat) (rt : Nat) (w : World)
    (h : Rd w B A m (Z8 by_)) (hB : B ≤ w.heap.size) (hb : ∀ x ∈ by_, 0 ≤ x ∧ x < 256) (hin : k ≤ 100) (hm : m ≤ 9223372036854775807) (hr1 : rt < 256) :
    Calls Try.prog 25 #[.int .i64 (k : Int), .slice A m c, .int .u8 (rt : Int)] w (XIs (KAny k) w) := by
  refine (any_p k rt m c B A by_ w h hb hB hin hr1 hm).mono ?_
  rintro e w' ⟨v, l, b, root, rfl, hrm, hl, hroot, b2⟩
  exact ⟨v, l, b, root, 0, rfl, hrm, by omega, by omega, by rw [hl]; exact hroot, by omega, ⟨rfl, hl⟩, b2⟩
set_option maxHeartbeats 4000000 in
theorem made23_1 (kd n r m c B : Nat) (A : Option Addr) (by_ : List Int) (w : World) (h : Rd w B A m (Z8 by_)) (hb : ∀ x ∈ by_, 0 ≤ x ∧ x < 256) (hB : B ≤ w.heap.size) (hkd : kd % 3 = 1) (hn : n < 256) (hr : r < 256) (hm : m ≤ 9223372036854775807) :
    Calls Try.prog 6 #[.int .u8 (kd : Int), .int .u8 (n : Int), .slice A m c, .int .u8 (r : Int)] w (MadeIs (KAny (n % 10)) w) := by
  have hb0 := ((Below.refl w.heap.size w).alloc (Nat.le_refl _) (.cells #[.slice none 0 0, .int .i64 0, .int .i64 0] 27)).alloc (by simp) (.cells #[.slice none 0 0, .int .i64 0, .int .i64 0] 27)
  have hR0 := (Blk.new w 27 #[.slice none 0 0, .int .i64 0, .int .i64 0]).alloc (.cells #[.slice none 0 0, .int .i64 0, .int .i64 0] 27)
  have hX0 := (Blk.new (w.alloc (.cells #[.slice none 0 0, .int .i64 0, .int .i64 0] 27)) 27 #[.slice none 0 0, .int .i64 0, .int .i64 0])
  rw [show (w.alloc (.cells #[.slice none 0 0, .int .i64 0, .int .i64 0] 27)).heap.size = w.heap.size + 1 by simp] at hX0
  obtain ⟨k, hk, hk9⟩ : ∃ k, Hid (k = n % 10) ∧ k < 10 := ⟨_, rfl, Nat.mod_lt _ (by decide)⟩
  have e1 : (n : Int) % 10 = (k : Int) := by have := hk.out; omega
  have e2 : (kd : Int) % 3 = 1 := by omega
  have HBX := Nat.le_trans hB hb0.size
  have AN := Lib.hid (rany_x A m c B by_ (n % 10) r _ (h.below (hb0.mono hB)) HBX hb (by have := hk.out; omega) hm hr)
  rw [← hk.out] at AN ⊢
  have HINF := Lib.hid info_rmap
  have HR0 := Lib.hid hR0
  have HX0 := Lib.hid hX0
  have HB0 := Lib.hid hb0
  have HW : Hid (((w.alloc (.cells #[.slice none 0 0, .int .i64 0, .int .i64 0] 27)).alloc (.cells #[.slice none 0 0, .int .i64 0, .int .i64 0] 27)).heap.size = w.heap.size + 2) := by show _ = _; simp
  clear h hb hb0 hR0 hX0 hkd HBX
  go_enter Try.func6, Try.ntmps6
  go_wp2_with fail
  refine AN.out.mono ?_
  generalize (w.alloc (.cells #[.slice none 0 0, .int .i64 0, .int .i64 0] 27)).alloc (.cells #[.slice none 0 0, .int .i64 0, .int .i64 0] 27) = w1 at *
  rintro e w2 ⟨v, l, b, root, lone, rfl, hrm, hl, hev, hroot, hlo, hK, b2⟩
  obtain ⟨hinv, A2, c2, hla, rfl, hc2, hm2, r2⟩ := hrm
  have hX := HX0.out.below b2
  have hR := HR0.out.below b2
  have B2 := HB0.out.trans (b2.mono HB0.out.size)
  have M3 := box_mod w2 (w.heap.size + 1) (.slice A2 l.length c2) (.int .i64 root) (.int .i64 (lone : Int))
  have x0 := hX.cell 0
  have x1 := hX.cell 1
  have x2 := hX.cell 2
  have f0 := hX.frozen 0
  have f1 := hX.frozen 1
  have f2 := hX.frozen 2
  simp at x0 x1 x2
  have HX3 : Hid (Blk (((w2.setCell ⟨w.heap.size + 1, 0, none⟩ (.slice A2 l.length c2)).setCell ⟨w.heap.size + 1, 1, none⟩ (.int .i64 root)).setCell ⟨w.heap.size + 1, 2, none⟩ (.int .i64 (lone : Int))) (w.heap.size + 1) 27 #[.slice A2 l.length c2, .int .i64 root, .int .i64 (lone : Int)]) := by
    show Blk _ _ _ _
    have := ((hX.set_ 0 (.slice A2 l.length c2)).set_ 1 (.int .i64 root)).set_ 2 (.int .i64 (lone : Int))
    simpa using this
  have HR3 := Lib.hid (hR.mod M3 (by omega))
  have HB3 : Hid (Below w.heap.size w (((w2.setCell ⟨w.heap.size + 1, 0, none⟩ (.slice A2 l.length c2)).setCell ⟨w.heap.size + 1, 1, none⟩ (.int .i64 root)).setCell ⟨w.heap.size + 1, 2, none⟩ (.int .i64 (lone : Int)))) := B2.trans (M3.belowB B2.size fun i hi hj => by omega)
  have HRD : Hid (Rd (((w2.setCell ⟨w.heap.size + 1, 0, none⟩ (.slice A2 l.length c2)).setCell ⟨w.heap.size + 1, 1, none⟩ (.int .i64 root)).setCell ⟨w.heap.size + 1, 2, none⟩ (.int .i64 (lone : Int))) (((w2.setCell ⟨w.heap.size + 1, 0, none⟩ (.slice A2 l.length c2)).setCell ⟨w.heap.size + 1, 1, none⟩ (.int .i64 root)).setCell ⟨w.heap.size + 1, 2, none⟩ (.int .i64 (lone : Int))).heap.size A2 l.length (I64 (ofN l))) :=
    (r2.mod M3 (Nat.le_refl _) (fun h0 i hi hf => by
      obtain ⟨a, e, rfl⟩ := hi
      have := hla a e
      have := HW.out
      omega)).up M3.size
  have HI := Lib.hid hinv
  have HL := Lib.hid (And.intro hl hev)
  have HRT := Lib.hid hroot
  have HC := Lib.hid (And.intro hc2 hm2)
  have HLA : Hid (inLo (w.heap.size + 1) A2) := hla.le (by rw [HW.out]; omega)
  have HK := Lib.hid hK
  clear hinv hl hev hroot b2 r2 hR hX AN hc2 hm2 hla hK B2 M3 HX0 HR0 HB0
  go_upto_region 8 with fail
  generalize ((w2.setCell ⟨w.heap.size + 1, 0, none⟩ (.slice A2 l.length c2)).setCell ⟨w.heap.size + 1, 1, none⟩ (.int .i64 root)).setCell ⟨w.heap.size + 1, 2, none⟩ (.int .i64 (lone : Int)) = w3 at *
  clear x0 x1 x2 f0 f1 f2
  have x0 := HX3.out.cell 0
  have x1 := HX3.out.cell 1
  have x2 := HX3.out.cell 2
  simp at x0 x1 x2
  have NO := Lib.hid (new_ok A2 l.length c2 l b root (lone : Int) _ HRD.out HI.out HL.out.2 (by have := HL.out.1; omega) HRT.out (by omega) (by omega))
  go_wp2_with fail
  refine NO.out.mono ?_
  rintro e w4 ⟨g, rfl, hmap, b4, hmlo⟩
  have hX4 := HX3.out.below b4
  have hR4 := HR3.out.below b4
  clear x0 x1 x2
  have x0 := hX4.cell 0
  have x1 := hX4.cell 1
  have x2 := hX4.cell 2
  have r0 := hR4.cell 0
  have r1 := hR4.cell 1
  have r2 := hR4.cell 2
  have f0 := hR4.frozen 0
  have f1 := hR4.frozen 1
  have f2 := hR4.frozen 2
  simp at x0 x1 x2 r0 r1 r2
  have HM := Lib.hid hmap
  have HML := Lib.hid hmlo
  have HR4 := Lib.hid hR4
  have R4 := Lib.hid (HRD.out.more b4)
  have B4 : Hid (Below w.heap.size w w4) := HB3.out.trans (b4.mono HB3.out.size)
  have hs3 : w.heap.size + 1 < w3.heap.size := HX3.out.lt
  clear hmap hmlo hX4 hR4 b4 NO HX3 HR3 HRD HB3
  go_wp2_with fail
  go_region
  all_goals go_wp2_with fail
  have MM : Mod (fun i => i = w.heap.size) w4 (((w4.setCell ⟨w.heap.size, 0, none⟩ (.slice A2 l.length c2)).setCell ⟨w.heap.size, 1, none⟩ (.int .i64 root)).setCell ⟨w.heap.size, 2, none⟩ (.int .i64 (lone : Int))).drew :=
    Mod.drew (Mod.setCell (p := ⟨w.heap.size, 2, none⟩) (Mod.setCell (p := ⟨w.heap.size, 1, none⟩) (Mod.setCell (p := ⟨w.heap.size, 0, none⟩) (Mod.refl (fun i => i = w.heap.size) w4) (fun _ => rfl) _) (fun _ => rfl) _) (fun _ => rfl) _)
  have hblk : Blk (((w4.setCell ⟨w.heap.size, 0, none⟩ (.slice A2 l.length c2)).setCell ⟨w.heap.size, 1, none⟩ (.int .i64 root)).setCell ⟨w.heap.size, 2, none⟩ (.int .i64 (lone : Int))).drew w.heap.size 27 #[.slice A2 l.length c2, .int .i64 root, .int .i64 (lone : Int)] := by
    have := ((HR4.out.set_ 0 (.slice A2 l.length c2)).set_ 1 (.int .i64 root)).set_ 2 (.int .i64 (lone : Int))
    exact Blk.drewN (by simpa using this) 1
  refine bodyPost_ret (results_tmp_cell_row rfl _ _ w.heap.size 27 _ (0, 0) _ rfl hblk Try.underlying27 rfl HINF.out) rfl ?_
  refine ⟨g, _, l, b, root, lone, rfl, HM.out.mod HML.out MM (fun i hi => by omega), ⟨HI.out, A2, c2, HLA.out.le (by omega), rfl, HC.out.1, HC.out.2, ?_⟩, HL.out.1, HRT.out, hlo, HK.out, B4.out.trans (MM.belowB B4.out.size fun i hi hf => by omega)⟩
  exact (R4.out.mod MM (Nat.le_refl _) (fun h0 i hi hf => by
    obtain ⟨a, e, rfl⟩ := hi
    have := HLA.out a e
    omega)).up MM.size
end Go.Proofs.Ytgcbdoljapnecaa
namespace Go.Proofs.Ytgcbdoljapnecaa
set_option linter.unusedVariables false
def tri0 : List Nat := [5, 2, 1, 4, 3, 0]
def tri0V (i : Nat) : Nat := [0, 1, 1, 2, 2, 0].getD i 0
theorem tri0_inv : Inv tri0 tri0 where
  len := rfl
  lt := by decide
  lt' := by decide
  lb := by decide
  bl := by decide
theorem tri0_tg : TG tri0.length (sgL tri0) tri0V 3 where
  ev := rfl
  pos := by decide
  pf := sgL_pf tri0_inv
  lab := by decide
  lsg := by decide
  orb := fun i j hi hj q => by
    have : i = j ∨ sgL tri0 i = j := (by decide : ∀ i, i < tri0.length → ∀ j, j < tri0.length → tri0V i = tri0V j → (i = j ∨ sgL tri0 i = j)) i hi j hj q
    rcases this with e | e
    · exact ⟨0, e⟩
    · exact ⟨1, e⟩
  sur := fun k hk => by
    have : k = 0 ∨ k = 1 ∨ k = 2 := by omega
    rcases this with rfl | rfl | rfl
    · exact ⟨0, by decide, rfl⟩
    · exact ⟨1, by decide, rfl⟩
    · exact ⟨3, by decide, rfl⟩
  cnt := rfl
  tri := by decide
  noloop := by decide
  simple := fun i j hi hj q q' => (by decide : ∀ i, i < tri0.length → ∀ j, j < tri0.length → tri0V i = tri0V j → tri0V (mt i) = tri0V (mt j) → i = j) i hi j hj q q'
  conn := fun S h1 h2 h0 i hi => by
    have l6 : tri0.length = 6 := rfl
    have s1 : S 1 := h2 0 (by decide) h0
    have s5 : S 5 := h1 0 (by decide) h0
    have s2 : S 2 := h1 1 (by decide) s1
    have s3 : S 3 := h2 2 (by decide) s2
    have s4 : S 4 := h1 3 (by decide) s3
    have : i = 0 ∨ i = 1 ∨ i = 2 ∨ i = 3 ∨ i = 4 ∨ i = 5 := by omega
    rcases this with rfl | rfl | rfl | rfl | rfl | rfl
    · exact h0
    · exact s1
    · exact s2
    · exact s3
    · exact s4
    · exact s5
end Go.Proofs.Ytgcbdoljapnecaa
namespace Go.Proofs.Ytgcbdoljapnecaa
set_option maxRecDepth 100000
open Go.RowKit
set_option linter.unusedVariables false
def pkN (by_ : List Int) (a : Nat) : Nat := if by_.length = 0 then 0 else (by_.getD (a % by_.length) 0).toNat + a / by_.length
theorem rd_z8P {w : World} {B n : Nat} {A : Option Addr} {bs : List Int} (h : Rd w B A n (Z8 bs)) (h0 : 0 < n) :
    ∃ b o, A = some ⟨b, o, none⟩ ∧ b < B ∧ ∀ k, k < n → w.cell? ⟨b, o + k, none⟩ = some (.int .u8 (bs.getD k 0)) := by
  have hl : bs.length = n := by have := h.len; simpa [Z8] using this
  obtain ⟨b, o, e, hb, hc⟩ := h.at_ h0
  refine ⟨b, o, e, hb, fun k hk => ?_⟩
  rw [hc k (by simp [Z8]; omega)]
  simp [Z8, List.getD_eq_getElem?_getD, List.getElem?_eq_getElem (show k < bs.length by omega)]
set_option maxHeartbeats 4000000 in
theorem pick_p (A : Option Addr) (m c B : Nat) (by_ : List Int) (a : Nat) (w : World) (h : Rd w B A m (Z8 by_)) (hb : ∀ x ∈ by_, 0 ≤ x ∧ x < 256) (ha : a ≤ 100000) (hm : m ≤ 9223372036854775807) :
    Calls Try.prog 61 #[.slice A m c, .int .i64 (a : Int)] w fun e w' => e = .returned (.int .i64 ((pkN by_ a : Nat) : Int)) ∧ (∃ k, w' = w.drewN k) := by
  have hl : by_.length = m := by have := h.len; simpa [Z8] using this
  rcases Nat.eq_zero_or_pos m with h0 | h0
  · subst h0
    have HP : Hid (pkN by_ a = 0) := by show _ = _; unfold pkN; rw [if_pos hl]
    clear h hb hl
    go_enter Try.func61, Try.ntmps61
    go_wp2_with fail
    go_ret
    exact ⟨by rw [HP.out]; rfl, 0, rfl⟩
  · obtain ⟨r, hr⟩ : ∃ r, r = a % m := ⟨_, rfl⟩
    obtain ⟨q, hq⟩ : ∃ q, q = a / m := ⟨_, rfl⟩
    have hrm : r < m := by rw [hr]; exact Nat.mod_lt _ h0
    have hqa : q ≤ a := by rw [hq]; exact Nat.div_le_self _ _
    obtain ⟨b5, o5, rfl, _, hcz⟩ := rd_z8P h h0
    have cx := hcz r hrm
    obtain ⟨x, hx⟩ : ∃ x : Nat, by_.getD r 0 = (x : Int) := by
      have := hb (by_.getD r 0) (by rw [List.getD_eq_getElem?_getD, List.getElem?_eq_getElem (by rw [hl]; exact hrm)]; exact List.getElem_mem _)
      exact ⟨_, (Int.toNat_of_nonneg this.1).symm⟩
    have hx256 : x < 256 := by
      have := hb (by_.getD r 0) (by rw [List.getD_eq_getElem?_getD, List.getElem?_eq_getElem (by rw [hl]; exact hrm)]; exact List.getElem_mem _)
      omega
    rw [hx] at cx
    have HP : Hid (pkN by_ a = x + q) := by
      show _ = _
      unfold pkN
      rw [if_neg (by omega), hl, ← hr, ← hq, hx]; rfl
    have h1 : (a : Int) % (m : Int) = (r : Int) := by rw [hr]; rfl
    have h1t : (a : Int).tmod (m : Int) = (r : Int) := by rw [Int.tmod_eq_emod_of_nonneg (by omega)]; exact h1
    have h2 : (a : Int) / (m : Int) = (q : Int) := by rw [hq]; rfl
    have h2t : (a : Int).tdiv (m : Int) = (q : Int) := by rw [Int.tdiv_eq_ediv_of_nonneg (by omega)]; exact h2
    have w1 : IntKind.i64.wrap (r : Int) = (r : Int) := by simp [IntKind.wrap, IntKind.signed, IntKind.bits]; omega
    have w2 : IntKind.i64.wrap (q : Int) = (q : Int) := by simp [IntKind.wrap, IntKind.signed, IntKind.bits]; omega
    have w3 : IntKind.i64.wrap (x : Int) = (x : Int) := by simp [IntKind.wrap, IntKind.signed, IntKind.bits]; omega
    have w4 : IntKind.i64.wrap ((x : Int) + (q : Int)) = (x : Int) + (q : Int) := by simp [IntKind.wrap, IntKind.signed, IntKind.bits]; omega
    have hmi : (0 : Int) < (m : Int) := by omega
    have hm0 : ¬ (m : Int) = 0 := by omega
    have hm0n : ¬ m = 0 := by omega
    have hmb : ((m : Int) == 0) = false := by simp; omega
    have hmb2 : decide (m = 0) = false := decide_eq_false hm0n
    have hri : (r : Int) < (m : Int) := by omega
    clear hr hq hcz h hx hl hb
    go_enter Try.func61, Try.ntmps61
    go_wp2_with fail
    go_quiet (fail)
    go_wp2_with fail
    go_ret
    exact ⟨by rw [HP.out]; simp, nq, rfl⟩
end Go.Proofs.Ytgcbdoljapnecaa
