/- The program's Play: act by act, by what is known of each act's Do. A leaf: its map lies in memory of the call's own. The document's example of layer 24: one act. The kinds' names. An act that comes in: three integers. -/
import Derived.Test.YtgcbdoljapnecaaGreatZg20
import Derived.Test.YtgcbdoljapnecaaGreatZg5
import Derived.Deep.RegionHeld3
import Derived.Test.YtgcbdoljapnecaaGreatZGOps
import Derived.Test.YtgcbdoljapnecaaGreatZg2
import Derived.ProofKit
import Derived.OpenShut
import Derived.Deep.Slices
import Derived.Deep.Fields
namespace Go.Proofs.YtgcbdoljapnecaaGreat
set_option maxRecDepth 100000
open Go.RowKit
set_option linter.unusedVariables false
set_option linter.unusedSimpArgs false
/-- What Play answers: the map as MX has it behind the last act, and the errors. -/
def PlayP (MX : Nat → Nat → World → Nat → Prop) (E : Nat → Int) (w : World) (q : Nat) (e : Ending) (w' : World) : Prop :=
  ∃ g A c k, e = .returned (.tuple #[.pointer (some ⟨g, 0, none⟩), .slice A q c]) ∧ MX k q w' g ∧ q ≤ c ∧ c ≤ maxLen ∧ w'.ownsRow w.heap.size 38 1 (.slice A q c) q (I64 ((List.range q).map E)) ∧ Below w.heap.size w w'
/-- What MX has to say of the maps on the way: k is the block of the errors, that no map lies in. -/
structure Plays (MX : Nat → Nat → World → Nat → Prop) (E : Nat → Int) (L : Nat → Nat) (r : Nat → Int) (q : Nat) : Prop where
  start : ∀ W g k, MapAt W g sdL sdL 0 0 → W.heap.size ≤ k → MX k 0 W g
  below : ∀ k i W W' g, MX k i W g → Below W.heap.size W W' → MX k i W' g
  len : ∀ k i W g, i < q → MX k i W g → L i ≤ 131072 ∧ ∃ l b rt ln, MapAt W g l b rt ln ∧ l.length = L i
  step : ∀ k i W g, i < q → MX k i W g → k < W.heap.size → Calls Tryz.prog 20 #[.pointer (some ⟨g, 0, none⟩), .agg #[.int .i64 (r (3 * i)), .int .i64 (r (3 * i + 1) % (max (L i) 1 : Nat)), .int .i64 (r (3 * i + 2) % (max (L i) 1 : Nat))]] W fun en w' =>
    ∃ p, en = .returned (.tuple #[.pointer p, .int .i64 (E i)]) ∧ Below W.heap.size W w' ∧ ((E i = 0 ∧ ∃ g', p = some ⟨g', 0, none⟩ ∧ ∀ W'', Below w'.heap.size w' W'' → MX k (i + 1) (W''.setCell ⟨k, i, none⟩ (.int .i64 (E i))) g') ∨ (E i ≠ 0 ∧ p = none ∧ ∀ W'', Below w'.heap.size w' W'' → MX k (i + 1) (W''.setCell ⟨k, i, none⟩ (.int .i64 (E i))) g))
theorem info_errno : ∃ i, Tryz.prog.info? 38 = some i ∧ i.zero = some (.int .i64 0) ∧ i.size = 1 ∧ i.bytes = 8 := by
  have h : (Tryz.prog.info? 38).map (fun i => (i.zero, i.size, i.bytes)) = some (some (.int .i64 0), 1, 8) := by kernel_rfl
  obtain ⟨i, hi, e⟩ := Option.map_eq_some_iff.1 h
  simp only [Prod.mk.injEq] at e
  exact ⟨i, hi, e.1, e.2.1, e.2.2⟩
theorem own_setE {w : World} {base g n c k : Nat} {e : TypeId} {y : List Int} (h : w.ownsRow base e 1 (.slice (some ⟨g, 0, none⟩) n c) n (I64 y)) (v : Int) : (w.setCell ⟨g, k, none⟩ (.int .i64 v)).ownsRow base e 1 (.slice (some ⟨g, 0, none⟩) n c) n (I64 (y.set k v)) := by
  rw [I64_set]; exact (h.stored k _).1
theorem rdA_rng {bs : List Int} (hb : ∀ x ∈ bs, 0 ≤ x ∧ x < 256) (j : Nat) : 0 ≤ rdA bs j ∧ rdA bs j < 256 := by
  have : 0 ≤ bs.getD j 0 ∧ bs.getD j 0 < 256 := by
    rw [List.getD_eq_getElem?_getD]
    by_cases c : j < bs.length
    · rw [List.getElem?_eq_getElem c]; exact hb _ (List.getElem_mem _)
    · rw [List.getElem?_eq_none (by omega)]; simp
  unfold rdA
  split <;> omega
set_option maxHeartbeats 16000000 in
theorem splay_p (A : Option Addr) (n c q : Nat) (bs : List Int) (w : World) (h : Rd w w.heap.size A n (Z8 bs)) (hb : ∀ x ∈ bs, 0 ≤ x ∧ x < 256) (hn : n ≤ 300) (hnc : n ≤ c) (hc : c ≤ maxLen) (hq : q = n / 3) {MX : Nat → Nat → World → Nat → Prop} {E : Nat → Int} {L : Nat → Nat} (hG : Plays MX E L (rdA bs) q) :
    Calls Tryz.prog 10 #[.slice A n c] w (PlayP MX E w q) := by
  obtain ⟨i0, hi0, hz0, hz1, hz2⟩ := info_errno
  have SP := Lib.hid (seed_p w)
  have RP : Hid (∀ W, Below w.heap.size w W → Calls Tryz.prog 23 #[.slice A n c] W (ReadP W bs q)) := fun W z => sread_p A n c q bs W ((h.below z).up z.size) hb hn hnc hc hq
  have HBB := Lib.hid hb
  have HGD := Lib.hid hG
  have hmk := run_make_one (P := Tryz.prog) 26 38 i0 (.int .i64 0) 8 Tryz.underlying26 hi0 hz0 hz1 hz2 rfl .i64 .i64 q (by omega) (by omega)
  have hrep : (List.replicate q (Value.int .i64 0)).toArray = Array.replicate q (.int .i64 0) := by simp
  rw [hrep] at hmk
  have hqb : q ≤ 100 := by omega
  clear h hb hG hq hnc hn hc hrep
  go_enter Tryz.func10, Tryz.ntmps10
  go_wp2_with fail
  refine SP.out.mono ?_
  rintro en w1 ⟨g0, rfl, m0, b1⟩
  have HM0 : Hid (∀ k, w1.heap.size ≤ k → MX k 0 w1 g0) := fun k hk => HGD.out.start w1 g0 k m0 hk
  have B1 := Lib.hid b1
  have RP1 := Lib.hid (RP.out w1 b1)
  clear m0 b1 SP RP
  go_wp2_with fail
  refine RP1.out.mono ?_
  rintro en w2 ⟨gA, y, rfl, hown, hy, b2⟩
  have HA := Lib.hid hown
  have HYV := Lib.hid hy
  have hlA := own_block hown
  have HM2 : Hid (MX w2.heap.size 0 w2 g0) := HGD.out.below _ _ _ _ _ (HM0.out _ b2.size) b2
  have B2 := Lib.hid (B1.out.trans (b2.mono B1.out.size))
  clear hown hy b2 HM0 B1 RP1
  have hal := (Below.refl w2.heap.size w2).alloc (Nat.le_refl _) (.cells (Array.replicate q (Value.int .i64 0)) 38)
  have hO : (w2.alloc (.cells (Array.replicate q (Value.int .i64 0)) 38)).ownsRow w2.heap.size 38 1 (.slice (some ⟨w2.heap.size, 0, none⟩) q q) q (I64 (List.replicate q 0)) := by
    have := World.ownsRow_lit (base := w2.heap.size) (e := 38) (size := 1) w2 (Array.replicate q (Value.int .i64 0)) q (Nat.le_refl _) (by simp [maxLen]; omega) (by simp)
    rw [show I64 (List.replicate q 0) = List.replicate q (.int .i64 0) by simp [I64]]
    simpa using this
  obtain ⟨gE, hgE⟩ : ∃ gE, gE = w2.heap.size := ⟨_, rfl⟩
  have HO3 := Lib.hid hO
  have HAL := Lib.hid hal
  have HM3 := Lib.hid (HGD.out.below _ _ _ _ _ HM2.out hal)
  have hmk2 := hmk w2
  clear hO hal HM2 hmk
  go_upto_region 4 with fail
  generalize hw3 : w2.alloc (.cells (Array.replicate q (Value.int .i64 0)) 38) = w3 at *
  clear hw3 hmk2
  rw [← hgE]
  rw [← hgE] at HO3 HM3
  have HGE := Lib.hid hgE
  clear hgE
  go_wp2_with fail
  go_loopw [4, 7, 8, 9, 10, 19] (fun mv _ _ _ _ ix wz => ∃ (i g : Nat) (z : List Int), i ≤ q ∧ ix = .int .i64 (i : Int) ∧ mv = .pointer (some ⟨g, 0, none⟩) ∧ Hid (MX gE i wz g) ∧ Hid (z.length = q ∧ ∀ j, j < i → z.getD j 0 = E j) ∧
    Hid (wz.ownsRow gE 38 1 (.slice (some ⟨gE, 0, none⟩) q q) q (I64 z)) ∧ Hid (Below w2.heap.size w2 wz)) (fun _ _ _ _ _ x _ => q - (intOf x).toNat)
  case atStart => exact ⟨0, g0, List.replicate q 0, by omega, rfl, rfl, HM3.out, ⟨by simp, fun j hj => absurd hj (by omega)⟩, HO3.out, HAL.out⟩
  case round =>
    clear HM3 HO3 HAL
    obtain ⟨wz, rfl⟩ : ∃ wz : World, wz = wr := ⟨_, rfl⟩
    obtain ⟨i, g, z, hi, rfl, rfl, HM, HZ, HO, HB⟩ := hrel
    by_cases hiq : i < q
    · have hid' : decide (i < q) = true := decide_eq_true hiq
      have hiI : (i : Int) < (q : Int) := by omega
      obtain ⟨hLb, lz, bz, rz, nz, hmz, hlz⟩ := HGD.out.len gE i wz g hiq HM.out
      have HDZ := Lib.hid (And.intro hmz hlz)
      clear hmz hlz
      obtain ⟨ka, hka⟩ : ∃ k, k = rdA bs (3 * i) := ⟨_, rfl⟩
      obtain ⟨da, hda⟩ : ∃ k, k = rdA bs (3 * i + 1) := ⟨_, rfl⟩
      obtain ⟨ea, hea⟩ : ∃ k, k = rdA bs (3 * i + 2) := ⟨_, rfl⟩
      have hdr : 0 ≤ da ∧ da < 256 := by rw [hda]; exact rdA_rng HBB.out _
      have her : 0 ≤ ea ∧ ea < 256 := by rw [hea]; exact rdA_rng HBB.out _
      have cellA : ∀ j, j < 3 → wz.cell? ⟨gA, i * 3 + j, none⟩ = some (.int .i64 (rdA bs (3 * i + j))) := fun j hj => by
        have := own_cell3 (own_below HA.out HB.out) (i * 3 + j) (by omega)
        rw [HYV.out _ (by omega), show i * 3 + j = 3 * i + j by omega] at this
        rw [show i * 3 + j = 3 * i + j by omega]; exact this
      have c0 := cellA 0 (by omega)
      have c1 := cellA 1 (by omega)
      have c2 := cellA 2 (by omega)
      rw [Nat.add_zero, Nat.add_zero, ← hka] at c0
      rw [← hda] at c1
      rw [← hea] at c2
      obtain ⟨N, hN⟩ : ∃ N, N = L i := ⟨_, rfl⟩
      have hNb : N ≤ 1000000 := by omega
      obtain ⟨dm, hdm⟩ : ∃ x, x = da % ((max N 1 : Nat) : Int) := ⟨_, rfl⟩
      obtain ⟨em, hem⟩ : ∃ x, x = ea % ((max N 1 : Nat) : Int) := ⟨_, rfl⟩
      obtain ⟨X, hX⟩ : ∃ x, x = E i := ⟨_, rfl⟩
      have halb := (Below.refl wz.heap.size wz).alloc (Nat.le_refl _) (.cells #[.int .i64 ka, .int .i64 da, .int .i64 ea] 41)
      obtain ⟨gX, hgX⟩ : ∃ gX, gX = wz.heap.size := ⟨_, rfl⟩
      have hXb := Blk.new wz 41 #[.int .i64 ka, .int .i64 da, .int .i64 ea]
      rw [← hgX] at hXb
      have HXB := Lib.hid hXb
      have HALB := Lib.hid halb
      have HMz := Lib.hid (HGD.out.below _ _ _ _ _ HM.out halb)
      have HDA := Lib.hid (HDZ.out.1.below halb)
      have hgEz := (own_block HO.out).2
      have HGX := Lib.hid hgX
      have AP : Hid (∀ W, Calls Tryz.prog 32 #[.agg #[.int .i64 ka, .int .i64 da, .int .i64 ea], .int .i64 (N : Int)] W fun en w' => en = .returned (.agg #[.int .i64 ka, .int .i64 dm, .int .i64 em]) ∧ Below W.heap.size W w') := fun W => by
        have := among_p ka da ea N W hNb hdr her
        rw [hdm, hem]; exact this
      have DO : Hid (∀ W, MX gE i W g → gE < W.heap.size → Calls Tryz.prog 20 #[.pointer (some ⟨g, 0, none⟩), .agg #[.int .i64 ka, .int .i64 dm, .int .i64 em]] W fun en w' => ∃ p, en = .returned (.tuple #[.pointer p, .int .i64 X]) ∧ Below W.heap.size W w' ∧ Hid ((X = 0 ∧ ∃ g', p = some ⟨g', 0, none⟩ ∧ ∀ W'', Below w'.heap.size w' W'' → MX gE (i + 1) (W''.setCell ⟨gE, i, none⟩ (.int .i64 X)) g') ∨ (X ≠ 0 ∧ p = none ∧ ∀ W'', Below w'.heap.size w' W'' → MX gE (i + 1) (W''.setCell ⟨gE, i, none⟩ (.int .i64 X)) g))) := fun W hW hk => by
        have := HGD.out.step gE i W g hiq hW hk
        rw [← hX, ← hN, ← hka, ← hda, ← hea, ← hdm, ← hem] at this
        exact this
      have HE2 : Hid (E i = X ∧ lz.length = N) := ⟨hX.symm, by rw [HDZ.out.2, hN]⟩
      have hw5e : gE < (wz.alloc (.cells #[.int .i64 ka, .int .i64 da, .int .i64 ea] 41)).heap.size := by simp; omega
      have wi1 : IntKind.i64.wrap ((i : Int) + 1) = (i : Int) + 1 := by simp [IntKind.wrap, IntKind.signed, IntKind.bits]; omega
      clear cellA hka hda hea hdm hem hX hN hdr her halb hXb hgX HM HDZ hLb
      go_upto_region 7 with fail
      rw [← HGX.out]
      generalize hw5 : wz.alloc (.cells #[.int .i64 ka, .int .i64 da, .int .i64 ea] 41) = w5 at *
      clear hw5 c0 c1 c2
      have KH : Hid (∀ W, Below w5.heap.size w5 W → Below w5.heap.size w5 W ∧ W.cell? ⟨gX, 0, none⟩ = some (.int .i64 ka) ∧ W.cell? ⟨gX, 1, none⟩ = some (.int .i64 da) ∧ W.cell? ⟨gX, 2, none⟩ = some (.int .i64 ea)) := fun W t => ⟨t, (HXB.out.below t).cell 0, (HXB.out.below t).cell 1, (HXB.out.below t).cell 2⟩
      have DP5 : Hid (∀ W, Below w5.heap.size w5 W → Calls Tryz.prog 24 #[.pointer (some ⟨g, 0, none⟩)] W fun e w' => e = .returned (.int .i64 (N : Int)) ∧ Below w5.heap.size w5 w') := fun W t => by
        rw [← HE2.out.2]
        exact (darts_p g lz bz rz nz W (HDA.out.below t)).mono fun e w' ⟨q1, q2⟩ => ⟨q1, t.trans (q2.mono t.size)⟩
      have AP5 : Hid (∀ W, Below w5.heap.size w5 W → Calls Tryz.prog 32 #[.agg #[.int .i64 ka, .int .i64 da, .int .i64 ea], .int .i64 (N : Int)] W fun en w' => en = .returned (.agg #[.int .i64 ka, .int .i64 dm, .int .i64 em]) ∧ Below w5.heap.size w5 w') := fun W t => (AP.out W).mono fun e w' ⟨q1, q2⟩ => ⟨q1, t.trans (q2.mono t.size)⟩
      have DO5 : Hid (∀ W, Below w5.heap.size w5 W → Calls Tryz.prog 20 #[.pointer (some ⟨g, 0, none⟩), .agg #[.int .i64 ka, .int .i64 dm, .int .i64 em]] W fun en w' => ∃ p, en = .returned (.tuple #[.pointer p, .int .i64 X]) ∧ Below w5.heap.size w5 w' ∧ Hid ((X = 0 ∧ ∃ g', p = some ⟨g', 0, none⟩ ∧ ∀ W'', Below w'.heap.size w' W'' → MX gE (i + 1) (W''.setCell ⟨gE, i, none⟩ (.int .i64 X)) g') ∨ (X ≠ 0 ∧ p = none ∧ ∀ W'', Below w'.heap.size w' W'' → MX gE (i + 1) (W''.setCell ⟨gE, i, none⟩ (.int .i64 X)) g))) := fun W t => (DO.out W (HGD.out.below _ _ _ _ _ HMz.out t) (by have := t.size; omega)).mono fun e w' ⟨p, q1, q2, q3⟩ => ⟨p, q1, t.trans (q2.mono t.size), q3⟩
      have a0 := Below.refl w5.heap.size w5
      have a1 := a0.drew
      obtain ⟨-, y0, y1, y2⟩ := KH.out _ a0
      obtain ⟨-, v0, v1, v2⟩ := KH.out _ a1
      clear AP DO
      go_cut [9, 10] from 24 to 33 (fun pv xv wx => ∃ p, pv = .pointer p ∧ xv = .int .i64 X ∧ Below w5.heap.size w5 wx ∧ Hid ((X = 0 ∧ ∃ g', p = some ⟨g', 0, none⟩ ∧ ∀ W'', Below wx.heap.size wx W'' → MX gE (i + 1) (W''.setCell ⟨gE, i, none⟩ (.int .i64 X)) g') ∨ (X ≠ 0 ∧ p = none ∧ ∀ W'', Below wx.heap.size wx W'' → MX gE (i + 1) (W''.setCell ⟨gE, i, none⟩ (.int .i64 X)) g)))
      case first =>
        go_region_held3 (fun W => Below w5.heap.size w5 W ∧ W.cell? ⟨gX, 0, none⟩ = some (.int .i64 ka) ∧ W.cell? ⟨gX, 1, none⟩ = some (.int .i64 da) ∧ W.cell? ⟨gX, 2, none⟩ = some (.int .i64 ea)) (exact KH.out _ (by assumption)) (first
          | (go_at_call 24; (with_reducible refine (DP5.out _ (by assumption)).mono ?_); rintro en wa ⟨rfl, hba⟩)
          | (go_at_call 32; (with_reducible refine (AP5.out _ (by assumption)).mono ?_); rintro en wb ⟨rfl, hbb⟩)
          | (go_at_call 20; (with_reducible refine (DO5.out _ (by assumption)).mono ?_); rintro en wd ⟨p, rfl, hbd, HT⟩))
        all_goals (go_wp2_with fail)
        all_goals (go_meet)
        all_goals (exact ⟨_, rfl, rfl, hbd, HT⟩)
      case rest =>
        obtain ⟨p, rfl, rfl, bc, HT⟩ := hcut
        have hsz := HALB.out.size
        have HOc := own_below (own_below HO.out HALB.out) bc
        have HBc := HB.out.trans ((HALB.out.trans (bc.mono hsz)).mono HB.out.size)
        have oE := own_setE (k := i) HOc X
        have yE : wc.cell? ⟨gE, i, none⟩ = some (.int .i64 (z.getD i 0)) := by
          have hl := HOc.1
          rw [I64_len] at hl
          rw [HOc.cellAt i (by omega), I64_get z i (by omega)]
        have fE := HOc.frozenAt i
        have hgEb := own_block HOc
        have HO2 := Lib.hid oE
        have HB2 := Lib.hid (HBc.setCell (p := ⟨gE, i, none⟩) (by rw [← HGE.out]; exact Nat.le_refl _) (.int .i64 X))
        have HZ2 : Hid ((z.set i X).length = q ∧ ∀ j, j < i + 1 → (z.set i X).getD j 0 = E j) := by
          have hzl := HZ.out.1
          refine ⟨by simp [hzl], fun j hj => ?_⟩
          by_cases e : j = i
          · subst e; rw [HE2.out.1]; simp [List.getD_eq_getElem?_getD, hzl, hiq]
          · have : (z.set i X).getD j 0 = z.getD j 0 := by simp [List.getD_eq_getElem?_getD, Ne.symm e]
            rw [this]; exact HZ.out.2 j (by omega)
        clear oE HOc HBc HALB HMz HDA HXB KH DP5 AP5 DO5 a0 a1 y0 y1 y2 v0 v1 v2 bc HO HB HZ hgEb
        rcases HT.out with ⟨hX0, g', rfl, hm2⟩ | ⟨hX0, rfl, hm2⟩
        · have HM2' := Lib.hid (hm2 _ (Below.refl _ _))
          subst hX0
          clear HT hm2
          go_wp2_with fail
          go_roundw
          case rel => exact ⟨i + 1, g', _, by omega, by go_num, rfl, HM2', HZ2, HO2, HB2⟩
          case measure => simp [intOf]; omega
        · have HM2' := Lib.hid (hm2 _ (Below.refl _ _))
          have hXb : ((X : Int) == 0) = false := by rw [beq_eq_false_iff_ne]; exact hX0
          have hXd : decide (X = 0) = false := decide_eq_false hX0
          clear HT hm2
          go_wp2_with fail
          go_roundw
          case rel => exact ⟨i + 1, g, _, by omega, by go_num, rfl, HM2', HZ2, HO2, HB2⟩
          case measure => simp [intOf]; omega
    · obtain rfl : i = q := by omega
      have hid' : decide (i < i) = false := by simp
      have hz : z = (List.range i).map E := by
        apply List.ext_getElem
        · simp [HZ.out.1]
        · intro j h1 h2
          have e1 : z[j] = z.getD j 0 := by rw [List.getD_eq_getElem?_getD, List.getElem?_eq_getElem h1]; rfl
          rw [e1, HZ.out.2 j (by have := HZ.out.1; omega)]
          simp
      have HOF : Hid (wz.ownsRow gE 38 1 (.slice (some ⟨gE, 0, none⟩) i i) i (I64 ((List.range i).map E))) := by rw [← hz]; exact HO
      have HBF := Lib.hid (B2.out.trans (HB.out.mono B2.out.size))
      have hs2 := B2.out.size
      clear hz HO HZ HB
      go_wp2_with fail
      go_ret2
      exact ⟨g, some ⟨gE, 0, none⟩, i, gE, rfl, HM.out, Nat.le_refl _, by simp [maxLen]; omega, HOF.out.base_le' (by rw [HGE.out]; exact hs2), HBF.out⟩
end Go.Proofs.YtgcbdoljapnecaaGreat
namespace Go.Proofs.YtgcbdoljapnecaaGreat
set_option maxRecDepth 100000
open Go.RowKit
set_option linter.unusedVariables false
theorem MapLo.lowerY {lo lo' : Nat} {w : World} {g : Nat} (h : MapLo lo w g) (k : lo' ≤ lo) : MapLo lo' w g := by
  obtain ⟨p, A, n, c, S, k', d, q, A', n', c', S', k2, d', rt, ln, hb, h0, hp, hq, i1, i2, i3, i4⟩ := h
  exact ⟨p, A, n, c, S, k', d, q, A', n', c', S', k2, d', rt, ln, hb, Nat.le_trans k h0, hp.le k, hq.le k, fun a e => Nat.le_trans k (i1 a e), fun a e => Nat.le_trans k (i2 a e), fun a e => Nat.le_trans k (i3 a e), fun a e => Nat.le_trans k (i4 a e)⟩
set_option maxHeartbeats 4000000 in
theorem leaf_lo (g : Nat) (l b : List Nat) (root lone : Int) (d : Nat) (w : World) (h : MapAt w g l b root lone) (hi : Inv l b) (hr : RootOk root l.length) (hd : d < l.length) (hn : l.length ≤ 60000) :
    Calls Tryz.prog 65 #[.pointer (some ⟨g, 0, none⟩), .int .i64 (d : Int)] w fun en w' => ∃ g', en = .returned (.tuple #[.pointer (some ⟨g', 0, none⟩), .int .i64 0]) ∧ MapAt w' g' (leafL l d) (leafB l b d) root lone ∧ Below w.heap.size w w' ∧ MapLo w.heap.size w' g' := by
  have hn2 := h.2.1
  have hal := (Below.refl w.heap.size w).alloc (Nat.le_refl _) (.cells #[.int .i64 (d : Int)] 3)
  have RP : Hid (Calls Tryz.prog 96 #[.pointer (some ⟨g, 0, none⟩), .slice (some ⟨w.heap.size, 0, none⟩) 1 1] (w.alloc (.cells #[.int .i64 (d : Int)] 3)) fun en w' => en = .returned (.int .i64 0) ∧ Below w.heap.size w w') := by
    have := gready_p g l b root lone (some ⟨w.heap.size, 0, none⟩) 1 1 [(d : Int)] (w.alloc (.cells #[.int .i64 (d : Int)] 3)) (h.below hal) ((Rd.new w 3 #[.int .i64 (d : Int)] 1 (I64 [(d : Int)]) (by simp [I64]) (by simp)).up (by simp)) (by omega)
    rw [rdy_one hd] at this
    exact this.mono fun en w' ⟨q1, q2⟩ => ⟨q1, hal.trans (q2.mono (by simp))⟩
  have TP : Hid (∀ W, Below w.heap.size w W → Calls Tryz.prog 97 #[.pointer (some ⟨g, 0, none⟩)] W fun en w' => ∃ gx, en = .returned (.pointer (some ⟨gx, 0, none⟩)) ∧ TurnsAt w' W.heap.size gx l b ∧ Below W.heap.size W w') := fun W m => turnsOf_p g l b root lone W (h.below m) hi
  obtain ⟨n, hnn⟩ : ∃ n, n = l.length := ⟨_, rfl⟩
  obtain ⟨n1, hn1⟩ : ∃ n1, n1 = l.length + 1 := ⟨_, rfl⟩
  have HN : Hid (n = l.length ∧ n1 = l.length + 1) := ⟨hnn, hn1⟩
  have HV := Lib.hid (leaf_inv hi hd)
  have hev := h.1.1
  have EP : Hid (∀ W base gx, TurnsAt W base gx (l) (b) → base ≤ W.heap.size → Calls Tryz.prog 98 #[.pointer (some ⟨gx, 0, none⟩)] W fun e w' => e = .returned (.tuple #[.int .i64 (n : Int), .int .i64 (n1 : Int)]) ∧ TurnsAt w' base gx (edgL (l)) (edgL (b)) ∧ Below base W w') := fun W base gx ht hb => by
    have := gedge_p base gx (l) (b) W ht (by omega) hb
    rw [← HN.out.2, ← HN.out.1] at this
    exact this
  have PP : Hid (∀ W base gx, TurnsAt W base gx (edgL l) (edgL b) → base ≤ W.heap.size → Calls Tryz.prog 99 #[.pointer (some ⟨gx, 0, none⟩), .int .i64 (n : Int), .int .i64 (d : Int)] W fun e w' => e = .returned (.tuple #[]) ∧ TurnsAt w' base gx (leafL l d) (leafB l b d) ∧ Below base W w') := fun W base gx ht hb => by
    have := gput_p base gx (edgL l) (edgL b) (l.length) (d) W ht (edg_inv hi) (by rw [edg_len]; omega) (by rw [edg_len]; omega) (by rw [edg_len]; omega) hb
    rw [← HN.out.1] at this
    unfold leafL leafB
    rw [← HN.out.1]
    exact this
  have DR : Hid (∀ W base gx, TurnsAt W base gx (leafL l d) (leafB l b d) → Below w.heap.size w W → Calls Tryz.prog 100 #[.pointer (some ⟨gx, 0, none⟩), .pointer (some ⟨g, 0, none⟩)] W (NewMap W (leafL l d) (leafB l b d) root lone)) := fun W base gx ht m => drawn_p base gx g (leafL l d) (leafB l b d) l b root lone W ht (h.below m) HV.out.1 (by rw [HV.out.2]; omega) (by rw [HV.out.2]; omega) (by rw [HV.out.2]; exact root_more hr (by omega) (by omega))
  clear h hal hi hnn hn1 hr hn2 hev
  go_enter Tryz.func65, Tryz.ntmps65
  go_wp2_with fail
  refine RP.out.mono ?_
  rintro en w1 ⟨rfl, b1⟩
  have B1 := Lib.hid b1
  clear b1 RP
  go_wp2_with fail
  refine (TP.out _ B1.out).mono ?_
  rintro en w2 ⟨gx, rfl, t2, b2⟩
  obtain ⟨base, hbase⟩ : ∃ base, base = w1.heap.size := ⟨_, rfl⟩
  rw [← hbase] at t2 b2
  have hw1 : w.heap.size ≤ base := by rw [hbase]; exact B1.out.size
  have B2 := B1.out.trans (b2.mono hw1)
  have s2 : base ≤ w2.heap.size := by rw [hbase]; exact b2.size
  clear b2 B1 TP hbase
  go_wp2_with fail
  refine (EP.out _ _ _ t2 s2).mono ?_
  rintro en w3 ⟨rfl, t3, b3⟩
  have B3 := B2.trans (b3.mono hw1)
  have s3 : base ≤ w3.heap.size := Nat.le_trans s2 b3.size
  clear b3 t2 B2
  go_wp2_with fail
  refine (PP.out _ _ _ t3 s3).mono ?_
  rintro en w4 ⟨rfl, t4, b4⟩
  have B4 := B3.trans (b4.mono hw1)
  have s4 : base ≤ w4.heap.size := Nat.le_trans s3 b4.size
  clear b4 t3 B3
  go_wp2_with fail
  refine (DR.out _ _ _ t4 B4).mono ?_
  rintro en w99 ⟨g9, rfl, m9, b9, lo9⟩
  have F := Lib.hid (And.intro m9 (And.intro (B4.trans (b9.mono B4.size)) (lo9.lowerY B4.size)))
  clear m9 b9 lo9 t4
  go_wp2_with fail
  go_ret2
  exact ⟨g9, rfl, F.out.1, F.out.2.1, F.out.2.2⟩
end Go.Proofs.YtgcbdoljapnecaaGreat
namespace Go.Proofs.YtgcbdoljapnecaaGreat
set_option maxRecDepth 100000
open Go.RowKit
set_option linter.unusedVariables false
theorem MapLo.belowY {lo : Nat} {w w' : World} {g : Nat} (h : MapLo lo w g) (m : Below w.heap.size w w') : MapLo lo w' g := by
  obtain ⟨p, A, n, c, S, k', d, q, A', n', c', S', k2, d', rt, ln, hb, h0, hp, hq, i1, i2, i3, i4⟩ := h
  exact ⟨p, A, n, c, S, k', d, q, A', n', c', S', k2, d', rt, ln, hb.below m, h0, hp.below m, hq.below m, i1, i2, i3, i4⟩
def AwX (k i : Nat) (W : World) (g : Nat) : Prop := (i = 0 ∧ MapAt W g sdL sdL 0 0) ∨ (i = 1 ∧ MapAt W g (leafL sdL 0) (leafB sdL sdL 0) 0 0)
theorem aw_plays : Plays AwX (fun _ => 0) (fun _ => 2) (rdA [0, 0, 0]) 1 := by
  refine ⟨fun W g k h _ => .inl ⟨rfl, h⟩, fun k i W W' g h m => ?_, fun k i W g hi h => ⟨by omega, ?_⟩, fun k i W g hi h hk => ?_⟩
  · rcases h with ⟨h0, h⟩ | ⟨h0, h⟩
    · exact .inl ⟨h0, h.below m⟩
    · exact .inr ⟨h0, h.below m⟩
  · rcases h with ⟨h0, h⟩ | ⟨h0, h⟩
    · exact ⟨_, _, _, _, h, rfl⟩
    · omega
  · obtain rfl : i = 0 := by omega
    rcases h with ⟨_, h⟩ | ⟨h0, h⟩
    · have r0 : rdA [0, 0, 0] (3 * 0) = 0 := rfl
      have r1 : rdA [0, 0, 0] (3 * 0 + 1) % ((max 2 1 : Nat) : Int) = 0 := rfl
      have r2 : rdA [0, 0, 0] (3 * 0 + 2) % ((max 2 1 : Nat) : Int) = 0 := rfl
      rw [r0, r1, r2]
      refine (sdo_k0 g 0 0 W (fun p x w' => x = 0 ∧ Below W.heap.size W w' ∧ ∃ g', p = some ⟨g', 0, none⟩ ∧ MapAt w' g' (leafL sdL 0) (leafB sdL sdL 0) 0 0 ∧ MapLo W.heap.size w' g') fun W' m => ?_).mono ?_
      · refine (leaf_lo g sdL sdL 0 0 0 W' (h.below m) sd_inv (.inr (by decide)) (by decide) (by decide)).mono ?_
        rintro en w' ⟨g', q1, q2, q3, q4⟩
        exact ⟨_, _, q1, rfl, m.trans (q3.mono m.size), g', rfl, q2, q4.lowerY m.size⟩
      · rintro en w' ⟨p, x, rfl, rfl, q2, g', rfl, q3, q4⟩
        refine ⟨_, rfl, q2, .inl ⟨rfl, g', rfl, fun W'' m => .inr ⟨rfl, ?_⟩⟩⟩
        refine (q3.below m).mod (q4.belowY m) (Mod.setCell (p := ⟨k, 0, none⟩) (Mod.refl (fun j => j = k) W'') (fun _ => rfl) _) (fun j hj => ?_)
        rw [hj]; exact hk
    · omega
set_option maxHeartbeats 4000000 in
theorem awake24_p (w : World) : Calls Tryz.prog 8 #[] w fun e w' => e = .returned (.bool true) ∧ Below w.heap.size w w' := by
  have li := leaf_inv sd_inv (show 0 < sdL.length by decide)
  have HE : Hid ((leafL sdL 0).length / 2 = 2) := by show _ = _; rw [li.2]; rfl
  have HV : Hid ((sizes (leafL sdL 0)).length = 3) := by show _ = _; rw [met_sizesG li.1]; decide
  have hal := (Below.refl w.heap.size w).alloc (Nat.le_refl _) (.cells #[.int .u8 0, .int .u8 0, .int .u8 0] 5)
  have hrd := (Rd.new w 5 #[.int .u8 0, .int .u8 0, .int .u8 0] 3 (Z8 [0, 0, 0]) rfl rfl)
  have PP := Lib.hid (splay_p (some ⟨w.heap.size, 0, none⟩) 3 3 1 [0, 0, 0] (w.alloc (.cells #[.int .u8 0, .int .u8 0, .int .u8 0] 5)) (hrd.up (by simp)) (by decide) (by omega) (by omega) (by simp [maxLen]) (by omega) aw_plays)
  have HAL := Lib.hid hal
  clear li hal hrd
  go_enter Tryz.func8, Tryz.ntmps8
  go_wp2_with fail
  refine PP.out.mono ?_
  rintro en w2 ⟨g, A, c, k, rfl, hm, hc1, hc2, hown, b2⟩
  have hm2 : MapAt w2 g (leafL sdL 0) (leafB sdL sdL 0) 0 0 := by
    rcases hm with ⟨h0, _⟩ | ⟨_, h⟩
    · omega
    · exact h
  obtain ⟨gE, rfl, _, _⟩ := own_some hown (by omega)
  have M2 := Lib.hid hm2
  have B2 := Lib.hid (HAL.out.trans (b2.mono HAL.out.size))
  have HO := Lib.hid hown
  have EC : Hid (∀ W, Below w2.heap.size w2 W → W.cell? ⟨gE, 0, none⟩ = some (.int .i64 0)) := fun W m => by
    have := (own_below HO.out m).cellAt 0 (by omega)
    simpa [I64] using this
  have EP : Hid (∀ W, Below w2.heap.size w2 W → Calls Tryz.prog 31 #[.pointer (some ⟨g, 0, none⟩)] W fun e w' => e = .returned (.int .i64 2) ∧ Below w2.heap.size w2 w') := fun W m => by
    have := edges_p g _ _ _ _ W (M2.out.below m)
    rw [HE.out] at this
    exact this.mono fun e w' ⟨q1, q2⟩ => ⟨q1, m.trans (q2.mono m.size)⟩
  have VP : Hid (∀ W, Below w2.heap.size w2 W → Calls Tryz.prog 29 #[.pointer (some ⟨g, 0, none⟩)] W fun e w' => e = .returned (.int .i64 3) ∧ Below w2.heap.size w2 w') := fun W m => by
    have := vertices_p g _ _ _ _ W (M2.out.below m)
    rw [HV.out] at this
    exact this.mono fun e w' ⟨q1, q2⟩ => ⟨q1, m.trans (q2.mono m.size)⟩
  clear hm hm2 hown b2 PP
  go_wp2_with fail
  refine (EP.out _ (Below.refl _ _)).mono ?_
  rintro en w3 ⟨rfl, b3⟩
  have B3 := Lib.hid b3
  clear b3
  go_wp2_with fail
  refine (VP.out _ B3.out).mono ?_
  rintro en w4 ⟨rfl, b4⟩
  have y0 := EC.out _ b4
  have F := Lib.hid (B2.out.trans (b4.mono B2.out.size))
  clear b4
  go_wp2_with fail
  go_ret
  exact ⟨rfl, F.out⟩
end Go.Proofs.YtgcbdoljapnecaaGreat
namespace Go.Proofs.YtgcbdoljapnecaaGreat
set_option maxRecDepth 100000
open Go.RowKit
set_option linter.unusedVariables false
set_option linter.unusedSimpArgs false
def nmA : Array Value := #[.string ⟨#[108, 101, 97, 102]⟩, .string ⟨#[99, 104, 111, 114, 100]⟩, .string ⟨#[115, 112, 108, 105, 116]⟩, .string ⟨#[115, 116, 97, 114]⟩, .string ⟨#[102, 108, 105, 112]⟩, .string ⟨#[114, 111, 111, 116]⟩, .string ⟨#[100, 117, 97, 108]⟩, .string ⟨#[109, 105, 114, 114, 111, 114]⟩, .string ⟨#[99, 117, 116]⟩, .string ⟨#[115, 104, 114, 105, 110, 107]⟩, .string ⟨#[99, 97, 110, 111, 110]⟩]
def nmS (k : Nat) : ByteArray := match nmA.getD k (.bool false) with | .string s => s | _ => ⟨#[]⟩
theorem nmA_get {k : Nat} (hk : k < 11) : nmA[k]? = some (.string (nmS k)) := by
  have : k = 0 ∨ k = 1 ∨ k = 2 ∨ k = 3 ∨ k = 4 ∨ k = 5 ∨ k = 6 ∨ k = 7 ∨ k = 8 ∨ k = 9 ∨ k = 10 := by omega
  rcases this with rfl | rfl | rfl | rfl | rfl | rfl | rfl | rfl | rfl | rfl | rfl <;> rfl
set_option maxHeartbeats 8000000 in
theorem kname_out (k : Int) (w : World) (hk : k < 0 ∨ 11 ≤ k) : Calls Tryz.prog 27 #[.int .i64 k] w fun en w' => en = .returned (.string ⟨#[]⟩) ∧ Below w.heap.size w w' := by
  have HB := Lib.hid ((Below.refl w.heap.size w).alloc (Nat.le_refl _) (.cells nmA 82))
  unfold nmA at HB
  by_cases h : k < 0
  · have d0 : decide (k < 0) = true := decide_eq_true h
    clear hk
    go_enter Tryz.func27, Tryz.ntmps27
    go_wp2_with fail
    go_ret
    exact ⟨rfl, HB.out⟩
  · have d0 : decide (k < 0) = false := decide_eq_false h
    have h2 : 11 ≤ k := by omega
    have d1 : decide (11 ≤ k) = true := decide_eq_true h2
    clear hk
    go_enter Tryz.func27, Tryz.ntmps27
    go_wp2_with fail
    go_ret
    exact ⟨rfl, HB.out⟩
set_option maxHeartbeats 8000000 in
theorem kname_in (k : Nat) (w : World) (hk : k < 11) : Calls Tryz.prog 27 #[.int .i64 (k : Int)] w fun en w' => en = .returned (.string (nmS k)) ∧ Below w.heap.size w w' := by
  have HB := Lib.hid ((Below.refl w.heap.size w).alloc (Nat.le_refl _) (.cells nmA 82))
  have hc := (Blk.new w 82 nmA).cell k
  rw [nmA_get hk] at hc
  unfold nmA at HB hc
  have h1 : ¬ (11 : Int) ≤ (k : Int) := by omega
  have d1 : decide ((11 : Int) ≤ (k : Int)) = false := decide_eq_false h1
  have h2 : (k : Int) < 11 := by omega
  obtain ⟨S, hS⟩ : ∃ S, S = nmS k := ⟨_, rfl⟩
  rw [← hS] at hc ⊢
  clear hS
  go_enter Tryz.func27, Tryz.ntmps27
  go_wp2_with fail
  go_ret
  exact ⟨rfl, HB.out⟩
end Go.Proofs.YtgcbdoljapnecaaGreat
namespace Go.Proofs.YtgcbdoljapnecaaGreat
open Go.RowKit Go.ChangeShapes Go.WideShapes Go.Deep
set_option linter.unusedVariables false
set_option maxRecDepth 20000
theorem cells_act24 : Tryz.prog.cellsOf 41 = 3 := by kernel_rfl
theorem cells_int24 : Tryz.prog.cellsOf 3 = 1 := by kernel_rfl
theorem act_fields24 : (match Tryz.prog.underlying 41 with | some (.struct fs) => fs.map (fun f => (f.type, f.offset)) | _ => #[]) = #[(3, 0), (3, 1), (3, 2)] := by kernel_rfl
theorem act_open {H : Type} {enc : TypeId × Value → H} {W : World} {b0 : Nat} {r : Reach} {v : Value} {D : DataW H} {Pl : List MemPlace} (hv : Value.okWide Tryz.prog W r b0 41 v)
    (h : DataW.Trod enc Tryz.prog W 0 (fun _ => true) true 41 v D Pl) : ∃ a b c : Int, v = .agg #[.int .i64 a, .int .i64 b, .int .i64 c] ∧ (Lit.int .i64 a).wf = true ∧ (Lit.int .i64 b).wf = true ∧ (Lit.int .i64 c).wf = true := by
  obtain ⟨fs, hfs⟩ : ∃ fs, Tryz.prog.underlying 41 = some (.struct fs) := ⟨_, Tryz.underlying41⟩
  unfold Value.okWide at hv
  rw [hfs] at hv
  obtain ⟨cs, rfl, hsz, -⟩ := hv
  rw [cells_act24] at hsz
  obtain ⟨fuel, hf⟩ := h
  have hc : Value.cells (.agg cs) = cs := rfl
  obtain ⟨ys, nn, _, _, _, hyl, hg⟩ := DataW.trod_struct hfs hf
  have hff := act_fields24
  rw [hfs] at hff
  have hsz3 : fs.size = 3 := by have := congrArg Array.size hff; simpa using this
  have fld : ∀ j (hj : j < 3), ∃ f, fs[j]? = some f ∧ (f.type, f.offset) = (#[(3, 0), (3, 1), (3, 2)] : Array (Nat × Nat)).getD j (0, 0) := fun j hj => by
    refine ⟨fs[j]'(by omega), Array.getElem?_eq_getElem (by omega), ?_⟩
    have h1 := congrArg (fun (q : Array (Nat × Nat)) => q[j]?) hff
    simp only [Array.getElem?_map, Array.getElem?_eq_getElem (show j < fs.size by omega), Option.map_some] at h1
    rw [Array.getD_eq_getD_getElem?, ← h1]; rfl
  have one : ∀ j (hj : j < 3), ∃ q : Int, cs[j]? = some (.int .i64 q) ∧ (Lit.int .i64 q).wf = true := fun j hj => by
    obtain ⟨f, g, e⟩ := fld j hj
    have e1 : f.type = 3 := by
      have : j = 0 ∨ j = 1 ∨ j = 2 := by omega
      rcases this with rfl | rfl | rfl <;> exact congrArg Prod.fst e
    have e2 : f.offset = j := by
      have : j = 0 ∨ j = 1 ∨ j = 2 := by omega
      rcases this with rfl | rfl | rfl <;> exact congrArg Prod.snd e
    have u := hg j f g
    rw [e1, e2, cells_int24, List.getElem?_eq_getElem (show j < ys.length by omega)] at u
    obtain ⟨q, e0, _, wf⟩ := DataW.trod_int Tryz.underlying3 u
    refine ⟨q, ?_, wf⟩
    have := congrArg (fun (z : List Value) => z[0]?) e0
    simp only [List.getElem?_take, List.getElem?_drop] at this
    simpa [Value.cells] using this
  obtain ⟨a, ha, wa⟩ := one 0 (by omega)
  obtain ⟨b, hb, wb⟩ := one 1 (by omega)
  obtain ⟨c, hc2, wc⟩ := one 2 (by omega)
  refine ⟨a, b, c, ?_, wa, wb, wc⟩
  have key : cs = #[.int .i64 a, .int .i64 b, .int .i64 c] := by
    apply Array.ext
    · rw [hsz]; rfl
    · intro i h1 h2
      have : i = 0 ∨ i = 1 ∨ i = 2 := by omega
      rw [Array.getElem?_eq_getElem (by omega)] at ha hb hc2
      rcases this with rfl | rfl | rfl
      · exact Option.some.inj ha
      · exact Option.some.inj hb
      · exact Option.some.inj hc2
  rw [key]
end Go.Proofs.YtgcbdoljapnecaaGreat
