/- The document's canonical map. -/
import Derived.Test.YtoncollcefanjaaZg21
import Derived.Test.YtoncollcefanjaaZg22
import Derived.Test.YtoncollcefanjaaZDPhi
import Derived.Laws.ResultCell
import Derived.Deep.RegionHeld3
import Derived.Deep.RegionWith
namespace Go.Proofs.Ytoncollcefanjaa
set_option maxRecDepth 100000
open Go.RowKit
set_option linter.unusedVariables false
/-- A map told into memory of its own: the canonical one. -/
def RCPost (w : World) (n : Nat) (l P Q : List Nat) (root lone : Int) (e : Ending) (w' : World) : Prop :=
  ∃ A c, e = .returned (.agg #[.slice A n c, .int .i64 (reRoot P root), .int .i64 lone]) ∧ n ≤ c ∧ c ≤ maxLen ∧ w'.ownsRow w.heap.size 3 1 (.slice A n c) n (I64 (ofN (cjL P Q l))) ∧ Below w.heap.size w w'
set_option maxHeartbeats 8000000 in
theorem rcanon_p (A : Option Addr) (c : Nat) (l b : List Nat) (root lone : Int) (L Q : List Nat) (w : World) (h : Rd w w.heap.size A l.length (I64 (ofN l))) (hinv : Inv l b) (hev : l.length % 2 = 0) (hlen : l.length ≤ 1000) (hroot : RootOk root l.length) (hC : CanO l root L Q) :
    Calls Try.prog 13 #[.agg #[.slice A l.length c, .int .i64 root, .int .i64 lone]] w (RCPost w l.length l L Q root lone) := by
  obtain ⟨i0, hi0, hz0, hz1, hz2⟩ := info_parts info_int
  have hb0 := ((Below.refl w.heap.size w).alloc (Nat.le_refl _) (.cells #[.slice A l.length c, .int .i64 root, .int .i64 lone] 26)).alloc (by simp) (.cells #[.slice none 0 0, .int .i64 0, .int .i64 0] 26)
  have HX := Lib.hid ((Blk.new w 26 #[.slice A l.length c, .int .i64 root, .int .i64 lone]).alloc (.cells #[.slice none 0 0, .int .i64 0, .int .i64 0] 26))
  have hy := (Blk.new (w.alloc (.cells #[.slice A l.length c, .int .i64 root, .int .i64 lone] 26)) 26 #[.slice none 0 0, .int .i64 0, .int .i64 0])
  rw [show (w.alloc (.cells #[.slice A l.length c, .int .i64 root, .int .i64 lone] 26)).heap.size = w.heap.size + 1 by simp] at hy
  have HY := Lib.hid hy
  have HR := Lib.hid (h.more hb0)
  have HB0 := Lib.hid hb0
  have HINF := Lib.hid info_rmap
  have HI := Lib.hid hinv
  have HRT := Lib.hid hroot
  have HNAM0 : Hid (Nam l.length L Q) := CanO.nam (b := b) hC
  have NP : Hid (∀ W, Below w.heap.size w W → Calls Try.prog 16 #[.agg #[.slice A l.length c, .int .i64 root, .int .i64 lone]] W (NewI64 W (ofN L))) := fun W z => rcnames_p A c l b root lone L Q W ((h.below z).up z.size) hinv hev hlen hroot hC
  obtain ⟨q, hN⟩ : ∃ q, q = l.length := ⟨_, rfl⟩
  have HNN := Lib.hid hN
  have hq1000 : q ≤ 1000 := by omega
  rw [← hN] at HX HR HB0 HY NP HNAM0 ⊢
  clear h hb0 hinv hy hroot hev hlen hN hC
  go_enter Try.func13, Try.ntmps13
  go_upto_region 1 with fail
  generalize hw3 : (w.alloc (.cells #[.slice A q c, .int .i64 root, .int .i64 lone] 26)).alloc (.cells #[.slice none 0 0, .int .i64 0, .int .i64 0] 26) = w3 at *
  have hs3 : w3.heap.size = w.heap.size + 2 := by rw [← hw3]; simp
  have x0 : w3.cell? ⟨w.heap.size, 0, none⟩ = some (.slice A q c) := HX.out.cell 0
  have x1 : w3.cell? ⟨w.heap.size, 1, none⟩ = some (.int .i64 root) := HX.out.cell 1
  have x2 : w3.cell? ⟨w.heap.size, 2, none⟩ = some (.int .i64 lone) := HX.out.cell 2
  clear hw3
  have c3' : ∀ W : World, Below w3.heap.size w3 W → ∀ o, W.cell? ⟨w.heap.size, o, none⟩ = w3.cell? ⟨w.heap.size, o, none⟩ := fun W m o => m.cell (p := ⟨w.heap.size, o, none⟩) (show w.heap.size < w3.heap.size by omega)
  have SK : Hid (∀ W, Below w3.heap.size w3 W → W.cell? ⟨w.heap.size, 0, none⟩ = some (.slice A q c) ∧ W.cell? ⟨w.heap.size, 1, none⟩ = some (.int .i64 root) ∧ W.cell? ⟨w.heap.size, 2, none⟩ = some (.int .i64 lone)) := fun W m => ⟨(c3' W m 0).trans x0, (c3' W m 1).trans x1, (c3' W m 2).trans x2⟩
  have BK : Hid (∀ W, Below w3.heap.size w3 W → Below w.heap.size w W) := fun W m => HB0.out.trans (m.mono HB0.out.size)
  clear c3'
  have N1 := Lib.hid (NP.out w3 HB0.out)
  clear NP
  go_wp2_with fail
  refine N1.out.mono ?_
  rintro e wr ⟨Av, cv, rfl, hqc, hcv, hO, z⟩
  have hPl : L.length = q := HNAM0.out.len
  rw [ofN_len, hPl] at hO hqc ⊢
  have HNAM : Hid (Nam q L Q) := HNAM0
  have HLL : Hid (L.length = q) := hPl
  have B5 : Hid (Below w3.heap.size w3 wr) := z
  have HOL : Hid (wr.ownsRow w3.heap.size 3 1 (.slice Av q cv) q (I64 (ofN L))) := hO
  have HFR : Hid (∀ W, Below wr.heap.size wr W → W.ownsRow w3.heap.size 3 1 (.slice Av q cv) q (I64 (ofN L))) := fun W m => own_below HOL.out m
  clear hO z N1 hPl HNAM0 x0 x1 x2
  have hq1 : q ≤ 1000 := by omega
  have hmk := run_make_one (P := Try.prog) 24 3 i0 (.int .i64 0) 8 Try.underlying24 hi0 hz0 hz1 hz2 rfl .i64 .i64 q (by omega) (by omega)
  have hs5 := B5.out.size
  have Z0 := Below.refl wr.heap.size wr
  obtain ⟨z0, z1, z2⟩ := SK.out _ B5.out
  have SK1 : ∀ o1, (wr.alloc o1).cell? ⟨w.heap.size, 0, none⟩ = some (.slice A q c) ∧ (wr.alloc o1).cell? ⟨w.heap.size, 1, none⟩ = some (.int .i64 root) ∧ (wr.alloc o1).cell? ⟨w.heap.size, 2, none⟩ = some (.int .i64 lone) := fun o1 => SK.out _ (B5.out.trans ((Z0.alloc (Nat.le_refl _) o1).mono hs5))
  have SK2 : ∀ o1 o2, ((wr.alloc o1).alloc o2).cell? ⟨w.heap.size, 0, none⟩ = some (.slice A q c) ∧ ((wr.alloc o1).alloc o2).cell? ⟨w.heap.size, 1, none⟩ = some (.int .i64 root) ∧ ((wr.alloc o1).alloc o2).cell? ⟨w.heap.size, 2, none⟩ = some (.int .i64 lone) := fun o1 o2 => SK.out _ (B5.out.trans (((Z0.alloc (Nat.le_refl _) o1).alloc (by simp) o2).mono hs5))
  obtain ⟨ma0, ma1, ma2⟩ := SK1 (.cells (Array.replicate q (.int .i64 0)) 3)
  obtain ⟨mb0, mb1, mb2⟩ := SK1 (.cells #[.slice none 0 0, .int .i64 0, .int .i64 0] 26)
  obtain ⟨mc0, mc1, mc2⟩ := SK2 (.cells (Array.replicate q (.int .i64 0)) 3) (.cells #[.slice none 0 0, .int .i64 0, .int .i64 0] 26)
  obtain ⟨md0, md1, md2⟩ := SK2 (.cells #[.slice none 0 0, .int .i64 0, .int .i64 0] 26) (.cells (Array.replicate q (.int .i64 0)) 3)
  clear SK1 SK2
  have FA : Hid (∃ g7 gS, (Value.pointer (some ⟨wr.heap.size + 1, 0, none⟩)) = .pointer (some ⟨g7, 0, none⟩) ∧ g7 ≠ gS ∧ wr.heap.size ≤ g7 ∧ wr.heap.size ≤ gS ∧ g7 < (((wr.alloc (.cells (Array.replicate q (.int .i64 0)) 3)).alloc (.cells #[.slice (some ⟨wr.heap.size, 0, none⟩) q q, .int .i64 root, .int .i64 lone] 26)).drew).heap.size ∧ gS < (((wr.alloc (.cells (Array.replicate q (.int .i64 0)) 3)).alloc (.cells #[.slice (some ⟨wr.heap.size, 0, none⟩) q q, .int .i64 root, .int .i64 lone] 26)).drew).heap.size ∧ Hid (Blk (((wr.alloc (.cells (Array.replicate q (.int .i64 0)) 3)).alloc (.cells #[.slice (some ⟨wr.heap.size, 0, none⟩) q q, .int .i64 root, .int .i64 lone] 26)).drew) g7 26 #[.slice (some ⟨gS, 0, none⟩) q q, .int .i64 root, .int .i64 lone]) ∧ Hid ((((wr.alloc (.cells (Array.replicate q (.int .i64 0)) 3)).alloc (.cells #[.slice (some ⟨wr.heap.size, 0, none⟩) q q, .int .i64 root, .int .i64 lone] 26)).drew).ownsRow wr.heap.size 3 1 (.slice (some ⟨gS, 0, none⟩) q q) q (I64 (List.replicate q 0))) ∧ Hid (Below wr.heap.size wr (((wr.alloc (.cells (Array.replicate q (.int .i64 0)) 3)).alloc (.cells #[.slice (some ⟨wr.heap.size, 0, none⟩) q q, .int .i64 root, .int .i64 lone] 26)).drew))) := by
    have o1 := own_made wr 3 q (.int .i64 0) (by simp only [maxLen]; omega)
    rw [List.toArray_replicate] at o1
    have k1 := Blk.new (wr.alloc (.cells (Array.replicate q (.int .i64 0)) 3)) 26 #[.slice (some ⟨wr.heap.size, 0, none⟩) q q, .int .i64 root, .int .i64 lone]
    have es : (wr.alloc (.cells (Array.replicate q (.int .i64 0)) 3)).heap.size = wr.heap.size + 1 := by simp
    rw [es] at k1
    refine ⟨wr.heap.size + 1, wr.heap.size, rfl, by omega, by omega, by omega, by simp, by simp; omega, k1.drewN 1, ?_, ?_⟩
    · have o2 := own_below (o1.alloc (.cells #[.slice (some ⟨wr.heap.size, 0, none⟩) q q, .int .i64 root, .int .i64 lone] 26)) (Below.refl _ _).drew
      rw [show I64 (List.replicate q 0) = List.replicate q (.int .i64 0) by simp [I64]]
      exact o2
    · exact ((Z0.alloc (Nat.le_refl _) _).alloc (by simp) _).drew
  have FB : Hid (∃ g7 gS, (Value.pointer (some ⟨wr.heap.size, 0, none⟩)) = .pointer (some ⟨g7, 0, none⟩) ∧ g7 ≠ gS ∧ wr.heap.size ≤ g7 ∧ wr.heap.size ≤ gS ∧ g7 < (((wr.alloc (.cells #[.slice (some ⟨wr.heap.size + 1, 0, none⟩) q q, .int .i64 root, .int .i64 lone] 26)).alloc (.cells (Array.replicate q (.int .i64 0)) 3)).drew).heap.size ∧ gS < (((wr.alloc (.cells #[.slice (some ⟨wr.heap.size + 1, 0, none⟩) q q, .int .i64 root, .int .i64 lone] 26)).alloc (.cells (Array.replicate q (.int .i64 0)) 3)).drew).heap.size ∧ Hid (Blk (((wr.alloc (.cells #[.slice (some ⟨wr.heap.size + 1, 0, none⟩) q q, .int .i64 root, .int .i64 lone] 26)).alloc (.cells (Array.replicate q (.int .i64 0)) 3)).drew) g7 26 #[.slice (some ⟨gS, 0, none⟩) q q, .int .i64 root, .int .i64 lone]) ∧ Hid ((((wr.alloc (.cells #[.slice (some ⟨wr.heap.size + 1, 0, none⟩) q q, .int .i64 root, .int .i64 lone] 26)).alloc (.cells (Array.replicate q (.int .i64 0)) 3)).drew).ownsRow wr.heap.size 3 1 (.slice (some ⟨gS, 0, none⟩) q q) q (I64 (List.replicate q 0))) ∧ Hid (Below wr.heap.size wr (((wr.alloc (.cells #[.slice (some ⟨wr.heap.size + 1, 0, none⟩) q q, .int .i64 root, .int .i64 lone] 26)).alloc (.cells (Array.replicate q (.int .i64 0)) 3)).drew))) := by
    have o1 := own_made (wr.alloc (.cells #[.slice (some ⟨wr.heap.size + 1, 0, none⟩) q q, .int .i64 root, .int .i64 lone] 26)) 3 q (.int .i64 0) (by simp only [maxLen]; omega)
    rw [List.toArray_replicate] at o1
    have k1 := (Blk.new wr 26 #[.slice (some ⟨wr.heap.size + 1, 0, none⟩) q q, .int .i64 root, .int .i64 lone]).alloc (.cells (Array.replicate q (.int .i64 0)) 3)
    have es : (wr.alloc (.cells #[.slice (some ⟨wr.heap.size + 1, 0, none⟩) q q, .int .i64 root, .int .i64 lone] 26)).heap.size = wr.heap.size + 1 := by simp
    refine ⟨wr.heap.size, wr.heap.size + 1, rfl, by omega, by omega, by omega, by simp; omega, by simp, k1.drewN 1, ?_, ?_⟩
    · have o2 := (own_below o1 (Below.refl _ _).drew).base_le' (show wr.heap.size ≤ _ by rw [es]; omega)
      rw [es] at o2
      rw [show I64 (List.replicate q 0) = List.replicate q (.int .i64 0) by simp [I64]]
      exact o2
    · exact ((Z0.alloc (Nat.le_refl _) _).alloc (by simp) _).drew
  have wq : IntKind.i64.wrap (q : Int) = (q : Int) := by simp [IntKind.wrap, IntKind.signed, IntKind.bits]; omega
  go_upto_region 2 with fail
  go_cut [4] from 9 to 17 (fun s wx => ∃ g7 gS, s = .pointer (some ⟨g7, 0, none⟩) ∧ g7 ≠ gS ∧ wr.heap.size ≤ g7 ∧ wr.heap.size ≤ gS ∧ g7 < wx.heap.size ∧ gS < wx.heap.size ∧ Hid (Blk wx g7 26 #[.slice (some ⟨gS, 0, none⟩) q q, .int .i64 root, .int .i64 lone]) ∧ Hid (wx.ownsRow wr.heap.size 3 1 (.slice (some ⟨gS, 0, none⟩) q q) q (I64 (List.replicate q 0))) ∧ Hid (Below wr.heap.size wr wx))
  case first =>
    clear ma0 mc0 md0
    go_region
    all_goals (go_wp2_with fail)
    all_goals (go_meet)
    all_goals (first | exact FA.out | exact FB.out)
  case rest =>
    obtain ⟨g7, gS, rfl, hne, h37, h3S, h7c, hSc, HB7, HOS, HBW⟩ := hcut
    clear FA FB hmk ma0 ma1 ma2 mb0 mb1 mb2 mc0 mc1 mc2 md0 md1 md2 Z0 z0 z1 z2
    have HNE : Hid (g7 ≠ gS) := hne
    clear hne
    obtain ⟨x0, x1, x2⟩ := SK.out _ (B5.out.trans (HBW.out.mono hs5))
    obtain ⟨wr0, rfl⟩ : ∃ wr0 : World, wr0 = wr := ⟨_, rfl⟩
    go_wp2_with fail
    go_loopw [21] (fun i wx => ∃ (d : Nat) (y : List Int), d ≤ q ∧ i = .int .i64 (d : Int) ∧ Hid (y.length = q ∧ ∀ j, j < d → y.getD (L.getD j 0) 0 = ((L.getD (l.getD j 0) 0 : Nat) : Int)) ∧ Hid (Blk wx g7 26 #[.slice (some ⟨gS, 0, none⟩) q q, .int .i64 root, .int .i64 lone]) ∧ Hid (wx.ownsRow wr0.heap.size 3 1 (.slice (some ⟨gS, 0, none⟩) q q) q (I64 y)) ∧ Hid (Below wr0.heap.size wr0 wx)) (fun i _ => q - (intOf i).toNat)
    case atStart => exact ⟨0, List.replicate q 0, by omega, rfl, ⟨by simp, fun j hj => by omega⟩, HB7, HOS, HBW⟩
    case round =>
      clear HB7 HOS HBW x0 x1 x2
      obtain ⟨d, y, hd, rfl, HYY, HB7, HOS, HBW⟩ := hrel
      have hba := B5.out.trans (HBW.out.mono hs5)
      by_cases hlt : d < q
      · obtain ⟨ba, oa, rfl, hbB, hcz⟩ := (HR.out.more hba).i64 (by omega)
        have ca := hcz d hlt
        rw [ofN_get] at ca
        obtain ⟨gL, oL, rfl, hbL, hcL⟩ := (Rd.ofOwn (HFR.out _ HBW.out)).i64 (by omega)
        have hxl : l.getD d 0 < q := by have := HI.out.lt d (by rw [← HNN.out]; exact hlt); rwa [← HNN.out] at this
        have c1 := hcL d hlt
        have c2 := hcL (l.getD d 0) hxl
        rw [ofN_get] at c1 c2
        have hyl : L.getD d 0 < q := HNAM.out.lt hlt
        have r0 := HB7.out.cell 0
        simp at r0
        have hcS := own_cellI HOS.out (L.getD d 0) hyl
        have hfS := HOS.out.frozenAt (L.getD d 0)
        have hvl : L.getD (l.getD d 0) 0 < q := HNAM.out.lt hxl
        have HZ : Hid ((y.set (L.getD d 0) ((L.getD (l.getD d 0) 0 : Nat) : Int)).length = q ∧ ∀ j, j < d + 1 → (y.set (L.getD d 0) ((L.getD (l.getD d 0) 0 : Nat) : Int)).getD (L.getD j 0) 0 = ((L.getD (l.getD j 0) 0 : Nat) : Int)) := by
          obtain ⟨z1, z2⟩ := HYY.out
          refine ⟨by rw [List.length_set]; exact z1, fun j hj => ?_⟩
          rw [getDI_set _ _ _ _ (by rw [z1]; exact hyl)]
          by_cases e : j = d
          · rw [e, if_pos rfl]
          · rw [if_neg (fun e2 => e (HNAM.out.inv.inj j d (by rw [HNAM.out.len]; omega) (by rw [HNAM.out.len]; omega) e2))]
            exact z2 j (by omega)
        have HBN : Hid (∀ u, Blk (wr.setCell ⟨gS, L.getD d 0, none⟩ u) g7 26 #[.slice (some ⟨gS, 0, none⟩) q q, .int .i64 root, .int .i64 lone]) := fun u =>
          HB7.out.mod (Mod.setCell (p := ⟨gS, L.getD d 0, none⟩) (Mod.refl (fun i => i = gS) wr) (fun _ => rfl) _) HNE.out
        have HBW2 : Hid (∀ u, Below wr0.heap.size wr0 (wr.setCell ⟨gS, L.getD d 0, none⟩ u)) := fun u => HBW.out.setCell (p := ⟨gS, L.getD d 0, none⟩) h3S _
        have HO2 := Lib.hid (own_setI HOS.out (L.getD d 0) ((L.getD (l.getD d 0) 0 : Nat) : Int))
        have FIN := Lib.hid (And.intro ((HBN.out (.int .i64 ((L.getD (l.getD d 0) 0 : Nat) : Int))).drewN 1) (And.intro (own_below HO2.out (Below.refl _ _).drew) ((HBW2.out (.int .i64 ((L.getD (l.getD d 0) 0 : Nat) : Int))).drew)))
        have hdi : (d : Int) < (q : Int) := by omega
        clear HBN HO2 HBW2 HB7 HOS hcz hcL HYY hba
        generalize L.getD (l.getD d 0) 0 = v at *
        generalize L.getD d 0 = xp at *
        generalize l.getD d 0 = xl at *
        generalize y.getD xp 0 = yo at *
        have hxi : (xl : Int) < (q : Int) := by omega
        have hpi : (xp : Int) < (q : Int) := by omega
        go_wp2_with fail
        go_region
        all_goals (
          go_wp2_with fail
          go_roundw
          case rel => exact ⟨d + 1, _, by omega, by go_num, HZ, FIN.out.1, FIN.out.2.1, FIN.out.2.2⟩
          case measure => simp [intOf]; omega)
      · obtain rfl : d = q := by omega
        have hyT : y = ofN (cjL L Q l) := by
          have hlq : l.length = d := HNN.out.symm
          refine getDI_ext (by rw [HYY.out.1, ofN_len, cjL_len, hlq]) fun i hi => ?_
          rw [HYY.out.1] at hi
          have hj := HNAM.out.lt' hi
          have h1 := HYY.out.2 (sgL Q i) hj
          have h2 : L.getD (sgL Q i) 0 = i := HNAM.out.pq hi
          rw [h2] at h1
          rw [h1, ofN_get]
          have h3 : sgL (cjL L Q l) i = sgL L (sgL l (sgL Q i)) := cjL_get L Q l (by rw [hlq]; exact hi)
          exact congrArg _ h3.symm
        have HOT : Hid (wr.ownsRow wr0.heap.size 3 1 (.slice (some ⟨gS, 0, none⟩) d d) d (I64 (ofN (cjL L Q l)))) := by
          show World.ownsRow _ _ _ _ _ _ _
          rw [← hyT]; exact HOS.out
        clear hyT HYY HOS hlt
        have END : Hid (∀ wz AT cT RT, RT = reRoot L root → Below wr0.heap.size wr0 wz → d ≤ cT → cT ≤ maxLen → wz.ownsRow wr0.heap.size 3 1 (.slice AT d cT) d (I64 (ofN (cjL L Q l))) →
            Blk (((wz.setCell ⟨w.heap.size + 1, 0, none⟩ (.slice AT d cT)).setCell ⟨w.heap.size + 1, 1, none⟩ (.int .i64 RT)).setCell ⟨w.heap.size + 1, 2, none⟩ (.int .i64 lone)) (w.heap.size + 1) 26 #[.slice AT d cT, .int .i64 RT, .int .i64 lone] ∧
            RCPost w d l L Q root lone (.returned (.agg #[.slice AT d cT, .int .i64 RT, .int .i64 lone])) (((wz.setCell ⟨w.heap.size + 1, 0, none⟩ (.slice AT d cT)).setCell ⟨w.heap.size + 1, 1, none⟩ (.int .i64 RT)).setCell ⟨w.heap.size + 1, 2, none⟩ (.int .i64 lone))) := fun wz AT cT RT hRT hbz hc1 hc2 hown => by
          have hz3 := B5.out.trans (hbz.mono hs5)
          have hb3 := BK.out _ hz3
          obtain ⟨e1, e2, e3⟩ := box_ret (LF := lone) (RT := RT) (show w.heap.size ≤ w.heap.size + 1 by omega) hb3 (HY.out.below hz3) hown
          exact ⟨e1, AT, cT, by rw [hRT], hc1, hc2, e2.base_le' (by have := B5.out.size; omega), e3⟩
        have r0 := HB7.out.cell 0
        have r1 := HB7.out.cell 1
        have r2 := HB7.out.cell 2
        have f1 := HB7.out.frozen 1
        simp at r0 r1 r2
        obtain ⟨x0, x1, x2⟩ := SK.out _ hba
        have HYZ := Lib.hid (HY.out.below hba)
        have q0 := HYZ.out.cell 0
        have q1 := HYZ.out.cell 1
        have q2 := HYZ.out.cell 2
        have g0 := HYZ.out.frozen 0
        have g1 := HYZ.out.frozen 1
        have g2 := HYZ.out.frozen 2
        simp at q0 q1 q2
        have hqm : d ≤ maxLen := by simp only [maxLen]; omega
        by_cases hd0 : d = 0
        · subst hd0
          have hRT0 : root = -1 := by
            have hq := HNN.out
            rcases HRT.out with ⟨_, e⟩ | ⟨e, _⟩
            · exact e
            · omega
          have F := Lib.hid (END.out wr (some ⟨gS, 0, none⟩) 0 root (by rw [hRT0]; rfl) HBW.out (Nat.le_refl _) hqm HOT.out)
          clear END hRT0
          go_wp2_with fail
          refine bodyPost_ret (results_cell_row rfl _ _ (w.heap.size + 1) 26 _ (0, 0) _ rfl F.out.1 Try.underlying26 rfl HINF.out) rfl ?_
          exact F.out.2
        · obtain ⟨r, hr, hrd⟩ : ∃ r : Nat, root = (r : Int) ∧ r < d := by
            have hq := HNN.out
            rcases HRT.out with ⟨e, _⟩ | ⟨_, e1, e2⟩
            · omega
            · exact ⟨root.toNat, by omega, by omega⟩
          subst hr
          obtain ⟨gL, oL, rfl, hbL, hcL⟩ := (Rd.ofOwn (HFR.out _ HBW.out)).i64 (by omega)
          have cr := hcL r hrd
          rw [ofN_get] at cr
          have hRT1 : ((L.getD r 0 : Nat) : Int) = reRoot L (r : Int) := by
            unfold reRoot
            rw [if_neg (by omega), Int.toNat_natCast]
          have HBN : Hid (Blk (wr.setCell ⟨g7, 1, none⟩ (.int .i64 ((L.getD r 0 : Nat) : Int))) g7 26 #[.slice (some ⟨gS, 0, none⟩) d d, .int .i64 ((L.getD r 0 : Nat) : Int), .int .i64 lone]) := by
            have := HB7.out.set_ 1 (.int .i64 ((L.getD r 0 : Nat) : Int))
            show Blk _ _ _ _
            simpa using this
          have HOT2 := own_mod HOT.out (Mod.setCell (p := ⟨g7, 1, none⟩) (Mod.refl (fun i => i = g7) wr) (fun _ => rfl) (.int .i64 ((L.getD r 0 : Nat) : Int))) (fun q hq c => by
            simp [Value.ownBlock] at hq; have := HNE.out; omega)
          have F := Lib.hid (END.out _ (some ⟨gS, 0, none⟩) d _ hRT1 (HBW.out.setCell (p := ⟨g7, 1, none⟩) h37 (.int .i64 ((L.getD r 0 : Nat) : Int))) (Nat.le_refl _) hqm HOT2)
          have b0 := HBN.out.cell 0
          have b1 := HBN.out.cell 1
          have b2 := HBN.out.cell 2
          simp at b0 b1 b2
          have hdp : decide (0 < d) = true := decide_eq_true (by omega)
          have hdpi : (0 : Int) < (d : Int) := by omega
          have hri : (r : Int) < (d : Int) := by omega
          clear END hRT1 HOT2 hcL
          generalize L.getD r 0 = rv at *
          go_wp2_with fail
          refine bodyPost_ret (results_cell_row rfl _ _ (w.heap.size + 1) 26 _ (0, 0) _ rfl F.out.1 Try.underlying26 rfl HINF.out) rfl ?_
          exact F.out.2
end Go.Proofs.Ytoncollcefanjaa
