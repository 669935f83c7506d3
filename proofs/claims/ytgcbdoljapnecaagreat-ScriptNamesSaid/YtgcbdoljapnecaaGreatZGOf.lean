/- How darts turn while a map grows: turnsOf, drawn, ready. -/
import Derived.Test.YtgcbdoljapnecaaGreatZg4
namespace Go.Proofs.YtgcbdoljapnecaaGreat
set_option maxRecDepth 100000
open Go.RowKit
set_option linter.unusedVariables false
/-- Turns made of a map. -/
def NewTurns (w : World) (l b : List Nat) (e : Ending) (w' : World) : Prop :=
  ∃ gx, e = .returned (.pointer (some ⟨gx, 0, none⟩)) ∧ TurnsAt w' w.heap.size gx l b ∧ Below w.heap.size w w'
set_option maxHeartbeats 4000000 in
theorem turnsOf_p (g : Nat) (l b : List Nat) (root lone : Int) (w : World) (h : MapAt w g l b root lone) (hi : Inv l b) :
    Calls Tryz.prog 97 #[.pointer (some ⟨g, 0, none⟩)] w (NewTurns w l b) := by
  have hn := h.2.1
  have LP := Lib.hid (mlist_p g l b root lone w h)
  have DP : Hid (∀ W, Below w.heap.size w W → Calls Tryz.prog 24 #[.pointer (some ⟨g, 0, none⟩)] W fun e w' => e = .returned (.int .i64 (l.length : Int)) ∧ Below W.heap.size W w') := fun W m => darts_p g l b root lone W (h.below m)
  obtain ⟨i0, hi0, hz0, hz1, hz2⟩ := info_parts info_int
  have hmk := run_make_one (P := Tryz.prog) 29 3 i0 (.int .i64 0) 8 Tryz.underlying29 hi0 hz0 hz1 hz2 rfl .i64 .i64 l.length (by omega) (by omega)
  have HI := Lib.hid hi
  clear h hi
  go_enter Tryz.func97, Tryz.ntmps97
  go_wp2_with fail
  refine LP.out.mono ?_
  rintro e w1 ⟨A1, c1, rfl, hc1, hm1, hown1, b1⟩
  rw [ofN_len] at hc1 hown1 ⊢
  have O1 := Lib.hid hown1
  have B1 := Lib.hid b1
  clear hown1 b1 LP
  go_wp2_with fail
  refine (DP.out _ B1.out).mono ?_
  rintro e w2 ⟨rfl, b2⟩
  have O2 := own_below O1.out b2
  have B2 := B1.out.trans (b2.mono B1.out.size)
  have om := own_made w2 3 l.length (.int .i64 0) (by simp only [maxLen]; omega)
  have O2a := O2.alloc (.cells (List.replicate l.length (.int .i64 0)).toArray 3)
  have hbm := Blk.new (w2.alloc (.cells (List.replicate l.length (.int .i64 0)).toArray 3)) 139 #[.slice A1 l.length c1, .slice (some ⟨w2.heap.size, 0, none⟩) l.length l.length]
  rw [show (w2.alloc (.cells (List.replicate l.length (.int .i64 0)).toArray 3)).heap.size = w2.heap.size + 1 by simp] at hbm
  have omb := om.alloc (.cells #[.slice A1 l.length c1, .slice (some ⟨w2.heap.size, 0, none⟩) l.length l.length] 139)
  have O2b := O2a.alloc (.cells #[.slice A1 l.length c1, .slice (some ⟨w2.heap.size, 0, none⟩) l.length l.length] 139)
  have B2b := (B2.alloc B2.size (.cells (List.replicate l.length (.int .i64 0)).toArray 3)).alloc (by have := B2.size; simp; omega) (.cells #[.slice A1 l.length c1, .slice (some ⟨w2.heap.size, 0, none⟩) l.length l.length] 139)
  have hw1 := B1.out.size
  have hw2 := B2.size
  have djA : Hid (∀ k, (Value.slice A1 l.length c1).ownBlock = some k → (Value.slice (some ⟨w2.heap.size, 0, none⟩) l.length l.length).ownBlock ≠ some k) := fun k hk hk2 => by
    have := (O2.lt k hk).2
    simp [Value.ownBlock] at hk2
    omega
  have OM : Hid (_ ∧ _ ∧ _ ∧ _) := ⟨hbm, omb, O2b, B2b⟩
  rw [show (List.replicate l.length (Value.int .i64 0)).toArray = Array.replicate l.length (Value.int .i64 0) from List.toArray_replicate _ _] at OM
  rw [show List.replicate l.length (Value.int .i64 0) = I64 (List.replicate l.length 0) by simp [I64]] at OM
  clear O1 b2 O2 B2 om O2a hbm omb O2b B2b DP B1
  go_upto_region 2 with fail
  generalize hwx : ((w2.alloc (.cells (Array.replicate l.length (.int .i64 0)) 3)).alloc (.cells #[.slice A1 l.length c1, .slice (some ⟨w2.heap.size, 0, none⟩) l.length l.length] 139)) = wx at *
  clear hwx
  have hb := OM.out.1
  have r0 := hb.cell 0
  have r1 := hb.cell 1
  simp at r0 r1
  clear hb
  go_wp2_with fail
  go_loopw [18] (fun i wr => ∃ (k : Nat) (y : List Int), k ≤ l.length ∧ i = .int .i64 (k : Int) ∧ Hid (y.length = l.length ∧ ∀ j, j < k → y.getD (l.getD j 0) 0 = (j : Int)) ∧ Hid (wr.ownsRow w2.heap.size 3 1 (.slice (some ⟨w2.heap.size, 0, none⟩) l.length l.length) l.length (I64 y)) ∧ Hid (Mod (fun i => i = w2.heap.size) wx wr)) (fun i _ => l.length - (intOf i).toNat)
  case atStart => exact ⟨0, List.replicate l.length 0, by omega, rfl, ⟨by simp, fun j hj => by omega⟩, OM.out.2.1, Mod.refl _ _⟩
  case round =>
    obtain ⟨k, y, hk, rfl, HY, HO, HM⟩ := hrel
    by_cases hlt : k < l.length
    · have hdk : decide (k < l.length) = true := decide_eq_true hlt
      obtain ⟨gA, rfl, hgA, hgAx⟩ := own_some OM.out.2.2.1 (by omega)
      have nA : gA ≠ w2.heap.size := fun e => djA.out gA (by simp [Value.ownBlock]) (by simp [Value.ownBlock, e])
      have cx := own_cellI OM.out.2.2.1 k hlt
      rw [ofN_get] at cx
      have cx' := (HM.out.cell hgAx nA k).trans cx
      have hbx := OM.out.1.lt
      have nx : w2.heap.size + 1 ≠ w2.heap.size := by omega
      have q1 := (HM.out.cell hbx nx 1).trans r1
      have hxl := HI.out.lt k hlt
      have cB := own_cellI HO.out (l.getD k 0) hxl
      have fB := HO.out.frozenAt (l.getD k 0)
      have HY2 : Hid ((y.set (l.getD k 0) (k : Int)).length = l.length ∧ ∀ j, j < k + 1 → (y.set (l.getD k 0) (k : Int)).getD (l.getD j 0) 0 = (j : Int)) := by
        refine ⟨by rw [List.length_set]; exact HY.out.1, fun j hj => ?_⟩
        rw [getDI_set _ _ _ _ (by rw [HY.out.1]; exact hxl)]
        by_cases c : j = k
        · rw [c, if_pos rfl]
        · rw [if_neg (fun q => c (HI.out.inj j k (by omega) hlt q))]
          exact HY.out.2 j (by omega)
      have HO2 := Lib.hid (own_setI HO.out (l.getD k 0) (k : Int))
      have HM2 : Hid (Mod (fun i => i = w2.heap.size) wx (wr.setCell ⟨w2.heap.size, l.getD k 0, none⟩ (.int .i64 (k : Int)))) := HM.out.setCell (p := ⟨w2.heap.size, l.getD k 0, none⟩) (fun _ => rfl) _
      have hki : (l.getD k 0 : Int) < (l.length : Int) := by omega
      clear HO HM HY cx
      generalize l.getD k 0 = x at *
      go_wp2_with fail
      go_roundw
      case rel => exact ⟨k + 1, _, by omega, by go_num, HY2, HO2, HM2⟩
      case measure => simp [intOf]; omega
    · obtain rfl : k = l.length := by omega
      have hdk : decide (l.length < l.length) = false := by simp
      have hyb : y = ofN b := by
        refine getDI_ext (by rw [HY.out.1, ofN_len, HI.out.len]) fun i hi => ?_
        rw [HY.out.1] at hi
        have h1 := HI.out.lt' i hi
        have h2 := HY.out.2 (b.getD i 0) h1
        rw [HI.out.bl i hi] at h2
        rw [h2, ofN_get]
      have FIN : Hid (TurnsAt wr w.heap.size (w2.heap.size + 1) l b ∧ Below w.heap.size w wr) := by
        have nx : w2.heap.size + 1 ≠ w2.heap.size := by omega
        refine ⟨⟨HI.out.len, by omega, A1, c1, some ⟨w2.heap.size, 0, none⟩, l.length, OM.out.1.mod HM.out nx, ?_, ?_, djA.out, fun k hk => (OM.out.2.2.1.lt k hk).1, fun k hk => by simp [Value.ownBlock] at hk; omega⟩, ?_⟩
        · exact (own_mod OM.out.2.2.1 HM.out (fun q hq c => djA.out q hq (by simp [Value.ownBlock]; omega))).base_le' (Nat.zero_le _)
        · rw [← hyb]; exact HO.out.base_le' (Nat.zero_le _)
        · exact OM.out.2.2.2.trans (HM.out.belowB OM.out.2.2.2.size (fun i hi c => by omega))
      clear hyb HY HO HM
      go_wp2_with fail
      go_ret
      exact ⟨_, rfl, FIN.out.1, FIN.out.2⟩
set_option maxHeartbeats 4000000 in
theorem drawn_p (base gx g : Nat) (l b l0 b0 : List Nat) (root lone : Int) (w : World) (h : TurnsAt w base gx l b) (hm : MapAt w g l0 b0 root lone) (hi : Inv l b) (hev : l.length % 2 = 0) (hn : l.length ≤ 131072) (hr : RootOk root l.length) :
    Calls Tryz.prog 100 #[.pointer (some ⟨gx, 0, none⟩), .pointer (some ⟨g, 0, none⟩)] w (NewMap w l b root lone) := by
  have hl := hm.1.2
  have RP : Hid (∀ W, (∃ n, W = w.drewN n) → Calls Tryz.prog 14 #[.pointer (some ⟨g, 0, none⟩)] W fun e w' => e = .returned (.int .i64 root) ∧ W = w') := fun W hW => by
    obtain ⟨n, rfl⟩ := hW
    exact root_p g l0 b0 root lone _ (hm.below (below_draws (Below.refl _ _) n))
  have LP : Hid (∀ W, (∃ n, W = w.drewN n) → Calls Tryz.prog 15 #[.pointer (some ⟨g, 0, none⟩)] W fun e w' => e = .returned (.int .i64 lone) ∧ W = w') := fun W hW => by
    obtain ⟨n, rfl⟩ := hW
    exact lone_p g l0 b0 root lone _ (hm.below (below_draws (Below.refl _ _) n))
  obtain ⟨h1, h2, A, c, A', c', hb, o1, o2, dj, d1, d2⟩ := h
  have NP : Hid (Calls Tryz.prog 19 #[.slice A l.length c, .int .i64 root, .int .i64 lone] w.drew (NewMap w l b root lone)) := by
    have := new_ok A l.length c l b root lone w.drew (Rd.ofOwn (own_below o1 (Below.refl _ _).drew)) hi hev hn hr hl.1 hl.2
    refine this.mono ?_
    rintro e w' ⟨g', q1, q2, q3, q4⟩
    exact ⟨g', q1, q2, (Below.refl _ _).drew.trans q3, q4⟩
  have r0 := hb.cell 0
  simp at r0
  have W0 : ∃ n, w.drew = w.drewN n := ⟨1, rfl⟩
  clear o1 o2 dj hb h1 h2 hi hm d1 d2
  go_enter Tryz.func100, Tryz.ntmps100
  go_wp2_with fail
  go_region_with (first
    | (go_at_call 14; (with_reducible refine (RP.out _ W0).mono ?_); rintro e w1 ⟨rfl, rfl⟩)
    | (go_at_call 15; (with_reducible refine (LP.out _ W0).mono ?_); rintro e w1 ⟨rfl, rfl⟩)
    | (go_at_call 19; (with_reducible refine NP.out.mono ?_); rintro e w1 ⟨g', rfl, q2, q3, q4⟩; have F := Lib.hid (And.intro q2 (And.intro q3 q4)); clear q2 q3 q4))
  all_goals (
    go_wp2_with fail
    go_ret2
    exact ⟨g', rfl, F.out.1, F.out.2.1, F.out.2.2⟩)
/-- Are all of them darts. -/
def rdyN (n : Nat) (L : List Int) : Int := if ∀ x, x ∈ L → 0 ≤ x ∧ x < (n : Int) then 0 else 1
set_option maxHeartbeats 4000000 in
theorem gready_p (g : Nat) (l b : List Nat) (root lone : Int) (A : Option Addr) (k c : Nat) (L : List Int) (w : World) (h : MapAt w g l b root lone) (hr : Rd w w.heap.size A k (I64 L)) (hk : k ≤ 1000000) :
    Calls Tryz.prog 96 #[.pointer (some ⟨g, 0, none⟩), .slice A k c] w fun e w' => e = .returned (.int .i64 (rdyN l.length L)) ∧ Below w.heap.size w w' := by
  have hn := h.2.1
  have DP : Hid (∀ W, Below w.heap.size w W → Calls Tryz.prog 24 #[.pointer (some ⟨g, 0, none⟩)] W fun e w' => e = .returned (.int .i64 (l.length : Int)) ∧ Below W.heap.size W w') := fun W m => darts_p g l b root lone W (h.below m)
  have hLk : L.length = k := by rw [← I64_len, hr.len]
  have HLK := Lib.hid hLk
  have HR := Lib.hid hr
  obtain ⟨RY, hRY⟩ : ∃ RY, RY = rdyN l.length L := ⟨_, rfl⟩
  have HRY : Hid (RY = rdyN l.length L) := hRY
  rw [← hRY]
  clear h hr hLk hRY
  go_enter Tryz.func96, Tryz.ntmps96
  go_wp2_with fail
  go_loopw [11] (fun i wr => ∃ (j : Nat), j ≤ k ∧ i = .int .i64 (j : Int) ∧ Hid (∀ a, a < j → 0 ≤ L.getD a 0 ∧ L.getD a 0 < (l.length : Int)) ∧ Hid (Below w.heap.size w wr)) (fun i _ => k - (intOf i).toNat)
  case atStart => exact ⟨0, by omega, rfl, fun a ha => by omega, Below.refl _ _⟩
  case round =>
    obtain ⟨j, hj, rfl, HA, HB⟩ := hrel
    by_cases hlt : j < k
    · have hdk : decide (j < k) = true := decide_eq_true hlt
      obtain ⟨b5, o5, rfl, hb5, hcz⟩ := (HR.out.more HB.out).i64 (by omega)
      have cx := hcz j hlt
      have NO : Hid (¬ (0 ≤ L.getD j 0 ∧ L.getD j 0 < (l.length : Int)) → RY = 1) := fun q => by
        rw [HRY.out]
        unfold rdyN
        refine if_neg fun H => q (H _ ?_)
        rw [List.getD_eq_getElem?_getD, List.getElem?_eq_getElem (by rw [HLK.out]; exact hlt)]
        exact List.getElem_mem _
      have NX : Hid (0 ≤ L.getD j 0 ∧ L.getD j 0 < (l.length : Int) → ∀ a, a < j + 1 → 0 ≤ L.getD a 0 ∧ L.getD a 0 < (l.length : Int)) := fun q a ha => by
        by_cases c : a = j
        · rw [c]; exact q
        · exact HA.out a (by omega)
      clear hcz hb5
      generalize L.getD j 0 = x at *
      by_cases h0 : x < 0
      · have h0d : decide (x < 0) = true := decide_eq_true h0
        have HE := Lib.hid (NO.out (by omega))
        go_wp2_with fail
        go_ret
        exact ⟨by rw [HE.out]; rfl, HB.out⟩
      · have h0d : decide (x < 0) = false := decide_eq_false h0
        by_cases h1 : (l.length : Int) ≤ x
        · have h1d : decide ((l.length : Int) ≤ x) = true := decide_eq_true h1
          have HE := Lib.hid (NO.out (by omega))
          go_wp2_with fail
          refine (DP.out _ HB.out).mono ?_
          rintro e w2 ⟨rfl, z⟩
          have F := Lib.hid (HB.out.trans (z.mono HB.out.size))
          clear z
          go_wp2_with fail
          go_ret
          exact ⟨by rw [HE.out]; rfl, F.out⟩
        · have h1d : decide ((l.length : Int) ≤ x) = false := decide_eq_false h1
          have HX := Lib.hid (NX.out (by omega))
          go_wp2_with fail
          refine (DP.out _ HB.out).mono ?_
          rintro e w2 ⟨rfl, z⟩
          have F := Lib.hid (HB.out.trans (z.mono HB.out.size))
          clear z
          go_wp2_with fail
          go_roundw
          case rel => exact ⟨j + 1, by omega, by go_num, HX, F⟩
          case measure => simp [intOf]; omega
    · obtain rfl : j = k := by omega
      have hdk : decide (j < j) = false := by simp
      have HE : Hid (RY = 0) := by
        show _ = _
        rw [HRY.out]
        unfold rdyN
        refine if_pos fun x hx => ?_
        obtain ⟨a, ha, e⟩ := List.getElem_of_mem hx
        have := HA.out a (by rw [← HLK.out]; exact ha)
        rw [List.getD_eq_getElem?_getD, List.getElem?_eq_getElem ha] at this
        rw [← e]; exact this
      go_wp2_with fail
      go_ret
      exact ⟨by rw [HE.out]; rfl, HB.out⟩
end Go.Proofs.YtgcbdoljapnecaaGreat
