/- A map turned another way: the map seen from its faces, and the mirror. The document's examples of layer 10, and what nil answers. -/
import Derived.Test.YtgcbdoljapnecaaGreatZDPhi
import Derived.Test.YtgcbdoljapnecaaGreatZg18
import Derived.Test.YtgcbdoljapnecaaGreatZDMap2
namespace Go.Proofs.YtgcbdoljapnecaaGreat
set_option maxRecDepth 20000
open Go.RowKit
set_option linter.unusedVariables false
theorem getDN_setU (y : List Nat) (k j v : Nat) (hk : k < y.length) : (y.set k v).getD j 0 = if j = k then v else y.getD j 0 := by
  rw [List.getD_eq_getElem?_getD, List.getD_eq_getElem?_getD, List.getElem?_set]
  by_cases h : k = j
  · subst h; simp [hk]
  · simp [h, Ne.symm h]
theorem own_setNU {w : World} {base : Nat} {g n c : Nat} {y : List Nat} (h : w.ownsRow base 3 1 (.slice (some ⟨g, 0, none⟩) n c) n (I64 (ofN y))) (k v : Nat) :
    (w.setCell ⟨g, k, none⟩ (.int .i64 (v : Int))).ownsRow base 3 1 (.slice (some ⟨g, 0, none⟩) n c) n (I64 (ofN (y.set k v))) := by
  rw [show ofN (y.set k v) = (ofN y).set k (v : Int) by simp [ofN, List.map_set]]; exact own_setI h k _
set_option maxHeartbeats 4000000 in
theorem dual_t (g : Nat) (l b z zb : List Nat) (root lone : Int) (w : World) (h : MapAt w g l b root lone) (hz : Inv z zb) (hzl : z.length = l.length) (hr : RootOk root l.length)
    (hf : ∀ k, k < l.length → ∀ W, Below w.heap.size w W → Calls Tryz.prog 110 #[.pointer (some ⟨g, 0, none⟩), .int .i64 (k : Int)] W fun e w' => e = .returned (.int .i64 ((z.getD k 0 : Nat) : Int)) ∧ Below W.heap.size W w') :
    Calls Tryz.prog 109 #[.pointer (some ⟨g, 0, none⟩), .func (.func 110) #[.pointer (some ⟨g, 0, none⟩)] #[]] w fun e w' => ∃ g', e = .returned (.pointer (some ⟨g', 0, none⟩)) ∧ MapAt w' g' z zb root lone ∧ Below w.heap.size w w' := by
  have DP := Lib.hid (darts_p g l b root lone w h)
  have HM := Lib.hid h
  have HF := Lib.hid hf
  have HZ := Lib.hid hz
  have HZL := Lib.hid hzl
  have HRT := Lib.hid hr
  have HEV : Hid (l.length % 2 = 0) := h.1.1
  have HLN := Lib.hid h.1.2
  have hle := h.2.1
  obtain ⟨i0, hi0, hz0, hz1, hz2⟩ := info_parts info_int
  have hmk := run_make_one (P := Tryz.prog) 29 3 i0 (.int .i64 0) 8 Tryz.underlying29 hi0 hz0 hz1 hz2 rfl .i64 .i64 l.length (by omega) (by omega)
  clear h hf hz hzl hr
  go_enter Tryz.func109, Tryz.ntmps109
  go_wp2_with fail
  refine DP.out.mono ?_
  rintro e w1 ⟨rfl, b1⟩
  have B1 := Lib.hid b1
  have OA := Lib.hid (own_made w1 3 l.length (.int .i64 0) (by simp only [maxLen]; omega))
  have BA := Lib.hid ((Below.refl w1.heap.size w1).alloc (Nat.le_refl _) (.cells (List.replicate l.length (.int .i64 0)).toArray 3))
  clear b1 DP
  go_wp2_with fail
  clear hmk
  go_loopw [16] (fun i wr => ∃ (k : Nat) (y : List Nat), k ≤ l.length ∧ i = .int .i64 (k : Int) ∧ Hid (∀ j, j < k → y.getD j 0 = z.getD j 0) ∧ Hid (wr.ownsRow w1.heap.size 3 1 (.slice (some ⟨w1.heap.size, 0, none⟩) l.length l.length) l.length (I64 (ofN y))) ∧ Hid (Below w1.heap.size w1 wr)) (fun i _ => l.length - (intOf i).toNat)
  case atStart => exact ⟨0, List.replicate l.length 0, by omega, rfl, fun j hj => absurd hj (by omega), Lib.hid (by simpa [I64, ofN] using OA.out), Lib.hid (by simpa using BA.out)⟩
  case round =>
    clear OA BA
    obtain ⟨k, y, hk, rfl, HY, HO, HB⟩ := hrel
    by_cases hlt : k < l.length
    · have hdk : decide (k < l.length) = true := by rw [decide_eq_true_iff]; exact hlt
      have HW := Lib.hid (B1.out.trans (HB.out.mono B1.out.size))
      have CF : Hid (∀ W, Below wr.heap.size wr W → Calls Tryz.prog 110 #[.pointer (some ⟨g, 0, none⟩), .int .i64 (k : Int)] W fun e w' => e = .returned (.int .i64 ((z.getD k 0 : Nat) : Int)) ∧ Below W.heap.size W w') := fun W m => HF.out k hlt W (HW.out.trans (m.mono HW.out.size))
      have hyl : y.length = l.length := by have := own_lenI HO.out; rwa [ofN_len] at this
      have HY1 : Hid (∀ j, j < k + 1 → (y.set k (z.getD k 0)).getD j 0 = z.getD j 0) := fun j hj => by
        rw [getDN_setU _ _ _ _ (by omega)]
        by_cases e : j = k
        · rw [if_pos e, e]
        · rw [if_neg e]; exact HY.out j (by omega)
      have Z0 := Below.refl wr.heap.size wr
      generalize z.getD k 0 = v at *
      clear hyl
      go_wp2_with fail
      refine (CF.out _ Z0).mono ?_
      rintro e w2 ⟨rfl, b2⟩
      have HO2 := Lib.hid (own_below HO.out b2)
      have HB2 := Lib.hid (HB.out.trans (b2.mono HB.out.size))
      have co := own_cellI HO2.out k hlt
      have fo := HO2.out.frozenAt k
      generalize (ofN y).getD k 0 = u1 at co
      clear b2
      go_wp2_with fail
      have HO3 := Lib.hid (own_setNU HO2.out k v)
      have HB3 := Lib.hid (HB2.out.setCell (p := ⟨w1.heap.size, k, none⟩) (Nat.le_refl _) (.int .i64 (v : Int)))
      go_roundw
      case rel => exact ⟨k + 1, y.set k v, by omega, by go_num, HY1.out, HO3.out, HB3.out⟩
      case measure => simp [intOf]; omega
    · obtain rfl : k = l.length := by omega
      have hdk : decide (l.length < l.length) = false := by simp
      have hyl : y.length = l.length := by have := own_lenI HO.out; rwa [ofN_len] at this
      have hye : y = z := List.ext_getElem (by rw [hyl, HZL.out]) fun i h1 h2 => by
        have := HY.out i (by omega)
        simpa [List.getD_eq_getElem?_getD, List.getElem?_eq_getElem h1, List.getElem?_eq_getElem h2] using this
      subst hye
      have HR := Lib.hid (Rd.ofOwn HO.out)
      have BR := Lib.hid (B1.out.trans (HB.out.mono B1.out.size))
      have HMR := Lib.hid (HM.out.below BR.out)
      have RP : Hid (∀ W, Below wr.heap.size wr W → Calls Tryz.prog 14 #[.pointer (some ⟨g, 0, none⟩)] W fun e w' => e = .returned (.int .i64 root) ∧ W = w') := fun W m => root_p g l b root lone W (HMR.out.below m)
      have LP : Hid (∀ W, Below wr.heap.size wr W → Calls Tryz.prog 15 #[.pointer (some ⟨g, 0, none⟩)] W fun e w' => e = .returned (.int .i64 lone) ∧ W = w') := fun W m => lone_p g l b root lone W (HMR.out.below m)
      have NP : Hid (∀ W, Below wr.heap.size wr W → Calls Tryz.prog 19 #[.slice (some ⟨w1.heap.size, 0, none⟩) l.length l.length, .int .i64 root, .int .i64 lone] W (NewMap W y zb root lone)) := fun W m => new_ok _ l.length l.length y zb root lone W (HR.out.more m) HZ.out HEV.out hle HRT.out HLN.out.1 HLN.out.2
      have Z0 := Below.refl wr.heap.size wr
      clear hyl HY HO HB HF HMR HM hlt hk
      go_wp2_with fail
      refine (RP.out _ Z0).mono ?_
      rintro e w' ⟨rfl, rfl⟩
      go_wp2_with fail
      refine (LP.out _ Z0).mono ?_
      rintro e w' ⟨rfl, rfl⟩
      go_wp2_with fail
      refine (NP.out _ Z0).mono ?_
      rintro e w3 ⟨g3, rfl, hm3, b3, _⟩
      have HM3 := Lib.hid hm3
      have B3 := Lib.hid (BR.out.trans (b3.mono BR.out.size))
      clear hm3 b3
      go_wp2_with fail
      go_ret
      exact ⟨g3, rfl, HM3.out, B3.out⟩
set_option maxHeartbeats 4000000 in
theorem mirror_t (g : Nat) (l b z zb : List Nat) (root lone : Int) (w : World) (h : MapAt w g l b root lone) (hz : Inv z zb) (hzl : z.length = l.length) (hr : RootOk root l.length)
    (hf : ∀ k, k < l.length → ∀ W, Below w.heap.size w W → Calls Tryz.prog 105 #[.pointer (some ⟨g, 0, none⟩), .int .i64 (k : Int)] W fun e w' => e = .returned (.int .i64 ((z.getD k 0 : Nat) : Int)) ∧ Below W.heap.size W w') :
    Calls Tryz.prog 109 #[.pointer (some ⟨g, 0, none⟩), .func (.func 105) #[.pointer (some ⟨g, 0, none⟩)] #[]] w fun e w' => ∃ g', e = .returned (.pointer (some ⟨g', 0, none⟩)) ∧ MapAt w' g' z zb root lone ∧ Below w.heap.size w w' := by
  have DP := Lib.hid (darts_p g l b root lone w h)
  have HM := Lib.hid h
  have HF := Lib.hid hf
  have HZ := Lib.hid hz
  have HZL := Lib.hid hzl
  have HRT := Lib.hid hr
  have HEV : Hid (l.length % 2 = 0) := h.1.1
  have HLN := Lib.hid h.1.2
  have hle := h.2.1
  obtain ⟨i0, hi0, hz0, hz1, hz2⟩ := info_parts info_int
  have hmk := run_make_one (P := Tryz.prog) 29 3 i0 (.int .i64 0) 8 Tryz.underlying29 hi0 hz0 hz1 hz2 rfl .i64 .i64 l.length (by omega) (by omega)
  clear h hf hz hzl hr
  go_enter Tryz.func109, Tryz.ntmps109
  go_wp2_with fail
  refine DP.out.mono ?_
  rintro e w1 ⟨rfl, b1⟩
  have B1 := Lib.hid b1
  have OA := Lib.hid (own_made w1 3 l.length (.int .i64 0) (by simp only [maxLen]; omega))
  have BA := Lib.hid ((Below.refl w1.heap.size w1).alloc (Nat.le_refl _) (.cells (List.replicate l.length (.int .i64 0)).toArray 3))
  clear b1 DP
  go_wp2_with fail
  clear hmk
  go_loopw [16] (fun i wr => ∃ (k : Nat) (y : List Nat), k ≤ l.length ∧ i = .int .i64 (k : Int) ∧ Hid (∀ j, j < k → y.getD j 0 = z.getD j 0) ∧ Hid (wr.ownsRow w1.heap.size 3 1 (.slice (some ⟨w1.heap.size, 0, none⟩) l.length l.length) l.length (I64 (ofN y))) ∧ Hid (Below w1.heap.size w1 wr)) (fun i _ => l.length - (intOf i).toNat)
  case atStart => exact ⟨0, List.replicate l.length 0, by omega, rfl, fun j hj => absurd hj (by omega), Lib.hid (by simpa [I64, ofN] using OA.out), Lib.hid (by simpa using BA.out)⟩
  case round =>
    clear OA BA
    obtain ⟨k, y, hk, rfl, HY, HO, HB⟩ := hrel
    by_cases hlt : k < l.length
    · have hdk : decide (k < l.length) = true := by rw [decide_eq_true_iff]; exact hlt
      have HW := Lib.hid (B1.out.trans (HB.out.mono B1.out.size))
      have CF : Hid (∀ W, Below wr.heap.size wr W → Calls Tryz.prog 105 #[.pointer (some ⟨g, 0, none⟩), .int .i64 (k : Int)] W fun e w' => e = .returned (.int .i64 ((z.getD k 0 : Nat) : Int)) ∧ Below W.heap.size W w') := fun W m => HF.out k hlt W (HW.out.trans (m.mono HW.out.size))
      have hyl : y.length = l.length := by have := own_lenI HO.out; rwa [ofN_len] at this
      have HY1 : Hid (∀ j, j < k + 1 → (y.set k (z.getD k 0)).getD j 0 = z.getD j 0) := fun j hj => by
        rw [getDN_setU _ _ _ _ (by omega)]
        by_cases e : j = k
        · rw [if_pos e, e]
        · rw [if_neg e]; exact HY.out j (by omega)
      have Z0 := Below.refl wr.heap.size wr
      generalize z.getD k 0 = v at *
      clear hyl
      go_wp2_with fail
      refine (CF.out _ Z0).mono ?_
      rintro e w2 ⟨rfl, b2⟩
      have HO2 := Lib.hid (own_below HO.out b2)
      have HB2 := Lib.hid (HB.out.trans (b2.mono HB.out.size))
      have co := own_cellI HO2.out k hlt
      have fo := HO2.out.frozenAt k
      generalize (ofN y).getD k 0 = u1 at co
      clear b2
      go_wp2_with fail
      have HO3 := Lib.hid (own_setNU HO2.out k v)
      have HB3 := Lib.hid (HB2.out.setCell (p := ⟨w1.heap.size, k, none⟩) (Nat.le_refl _) (.int .i64 (v : Int)))
      go_roundw
      case rel => exact ⟨k + 1, y.set k v, by omega, by go_num, HY1.out, HO3.out, HB3.out⟩
      case measure => simp [intOf]; omega
    · obtain rfl : k = l.length := by omega
      have hdk : decide (l.length < l.length) = false := by simp
      have hyl : y.length = l.length := by have := own_lenI HO.out; rwa [ofN_len] at this
      have hye : y = z := List.ext_getElem (by rw [hyl, HZL.out]) fun i h1 h2 => by
        have := HY.out i (by omega)
        simpa [List.getD_eq_getElem?_getD, List.getElem?_eq_getElem h1, List.getElem?_eq_getElem h2] using this
      subst hye
      have HR := Lib.hid (Rd.ofOwn HO.out)
      have BR := Lib.hid (B1.out.trans (HB.out.mono B1.out.size))
      have HMR := Lib.hid (HM.out.below BR.out)
      have RP : Hid (∀ W, Below wr.heap.size wr W → Calls Tryz.prog 14 #[.pointer (some ⟨g, 0, none⟩)] W fun e w' => e = .returned (.int .i64 root) ∧ W = w') := fun W m => root_p g l b root lone W (HMR.out.below m)
      have LP : Hid (∀ W, Below wr.heap.size wr W → Calls Tryz.prog 15 #[.pointer (some ⟨g, 0, none⟩)] W fun e w' => e = .returned (.int .i64 lone) ∧ W = w') := fun W m => lone_p g l b root lone W (HMR.out.below m)
      have NP : Hid (∀ W, Below wr.heap.size wr W → Calls Tryz.prog 19 #[.slice (some ⟨w1.heap.size, 0, none⟩) l.length l.length, .int .i64 root, .int .i64 lone] W (NewMap W y zb root lone)) := fun W m => new_ok _ l.length l.length y zb root lone W (HR.out.more m) HZ.out HEV.out hle HRT.out HLN.out.1 HLN.out.2
      have Z0 := Below.refl wr.heap.size wr
      clear hyl HY HO HB HF HMR HM hlt hk
      go_wp2_with fail
      refine (RP.out _ Z0).mono ?_
      rintro e w' ⟨rfl, rfl⟩
      go_wp2_with fail
      refine (LP.out _ Z0).mono ?_
      rintro e w' ⟨rfl, rfl⟩
      go_wp2_with fail
      refine (NP.out _ Z0).mono ?_
      rintro e w3 ⟨g3, rfl, hm3, b3, _⟩
      have HM3 := Lib.hid hm3
      have B3 := Lib.hid (BR.out.trans (b3.mono BR.out.size))
      clear hm3 b3
      go_wp2_with fail
      go_ret
      exact ⟨g3, rfl, HM3.out, B3.out⟩
set_option maxHeartbeats 2000000 in
theorem dual_p (g : Nat) (l b : List Nat) (root lone : Int) (w : World) (h : MapAt w g l b root lone) (hi : Inv l b) (hr : RootOk root l.length) :
    Calls Tryz.prog 73 #[.pointer (some ⟨g, 0, none⟩)] w fun e w' => ∃ g', e = .returned (.pointer (some ⟨g', 0, none⟩)) ∧ MapAt w' g' (phiL l) (phiB l b) root lone ∧ Below w.heap.size w w' := by
  have T := Lib.hid (dual_t g l b (phiL l) (phiB l b) root lone w h (phi_inv hi h.1.1) (phiL_len l) hr fun k hk W m => phi_in g l b root lone k W (h.below m) hk)
  have hmf : ∀ (fn : Fn) (first cap : Array Value) (w : World), (Instr.makeFunc fn first cap).run Tryz.prog w = .ok (.func fn first cap) w := fun _ _ _ _ => rfl
  clear h
  go_enter Tryz.func73, Tryz.ntmps73
  go_wp2_with fail
  refine T.out.mono ?_
  rintro e w1 ⟨g', rfl, hm, hb⟩
  have HM := Lib.hid hm
  clear hm
  go_wp2_with fail
  go_ret
  exact ⟨g', rfl, HM.out, hb⟩
set_option maxHeartbeats 2000000 in
theorem mirror_p (g : Nat) (l b : List Nat) (root lone : Int) (w : World) (h : MapAt w g l b root lone) (hi : Inv l b) (hr : RootOk root l.length) :
    Calls Tryz.prog 74 #[.pointer (some ⟨g, 0, none⟩)] w fun e w' => ∃ g', e = .returned (.pointer (some ⟨g', 0, none⟩)) ∧ MapAt w' g' b l root lone ∧ Below w.heap.size w w' := by
  have T := Lib.hid (mirror_t g l b b l root lone w h hi.symm hi.len hr fun k hk W m => mback_in g l b root lone k W (h.below m) hk)
  have hmf : ∀ (fn : Fn) (first cap : Array Value) (w : World), (Instr.makeFunc fn first cap).run Tryz.prog w = .ok (.func fn first cap) w := fun _ _ _ _ => rfl
  clear h
  go_enter Tryz.func74, Tryz.ntmps74
  go_wp2_with fail
  refine T.out.mono ?_
  rintro e w1 ⟨g', rfl, hm, hb⟩
  have HM := Lib.hid hm
  clear hm
  go_wp2_with fail
  go_ret
  exact ⟨g', rfl, HM.out, hb⟩
end Go.Proofs.YtgcbdoljapnecaaGreat
namespace Go.Proofs.YtgcbdoljapnecaaGreat
set_option maxRecDepth 20000
open Go.RowKit
set_option linter.unusedVariables false
theorem ready_in (g : Nat) (l b : List Nat) (root lone : Int) (i : Nat) (w : World) (h : MapAt w g l b root lone) (hi : i < l.length / 2) :
    Calls Tryz.prog 113 #[.pointer (some ⟨g, 0, none⟩), .int .i64 (i : Int)] w fun e w' => e = .returned (.int .i64 0) ∧ Below w.heap.size w w' := by
  have EP := Lib.hid (edges_p g l b root lone w h)
  generalize l.length / 2 = m at *
  have h1 : decide (m ≤ i) = false := by rw [decide_eq_false_iff_not]; omega
  have h2 : decide ((m : Int) ≤ (i : Int)) = false := by rw [decide_eq_false_iff_not]; omega
  have h3 : ¬ (m : Int) ≤ (i : Int) := by omega
  have h4 : ¬ (i : Int) < 0 := by omega
  clear h
  go_enter Tryz.func113, Tryz.ntmps113
  go_wp2_with fail
  refine EP.out.mono ?_
  rintro e w1 ⟨rfl, b1⟩
  go_wp2_with fail
  go_ret
  exact ⟨rfl, b1⟩
end Go.Proofs.YtgcbdoljapnecaaGreat
