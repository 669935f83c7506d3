/- The bits of letters, by functions that come in. -/
import Derived.Test.YtagpdpacaoianaaGreatDoorZg1
import Derived.Test.YtagpdpacaoianaaGreatDoorZMAdd1
import Derived.Test.YtagpdpacaoianaaGreatDoorZg6
import Derived.Deep.RegionWith
namespace Go.Proofs.YtagpdpacaoianaaGreatDoor
set_option maxRecDepth 20000
open Go.RowKit
set_option linter.unusedVariables false

/-- A bit for each letter of some. -/
def vecL (Pr : Nat → Bool) (bt : Nat → Nat) (ks : List Nat) : List Nat := (ks.filter Pr).map bt
theorem vecL_snoc (Pr : Nat → Bool) (bt : Nat → Nat) (ks : List Nat) (k : Nat) : vecL Pr bt (ks ++ [k]) = if Pr k = true then vecL Pr bt ks ++ [bt k] else vecL Pr bt ks := by
  unfold vecL
  rw [List.filter_append, List.map_append]
  by_cases h : Pr k = true <;> simp [h]
theorem vecL_len (Pr : Nat → Bool) (bt : Nat → Nat) (ks : List Nat) : (vecL Pr bt ks).length ≤ ks.length := by
  unfold vecL; rw [List.length_map]; exact List.length_filter_le _ _
set_option maxHeartbeats 4000000 in
/-- By a function that captures nothing. -/
theorem vector_a (F G : Nat) (Pr : Nat → Bool) (bt : Nat → Nat) (B g : Nat) (ks : List Nat) (w : World) (h : WordAt w B g ks) (hn : ks.length ≤ 300000) (hbt : ∀ k, k < 4 → bt k < 2)
    (hCF : ∀ (args : Array Value) (w : World), Sem.run Tryz.prog (callFunc F args) w = .ok (.enter F args) w) (hCG : ∀ (args : Array Value) (w : World), Sem.run Tryz.prog (callFunc G args) w = .ok (.enter G args) w)
    (hF : ∀ (k : Nat), k < 4 → ∀ W, Below w.heap.size w W → Calls Tryz.prog F #[.int .i64 (k : Int)] W fun e w' => e = .returned (.bool (Pr k)) ∧ ∃ jf, w' = W.drewN jf)
    (hG : ∀ (k : Nat), k < 4 → ∀ W, Calls Tryz.prog G #[.int .i64 (k : Int)] W fun e w' => e = .returned (.int .i64 ((bt k : Nat) : Int)) ∧ W = w') :
    Calls Tryz.prog 50 #[.pointer (some ⟨g, 0, none⟩), .func (.func F) #[] #[], .func (.func G) #[] #[]] w fun e w' => ∃ gv A, e = .returned (.pointer (some ⟨gv, 0, none⟩)) ∧ VecAt w' gv (val (vecL Pr bt ks)) (vecL Pr bt ks).length A ∧ Below w.heap.size w w' ∧ w.heap.size ≤ gv := by
  have HF := Lib.hid hF
  have HG := Lib.hid hG
  have HBT := Lib.hid hbt
  have HW := Lib.hid h
  have HK : Hid (∀ i, ks.getD i 0 < 4) := fun i => Kds.getD h.1 i
  have BN := Lib.hid bnew_p
  have LP := Lib.hid (fun W (m : Below w.heap.size w W) => mlen_p B g ks W (h.below m))
  have AP := Lib.hid (fun i (hi : i < ks.length) W (m : Below w.heap.size w W) => mat_p B g ks i W (h.below m) hi (by omega))
  clear h hF hG hbt
  go_enter Tryz.func50, Tryz.ntmps50
  go_wp2_with fail
  refine (BN.out _).mono ?_
  rintro e w1 ⟨rfl, hv, b1⟩
  have HV1 : Hid (VecS w1 (fun i => w.heap.size ≤ i) w.heap.size (vecL Pr bt (ks.take 0))) := ⟨none, hv, fun i hi => by
    rcases hi with rfl | ⟨b, h, _⟩
    · show _ ≤ _; omega
    · cases h⟩
  have B1 := Lib.hid b1
  clear hv b1 BN
  go_wp2_with fail
  refine (LP.out _ B1.out).mono ?_
  rintro e w2 ⟨rfl, rfl⟩
  go_wp2_with fail
  go_loopw [13] (fun i wr => ∃ j : Nat, j ≤ ks.length ∧ i = .int .i64 (j : Int) ∧ Hid (VecS wr (fun i => w.heap.size ≤ i) w.heap.size (vecL Pr bt (ks.take j))) ∧ Hid (Below w.heap.size w wr)) (fun i _ => ks.length - (intOf i).toNat)
  case atStart => exact ⟨0, by omega, rfl, HV1, B1⟩
  case round =>
    clear HV1 B1
    obtain ⟨j, hj, rfl, HV, HB⟩ := hrel
    by_cases hlt : j < ks.length
    · have AT := Lib.hid (AP.out j hlt wr HB.out)
      have hk4 := HK.out j
      have NX : Hid (vecL Pr bt (ks.take (j + 1)) = if Pr (ks.getD j 0) = true then vecL Pr bt (ks.take j) ++ [bt (ks.getD j 0)] else vecL Pr bt (ks.take j)) := by
        show _ = _; rw [take_snoc ks j hlt, vecL_snoc]
      have hll : (vecL Pr bt (ks.take j)).length ≤ 300000 := by
        have := vecL_len Pr bt (ks.take j); rw [List.length_take] at this; omega
      generalize ks.getD j 0 = k at *
      go_wp2_with fail
      refine AT.out.mono ?_
      rintro e w3 ⟨rfl, jj, rfl⟩
      have HV3 := Lib.hid (HV.out.below (below_draws (Below.refl _ _) jj))
      have HB3 := Lib.hid (below_draws HB.out jj)
      generalize wr.drewN jj = w3 at *
      have CF := Lib.hid (HF.out k hk4 w3 HB3.out)
      clear HV HB AT
      go_wp2_with fail
      refine CF.out.mono ?_
      rintro e w4 ⟨rfl, jf, rfl⟩
      replace HV3 := Lib.hid (HV3.out.below (below_draws (Below.refl _ _) jf))
      replace HB3 := Lib.hid (below_draws HB3.out jf)
      clear CF
      generalize w3.drewN jf = w3 at *
      by_cases hp : Pr k = true
      · have CG := Lib.hid (HG.out k hk4 w3)
        rw [if_pos hp] at NX
        have AD := Lib.hid (addS_p w.heap.size (fun i => w.heap.size ≤ i) (vecL Pr bt (ks.take j)) (bt k) w3 HV3.out (fun i hi => Nat.le_trans HB3.out.size hi) (HBT.out k hk4) (by omega))
        rw [hp]
        generalize bt k = bb at *
        go_wp2_with fail
        refine CG.out.mono ?_
        rintro e w5 ⟨rfl, rfl⟩
        go_wp2_with fail
        refine AD.out.mono ?_
        rintro e w6 ⟨rfl, hv6, m6⟩
        have HV6 : Hid (VecS w6 (fun i => w.heap.size ≤ i) w.heap.size (vecL Pr bt (ks.take (j + 1)))) := by rw [NX.out]; exact hv6
        have HB6 : Hid (Below w.heap.size w w6) := HB3.out.trans (m6.belowB HB3.out.size (fun i hi h => by have : w.heap.size ≤ i := h; omega))
        clear hv6 m6 AD HV3 HB3 CG NX
        go_wp2_with fail
        go_roundw
        case rel => exact ⟨j + 1, by omega, by go_num, HV6, HB6⟩
        case measure => simp [intOf]; omega
      · rw [if_neg hp] at NX
        have hpf : Pr k = false := by simpa using hp
        have HV6 : Hid (VecS w3 (fun i => w.heap.size ≤ i) w.heap.size (vecL Pr bt (ks.take (j + 1)))) := by rw [NX.out]; exact HV3.out
        rw [hpf]
        clear HV3 NX hp hpf
        go_wp2_with fail
        go_roundw
        case rel => exact ⟨j + 1, by omega, by go_num, HV6, HB3⟩
        case measure => simp [intOf]; omega
    · obtain rfl : j = ks.length := by omega
      rw [List.take_length] at HV
      obtain ⟨A, hv, _⟩ := HV.out
      have HVV := Lib.hid hv
      clear hv HV
      go_wp2_with fail
      go_ret
      first | exact ⟨w.heap.size, A, rfl, HVV.out, HB.out, Nat.le_refl _⟩ | exact ⟨w.heap.size, rfl, ⟨A, HVV.out⟩, HB.out, Nat.le_refl _⟩
set_option maxHeartbeats 4000000 in
/-- By a function that captures one variable. -/
theorem vector_b (F G bx : Nat) (Pr : Nat → Bool) (bt : Nat → Nat) (B g : Nat) (ks : List Nat) (w : World) (h : WordAt w B g ks) (hn : ks.length ≤ 300000) (hbt : ∀ k, k < 4 → bt k < 2)
    (hCF : ∀ (args : Array Value) (w : World), Sem.run Tryz.prog (callFunc F args) w = .ok (.enter F args) w) (hCG : ∀ (args : Array Value) (w : World), Sem.run Tryz.prog (callFunc G args) w = .ok (.enter G args) w)
    (hF : ∀ (k : Nat), k < 4 → ∀ W, Below w.heap.size w W → Calls Tryz.prog F #[.int .i64 (k : Int), .pointer (some ⟨bx, 0, none⟩)] W fun e w' => e = .returned (.bool (Pr k)) ∧ ∃ jf, w' = W.drewN jf)
    (hG : ∀ (k : Nat), k < 4 → ∀ W, Calls Tryz.prog G #[.int .i64 (k : Int)] W fun e w' => e = .returned (.int .i64 ((bt k : Nat) : Int)) ∧ W = w') :
    Calls Tryz.prog 50 #[.pointer (some ⟨g, 0, none⟩), .func (.func F) #[] #[.pointer (some ⟨bx, 0, none⟩)], .func (.func G) #[] #[]] w fun e w' => ∃ gv A, e = .returned (.pointer (some ⟨gv, 0, none⟩)) ∧ VecAt w' gv (val (vecL Pr bt ks)) (vecL Pr bt ks).length A ∧ Below w.heap.size w w' ∧ w.heap.size ≤ gv := by
  have HF := Lib.hid hF
  have HG := Lib.hid hG
  have HBT := Lib.hid hbt
  have HW := Lib.hid h
  have HK : Hid (∀ i, ks.getD i 0 < 4) := fun i => Kds.getD h.1 i
  have BN := Lib.hid bnew_p
  have LP := Lib.hid (fun W (m : Below w.heap.size w W) => mlen_p B g ks W (h.below m))
  have AP := Lib.hid (fun i (hi : i < ks.length) W (m : Below w.heap.size w W) => mat_p B g ks i W (h.below m) hi (by omega))
  clear h hF hG hbt
  go_enter Tryz.func50, Tryz.ntmps50
  go_wp2_with fail
  refine (BN.out _).mono ?_
  rintro e w1 ⟨rfl, hv, b1⟩
  have HV1 : Hid (VecS w1 (fun i => w.heap.size ≤ i) w.heap.size (vecL Pr bt (ks.take 0))) := ⟨none, hv, fun i hi => by
    rcases hi with rfl | ⟨b, h, _⟩
    · show _ ≤ _; omega
    · cases h⟩
  have B1 := Lib.hid b1
  clear hv b1 BN
  go_wp2_with fail
  refine (LP.out _ B1.out).mono ?_
  rintro e w2 ⟨rfl, rfl⟩
  go_wp2_with fail
  go_loopw [13] (fun i wr => ∃ j : Nat, j ≤ ks.length ∧ i = .int .i64 (j : Int) ∧ Hid (VecS wr (fun i => w.heap.size ≤ i) w.heap.size (vecL Pr bt (ks.take j))) ∧ Hid (Below w.heap.size w wr)) (fun i _ => ks.length - (intOf i).toNat)
  case atStart => exact ⟨0, by omega, rfl, HV1, B1⟩
  case round =>
    clear HV1 B1
    obtain ⟨j, hj, rfl, HV, HB⟩ := hrel
    by_cases hlt : j < ks.length
    · have AT := Lib.hid (AP.out j hlt wr HB.out)
      have hk4 := HK.out j
      have NX : Hid (vecL Pr bt (ks.take (j + 1)) = if Pr (ks.getD j 0) = true then vecL Pr bt (ks.take j) ++ [bt (ks.getD j 0)] else vecL Pr bt (ks.take j)) := by
        show _ = _; rw [take_snoc ks j hlt, vecL_snoc]
      have hll : (vecL Pr bt (ks.take j)).length ≤ 300000 := by
        have := vecL_len Pr bt (ks.take j); rw [List.length_take] at this; omega
      generalize ks.getD j 0 = k at *
      go_wp2_with fail
      refine AT.out.mono ?_
      rintro e w3 ⟨rfl, jj, rfl⟩
      have HV3 := Lib.hid (HV.out.below (below_draws (Below.refl _ _) jj))
      have HB3 := Lib.hid (below_draws HB.out jj)
      generalize wr.drewN jj = w3 at *
      have CF := Lib.hid (HF.out k hk4 w3 HB3.out)
      clear HV HB AT
      go_wp2_with fail
      refine CF.out.mono ?_
      rintro e w4 ⟨rfl, jf, rfl⟩
      replace HV3 := Lib.hid (HV3.out.below (below_draws (Below.refl _ _) jf))
      replace HB3 := Lib.hid (below_draws HB3.out jf)
      clear CF
      generalize w3.drewN jf = w3 at *
      by_cases hp : Pr k = true
      · have CG := Lib.hid (HG.out k hk4 w3)
        rw [if_pos hp] at NX
        have AD := Lib.hid (addS_p w.heap.size (fun i => w.heap.size ≤ i) (vecL Pr bt (ks.take j)) (bt k) w3 HV3.out (fun i hi => Nat.le_trans HB3.out.size hi) (HBT.out k hk4) (by omega))
        rw [hp]
        generalize bt k = bb at *
        go_wp2_with fail
        refine CG.out.mono ?_
        rintro e w5 ⟨rfl, rfl⟩
        go_wp2_with fail
        refine AD.out.mono ?_
        rintro e w6 ⟨rfl, hv6, m6⟩
        have HV6 : Hid (VecS w6 (fun i => w.heap.size ≤ i) w.heap.size (vecL Pr bt (ks.take (j + 1)))) := by rw [NX.out]; exact hv6
        have HB6 : Hid (Below w.heap.size w w6) := HB3.out.trans (m6.belowB HB3.out.size (fun i hi h => by have : w.heap.size ≤ i := h; omega))
        clear hv6 m6 AD HV3 HB3 CG NX
        go_wp2_with fail
        go_roundw
        case rel => exact ⟨j + 1, by omega, by go_num, HV6, HB6⟩
        case measure => simp [intOf]; omega
      · rw [if_neg hp] at NX
        have hpf : Pr k = false := by simpa using hp
        have HV6 : Hid (VecS w3 (fun i => w.heap.size ≤ i) w.heap.size (vecL Pr bt (ks.take (j + 1)))) := by rw [NX.out]; exact HV3.out
        rw [hpf]
        clear HV3 NX hp hpf
        go_wp2_with fail
        go_roundw
        case rel => exact ⟨j + 1, by omega, by go_num, HV6, HB3⟩
        case measure => simp [intOf]; omega
    · obtain rfl : j = ks.length := by omega
      rw [List.take_length] at HV
      obtain ⟨A, hv, _⟩ := HV.out
      have HVV := Lib.hid hv
      clear hv HV
      go_wp2_with fail
      go_ret
      first | exact ⟨w.heap.size, A, rfl, HVV.out, HB.out, Nat.le_refl _⟩ | exact ⟨w.heap.size, rfl, ⟨A, HVV.out⟩, HB.out, Nat.le_refl _⟩
end Go.Proofs.YtagpdpacaoianaaGreatDoor
