/- Relabel. -/
import Derived.Test.YtfolefadjdcehaaZUNamesM
import Derived.Test.YtfolefadjdcehaaZUAwake
namespace Go.Proofs.Ytfolefadjdcehaa
set_option maxRecDepth 100000
open Go.RowKit
set_option linter.unusedVariables false
/-- The root by other names. -/
def reRoot (p : List Nat) (root : Int) : Int := if root < 0 then -1 else ((p.getD root.toNat 0 : Nat) : Int)
theorem at_root (gp : Nat) (p q : List Nat) (root : Int) (w : World) (h : PermAt w gp p q) (hr : RootOk root p.length) :
    Calls Try.prog 44 #[.pointer (some ⟨gp, 0, none⟩), .int .i64 root] w fun e w' => e = .returned (.int .i64 (reRoot p root)) ∧ w = w' := by
  rcases hr with ⟨h0, rfl⟩ | ⟨h0, h1, h2⟩
  · exact at_out gp p q (-1) w h (.inl (by decide))
  · obtain ⟨r, rfl⟩ : ∃ r : Nat, root = (r : Int) := ⟨root.toNat, by omega⟩
    have := at_in gp p q r w h (by omega)
    unfold reRoot
    rw [if_neg (by omega), Int.toNat_natCast]
    exact this
theorem reRoot_ok {n : Nat} {p q : List Nat} (h : Nam n p q) {root : Int} (hr : RootOk root n) : RootOk (reRoot p root) n := by
  unfold reRoot
  rcases hr with ⟨h0, rfl⟩ | ⟨h0, h1, h2⟩
  · rw [if_pos (by decide)]; exact .inl ⟨h0, rfl⟩
  · rw [if_neg (by omega)]
    have := h.lt (d := root.toNat) (by omega)
    unfold sgL at this
    exact .inr ⟨h0, by omega, by omega⟩
def RelPost (w : World) (l b p q : List Nat) (root lone : Int) (e : Ending) (w' : World) : Prop :=
  (Nam l.length p q ∧ (∃ g', e = .returned (.tuple #[.pointer (some ⟨g', 0, none⟩), .int .i64 0]) ∧ MapAt w' g' (cjL p q l) (cjL p q b) (reRoot p root) lone) ∧ Below w.heap.size w w') ∨
  (¬ Nam l.length p q ∧ e = .returned (.tuple #[.pointer none, .int .i64 4]) ∧ Below w.heap.size w w')
theorem relabel_len (g gp : Nat) (l b p q : List Nat) (root lone : Int) (w : World) (h : MapAt w g l b root lone) (k : PermAt w gp p q) (hne : p.length ≠ l.length) :
    Calls Try.prog 38 #[.pointer (some ⟨g, 0, none⟩), .pointer (some ⟨gp, 0, none⟩)] w fun e w' => e = .returned (.tuple #[.pointer none, .int .i64 1]) ∧ Below w.heap.size w w' := by
  have LN := Lib.hid (len_p gp p q w k)
  have DP := Lib.hid (darts_p g l b root lone w h)
  have hd : decide (p.length = l.length) = false := decide_eq_false hne
  clear h k
  generalize p.length = P at *
  generalize l.length = L at *
  go_enter Try.func38, Try.ntmps38
  go_wp2_with fail
  refine LN.out.mono ?_
  rintro e w' ⟨rfl, rfl⟩
  go_wp2_with fail
  refine DP.out.mono ?_
  rintro e w1 ⟨rfl, b1⟩
  go_wp2_with fail
  go_ret2
  exact ⟨rfl, b1⟩
set_option maxHeartbeats 8000000 in
theorem relabel_p (g gp : Nat) (l b p q : List Nat) (root lone : Int) (w : World) (h : MapAt w g l b root lone) (kp : PermAt w gp p q) (hlen : p.length = l.length) (hi : Inv l b) (hip : Inv p q) (hr : RootOk root l.length) :
    Calls Try.prog 38 #[.pointer (some ⟨g, 0, none⟩), .pointer (some ⟨gp, 0, none⟩)] w (RelPost w l b p q root lone) := by
  have LN := Lib.hid (len_p gp p q w kp)
  rw [hlen] at LN
  have DP : Hid (∀ W, Below w.heap.size w W → Calls Try.prog 37 #[.pointer (some ⟨g, 0, none⟩)] W fun e w' => e = .returned (.int .i64 (l.length : Int)) ∧ Below W.heap.size W w') := fun W m => darts_p g l b root lone W (h.below m)
  have HM := Lib.hid h
  have HK := Lib.hid kp
  have HI := Lib.hid hi
  have HIP := Lib.hid hip
  have HPL := Lib.hid hlen
  have HRT := Lib.hid hr
  have HEV : Hid (l.length % 2 = 0) := h.1.1
  have HLN := Lib.hid h.1.2
  have hle := h.2.1
  have hd0 : decide (l.length = l.length) = true := decide_eq_true rfl
  obtain ⟨i0, hi0, hz0, hz1, hz2⟩ := info_parts info_int
  have hmk := run_make_one (P := Try.prog) 25 3 i0 (.int .i64 0) 8 Try.underlying25 hi0 hz0 hz1 hz2 rfl .i64 .i64 l.length (by omega) (by omega)
  clear h kp hi hip hlen hr
  go_enter Try.func38, Try.ntmps38
  go_wp2_with fail
  refine LN.out.mono ?_
  rintro e w' ⟨rfl, rfl⟩
  have Z0 := Below.refl w.heap.size w
  go_wp2_with fail
  refine (DP.out _ Z0).mono ?_
  rintro e w0 ⟨rfl, b0⟩
  go_wp2_with fail
  refine (DP.out _ b0).mono ?_
  rintro e w1 ⟨rfl, b1⟩
  have B1 := Lib.hid (b0.trans (b1.mono b0.size))
  have OA := Lib.hid (own_made w1 3 l.length (.int .i64 0) (by simp only [maxLen]; omega))
  have BA := Lib.hid ((Below.refl w1.heap.size w1).alloc (Nat.le_refl _) (.cells (List.replicate l.length (.int .i64 0)).toArray 3))
  clear b1 b0 Z0 DP LN
  go_wp2_with fail
  clear hmk
  go_loopw [24] (fun i wr => ∃ (k : Nat) (y : List Nat), k ≤ l.length ∧ i = .int .i64 (k : Int) ∧ Hid ((∀ j, j < k → sgL p (mt j) = mt (sgL p j)) ∧ (∀ j, j < k → y.getD (sgL p j) 0 = sgL p (sgL l j))) ∧ Hid (wr.ownsRow w1.heap.size 3 1 (.slice (some ⟨w1.heap.size, 0, none⟩) l.length l.length) l.length (I64 (ofN y))) ∧ Hid (Below w1.heap.size w1 wr)) (fun i _ => l.length - (intOf i).toNat)
  case atStart => exact ⟨0, List.replicate l.length 0, by omega, rfl, ⟨fun j hj => absurd hj (by omega), fun j hj => absurd hj (by omega)⟩, Lib.hid (by simpa [I64, ofN] using OA.out), Lib.hid (by simpa using BA.out)⟩
  case round =>
    clear OA BA
    obtain ⟨k, y, hk, rfl, HY, HO, HB⟩ := hrel
    have hyl : Hid (y.length = l.length) := by show _ = _; have := own_lenI HO.out; rwa [ofN_len] at this
    by_cases hlt : k < l.length
    · have hdk : decide (k < l.length) = true := by rw [decide_eq_true_iff]; exact hlt
      have HW := Lib.hid (B1.out.trans (HB.out.mono B1.out.size))
      have hpk : sgL p k < l.length := by have := HIP.out.lt k (by rw [HPL.out]; exact hlt); rw [HPL.out] at this; exact this
      have hmk : mt k < l.length := mt_in HEV.out hlt
      have hlk : sgL l k < l.length := HI.out.lt k hlt
      have BW : Hid (∀ W, Below wr.heap.size wr W → Below w.heap.size w W) := fun W m => HW.out.trans (m.mono HW.out.size)
      have M1 : Hid (∀ W, Below wr.heap.size wr W → Calls Try.prog 58 #[.pointer (some ⟨g, 0, none⟩), .int .i64 (k : Int)] W fun e w' => e = .returned (.int .i64 ((mt k : Nat) : Int)) ∧ Below W.heap.size W w') := fun W m => by
        have := mate_in g l b root lone k W (HM.out.below (BW.out W m)) hlt
        rwa [mt_mateN] at this
      have P1 : Hid (∀ W, Below wr.heap.size wr W → Calls Try.prog 44 #[.pointer (some ⟨gp, 0, none⟩), .int .i64 ((mt k : Nat) : Int)] W fun e w' => e = .returned (.int .i64 ((sgL p (mt k) : Nat) : Int)) ∧ W = w') := fun W m => at_in gp p q (mt k) W (HK.out.below (BW.out W m)) (by rw [HPL.out]; exact hmk)
      have P2 : Hid (∀ W, Below wr.heap.size wr W → Calls Try.prog 44 #[.pointer (some ⟨gp, 0, none⟩), .int .i64 (k : Int)] W fun e w' => e = .returned (.int .i64 ((sgL p k : Nat) : Int)) ∧ W = w') := fun W m => at_in gp p q k W (HK.out.below (BW.out W m)) (by rw [HPL.out]; exact hlt)
      have M2 : Hid (∀ W, Below wr.heap.size wr W → Calls Try.prog 58 #[.pointer (some ⟨g, 0, none⟩), .int .i64 ((sgL p k : Nat) : Int)] W fun e w' => e = .returned (.int .i64 ((mt (sgL p k) : Nat) : Int)) ∧ Below W.heap.size W w') := fun W m => by
        have := mate_in g l b root lone (sgL p k) W (HM.out.below (BW.out W m)) hpk
        rwa [mt_mateN] at this
      have S1 : Hid (∀ W, Below wr.heap.size wr W → Calls Try.prog 59 #[.pointer (some ⟨g, 0, none⟩), .int .i64 (k : Int)] W fun e w' => e = .returned (.int .i64 ((sgL l k : Nat) : Int)) ∧ Below W.heap.size W w') := fun W m => sigma_in g l b root lone k W (HM.out.below (BW.out W m)) hlt
      have P3 : Hid (∀ W, Below wr.heap.size wr W → Calls Try.prog 44 #[.pointer (some ⟨gp, 0, none⟩), .int .i64 ((sgL l k : Nat) : Int)] W fun e w' => e = .returned (.int .i64 ((sgL p (sgL l k) : Nat) : Int)) ∧ W = w') := fun W m => at_in gp p q (sgL l k) W (HK.out.below (BW.out W m)) (by rw [HPL.out]; exact hlk)
      have Z0 := Below.refl wr.heap.size wr
      by_cases hq : sgL p (mt k) = mt (sgL p k)
      · have HY1 : Hid ((∀ j, j < k + 1 → sgL p (mt j) = mt (sgL p j)) ∧ (∀ j, j < k + 1 → (y.set (sgL p k) (sgL p (sgL l k))).getD (sgL p j) 0 = sgL p (sgL l j))) := by
          refine ⟨fun j hj => ?_, fun j hj => ?_⟩
          · by_cases e : j = k
            · rw [e]; exact hq
            · exact HY.out.1 j (by omega)
          · rw [getDN_setU _ _ _ _ (by rw [hyl.out]; exact hpk)]
            by_cases e : j = k
            · rw [if_pos (by rw [e]), e]
            · have : sgL p j ≠ sgL p k := fun c => e (HIP.out.inj j k (by rw [HPL.out]; omega) (by rw [HPL.out]; exact hlt) c)
              rw [if_neg this]; exact HY.out.2 j (by omega)
        generalize mt k = v1 at *
        generalize sgL p k = v2 at *
        rw [hq] at P1
        clear hq
        generalize mt v2 = v3 at *
        generalize sgL l k = v4 at *
        generalize sgL p v4 = v5 at *
        clear HY BW HM HK HI HIP HPL HRT HEV HLN hmk hlk
        have hdv : decide (v3 = v3) = true := decide_eq_true rfl
        go_wp2_with fail
        refine (M1.out _ Z0).mono ?_
        rintro e w2 ⟨rfl, z⟩
        have Z2 := Z0.trans (z.mono Z0.size)
        clear z
        go_wp2_with fail
        refine (P1.out _ Z2).mono ?_
        rintro e w' ⟨rfl, rfl⟩
        go_wp2_with fail
        refine (P2.out _ Z2).mono ?_
        rintro e w' ⟨rfl, rfl⟩
        go_wp2_with fail
        refine (M2.out _ Z2).mono ?_
        rintro e w3 ⟨rfl, z⟩
        have Z3 := Z2.trans (z.mono Z2.size)
        clear z
        go_wp2_with fail
        refine (P2.out _ Z3).mono ?_
        rintro e w' ⟨rfl, rfl⟩
        go_wp2_with fail
        refine (S1.out _ Z3).mono ?_
        rintro e w4 ⟨rfl, z⟩
        have Z4 := Z3.trans (z.mono Z3.size)
        clear z
        go_wp2_with fail
        refine (P3.out _ Z4).mono ?_
        rintro e w' ⟨rfl, rfl⟩
        have HO2 := Lib.hid (own_below HO.out Z4)
        have HB2 := Lib.hid (HB.out.trans (Z4.mono HB.out.size))
        have co := own_cellI HO2.out v2 hpk
        have fo := HO2.out.frozenAt v2
        generalize (ofN y).getD v2 0 = u1 at co
        clear Z2 Z3 Z4 Z0 M1 M2 P1 P2 P3 S1 HO HB HW
        go_wp2_with fail
        have HO3 := Lib.hid (own_setNU HO2.out v2 v5)
        have HB3 := Lib.hid (HB2.out.setCell (p := ⟨w1.heap.size, v2, none⟩) (Nat.le_refl _) (.int .i64 (v5 : Int)))
        go_roundw
        case rel => exact ⟨k + 1, y.set v2 v5, by omega, by go_num, HY1.out, HO3.out, HB3.out⟩
        case measure => simp [intOf]; omega
      · have HNO : Hid (¬ Nam l.length p q) := fun c => hq (c.mt k hlt)
        generalize mt k = v1 at *
        generalize sgL p k = v2 at *
        generalize sgL p v1 = v6 at *
        generalize mt v2 = v3 at *
        clear HY HM HK HI HIP HPL HRT HEV HLN hmk hlk S1 P3 BW
        have hdv : decide (v6 = v3) = false := decide_eq_false hq
        go_wp2_with fail
        refine (M1.out _ Z0).mono ?_
        rintro e w2 ⟨rfl, z⟩
        have Z2 := Z0.trans (z.mono Z0.size)
        clear z
        go_wp2_with fail
        refine (P1.out _ Z2).mono ?_
        rintro e w' ⟨rfl, rfl⟩
        go_wp2_with fail
        refine (P2.out _ Z2).mono ?_
        rintro e w' ⟨rfl, rfl⟩
        go_wp2_with fail
        refine (M2.out _ Z2).mono ?_
        rintro e w3 ⟨rfl, z⟩
        have Z3 := Z2.trans (z.mono Z2.size)
        clear z
        go_wp2_with fail
        go_ret2
        exact .inr ⟨HNO.out, rfl, HW.out.trans (Z3.mono HW.out.size)⟩
    · obtain rfl : k = l.length := by omega
      have hdk : decide (l.length < l.length) = false := by simp
      have HN : Hid (Nam l.length p q) := ⟨HIP.out, HPL.out, HEV.out, HY.out.1⟩
      have hye : y = cjL p q l := by
        refine getD_ext (by rw [hyl.out, cjL_len]) fun i hi => ?_
        rw [hyl.out] at hi
        have := HY.out.2 (sgL q i) (HN.out.lt' hi)
        rw [HN.out.pq hi] at this
        rw [this]
        exact (cjL_get p q l hi).symm
      subst hye
      have HR := Lib.hid (Rd.ofOwn HO.out)
      have BR := Lib.hid (B1.out.trans (HB.out.mono B1.out.size))
      have HMR := Lib.hid (HM.out.below BR.out)
      have HKR := Lib.hid (HK.out.below BR.out)
      have RP : Hid (∀ W, Below wr.heap.size wr W → Calls Try.prog 40 #[.pointer (some ⟨g, 0, none⟩)] W fun e w' => e = .returned (.int .i64 root) ∧ W = w') := fun W m => root_p g l b root lone W (HMR.out.below m)
      have LP : Hid (∀ W, Below wr.heap.size wr W → Calls Try.prog 60 #[.pointer (some ⟨g, 0, none⟩)] W fun e w' => e = .returned (.int .i64 lone) ∧ W = w') := fun W m => lone_p g l b root lone W (HMR.out.below m)
      have AP : Hid (∀ W, Below wr.heap.size wr W → Calls Try.prog 44 #[.pointer (some ⟨gp, 0, none⟩), .int .i64 root] W fun e w' => e = .returned (.int .i64 (reRoot p root)) ∧ W = w') := fun W m => at_root gp p q root W (HKR.out.below m) (by rw [HPL.out]; exact HRT.out)
      have NP : Hid (∀ W, Below wr.heap.size wr W → Calls Try.prog 35 #[.slice (some ⟨w1.heap.size, 0, none⟩) l.length l.length, .int .i64 (reRoot p root), .int .i64 lone] W (NewMap W (cjL p q l) (cjL p q b) (reRoot p root) lone)) := fun W m => new_ok _ l.length l.length (cjL p q l) (cjL p q b) (reRoot p root) lone W (HR.out.more m) (cj_inv HN.out HI.out) HEV.out hle (reRoot_ok HN.out HRT.out) HLN.out.1 HLN.out.2
      have Z0 := Below.refl wr.heap.size wr
      obtain ⟨rr, hrr⟩ : ∃ rr, reRoot p root = rr := ⟨_, rfl⟩
      rw [hrr] at AP NP
      clear hyl HY HO HB HMR HM HKR HK hlt hk
      go_wp2_with fail
      refine (RP.out _ Z0).mono ?_
      rintro e w' ⟨rfl, rfl⟩
      go_wp2_with fail
      refine (AP.out _ Z0).mono ?_
      rintro e w' ⟨rfl, rfl⟩
      go_wp2_with fail
      refine (LP.out _ Z0).mono ?_
      rintro e w' ⟨rfl, rfl⟩
      go_wp2_with fail
      refine (NP.out _ Z0).mono ?_
      rintro e w3 ⟨g3, rfl, hm3, b3, _⟩
      have HM3 := Lib.hid hm3
      have B3 := Lib.hid (BR.out.trans (b3.mono BR.out.size))
      clear hm3 b3
      go_wp2_with fail
      go_ret2
      exact .inl ⟨HN.out, ⟨g3, rfl, by rw [hrr]; exact HM3.out⟩, B3.out⟩
end Go.Proofs.Ytfolefadjdcehaa
