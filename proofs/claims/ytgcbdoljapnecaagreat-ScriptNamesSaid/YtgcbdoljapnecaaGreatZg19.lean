/- Relabel. Canon, of a map with darts. Canon, of a map without darts. What maps that are answer: Rooted, Same. -/
import Derived.Test.YtgcbdoljapnecaaGreatZg3
import Derived.Test.YtgcbdoljapnecaaGreatZUAwake
import Derived.Test.YtgcbdoljapnecaaGreatZg18
import Derived.Test.YtgcbdoljapnecaaGreatZDPhi
namespace Go.Proofs.YtgcbdoljapnecaaGreat
set_option maxRecDepth 100000
open Go.RowKit
set_option linter.unusedVariables false
/-- The root by other names. -/
def reRoot (p : List Nat) (root : Int) : Int := if root < 0 then -1 else ((p.getD root.toNat 0 : Nat) : Int)
theorem at_root (gp : Nat) (p q : List Nat) (root : Int) (w : World) (h : PermAt w gp p q) (hr : RootOk root p.length) :
    Calls Tryz.prog 128 #[.pointer (some ⟨gp, 0, none⟩), .int .i64 root] w fun e w' => e = .returned (.int .i64 (reRoot p root)) ∧ w = w' := by
  rcases hr with ⟨h0, rfl⟩ | ⟨h0, h1, h2⟩
  · exact at_out gp p q (-1) w h (.inl (by decide))
  · obtain ⟨r, rfl⟩ : ∃ r : Nat, root = (r : Int) := ⟨root.toNat, by omega⟩
    have := at_in gp p q r w h (by omega)
    unfold reRoot
    rw [if_neg (by omega), Int.toNat_natCast]
    exact this
theorem reRoot_ok {n : Nat} {p q : List Nat} (h : Nam n p q) {root : Int} (hr : RootOk root n) : RootOk (reRoot p root) n := by
  unfold reRoot
  rcases hr with ⟨h0, rfl⟩ | ⟨h0, h1, h2⟩
  · rw [if_pos (by decide)]; exact .inl ⟨h0, rfl⟩
  · rw [if_neg (by omega)]
    have := h.lt (d := root.toNat) (by omega)
    unfold sgL at this
    exact .inr ⟨h0, by omega, by omega⟩
def RelPost (w : World) (l b p q : List Nat) (root lone : Int) (e : Ending) (w' : World) : Prop :=
  (Nam l.length p q ∧ (∃ g', e = .returned (.tuple #[.pointer (some ⟨g', 0, none⟩), .int .i64 0]) ∧ MapAt w' g' (cjL p q l) (cjL p q b) (reRoot p root) lone) ∧ Below w.heap.size w w') ∨
  (¬ Nam l.length p q ∧ e = .returned (.tuple #[.pointer none, .int .i64 4]) ∧ Below w.heap.size w w')
set_option maxHeartbeats 8000000 in
theorem relabel_p (g gp : Nat) (l b p q : List Nat) (root lone : Int) (w : World) (h : MapAt w g l b root lone) (kp : PermAt w gp p q) (hlen : p.length = l.length) (hi : Inv l b) (hip : Inv p q) (hr : RootOk root l.length) :
    Calls Tryz.prog 134 #[.pointer (some ⟨g, 0, none⟩), .pointer (some ⟨gp, 0, none⟩)] w (RelPost w l b p q root lone) := by
  have LN := Lib.hid (len_p gp p q w kp)
  rw [hlen] at LN
  have DP : Hid (∀ W, Below w.heap.size w W → Calls Tryz.prog 24 #[.pointer (some ⟨g, 0, none⟩)] W fun e w' => e = .returned (.int .i64 (l.length : Int)) ∧ Below W.heap.size W w') := fun W m => darts_p g l b root lone W (h.below m)
  have HM := Lib.hid h
  have HK := Lib.hid kp
  have HI := Lib.hid hi
  have HIP := Lib.hid hip
  have HPL := Lib.hid hlen
  have HRT := Lib.hid hr
  have HEV : Hid (l.length % 2 = 0) := h.1.1
  have HLN := Lib.hid h.1.2
  have hle := h.2.1
  have hd0 : decide (l.length = l.length) = true := decide_eq_true rfl
  obtain ⟨i0, hi0, hz0, hz1, hz2⟩ := info_parts info_int
  have hmk := run_make_one (P := Tryz.prog) 29 3 i0 (.int .i64 0) 8 Tryz.underlying29 hi0 hz0 hz1 hz2 rfl .i64 .i64 l.length (by omega) (by omega)
  clear h kp hi hip hlen hr
  go_enter Tryz.func134, Tryz.ntmps134
  go_wp2_with fail
  refine LN.out.mono ?_
  rintro e w' ⟨rfl, rfl⟩
  have Z0 := Below.refl w.heap.size w
  go_wp2_with fail
  refine (DP.out _ Z0).mono ?_
  rintro e w0 ⟨rfl, b0⟩
  go_wp2_with fail
  refine (DP.out _ b0).mono ?_
  rintro e w1 ⟨rfl, b1⟩
  have B1 := Lib.hid (b0.trans (b1.mono b0.size))
  have OA := Lib.hid (own_made w1 3 l.length (.int .i64 0) (by simp only [maxLen]; omega))
  have BA := Lib.hid ((Below.refl w1.heap.size w1).alloc (Nat.le_refl _) (.cells (List.replicate l.length (.int .i64 0)).toArray 3))
  clear b1 b0 Z0 DP LN
  go_wp2_with fail
  clear hmk
  go_loopw [24] (fun i wr => ∃ (k : Nat) (y : List Nat), k ≤ l.length ∧ i = .int .i64 (k : Int) ∧ Hid ((∀ j, j < k → sgL p (mt j) = mt (sgL p j)) ∧ (∀ j, j < k → y.getD (sgL p j) 0 = sgL p (sgL l j))) ∧ Hid (wr.ownsRow w1.heap.size 3 1 (.slice (some ⟨w1.heap.size, 0, none⟩) l.length l.length) l.length (I64 (ofN y))) ∧ Hid (Below w1.heap.size w1 wr)) (fun i _ => l.length - (intOf i).toNat)
  case atStart => exact ⟨0, List.replicate l.length 0, by omega, rfl, ⟨fun j hj => absurd hj (by omega), fun j hj => absurd hj (by omega)⟩, Lib.hid (by simpa [I64, ofN] using OA.out), Lib.hid (by simpa using BA.out)⟩
  case round =>
    clear OA BA
    obtain ⟨k, y, hk, rfl, HY, HO, HB⟩ := hrel
    have hyl : Hid (y.length = l.length) := by show _ = _; have := own_lenI HO.out; rwa [ofN_len] at this
    by_cases hlt : k < l.length
    · have hdk : decide (k < l.length) = true := by rw [decide_eq_true_iff]; exact hlt
      have HW := Lib.hid (B1.out.trans (HB.out.mono B1.out.size))
      have hpk : sgL p k < l.length := by have := HIP.out.lt k (by rw [HPL.out]; exact hlt); rw [HPL.out] at this; exact this
      have hmk : mt k < l.length := mt_in HEV.out hlt
      have hlk : sgL l k < l.length := HI.out.lt k hlt
      have BW : Hid (∀ W, Below wr.heap.size wr W → Below w.heap.size w W) := fun W m => HW.out.trans (m.mono HW.out.size)
      have M1 : Hid (∀ W, Below wr.heap.size wr W → Calls Tryz.prog 58 #[.pointer (some ⟨g, 0, none⟩), .int .i64 (k : Int)] W fun e w' => e = .returned (.int .i64 ((mt k : Nat) : Int)) ∧ Below W.heap.size W w') := fun W m => by
        have := mate_in g l b root lone k W (HM.out.below (BW.out W m)) hlt
        rwa [mt_mateN] at this
      have P1 : Hid (∀ W, Below wr.heap.size wr W → Calls Tryz.prog 128 #[.pointer (some ⟨gp, 0, none⟩), .int .i64 ((mt k : Nat) : Int)] W fun e w' => e = .returned (.int .i64 ((sgL p (mt k) : Nat) : Int)) ∧ W = w') := fun W m => at_in gp p q (mt k) W (HK.out.below (BW.out W m)) (by rw [HPL.out]; exact hmk)
      have P2 : Hid (∀ W, Below wr.heap.size wr W → Calls Tryz.prog 128 #[.pointer (some ⟨gp, 0, none⟩), .int .i64 (k : Int)] W fun e w' => e = .returned (.int .i64 ((sgL p k : Nat) : Int)) ∧ W = w') := fun W m => at_in gp p q k W (HK.out.below (BW.out W m)) (by rw [HPL.out]; exact hlt)
      have M2 : Hid (∀ W, Below wr.heap.size wr W → Calls Tryz.prog 58 #[.pointer (some ⟨g, 0, none⟩), .int .i64 ((sgL p k : Nat) : Int)] W fun e w' => e = .returned (.int .i64 ((mt (sgL p k) : Nat) : Int)) ∧ Below W.heap.size W w') := fun W m => by
        have := mate_in g l b root lone (sgL p k) W (HM.out.below (BW.out W m)) hpk
        rwa [mt_mateN] at this
      have S1 : Hid (∀ W, Below wr.heap.size wr W → Calls Tryz.prog 116 #[.pointer (some ⟨g, 0, none⟩), .int .i64 (k : Int)] W fun e w' => e = .returned (.int .i64 ((sgL l k : Nat) : Int)) ∧ Below W.heap.size W w') := fun W m => sigma_in g l b root lone k W (HM.out.below (BW.out W m)) hlt
      have P3 : Hid (∀ W, Below wr.heap.size wr W → Calls Tryz.prog 128 #[.pointer (some ⟨gp, 0, none⟩), .int .i64 ((sgL l k : Nat) : Int)] W fun e w' => e = .returned (.int .i64 ((sgL p (sgL l k) : Nat) : Int)) ∧ W = w') := fun W m => at_in gp p q (sgL l k) W (HK.out.below (BW.out W m)) (by rw [HPL.out]; exact hlk)
      have Z0 := Below.refl wr.heap.size wr
      by_cases hq : sgL p (mt k) = mt (sgL p k)
      · have HY1 : Hid ((∀ j, j < k + 1 → sgL p (mt j) = mt (sgL p j)) ∧ (∀ j, j < k + 1 → (y.set (sgL p k) (sgL p (sgL l k))).getD (sgL p j) 0 = sgL p (sgL l j))) := by
          refine ⟨fun j hj => ?_, fun j hj => ?_⟩
          · by_cases e : j = k
            · rw [e]; exact hq
            · exact HY.out.1 j (by omega)
          · rw [getDN_setU _ _ _ _ (by rw [hyl.out]; exact hpk)]
            by_cases e : j = k
            · rw [if_pos (by rw [e]), e]
            · have : sgL p j ≠ sgL p k := fun c => e (HIP.out.inj j k (by rw [HPL.out]; omega) (by rw [HPL.out]; exact hlt) c)
              rw [if_neg this]; exact HY.out.2 j (by omega)
        generalize mt k = v1 at *
        generalize sgL p k = v2 at *
        rw [hq] at P1
        clear hq
        generalize mt v2 = v3 at *
        generalize sgL l k = v4 at *
        generalize sgL p v4 = v5 at *
        clear HY BW HM HK HI HIP HPL HRT HEV HLN hmk hlk
        have hdv : decide (v3 = v3) = true := decide_eq_true rfl
        go_wp2_with fail
        refine (M1.out _ Z0).mono ?_
        rintro e w2 ⟨rfl, z⟩
        have Z2 := Z0.trans (z.mono Z0.size)
        clear z
        go_wp2_with fail
        refine (P1.out _ Z2).mono ?_
        rintro e w' ⟨rfl, rfl⟩
        go_wp2_with fail
        refine (P2.out _ Z2).mono ?_
        rintro e w' ⟨rfl, rfl⟩
        go_wp2_with fail
        refine (M2.out _ Z2).mono ?_
        rintro e w3 ⟨rfl, z⟩
        have Z3 := Z2.trans (z.mono Z2.size)
        clear z
        go_wp2_with fail
        refine (P2.out _ Z3).mono ?_
        rintro e w' ⟨rfl, rfl⟩
        go_wp2_with fail
        refine (S1.out _ Z3).mono ?_
        rintro e w4 ⟨rfl, z⟩
        have Z4 := Z3.trans (z.mono Z3.size)
        clear z
        go_wp2_with fail
        refine (P3.out _ Z4).mono ?_
        rintro e w' ⟨rfl, rfl⟩
        have HO2 := Lib.hid (own_below HO.out Z4)
        have HB2 := Lib.hid (HB.out.trans (Z4.mono HB.out.size))
        have co := own_cellI HO2.out v2 hpk
        have fo := HO2.out.frozenAt v2
        generalize (ofN y).getD v2 0 = u1 at co
        clear Z2 Z3 Z4 Z0 M1 M2 P1 P2 P3 S1 HO HB HW
        go_wp2_with fail
        have HO3 := Lib.hid (own_setNU HO2.out v2 v5)
        have HB3 := Lib.hid (HB2.out.setCell (p := ⟨w1.heap.size, v2, none⟩) (Nat.le_refl _) (.int .i64 (v5 : Int)))
        go_roundw
        case rel => exact ⟨k + 1, y.set v2 v5, by omega, by go_num, HY1.out, HO3.out, HB3.out⟩
        case measure => simp [intOf]; omega
      · have HNO : Hid (¬ Nam l.length p q) := fun c => hq (c.mt k hlt)
        generalize mt k = v1 at *
        generalize sgL p k = v2 at *
        generalize sgL p v1 = v6 at *
        generalize mt v2 = v3 at *
        clear HY HM HK HI HIP HPL HRT HEV HLN hmk hlk S1 P3 BW
        have hdv : decide (v6 = v3) = false := decide_eq_false hq
        go_wp2_with fail
        refine (M1.out _ Z0).mono ?_
        rintro e w2 ⟨rfl, z⟩
        have Z2 := Z0.trans (z.mono Z0.size)
        clear z
        go_wp2_with fail
        refine (P1.out _ Z2).mono ?_
        rintro e w' ⟨rfl, rfl⟩
        go_wp2_with fail
        refine (P2.out _ Z2).mono ?_
        rintro e w' ⟨rfl, rfl⟩
        go_wp2_with fail
        refine (M2.out _ Z2).mono ?_
        rintro e w3 ⟨rfl, z⟩
        have Z3 := Z2.trans (z.mono Z2.size)
        clear z
        go_wp2_with fail
        go_ret2
        exact .inr ⟨HNO.out, rfl, HW.out.trans (Z3.mono HW.out.size)⟩
    · obtain rfl : k = l.length := by omega
      have hdk : decide (l.length < l.length) = false := by simp
      have HN : Hid (Nam l.length p q) := ⟨HIP.out, HPL.out, HEV.out, HY.out.1⟩
      have hye : y = cjL p q l := by
        refine getD_ext (by rw [hyl.out, cjL_len]) fun i hi => ?_
        rw [hyl.out] at hi
        have := HY.out.2 (sgL q i) (HN.out.lt' hi)
        rw [HN.out.pq hi] at this
        rw [this]
        exact (cjL_get p q l hi).symm
      subst hye
      have HR := Lib.hid (Rd.ofOwn HO.out)
      have BR := Lib.hid (B1.out.trans (HB.out.mono B1.out.size))
      have HMR := Lib.hid (HM.out.below BR.out)
      have HKR := Lib.hid (HK.out.below BR.out)
      have RP : Hid (∀ W, Below wr.heap.size wr W → Calls Tryz.prog 14 #[.pointer (some ⟨g, 0, none⟩)] W fun e w' => e = .returned (.int .i64 root) ∧ W = w') := fun W m => root_p g l b root lone W (HMR.out.below m)
      have LP : Hid (∀ W, Below wr.heap.size wr W → Calls Tryz.prog 15 #[.pointer (some ⟨g, 0, none⟩)] W fun e w' => e = .returned (.int .i64 lone) ∧ W = w') := fun W m => lone_p g l b root lone W (HMR.out.below m)
      have AP : Hid (∀ W, Below wr.heap.size wr W → Calls Tryz.prog 128 #[.pointer (some ⟨gp, 0, none⟩), .int .i64 root] W fun e w' => e = .returned (.int .i64 (reRoot p root)) ∧ W = w') := fun W m => at_root gp p q root W (HKR.out.below m) (by rw [HPL.out]; exact HRT.out)
      have NP : Hid (∀ W, Below wr.heap.size wr W → Calls Tryz.prog 19 #[.slice (some ⟨w1.heap.size, 0, none⟩) l.length l.length, .int .i64 (reRoot p root), .int .i64 lone] W (NewMap W (cjL p q l) (cjL p q b) (reRoot p root) lone)) := fun W m => new_ok _ l.length l.length (cjL p q l) (cjL p q b) (reRoot p root) lone W (HR.out.more m) (cj_inv HN.out HI.out) HEV.out hle (reRoot_ok HN.out HRT.out) HLN.out.1 HLN.out.2
      have Z0 := Below.refl wr.heap.size wr
      obtain ⟨rr, hrr⟩ : ∃ rr, reRoot p root = rr := ⟨_, rfl⟩
      rw [hrr] at AP NP
      clear hyl HY HO HB HMR HM HKR HK hlt hk
      go_wp2_with fail
      refine (RP.out _ Z0).mono ?_
      rintro e w' ⟨rfl, rfl⟩
      go_wp2_with fail
      refine (AP.out _ Z0).mono ?_
      rintro e w' ⟨rfl, rfl⟩
      go_wp2_with fail
      refine (LP.out _ Z0).mono ?_
      rintro e w' ⟨rfl, rfl⟩
      go_wp2_with fail
      refine (NP.out _ Z0).mono ?_
      rintro e w3 ⟨g3, rfl, hm3, b3, _⟩
      have HM3 := Lib.hid hm3
      have B3 := Lib.hid (BR.out.trans (b3.mono BR.out.size))
      clear hm3 b3
      go_wp2_with fail
      go_ret2
      exact .inl ⟨HN.out, ⟨g3, rfl, by rw [hrr]; exact HM3.out⟩, B3.out⟩
end Go.Proofs.YtgcbdoljapnecaaGreat
namespace Go.Proofs.YtgcbdoljapnecaaGreat
set_option maxRecDepth 100000
open Go.RowKit
set_option linter.unusedVariables false
set_option linter.unusedSimpArgs false
theorem ofN_injC {a b : List Nat} (h : ofN a = ofN b) : a = b := (List.map_inj_right (fun x y h => Int.ofNat.inj h)).1 h
theorem reRoot_nat (P : List Nat) (r : Nat) : reRoot P (r : Int) = ((sgL P r : Nat) : Int) := by
  unfold reRoot
  rw [if_neg (by omega)]; rfl
/-- The canonical map, and the names. -/
def CanonPost (w : World) (l b P Q : List Nat) (r : Nat) (lone : Int) (e : Ending) (w' : World) : Prop :=
  ∃ g' gp, e = .returned (.tuple #[.pointer (some ⟨g', 0, none⟩), .pointer (some ⟨gp, 0, none⟩), .int .i64 0]) ∧ MapAt w' g' (cjL P Q l) (cjL P Q b) ((sgL P r : Nat) : Int) lone ∧ PermAt w' gp P Q ∧ Below w.heap.size w w'
set_option maxHeartbeats 8000000 in
theorem canon_p (g : Nat) (l b : List Nat) (r : Nat) (lone : Int) (P Q : List Nat) (w : World) (h : MapAt w g l b (r : Int) lone) (hi : Inv l b) (hr : r < l.length) (hC : CanA l r P Q) :
    Calls Tryz.prog 117 #[.pointer (some ⟨g, 0, none⟩)] w (CanonPost w l b P Q r lone) := by
  have hle := h.2.1
  have hpl := hC.nam.len
  have NP := Lib.hid (cnames_p g l b r lone P Q w h hi hr hC)
  have RP : Hid (∀ (W : World) (gp : Nat), Below w.heap.size w W → PermAt W gp P Q → Calls Tryz.prog 134 #[.pointer (some ⟨g, 0, none⟩), .pointer (some ⟨gp, 0, none⟩)] W fun e w' => ∃ g', e = .returned (.tuple #[.pointer (some ⟨g', 0, none⟩), .int .i64 0]) ∧ MapAt w' g' (cjL P Q l) (cjL P Q b) ((sgL P r : Nat) : Int) lone ∧ Below W.heap.size W w') := fun W gp z k => by
    refine (relabel_p g gp l b P Q (r : Int) lone W (h.below z) k hpl hi hC.nam.inv (.inr ⟨by omega, by omega, by omega⟩)).mono ?_
    rintro e w' (⟨_, ⟨g', h1, h2⟩, h3⟩ | ⟨h1, _⟩)
    · rw [reRoot_nat] at h2
      exact ⟨g', h1, h2, h3⟩
    · exact absurd hC.nam h1
  have OP : Hid (∀ (W : World) (A : Option Addr) (c : Nat), Rd W W.heap.size A P.length (I64 (ofN P)) → Calls Tryz.prog 39 #[.slice A P.length c] W fun e w' => ∃ gp, e = .returned (.tuple #[.pointer (some ⟨gp, 0, none⟩), .int .i64 0]) ∧ PermAt w' gp P Q ∧ Below W.heap.size W w') := fun W A c z => by
    refine (of_p A P.length c _ (ofN P) W z (by omega)).mono ?_
    rintro e w' ⟨⟨gp, l', b', h1, h2, h3, _⟩ | ⟨h1, _⟩, h4⟩
    · have e1 := ofN_injC h1
      subst e1
      have e2 := Inv.unique h3.1 hC.nam.inv
      subst e2
      exact ⟨gp, h2, h3, h4⟩
    · exact absurd hC.nam.inv.good h1
  clear h hi hr hC hle hpl
  go_enter Tryz.func117, Tryz.ntmps117
  go_wp2_with fail
  refine NP.out.mono ?_
  rintro e w1 ⟨A, c, rfl, _, _, o1, b1⟩
  rw [ofN_len] at o1 ⊢
  have OP1 := Lib.hid (OP.out w1 A c (Rd.ofOwn o1))
  have B1 := Lib.hid b1
  clear o1 b1 NP OP
  go_wp2_with fail
  refine OP1.out.mono ?_
  rintro e w2 ⟨gp, rfl, k2, b2⟩
  have B2 := Lib.hid (B1.out.trans (b2.mono B1.out.size))
  have RP2 := Lib.hid (RP.out w2 gp B2.out k2)
  have K2 := Lib.hid k2
  clear b2 k2 B1 OP1 RP
  go_wp2_with fail
  refine RP2.out.mono ?_
  rintro e w3 ⟨g', rfl, m3, b3⟩
  have M3 := Lib.hid m3
  have K3 := Lib.hid (K2.out.below b3)
  have B3 := Lib.hid (B2.out.trans (b3.mono B2.out.size))
  clear m3 b3 K2 B2 RP2
  go_wp2_with fail
  go_ret3
  exact ⟨g', gp, rfl, M3.out, K3.out, B3.out⟩
end Go.Proofs.YtgcbdoljapnecaaGreat
namespace Go.Proofs.YtgcbdoljapnecaaGreat
set_option maxRecDepth 100000
open Go.RowKit
set_option linter.unusedVariables false
set_option linter.unusedSimpArgs false
theorem cparts_e (g : Nat) (l b : List Nat) (root lone : Int) (w : World) (h : MapAt w g l b root lone) (h0 : l.length = 0) :
    Calls Tryz.prog 138 #[.pointer (some ⟨g, 0, none⟩)] w fun e w' => e = .returned (.slice none 0 0) ∧ Below w.heap.size w w' := by
  have EN := Lib.hid (enames_p g l b root lone w h)
  have hel : (ofN (enames l)).length = 0 := by rw [ofN_len, enames_len, h0]
  clear h
  go_enter Tryz.func138, Tryz.ntmps138
  go_wp2_with fail
  refine EN.out.mono ?_
  rintro e w1 ⟨A1, c1, rfl, _, _, o1, b1⟩
  rw [hel] at o1 ⊢
  have B1 := Lib.hid b1
  clear EN hel b1 o1
  go_wp2_with fail
  go_loopw [3, 13] (fun v x wr => v = .slice none 0 0 ∧ x = .int .i64 0 ∧ Hid (Below w.heap.size w wr)) (fun _ _ _ => 0)
  case atStart => exact ⟨rfl, rfl, B1⟩
  case round =>
    clear B1
    obtain ⟨rfl, rfl, BB⟩ := hrel
    go_wp2_with fail
    go_ret
    exact ⟨rfl, BB.out⟩
theorem clooked_e (g : Nat) (l b : List Nat) (root lone : Int) (w : World) (h : MapAt w g l b root lone) (h0 : l.length = 0) :
    Calls Tryz.prog 137 #[.pointer (some ⟨g, 0, none⟩)] w fun e w' => e = .returned (.slice none 0 0) ∧ Below w.heap.size w w' := by
  have DP := Lib.hid (darts_p g l b _ _ w h)
  have PP : Hid (∀ W, Below w.heap.size w W → Calls Tryz.prog 138 #[.pointer (some ⟨g, 0, none⟩)] W fun e w' => e = .returned (.slice none 0 0) ∧ Below W.heap.size W w') := fun W m => cparts_e g l b root lone W (h.below m) h0
  obtain ⟨i0, hi0, hz0, hz1, hz2⟩ := info_parts info_int
  have hmk := run_make_one (P := Tryz.prog) 29 3 i0 (.int .i64 0) 8 Tryz.underlying29 hi0 hz0 hz1 hz2 rfl .i64 .i64 0 (by omega) (by omega)
  have hmk0 : ∀ W, Sem.run Tryz.prog (Instr.makeSlice 29 (.int .i64 0) (.int .i64 0)) W = Result.ok (Value.slice (some ⟨W.heap.size, 0, none⟩) 0 0) (W.alloc (.cells #[] 3)) := hmk
  clear hmk
  rw [h0] at DP
  clear h h0
  go_enter Tryz.func137, Tryz.ntmps137
  go_wp2_with fail
  refine DP.out.mono ?_
  rintro e w1 ⟨rfl, b1⟩
  have ZP : Hid (Below w.heap.size w (w1.alloc (.cells #[] 3))) := b1.alloc b1.size _
  have PP1 := Lib.hid (PP.out _ ZP.out)
  clear b1
  go_wp2_with fail
  refine PP1.out.mono ?_
  rintro e w2 ⟨rfl, b2⟩
  have Z2 := Lib.hid (ZP.out.trans (b2.mono ZP.out.size))
  clear b2 ZP PP1 hmk0
  go_wp2_with fail
  go_loopw [3, 17] (fun v x wr => v = .slice none 0 0 ∧ x = .int .i64 0 ∧ Hid (Below w.heap.size w wr)) (fun _ _ _ => 0)
  case atStart => exact ⟨rfl, rfl, Z2⟩
  case round =>
    clear Z2
    obtain ⟨rfl, rfl, BB⟩ := hrel
    go_wp2_with fail
    go_ret
    exact ⟨rfl, BB.out⟩
theorem cnames_e (g : Nat) (l b : List Nat) (root lone : Int) (w : World) (h : MapAt w g l b root lone) (h0 : l.length = 0) :
    Calls Tryz.prog 133 #[.pointer (some ⟨g, 0, none⟩)] w (NewI64 w (ofN [])) := by
  have DP : Hid (∀ W, Below w.heap.size w W → Calls Tryz.prog 24 #[.pointer (some ⟨g, 0, none⟩)] W fun e w' => e = .returned (.int .i64 0) ∧ Below W.heap.size W w') := fun W z => by
    have := darts_p g l b _ _ W (h.below z)
    rw [h0] at this; exact this
  have LP : Hid (∀ W, Below w.heap.size w W → Calls Tryz.prog 137 #[.pointer (some ⟨g, 0, none⟩)] W fun e w' => e = .returned (.slice none 0 0) ∧ Below W.heap.size W w') := fun W z => clooked_e g l b root lone W (h.below z) h0
  have REP : Hid (∀ (W : World) (a : Nat), Rd W (a + 1) (some ⟨a, 0, none⟩) 1 (I64 [-1]) → a + 1 ≤ W.heap.size → Calls Tryz.prog 90 #[.slice (some ⟨a, 0, none⟩) 1 1, .int .i64 0] W fun e w' => e = .returned (.slice (some ⟨W.heap.size, 0, none⟩) 0 0) ∧ w'.ownsRow W.heap.size 3 1 (.slice (some ⟨W.heap.size, 0, none⟩) 0 0) 0 (I64 (List.replicate 0 (-1))) ∧ Below W.heap.size W w') := fun W a hr' ha => repeat_p a 0 1 (-1) (a + 1) W (by omega) hr' ha
  have ZA : Hid (Below w.heap.size w (w.alloc (.cells #[.int .i64 (-1)] 3))) := (Below.refl _ _).alloc (Nat.le_refl _) _
  have DA := Lib.hid (DP.out _ ZA.out)
  clear h h0
  go_enter Tryz.func133, Tryz.ntmps133
  go_wp2_with fail
  refine DA.out.mono ?_
  rintro e w1 ⟨rfl, z⟩
  have Z1 := Lib.hid (ZA.out.trans (z.mono ZA.out.size))
  have rd : Rd w1 (w.heap.size + 1) (some ⟨w.heap.size, 0, none⟩) 1 (I64 [-1]) := (Rd.new w 3 #[.int .i64 (-1)] 1 (I64 [-1]) rfl rfl).below (by simpa using z)
  have RE := Lib.hid (REP.out w1 w.heap.size rd (by have := z.size; simpa using this))
  clear z rd ZA DA
  go_wp2_with fail
  refine RE.out.mono ?_
  rintro e w2 ⟨rfl, o2, z⟩
  have Z2 := Lib.hid (Z1.out.trans (z.mono Z1.out.size))
  have O2 := Lib.hid (o2.base_le' Z1.out.size)
  obtain ⟨gN, hgN⟩ : ∃ gN, gN = w1.heap.size := ⟨_, rfl⟩
  rw [← hgN] at O2 ⊢
  have LQ := Lib.hid (LP.out w2 Z2.out)
  clear z o2 RE hgN Z1
  go_wp2_with fail
  refine LQ.out.mono ?_
  rintro e w3 ⟨rfl, z⟩
  have Z3 := Lib.hid (Z2.out.trans (z.mono Z2.out.size))
  have ON := Lib.hid (own_below O2.out z)
  clear z O2 Z2 LQ
  go_wp2_with fail
  go_loopw [4, 14] (fun v x wr => v = .int .i64 0 ∧ x = .int .i64 0 ∧ Hid (wr.ownsRow w.heap.size 3 1 (.slice (some ⟨gN, 0, none⟩) 0 0) 0 (I64 (List.replicate 0 (-1)))) ∧ Hid (Below w.heap.size w wr)) (fun _ _ _ => 0)
  case atStart => exact ⟨rfl, rfl, ON, Z3⟩
  case round =>
    clear ON Z3
    obtain ⟨rfl, rfl, O4, Z4⟩ := hrel
    go_wp2_with fail
    go_ret
    exact NewI64.mk rfl O4.out Z4.out
set_option maxHeartbeats 8000000 in
theorem canon_e (g : Nat) (l b : List Nat) (lone : Int) (w : World) (h : MapAt w g l b (-1) lone) (hi : Inv l b) (h0 : l.length = 0) :
    Calls Tryz.prog 117 #[.pointer (some ⟨g, 0, none⟩)] w fun e w' => ∃ g' gp, e = .returned (.tuple #[.pointer (some ⟨g', 0, none⟩), .pointer (some ⟨gp, 0, none⟩), .int .i64 0]) ∧ MapAt w' g' [] [] (-1) lone ∧ PermAt w' gp [] [] ∧ Below w.heap.size w w' := by
  have hl : l = [] := List.eq_nil_of_length_eq_zero h0
  subst hl
  have hb : b = [] := List.eq_nil_of_length_eq_zero hi.len
  subst hb
  have NI : Inv [] [] := ⟨rfl, fun i h => absurd h (by simp), fun i h => absurd h (by simp), fun i h => absurd h (by simp), fun i h => absurd h (by simp)⟩
  have hN : Nam 0 [] [] := ⟨NI, rfl, rfl, fun d hd => absurd hd (by omega)⟩
  have NP := Lib.hid (cnames_e g [] [] _ lone w h h0)
  have RP : Hid (∀ (W : World) (gp : Nat), Below w.heap.size w W → PermAt W gp [] [] → Calls Tryz.prog 134 #[.pointer (some ⟨g, 0, none⟩), .pointer (some ⟨gp, 0, none⟩)] W fun e w' => ∃ g', e = .returned (.tuple #[.pointer (some ⟨g', 0, none⟩), .int .i64 0]) ∧ MapAt w' g' [] [] (-1) lone ∧ Below W.heap.size W w') := fun W gp z k => by
    refine (relabel_p g gp [] [] [] [] (-1) lone W (h.below z) k rfl NI NI (.inl ⟨rfl, rfl⟩)).mono ?_
    rintro e w' (⟨_, ⟨g', h1, h2⟩, h3⟩ | ⟨h1, _⟩)
    · exact ⟨g', h1, h2, h3⟩
    · exact absurd hN h1
  have OP : Hid (∀ (W : World) (A : Option Addr) (c : Nat), Rd W W.heap.size A 0 (I64 (ofN [])) → Calls Tryz.prog 39 #[.slice A 0 c] W fun e w' => ∃ gp, e = .returned (.tuple #[.pointer (some ⟨gp, 0, none⟩), .int .i64 0]) ∧ PermAt w' gp [] [] ∧ Below W.heap.size W w') := fun W A c z => by
    refine (of_p A 0 c _ (ofN []) W z (by omega)).mono ?_
    rintro e w' ⟨⟨gp, l', b', h1, h2, h3, _⟩ | ⟨h1, _⟩, h4⟩
    · have e1 := ofN_injC h1
      subst e1
      have e2 := Inv.unique h3.1 NI
      subst e2
      exact ⟨gp, h2, h3, h4⟩
    · exact absurd NI.good h1
  clear h hi h0 NI hN
  go_enter Tryz.func117, Tryz.ntmps117
  go_wp2_with fail
  refine NP.out.mono ?_
  rintro e w1 ⟨A, c, rfl, _, _, o1, b1⟩
  rw [show (ofN []).length = 0 from rfl] at o1 ⊢
  have OP1 := Lib.hid (OP.out w1 A c (Rd.ofOwn o1))
  have B1 := Lib.hid b1
  clear o1 b1 NP OP
  go_wp2_with fail
  refine OP1.out.mono ?_
  rintro e w2 ⟨gp, rfl, k2, b2⟩
  have B2 := Lib.hid (B1.out.trans (b2.mono B1.out.size))
  have RP2 := Lib.hid (RP.out w2 gp B2.out k2)
  have K2 := Lib.hid k2
  clear b2 k2 B1 OP1 RP
  go_wp2_with fail
  refine RP2.out.mono ?_
  rintro e w3 ⟨g', rfl, m3, b3⟩
  have M3 := Lib.hid m3
  have K3 := Lib.hid (K2.out.below b3)
  have B3 := Lib.hid (B2.out.trans (b3.mono B2.out.size))
  clear m3 b3 K2 B2 RP2
  go_wp2_with fail
  go_ret3
  exact ⟨g', gp, rfl, M3.out, K3.out, B3.out⟩
end Go.Proofs.YtgcbdoljapnecaaGreat
namespace Go.Proofs.YtgcbdoljapnecaaGreat
set_option maxRecDepth 20000
open Go.RowKit
set_option linter.unusedVariables false

theorem rooted_out (g : Nat) (l b : List Nat) (root lone d : Int) (w : World) (h : MapAt w g l b root lone) (hd : d < 0 ∨ (l.length : Int) ≤ d) :
    Calls Tryz.prog 71 #[.pointer (some ⟨g, 0, none⟩), .int .i64 d] w fun e w' => e = .returned (.tuple #[.pointer none, .int .i64 5]) ∧ Below w.heap.size w w' := by
  have DS := Lib.hid (darts_p g l b root lone w h)
  clear h
  by_cases h0 : d < 0
  · go_enter Tryz.func71, Tryz.ntmps71
    go_wp2_with fail
    go_ret2
    exact ⟨rfl, Below.refl _ _⟩
  · have h1 : (l.length : Int) ≤ d := by omega
    clear hd
    go_enter Tryz.func71, Tryz.ntmps71
    go_wp2_with fail
    refine DS.out.mono ?_
    rintro e w1 ⟨rfl, b1⟩
    go_wp2_with fail
    go_ret2
    exact ⟨rfl, b1⟩
set_option maxHeartbeats 1000000 in
theorem rooted_in (g : Nat) (l b : List Nat) (root lone : Int) (d : Nat) (w : World) (h : MapAt w g l b root lone) (hd : d < l.length) :
    Calls Tryz.prog 71 #[.pointer (some ⟨g, 0, none⟩), .int .i64 (d : Int)] w fun e w' => ∃ g', e = .returned (.tuple #[.pointer (some ⟨g', 0, none⟩), .int .i64 0]) ∧ MapAt w' g' l b (d : Int) lone ∧ Below w.heap.size w w' := by
  have DS := Lib.hid (darts_p g l b root lone w h)
  have H := Lib.hid h
  have hlt : ¬ (l.length : Int) ≤ (d : Int) := by omega
  clear h
  go_enter Tryz.func71, Tryz.ntmps71
  go_wp2_with fail
  refine DS.out.mono ?_
  rintro e w1 ⟨rfl, b1⟩
  obtain ⟨h1, h2, p, A, c, S, k, q, A', c', S', k', hb, hp, hq, r1, r2, r3, r4⟩ := H.out.below b1
  have n0 := hb.cell 0
  have n1 := hb.cell 1
  have n2 := hb.cell 2
  have n3 := hb.cell 3
  have n4 := hb.cell 4
  have n5 := hb.cell 5
  have n6 := hb.cell 6
  have n7 := hb.cell 7
  have hgl := hb.lt
  simp at n0 n1 n2 n3 n4 n5 n6 n7
  have HP := Lib.hid hp
  have HQ := Lib.hid hq
  have R1 := Lib.hid r1
  have R2 := Lib.hid r2
  have R3 := Lib.hid r3
  have R4 := Lib.hid r4
  have H12 := Lib.hid (And.intro h1 h2)
  clear hb hp hq r1 r2 r3 r4 h1 h2
  go_wp2_with fail
  go_region
  all_goals go_wp2_with fail
  go_ret2
  have hb := (Below.refl w1.heap.size w1).alloc (Nat.le_refl _) (.cells #[.pointer (some ⟨p, 0, none⟩), .slice A l.length c, .slice S (sizes l).length k, .pointer (some ⟨q, 0, none⟩), .slice A' l.length c', .slice S' (sizes (phiL l)).length k', .int .i64 (d : Int), .int .i64 lone] 65)
  have hb2 := hb.drew
  exact ⟨w1.heap.size, rfl, ⟨H12.out.1, H12.out.2, p, A, c, S, k, q, A', c', S', k', (Blk.new w1 _ _).drewN 1, HP.out.below hb2, HQ.out.below hb2, R1.out.more hb2, R2.out.more hb2, R3.out.more hb2, R4.out.more hb2⟩, b1.trans (hb2.mono b1.size)⟩
end Go.Proofs.YtgcbdoljapnecaaGreat
