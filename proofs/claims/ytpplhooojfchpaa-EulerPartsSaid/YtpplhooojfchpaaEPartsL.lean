/- EulerParts: the walk. -/
import Derived.Test.YtpplhooojfchpaaESumM
import Derived.Test.YtpplhooojfchpaaEAwake
import Derived.Test.YtpplhooojfchpaaEqualI
import Derived.BigQuiet
import Derived.Deep.RegionWith
import Derived.Deep.DeepCutAuto
import Derived.Deep.RegionHeld3
namespace Go.Proofs.Ytpplhooojfchpaa
open Go.RowKit
set_option linter.unusedVariables false
theorem own_cell5' {w : World} {base g n c : Nat} {e : TypeId} {l : List Nat} (h : w.ownsRow base e 5 (.slice (some ⟨g, 0, none⟩) n c) n (I64 (partsC l n))) (k f : Nat) (hk : k < n) (hf : f < 5) :
    w.cell? ⟨g, k * 5 + f, none⟩ = some (.int .i64 (pcL l (5 * k + f))) := by
  rw [own_cell5 h _ (by omega), Nat.mul_comm k 5, partsC_get _ _ _ _ hk hf]
set_option maxRecDepth 20000 in
set_option maxHeartbeats 8000000 in
theorem eulerParts_walk (A0 : Option Addr) (n m c lo : Nat) (by_ : List Int) (w : World) (h0 : Rd w w.heap.size A0 m (Z8 by_)) (hb0 : ∀ x ∈ by_, 0 ≤ x ∧ x < 256) (hmc : m ≤ c) (hcm : c ≤ maxLen) (hn : n < 256) (hlo : lo < 256) :
    Calls Try.prog 3 #[.int .u8 (n : Int), .slice A0 m c, .int .u8 (lo : Int)] w fun e w' => e = .returned (.bool true) ∧ Below w.heap.size w w' := by
  unfold maxLen at hcm
  have AW := Lib.hid (awake8_p w)
  have H0 := Lib.hid h0
  have HB0 := Lib.hid hb0
  clear h0 hb0
  go_enter Try.func3, Try.ntmps3
  go_wp2_with fail
  refine AW.out.mono ?_
  rintro e w1 ⟨rfl, b1⟩
  have MD := Lib.hid (made8_p n lo m c _ A0 by_ w1 (H0.out.below b1) HB0.out b1.size hn hlo (by omega))
  have B1 := Lib.hid b1
  clear b1 AW
  go_wp2_with fail
  refine MD.out.mono ?_
  rintro e w2 ⟨g, v, l, b, root, rfl, hmap, hrm, hl, hroot, b2⟩
  generalize hq0 : lo % 4 = q0 at hmap hrm
  have hq5 : q0 < 4 := by omega
  obtain ⟨hinv, A, cA, hla, rfl, hlc, hcA, hrA⟩ := hrm
  have hbx := (Below.refl w2.heap.size w2).alloc (Nat.le_refl _) (.cells #[.slice A l.length cA, .int .i64 root, .int .i64 (q0 : Int)] 27)
  have HX := Lib.hid (Blk.new w2 27 #[.slice A l.length cA, .int .i64 root, .int .i64 (q0 : Int)])
  have HM := Lib.hid (hmap.below hbx)
  have HR := Lib.hid (hrA.more hbx)
  have HI := Lib.hid hinv
  have hl20 : l.length ≤ 22 := by have := Nat.mod_lt n (show 0 < 12 by decide); omega
  have HEV : Hid (l.length % 2 = 0) := by show _ = _; omega
  have B2 : Hid (Below w.heap.size w w2) := B1.out.trans (b2.mono B1.out.size)
  have B3 : Hid (Below w.heap.size w (w2.alloc (.cells #[.slice A l.length cA, .int .i64 root, .int .i64 (q0 : Int)] 27))) := B2.out.trans (hbx.mono B2.out.size)
  clear hmap hbx hrA hinv b2 hq0 B1 MD hl hroot hlc hcA hla
  go_upto_region 4 with fail
  generalize hw3 : w2.alloc (.cells #[.slice A l.length cA, .int .i64 root, .int .i64 (q0 : Int)] 27) = w3 at *
  have hX3 : w2.heap.size < w3.heap.size := by rw [← hw3]; simp
  have x0 : w3.cell? ⟨w2.heap.size, 0, none⟩ = some (.slice A l.length cA) := HX.out.cell 0
  have x1 : w3.cell? ⟨w2.heap.size, 1, none⟩ = some (.int .i64 root) := HX.out.cell 1
  have x2 : w3.cell? ⟨w2.heap.size, 2, none⟩ = some (.int .i64 (q0 : Int)) := HX.out.cell 2
  have PT : Hid (∀ w', Below w3.heap.size w3 w' → Calls Try.prog 11 #[.pointer (some ⟨g, 0, none⟩)] w' (NewPt w' (pN l + q0) (partsC l (pN l + q0)))) := fun w' hb => parts_p g l b root q0 w' (HM.out.below hb)
  have RP : Hid (∀ w', Below w3.heap.size w3 w' → Calls Try.prog 12 #[.agg #[.slice A l.length cA, .int .i64 root, .int .i64 (q0 : Int)]] w' (NewQt w' (pN l + q0) (partsC l (pN l + q0)))) := fun w' hb => reparts_p A cA l b root q0 w' (HR.out.more hb) HI.out HEV.out (by omega) (by omega)
  clear hw3
  have hpn := pN_le l
  obtain ⟨N, hN⟩ : ∃ N, N = pN l + q0 := ⟨_, rfl⟩
  rw [← hN] at PT RP
  have HN := Lib.hid hN
  have hN30 : N ≤ 30 := by omega
  clear hN hpn
  go_cut [9, 10] (fun s t wx => ∃ (Ap Aq : Option Addr) (cp cq : Nat), s = .slice Ap N cp ∧ t = .slice Aq N cq ∧ wx.ownsRow w3.heap.size 38 5 (.slice Ap N cp) N (I64 (partsC l N)) ∧ wx.ownsRow w3.heap.size 39 5 (.slice Aq N cq) N (I64 (partsC l N)) ∧ Below w3.heap.size w3 wx)
  case first =>
    go_region_with (first
      | (go_at_call 12; refine (RP.out _ hbx9).mono ?_; rintro e w10 ⟨A10, c10, rfl, hc10, hm10, hown10, hb10⟩; have hbx10 := hbx9.trans (hb10.mono hbx9.size); have r10 := hown10.base_le' hbx9.size; have r9b := own_below r9 hb10; clear hown10 hb10 xx0 xx1 xx2)
      | (go_at_call 11; refine (PT.out _ (Below.refl _ _).drew).mono ?_; rintro e w9 ⟨A9, c9, rfl, hc9, hm9, hown9, hb9⟩; have hbx9 := (Below.refl w3.heap.size w3).drew.trans (hb9.mono (Below.refl w3.heap.size w3).drew.size); have xx0 := (hbx9.cell (p := ⟨w2.heap.size, 0, none⟩) hX3).trans x0; have xx1 := (hbx9.cell (p := ⟨w2.heap.size, 1, none⟩) hX3).trans x1; have xx2 := (hbx9.cell (p := ⟨w2.heap.size, 2, none⟩) hX3).trans x2; have r9 := hown9.base_le' (Below.refl w3.heap.size w3).drew.size; clear hown9 hb9))
    all_goals (go_wp2_with fail; go_meet; exact ⟨_, _, _, _, rfl, rfl, r9b, r10, hbx10⟩)
  case rest =>
    obtain ⟨Ap, Aq, cp, cq, rfl, rfl, hop, hoq, b4⟩ := hcut
    obtain ⟨wv, rfl⟩ : ∃ wv, wv = wc := ⟨_, rfl⟩
    have B4 : Hid (Below w.heap.size w wv) := B3.out.trans (b4.mono B3.out.size)
    have HOP := Lib.hid hop
    have HOQ := Lib.hid hoq
    have HS := Lib.hid (HR.out.more b4)
    have HM4 := Lib.hid (HM.out.below b4)
    have y0 := (b4.cell (p := ⟨w2.heap.size, 0, none⟩) hX3).trans x0
    have y1 := (b4.cell (p := ⟨w2.heap.size, 1, none⟩) hX3).trans x1
    have y2 := (b4.cell (p := ⟨w2.heap.size, 2, none⟩) hX3).trans x2
    have hXc : w2.heap.size < wv.heap.size := by have := b4.size; omega
    have hs3c : w3.heap.size ≤ wv.heap.size := b4.size
    clear hop hoq x0 x1 x2 hX3 PT RP HX HR HM B3 b4
    have K1 : Hid (∀ w', Below wv.heap.size wv w' → Calls Try.prog 14 #[.pointer (some ⟨g, 0, none⟩)] w' fun e w'' => ∃ A9 c9, e = .returned (.slice A9 l.length c9) ∧ Rd w'' w''.heap.size A9 l.length (I64 (ofN (enames l))) ∧ Below wv.heap.size wv w'') := fun w' hb =>
      (enames_p g l b root q0 w' (HM4.out.below hb)).mono fun e w'' ⟨A9, c9, h1, h2, h3, h4, h5⟩ => by
        rw [ofN_len, enames_len] at h1 h4
        exact ⟨A9, c9, h1, Rd.ofOwn h4, hb.trans (h5.mono hb.size)⟩
    have K2 : Hid (∀ w', Below wv.heap.size wv w' → Calls Try.prog 15 #[.agg #[.slice A l.length cA, .int .i64 root, .int .i64 (q0 : Int)]] w' fun e w'' => ∃ A9 c9, e = .returned (.slice A9 l.length c9) ∧ Rd w'' w''.heap.size A9 l.length (I64 (ofN (enames l))) ∧ Below w'.heap.size w' w'' ∧ Below wv.heap.size wv w'') := fun w' hb =>
      (renames_p A cA l b root q0 w' (HS.out.more hb) HI.out HEV.out (by omega)).mono fun e w'' ⟨A9, c9, h1, h2, h3, h4, h5⟩ => by
        rw [ofN_len, enames_len] at h1 h4
        exact ⟨A9, c9, h1, Rd.ofOwn h4, h5, hb.trans (h5.mono hb.size)⟩
    have K3 : Hid (∀ A9 A10 c9 c10 w', Rd w' w'.heap.size A9 l.length (I64 (ofN (enames l))) → Rd w' w'.heap.size A10 l.length (I64 (ofN (enames l))) → Below wv.heap.size wv w' → Calls Try.prog 13 #[.slice A9 l.length c9, .slice A10 l.length c10] w' fun e w'' => e = .returned (.bool true) ∧ Below wv.heap.size wv w'') := fun A9 A10 c9 c10 w' h1 h2 hb =>
      (equalI_any A9 A10 l.length c9 l.length c10 _ _ (ofN (enames l)) (ofN (enames l)) w' h1 h2 (by omega) (by omega)).mono fun e w'' ⟨he, j, hw⟩ => ⟨by rw [he, decide_eq_true rfl], by rw [hw]; exact below_draws hb j⟩
    have SK : Hid (∀ w', Below wv.heap.size wv w' → Below wv.heap.size wv w' ∧ w'.cell? ⟨w2.heap.size, 0, none⟩ = some (.slice A l.length cA) ∧ w'.cell? ⟨w2.heap.size, 1, none⟩ = some (.int .i64 root) ∧ w'.cell? ⟨w2.heap.size, 2, none⟩ = some (.int .i64 (q0 : Int))) := fun w' hb => ⟨hb, (hb.cell (p := ⟨w2.heap.size, 0, none⟩) hXc).trans y0, (hb.cell (p := ⟨w2.heap.size, 1, none⟩) hXc).trans y1, (hb.cell (p := ⟨w2.heap.size, 2, none⟩) hXc).trans y2⟩
    clear y0 y1 y2
    go_upto_region 5 with fail
    go_cut [41] (fun s wx => s = .bool false ∧ Below wv.heap.size wv wx)
    case first =>
      have hba0 := Below.refl wv.heap.size wv
      have hba1 := hba0.drew
      go_region_held3 (fun w' => Below wv.heap.size wv w' ∧ w'.cell? ⟨w2.heap.size, 0, none⟩ = some (.slice A l.length cA) ∧ w'.cell? ⟨w2.heap.size, 1, none⟩ = some (.int .i64 root) ∧ w'.cell? ⟨w2.heap.size, 2, none⟩ = some (.int .i64 (q0 : Int)))
        (exact SK.out _ (by assumption))
        (first
        | (go_at_call 13; (with_reducible refine (K3.out _ _ _ _ _ r9b r10 (by assumption)).mono ?_); rintro e wa ⟨rfl, hba⟩)
        | (go_at_call 15; (with_reducible refine (K2.out _ (by assumption)).mono ?_); rintro e w10 ⟨A10, c10, rfl, r10, hbr, hba⟩; have r9b := r9.more hbr; clear hbr)
        | (go_at_call 14; (with_reducible refine (K1.out _ (by assumption)).mono ?_); rintro e w9 ⟨A9, c9, rfl, r9, hba⟩))
      all_goals (go_wp2_with fail; go_meet; exact ⟨rfl, hba⟩)
    case rest =>
      obtain ⟨rfl, b5⟩ := hcut
      obtain ⟨wd, rfl⟩ : ∃ wd, wd = wc := ⟨_, rfl⟩
      have B5 : Hid (Below w.heap.size w wd) := B4.out.trans (b5.mono B4.out.size)
      have HOP5 := Lib.hid (own_below HOP.out b5)
      have HOQ5 := Lib.hid (own_below HOQ.out b5)
      have HM5 := Lib.hid (HM4.out.below b5)
      have HCE := Lib.hid (fun j => cell_euler HI.out HEV.out j)
      have HPG := Lib.hid (fun j => (pgen_is HI.out HEV.out (phi_inv HI.out HEV.out) j).1)
      have HV0 : Hid (0 = sumN (vcell l) 0) := rfl
      have HE0 : Hid (0 = sumN (ecell l) 0) := rfl
      have HBB0 : Hid (0 = sumN (bcell l) 0) := rfl
      have hs3d : w3.heap.size ≤ wd.heap.size := Nat.le_trans hs3c b5.size
      clear K1 K2 K3 SK HOP HOQ HS HM4 B4 b5
      go_wp2_with fail
      go_loopw [11, 12, 13, 44] (fun s11 s12 s13 i wr => ∃ (k a1 a2 a3 : Nat), k ≤ N ∧ a1 ≤ k * 23 ∧ a2 ≤ k * 23 ∧ a3 ≤ k * 23 ∧ s11 = .int .i64 (a1 : Int) ∧ s12 = .int .i64 (a2 : Int) ∧ s13 = .int .i64 (a3 : Int) ∧ i = .int .i64 (k : Int) ∧ Hid (a1 = sumN (vcell l) k) ∧ Hid (a2 = sumN (ecell l) k) ∧ Hid (a3 = sumN (bcell l) k) ∧ Hid (Below wd.heap.size wd wr)) (fun _ _ _ i _ => N - (intOf i).toNat)
      case atStart => exact ⟨0, 0, 0, 0, by omega, by omega, by omega, by omega, rfl, rfl, rfl, rfl, HV0.out, HE0.out, HBB0.out, Below.refl _ _⟩
      case round =>
        obtain ⟨k, a1, a2, a3, hk, h1, h2, h3, rfl, rfl, rfl, rfl, HA1, HA2, HA3, HB⟩ := hrel
        by_cases hlt : k < N
        · obtain ⟨gp, rfl, hgp, hgp'⟩ := own_some5 HOP5.out (show 0 < N by omega)
          obtain ⟨gq, rfl, hgq, hgq'⟩ := own_some5 HOQ5.out (show 0 < N by omega)
          have hop := own_below HOP5.out HB.out
          have hoq := own_below HOQ5.out HB.out
          have c0 := own_cell5' hop k 0 hlt (by omega)
          have c1 := own_cell5' hop k 1 hlt (by omega)
          have c2 := own_cell5' hop k 2 hlt (by omega)
          have c3 := own_cell5' hop k 3 hlt (by omega)
          have c4 := own_cell5' hop k 4 hlt (by omega)
          have e0 := own_cell5' hoq k 0 hlt (by omega)
          have e1 := own_cell5' hoq k 1 hlt (by omega)
          have e2 := own_cell5' hoq k 2 hlt (by omega)
          have e3 := own_cell5' hoq k 3 hlt (by omega)
          have e4 := own_cell5' hoq k 4 hlt (by omega)
          rw [Nat.add_zero, Nat.add_zero] at c0 e0
          rw [cell_1] at c1 e1
          rw [cell_2] at c2 e2
          rw [cell_3] at c3 e3
          rw [HPG.out k] at c4 e4
          obtain ⟨q1, q2, q3, q4⟩ := HCE.out k
          have N1 := Lib.hid (sumN_next (vcell l) k)
          have N2 := Lib.hid (sumN_next (ecell l) k)
          have N3 := Lib.hid (sumN_next (bcell l) k)
          have hdk : decide (k < N) = true := by rw [decide_eq_true_iff]; exact hlt
          have hsr := HB.out.size
          generalize pcL l (5 * k) = v0 at *
          generalize vcell l k = v1 at *
          generalize ecell l k = v2 at *
          generalize bcell l k = v3 at *
          generalize pgen l k = v4 at *
          have heq : (v1 : Int) - (v2 : Int) + (v3 : Int) = 2 - 2 * (v4 : Int) := by omega
          clear hop hoq q1
          have hlt4 : decide ((v4 : Int) < 0) = false := by rw [decide_eq_false_iff_not]; omega
          go_upto_region 11 with fail
          have HBX := Lib.hid (Blk.new wr 38 #[.int .i64 v0, .int .i64 (v1 : Int), .int .i64 (v2 : Int), .int .i64 (v3 : Int), .int .i64 (v4 : Int)])
          have hbx := (Below.refl wr.heap.size wr).alloc (Nat.le_refl _) (.cells #[.int .i64 v0, .int .i64 (v1 : Int), .int .i64 (v2 : Int), .int .i64 (v3 : Int), .int .i64 (v4 : Int)] 38)
          have hgqw : gq < wr.heap.size := by omega
          have HBa := Lib.hid (HB.out.trans (hbx.mono hsr))
          have e0' := (hbx.cell (p := ⟨gq, k * 5, none⟩) hgqw).trans e0
          have e1' := (hbx.cell (p := ⟨gq, k * 5 + 1, none⟩) hgqw).trans e1
          have e2' := (hbx.cell (p := ⟨gq, k * 5 + 2, none⟩) hgqw).trans e2
          have e3' := (hbx.cell (p := ⟨gq, k * 5 + 3, none⟩) hgqw).trans e3
          have e4' := (hbx.cell (p := ⟨gq, k * 5 + 4, none⟩) hgqw).trans e4
          have d0 : (wr.alloc (.cells #[.int .i64 v0, .int .i64 (v1 : Int), .int .i64 (v2 : Int), .int .i64 (v3 : Int), .int .i64 (v4 : Int)] 38)).cell? ⟨wr.heap.size, 0, none⟩ = some (.int .i64 v0) := HBX.out.cell 0
          have d1 : (wr.alloc (.cells #[.int .i64 v0, .int .i64 (v1 : Int), .int .i64 (v2 : Int), .int .i64 (v3 : Int), .int .i64 (v4 : Int)] 38)).cell? ⟨wr.heap.size, 1, none⟩ = some (.int .i64 (v1 : Int)) := HBX.out.cell 1
          have d2 : (wr.alloc (.cells #[.int .i64 v0, .int .i64 (v1 : Int), .int .i64 (v2 : Int), .int .i64 (v3 : Int), .int .i64 (v4 : Int)] 38)).cell? ⟨wr.heap.size, 2, none⟩ = some (.int .i64 (v2 : Int)) := HBX.out.cell 2
          have d3 : (wr.alloc (.cells #[.int .i64 v0, .int .i64 (v1 : Int), .int .i64 (v2 : Int), .int .i64 (v3 : Int), .int .i64 (v4 : Int)] 38)).cell? ⟨wr.heap.size, 3, none⟩ = some (.int .i64 (v3 : Int)) := HBX.out.cell 3
          have d4 : (wr.alloc (.cells #[.int .i64 v0, .int .i64 (v1 : Int), .int .i64 (v2 : Int), .int .i64 (v3 : Int), .int .i64 (v4 : Int)] 38)).cell? ⟨wr.heap.size, 4, none⟩ = some (.int .i64 (v4 : Int)) := HBX.out.cell 4
          clear hbx HBX e0 e1 e2 e3 e4 c0 c1 c2 c3 c4
          generalize wr.alloc (.cells #[.int .i64 v0, .int .i64 (v1 : Int), .int .i64 (v2 : Int), .int .i64 (v3 : Int), .int .i64 (v4 : Int)] 38) = wb at *
          go_quiet (fail)
          go_wp2_with fail
          go_quiet (fail)
          go_wp2_with fail
          go_roundw
          case rel => exact ⟨k + 1, a1 + v1, a2 + v2, a3 + v3, by omega, by omega, by omega, by omega, by go_num, by go_num, by go_num, by go_num, by show _ = _; rw [N1.out, HA1.out], by show _ = _; rw [N2.out, HA2.out], by show _ = _; rw [N3.out, HA3.out], below_draws HBa.out _⟩
          case measure => simp [intOf]; omega
        · obtain rfl : k = N := by omega
          have HMr := Lib.hid (HM5.out.below HB.out)
          have W1 : Hid (∀ W, Below wr.heap.size wr W → Calls Try.prog 16 #[.pointer (some ⟨g, 0, none⟩)] W fun e w' => e = .returned (.int .i64 (((sizes l).length : Int) + (q0 : Int))) ∧ Below W.heap.size W w') := fun W m => vertices_p g l b root q0 W (HMr.out.below m)
          have W2 : Hid (∀ W, Below wr.heap.size wr W → Calls Try.prog 17 #[.pointer (some ⟨g, 0, none⟩)] W fun e w' => e = .returned (.int .i64 ((l.length / 2 : Nat) : Int)) ∧ Below W.heap.size W w') := fun W m => edges_p g l b root q0 W (HMr.out.below m)
          have W3 : Hid (∀ W, Below wr.heap.size wr W → Calls Try.prog 18 #[.pointer (some ⟨g, 0, none⟩)] W fun e w' => e = .returned (.int .i64 ((sizes (phiL l)).length : Int)) ∧ Below W.heap.size W w') := fun W m => borders_p g l b root q0 W (HMr.out.below m)
          have W4 : Hid (∀ W, Below wr.heap.size wr W → Calls Try.prog 19 #[.pointer (some ⟨g, 0, none⟩)] W fun e w' => e = .returned (.int .i64 (q0 : Int)) ∧ W = w') := fun W m => lone_p g l b root q0 W (HMr.out.below m)
          have s1 : a1 = (sizes l).length + q0 := by rw [HA1.out, HN.out]; exact sum_v HI.out HEV.out q0
          have s2 : a2 = l.length / 2 := by rw [HA2.out, HN.out]; exact sum_e HI.out HEV.out q0
          have s3 : a3 = (sizes (phiL l)).length + q0 := by rw [HA3.out, HN.out]; exact sum_b HI.out HEV.out q0
          obtain ⟨nv, hnv⟩ : ∃ nv, nv = (sizes l).length := ⟨_, rfl⟩
          obtain ⟨ne, hne⟩ : ∃ ne, ne = l.length / 2 := ⟨_, rfl⟩
          obtain ⟨nb, hnb⟩ : ∃ nb, nb = (sizes (phiL l)).length := ⟨_, rfl⟩
          rw [← hnv] at W1 s1
          rw [← hne] at W2 s2
          rw [← hnb] at W3 s3
          subst s1 s2 s3
          clear hnv hne hnb HA1 HA2 HA3
          have BW := Lib.hid (B5.out.trans (HB.out.mono B5.out.size))
          have hcast1 : ((nv + q0 : Nat) : Int) = (nv : Int) + (q0 : Int) := by omega
          have hcast3 : ((nb + q0 : Nat) : Int) = (nb : Int) + (q0 : Int) := by omega
          have hb9 : nb ≤ 1000 := by omega
          go_wp2_with fail
          refine (W1.out _ (Below.refl _ _)).mono ?_
          rintro e z1 ⟨rfl, hz1⟩
          have Z1 := Lib.hid hz1
          clear hz1
          go_wp2_with fail
          refine (W2.out _ Z1.out).mono ?_
          rintro e z2 ⟨rfl, hz2⟩
          have Z2 := Lib.hid (Z1.out.trans (hz2.mono Z1.out.size))
          clear hz2
          go_wp2_with fail
          refine (W3.out _ Z2.out).mono ?_
          rintro e z3 ⟨rfl, hz3⟩
          have Z3 := Lib.hid (Z2.out.trans (hz3.mono Z2.out.size))
          clear hz3
          go_wp2_with fail
          refine (W4.out _ Z3.out).mono ?_
          rintro e z4 ⟨rfl, rfl⟩
          go_wp2_with fail
          go_ret
          exact ⟨rfl, BW.out.trans (Z3.out.mono BW.out.size)⟩
end Go.Proofs.Ytpplhooojfchpaa
