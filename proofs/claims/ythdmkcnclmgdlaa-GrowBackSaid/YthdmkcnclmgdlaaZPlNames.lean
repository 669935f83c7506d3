/- The document's names of a word's places. -/
import Derived.Test.YthdmkcnclmgdlaaZg9
import Derived.Test.YthdmkcnclmgdlaaZg10
import Derived.BigQuiet
namespace Go.Proofs.Ythdmkcnclmgdlaa
set_option maxRecDepth 100000
open Go.RowKit
set_option linter.unusedVariables false
def Names12P (w : World) (ks : List Nat) (n : Nat) (e : Ending) (w' : World) : Prop :=
  ∃ tw A c, Prg ks tw ∧ e = .returned (.slice A n c) ∧ n ≤ c ∧ c ≤ maxLen ∧ w'.ownsRow w.heap.size 3 1 (.slice A n c) n (I64 (ofN (nmL ks tw))) ∧ Below w.heap.size w w'
set_option maxHeartbeats 8000000 in
theorem names12_p (A : Option Addr) (n c : Nat) (ks : List Nat) (w : World) (hr : Rd w w.heap.size A n (I64 (ofNB ks))) (hk : Kds ks) (hn : n ≤ 20000) (hB0 : Bal (exc (val (ownL 0 ks))) (ownL 0 ks).length) (hB1 : Bal (exc (val (ownL 1 ks))) (ownL 1 ks).length) :
    Calls Try.prog 104 #[.slice A n c] w (Names12P w ks n) := by
  obtain ⟨i0, hi0, hz0, hz1, hz2⟩ := info_parts info_int
  have hl : ks.length = n := by have := hr.len; rw [I64_len, ofN_lenB] at this; exact this
  have hmk := run_make_one (P := Try.prog) 25 3 i0 (.int .i64 0) 8 Try.underlying25 hi0 hz0 hz1 hz2 rfl .i64 .i64 n (by omega) (by omega) w
  have hrep : (List.replicate n (Value.int .i64 0)).toArray = Array.replicate n (.int .i64 0) := by simp
  rw [hrep] at hmk
  have hal := (Below.refl w.heap.size w).alloc (Nat.le_refl _) (.cells (Array.replicate n (Value.int .i64 0)) 3)
  have hO : (w.alloc (.cells (Array.replicate n (Value.int .i64 0)) 3)).ownsRow w.heap.size 3 1 (.slice (some ⟨w.heap.size, 0, none⟩) n n) n (I64 (List.replicate n 0)) := by
    have := World.ownsRow_lit (base := w.heap.size) (e := 3) (size := 1) w (Array.replicate n (Value.int .i64 0)) n (Nat.le_refl _) (by simp [maxLen]; omega) (by simp)
    rw [show I64 (List.replicate n 0) = List.replicate n (.int .i64 0) by simp [I64]]
    simpa using this
  clear hrep
  have M4 : Hid (Calls Try.prog 110 #[.slice A n c] (w.alloc (.cells (Array.replicate n (Value.int .i64 0)) 3)) (Mates4P (w.alloc (.cells (Array.replicate n (Value.int .i64 0)) 3)) ks n)) :=
    mates4_p A n c ks _ (hr.more hal) hk (by omega) hB0 hB1
  have HO := Lib.hid hO
  have HB := Lib.hid hal
  have HR := Lib.hid hr
  have HK := Lib.hid hk
  have HL := Lib.hid hl
  have HW : Hid ((w.alloc (.cells (Array.replicate n (Value.int .i64 0)) 3)).heap.size = w.heap.size + 1) := by show _ = _; simp
  clear hr hk hB0 hB1 hal hO hl
  go_enter Try.func104, Try.ntmps104
  go_wp2_with fail
  clear hmk
  refine M4.out.mono ?_
  generalize w.alloc (.cells (Array.replicate n (Value.int .i64 0)) 3) = w1 at *
  rintro e w2 ⟨Y, cy, ym, rfl, hY, hM, b2⟩
  obtain ⟨P, hty⟩ := prg_of HK.out ym (by rw [HL.out]; exact hM)
  obtain ⟨tw, htw⟩ : ∃ tw : Nat → Nat, tw = fun j => (ym.getD j 0).toNat := ⟨_, rfl⟩
  rw [← htw] at P
  have hty' : ∀ j, j < n → ym.getD j 0 = ((tw j : Nat) : Int) := fun j hj => by rw [htw]; exact hty j (by rw [HL.out]; exact hj)
  have HP := Lib.hid P
  have HTY := Lib.hid hty'
  have HYO := Lib.hid hY
  have HO2 := Lib.hid (own_below HO.out b2)
  have HB2 := Lib.hid (HB.out.trans (b2.mono HB.out.size))
  clear P hty htw hty' hY hM b2 M4 HO HB
  have hhw : w.heap.size + 1 ≤ w2.heap.size := by have := own_block HO2.out; omega
  have HTK : Hid (∀ j, j < n → ks.getD j 0 < 4 ∧ tw j < n ∧ tw j ≠ j) := fun j hj => ⟨HK.out.getD j, by have := HP.out.lt j (by rw [HL.out]; exact hj); rw [HL.out] at this; exact this, HP.out.ne j (by rw [HL.out]; exact hj)⟩
  go_wp2_with fail
  go_loopw [5, 6, 7, 15] (fun n5 i6 k7 idx wr => ∃ (i : Nat) (y : List Int), i ≤ n ∧ idx = .int .i64 (i : Int) ∧ n5 = .int .i64 ((2 * opN ks i : Nat) : Int) ∧ Hid (y.length = n ∧ NmI ks tw y i ∧ opN ks i ≤ i) ∧
    Hid (wr.ownsRow w.heap.size 3 1 (.slice (some ⟨w.heap.size, 0, none⟩) n n) n (I64 y)) ∧ Hid (Mod (fun k => k = w.heap.size) w2 wr)) (fun _ _ _ i _ => n - (intOf i).toNat)
  case atStart => exact ⟨0, List.replicate n 0, by omega, rfl, rfl, ⟨by simp, fun j hj => by omega, by simp [opN]⟩, HO2.out, Mod.refl _ _⟩
  case round =>
    clear HO2
    obtain ⟨i, y, hi, rfl, rfl, HY, HOW, HMW⟩ := hrel
    by_cases hlt : i < n
    · have hdk : decide (i < n) = true := decide_eq_true hlt
      have hlti : (i : Int) < (n : Int) := by omega
      obtain ⟨ba, oa, rfl, hba, hca⟩ := HR.out.at_ (by omega)
      have cA := hca i (by rw [I64_len, ofN_lenB, HL.out]; exact hlt)
      have BW : Below w.heap.size w wr := HB2.out.trans (HMW.out.belowB HB2.out.size fun k hk e => by omega)
      obtain ⟨gy, hgy, hgy1, _⟩ := own_some HYO.out (by omega)
      subst hgy
      have OY : wr.ownsRow w1.heap.size 3 1 (.slice (some ⟨gy, 0, none⟩) n cy) n (I64 ym) := own_mod HYO.out HMW.out fun k hk e => by
        simp [Value.ownBlock] at hk
        have := HW.out; omega
      obtain ⟨kk, hkk⟩ : ∃ kk, kk = ks.getD i 0 := ⟨_, rfl⟩
      obtain ⟨t, ht⟩ : ∃ t, t = tw i := ⟨_, rfl⟩
      obtain ⟨q, hq⟩ : ∃ q, q = 2 * opN ks i := ⟨_, rfl⟩
      obtain ⟨hk4, ht1, ht2⟩ := HTK.out i hlt
      rw [← hkk] at hk4
      rw [← ht] at ht1 ht2
      have cA' : wr.cell? ⟨ba, oa + i, none⟩ = some (.int .i64 (kk : Int)) := by
        have c0 := (BW.cell (p := ⟨ba, oa + i, none⟩) hba).trans cA
        rw [c0, hkk]; simp [I64, ofNB, List.getD_eq_getElem?_getD, List.getElem?_eq_getElem (show i < ks.length by rw [HL.out]; exact hlt)]
      have cY : wr.cell? ⟨gy, i, none⟩ = some (.int .i64 (t : Int)) := by
        rw [own_cellI OY i hlt, HTY.out i hlt, ht]
      have fO := HOW.out.frozenAt i
      have cO := own_cellI HOW.out i hlt
      have hyl := HY.out.1
      have o1 := own_setI HOW.out i (q : Int)
      have cO2 := own_cellI o1 t ht1
      have fO2 := o1.frozenAt t
      have o2 := own_setI o1 t ((q + 1 : Nat) : Int)
      have M2 : Mod (fun k => k = w.heap.size) w2 ((wr.setCell ⟨w.heap.size, i, none⟩ (.int .i64 (q : Int))).setCell ⟨w.heap.size, t, none⟩ (.int .i64 ((q + 1 : Nat) : Int))) :=
        Mod.setCell (p := ⟨w.heap.size, t, none⟩) (Mod.setCell (p := ⟨w.heap.size, i, none⟩) HMW.out (fun _ => rfl) _) (fun _ => rfl) _
      obtain ⟨r, hr⟩ : ∃ r, r = kk % 2 := ⟨_, rfl⟩
      have r1 : (kk : Int).tmod 2 = (r : Int) := by rw [Int.tmod_eq_emod_of_nonneg (by omega), hr]; rfl
      have r2 : (kk : Int) % 2 = (r : Int) := by rw [hr]; rfl
      have wr2 : IntKind.i64.wrap (r : Int) = (r : Int) := by simp [IntKind.wrap, IntKind.signed, IntKind.bits]; omega
      have hti : (t : Int) < (n : Int) := by omega
      have hqb : q ≤ 40000 := by have := HY.out.2.2; omega
      have hs : (kk % 2 = 0 → opN ks (i + 1) = opN ks i + 1) ∧ (¬ kk % 2 = 0 → opN ks (i + 1) = opN ks i) := by
        show (_ → opN ks i + _ = _) ∧ (_ → opN ks i + _ = _)
        rw [← hkk]
        exact ⟨fun c => by rw [if_pos c], fun c => by rw [if_neg c]; rfl⟩
      have hop := HY.out.2.2
      by_cases hr0 : r = 0
      · have HY1 : Hid (((y.set i (q : Int)).set t ((q + 1 : Nat) : Int)).length = n ∧ NmI ks tw ((y.set i (q : Int)).set t ((q + 1 : Nat) : Int)) (i + 1) ∧ opN ks (i + 1) ≤ i + 1) := by
          refine ⟨by simp [hyl], ?_, by rw [hs.1 (by omega)]; omega⟩
          have := nm_step HP.out (y := y) (i := i) (by rw [hyl, HL.out]) (by rw [HL.out]; exact hlt) (by rw [← hkk]; omega) HY.out.2.1
          rw [← hq, ← ht] at this
          exact this
        have HO3 := Lib.hid o2
        have HM3 := Lib.hid M2
        obtain ⟨q1, hq1⟩ : ∃ q1, q1 = q + 1 := ⟨_, rfl⟩
        obtain ⟨q2, hq2⟩ : ∃ q2, q2 = q + 2 := ⟨_, rfl⟩
        rw [← hq1] at HO3 HM3 HY1
        have t1 : (q : Int) + 1 = (q1 : Int) := by omega
        have t2 : (q : Int) + 2 = (q2 : Int) := by omega
        have w1' : IntKind.i64.wrap (q1 : Int) = (q1 : Int) := by simp [IntKind.wrap, IntKind.signed, IntKind.bits]; omega
        have w2' : IntKind.i64.wrap (q2 : Int) = (q2 : Int) := by simp [IntKind.wrap, IntKind.signed, IntKind.bits]; omega
        have HQ2 : Hid (q2 = 2 * opN ks (i + 1)) := by show _ = _; rw [hs.1 (by omega)]; omega
        rw [← hq]
        subst hr0
        clear o1 o2 M2 HY HOW HMW hs hq hq1 hq2 hkk ht hr BW OY hop hyl cA
        go_wp2_with fail
        go_roundw
        case rel => exact ⟨i + 1, _, by omega, by go_num, by rw [HQ2.out], HY1, HO3, HM3⟩
        case measure => simp [intOf]; omega
      · have hr0' : ¬ (r : Int) = 0 := by omega
        have hrb : ((r : Int) == 0) = false := by simp; omega
        have hrd : decide (r = 0) = false := decide_eq_false hr0
        have HY1 : Hid (y.length = n ∧ NmI ks tw y (i + 1) ∧ opN ks (i + 1) ≤ i + 1) :=
          ⟨hyl, nm_skip (by rw [← hkk]; omega) HY.out.2.1, by rw [hs.2 (by omega)]; omega⟩
        have HQ2 : Hid (q = 2 * opN ks (i + 1)) := by show _ = _; rw [hs.2 (by omega)]; omega
        rw [← hq]
        clear o1 o2 M2 HY hs hq hkk ht BW OY hop hyl cA cO cO2 fO fO2 cY hr
        go_wp2_with fail
        go_roundw
        case rel => exact ⟨i + 1, y, by omega, by go_num, by rw [HQ2.out], HY1, HOW, HMW⟩
        case measure => simp [intOf]; omega
    · obtain rfl : i = n := by omega
      have hdk : decide (i < i) = false := by simp
      have hY := nm_done HP.out (y := y) (by rw [HY.out.1, HL.out]) (by rw [HL.out]; exact HY.out.2.1)
      have BW : Hid (Below w.heap.size w wr) := HB2.out.trans (HMW.out.belowB HB2.out.size fun k hk e => by omega)
      have HF : Hid (wr.ownsRow w.heap.size 3 1 (.slice (some ⟨w.heap.size, 0, none⟩) i i) i (I64 (ofN (nmL ks tw)))) := by
        show World.ownsRow _ _ _ _ _ _ _
        rw [← hY]; exact HOW.out
      clear hY HY HOW HMW
      go_wp2_with fail
      go_ret
      exact ⟨tw, _, i, HP.out, rfl, Nat.le_refl _, by simp [maxLen]; omega, HF.out, BW.out⟩
end Go.Proofs.Ythdmkcnclmgdlaa
