/- The document's mates of letters; whether letters are good. -/
import Derived.Test.YthkocodajjapmaaZg15
namespace Go.Proofs.Ythkocodajjapmaa
set_option maxRecDepth 20000
open Go.RowKit
set_option linter.unusedVariables false
def Mates4P (w : World) (ks : List Nat) (n : Nat) (e : Ending) (w' : World) : Prop :=
  ∃ (Y : Option Addr) (cy : Nat) (y : List Int), e = .returned (.slice Y n cy) ∧ w'.ownsRow w.heap.size 3 1 (.slice Y n cy) n (I64 y) ∧ (∀ i, i < n → MatI ks i (y.getD i 0)) ∧ Below w.heap.size w w'
/-- The mates of the first sorts are known, and of the first j letters of the sort s. -/
structure M4St (w wr : World) (ks : List Nat) (n s j gy : Nat) (y : List Int) : Prop where
  oy : wr.ownsRow w.heap.size 3 1 (.slice (some ⟨gy, 0, none⟩) n n) n (I64 y)
  d0 : ∀ p, p < n → ks.getD p 0 / 2 < s → MatI ks p (y.getD p 0)
  d1 : ∀ p, p < n → ks.getD p 0 / 2 = s → ah s ks p < j → MatI ks p (y.getD p 0)
  bel : Below w.heap.size w wr
theorem M4St.leny {w wr : World} {ks : List Nat} {n s j gy : Nat} {y : List Int} (h : M4St w wr ks n s j gy y) : y.length = n := own_lenI h.oy
theorem M4St.put {w wr : World} {ks : List Nat} {n s j gy : Nat} {y : List Int} (h : M4St w wr ks n s j gy y) (hn : ks.length = n) {p : Nat} (hp : p < n) (hs : ks.getD p 0 / 2 = s) (ha : ah s ks p = j) {v : Int} (hv : MatI ks p v) :
    M4St w (wr.setCell ⟨gy, p, none⟩ (.int .i64 v)) ks n s (j + 1) gy (y.set p v) := by
  have hl := h.leny
  have key : ∀ x, MatI ks x (y.getD x 0) → MatI ks x ((y.set p v).getD x 0) := fun x hx => by
    by_cases e : x = p
    · subst e; rw [getDI_set1 y x v (by omega)]; exact hv
    · rw [getDI_set' y p x v (by omega) e]; exact hx
  refine ⟨own_setI h.oy p v, fun x h1 h2 => key x (h.d0 x h1 h2), fun x h1 h2 h3 => ?_, h.bel.setCell (own_block h.oy).1 _⟩
  by_cases e : ah s ks x = j
  · have : x = p := ah_uniq s ks x p (by omega) (by omega) h2 hs (by omega)
    subst this
    rw [getDI_set1 y x v (by omega)]; exact hv
  · exact key x (h.d1 x h1 h2 (by omega))
theorem M4St.below {w wr w' : World} {ks : List Nat} {n s j gy : Nat} {y : List Int} (h : M4St w wr ks n s j gy y) (b : Below wr.heap.size wr w') : M4St w w' ks n s j gy y :=
  ⟨own_below h.oy b, h.d0, h.d1, h.bel.trans (b.mono h.bel.size)⟩
theorem M4St.done {w wr : World} {ks : List Nat} {n s j gy : Nat} {y : List Int} (h : M4St w wr ks n s j gy y) (hn : ks.length = n) (hj : j = (ownL s ks).length) : M4St w wr ks n (s + 1) 0 gy y :=
  ⟨h.oy, fun p h1 h2 => by
    by_cases e : ks.getD p 0 / 2 = s
    · exact h.d1 p h1 e (by rw [hj]; exact ah_lt s ks p (by omega) e)
    · exact h.d0 p h1 (by omega), fun p _ _ h3 => by omega, h.bel⟩
set_option maxHeartbeats 8000000 in
theorem mates4_p (A : Option Addr) (n c : Nat) (ks : List Nat) (w : World) (hr : Rd w w.heap.size A n (I64 (ofNB ks))) (hk : Kds ks) (hn : n ≤ 100000) (hB0 : Bal (exc (val (ownL 0 ks))) (ownL 0 ks).length) (hB1 : Bal (exc (val (ownL 1 ks))) (ownL 1 ks).length) :
    Calls Try.prog 26 #[.slice A n c] w (Mates4P w ks n) := by
  obtain ⟨i0, hi0, hz0, hz1, hz2⟩ := info_parts info_int
  have hl : ks.length = n := by have := hr.len; rw [I64_len, ofN_lenB] at this; exact this
  have HL := Lib.hid hl
  have HR := Lib.hid hr
  have HK := Lib.hid hk
  have HB : Hid (∀ s, s < 2 → Bal (exc (val (ownL s ks))) (ownL s ks).length) := fun s hs => by
    rcases (by omega : s = 0 ∨ s = 1) with rfl | rfl
    · exact hB0
    · exact hB1
  have hoN : ∀ s, (ownL s ks).length ≤ n := fun s => by have h1 := ah_le s ks ks.length (Nat.le_refl _); rw [ah_all] at h1; omega
  have HON := Lib.hid hoN
  have ST := Lib.hid (fun (s : Nat) (W : World) (hs : s < 2) (m : Below w.heap.size w W) => sort_p A n c s ks W ((hr.below m).up m.size) hk hs hn)
  have MT := Lib.hid (fun (A1 : Option Addr) (c1 s : Nat) (W : World) (hs : s < 2) (h1 : Rd W W.heap.size A1 (ownL s ks).length (I64 (ofNB (ownL s ks)))) => mates_pB A1 (ownL s ks).length c1 (ownL s ks) W h1 (ownL_bin s ks) (by have := hoN s; omega) (HB.out s hs))
  clear hr hk hB0 hB1 hoN hl
  have hml : n ≤ maxLen := by simp only [maxLen]; omega
  have hmk : ∀ w, (Instr.makeSlice 25 (.int .i64 (n : Int)) (.int .i64 (n : Int))).run Try.prog w = .ok (.slice (some ⟨w.heap.size, 0, none⟩) n n) (w.alloc (.cells (List.replicate n (.int .i64 0)).toArray 3)) := fun w =>
    run_make_one 25 3 i0 (.int .i64 0) 8 Try.underlying25 hi0 hz0 hz1 hz2 rfl .i64 .i64 n (by omega) (by omega) w
  have hrep : (List.replicate n (Value.int .i64 0)).toArray = Array.replicate n (.int .i64 0) := by rw [List.toArray_replicate]
  have M0 : Hid (M4St w (w.alloc (.cells (Array.replicate n (.int .i64 0)) 3)) ks n 0 0 w.heap.size (List.replicate n 0)) := by
    have o1 := own_made w 3 n (.int .i64 0) hml
    rw [List.toArray_replicate, ← I64_replicate] at o1
    exact ⟨o1, fun p _ h => absurd h (by omega), fun p _ _ h => absurd h (by omega), (Below.refl _ _).alloc (Nat.le_refl _) _⟩
  rw [hrep] at hmk
  clear hrep
  go_enter Try.func26, Try.ntmps26
  go_wp2_with fail
  clear hmk
  obtain ⟨gy, hgy⟩ : ∃ gy, gy = w.heap.size := ⟨_, rfl⟩
  have hgz : gy < (w.alloc (.cells (Array.replicate n (.int .i64 0)) 3)).heap.size := by rw [hgy]; simp
  rw [← hgy] at M0 ⊢
  clear hgy
  generalize w.alloc (.cells (Array.replicate n (.int .i64 0)) 3) = w1 at *
  go_loopw [4] (fun x wr => ∃ (s : Nat) (y : List Int), x = .int .i64 (s : Int) ∧ s ≤ 2 ∧ gy < wr.heap.size ∧ Hid (M4St w wr ks n s 0 gy y)) (fun x _ => 2 - (intOf x).toNat)
  case atStart => exact ⟨0, _, rfl, by omega, hgz, M0⟩
  case round =>
    clear M0 hgz
    obtain ⟨s, y, rfl, hs, hgz, HS⟩ := hrel
    by_cases hlt : s < 2
    · have SO := Lib.hid (ST.out s wr hlt HS.out.bel)
      have hdl : decide ((s : Int) < 2) = true := decide_eq_true (by omega)
      go_wp2_with fail
      refine SO.out.mono ?_
      rintro e w2 ⟨A1, c1, A2, c2, rfl, o1, o2, b2⟩
      have MA := Lib.hid (MT.out A1 c1 s w2 hlt (Rd.ofOwn o1))
      have S2 := Lib.hid (HS.out.below b2)
      have O2 := Lib.hid o2
      have Z2 := Lib.hid b2.size
      clear o1 o2 b2 HS SO
      go_wp2_with fail
      refine MA.out.mono ?_
      rintro e w3 ⟨Y, Z, cy, cz, ym, zm, rfl, oy, oz, hmz, b3⟩
      have S3 := Lib.hid (S2.out.below b3)
      have OM := Lib.hid (Rd.ofOwn oy)
      have OA := Lib.hid (Rd.ofOwn (own_below O2.out b3))
      have HMZ : Hid (∀ i, i < (ownL s ks).length → MateOK (exc (val (ownL s ks))) i (ym.getD i 0)) := fun i hi => (hmz i hi).1
      have BM : Hid (0 < (ownL s ks).length → ¬ inBlk Y gy) := fun h0 ⟨a, ea, ei⟩ => by
        obtain ⟨g, e, h1, _⟩ := own_some oy h0
        rw [e] at ea
        have := Option.some.inj ea
        subst this
        have := Z2.out
        simp at ei
        omega
      have BA : Hid (0 < (ownL s ks).length → ¬ inBlk A2 gy) := fun h0 ⟨a, ea, ei⟩ => by
        obtain ⟨g, e, h1, _⟩ := own_some O2.out h0
        rw [e] at ea
        have := Option.some.inj ea
        subst this
        simp at ei
        omega
      have hgz3 : gy < w3.heap.size := by have := Z2.out; have := b3.size; omega
      have hol := HON.out s
      obtain ⟨q, hq⟩ : ∃ q, q = (ownL s ks).length := ⟨_, rfl⟩
      rw [← hq] at OM OA HMZ BM BA hol ⊢
      have HQ := Lib.hid hq
      clear oy oz hmz b3 S2 O2 Z2 MA hq
      have hq3 : Hid (Mod (fun i => i = gy) w3 w3) := Mod.refl _ _
      go_wp2_with fail
      go_loopw [31] (fun x wr => ∃ (j : Nat) (y : List Int), x = .int .i64 (j : Int) ∧ j ≤ q ∧ Hid (M4St w wr ks n s j gy y) ∧ Hid (Mod (fun i => i = gy) w3 wr)) (fun x _ => q - (intOf x).toNat)
      case atStart => exact ⟨0, _, rfl, by omega, S3, hq3⟩
      case round =>
        clear S3 hq3
        obtain ⟨j, y, rfl, hj, HS, HM⟩ := hrel
        by_cases hjl : j < q
        · obtain ⟨b1, o1, e, _, k1⟩ := (OM.out.mod HM.out (Nat.le_refl _) fun h0 i hi he => BM.out h0 (he ▸ hi)).i64 (by omega)
          subst e
          obtain ⟨b2, o2, e, _, k2⟩ := (OA.out.mod HM.out (Nat.le_refl _) fun h0 i hi he => BA.out h0 (he ▸ hi)).i64 (by omega)
          subst e
          obtain ⟨p, hp, hps, hpa, hpe⟩ := atN_back (ks := ks) (s := s) (y := j) (by rw [← HQ.out]; exact hjl)
          have hm := HMZ.out j hjl
          rw [← hpa] at hm
          obtain ⟨z, hz, hzl, hmi⟩ := matI_of hp hps (HB.out s hlt) hm
          rw [hpa] at hz
          rw [← HQ.out] at hzl
          have t1 := k1 j hjl
          rw [hz] at t1
          have t2 := k2 j hjl
          rw [ofN_getB, hpe] at t2
          have t3 := k2 z hzl
          rw [ofN_getB] at t3
          have hpn : p < n := by have := HL.out; omega
          have S4 := Lib.hid (HS.out.put HL.out hpn hps hpa hmi)
          obtain ⟨v, hv⟩ : ∃ v : Nat, v = (atN s ks ks.length).getD z 0 := ⟨_, rfl⟩
          rw [← hv] at t3 S4
          have gyc : wr.cell? ⟨gy, p, none⟩ = some (.int .i64 (y.getD p 0)) := own_cellI HS.out.oy p hpn
          have gyf : wr.frozen? ⟨gy, p, none⟩ = false := HS.out.oy.frozenAt p
          have M4 : Hid (Mod (fun i => i = gy) w3 (wr.setCell ⟨gy, p, none⟩ (.int .i64 (v : Int)))) := HM.out.setCell (p := ⟨gy, p, none⟩) (fun _ => rfl) _
          clear k1 k2 hm hmi hz hv hpa hpe hp hps HS HM
          go_wp2_with fail
          go_roundw
          case rel => exact ⟨j + 1, _, by go_num, by omega, S4, M4⟩
          case measure => simp [intOf]; omega
        · obtain rfl : j = q := by omega
          have S5 := Lib.hid (HS.out.done HL.out HQ.out)
          have hgz5 : gy < wr.heap.size := by have := HM.out.size; omega
          go_wp2_with fail
          go_roundw
          case rel => exact ⟨s + 1, _, by go_num, by omega, hgz5, S5⟩
          case measure => simp [intOf]; omega
    · obtain rfl : s = 2 := by omega
      have HF : Hid (∀ i, i < n → MatI ks i (y.getD i 0)) := fun i hi => HS.out.d0 i hi (by have := HK.out.getD i; omega)
      go_wp2_with fail
      go_ret
      exact ⟨_, _, y, rfl, HS.out.oy, HF.out, HS.out.bel⟩
def Good4P (w : World) (ks : List Nat) (e : Ending) (w' : World) : Prop := Below w.heap.size w w' ∧ ∃ r : Bool, e = .returned (.bool r) ∧ (r = true ↔ Bal (exc (val (ownL 0 ks))) (ownL 0 ks).length ∧ Bal (exc (val (ownL 1 ks))) (ownL 1 ks).length)
set_option maxHeartbeats 2000000 in
theorem good4_p (A : Option Addr) (n c : Nat) (ks : List Nat) (w : World) (hr : Rd w w.heap.size A n (I64 (ofNB ks))) (hk : Kds ks) (hn : n ≤ 100000) :
    Calls Try.prog 25 #[.slice A n c] w (Good4P w ks) := by
  have hl : ks.length = n := by have := hr.len; rw [I64_len, ofN_lenB] at this; exact this
  have hoN : ∀ s, (ownL s ks).length ≤ 100000 := fun s => by have h1 := ah_le s ks ks.length (Nat.le_refl _); rw [ah_all] at h1; omega
  have S0 := Lib.hid (sort_p A n c 0 ks w hr hk (by decide) hn)
  have S1 := Lib.hid (fun (W : World) (m : Below w.heap.size w W) => sort_p A n c 1 ks W ((hr.below m).up m.size) hk (by decide) hn)
  clear hr hk hl
  go_enter Try.func25, Try.ntmps25
  go_wp2_with fail
  refine S0.out.mono ?_
  rintro e w1 ⟨A1, c1, A2, c2, rfl, o1, o2, b1⟩
  have T1 := Lib.hid (S1.out w1 b1)
  have O1 := Lib.hid (Rd.ofOwn o1)
  have B1 := Lib.hid b1
  clear o1 o2 b1 S0 S1
  go_wp2_with fail
  refine T1.out.mono ?_
  rintro e w2 ⟨A3, c3, A4, c4, rfl, o3, o4, b2⟩
  have G0 := Lib.hid (good_p A1 (ownL 0 ks).length c1 _ (ownL 0 ks) w2 (O1.out.below b2) (ownL_bin 0 ks) (by have := hoN 0; omega))
  have G1 := Lib.hid (good_p A3 (ownL 1 ks).length c3 _ (ownL 1 ks) w2 (Rd.ofOwn o3) (ownL_bin 1 ks) (by have := hoN 1; omega))
  have B2 : Hid (Below w.heap.size w w2) := B1.out.trans (b2.mono B1.out.size)
  clear o3 o4 b2 T1 O1 B1 hoN
  go_wp2_with fail
  refine G0.out.mono ?_
  rintro e w3 ⟨rfl, r, rfl, hr⟩
  have HR := Lib.hid hr
  clear hr G0
  cases r with
  | false =>
    go_wp2_with fail
    go_ret
    exact ⟨B2.out, false, rfl, by
      constructor
      · intro h; cases h
      · intro h; exact absurd (HR.out.2 h.1) (by decide)⟩
  | true =>
    have HB := Lib.hid (HR.out.1 rfl)
    go_wp2_with fail
    refine G1.out.mono ?_
    rintro e w4 ⟨rfl, r, rfl, hr⟩
    have HR1 := Lib.hid hr
    clear hr G1
    go_wp2_with fail
    go_ret
    exact ⟨B2.out, r, rfl, by
      constructor
      · intro h; exact ⟨HB.out, HR1.out.1 h⟩
      · intro h; exact HR1.out.2 h.2⟩
end Go.Proofs.Ythkocodajjapmaa
