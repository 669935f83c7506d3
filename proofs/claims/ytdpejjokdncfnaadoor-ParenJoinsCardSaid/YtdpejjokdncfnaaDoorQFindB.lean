/- find, back: the last block up to one where the excess is low. -/
import Derived.Test.YtdpejjokdncfnaaDoorQFind
namespace Go.Proofs.YtdpejjokdncfnaaDoor
open Go.RowKit
set_option linter.unusedVariables false
set_option maxRecDepth 20000
theorem Hang.left {H x k a : Nat} (h : Hang H x k a) (h0 : 0 < a) : ∃ a', a' + 2 ^ k = a ∧ Hang H (x - 1) k a' := by
  obtain ⟨h1, h2, h3⟩ := h
  have hp : 0 < 2 ^ k := Nat.two_pow_pos k
  have e1 : 2 ^ H = 2 ^ (H - k) * 2 ^ k := by rw [← Nat.pow_add, show H - k + k = H by omega]
  have l1 : 2 ^ (H - k) < x := by
    rcases Nat.lt_or_ge (2 ^ (H - k)) x with g | g
    · exact g
    · have := Nat.mul_le_mul_right (2 ^ k) g; omega
  have l2 := Nat.mul_le_mul_right (2 ^ k) (show 2 ^ (H - k) + 1 ≤ x from l1)
  rw [Nat.add_mul, Nat.one_mul, ← e1] at l2
  have e2 : (x - 1) * 2 ^ k = 2 ^ H + a - 2 ^ k := by rw [Nat.sub_mul, Nat.one_mul, h1]
  exact ⟨a - 2 ^ k, by omega, by rw [e2]; omega, h2, by omega⟩
def FindB (w : World) (E : Nat → Int) (n j : Nat) (m : Int) (e : Ending) (w' : World) : Prop := ∃ r : Nat, e = .returned (.int .i64 (r : Int)) ∧ LastB E n j m r ∧ Below w.heap.size w w'
set_option maxHeartbeats 4000000 in
theorem find_b (w : World) (E : Nat → Int) (hE : Exc E) (n S H M : Nat) (T : Nat → Int × Int) (h : TrAt w E n S H M T) (hn : n ≤ 1000000) (c j : Nat) (m : Int) (hj : 512 * (j + 1) ≤ n)
    (ht : ∃ t, t ≤ j ∧ Has E n t (t + 1) m) :
    Calls Tryd.prog 66 #[.slice (some ⟨S, 0, none⟩) M c, .int .i64 (j : Int), .int .i64 (-1), .int .i64 (E (512 * (j + 1))), .int .i64 m] w (FindB w E n j m) := by
  obtain ⟨t, ht1, ht3⟩ := ht
  have HT3 := Lib.hid ht3
  have HE := Lib.hid hE
  have HX := Lib.hid h
  have hM := h.hM
  have hL9 := h.lv.le (by omega)
  have hBL := h.lv.1
  have LF := Lib.hid (leafk_p w (some ⟨S, 0, none⟩) M c (2 ^ H) j hM (by omega) (by omega))
  have L0 := Lib.hid fun w' => leaf0_p w' (some ⟨S, 0, none⟩) M c (2 ^ H) hM (by omega)
  have AT := Lib.hid fun w' (b' : Below w.heap.size w w') x k a (hx : Hang H x k a) => node_p hE (h.below b') hn c x k a hx
  have hb0 := hE.bound (512 * (j + 1))
  have hang0 : Hid (Hang H (2 ^ H + j) 0 j) := ⟨by rw [Nat.pow_zero, Nat.mul_one], by omega, by omega⟩
  have hp0 : 0 < 2 ^ H := Nat.two_pow_pos H
  generalize hy0 : E (512 * (j + 1)) = y0 at *
  have HY0 := Lib.hid hy0
  generalize hPL : 2 ^ H = L at *
  have HPL := Lib.hid hPL
  have htL : t < L := by omega
  clear h hE ht3 hy0 hPL
  go_enter Tryd.func66, Tryd.ntmps66
  go_wp2_with fail
  refine LF.out.mono ?_
  rintro e w1 ⟨rfl, rfl⟩
  clear LF
  go_wp2_with fail
  go_loopw [3, 11] (fun z v wr => ∃ (x k a : Nat) (y : Int), v = .int .i64 (x : Int) ∧ z = .int .i64 y ∧ -1000000 ≤ y ∧ y ≤ 1000000 ∧ x ≤ 2 * L ∧ 1 ≤ x ∧ a ≤ j ∧ Hid (a + 2 ^ k ≤ j + 1) ∧ Hid (t < a + 2 ^ k) ∧ Hid (y = E (512 * (a + 2 ^ k))) ∧ Hid (Hang H x k a) ∧ Hid (NoHas E n (a + 2 ^ k) (j + 1) m) ∧ Hid (Below w.heap.size w wr)) (fun _ v _ => posn H (intOf v).toNat)
  case atStart => exact ⟨L + j, 0, j, y0, rfl, rfl, by omega, by omega, by omega, by omega, by omega, Nat.le_refl _, by show t < j + 2 ^ 0; omega, HY0.out.symm, hang0.out, fun i h1 h2 => by omega, Below.refl _ _⟩
  case round =>
    clear hang0 HY0
    obtain ⟨x, k, a, y, rfl, rfl, hy1, hy2, hx9, hx1, haj, hej, het, hy, hh, hno, hbel⟩ := hrel
    have han : 512 * a < n := by omega
    have hend := node_end hh.out.2.1 hh.out.1 hh.out.2.2
    rw [HPL.out] at hend
    have hpk : 0 < 2 ^ k := Nat.two_pow_pos k
    have A1 := Lib.hid (AT.out wr hbel.out x k a hh.out)
    have hfit := nd_fits HE.out hn a (a + 2 ^ k)
    have HI := Lib.hid (has_back (E := E) (n := n) (a := a) (b := a + 2 ^ k) han (by omega) m)
    have ND := Lib.hid (nd_end (E := E) (n := n) (a := a) (b := a + 2 ^ k) han (by omega))
    rw [Nat.min_eq_left (by have := hej.out; omega), ← hy.out] at HI ND
    obtain ⟨ee, hee⟩ : ∃ ee, a + 2 ^ k = ee := ⟨_, rfl⟩
    rw [hee] at A1 hfit HI ND hend hej het hno hy
    have hae : a < ee := by omega
    have HP1 : Hid (posn H x = L + a) := by show _ = _; rw [hh.out.posn, HPL.out]
    obtain ⟨p, hp⟩ : ∃ p, nd E n a ee = p := ⟨_, rfl⟩
    rw [hp] at A1 hfit HI ND
    have HEE := Lib.hid hee
    have HPN := Lib.hid hp
    clear hp hee hpk
    obtain ⟨s, l⟩ := p
    have hs1 := hfit.a1
    have hs2 := hfit.a2
    have HFIT := Lib.hid hfit
    simp only at hs1 hs2 HI ND
    clear hfit
    by_cases hhas : y - s + l ≤ m
    · have HF := Lib.hid fun w' => has_b w' (s, l) y m HFIT.out (by omega)
      simp only at HF
      rw [show decide (y - s + l ≤ m) = true from decide_eq_true hhas] at HF
      have HHS : Hid (Has E n a (a + 2 ^ k) m) := by show Has _ _ _ _ _; rw [HEE.out]; exact HI.out.1 hhas
      clear hhas HI ND
      go_wp2_with fail
      refine A1.out.mono ?_
      rintro e w2 ⟨rfl, b2⟩
      have hb2 : Hid (Below w.heap.size w w2) := hbel.out.trans (b2.mono hbel.out.size)
      clear A1 b2
      go_wp2_with fail
      refine (HF.out w2).mono ?_
      rintro e w3 ⟨rfl, b3⟩
      have hb3 : Hid (Below w.heap.size w w3) := hb2.out.trans (b3.mono hb2.out.size)
      clear b3 hb2 HF
      go_wp2_with fail
      go_loopw [3, 11] (fun z v wq => ∃ (x k a : Nat) (y : Int), v = .int .i64 (x : Int) ∧ z = .int .i64 y ∧ -1000000 ≤ y ∧ y ≤ 1000000 ∧ x ≤ 2 * L ∧ a ≤ j ∧ Hid (a + 2 ^ k ≤ j + 1) ∧ Hid (y = E (512 * (a + 2 ^ k))) ∧ Hid (Hang H x k a) ∧ Hid (NoHas E n (a + 2 ^ k) (j + 1) m) ∧ Hid (Has E n a (a + 2 ^ k) m) ∧ Hid (Below w.heap.size w wq)) (fun _ v _ => 2 * L - (intOf v).toNat)
      case atStart => exact ⟨x, k, a, y, rfl, rfl, by omega, by omega, by omega, by omega, by rw [HEE.out]; exact hej.out, by rw [HEE.out]; exact hy.out, hh.out, by rw [HEE.out]; exact hno.out, HHS.out, hb3.out⟩
      case round =>
        clear hy hh hno HHS hb3 hbel HEE HPN HFIT hend HP1 hs1 hs2 hae het hej han haj hx9 hx1 hy1 hy2
        obtain ⟨x, k, a, y, rfl, rfl, hy1, hy2, hx9, haj, hej, hy, hh, hno, hhs, hbel⟩ := hrel
        have han : 512 * a < n := by omega
        cases k with
        | zero =>
          have hx : x = L + a := by have := hh.out.1; rw [Nat.pow_zero, HPL.out] at this; omega
          subst hx
          go_wp2_with (go_at_call 55; refine (L0.out _).mono ?_; rintro e w' ⟨rfl, rfl⟩)
          go_ret
          exact ⟨a, congrArg (fun z => Ending.returned (.int .i64 z)) (by omega), ⟨haj, hhs.out, hno.out⟩, hbel.out⟩
        | succ k =>
          obtain ⟨q1, q2, q3⟩ := node_kids hh.out.2.1 hh.out.1 hh.out.2.2
          have hpk : 0 < 2 ^ k := Nat.two_pow_pos k
          have hk1 : Hid (Hang H (x * 2) k a) := ⟨by rw [Nat.mul_comm x 2]; exact q1, by have := hh.out.2.1; omega, hh.out.2.2⟩
          have hk2 : Hid (Hang H (x * 2 + 1) k (a + 2 ^ k)) := ⟨by rw [Nat.mul_comm x 2]; exact q2, by have := hh.out.2.1; omega, q3⟩
          have hend := node_end hk2.out.2.1 hk2.out.1 hk2.out.2.2
          rw [HPL.out] at hend
          have hxL : x < L := by omega
          have hx1 : 1 ≤ x := (node_end hh.out.2.1 hh.out.1 hh.out.2.2).2.1
          have e2 : ((x * 2 : Nat) : Int) = (x : Int) * 2 := by omega
          have e3 : ((x * 2 + 1 : Nat) : Int) = (x : Int) * 2 + 1 := by omega
          have IF := Lib.hid fun w' => isFar_b w' (x * 2) (by omega)
          rw [show decide (x * 2 % 2 = 0) = true from decide_eq_true (by omega), e2] at IF
          have HH2 : Hid (Has E n a (a + 2 ^ k + 2 ^ k) m) := by
            show Has _ _ _ _ _
            have := hhs.out
            rw [pow_up] at this
            rw [show a + 2 ^ k + 2 ^ k = a + 2 * 2 ^ k by omega]
            exact this
          rw [pow_up, show a + 2 * 2 ^ k = a + 2 ^ k + 2 ^ k by omega] at hej hy hno
          obtain ⟨b, hb⟩ : ∃ b, a + 2 ^ k = b := ⟨_, rfl⟩
          rw [hb] at hej hy hno HH2 hk2
          have hejo := hej.out
          have hbn : 512 * b < n := by omega
          have A1 := Lib.hid fun w' b' => AT.out w' b' (x * 2 + 1) k b hk2.out
          rw [e3] at A1
          have hfit := nd_fits HE.out hn b (b + 2 ^ k)
          have HI := Lib.hid (has_back (E := E) (n := n) (a := b) (b := b + 2 ^ k) hbn (by omega) m)
          have ND := Lib.hid (nd_end (E := E) (n := n) (a := b) (b := b + 2 ^ k) hbn (by omega))
          rw [Nat.min_eq_left (by omega), ← hy.out] at HI ND
          have HBB := Lib.hid hb
          have hbj : b ≤ j := by omega
          have hab : a ≤ b := by omega
          obtain ⟨p, hp⟩ : ∃ p, nd E n b (b + 2 ^ k) = p := ⟨_, rfl⟩
          rw [hp] at A1 hfit HI ND
          clear hp hb hpk q1 q2 q3 hh hhs hend e2 e3 hejo
          obtain ⟨s, l⟩ := p
          have hs1 := hfit.a1
          have hs2 := hfit.a2
          have HFIT := Lib.hid hfit
          simp only at hs1 hs2 HI ND
          clear hfit
          by_cases hl : y - s + l ≤ m
          · have HF := Lib.hid fun w' => has_b w' (s, l) y m HFIT.out (by omega)
            unfold ndv at HF A1
            simp only at HF A1
            rw [show decide (y - s + l ≤ m) = true from decide_eq_true hl] at HF
            have HHS : Hid (Has E n b (b + 2 ^ k) m) := HI.out.1 hl
            clear hl HI ND HH2
            go_wp2_with (first
              | (go_at_call 55; refine (L0.out _).mono ?_; rintro e w' ⟨rfl, rfl⟩)
              | (go_at_call 73; refine (IF.out _).mono ?_; rintro e w' ⟨rfl, rfl⟩))
            refine (A1.out _ hbel.out).mono ?_
            rintro e w2 ⟨rfl, b2⟩
            have hb2 : Hid (Below w.heap.size w w2) := hbel.out.trans (b2.mono hbel.out.size)
            clear A1 b2
            go_wp2_with fail
            refine (HF.out _).mono ?_
            rintro e w3 ⟨rfl, b3⟩
            have hb3 : Hid (Below w.heap.size w w3) := (hb2.out.alloc hb2.out.size _).trans (b3.mono (by have := hb2.out.size; simp; omega))
            clear b3 hb2 HF
            go_wp2_with fail
            go_roundw
            case rel => exact ⟨x * 2 + 1, k, b, y, by go_num, rfl, by omega, by omega, by omega, by omega, hej.out, hy.out, hk2.out, hno.out, HHS.out, hb3.out⟩
            case measure => simp [intOf]; omega
          · have HF := Lib.hid fun w' => has_b w' (s, l) y m HFIT.out (by omega)
            unfold ndv at HF A1
            simp only at HF A1
            rw [show decide (y - s + l ≤ m) = false from decide_eq_false hl] at HF
            have HNL : ¬ Has E n b (b + 2 ^ k) m := fun g => hl (HI.out.2 g)
            have HHS : Hid (Has E n a (a + 2 ^ k) m) := by show Has _ _ _ _ _; rw [HBB.out]; exact HH2.out.splitL HNL hab
            have HNO : Hid (NoHas E n (a + 2 ^ k) (j + 1) m) := by show NoHas _ _ _ _ _; rw [HBB.out]; exact hno.out.back HNL
            have NY : Hid (y - s = E (512 * (a + 2 ^ k))) := by show _ = _; rw [HBB.out]; have := ND.out; omega
            have hb9 := HE.out.bound (512 * b)
            have NY2 : y - s = E (512 * b) := by have := ND.out; omega
            rw [← NY2] at hb9
            clear hl HI ND HH2 HNL NY2
            go_wp2_with (first
              | (go_at_call 55; refine (L0.out _).mono ?_; rintro e w' ⟨rfl, rfl⟩)
              | (go_at_call 73; refine (IF.out _).mono ?_; rintro e w' ⟨rfl, rfl⟩))
            refine (A1.out _ hbel.out).mono ?_
            rintro e w2 ⟨rfl, b2⟩
            have hb2 : Hid (Below w.heap.size w w2) := hbel.out.trans (b2.mono hbel.out.size)
            clear A1 b2
            go_wp2_with fail
            refine (HF.out _).mono ?_
            rintro e w3 ⟨rfl, b3⟩
            have hb3 : Hid (Below w.heap.size w w3) := (hb2.out.alloc hb2.out.size _).trans (b3.mono (by have := hb2.out.size; simp; omega))
            have hc3 : w3.cell? ⟨w2.heap.size, 0, none⟩ = some (.int .i32 s) := (b3.cell (p := ⟨w2.heap.size, 0, none⟩) (by simp)).trans ((Blk.new w2 _ _).cell 0)
            clear b3 hb2 HF
            go_wp2_with fail
            go_roundw
            case rel => exact ⟨x * 2, k, a, y - s, congrArg (Value.int .i64) (by omega), congrArg (Value.int .i64) (by omega), by omega, by omega, by omega, by omega, by show a + 2 ^ k ≤ j + 1; rw [HBB.out]; omega, NY.out, hk1.out, HNO.out, HHS.out, hb3.out⟩
            case measure => simp [intOf]; omega
    · have HF := Lib.hid fun w' => has_b w' (s, l) y m HFIT.out (by omega)
      simp only at HF
      rw [show decide (y - s + l ≤ m) = false from decide_eq_false hhas] at HF
      have HNL : ¬ Has E n a ee m := fun g => hhas (HI.out.2 g)
      have hta : t < a := by
        rcases Nat.lt_or_ge t a with g | g
        · exact g
        · exact absurd (HT3.out.sub g (show t + 1 ≤ ee from het.out)) HNL
      have HNO : Hid (NoHas E n a (j + 1) m) := hno.out.back HNL
      have NY : Hid (y - s = E (512 * a)) := by show _ = _; have := ND.out; omega
      have hb9 := HE.out.bound (512 * a)
      rw [← NY.out] at hb9
      have FS := fld_nd (s, l)
      simp only at FS
      clear hhas HI ND HNL
      go_wp2_with fail
      refine A1.out.mono ?_
      rintro e w2 ⟨rfl, b2⟩
      have hb2 : Hid (Below w.heap.size w w2) := hbel.out.trans (b2.mono hbel.out.size)
      clear A1 b2
      go_wp2_with fail
      refine (HF.out w2).mono ?_
      rintro e w3 ⟨rfl, b3⟩
      have hb3 : Hid (Below w.heap.size w w3) := hb2.out.trans (b3.mono hb2.out.size)
      have A2 := Lib.hid (AT.out w3 hb3.out x k a hh.out)
      rw [HEE.out, HPN.out] at A2
      clear b3 hb2 HF
      go_wp2_with fail
      refine A2.out.mono ?_
      rintro e w4 ⟨rfl, b4⟩
      have hb4 : Hid (Below w.heap.size w w4) := hb3.out.trans (b4.mono hb3.out.size)
      clear b4 hb3 A2
      go_wp2_with fail
      go_loop [11] (fun v => ∃ (x2 k2 : Nat), v = .int .i64 (x2 : Int) ∧ x2 ≤ 2 * L ∧ 1 ≤ x2 ∧ Hid (Hang H x2 k2 a)) (fun v => (intOf v).toNat)
      case atStart => exact ⟨x, k, rfl, by omega, by omega, hh.out⟩
      case round =>
        obtain ⟨x2, k2, rfl, hx2, hx21, hh2⟩ := hrel
        have IF := Lib.hid fun w' => isFar_b w' x2 (by omega)
        by_cases hodd : x2 % 2 = 0
        · rw [show decide (x2 % 2 = 0) = true from decide_eq_true hodd] at IF
          obtain ⟨u1, u2⟩ := up_back hh2.out.1 hh2.out.2.2 hh2.out.2.1 hodd (by omega)
          have HH3 : Hid (Hang H (x2 / 2) (k2 + 1) a) := ⟨u1, u2, hh2.out.2.2⟩
          have hx31 := (node_end u2 u1 hh2.out.2.2).2.1
          clear hodd u1 u2
          go_wp2_with (go_at_call 73; refine (IF.out _).mono ?_; rintro e w' ⟨rfl, rfl⟩)
          go_round
          case rel => exact ⟨x2 / 2, k2 + 1, congrArg (Value.int .i64) (by omega), by omega, hx31, HH3.out⟩
          case measure => simp [intOf]; omega
        · rw [show decide (x2 % 2 = 0) = false from decide_eq_false hodd] at IF
          obtain ⟨a', ha', hk'⟩ := hh2.out.left (by omega)
          have HH3 := Lib.hid hk'
          have HA' := Lib.hid ha'
          have haa : a' < a := by have : 0 < 2 ^ k2 := Nat.two_pow_pos k2; omega
          have HP2 : Hid (posn H (x2 - 1) = L + a') := by show _ = _; rw [HH3.out.posn, HPL.out]
          have hx31 := (node_end hk'.2.1 hk'.1 hk'.2.2).2.1
          clear hodd ha' hk'
          go_wp2_with (go_at_call 73; refine (IF.out _).mono ?_; rintro e w' ⟨rfl, rfl⟩)
          go_roundw
          case rel => exact ⟨x2 - 1, k2, a', y - s, congrArg (Value.int .i64) (by omega), congrArg (Value.int .i64) (by omega), by omega, by omega, by omega, hx31, by omega, by show a' + 2 ^ k2 ≤ j + 1; rw [HA'.out]; omega, by show t < a' + 2 ^ k2; rw [HA'.out]; exact hta, by show _ = E (512 * (a' + 2 ^ k2)); rw [HA'.out]; exact NY.out, HH3.out, by show NoHas _ _ (a' + 2 ^ k2) _ _; rw [HA'.out]; exact HNO.out, hb4.out⟩
          case measure =>
            show posn H ((x2 : Int) + -1).toNat < posn H ((x : Int)).toNat
            rw [show ((x2 : Int) + -1).toNat = x2 - 1 by omega, show ((x : Int)).toNat = x by omega, HP1.out, HP2.out]
            omega
end Go.Proofs.YtdpejjokdncfnaaDoor
