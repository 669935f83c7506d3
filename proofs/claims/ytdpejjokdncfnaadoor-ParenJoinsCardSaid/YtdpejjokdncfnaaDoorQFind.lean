/- find: the first block from one on, on a way, where the excess is low. -/
import Derived.Test.YtdpejjokdncfnaaDoorQTreeOf
namespace Go.Proofs.YtdpejjokdncfnaaDoor
open Go.RowKit
set_option linter.unusedVariables false
set_option maxRecDepth 20000
/-- The tree of n bits, read at S. -/
structure TrAt (w : World) (E : Nat → Int) (n S H M : Nat) (T : Nat → Int × Int) : Prop where
  rd : RdT w S T M
  ok : TreeOK E n H (fun x => T (x - 1))
  lt : S < w.heap.size
  hM : M + 1 = 2 * 2 ^ H
  lv : Lvs ((n + 511) / 512) H
theorem TrAt.below {w w' : World} {E : Nat → Int} {n S H M : Nat} {T : Nat → Int × Int} (h : TrAt w E n S H M T) (m : Below w.heap.size w w') : TrAt w' E n S H M T :=
  ⟨h.rd.below h.lt m, h.ok, by have := m.size; have := h.lt; omega, h.hM, h.lv⟩
/-- x hangs so high above the leaves, over those from a on. -/
def Hang (H x h a : Nat) : Prop := x * 2 ^ h = 2 ^ H + a ∧ h ≤ H ∧ a < 2 ^ H
theorem Hang.log {H x h a : Nat} (k : Hang H x h a) : Nat.log2 x = H - h := by
  obtain ⟨h1, h2, h3⟩ := k
  have hp : 0 < 2 ^ h := Nat.two_pow_pos h
  have e1 : 2 ^ H = 2 ^ (H - h) * 2 ^ h := by rw [← Nat.pow_add, show H - h + h = H by omega]
  have x0 : x ≠ 0 := fun e => by subst e; have := Nat.two_pow_pos H; omega
  have l1 : 2 ^ (H - h) ≤ x := by
    rcases Nat.lt_or_ge x (2 ^ (H - h)) with g | g
    · have := Nat.mul_lt_mul_of_pos_right g hp; omega
    · exact g
  have l2 : x < 2 ^ (H - h + 1) := by
    rcases Nat.lt_or_ge x (2 ^ (H - h + 1)) with g | g
    · exact g
    · have := Nat.mul_le_mul_right (2 ^ h) g
      rw [pow_up, Nat.mul_assoc, ← e1] at this; omega
  have a1 := (Nat.le_log2 x0).2 l1
  have a2 := (Nat.log2_lt x0).2 l2
  omega
/-- Where x's leaves begin, counted from the last one back. -/
def posn (H x : Nat) : Nat := x * 2 ^ (H - Nat.log2 x)
theorem Hang.posn {H x h a : Nat} (k : Hang H x h a) : posn H x = 2 ^ H + a := by
  unfold Go.Proofs.YtdpejjokdncfnaaDoor.posn
  rw [k.log, show H - (H - h) = h by have := k.2.1; omega]
  exact k.1
theorem Has.sub {E : Nat → Int} {n a b c d : Nat} {m : Int} (h : Has E n b c m) (h1 : a ≤ b) (h2 : c ≤ d) : Has E n a d m := by
  obtain ⟨i, i1, i2, i3⟩ := h
  exact ⟨i, by omega, by omega, i3⟩
theorem Has.split {E : Nat → Int} {n a b c : Nat} {m : Int} (h : Has E n a c m) (hl : ¬ Has E n a b m) (hbc : b ≤ c) : Has E n b c m ∧ 512 * b < n := by
  obtain ⟨i, i1, i2, i3⟩ := h
  by_cases hi : i ≤ min (512 * b) n
  · exact absurd ⟨i, i1, hi, i3⟩ hl
  · exact ⟨⟨i, by omega, i2, i3⟩, by omega⟩
theorem Has.splitL {E : Nat → Int} {n a b c : Nat} {m : Int} (h : Has E n a c m) (hr : ¬ Has E n b c m) (hab : a ≤ b) : Has E n a b m := by
  obtain ⟨i, i1, i2, i3⟩ := h
  by_cases hi : 512 * b ≤ i
  · exact absurd ⟨i, hi, i2, i3⟩ hr
  · exact ⟨i, i1, by omega, i3⟩
/-- No such place in any of the blocks from j on, ahead of a. -/
def NoHas (E : Nat → Int) (n j a : Nat) (m : Int) : Prop := ∀ k, j ≤ k → k < a → ¬ Has E n k (k + 1) m
theorem NoHas.on {E : Nat → Int} {n j a b : Nat} {m : Int} (h : NoHas E n j a m) (k : ¬ Has E n a b m) : NoHas E n j b m := fun i h1 h2 hi => by
  rcases Nat.lt_or_ge i a with g | g
  · exact h i h1 g hi
  · exact k (hi.sub g (by omega))
theorem NoHas.back {E : Nat → Int} {n a b c : Nat} {m : Int} (h : NoHas E n b c m) (k : ¬ Has E n a b m) : NoHas E n a c m := fun i h1 h2 hi => by
  rcases Nat.lt_or_ge i b with g | g
  · exact k (hi.sub h1 (by omega))
  · exact h i g h2 hi
/-- r is the first block from j on where there is such a place. -/
structure FirstB (E : Nat → Int) (n j : Nat) (m : Int) (r : Nat) : Prop where
  le : j ≤ r
  lt : 512 * r < n
  has : Has E n r (r + 1) m
  none_ : NoHas E n j r m
/-- r is the last block up to j where there is such a place. -/
structure LastB (E : Nat → Int) (n j : Nat) (m : Int) (r : Nat) : Prop where
  le : r ≤ j
  has : Has E n r (r + 1) m
  none_ : NoHas E n (r + 1) (j + 1) m
theorem leafk_p (w : World) (A : Option Addr) (m c L k : Nat) (hm : m + 1 = 2 * L) (hL : L ≤ 100000) (hk : k ≤ 100000) :
    Calls Tryd.prog 55 #[.slice A m c, .int .i64 (k : Int)] w fun e w' => e = .returned (.int .i64 ((L + k : Nat) : Int)) ∧ w = w' := by
  have := leaf_p w A m c k (by omega) (by omega)
  rw [show m / 2 + 1 + k = L + k by omega] at this
  exact this
/-- What at answers of the x-th node. -/
theorem node_p {w : World} {E : Nat → Int} (hE : Exc E) {n S H M : Nat} {T : Nat → Int × Int} (h : TrAt w E n S H M T) (hn : n ≤ 1000000) (c x k a : Nat) (hx : Hang H x k a) :
    Calls Tryd.prog 57 #[.slice (some ⟨S, 0, none⟩) M c, .int .i64 (x : Int)] w fun e w' => e = .returned (ndv (nd E n a (a + 2 ^ k))) ∧ Below w.heap.size w w' := by
  have h1 := node_end hx.2.1 hx.1 hx.2.2
  have h2 := h.hM
  have h3 := h.lv.le (by omega)
  have := at_p w S M c x T h.rd (by omega) (by omega) (by omega) h.lt
  rw [show T (x - 1) = _ from h.ok x k a hx.2.1 hx.1 hx.2.2] at this
  exact this
def FindF (w : World) (E : Nat → Int) (n j : Nat) (m : Int) (e : Ending) (w' : World) : Prop := ∃ r : Nat, e = .returned (.int .i64 (r : Int)) ∧ FirstB E n j m r ∧ Below w.heap.size w w'
set_option maxHeartbeats 4000000 in
theorem find_f (w : World) (E : Nat → Int) (hE : Exc E) (n S H M : Nat) (T : Nat → Int × Int) (h : TrAt w E n S H M T) (hn : n ≤ 1000000) (c j : Nat) (m : Int) (hj : 512 * j < n)
    (ht : ∃ t, j ≤ t ∧ 512 * t < n ∧ Has E n t (t + 1) m) :
    Calls Tryd.prog 66 #[.slice (some ⟨S, 0, none⟩) M c, .int .i64 (j : Int), .int .i64 1, .int .i64 (E (512 * j)), .int .i64 m] w (FindF w E n j m) := by
  obtain ⟨t, ht1, ht2, ht3⟩ := ht
  have HT3 := Lib.hid ht3
  have HE := Lib.hid hE
  have HX := Lib.hid h
  have hM := h.hM
  have hL9 := h.lv.le (by omega)
  have hBL := h.lv.1
  have LF := Lib.hid (leafk_p w (some ⟨S, 0, none⟩) M c (2 ^ H) j hM (by omega) (by omega))
  have L0 := Lib.hid fun w' => leaf0_p w' (some ⟨S, 0, none⟩) M c (2 ^ H) hM (by omega)
  have AT := Lib.hid fun w' (b' : Below w.heap.size w w') x k a (hx : Hang H x k a) => node_p hE (h.below b') hn c x k a hx
  have hb0 := hE.bound (512 * j)
  have hang0 : Hid (Hang H (2 ^ H + j) 0 j) := ⟨by rw [Nat.pow_zero, Nat.mul_one], by omega, by omega⟩
  have hp0 : 0 < 2 ^ H := Nat.two_pow_pos H
  generalize hy0 : E (512 * j) = y0 at *
  have HY0 := Lib.hid hy0
  generalize hPL : 2 ^ H = L at *
  have HPL := Lib.hid hPL
  have htL : t < L := by omega
  clear h hE ht3 hy0 hPL
  go_enter Tryd.func66, Tryd.ntmps66
  go_wp2_with fail
  refine LF.out.mono ?_
  rintro e w1 ⟨rfl, rfl⟩
  clear LF
  go_wp2_with fail
  go_loopw [3, 11] (fun z v wr => ∃ (x k a : Nat) (y : Int), v = .int .i64 (x : Int) ∧ z = .int .i64 y ∧ -1000000 ≤ y ∧ y ≤ 1000000 ∧ x ≤ 2 * L ∧ j ≤ a ∧ a ≤ t ∧ 512 * a < n ∧ Hid (y = E (512 * a)) ∧ Hid (Hang H x k a) ∧ Hid (NoHas E n j a m) ∧ Hid (Below w.heap.size w wr)) (fun _ v _ => 2 * L - posn H (intOf v).toNat)
  case atStart => exact ⟨L + j, 0, j, y0, rfl, rfl, by omega, by omega, by omega, by omega, by omega, by omega, HY0.out.symm, hang0.out, fun i h1 h2 => by omega, Below.refl _ _⟩
  case round =>
    clear hang0 HY0
    obtain ⟨x, k, a, y, rfl, rfl, hy1, hy2, hx9, hja, hat, han, hy, hh, hno, hbel⟩ := hrel
    have hend := node_end hh.out.2.1 hh.out.1 hh.out.2.2
    rw [HPL.out] at hend
    have hpk : 0 < 2 ^ k := Nat.two_pow_pos k
    have A1 := Lib.hid (AT.out wr hbel.out x k a hh.out)
    have hfit := nd_fits HE.out hn a (a + 2 ^ k)
    have HI := Lib.hid (has_iff (E := E) (n := n) (a := a) (b := a + 2 ^ k) han (by omega) m)
    have ND := Lib.hid (nd_end (E := E) (n := n) (a := a) (b := a + 2 ^ k) han (by omega))
    rw [← hy.out] at HI ND
    obtain ⟨ee, hee⟩ : ∃ ee, a + 2 ^ k = ee := ⟨_, rfl⟩
    rw [hee] at A1 hfit HI ND hend
    have hae : a < ee := by omega
    have HP1 : Hid (posn H x = L + a) := by show _ = _; rw [hh.out.posn, HPL.out]
    obtain ⟨p, hp⟩ : ∃ p, nd E n a ee = p := ⟨_, rfl⟩
    rw [hp] at A1 hfit HI ND
    have HEE := Lib.hid hee
    have HPN := Lib.hid hp
    clear hp hee hpk
    obtain ⟨s, l⟩ := p
    have hs1 := hfit.a1
    have hs2 := hfit.a2
    have HFIT := Lib.hid hfit
    simp only at hs1 hs2 HI ND
    clear hfit
    by_cases hhas : y + l ≤ m
    · have HF := Lib.hid fun w' => has_f w' (s, l) y m HFIT.out (by omega)
      simp only at HF
      rw [show decide (y + l ≤ m) = true from decide_eq_true hhas] at HF
      have HHS : Hid (Has E n a (a + 2 ^ k) m) := by show Has _ _ _ _ _; rw [HEE.out]; exact HI.out.1 hhas
      clear hhas HI ND
      go_wp2_with fail
      refine A1.out.mono ?_
      rintro e w2 ⟨rfl, b2⟩
      have hb2 : Hid (Below w.heap.size w w2) := hbel.out.trans (b2.mono hbel.out.size)
      clear A1 b2
      go_wp2_with fail
      refine (HF.out w2).mono ?_
      rintro e w3 ⟨rfl, b3⟩
      have hb3 : Hid (Below w.heap.size w w3) := hb2.out.trans (b3.mono hb2.out.size)
      clear b3 hb2 HF
      go_wp2_with fail
      go_loopw [3, 11] (fun z v wq => ∃ (x k a : Nat) (y : Int), v = .int .i64 (x : Int) ∧ z = .int .i64 y ∧ -1000000 ≤ y ∧ y ≤ 1000000 ∧ x ≤ 2 * L ∧ j ≤ a ∧ 512 * a < n ∧ Hid (y = E (512 * a)) ∧ Hid (Hang H x k a) ∧ Hid (NoHas E n j a m) ∧ Hid (Has E n a (a + 2 ^ k) m) ∧ Hid (Below w.heap.size w wq)) (fun _ v _ => 2 * L - (intOf v).toNat)
      case atStart => exact ⟨x, k, a, y, rfl, rfl, by omega, by omega, by omega, by omega, by omega, hy.out, hh.out, hno.out, HHS.out, hb3.out⟩
      case round =>
        clear hy hh hno HHS hb3 hbel HEE HFIT hend HP1 hs1 hs2 hae hat han hja hx9 hy1 hy2
        obtain ⟨x, k, a, y, rfl, rfl, hy1, hy2, hx9, hja, han, hy, hh, hno, hhs, hbel⟩ := hrel
        cases k with
        | zero =>
          have hx : x = L + a := by have := hh.out.1; rw [Nat.pow_zero, HPL.out] at this; omega
          subst hx
          go_wp2_with (go_at_call 55; refine (L0.out _).mono ?_; rintro e w' ⟨rfl, rfl⟩)
          go_ret
          exact ⟨a, congrArg (fun z => Ending.returned (.int .i64 z)) (by omega), ⟨by omega, by omega, hhs.out, hno.out⟩, hbel.out⟩
        | succ k =>
          obtain ⟨q1, q2, q3⟩ := node_kids hh.out.2.1 hh.out.1 hh.out.2.2
          have hpk : 0 < 2 ^ k := Nat.two_pow_pos k
          have hk1 : Hid (Hang H (x * 2) k a) := ⟨by rw [Nat.mul_comm x 2]; exact q1, by have := hh.out.2.1; omega, hh.out.2.2⟩
          have hk2 : Hid (Hang H (x * 2 + 1) k (a + 2 ^ k)) := ⟨by rw [Nat.mul_comm x 2]; exact q2, by have := hh.out.2.1; omega, q3⟩
          have hend := node_end hk2.out.2.1 hk2.out.1 hk2.out.2.2
          rw [HPL.out] at hend
          have hxL : x < L := by omega
          have hx1 : 1 ≤ x := (node_end hh.out.2.1 hh.out.1 hh.out.2.2).2.1
          have e2 : ((x * 2 : Nat) : Int) = (x : Int) * 2 := by omega
          have A1 := Lib.hid fun w' b' => AT.out w' b' (x * 2) k a hk1.out
          rw [e2] at A1
          have IF := Lib.hid fun w' => isFar_f w' (x * 2) (by omega)
          rw [show decide (x * 2 % 2 = 1) = false from decide_eq_false (by omega), e2] at IF
          have hfit := nd_fits HE.out hn a (a + 2 ^ k)
          have HI := Lib.hid (has_iff (E := E) (n := n) (a := a) (b := a + 2 ^ k) han (by omega) m)
          have ND := Lib.hid (nd_end (E := E) (n := n) (a := a) (b := a + 2 ^ k) han (by omega))
          rw [← hy.out] at HI ND
          have HH2 : Hid (Has E n a (a + 2 ^ k + 2 ^ k) m) := by
            show Has _ _ _ _ _
            have := hhs.out
            rw [pow_up] at this
            rw [show a + 2 ^ k + 2 ^ k = a + 2 * 2 ^ k by omega]
            exact this
          obtain ⟨ee, hee⟩ : ∃ ee, a + 2 ^ k = ee := ⟨_, rfl⟩
          rw [hee] at A1 hfit HI ND HH2 hk2
          have HEE := Lib.hid hee
          have hae : a ≤ ee := by omega
          obtain ⟨p, hp⟩ : ∃ p, nd E n a ee = p := ⟨_, rfl⟩
          rw [hp] at A1 hfit HI ND
          clear hp hee hpk q1 q2 q3 hh hhs hend e2
          obtain ⟨s, l⟩ := p
          have hs1 := hfit.a1
          have hs2 := hfit.a2
          have HFIT := Lib.hid hfit
          simp only at hs1 hs2 HI ND
          clear hfit
          by_cases hl : y + l ≤ m
          · have HF := Lib.hid fun w' => has_f w' (s, l) y m HFIT.out (by omega)
            unfold ndv at HF A1
            simp only at HF A1
            rw [show decide (y + l ≤ m) = true from decide_eq_true hl] at HF
            have HHS : Hid (Has E n a (a + 2 ^ k) m) := by show Has _ _ _ _ _; rw [HEE.out]; exact HI.out.1 hl
            clear hl HI ND HH2
            go_wp2_with (first
              | (go_at_call 55; refine (L0.out _).mono ?_; rintro e w' ⟨rfl, rfl⟩)
              | (go_at_call 73; refine (IF.out _).mono ?_; rintro e w' ⟨rfl, rfl⟩))
            refine (A1.out _ hbel.out).mono ?_
            rintro e w2 ⟨rfl, b2⟩
            have hb2 : Hid (Below w.heap.size w w2) := hbel.out.trans (b2.mono hbel.out.size)
            clear A1 b2
            go_wp2_with fail
            refine (HF.out _).mono ?_
            rintro e w3 ⟨rfl, b3⟩
            have hb3 : Hid (Below w.heap.size w w3) := (hb2.out.alloc hb2.out.size _).trans (b3.mono (by have := hb2.out.size; simp; omega))
            clear b3 hb2 HF
            go_wp2_with fail
            go_roundw
            case rel => exact ⟨x * 2, k, a, y, by go_num, rfl, by omega, by omega, by omega, by omega, by omega, hy.out, hk1.out, hno.out, HHS.out, hb3.out⟩
            case measure => simp [intOf]; omega
          · have HF := Lib.hid fun w' => has_f w' (s, l) y m HFIT.out (by omega)
            unfold ndv at HF A1
            simp only at HF A1
            rw [show decide (y + l ≤ m) = false from decide_eq_false hl] at HF
            have HNL : ¬ Has E n a ee m := fun g => hl (HI.out.2 g)
            have hsp := HH2.out.split HNL (Nat.le_add_right _ _)
            have hen := hsp.2
            have HHS : Hid (Has E n ee (ee + 2 ^ k) m) := hsp.1
            have HNO : Hid (NoHas E n j ee m) := hno.out.on HNL
            have NY : Hid (y + s = E (512 * ee)) := by show _ = _; rw [ND.out, Nat.min_eq_left (by omega)]
            have hb9 := HE.out.bound (512 * ee)
            rw [← NY.out] at hb9
            clear hl HI ND HH2 HNL hsp
            go_wp2_with (first
              | (go_at_call 55; refine (L0.out _).mono ?_; rintro e w' ⟨rfl, rfl⟩)
              | (go_at_call 73; refine (IF.out _).mono ?_; rintro e w' ⟨rfl, rfl⟩))
            refine (A1.out _ hbel.out).mono ?_
            rintro e w2 ⟨rfl, b2⟩
            have hb2 : Hid (Below w.heap.size w w2) := hbel.out.trans (b2.mono hbel.out.size)
            clear A1 b2
            go_wp2_with fail
            refine (HF.out _).mono ?_
            rintro e w3 ⟨rfl, b3⟩
            have hb3 : Hid (Below w.heap.size w w3) := (hb2.out.alloc hb2.out.size _).trans (b3.mono (by have := hb2.out.size; simp; omega))
            have hc3 : w3.cell? ⟨w2.heap.size, 0, none⟩ = some (.int .i32 s) := (b3.cell (p := ⟨w2.heap.size, 0, none⟩) (by simp)).trans ((Blk.new w2 _ _).cell 0)
            clear b3 hb2 HF
            go_wp2_with fail
            go_roundw
            case rel => exact ⟨x * 2 + 1, k, ee, y + s, by go_num, rfl, by omega, by omega, by omega, by omega, by omega, NY.out, hk2.out, HNO.out, HHS.out, hb3.out⟩
            case measure => simp [intOf]; omega
    · have HF := Lib.hid fun w' => has_f w' (s, l) y m HFIT.out (by omega)
      simp only at HF
      rw [show decide (y + l ≤ m) = false from decide_eq_false hhas] at HF
      have HNL : ¬ Has E n a ee m := fun g => hhas (HI.out.2 g)
      have het : ee ≤ t := by
        rcases Nat.lt_or_ge t ee with g | g
        · exact absurd (HT3.out.sub (show a ≤ t by omega) (show t + 1 ≤ ee by omega)) HNL
        · exact g
      have HNO : Hid (NoHas E n j ee m) := hno.out.on HNL
      have NY : Hid (y + s = E (512 * ee)) := by show _ = _; rw [ND.out, Nat.min_eq_left (by omega)]
      have hb9 := HE.out.bound (512 * ee)
      rw [← NY.out] at hb9
      have FS := fld_nd (s, l)
      simp only at FS
      clear hhas HI ND HNL
      go_wp2_with fail
      refine A1.out.mono ?_
      rintro e w2 ⟨rfl, b2⟩
      have hb2 : Hid (Below w.heap.size w w2) := hbel.out.trans (b2.mono hbel.out.size)
      clear A1 b2
      go_wp2_with fail
      refine (HF.out w2).mono ?_
      rintro e w3 ⟨rfl, b3⟩
      have hb3 : Hid (Below w.heap.size w w3) := hb2.out.trans (b3.mono hb2.out.size)
      have A2 := Lib.hid (AT.out w3 hb3.out x k a hh.out)
      rw [HEE.out, HPN.out] at A2
      clear b3 hb2 HF
      go_wp2_with fail
      refine A2.out.mono ?_
      rintro e w4 ⟨rfl, b4⟩
      have hb4 : Hid (Below w.heap.size w w4) := hb3.out.trans (b4.mono hb3.out.size)
      clear b4 hb3 A2
      go_wp2_with fail
      go_loop [11] (fun v => ∃ (x2 k2 a2 : Nat), v = .int .i64 (x2 : Int) ∧ x2 ≤ 2 * L ∧ 1 ≤ x2 ∧ Hid (Hang H x2 k2 a2) ∧ Hid (a2 + 2 ^ k2 = ee)) (fun v => (intOf v).toNat)
      case atStart => exact ⟨x, k, a, rfl, by omega, by omega, hh.out, HEE.out⟩
      case round =>
        obtain ⟨x2, k2, a2, rfl, hx2, hx21, hh2, he2⟩ := hrel
        have IF := Lib.hid fun w' => isFar_f w' x2 (by omega)
        by_cases hodd : x2 % 2 = 1
        · rw [show decide (x2 % 2 = 1) = true from decide_eq_true hodd] at IF
          obtain ⟨a3, u1, u2, u3, u4⟩ := up_forth hh2.out.1 hh2.out.2.2 hh2.out.2.1 hodd (by rw [he2.out, HPL.out]; omega)
          have HH3 : Hid (Hang H (x2 / 2) (k2 + 1) a3) := ⟨u1, u3, u4⟩
          have HE3 : Hid (a3 + 2 ^ (k2 + 1) = ee) := by show _ = _; rw [u2, he2.out]
          have hx31 := (node_end u3 u1 u4).2.1
          clear hodd u1 u2 u3 u4
          go_wp2_with (go_at_call 73; refine (IF.out _).mono ?_; rintro e w' ⟨rfl, rfl⟩)
          go_round
          case rel => exact ⟨x2 / 2, k2 + 1, a3, congrArg (Value.int .i64) (by omega), by omega, hx31, HH3.out, HE3.out⟩
          case measure => simp [intOf]; omega
        · rw [show decide (x2 % 2 = 1) = false from decide_eq_false hodd] at IF
          have HH3 : Hid (Hang H (x2 + 1) k2 ee) := ⟨by rw [Nat.add_mul, hh2.out.1, Nat.one_mul, Nat.add_assoc, he2.out], hh2.out.2.1, by rw [HPL.out]; omega⟩
          have HP2 : Hid (posn H (x2 + 1) = L + ee) := by show _ = _; rw [HH3.out.posn, HPL.out]
          have hx29 : x2 + 1 ≤ 2 * L := by have := node_end HH3.out.2.1 HH3.out.1 HH3.out.2.2; rw [HPL.out] at this; omega
          clear hodd
          go_wp2_with (go_at_call 73; refine (IF.out _).mono ?_; rintro e w' ⟨rfl, rfl⟩)
          go_roundw
          case rel => exact ⟨x2 + 1, k2, ee, y + s, by go_num, rfl, by omega, by omega, by omega, by omega, by omega, by omega, NY.out, HH3.out, HNO.out, hb4.out⟩
          case measure =>
            show 2 * L - posn H ((x2 : Int) + 1).toNat < 2 * L - posn H ((x : Int)).toNat
            rw [show ((x2 : Int) + 1).toNat = x2 + 1 by omega, show ((x : Int)).toNat = x by omega, HP1.out, HP2.out]
            omega
end Go.Proofs.YtdpejjokdncfnaaDoor
