/- DartMakes: of any list, root and count there is a map, or it is refused. -/
import Derived.Test.YtafgjfdbmijgcaaDErr
import Derived.Test.YtafgjfdbmijgcaaPRef2
import Derived.Test.YtafgjfdbmijgcaaDRow
namespace Go.Proofs.Ytafgjfdbmijgcaa
open Go.RowKit
set_option linter.unusedVariables false

theorem mlist_p (g : Nat) (l b : List Nat) (root lone : Int) (w : World) (h : MapAt w g l b root lone) :
    Calls Try.prog 13 #[.pointer (some ⟨g, 0, none⟩)] w (NewI64 w (ofN l)) := by
  have VS := Lib.hid (verts_p g l b root lone w h)
  have F0 := fld0
  clear h
  go_enter Try.func13, Try.ntmps13
  go_wp2_with fail
  refine VS.out.mono ?_
  rintro e w1 ⟨p, A, c, S, d, rfl, hp, r1, r2, b1⟩
  have LS := Lib.hid (list_p p l b w1 hp)
  clear hp r1 r2
  go_wp2_with fail
  refine LS.out.mono ?_
  rintro e w2 ⟨A2, c2, rfl, hc2, hm2, hown, b2⟩
  go_wp2_with fail
  go_ret
  exact ⟨A2, c2, rfl, hc2, hm2, hown.base_le' b1.size, b1.trans (b2.mono b1.size)⟩
theorem good_ofN {z : List Int} (h : Good z) : ∃ l b : List Nat, z = ofN l ∧ Inv l b := by
  have e : z = ofN (z.map Int.toNat) := by
    refine getDI_ext (by simp [ofN]) fun i hi => ?_
    have h1 := (h i hi).1
    rw [ofN_get]
    have : (z.map Int.toNat).getD i 0 = (z.getD i 0).toNat := by
      simp [List.getD_eq_getElem?_getD, List.getElem?_eq_getElem hi]
    rw [this]; omega
  rw [e] at h
  obtain ⟨b, hb⟩ := good_inv h
  exact ⟨_, b, e, hb⟩
/-- What New answers. -/
def NewRes (w : World) (z : List Int) (root lone E : Int) (e : Ending) (w' : World) : Prop :=
  ∃ vp, e = .returned (.tuple #[.pointer vp, .int .i64 E]) ∧ Below w.heap.size w w' ∧ (E ≠ 0 → vp = none) ∧
    (E = 0 → ∃ g l b, vp = some ⟨g, 0, none⟩ ∧ z = ofN l ∧ MapAt w' g l b root lone ∧ MapLo w.heap.size w' g)
theorem new_p (A : Option Addr) (n c : Nat) (z : List Int) (root lone E : Int) (w : World) (h : Rd w w.heap.size A n (I64 z)) (hn : n ≤ 131072) (hE : ErrIs z root lone n E) :
    Calls Try.prog 11 #[.slice A n c, .int .i64 root, .int .i64 lone] w (NewRes w z root lone E) := by
  by_cases h0 : E = 0
  · obtain ⟨hg, he, h4, h5, h6⟩ : Good z ∧ n % 2 = 0 ∧ 0 ≤ lone ∧ RootOk root n ∧ lone ≤ 65536 := by
      rcases hE with ⟨h, _⟩ | ⟨h, _⟩ | ⟨h, _⟩ | ⟨_, h⟩
      · omega
      · omega
      · omega
      · exact h
    obtain ⟨l, b, rfl, hi⟩ := good_ofN hg
    subst h0
    exact (new_ok A n c l b root lone w h hi he hn h5 h4 h6).mono fun e w' ⟨g, he, hm, hb, hlo⟩ => ⟨_, he, hb, fun h => absurd rfl h, fun _ => ⟨g, l, b, rfl, rfl, hm, hlo⟩⟩
  · exact (new_no A n c z root lone E w h hn hE h0).mono fun e w' ⟨he, hb⟩ => ⟨none, he, hb, fun _ => rfl, fun h => absurd h h0⟩
set_option maxHeartbeats 8000000 in
theorem dartMakes_walk (A0 : Option Addr) (n0 c0 : Nat) (z0 : List Int) (root lone : Int) (w : World) (h0 : Rd w w.heap.size A0 n0 (I64 z0)) (hn0 : n0 ≤ c0) (hc0 : c0 ≤ maxLen) :
    Calls Try.prog 3 #[.slice A0 n0 c0, .int .i64 root, .int .i64 lone] w fun e w' => e = .returned (.bool true) ∧ Below w.heap.size w w' := by
  unfold maxLen at hc0
  have AW := Lib.hid (dawake_p w)
  obtain ⟨m, hm1, hm2, hmin⟩ : ∃ m : Nat, m ≤ n0 ∧ m ≤ 20 ∧ ∀ w, (Builtin.min_ #[3, 3] 3 #[.int .i64 (n0 : Int), .int .i64 20]).run Try.prog w = .ok (.int .i64 (m : Int)) w := by
    refine ⟨min n0 20, by omega, by omega, fun w => ?_⟩
    simp [Builtin.min_, Builtin.min2]
    repeat' split
    all_goals omega
  obtain ⟨z, hcut⟩ : ∃ z : List Int, Rd w w.heap.size A0 m (I64 z) := ⟨_, h0.cutI64 m hm1⟩
  have hzl : z.length = m := by have := hcut.len; rwa [I64_len] at this
  obtain ⟨E, hE⟩ := errIs_some z root lone m
  have HE := Lib.hid hE
  have HZL := Lib.hid hzl
  have HCUT := Lib.hid hcut
  have hmc : (m : Int) ≤ (c0 : Int) := by omega
  clear h0 hE hcut hzl
  go_enter Try.func3, Try.ntmps3
  go_wp2_with fail
  refine AW.out.mono ?_
  rintro e w1 ⟨rfl, b1⟩
  have C1 := Lib.hid (fun c' => cloneI_any A0 m c' _ z w1 (HCUT.out.below b1) (by omega))
  have B1 := Lib.hid b1
  clear b1 AW
  go_wp2_with fail
  refine (C1.out _).mono ?_
  rintro e w2 ⟨A1, c1, rfl, hc1, hm1', hown1, b2⟩
  rw [HZL.out] at hown1 hc1 ⊢
  have R2 := Lib.hid (Rd.ofOwn hown1)
  have B2 : Hid (Below w.heap.size w w2) := B1.out.trans (b2.mono B1.out.size)
  clear hown1 b2 B1 C1 HCUT hmin hmc
  have C2 := Lib.hid (cloneI_any A1 m c1 _ z w2 R2.out (by omega))
  go_wp2_with fail
  refine C2.out.mono ?_
  rintro e w3 ⟨A2, c2, rfl, hc2, hm2', hown2, b3⟩
  rw [HZL.out] at hown2 hc2 ⊢
  have NW := Lib.hid (new_p A2 m c2 z root lone E w3 (Rd.ofOwn hown2) (by omega) HE.out)
  have OW := Lib.hid hown2
  have hs23 := b3.size
  have R3 : Hid (Rd w3 w2.heap.size A1 m (I64 z)) := R2.out.below b3
  have B3 : Hid (Below w.heap.size w w3) := B2.out.trans (b3.mono B2.out.size)
  have HA2 : Hid (0 < m → ∃ q, A2 = some ⟨q, 0, none⟩ ∧ w2.heap.size ≤ q ∧ q < w3.heap.size) := fun h => own_some hown2 h
  have hs2 := B2.out.size
  clear hown2 b3 C2 R2 B2
  go_wp2_with fail
  refine NW.out.mono ?_
  rintro e w4 ⟨vp, rfl, b4, hd1, hd2⟩
  have OW4 := Lib.hid (own_below OW.out b4)
  have R4 : Hid (Rd w4 w2.heap.size A1 m (I64 z)) := R3.out.below (b4.mono hs23)
  have B4 : Hid (Below w.heap.size w w4) := B3.out.trans (b4.mono B3.out.size)
  have hs34 := b4.size
  have HD1 := Lib.hid hd1
  have HD2 := Lib.hid hd2
  clear b4 NW OW R3 B3 hd1 hd2
  generalize w3.heap.size = s3 at *
  generalize w2.heap.size = s2 at *
  go_wp2_with fail
  go_loopw [33] (fun i wr => ∃ (k : Nat) (ys : List Int), k ≤ m ∧ i = .int .i64 (k : Int) ∧ Hid (wr.ownsRow s2 3 1 (.slice A2 m c2) m (I64 ys)) ∧ Hid (Mod (fun i => s2 ≤ i ∧ i < s3) w4 wr)) (fun i _ => m - (intOf i).toNat)
  case atStart => exact ⟨0, z, by omega, rfl, OW4.out, Mod.refl _ _⟩
  case round =>
    obtain ⟨k, ys, hk, rfl, how, hmo⟩ := hrel
    by_cases hlt : k < m
    · obtain ⟨q, hq, hq1, hq2⟩ := HA2.out (by omega)
      subst hq
      have t1 := own_cellI how.out k hlt
      have f1 := how.out.frozenAt k
      have OS := Lib.hid (own_setI how.out k 0)
      generalize ys.getD k 0 = y at *
      go_wp2_with fail
      go_roundw
      case rel => exact ⟨k + 1, _, by omega, by go_num, OS.out, hmo.out.setCell (p := ⟨q, k, none⟩) (fun _ => ⟨hq1, hq2⟩) _⟩
      case measure => simp [intOf]; omega
    · obtain rfl : k = m := by omega
      have hb24 : Hid (Below s2 w4 wr) := hmo.out.belowB (by omega) fun i hi hf => by omega
      have R5 : Hid (Rd wr s2 A1 k (I64 z)) := R4.out.below hb24.out
      have B5 : Hid (Below w.heap.size w wr) := B4.out.trans (hb24.out.mono hs2)
      have hs5 : s2 ≤ wr.heap.size := by have := hmo.out.size; omega
      have ER := Lib.hid (err_p A1 k c1 z root lone E wr (R5.out.up hs5) (by omega) HE.out)
      by_cases hE0 : E = 0
      · obtain ⟨g, l, b, rfl, hzl, hmap, hlo⟩ := HD2.out hE0
        have hmap5 := hmap.mod hlo hmo.out (fun i hi => hi.2)
        have HM5 := Lib.hid hmap5
        have HZ := Lib.hid hzl
        subst hE0
        clear hmap hlo hmap5 hzl OW4 R4 B4 how HD1 HD2 hmo hb24 HA2
        go_wp2_with fail
        refine ER.out.mono ?_
        rintro e w6 ⟨rfl, rfl⟩
        have ML := Lib.hid (mlist_p g l b root lone wr HM5.out)
        go_wp2_with fail
        refine ML.out.mono ?_
        rintro e w6 ⟨A6, c6, rfl, hc6, hm6, hown6, b6⟩
        have hlk : (ofN l).length = k := by rw [← HZ.out, HZL.out]
        rw [hlk] at hown6 hc6 ⊢
        have HA6 : Hid (0 < k → ∃ q, A6 = some ⟨q, 0, none⟩ ∧ wr.heap.size ≤ q ∧ q < w6.heap.size) := fun h => own_some hown6 h
        have OW6 := Lib.hid hown6
        have B6 := Lib.hid b6
        have HLK : Hid (l.length = k) := by show _ = _; rw [← ofN_len]; exact hlk
        have hs6 := b6.size
        clear hown6 b6 hlk ER ML
        go_wp2_with fail
        obtain ⟨w5, hw5⟩ : ∃ w5, w5 = wr := ⟨wr, rfl⟩
        subst hw5
        go_loopw [57] (fun i wr => ∃ (j : Nat) (ys : List Int), j ≤ k ∧ i = .int .i64 (j : Int) ∧ Hid (wr.ownsRow w5.heap.size 3 1 (.slice A6 k c6) k (I64 ys)) ∧ Hid (Mod (fun i => w5.heap.size ≤ i ∧ i < w6.heap.size) w6 wr)) (fun i _ => k - (intOf i).toNat)
        case atStart => exact ⟨0, _, by omega, rfl, OW6.out, Mod.refl _ _⟩
        case round =>
          obtain ⟨j, ys, hj, rfl, how, hmo⟩ := hrel
          by_cases hjlt : j < k
          · obtain ⟨q, hq, hq1, hq2⟩ := HA6.out (by omega)
            subst hq
            have t1 := own_cellI how.out j hjlt
            have f1 := how.out.frozenAt j
            have OS := Lib.hid (own_setI how.out j 0)
            generalize ys.getD j 0 = y at *
            go_wp2_with fail
            go_roundw
            case rel => exact ⟨j + 1, _, by omega, by go_num, OS.out, hmo.out.setCell (p := ⟨q, j, none⟩) (fun _ => ⟨hq1, hq2⟩) _⟩
            case measure => simp [intOf]; omega
          · obtain rfl : j = k := by omega
            have b56 : Below w5.heap.size w5 wr := B6.out.trans (hmo.out.belowB hs6 fun i hi hf => by omega)
            have HM7 := Lib.hid (HM5.out.below b56)
            have R7 : Hid (Rd wr s2 A1 j (I64 z)) := R5.out.below (b56.mono hs5)
            have B7 : Hid (Below w.heap.size w wr) := B5.out.trans (b56.mono B5.out.size)
            have hs7 : s2 ≤ wr.heap.size := Nat.le_trans hs5 b56.size
            clear OW6 how hmo b56 HA6 B6 HM5 R5 B5
            have ML2 := Lib.hid (mlist_p g l b root lone wr HM7.out)
            go_wp2_with fail
            refine ML2.out.mono ?_
            rintro e w8 ⟨A8, c8, rfl, hc8, hm8, hown8, b8⟩
            rw [ofN_len, HLK.out] at hown8 hc8 ⊢
            have EQ := equalI_any A8 A1 j c8 j c1 _ _ (ofN l) z w8 (Rd.ofOwn hown8) (R7.out.below (b8.mono hs7)) (by omega) (by omega)
            rw [decide_eq_true HZ.out.symm] at EQ
            have EQH := Lib.hid EQ
            have HM8 := Lib.hid (HM7.out.below b8)
            have B8 : Hid (Below w.heap.size w w8) := B7.out.trans (b8.mono B7.out.size)
            clear EQ hown8 b8 ML2 HM7 R7 B7
            go_wp2_with fail
            refine EQH.out.mono ?_
            rintro e w9 ⟨rfl, dd, rfl⟩
            have HM9 := Lib.hid (HM8.out.below (below_draws (Below.refl _ _) dd))
            have B9 : Hid (Below w.heap.size w (w8.drewN dd)) := below_draws B8.out dd
            generalize w8.drewN dd = w9 at *
            clear EQH HM8 B8
            go_wp2_with fail
            refine (root_p g l b root lone w9 HM9.out).mono ?_
            rintro e w10 ⟨rfl, rfl⟩
            go_wp2_with fail
            refine (lone_p g l b root lone w9 HM9.out).mono ?_
            rintro e w10 ⟨rfl, rfl⟩
            go_wp2_with fail
            refine (darts_p g l b root lone w9 HM9.out).mono ?_
            rintro e w10 ⟨rfl, b10⟩
            rw [HLK.out]
            have ED := edges_p g l b root lone w10 (HM9.out.below b10)
            rw [HLK.out] at ED
            have EDH := Lib.hid ED
            have B10 : Hid (Below w.heap.size w w10) := B9.out.trans (b10.mono B9.out.size)
            have hj2 : (j : Int) / 2 = ((j / 2 : Nat) : Int) := by omega
            obtain ⟨jh, hjh⟩ : ∃ jh, jh = j / 2 := ⟨_, rfl⟩
            rw [← hjh] at hj2 EDH
            clear ED b10 hjh
            go_wp2_with fail
            refine EDH.out.mono ?_
            rintro e w11 ⟨rfl, b11⟩
            go_wp2_with fail
            go_ret
            exact ⟨rfl, B10.out.trans (b11.mono B10.out.size)⟩
      · have hvp := HD1.out hE0
        subst hvp
        have hE1 : (E != 0) = true := by rw [bne_iff_ne]; exact hE0
        clear OW4 R4 B4 how HD1 HD2 hmo hb24 HA2 hE0
        go_wp2_with fail
        refine ER.out.mono ?_
        rintro e w6 ⟨rfl, rfl⟩
        go_wp2_with fail
        go_ret
        exact ⟨rfl, B5.out⟩
end Go.Proofs.Ytafgjfdbmijgcaa
