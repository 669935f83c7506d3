/- over: the node of blocks in a row. -/
import Derived.Test.YtdpejjokdncfnaaDoorQFind
import Derived.Deep.RegionWith
import Derived.Deep.DeepCutAuto
namespace Go.Proofs.YtdpejjokdncfnaaDoor
open Go.RowKit
set_option linter.unusedVariables false
set_option maxRecDepth 20000
/-- Two nodes of as high above the leaves: where they begin. -/
def Pos2 (H x y k a b : Nat) : Prop := x * 2 ^ k = 2 ^ H + a ∧ y * 2 ^ k = 2 ^ H + b ∧ b ≤ 2 ^ H
theorem Pos2.le {H x y k a b : Nat} (h : Pos2 H x y k a b) : (x ≤ y ↔ a ≤ b) ∧ (x < y ↔ a < b) := by
  obtain ⟨h1, h2, _⟩ := h
  have hp : 0 < 2 ^ k := Nat.two_pow_pos k
  constructor
  · constructor
    · intro h; have := Nat.mul_le_mul_right (2 ^ k) h; omega
    · intro h
      rcases Nat.lt_or_ge y x with g | g
      · have := Nat.mul_lt_mul_of_pos_right g hp; omega
      · exact g
  · constructor
    · intro h; have := Nat.mul_lt_mul_of_pos_right h hp; omega
    · intro h
      rcases Nat.lt_or_ge x y with g | g
      · exact g
      · have := Nat.mul_le_mul_right (2 ^ k) g; omega
theorem Pos2.hang {H x y k a b : Nat} (h : Pos2 H x y k a b) (hab : a < b) : Hang H x k a := by
  refine ⟨h.1, ?_, by have := h.2.2; omega⟩
  rcases Nat.lt_or_ge H k with g | g
  · exfalso
    have h1 := h.1
    have h3 := h.2.2
    have h4 : 2 ^ (H + 1) ≤ 2 ^ k := Nat.pow_le_pow_right (by omega) g
    rw [pow_up] at h4
    have hp : 0 < 2 ^ H := Nat.two_pow_pos H
    rcases Nat.eq_zero_or_pos x with e | e
    · subst e; omega
    · have := Nat.mul_le_mul_right (2 ^ k) e; omega
  · exact g
theorem Pos2.right {H x y k a b : Nat} (h : Pos2 H x y k a b) (hxy : x < y) : Pos2 H (x + 1) y k (a + 2 ^ k) b ∧ a + 2 ^ k ≤ b := by
  have h' : Pos2 H (x + 1) y k (a + 2 ^ k) b := ⟨by rw [Nat.add_mul, h.1]; omega, h.2.1, h.2.2⟩
  exact ⟨h', h'.le.1.1 hxy⟩
theorem Pos2.left {H x y k a b : Nat} (h : Pos2 H x y k a b) (hxy : x < y) : ∃ b', b' + 2 ^ k = b ∧ Pos2 H x (y - 1) k a b' ∧ a ≤ b' ∧ Hang H (y - 1) k b' := by
  have hp : 0 < 2 ^ k := Nat.two_pow_pos k
  obtain ⟨y', rfl⟩ : ∃ y', y = y' + 1 := ⟨y - 1, by omega⟩
  have h1 := h.1
  have h2 := h.2.1
  have h3 := h.2.2
  rw [Nat.add_mul, Nat.one_mul] at h2
  have h4 := Nat.mul_le_mul_right (2 ^ k) (show x ≤ y' by omega)
  have hk := (h.hang (h.le.2.1 hxy)).2.1
  rw [Nat.add_sub_cancel]
  refine ⟨b - 2 ^ k, by omega, ⟨h1, by omega, by omega⟩, by omega, by omega, hk, by omega⟩
theorem Pos2.up {H x y k a b : Nat} (h : Pos2 H (2 * x) (2 * y) k a b) : Pos2 H x y (k + 1) a b := by
  refine ⟨?_, ?_, h.2.2⟩
  · rw [pow_up, Nat.mul_left_comm, ← Nat.mul_assoc]; exact h.1
  · rw [pow_up, Nat.mul_left_comm, ← Nat.mul_assoc]; exact h.2.1
def OverP (w : World) (E : Nat → Int) (n f t : Nat) (e : Ending) (w' : World) : Prop := e = .returned (ndv (nd E n f t)) ∧ Below w.heap.size w w'
/-- What stands in memory at the head of a round. -/
structure OSt (w wr : World) (g7 g8 : Nat) (u v : Int × Int) : Prop where
  b6 : Blk wr w.heap.size 82 #[.int .i32 0, .int .i32 0]
  b7 : Blk wr g7 82 #[.int .i32 u.1, .int .i32 u.2]
  b8 : Blk wr g8 82 #[.int .i32 v.1, .int .i32 v.2]
  ne : g7 ≠ g8
  l7 : w.heap.size < g7
  l8 : w.heap.size < g8
  bel : Below w.heap.size w wr
theorem OSt.below {w wr w' : World} {g7 g8 : Nat} {u v : Int × Int} (h : OSt w wr g7 g8 u v) (m : Below wr.heap.size wr w') : OSt w w' g7 g8 u v :=
  ⟨h.b6.below m, h.b7.below m, h.b8.below m, h.ne, h.l7, h.l8, h.bel.trans (m.mono h.bel.size)⟩
theorem OSt.set7 {w wr : World} {g7 g8 : Nat} {u v : Int × Int} (h : OSt w wr g7 g8 u v) (s l : Int) : OSt w ((wr.setCell ⟨g7, 0, none⟩ (.int .i32 s)).setCell ⟨g7, 1, none⟩ (.int .i32 l)) g7 g8 (s, l) v := by
  have m : Mod (fun i => i = g7) wr ((wr.setCell ⟨g7, 0, none⟩ (.int .i32 s)).setCell ⟨g7, 1, none⟩ (.int .i32 l)) := Mod.setCell (p := ⟨g7, 1, none⟩) (Mod.setCell (p := ⟨g7, 0, none⟩) (Mod.refl (fun i => i = g7) wr) (fun _ => rfl) _) (fun _ => rfl) _
  refine ⟨h.b6.mod m (by have := h.l7; omega), ?_, h.b8.mod m (by have := h.ne; omega), h.ne, h.l7, h.l8, (h.bel.setCell (Nat.le_of_lt h.l7) _).setCell (Nat.le_of_lt h.l7) _⟩
  have := (h.b7.set_ 0 (.int .i32 s)).set_ 1 (.int .i32 l)
  simpa using this
theorem OSt.set8 {w wr : World} {g7 g8 : Nat} {u v : Int × Int} (h : OSt w wr g7 g8 u v) (s l : Int) : OSt w ((wr.setCell ⟨g8, 0, none⟩ (.int .i32 s)).setCell ⟨g8, 1, none⟩ (.int .i32 l)) g7 g8 u (s, l) := by
  have m : Mod (fun i => i = g8) wr ((wr.setCell ⟨g8, 0, none⟩ (.int .i32 s)).setCell ⟨g8, 1, none⟩ (.int .i32 l)) := Mod.setCell (p := ⟨g8, 1, none⟩) (Mod.setCell (p := ⟨g8, 0, none⟩) (Mod.refl (fun i => i = g8) wr) (fun _ => rfl) _) (fun _ => rfl) _
  refine ⟨h.b6.mod m (by have := h.l8; omega), h.b7.mod m (by have := h.ne; omega), ?_, h.ne, h.l7, h.l8, (h.bel.setCell (Nat.le_of_lt h.l8) _).setCell (Nat.le_of_lt h.l8) _⟩
  have := (h.b8.set_ 0 (.int .i32 s)).set_ 1 (.int .i32 l)
  simpa using this
theorem ost0 (w : World) (g7 g8 : Nat) (h : g7 = w.heap.size + 1 ∧ g8 = w.heap.size + 1 + 1 ∨ g7 = w.heap.size + 1 + 1 ∧ g8 = w.heap.size + 1) :
    OSt w (((w.alloc (.cells #[.int .i32 0, .int .i32 0] 82)).alloc (.cells #[.int .i32 0, .int .i32 2147483647] 82)).alloc (.cells #[.int .i32 0, .int .i32 2147483647] 82)).drew g7 g8 nul nul := by
  have b6 := ((Blk.new w 82 #[.int .i32 0, .int .i32 0]).alloc (.cells #[.int .i32 0, .int .i32 2147483647] 82)).alloc (.cells #[.int .i32 0, .int .i32 2147483647] 82)
  have b7 := (Blk.new (w.alloc (.cells #[.int .i32 0, .int .i32 0] 82)) 82 #[.int .i32 0, .int .i32 2147483647]).alloc (.cells #[.int .i32 0, .int .i32 2147483647] 82)
  have b8 := blk_new3 w (.cells #[.int .i32 0, .int .i32 0] 82) (.cells #[.int .i32 0, .int .i32 2147483647] 82) 82 #[.int .i32 0, .int .i32 2147483647]
  rw [World.size_alloc] at b7
  have hb : Below w.heap.size w (((w.alloc (.cells #[.int .i32 0, .int .i32 0] 82)).alloc (.cells #[.int .i32 0, .int .i32 2147483647] 82)).alloc (.cells #[.int .i32 0, .int .i32 2147483647] 82)).drew := ((((Below.refl _ _).alloc (Nat.le_refl _) _).alloc (by simp) _).alloc (by simp; omega) _).trans (Below.refl _ _).drew
  rcases h with ⟨rfl, rfl⟩ | ⟨rfl, rfl⟩
  · exact ⟨b6.drewN 1, b7.drewN 1, b8.drewN 1, by omega, by omega, by omega, hb⟩
  · exact ⟨b6.drewN 1, b8.drewN 1, b7.drewN 1, by omega, by omega, by omega, hb⟩
set_option maxHeartbeats 8000000 in
theorem over_p (w : World) (E : Nat → Int) (hE : Exc E) (hN : Nul w) (n S H M : Nat) (T : Nat → Int × Int) (h : TrAt w E n S H M T) (hn : n ≤ 1000000) (c f t : Nat) (hf : f ≤ 100000) (ht : 512 * t ≤ n) :
    Calls Tryd.prog 36 #[.slice (some ⟨S, 0, none⟩) M c, .int .i64 (f : Int), .int .i64 (t : Int)] w (OverP w E n f t) := by
  have HE := Lib.hid hE
  have hM := h.hM
  have hL9 := h.lv.le (by omega)
  have hBL := h.lv.1
  have htL : t ≤ 2 ^ H := by omega
  have LF := Lib.hid fun w' k (hk : k ≤ 100000) => leafk_p w' (some ⟨S, 0, none⟩) M c (2 ^ H) k hM (by omega) hk
  have AT := Lib.hid fun w' (b' : Below w.heap.size w w') x k a (hx : Hang H x k a) => node_p hE (h.below b') hn c x k a hx
  have JN := Lib.hid fun w' (b' : Below w.heap.size w w') a b (ha : Fits a) (hb : Fits b) => join_p w' a b (hN.bel b') ha hb
  have hz := hN.lt
  have n0 := hN.s
  have n1 := hN.l
  have HINF := Lib.hid info_node
  have hp0 : 0 < 2 ^ H := Nat.two_pow_pos H
  have P0 : Hid (Pos2 H (2 ^ H + f) (2 ^ H + t) 0 f t) := ⟨by rw [Nat.pow_zero, Nat.mul_one], by rw [Nat.pow_zero, Nat.mul_one], htL⟩
  clear h hE hN
  generalize hPL : 2 ^ H = L at *
  have HPL := Lib.hid hPL
  clear hPL
  go_enter Tryd.func36, Tryd.ntmps36
  go_upto_region 1 with fail
  go_cut [7, 8] from 11 to 12 (fun s s' wx => ∃ g7 g8, s = .pointer (some ⟨g7, 0, none⟩) ∧ s' = .pointer (some ⟨g8, 0, none⟩) ∧ Hid (OSt w wx g7 g8 nul nul))
  case first =>
    go_region
    all_goals (
      go_wp2_with fail
      go_meet
      first
        | exact ⟨_, _, rfl, rfl, ost0 w _ _ (.inl ⟨rfl, rfl⟩)⟩
        | exact ⟨_, _, rfl, rfl, ost0 w _ _ (.inr ⟨rfl, rfl⟩)⟩)
  case rest =>
    obtain ⟨g7, g8, rfl, rfl, hst⟩ := hcut
    have L1 := Lib.hid fun w' => LF.out w' f hf
    have L2 := Lib.hid fun w' => LF.out w' t (by omega)
    clear n0 n1 hz
    by_cases hft : f ≤ t
    · go_wp2_with (first
        | (go_at_call 55; (with_reducible refine (L1.out _).mono ?_); rintro e w' ⟨rfl, rfl⟩)
        | (go_at_call 55; (with_reducible refine (L2.out _).mono ?_); rintro e w' ⟨rfl, rfl⟩))
      go_loopw [9, 10] (fun z v wr => ∃ (x y k a b : Nat) (s0 l0 s1 l1 : Int), z = .int .i64 (x : Int) ∧ v = .int .i64 (y : Int) ∧ f ≤ a ∧ a ≤ b ∧ b ≤ t ∧ y ≤ 2 * L ∧ Hid (Pos2 H x y k a b) ∧ Hid (nd E n f a = (s0, l0)) ∧ Hid (nd E n b t = (s1, l1)) ∧ Hid (OSt w wr g7 g8 (s0, l0) (s1, l1))) (fun _ v _ => (intOf v).toNat)
      case atStart => exact ⟨L + f, L + t, 0, f, t, 0, 2147483647, 0, 2147483647, by go_num, by go_num, by omega, by omega, by omega, by omega, P0.out, nd_nul (.inr (Nat.le_refl _)), nd_nul (.inr (Nat.le_refl _)), hst.out⟩
      case round =>
        clear hst P0
        obtain ⟨x, y, k, a, b, s0, l0, s1, l1, rfl, rfl, hfa, hab, hbt, hy9, hps, HU, HV, hst⟩ := hrel
        have hxy0 := hps.out.le
        by_cases hlt : x < y
        · have hltab := hxy0.2.1 hlt
          by_cases hox : x % 2 = 1
          · have ex : (x : Int) % 2 = 1 := by omega
            obtain ⟨hpr, hle⟩ := hps.out.right hlt
            have hgx := hps.out.hang hltab
            obtain ⟨⟨s2, l2⟩, hn2⟩ : ∃ u, nd E n f (a + 2 ^ k) = u := ⟨_, rfl⟩
            have hj := nd_join E n f a (a + 2 ^ k) hfa (Nat.le_add_right _ _)
            rw [HU.out, hn2] at hj
            have F1 := Lib.hid (nd_fits HE.out hn a (a + 2 ^ k))
            have F2 := Lib.hid (nd_fits HE.out hn f a)
            rw [HU.out] at F2
            have A1 := Lib.hid fun w' b => AT.out w' b x k a hgx
            have J1 : Hid (∀ w', Below w.heap.size w w' → Calls Tryd.prog 56 #[.agg #[.int .i32 s0, .int .i32 l0], ndv (nd E n a (a + 2 ^ k))] w' fun e w'' => e = .returned (.agg #[.int .i32 s2, .int .i32 l2]) ∧ Below w'.heap.size w' w'') := fun w' b => by
              have := JN.out w' b (s0, l0) _ F2.out F1.out
              rw [hj] at this
              exact this
            have HN2 := Lib.hid hn2
            have PR := Lib.hid hpr
            have hpk : 0 < 2 ^ k := Nat.two_pow_pos k
            generalize nd E n a (a + 2 ^ k) = pa at *
            obtain ⟨a1, ha1⟩ : ∃ a1, a + 2 ^ k = a1 := ⟨_, rfl⟩
            rw [ha1] at hle HN2 PR
            have hfa1 : f ≤ a1 := by omega
            clear hpr hgx hn2 hj F1 F2 ha1 hpk hxy0
            go_upto_region 6 with fail
            have EX := Lib.hid ex
            clear ex
            have c70 : wr.cell? ⟨g7, 0, none⟩ = some (.int .i32 s0) := hst.out.b7.cell 0
            have c71 : wr.cell? ⟨g7, 1, none⟩ = some (.int .i32 l0) := hst.out.b7.cell 1
            have f70 := hst.out.b7.frozen 0
            have f71 := hst.out.b7.frozen 1
            have hg7 : g7 < wr.heap.size := hst.out.b7.lt
            go_cut [33] from 29 to 33 (fun s wx => s = .agg #[.int .i32 s2, .int .i32 l2] ∧ Hid (OSt w wx g7 g8 (s2, l2) (s1, l1)))
            case first =>
              go_region_with (first
                | (go_at_call 57
                   refine (A1.out _ (hst.out.below (Below.refl _ _).drew).bel).mono ?_
                   rintro e w5 ⟨rfl, b5⟩
                   have o5 := (hst.out.below (Below.refl _ _).drew).below b5
                   have d70 : w5.cell? ⟨g7, 0, none⟩ = some (.int .i32 s0) := o5.b7.cell 0
                   have d71 : w5.cell? ⟨g7, 1, none⟩ = some (.int .i32 l0) := o5.b7.cell 1
                   have O5 := Lib.hid o5
                   clear b5 o5)
                | (go_at_call 56
                   refine (J1.out _ O5.out.bel).mono ?_
                   rintro e w6 ⟨rfl, b6⟩
                   have o6 := O5.out.below b6
                   have f60 := o6.b7.frozen 0
                   have f61 := o6.b7.frozen 1
                   have d70' : w6.cell? ⟨g7, 0, none⟩ = some (.int .i32 s0) := o6.b7.cell 0
                   have d71' : w6.cell? ⟨g7, 1, none⟩ = some (.int .i32 l0) := o6.b7.cell 1
                   have O6 := Lib.hid o6
                   clear b6 o6))
              all_goals (
                go_wp2_with fail
                go_meet
                exact ⟨rfl, O6.out.set7 s2 l2⟩)
            case rest =>
              obtain ⟨rfl, hstx⟩ := hcut
              clear c70 c71 f70 f71 hg7 A1 J1
              have hx1y : x + 1 ≤ y := by omega
              have ex := EX.out
              by_cases hoy : y % 2 = 1
              · have ey : (y : Int) % 2 = 1 := by omega
                obtain ⟨b', hb', hpl, hab', hgl⟩ := PR.out.left (by omega)
                have HB' := Lib.hid hb'
                obtain ⟨⟨s3, l3⟩, hn3⟩ : ∃ u, nd E n b' t = u := ⟨_, rfl⟩
                have hj := nd_join E n b' b t (by rw [← hb']; exact Nat.le_add_right _ _) (by omega)
                rw [HV.out, hn3] at hj
                have F1 := Lib.hid (nd_fits HE.out hn b' b)
                have F2 := Lib.hid (nd_fits HE.out hn b t)
                rw [HV.out] at F2
                have A1 := Lib.hid fun w' b => AT.out w' b (y - 1) k b' hgl
                rw [hb'] at A1
                have J1 : Hid (∀ w', Below w.heap.size w w' → Calls Tryd.prog 56 #[ndv (nd E n b' b), .agg #[.int .i32 s1, .int .i32 l1]] w' fun e w'' => e = .returned (.agg #[.int .i32 s3, .int .i32 l3]) ∧ Below w'.heap.size w' w'') := fun w' b => by
                  have := JN.out w' b _ (s1, l1) F1.out F2.out
                  rw [hj] at this
                  exact this
                have HN3 := Lib.hid hn3
                have PL := Lib.hid hpl
                have hy1 : 1 ≤ y := by omega
                have ey1 : ((y - 1 : Nat) : Int) = (y : Int) - 1 := by omega
                rw [ey1] at A1
                have hbb : b' ≤ b := by rw [← hb']; exact Nat.le_add_right _ _
                generalize nd E n b' b = pb at *
                clear hb' hpl hgl hn3 hj F1 F2 hoy HB'
                go_upto_region 10 with fail
                have EY := Lib.hid ey
                clear ey
                have c80 : wc.cell? ⟨g8, 0, none⟩ = some (.int .i32 s1) := hstx.out.b8.cell 0
                have c81 : wc.cell? ⟨g8, 1, none⟩ = some (.int .i32 l1) := hstx.out.b8.cell 1
                have f80 := hstx.out.b8.frozen 0
                have f81 := hstx.out.b8.frozen 1
                have hg8 : g8 < wc.heap.size := hstx.out.b8.lt
                have PU : Hid (Pos2 H ((x + 1) / 2) ((y - 1) / 2) (k + 1) a1 b') := Pos2.up (by rw [show 2 * ((x + 1) / 2) = (x + 1) by omega, show 2 * ((y - 1) / 2) = y - 1 by have := EY.out; omega]; exact PL.out)
                go_region_with (first
                  | (go_at_call 57
                     refine (A1.out _ (hstx.out.below (Below.refl _ _).drew).bel).mono ?_
                     rintro e w5 ⟨rfl, b5⟩
                     have o5 := (hstx.out.below (Below.refl _ _).drew).below b5
                     have d80 : w5.cell? ⟨g8, 0, none⟩ = some (.int .i32 s1) := o5.b8.cell 0
                     have d81 : w5.cell? ⟨g8, 1, none⟩ = some (.int .i32 l1) := o5.b8.cell 1
                     have O5 := Lib.hid o5
                     clear b5 o5)
                  | (go_at_call 56
                     refine (J1.out _ O5.out.bel).mono ?_
                     rintro e w6 ⟨rfl, b6⟩
                     have o6 := O5.out.below b6
                     have f60 := o6.b8.frozen 0
                     have f61 := o6.b8.frozen 1
                     have d80' : w6.cell? ⟨g8, 0, none⟩ = some (.int .i32 s1) := o6.b8.cell 0
                     have d81' : w6.cell? ⟨g8, 1, none⟩ = some (.int .i32 l1) := o6.b8.cell 1
                     have O6 := Lib.hid o6
                     clear b6 o6))
                all_goals (
                  go_wp2_with fail
                  go_roundw
                  case rel => exact ⟨(x + 1) / 2, (y - 1) / 2, k + 1, a1, b', s2, l2, s3, l3, congrArg (Value.int .i64) (by omega), congrArg (Value.int .i64) (by omega), by omega, by omega, by omega, by omega, PU.out, HN2.out, HN3.out, (O6.out.set8 s3 l3)⟩
                  case measure => simp [intOf]; omega)
              · have ey : (y : Int) % 2 = 0 := by omega
                have PU : Hid (Pos2 H ((x + 1) / 2) (y / 2) (k + 1) a1 b) := Pos2.up (by rw [show 2 * ((x + 1) / 2) = (x + 1) by omega, show 2 * (y / 2) = y by omega]; exact PR.out)
                go_wp2_with fail
                go_roundw
                case rel => exact ⟨(x + 1) / 2, y / 2, k + 1, a1, b, s2, l2, s1, l1, congrArg (Value.int .i64) (by omega), congrArg (Value.int .i64) (by omega), by omega, by omega, by omega, by omega, PU.out, HN2.out, HV.out, hstx.out⟩
                case measure => simp [intOf]; omega
          · have ex : (x : Int) % 2 = 0 := by omega
            clear hxy0
            by_cases hoy : y % 2 = 1
            · have ey : (y : Int) % 2 = 1 := by omega
              obtain ⟨b', hb', hpl, hab', hgl⟩ := hps.out.left (by omega)
              have HB' := Lib.hid hb'
              obtain ⟨⟨s3, l3⟩, hn3⟩ : ∃ u, nd E n b' t = u := ⟨_, rfl⟩
              have hj := nd_join E n b' b t (by rw [← hb']; exact Nat.le_add_right _ _) (by omega)
              rw [HV.out, hn3] at hj
              have F1 := Lib.hid (nd_fits HE.out hn b' b)
              have F2 := Lib.hid (nd_fits HE.out hn b t)
              rw [HV.out] at F2
              have A1 := Lib.hid fun w' b => AT.out w' b (y - 1) k b' hgl
              rw [hb'] at A1
              have J1 : Hid (∀ w', Below w.heap.size w w' → Calls Tryd.prog 56 #[ndv (nd E n b' b), .agg #[.int .i32 s1, .int .i32 l1]] w' fun e w'' => e = .returned (.agg #[.int .i32 s3, .int .i32 l3]) ∧ Below w'.heap.size w' w'') := fun w' b => by
                have := JN.out w' b _ (s1, l1) F1.out F2.out
                rw [hj] at this
                exact this
              have HN3 := Lib.hid hn3
              have PL := Lib.hid hpl
              have hy1 : 1 ≤ y := by omega
              have ey1 : ((y - 1 : Nat) : Int) = (y : Int) - 1 := by omega
              rw [ey1] at A1
              have hbb : b' ≤ b := by rw [← hb']; exact Nat.le_add_right _ _
              generalize nd E n b' b = pb at *
              clear hb' hpl hgl hn3 hj F1 F2 hoy HB'
              go_upto_region 10 with fail
              have EY := Lib.hid ey
              clear ey
              have c80 : wr.cell? ⟨g8, 0, none⟩ = some (.int .i32 s1) := hst.out.b8.cell 0
              have c81 : wr.cell? ⟨g8, 1, none⟩ = some (.int .i32 l1) := hst.out.b8.cell 1
              have f80 := hst.out.b8.frozen 0
              have f81 := hst.out.b8.frozen 1
              have hg8 : g8 < wr.heap.size := hst.out.b8.lt
              have PU : Hid (Pos2 H (x / 2) ((y - 1) / 2) (k + 1) a b') := Pos2.up (by rw [show 2 * (x / 2) = x by omega, show 2 * ((y - 1) / 2) = y - 1 by have := EY.out; omega]; exact PL.out)
              go_region_with (first
                | (go_at_call 57
                   refine (A1.out _ (hst.out.below (Below.refl _ _).drew).bel).mono ?_
                   rintro e w5 ⟨rfl, b5⟩
                   have o5 := (hst.out.below (Below.refl _ _).drew).below b5
                   have d80 : w5.cell? ⟨g8, 0, none⟩ = some (.int .i32 s1) := o5.b8.cell 0
                   have d81 : w5.cell? ⟨g8, 1, none⟩ = some (.int .i32 l1) := o5.b8.cell 1
                   have O5 := Lib.hid o5
                   clear b5 o5)
                | (go_at_call 56
                   refine (J1.out _ O5.out.bel).mono ?_
                   rintro e w6 ⟨rfl, b6⟩
                   have o6 := O5.out.below b6
                   have f60 := o6.b8.frozen 0
                   have f61 := o6.b8.frozen 1
                   have d80' : w6.cell? ⟨g8, 0, none⟩ = some (.int .i32 s1) := o6.b8.cell 0
                   have d81' : w6.cell? ⟨g8, 1, none⟩ = some (.int .i32 l1) := o6.b8.cell 1
                   have O6 := Lib.hid o6
                   clear b6 o6))
              all_goals (
                go_wp2_with fail
                go_roundw
                case rel => exact ⟨x / 2, (y - 1) / 2, k + 1, a, b', s0, l0, s3, l3, congrArg (Value.int .i64) (by omega), congrArg (Value.int .i64) (by omega), by omega, by omega, by omega, by omega, PU.out, HU.out, HN3.out, (O6.out.set8 s3 l3)⟩
                case measure => simp [intOf]; omega)
            · have ey : (y : Int) % 2 = 0 := by omega
              have PU : Hid (Pos2 H (x / 2) (y / 2) (k + 1) a b) := Pos2.up (by rw [show 2 * (x / 2) = x by omega, show 2 * (y / 2) = y by omega]; exact hps.out)
              go_wp2_with fail
              go_roundw
              case rel => exact ⟨x / 2, y / 2, k + 1, a, b, s0, l0, s1, l1, congrArg (Value.int .i64) (by omega), congrArg (Value.int .i64) (by omega), by omega, by omega, by omega, by omega, PU.out, HU.out, HV.out, hst.out⟩
              case measure => simp [intOf]; omega
        · obtain rfl : a = b := by
            rcases Nat.lt_or_ge a b with g | g
            · exact absurd (hxy0.2.2 g) hlt
            · omega
          have FIN : Hid (Calls Tryd.prog 56 #[.agg #[.int .i32 s0, .int .i32 l0], .agg #[.int .i32 s1, .int .i32 l1]] wr fun e w'' => e = .returned (ndv (nd E n f t)) ∧ Below wr.heap.size wr w'') := by
            have F1 := nd_fits HE.out hn f a
            have F2 := nd_fits HE.out hn a t
            rw [HU.out] at F1
            rw [HV.out] at F2
            have := JN.out wr hst.out.bel (s0, l0) (s1, l1) F1 F2
            rw [← HU.out, ← HV.out, nd_join E n f a t hfa hbt, HU.out, HV.out] at this
            exact this
          have c70 : wr.cell? ⟨g7, 0, none⟩ = some (.int .i32 s0) := hst.out.b7.cell 0
          have c71 : wr.cell? ⟨g7, 1, none⟩ = some (.int .i32 l0) := hst.out.b7.cell 1
          have c80 : wr.cell? ⟨g8, 0, none⟩ = some (.int .i32 s1) := hst.out.b8.cell 0
          have c81 : wr.cell? ⟨g8, 1, none⟩ = some (.int .i32 l1) := hst.out.b8.cell 1
          have hltb : decide ((x : Int) < (y : Int)) = false := decide_eq_false (by omega)
          clear hxy0
          go_wp2_with fail
          refine FIN.out.mono ?_
          rintro e w9 ⟨rfl, b9⟩
          have o9 := hst.out.below b9
          have d60 : w9.cell? ⟨w.heap.size, 0, none⟩ = some (.int .i32 0) := o9.b6.cell 0
          have d61 : w9.cell? ⟨w.heap.size, 1, none⟩ = some (.int .i32 0) := o9.b6.cell 1
          have f60 := o9.b6.frozen 0
          have f61 := o9.b6.frozen 1
          obtain ⟨⟨s9, l9⟩, hu9⟩ : ∃ u, nd E n f t = u := ⟨_, rfl⟩
          have OV : ∀ e w', (e = .returned (ndv (s9, l9)) ∧ Below w.heap.size w w') → OverP w E n f t e w' := fun e w' h => by unfold OverP; rw [hu9]; exact h
          rw [hu9]
          unfold ndv
          have O9 := Lib.hid o9
          have HOV := Lib.hid OV
          clear b9 o9 FIN c70 c71 c80 c81 hltb hu9 OV
          go_wp2_with fail
          have nb : Blk ((w9.setCell ⟨w.heap.size, 0, none⟩ (.int .i32 s9)).setCell ⟨w.heap.size, 1, none⟩ (.int .i32 l9)) w.heap.size 82 #[.int .i32 s9, .int .i32 l9] := by
            have := (O9.out.b6.set_ 0 (.int .i32 s9)).set_ 1 (.int .i32 l9)
            simpa using this
          refine bodyPost_ret (results_cell_row rfl _ _ w.heap.size 82 _ (0, 0) _ rfl nb Tryd.underlying82 rfl HINF.out) rfl ?_
          exact HOV.out _ _ ⟨rfl, (O9.out.bel.setCell (Nat.le_refl _) _).setCell (Nat.le_refl _) _⟩
    · have FIN : Hid (∀ wr, Below w.heap.size w wr → Calls Tryd.prog 56 #[.agg #[.int .i32 0, .int .i32 2147483647], .agg #[.int .i32 0, .int .i32 2147483647]] wr fun e w'' => e = .returned (ndv (nd E n f t)) ∧ Below wr.heap.size wr w'') := fun wr b => by
        have := JN.out wr b nul nul nul_fits nul_fits
        rw [show joinN nul nul = nul from rfl] at this
        rw [nd_nul (E := E) (n := n) (a := f) (b := t) (.inr (by omega))]
        exact this
      have c70 : wc.cell? ⟨g7, 0, none⟩ = some (.int .i32 0) := hst.out.b7.cell 0
      have c71 : wc.cell? ⟨g7, 1, none⟩ = some (.int .i32 2147483647) := hst.out.b7.cell 1
      have c80 : wc.cell? ⟨g8, 0, none⟩ = some (.int .i32 0) := hst.out.b8.cell 0
      have c81 : wc.cell? ⟨g8, 1, none⟩ = some (.int .i32 2147483647) := hst.out.b8.cell 1
      go_wp2_with (first
        | (go_at_call 55; (with_reducible refine (L1.out _).mono ?_); rintro e w' ⟨rfl, rfl⟩)
        | (go_at_call 55; (with_reducible refine (L2.out _).mono ?_); rintro e w' ⟨rfl, rfl⟩))
      go_loop [9, 10] (fun z v => ∃ x y : Nat, z = .int .i64 (x : Int) ∧ v = .int .i64 (y : Int) ∧ y < x) (fun _ _ => 0)
      case atStart => exact ⟨L + f, L + t, by go_num, by go_num, by omega⟩
      case round =>
        obtain ⟨x, y, rfl, rfl, hxy⟩ := hrel
        have hltb : decide ((x : Int) < (y : Int)) = false := decide_eq_false (by omega)
        go_wp2_with fail
        refine (FIN.out _ hst.out.bel).mono ?_
        rintro e w9 ⟨rfl, b9⟩
        have o9 := (hst.out.below b9)
        have d60 : w9.cell? ⟨w.heap.size, 0, none⟩ = some (.int .i32 0) := o9.b6.cell 0
        have d61 : w9.cell? ⟨w.heap.size, 1, none⟩ = some (.int .i32 0) := o9.b6.cell 1
        have f60 := o9.b6.frozen 0
        have f61 := o9.b6.frozen 1
        obtain ⟨⟨s9, l9⟩, hu9⟩ : ∃ u, nd E n f t = u := ⟨_, rfl⟩
        have OV : ∀ e w', (e = .returned (ndv (s9, l9)) ∧ Below w.heap.size w w') → OverP w E n f t e w' := fun e w' h => by unfold OverP; rw [hu9]; exact h
        rw [hu9]
        unfold ndv
        have O9 := Lib.hid o9
        have HOV := Lib.hid OV
        clear b9 o9 FIN c70 c71 c80 c81 hltb hu9 OV
        go_wp2_with fail
        have nb : Blk ((w9.setCell ⟨w.heap.size, 0, none⟩ (.int .i32 s9)).setCell ⟨w.heap.size, 1, none⟩ (.int .i32 l9)) w.heap.size 82 #[.int .i32 s9, .int .i32 l9] := by
          have := (O9.out.b6.set_ 0 (.int .i32 s9)).set_ 1 (.int .i32 l9)
          simpa using this
        refine bodyPost_ret (results_cell_row rfl _ _ w.heap.size 82 _ (0, 0) _ rfl nb Tryd.underlying82 rfl HINF.out) rfl ?_
        exact HOV.out _ _ ⟨rfl, (O9.out.bel.setCell (Nat.le_refl _) _).setCell (Nat.le_refl _) _⟩
end Go.Proofs.YtdpejjokdncfnaaDoor
