/- New: an index of the bits that a vector has now. -/
import Derived.Test.YtagpdpacaoianaaGreatDoorZg3
namespace Go.Proofs.YtagpdpacaoianaaGreatDoor
open Go.RowKit
set_option linter.unusedVariables false

theorem ones_vnil (w : World) :
    Calls Tryz.prog 78 #[.pointer none] w fun e w' => e = .returned (.int .i64 0) ∧ w = w' := by
  go_enter Tryz.func78, Tryz.ntmps78
  go_wp2
  go_ret
  exact ⟨rfl, rfl⟩
theorem wd_piece {V n k s : Nat} (h : V < 2 ^ n) (hs : s = min 64 (n - 64 * k)) (hk : 64 * k ≤ n) : V / 2 ^ (64 * k) % 2 ^ s = wd V k := by
  unfold wd
  by_cases h64 : 64 ≤ n - 64 * k
  · rw [hs, Nat.min_eq_left h64]
  · rw [hs, Nat.min_eq_right (by omega)]
    have hlt : V / 2 ^ (64 * k) < 2 ^ (n - 64 * k) := by
      rw [Nat.div_lt_iff_lt_mul (Nat.two_pow_pos _), ← Nat.pow_add]
      rwa [show n - 64 * k + 64 * k = n by omega]
    rw [Nat.mod_eq_of_lt hlt, Nat.mod_eq_of_lt (Nat.lt_of_lt_of_le hlt (Nat.pow_le_pow_right (by omega) (by omega)))]
theorem min_s (t : Nat) (ht : t ≤ 1000000) : ∀ w, (Builtin.min_ #[3, 3] 3 #[.int .i64 64, .int .i64 (t : Int)]).run Tryz.prog w = .ok (.int .i64 ((min 64 t : Nat) : Int)) w := fun w => by
  simp [Builtin.min_, Builtin.min2]
  repeat' split
  all_goals omega
def NewIdx (w : World) (V n : Nat) (e : Ending) (w' : World) : Prop :=
  ∃ g, e = .returned (.pointer (some ⟨g, 0, none⟩)) ∧ IdxAt w' g V n false 0 ∧ w.heap.size ≤ g ∧ Below w.heap.size w w'
theorem new_nil (w : World) : Calls Tryz.prog 49 #[.pointer none] w (NewIdx w 0 0) := by
  have hb := Blk.new w 111 #[.slice none 0 0, .int .i64 0, .int .i64 0, .int .u32 0, .int .i32 0, .int .u32 0, .slice none 0 0, .int .i64 0, .int .i64 0]
  have HB := Lib.hid hb
  clear hb
  go_enter Tryz.func49, Tryz.ntmps49
  go_wp2_with fail
  refine (blen_nil _).mono ?_
  rintro e w' ⟨rfl, rfl⟩
  go_wp2_with fail
  refine (ones_vnil _).mono ?_
  rintro e w' ⟨rfl, rfl⟩
  go_wp2_with fail
  refine (read_nil _).mono ?_
  rintro e w' ⟨rfl, rfl⟩
  go_wp2_with fail
  refine wp_loop_rounds 1 ?_
  rw [rounds_succ]
  go_wp2_with fail
  refine (left_nil _).mono ?_
  rintro e w' ⟨rfl, rfl⟩
  go_wp2_with fail
  go_ret
  exact ⟨w.heap.size, rfl, ⟨by decide, by omega, none, 0, .slice none 0 0, HB.out, World.ownsRow_nil _ _ _ _, rfl⟩, Nat.le_refl _, (Below.refl _ _).alloc (Nat.le_refl _) _⟩
set_option maxRecDepth 20000 in
set_option maxHeartbeats 4000000 in
theorem xnew_p (g V n B : Nat) (A : Option Addr) (w : World) (h : VecB w B g V n A) : Calls Tryz.prog 49 #[.pointer (some ⟨g, 0, none⟩)] w (NewIdx w V n) := by
  obtain ⟨i0, hi0, hz0, hz1, hz2⟩ := info_parts info_u64
  have hV := h.1
  have hn := h.2.1
  have LN := Lib.hid (blen_p g V n A w h)
  have ON := Lib.hid (ones_p g V n B A w h)
  have hbx := (Below.refl w.heap.size w).alloc (Nat.le_refl _) (.cells #[.slice none 0 0, .int .i64 (n : Int), .int .i64 ((pop V n : Nat) : Int), .int .u32 0, .int .i32 0, .int .u32 0, .slice none 0 0, .int .i64 0, .int .i64 0] 111)
  have RD := Lib.hid (read_p g V n B A _ (h.below hbx))
  have HB := Lib.hid (Blk.new w 111 #[.slice none 0 0, .int .i64 (n : Int), .int .i64 ((pop V n : Nat) : Int), .int .u32 0, .int .i32 0, .int .u32 0, .slice none 0 0, .int .i64 0, .int .i64 0])
  have HV := Lib.hid hV
  generalize hpv : pop V n = pv at *
  have HPV := Lib.hid hpv
  have HBX := Lib.hid hbx
  clear h hV hpv hbx
  go_enter Tryz.func49, Tryz.ntmps49
  go_wp2_with fail
  refine LN.out.mono ?_
  rintro e w' ⟨rfl, rfl⟩
  go_wp2_with fail
  refine ON.out.mono ?_
  rintro e w' ⟨rfl, rfl⟩
  go_wp2_with fail
  refine RD.out.mono ?_
  rintro e w2 ⟨r, rfl, hr, b2⟩
  generalize hw1 : w.alloc (.cells #[.slice none 0 0, .int .i64 (n : Int), .int .i64 (pv : Int), .int .u32 0, .int .i32 0, .int .u32 0, .slice none 0 0, .int .i64 0, .int .i64 0] 111) = w1 at *
  have hs1 : w1.heap.size = w.heap.size + 1 := by rw [← hw1]; simp
  have HB2 := Lib.hid (HB.out.below b2)
  have BW2 : Hid (Below w.heap.size w w2) := HBX.out.trans (b2.mono (by omega))
  obtain ⟨gr, Ar, hrg⟩ := hr.toG
  have HR2 := Lib.hid hrg
  have HFT : Hid (∀ i, foot gr Ar i → i < w2.heap.size) := fun i hi => hrg.2.2.2.2.2.1.foot_lt hi
  have hr2 : r < w2.heap.size := hrg.2.2.2.2.2.2.lt
  have hr1 : w1.heap.size ≤ r := hrg.2.1
  have hs2 : w1.heap.size ≤ w2.heap.size := b2.size
  obtain ⟨m, hm⟩ : ∃ m, m = (n + 63) / 64 := ⟨_, rfl⟩
  have HM := Lib.hid hm
  have hm9 : m ≤ 20000 := by omega
  clear LN ON RD HB HBX hr hrg b2 hw1 hm
  go_wp2_with fail
  go_loopw [5] (fun _ wr => ∃ (k ck : Nat) (Ak : Option Addr), k ≤ m ∧ Hid (Blk wr w.heap.size 111 #[.slice Ak k ck, .int .i64 (n : Int), .int .i64 (pv : Int), .int .u32 0, .int .i32 0, .int .u32 0, .slice none 0 0, .int .i64 0, .int .i64 0]) ∧
    Hid (wr.ownsRow w2.heap.size 72 1 (.slice Ak k ck) k (U64 (words V k))) ∧ Hid (ReadG wr w1.heap.size r V n (min (64 * k) n) gr Ar) ∧ Hid (Below w.heap.size w wr) ∧ w2.heap.size ≤ wr.heap.size) (fun _ wr => n - (intOf ((wr.cell? ⟨r, 1, none⟩).getD undef)).toNat)
  case atStart => exact ⟨0, 0, none, by omega, HB2.out, World.ownsRow_nil _ _ _ _, by show ReadG _ _ _ _ _ _ _ _; rw [Nat.mul_zero, Nat.zero_min]; exact HR2.out, BW2.out, Nat.le_refl _⟩
  case round =>
    obtain ⟨k, ck, Ak, hk, hb, ho, hr, hbl, hsw⟩ := hrel
    clear HB2 BW2 HR2
    have LF := Lib.hid (left_p w1.heap.size r V n (min (64 * k) n) wr hr.out.toAt)
    have hcr : wr.cell? ⟨r, 1, none⟩ = some (.int .i64 ((min (64 * k) n : Nat) : Int)) := hr.out.2.2.2.2.2.2.cell 1
    by_cases hlt : k < m
    · have h64 : 64 * k < n := by have := HM.out; omega
      have hmn : min (64 * k) n = 64 * k := by omega
      rw [hmn] at LF hcr hr
      obtain ⟨t, ht⟩ : ∃ t, t = n - 64 * k := ⟨_, rfl⟩
      rw [← ht] at LF
      have hmin := min_s t (by omega)
      obtain ⟨s, hs⟩ : ∃ s, s = min 64 t := ⟨_, rfl⟩
      rw [← hs] at hmin
      have hs1' : 1 ≤ s := by omega
      have hs64 : s ≤ 64 := by omega
      have RY : Hid (∀ w', ReadG w' w1.heap.size r V n (64 * k) gr Ar → Calls Tryz.prog 81 #[.pointer (some ⟨r, 0, none⟩), .int .i64 (s : Int)] w' fun e w'' => e = .returned (.tuple #[.int .u64 ((wd V k : Nat) : Int), .int .i64 0]) ∧ ReadG w'' w1.heap.size r V n (min (64 * (k + 1)) n) gr Ar ∧ Mod (fun i => i = r) w' w'') := fun w' h' => by
        have := rnum_g w1.heap.size r V n (64 * k) gr Ar (s : Int) w' h' (by omega) (by rw [cnt64_nat hs64]; omega)
        rw [cnt64_nat hs64, wd_piece HV.out (by rw [hs, ht]) (by omega), show 64 * k + s = min (64 * (k + 1)) n by omega] at this
        exact this
      have LF2 : Hid (∀ w', ReadG w' w1.heap.size r V n (64 * k) gr Ar → Calls Tryz.prog 80 #[.pointer (some ⟨r, 0, none⟩)] w' fun e w'' => e = .returned (.int .i64 (t : Int)) ∧ ∃ j, w'' = w'.drewN j) := fun w' h' => by
        have := left_p w1.heap.size r V n (64 * k) w' h'.toAt
        rwa [← ht] at this
      have htp : (0 : Int) < (t : Int) := by omega
      have HXD : Hid (n - (min (64 * (k + 1)) n) < n - 64 * k) := by show _ < _; omega
      have NX : Hid (U64 (words V k) ++ [Value.int .u64 ((wd V k : Nat) : Int)] = U64 (words V (k + 1))) := by
        show _ = _
        rw [words_next, U64_append]; rfl
      clear hs ht hmn LF
      generalize wd V k = x at *
      go_wp2_with fail
      refine (LF2.out _ hr.out).mono ?_
      rintro e w9 ⟨rfl, j, rfl⟩
      have B9 := Lib.hid (below_draws (Below.refl wr.heap.size wr) j)
      have R9 := Lib.hid (hr.out.below B9.out)
      have K9 := Lib.hid (hb.out.below B9.out)
      have O9 := Lib.hid (own_below ho.out B9.out)
      have hsz9 : w2.heap.size ≤ (wr.drewN j).heap.size := hsw
      have W9 : Hid (Below w.heap.size w (wr.drewN j)) := hbl.out.trans (B9.out.mono hbl.out.size)
      generalize wr.drewN j = w9 at *
      clear B9
      go_wp2_with fail
      refine (LF2.out _ R9.out).mono ?_
      rintro e w10 ⟨rfl, j2, rfl⟩
      have B10 := Lib.hid (below_draws (Below.refl w9.heap.size w9) j2)
      have R10 := Lib.hid (R9.out.below B10.out)
      have K10 := Lib.hid (K9.out.below B10.out)
      have O10 := Lib.hid (own_below O9.out B10.out)
      have hsz10 : w2.heap.size ≤ (w9.drewN j2).heap.size := hsz9
      have W10 : Hid (Below w.heap.size w (w9.drewN j2)) := W9.out.trans (B10.out.mono W9.out.size)
      generalize w9.drewN j2 = w10 at *
      clear B10 R9 K9 O9 W9
      go_wp2_with fail
      refine (RY.out _ R10.out).mono ?_
      rintro e w11 ⟨rfl, r11, m11⟩
      have R11 := Lib.hid r11
      have K11 := Lib.hid (K10.out.mod m11 (show ¬ w.heap.size = r by omega))
      have O11 := Lib.hid (own_mod O10.out m11 (fun i hi hx => by have := (O10.out.lt i hi).1; omega))
      have hsz11 : w2.heap.size ≤ w11.heap.size := Nat.le_trans hsz10 m11.size
      have W11 : Hid (Below w.heap.size w w11) := W10.out.trans (m11.belowB W10.out.size fun i hi hx => by omega)
      have c0 : w11.cell? ⟨w.heap.size, 0, none⟩ = some (.slice Ak k ck) := K11.out.cell 0
      have f0 := K11.out.frozen 0
      have hgl := K11.out.lt
      have hown3 := O11.out.alloc (.cells #[.int .u64 (x : Int)] 72)
      have r3 := Rd.new w11 72 #[.int .u64 (x : Int)] 1 [.int .u64 (x : Int)] (by simp) (by simp)
      have e1 : k + 1 ≤ maxLen := by simp only [maxLen]; omega
      have e2 : (k + 1) * 8 ≤ 140737488355328 := by omega
      have e3 : w2.heap.size ≤ (w11.alloc (.cells #[.int .u64 (x : Int)] 72)).heap.size := by simp; omega
      have h1s : ∀ u ∈ [Value.int .u64 (x : Int)], u.oneCell' = true := by intro u hu; simp at hu; subst hu; rfl
      clear r11 m11 R10 K10 O10 W10
      go_wp2_with (first
        | (at_builtin; go_must (refine wpList_append_rd _ rfl _ _ 89 rfl w2.heap.size 72 i0 (.int .u64 0) 8 Tryz.underlying89 hi0 hz0 hz1 hz2 rfl (.slice Ak k ck) k _ rfl hown3 (w11.heap.size + 1) (some ⟨w11.heap.size, 0, none⟩) 1 1 [.int .u64 (x : Int)] rfl r3 h1s e1 e2 e3 ?_)))
      intro A6 c6 w6 hc6 hm6 hown6 hg6 _
      have hgm := Mod.ofGrown hg6
      have hrow : Hid (∀ i, some i = (Value.slice Ak k ck).ownBlock → w2.heap.size ≤ i) := fun i hi => (hown3.lt i hi.symm).1
      have K6 := Lib.hid ((K11.out.alloc (.cells #[.int .u64 (x : Int)] 72)).mod hgm fun e => by have := hrow.out _ e; omega)
      have R6 : Hid (ReadG w6 w1.heap.size r V n (min (64 * (k + 1)) n) gr Ar) := by
        refine (R11.out.below ((Below.refl _ _).alloc (Nat.le_refl _) (.cells #[.int .u64 (x : Int)] 72))).mod hgm (fun e => ?_) fun i hi e => ?_
        · have := hrow.out _ e; omega
        · have := hrow.out _ e
          have := HFT.out i hi
          omega
      have d0 : w6.cell? ⟨w.heap.size, 0, none⟩ = some (.slice Ak k ck) := K6.out.cell 0
      have g0 := K6.out.frozen 0
      have O6 : Hid (w6.ownsRow w2.heap.size 72 1 (.slice A6 (k + 1) c6) (k + 1) (U64 (words V (k + 1)))) := by
        rw [← NX.out]; exact hown6
      have W6 : Hid (Below w.heap.size w w6) := (W11.out.alloc W11.out.size _).grown hg6 (by have := W11.out.size; simp; omega) (fun i hi => by have := hrow.out i hi.symm; omega)
      have hsz6 : w2.heap.size ≤ w6.heap.size := Nat.le_trans e3 hg6.size
      clear hown6 hg6 hgm hown3 r3 h1s e1 e2 e3 c0 f0
      go_wp2_with fail
      have m9 : Mod (fun i => i = w.heap.size) w6 (w6.setCell ⟨w.heap.size, 0, none⟩ (.slice A6 (k + 1) c6)) := Mod.setCell (p := ⟨w.heap.size, 0, none⟩) (Mod.refl (fun i => i = w.heap.size) w6) (fun _ => rfl) _
      have K9 : Hid (Blk (w6.setCell ⟨w.heap.size, 0, none⟩ (.slice A6 (k + 1) c6)) w.heap.size 111 #[.slice A6 (k + 1) c6, .int .i64 (n : Int), .int .i64 (pv : Int), .int .u32 0, .int .i32 0, .int .u32 0, .slice none 0 0, .int .i64 0, .int .i64 0]) := by
        have := K6.out.set_ 0 (.slice A6 (k + 1) c6)
        show Blk _ _ _ _
        simpa using this
      have R9 : Hid (ReadG (w6.setCell ⟨w.heap.size, 0, none⟩ (.slice A6 (k + 1) c6)) w1.heap.size r V n (min (64 * (k + 1)) n) gr Ar) := by
        refine R6.out.mod m9 (by omega) fun i hi e => ?_
        rcases R6.out.2.2.2.2.2.1.foot_le hi with h1 | h1
        · have := R6.out.2.2.2.2.1; omega
        · omega
      have O9 := Lib.hid (own_mod O6.out m9 fun i hi e => by have := (O6.out.lt i hi).1; omega)
      have W9 : Hid (Below w.heap.size w (w6.setCell ⟨w.heap.size, 0, none⟩ (.slice A6 (k + 1) c6))) := W6.out.setCell (Nat.le_refl _) _
      have c9 : (w6.setCell ⟨w.heap.size, 0, none⟩ (.slice A6 (k + 1) c6)).cell? ⟨r, 1, none⟩ = some (.int .i64 ((min (64 * (k + 1)) n : Nat) : Int)) := R9.out.2.2.2.2.2.2.cell 1
      go_roundw
      case rel => exact ⟨k + 1, c6, A6, by omega, K9.out, O9.out, R9.out, W9.out, by simpa [World.setCell] using hsz6⟩
      case measure =>
        rw [c9, hcr]
        have := HXD.out
        simp only [Option.getD_some, intOf, Int.toNat_natCast]
        omega
    · obtain rfl : m = k := by omega
      have hmn : min (64 * m) n = n := by have := HM.out; omega
      rw [hmn, Nat.sub_self] at LF
      clear hcr
      go_wp2_with fail
      refine LF.out.mono ?_
      rintro e w9 ⟨rfl, j, rfl⟩
      have BD := Lib.hid (below_draws (Below.refl wr.heap.size wr) j)
      generalize wr.drewN j = w9 at *
      go_wp2_with fail
      go_ret
      refine ⟨w.heap.size, rfl, ⟨HV.out, hn, Ak, ck, .slice none 0 0, ?_, ?_, rfl⟩, Nat.le_refl _, hbl.out.trans (BD.out.mono hbl.out.size)⟩
      · rw [← HM.out, HPV.out]
        exact hb.out.below BD.out
      · rw [← HM.out]
        exact own_below (ho.out.base_le' (by omega)) BD.out
end Go.Proofs.YtagpdpacaoianaaGreatDoor
