/- RankAll: each is the other's turn, at every place. -/
import Derived.Test.YtimhpiancpfdbaaDoorKOff
namespace Go.Proofs.YtimhpiancpfdbaaDoor
open Go.RowKit
set_option linter.unusedVariables false
/-- What stands behind k places of RankAll. -/
structure Alls (w0 w : World) (g s q k n c : Nat) (l : List Nat) (d : Bool) (A : Option Addr) : Prop where
  idx : IdxAt w g (val l) n d q
  row : w.ownsRow w0.heap.size 3 1 (.slice A (n + 1) c) (n + 1) (I64 (ofN l) ++ I64 [-1])
  blk : Blk w s 31 #[.int .i64 ((cb 0 (val l) k : Nat) : Int), .int .i64 ((cb 1 (val l) k : Nat) : Int)]
  bel : Below w0.heap.size w0 w
  gle : w0.heap.size ≤ g
  sle : w0.heap.size ≤ s
  bin : Bin l
  len : l.length = n
theorem Alls.ne {w0 w : World} {g s q k n c : Nat} {l : List Nat} {d : Bool} {A : Option Addr} (h : Alls w0 w g s q k n c l d A) : s ≠ g := fun e => by
  obtain ⟨_, _, A', c', H, hb, _⟩ := h.idx
  subst e
  exact absurd (blk_ty h.blk hb) (by decide)
theorem Alls.ask {w0 w w' : World} {g s q q' k n c : Nat} {l : List Nat} {d d' : Bool} {A : Option Addr} (h : Alls w0 w g s q k n c l d A) (hx : IdxAt w' g (val l) n d' q') (m1 : Mod (fun i => i = g) w w') : Alls w0 w' g s q' k n c l d' A :=
  ⟨hx, own_idx h.row h.idx m1, h.blk.mod m1 h.ne, h.bel.trans (m1.belowB h.bel.size fun i hi e => by have := h.gle; omega), h.gle, h.sle, h.bin, h.len⟩
theorem Alls.tab {w0 w : World} {g s q k n c : Nat} {l : List Nat} {d : Bool} {A : Option Addr} (h : Alls w0 w g s q k n c l d A) (hT : Tab w0) : Tab w := hT.below hT.lt h.bel
/-- One bit more. -/
theorem Alls.next {w0 w : World} {g s q k n c : Nat} {l : List Nat} {d : Bool} {A : Option Addr} (h : Alls w0 w g s q k n c l d A) (hk : k < n) (y : Nat) (hy : l.getD k 0 = y) (hy2 : y < 2) (v : Int)
    (hv : v = ((cb (y : Int) (val l) k : Nat) : Int) + 1) : Alls w0 (w.setCell ⟨s, y, none⟩ (.int .i64 v)) g s q (k + 1) n c l d A := by
  have m1 : Mod (fun i => i = s) w (w.setCell ⟨s, y, none⟩ (.int .i64 v)) := Mod.setCell (p := ⟨s, y, none⟩) (Mod.refl (fun i => i = s) w) (fun _ => rfl) _
  have c0 := cb_list h.bin (.inl rfl : (0 : Int) = 0 ∨ (0 : Int) = 1) k
  have c1 := cb_list h.bin (.inr rfl : (1 : Int) = 0 ∨ (1 : Int) = 1) k
  rw [hy] at c0 c1
  refine ⟨h.idx.off m1 fun i hi => by subst hi; exact ⟨_, _, h.blk, by decide, by decide, by decide⟩, own_mod h.row m1 fun j hj e => own_ne h.row h.blk (by decide) (by rw [← e]; exact hj), ?_, h.bel.trans (m1.belowB h.bel.size fun i hi e => by have := h.sle; omega), h.gle, h.sle, h.bin, h.len⟩
  have hb := h.blk.set_ y (.int .i64 v)
  have hy01 : y = 0 ∨ y = 1 := by omega
  rcases hy01 with rfl | rfl
  · have e0 : v = ((cb 0 (val l) (k + 1) : Nat) : Int) := by rw [hv, c0]; simp
    have e1 : cb 1 (val l) (k + 1) = cb 1 (val l) k := by rw [c1]; simp
    rw [← e0, e1]
    simpa using hb
  · have e0 : v = ((cb 1 (val l) (k + 1) : Nat) : Int) := by rw [hv, c1]; simp
    have e1 : cb 0 (val l) (k + 1) = cb 0 (val l) k := by rw [c0]; simp
    rw [← e0, e1]
    simpa using hb
theorem Alls.at {w0 w : World} {g s q k n c : Nat} {l : List Nat} {d : Bool} {A : Option Addr} (h : Alls w0 w g s q k n c l d A) : ∃ b, A = some ⟨b, 0, none⟩ ∧ (∀ j, j < n → w.cell? ⟨b, j, none⟩ = some (.int .i64 ((l.getD j 0 : Nat) : Int))) ∧ w.cell? ⟨b, n, none⟩ = some (.int .i64 (-1)) := by
  have e : I64 (ofN l) ++ I64 [-1] = I64 (ofN l ++ [-1]) := (I64_append _ _).symm
  have hr := Rd.ofOwn h.row
  rw [e] at hr
  obtain ⟨b, o, hA, _, hc⟩ := hr.i64 (by omega)
  rcases own_addr h.row with ⟨_, h2, _⟩ | ⟨b', hA'⟩
  · omega
  · rw [hA'] at hA
    obtain ⟨rfl, rfl⟩ : b' = b ∧ (0 : Nat) = o := by simpa using hA
    refine ⟨b', hA', fun j hj => ?_, ?_⟩
    · have := hc j (by omega)
      rw [Nat.zero_add] at this
      rw [this, ← ofN_get, List.getD_eq_getElem?_getD, List.getElem?_append_left (by rw [ofN_len, h.len]; exact hj), ← List.getD_eq_getElem?_getD]
    · have := hc n (by omega)
      rw [Nat.zero_add] at this
      rw [this, List.getD_eq_getElem?_getD, List.getElem?_append_right (by rw [ofN_len, h.len]; exact Nat.le_refl _), ofN_len, h.len, Nat.sub_self]
      rfl
set_option maxRecDepth 20000 in
set_option maxHeartbeats 16000000 in
theorem rankAll_walk (A0 : Option Addr) (n0 c0 m t st : Nat) (bs : List Nat) (w : World) (hT : Tab w)
    (h0 : Rd w w.heap.size A0 n0 (U8 bs)) (hbs : ∀ b ∈ bs, b < 256) (hn0 : n0 ≤ c0) (hc0 : c0 ≤ maxLen) (hm : m < 256) (ht : t < 65536) (hst : st < 256) :
    Calls Tryd.prog 3 #[.slice A0 n0 c0, .int .u8 (m : Int), .int .u16 (t : Int), .int .u8 (st : Int)] w fun e w' => e = .returned (.bool true) ∧ Below w.heap.size w w' := by
  unfold maxLen at hc0
  obtain ⟨i0, hi0, hz0, hz1, hz2⟩ := info_parts info_int
  have AW := Lib.hid (kawake_p w hT hT.lt)
  have HT := Lib.hid hT
  have H0 := Lib.hid h0
  have HBS := Lib.hid hbs
  clear hT h0 hbs
  go_enter Tryd.func3, Tryd.ntmps3
  go_wp2_with fail
  refine AW.out.mono ?_
  rintro e w1 ⟨rfl, b1⟩
  have MD := Lib.hid (made_p A0 n0 c0 w.heap.size m t bs w1 (H0.out.below b1) HBS.out b1.size (by omega) hm ht)
  have B1 := Lib.hid b1
  clear b1 AW
  go_wp2_with fail
  refine MD.out.mono ?_
  rintro e w2 hmd
  obtain ⟨g, A, n, c, l, rfl, ha, hl⟩ := asks_of_made hmd hm B1.out
  have HA := Lib.hid ha
  have hn9 := ha.m9
  have hmc := ha.mc
  have hcm : c ≤ 9223372036854775807 := by have := ha.cm; unfold maxLen at this; omega
  have XL := Lib.hid (xlen_p g (val l) n 0 false w2 HA.out.idx)
  have XO := Lib.hid (xones_p g (val l) n 0 false w2 HA.out.idx)
  have RO := Lib.hid (ro_p A n c _ l w2 (Rd.ofOwn HA.out.own) HA.out.bin (by omega))
  clear hmd ha MD B1 hl
  generalize pop (val l) n = o at *
  have bA := (((Below.refl w2.heap.size w2).alloc (Nat.le_refl _) (.cells #[.int .i64 0, .int .i64 0] 31)).alloc (by simp) (.cells #[.int .i64 (-1)] 3))
  have ownA := own_below HA.out.own bA
  have rA := Rd.new (w2.alloc (.cells #[.int .i64 0, .int .i64 0] 31)) 3 #[.int .i64 (-1)] 1 (I64 [-1]) (by simp [I64]) (by simp)
  have kA := (Blk.new w2 31 #[.int .i64 0, .int .i64 0]).alloc (.cells #[.int .i64 (-1)] 3)
  have e1 : n + 1 ≤ maxLen := by simp only [maxLen]; omega
  have e2 : (n + 1) * 8 ≤ 140737488355328 := by omega
  have e3 : w.heap.size ≤ ((w2.alloc (.cells #[.int .i64 0, .int .i64 0] 31)).alloc (.cells #[.int .i64 (-1)] 3)).heap.size := by
    have := HA.out.bel.size
    simp; omega
  have hzz : (w2.alloc (.cells #[.int .i64 0, .int .i64 0] 31)).heap.size = w2.heap.size + 1 := by simp
  rw [hzz] at rA
  go_wp2_with (first
    | (go_at_call 10; refine XL.out.mono ?_; rintro e w' ⟨rfl, rfl⟩)
    | (go_at_call 11; refine XO.out.mono ?_; rintro e w' ⟨rfl, rfl⟩)
    | (go_at_call 12; refine RO.out.mono ?_; rintro e w' ⟨rfl, rfl⟩)
    | (at_builtin; go_must (refine wpList_append_rd _ rfl _ _ 26 rfl w.heap.size 3 i0 (.int .i64 0) 8 Tryd.underlying26 hi0 hz0 hz1 hz2 rfl (.slice A n c) n (I64 (ofN l)) rfl ownA (w2.heap.size + 1 + 1) (some ⟨w2.heap.size + 1, 0, none⟩) 1 1 (I64 [-1]) rfl rA (I64_one _) e1 e2 e3 ?_)))
  intro A7 c7 w7 hc7 hm7 hown7 hg7 _
  have hA7 : Alls w w7 g w2.heap.size 0 0 n c7 l false A7 := by
    have m7 := Mod.ofGrown hg7
    have hoff : ∀ i, some i = (Value.slice A n c).ownBlock → ∃ T cs, Blk ((w2.alloc (.cells #[.int .i64 0, .int .i64 0] 31)).alloc (.cells #[.int .i64 (-1)] 3)) i T cs ∧ T ≠ 67 ∧ T ≠ 70 ∧ T ≠ 53 := fun i hi => by
      obtain ⟨cs, hb⟩ := own_blk ownA hi.symm
      exact ⟨_, cs, hb, by decide, by decide, by decide⟩
    refine ⟨(HA.out.idx.below bA).off m7 hoff, hown7, ?_, ?_, HA.out.gle, HA.out.bel.size, HA.out.bin, HA.out.len⟩
    · rw [cb_zero, cb_zero]
      exact kA.mod m7 fun hx => own_ne ownA kA (by decide) hx.symm
    · exact (HA.out.bel.trans (bA.mono HA.out.bel.size)).trans ((Below.appended ownA hg7 e3))
  have HA7 := Lib.hid hA7
  clear hA7 hown7 hg7 ownA rA kA bA e1 e2 e3 hzz XL XO RO HA hmc hcm
  generalize w2.heap.size = s at *
  obtain ⟨T, hT30, hT9⟩ : ∃ T : Nat, (st : Int) % 30 = (T : Int) ∧ T ≤ 29 := ⟨st % 30, by omega, by omega⟩
  go_wp2_with fail
  go_loopw [48] (fun x wr => ∃ (k q : Nat) (d : Bool), k ≤ n ∧ q ≤ 3 * k ∧ x = .int .i64 (k : Int) ∧ Hid (Alls w wr g s q k n c7 l d A7)) (fun x _ => n + 1 - (intOf x).toNat)
  case atStart => exact ⟨0, 0, false, by omega, by omega, rfl, HA7.out⟩
  case round =>
    clear HA7
    obtain ⟨k, q, d, hk, hq, rfl, hx⟩ := hrel
    obtain ⟨b7, rfl, hcs, hlast⟩ := hx.out.at
    obtain ⟨r, hr⟩ : ∃ r : Nat, (k : Int) % (1 + (T : Int)) = (r : Int) := ⟨((k : Int) % (1 + (T : Int))).toNat, by have := Int.emod_nonneg (k : Int) (show (1 + (T : Int)) ≠ 0 by omega); omega⟩
    have hTp : 1 + (T : Int) ≠ 0 := by omega
    have hd48 : decide ((k : Int) < (n : Int) + 1) = true := decide_eq_true (by omega)
    by_cases hkn : k < n
    · have t1 := hcs k hkn
      have hy2 := hx.out.bin.getD k
      have hy01 : l.getD k 0 = 0 ∨ l.getD k 0 = 1 := by omega
      clear hcs hlast hy2
      by_cases hr0 : r = 0
      · subst hr0
        rcases hy01 with hly | hly
        · rw [hly] at t1
          go_wp2_with fail
          have HF := Lib.hid (And.intro hT30 hr)
          clear hT30 hr
          go_loopw [66] (fun x wq => ∃ (j q2 : Nat) (d2 : Bool), j ≤ 2 ∧ j ≤ q2 ∧ q2 ≤ q + j ∧ x = .int .i64 (j : Int) ∧ Hid (Alls w wq g s q2 k n c7 l d2 (some ⟨b7, 0, none⟩))) (fun x _ => 2 - (intOf x).toNat)
          case atStart => exact ⟨0, q, d, by omega, by omega, by omega, rfl, hx.out⟩
          case round =>
            obtain ⟨j, q2, d2, hj, hjq, hq2, rfl, hy0⟩ := hrel
            have hj3 : j = 0 ∨ j = 1 ∨ j = 2 := by omega
            rcases hj3 with rfl | rfl | rfl
            · have e0 : wr.cell? ⟨s, 0, none⟩ = some (.int .i64 ((cb 0 (val l) k : Nat) : Int)) := hy0.out.blk.cell 0
              have RK := Lib.hid (rank_yes g (val l) n q2 k d2 0 wr hy0.out.idx (by omega) (by first | exact .inl rfl | exact .inr rfl) hk)
              clear e0
              go_wp2_with fail
              refine RK.out.mono ?_
              rintro e w5 ⟨rfl, h5, m5⟩
              have HX5 := Lib.hid (hy0.out.ask h5 m5)
              have f0 : w5.cell? ⟨s, 0, none⟩ = some (.int .i64 ((cb 0 (val l) k : Nat) : Int)) := HX5.out.blk.cell 0
              clear h5 m5 RK
              go_wp2_with fail
              go_roundw
              case rel => exact ⟨0 + 1, q2 + 1, true, by omega, by omega, by omega, rfl, HX5.out⟩
              case measure => simp [intOf]
            · have e1 : wr.cell? ⟨s, 1, none⟩ = some (.int .i64 ((cb 1 (val l) k : Nat) : Int)) := hy0.out.blk.cell 1
              have RK := Lib.hid (rank_yes g (val l) n q2 k d2 1 wr hy0.out.idx (by omega) (by first | exact .inl rfl | exact .inr rfl) hk)
              clear e1
              go_wp2_with fail
              refine RK.out.mono ?_
              rintro e w5 ⟨rfl, h5, m5⟩
              have HX5 := Lib.hid (hy0.out.ask h5 m5)
              have f1 : w5.cell? ⟨s, 1, none⟩ = some (.int .i64 ((cb 1 (val l) k : Nat) : Int)) := HX5.out.blk.cell 1
              clear h5 m5 RK
              go_wp2_with fail
              go_roundw
              case rel => exact ⟨1 + 1, q2 + 1, true, by omega, by omega, by omega, rfl, HX5.out⟩
              case measure => simp [intOf]
            · have hT30 := HF.out.1
              have hr := HF.out.2
              have XA := Lib.hid (xat_in g (val l) n q2 k d2 wr hy0.out.idx hkn)
              rw [val_bit hy0.out.bin, hly] at XA
              go_wp2_with fail
              refine XA.out.mono ?_
              rintro e w' ⟨rfl, rfl⟩
              have g0 : wr.cell? ⟨s, 0, none⟩ = some (.int .i64 ((cb 0 (val l) k : Nat) : Int)) := hy0.out.blk.cell 0
              have HIk : Hid (IsB 0 (val l) k) := (isB_list hy0.out.bin (by first | exact .inl rfl | exact .inr rfl) k).2 (by rw [hly]; rfl)
              have SL := Lib.hid (sel_yes g (val l) n q2 (cb 0 (val l) k) d2 0 wr hy0.out.idx (hy0.out.tab HT.out) (by omega) (by first | exact .inl rfl | exact .inr rfl) (by have h1 := cb_mono 0 (val l) (show k + 1 ≤ n by omega); rw [cb_next HIk.out] at h1; omega) (by have := hy0.out.gle; have := HT.out.lt; omega))
              go_wp2_with fail
              refine SL.out.mono ?_
              rintro e w8 ⟨p, rfl, hpn, hpI, hpk, h8, m8⟩
              obtain rfl : p = k := cb_unique hpI HIk.out hpk
              have HX8 := Lib.hid (hy0.out.ask h8 m8)
              clear h8 m8 hpI hpk hpn g0 SL
              have z0 : w8.cell? ⟨s, 0, none⟩ = some (.int .i64 ((cb 0 (val l) p : Nat) : Int)) := HX8.out.blk.cell 0
              have fz : w8.frozen? ⟨s, 0, none⟩ = false := HX8.out.blk.frozen 0
              have hcb := cb_le 0 (val l) p
              have NX := Lib.hid (HX8.out.next hkn 0 hly (by omega) (((cb 0 (val l) p : Nat) : Int) + 1) rfl)
              go_wp2_with fail
              go_roundw
              case rel => exact ⟨p + 1, (q2 + 1), true, by omega, by omega, by go_num, NX.out⟩
              case measure => simp [intOf]; omega
        · rw [hly] at t1
          go_wp2_with fail
          have HF := Lib.hid (And.intro hT30 hr)
          clear hT30 hr
          go_loopw [66] (fun x wq => ∃ (j q2 : Nat) (d2 : Bool), j ≤ 2 ∧ j ≤ q2 ∧ q2 ≤ q + j ∧ x = .int .i64 (j : Int) ∧ Hid (Alls w wq g s q2 k n c7 l d2 (some ⟨b7, 0, none⟩))) (fun x _ => 2 - (intOf x).toNat)
          case atStart => exact ⟨0, q, d, by omega, by omega, by omega, rfl, hx.out⟩
          case round =>
            obtain ⟨j, q2, d2, hj, hjq, hq2, rfl, hy0⟩ := hrel
            have hj3 : j = 0 ∨ j = 1 ∨ j = 2 := by omega
            rcases hj3 with rfl | rfl | rfl
            · have e0 : wr.cell? ⟨s, 0, none⟩ = some (.int .i64 ((cb 0 (val l) k : Nat) : Int)) := hy0.out.blk.cell 0
              have RK := Lib.hid (rank_yes g (val l) n q2 k d2 0 wr hy0.out.idx (by omega) (by first | exact .inl rfl | exact .inr rfl) hk)
              clear e0
              go_wp2_with fail
              refine RK.out.mono ?_
              rintro e w5 ⟨rfl, h5, m5⟩
              have HX5 := Lib.hid (hy0.out.ask h5 m5)
              have f0 : w5.cell? ⟨s, 0, none⟩ = some (.int .i64 ((cb 0 (val l) k : Nat) : Int)) := HX5.out.blk.cell 0
              clear h5 m5 RK
              go_wp2_with fail
              go_roundw
              case rel => exact ⟨0 + 1, q2 + 1, true, by omega, by omega, by omega, rfl, HX5.out⟩
              case measure => simp [intOf]
            · have e1 : wr.cell? ⟨s, 1, none⟩ = some (.int .i64 ((cb 1 (val l) k : Nat) : Int)) := hy0.out.blk.cell 1
              have RK := Lib.hid (rank_yes g (val l) n q2 k d2 1 wr hy0.out.idx (by omega) (by first | exact .inl rfl | exact .inr rfl) hk)
              clear e1
              go_wp2_with fail
              refine RK.out.mono ?_
              rintro e w5 ⟨rfl, h5, m5⟩
              have HX5 := Lib.hid (hy0.out.ask h5 m5)
              have f1 : w5.cell? ⟨s, 1, none⟩ = some (.int .i64 ((cb 1 (val l) k : Nat) : Int)) := HX5.out.blk.cell 1
              clear h5 m5 RK
              go_wp2_with fail
              go_roundw
              case rel => exact ⟨1 + 1, q2 + 1, true, by omega, by omega, by omega, rfl, HX5.out⟩
              case measure => simp [intOf]
            · have hT30 := HF.out.1
              have hr := HF.out.2
              have XA := Lib.hid (xat_in g (val l) n q2 k d2 wr hy0.out.idx hkn)
              rw [val_bit hy0.out.bin, hly] at XA
              go_wp2_with fail
              refine XA.out.mono ?_
              rintro e w' ⟨rfl, rfl⟩
              have g1 : wr.cell? ⟨s, 1, none⟩ = some (.int .i64 ((cb 1 (val l) k : Nat) : Int)) := hy0.out.blk.cell 1
              have HIk : Hid (IsB 1 (val l) k) := (isB_list hy0.out.bin (by first | exact .inl rfl | exact .inr rfl) k).2 (by rw [hly]; rfl)
              have SL := Lib.hid (sel_yes g (val l) n q2 (cb 1 (val l) k) d2 1 wr hy0.out.idx (hy0.out.tab HT.out) (by omega) (by first | exact .inl rfl | exact .inr rfl) (by have h1 := cb_mono 1 (val l) (show k + 1 ≤ n by omega); rw [cb_next HIk.out] at h1; omega) (by have := hy0.out.gle; have := HT.out.lt; omega))
              go_wp2_with fail
              refine SL.out.mono ?_
              rintro e w8 ⟨p, rfl, hpn, hpI, hpk, h8, m8⟩
              obtain rfl : p = k := cb_unique hpI HIk.out hpk
              have HX8 := Lib.hid (hy0.out.ask h8 m8)
              clear h8 m8 hpI hpk hpn g1 SL
              have z1 : w8.cell? ⟨s, 1, none⟩ = some (.int .i64 ((cb 1 (val l) p : Nat) : Int)) := HX8.out.blk.cell 1
              have fz : w8.frozen? ⟨s, 1, none⟩ = false := HX8.out.blk.frozen 1
              have hcb := cb_le 1 (val l) p
              have NX := Lib.hid (HX8.out.next hkn 1 hly (by omega) (((cb 1 (val l) p : Nat) : Int) + 1) rfl)
              go_wp2_with fail
              go_roundw
              case rel => exact ⟨p + 1, (q2 + 1), true, by omega, by omega, by go_num, NX.out⟩
              case measure => simp [intOf]; omega
      · have hrb : ((r : Int) == 0) = false := by rw [beq_eq_false_iff_ne]; omega
        have hknb : ((k : Int) == (n : Int)) = false := by rw [beq_eq_false_iff_ne]; omega
        rcases hy01 with hly | hly
        · rw [hly] at t1
          have XA := Lib.hid (xat_in g (val l) n q k d wr hx.out.idx hkn)
          rw [val_bit hx.out.bin, hly] at XA
          go_wp2_with fail
          refine XA.out.mono ?_
          rintro e w' ⟨rfl, rfl⟩
          have HX8 := hx
          have z0 : wr.cell? ⟨s, 0, none⟩ = some (.int .i64 ((cb 0 (val l) k : Nat) : Int)) := HX8.out.blk.cell 0
          have fz : wr.frozen? ⟨s, 0, none⟩ = false := HX8.out.blk.frozen 0
          have hcb := cb_le 0 (val l) k
          have NX := Lib.hid (HX8.out.next hkn 0 hly (by omega) (((cb 0 (val l) k : Nat) : Int) + 1) rfl)
          go_wp2_with fail
          go_roundw
          case rel => exact ⟨k + 1, q, d, by omega, by omega, by go_num, NX.out⟩
          case measure => simp [intOf]; omega
        · rw [hly] at t1
          have XA := Lib.hid (xat_in g (val l) n q k d wr hx.out.idx hkn)
          rw [val_bit hx.out.bin, hly] at XA
          go_wp2_with fail
          refine XA.out.mono ?_
          rintro e w' ⟨rfl, rfl⟩
          have HX8 := hx
          have z1 : wr.cell? ⟨s, 1, none⟩ = some (.int .i64 ((cb 1 (val l) k : Nat) : Int)) := HX8.out.blk.cell 1
          have fz : wr.frozen? ⟨s, 1, none⟩ = false := HX8.out.blk.frozen 1
          have hcb := cb_le 1 (val l) k
          have NX := Lib.hid (HX8.out.next hkn 1 hly (by omega) (((cb 1 (val l) k : Nat) : Int) + 1) rfl)
          go_wp2_with fail
          go_roundw
          case rel => exact ⟨k + 1, q, d, by omega, by omega, by go_num, NX.out⟩
          case measure => simp [intOf]; omega
    · obtain rfl : k = n := by omega
      have t1 := hlast
      clear hcs hlast
      by_cases hr0 : r = 0
      · subst hr0
        go_wp2_with fail
        have HF := Lib.hid (And.intro hT30 hr)
        clear hT30 hr
        go_loopw [66] (fun x wq => ∃ (j q2 : Nat) (d2 : Bool), j ≤ 2 ∧ j ≤ q2 ∧ q2 ≤ q + j ∧ x = .int .i64 (j : Int) ∧ Hid (Alls w wq g s q2 k k c7 l d2 (some ⟨b7, 0, none⟩))) (fun x _ => 2 - (intOf x).toNat)
        case atStart => exact ⟨0, q, d, by omega, by omega, by omega, rfl, hx.out⟩
        case round =>
          obtain ⟨j, q2, d2, hj, hjq, hq2, rfl, hy0⟩ := hrel
          have hj3 : j = 0 ∨ j = 1 ∨ j = 2 := by omega
          rcases hj3 with rfl | rfl | hj2
          · have e0 : wr.cell? ⟨s, 0, none⟩ = some (.int .i64 ((cb 0 (val l) k : Nat) : Int)) := hy0.out.blk.cell 0
            have RK := Lib.hid (rank_yes g (val l) k q2 k d2 0 wr hy0.out.idx (by omega) (by first | exact .inl rfl | exact .inr rfl) hk)
            clear e0
            go_wp2_with fail
            refine RK.out.mono ?_
            rintro e w5 ⟨rfl, h5, m5⟩
            have HX5 := Lib.hid (hy0.out.ask h5 m5)
            have f0 : w5.cell? ⟨s, 0, none⟩ = some (.int .i64 ((cb 0 (val l) k : Nat) : Int)) := HX5.out.blk.cell 0
            clear h5 m5 RK
            go_wp2_with fail
            go_roundw
            case rel => exact ⟨0 + 1, q2 + 1, true, by omega, by omega, by omega, rfl, HX5.out⟩
            case measure => simp [intOf]
          · have e1 : wr.cell? ⟨s, 1, none⟩ = some (.int .i64 ((cb 1 (val l) k : Nat) : Int)) := hy0.out.blk.cell 1
            have RK := Lib.hid (rank_yes g (val l) k q2 k d2 1 wr hy0.out.idx (by omega) (by first | exact .inl rfl | exact .inr rfl) hk)
            clear e1
            go_wp2_with fail
            refine RK.out.mono ?_
            rintro e w5 ⟨rfl, h5, m5⟩
            have HX5 := Lib.hid (hy0.out.ask h5 m5)
            have f1 : w5.cell? ⟨s, 1, none⟩ = some (.int .i64 ((cb 1 (val l) k : Nat) : Int)) := HX5.out.blk.cell 1
            clear h5 m5 RK
            go_wp2_with fail
            go_roundw
            case rel => exact ⟨1 + 1, q2 + 1, true, by omega, by omega, by omega, rfl, HX5.out⟩
            case measure => simp [intOf]
          · have hj22 : 2 ≤ j := by omega
            clear hj2
            go_wp2_with fail
            go_loopw [122] (fun x wq => ∃ (j q3 : Nat) (d3 : Bool), j ≤ 2 ∧ 2 ≤ q3 ∧ q3 ≤ q2 + j ∧ x = .int .i64 (j : Int) ∧ Hid (Alls w wq g s q3 k k c7 l d3 (some ⟨b7, 0, none⟩))) (fun x _ => 2 - (intOf x).toNat)
            case atStart => exact ⟨0, q2, d2, by omega, by omega, by omega, rfl, hy0.out⟩
            case round =>
              obtain ⟨j, q3, d3, hj, hjq3, hq3, rfl, hz0⟩ := hrel
              have hj3 : j = 0 ∨ j = 1 ∨ j = 2 := by omega
              rcases hj3 with rfl | rfl | rfl
              · have e0 : wr.cell? ⟨s, 0, none⟩ = some (.int .i64 ((cb 0 (val l) k : Nat) : Int)) := hz0.out.blk.cell 0
                have SN := Lib.hid (sel_no g (val l) k q3 d3 0 ((cb 0 (val l) k : Nat) : Int) wr hz0.out.idx (by omega) (.inr (.inr (by omega))))
                go_wp2_with fail
                refine SN.out.mono ?_
                rintro e w5 ⟨rfl, h5, m5⟩
                have HX5 := Lib.hid (hz0.out.ask h5 m5)
                clear h5 m5 SN e0
                go_wp2_with fail
                go_roundw
                case rel => exact ⟨0 + 1, q3 + 1, d3, by omega, by omega, by omega, rfl, HX5.out⟩
                case measure => simp [intOf]
              · have e1 : wr.cell? ⟨s, 1, none⟩ = some (.int .i64 ((cb 1 (val l) k : Nat) : Int)) := hz0.out.blk.cell 1
                have SN := Lib.hid (sel_no g (val l) k q3 d3 1 ((cb 1 (val l) k : Nat) : Int) wr hz0.out.idx (by omega) (.inr (.inr (by omega))))
                go_wp2_with fail
                refine SN.out.mono ?_
                rintro e w5 ⟨rfl, h5, m5⟩
                have HX5 := Lib.hid (hz0.out.ask h5 m5)
                clear h5 m5 SN e1
                go_wp2_with fail
                go_roundw
                case rel => exact ⟨1 + 1, q3 + 1, d3, by omega, by omega, by omega, rfl, HX5.out⟩
                case measure => simp [intOf]
              · have AS := Lib.hid (xasked_p g (val l) k q3 d3 wr hz0.out.idx)
                have hd : 0 < q3 := by omega
                go_wp2_with fail
                refine AS.out.mono ?_
                rintro e w' ⟨rfl, rfl⟩
                go_wp2_with fail
                go_ret
                exact ⟨rfl, hz0.out.bel⟩
      · have hrb : ((r : Int) == 0) = false := by rw [beq_eq_false_iff_ne]; omega
        go_wp2_with fail
        have HF := Lib.hid (And.intro hT30 hr)
        clear hT30 hr
        go_loopw [66] (fun x wq => ∃ (j q2 : Nat) (d2 : Bool), j ≤ 2 ∧ j ≤ q2 ∧ q2 ≤ q + j ∧ x = .int .i64 (j : Int) ∧ Hid (Alls w wq g s q2 k k c7 l d2 (some ⟨b7, 0, none⟩))) (fun x _ => 2 - (intOf x).toNat)
        case atStart => exact ⟨0, q, d, by omega, by omega, by omega, rfl, hx.out⟩
        case round =>
          obtain ⟨j, q2, d2, hj, hjq, hq2, rfl, hy0⟩ := hrel
          have hj3 : j = 0 ∨ j = 1 ∨ j = 2 := by omega
          rcases hj3 with rfl | rfl | hj2
          · have e0 : wr.cell? ⟨s, 0, none⟩ = some (.int .i64 ((cb 0 (val l) k : Nat) : Int)) := hy0.out.blk.cell 0
            have RK := Lib.hid (rank_yes g (val l) k q2 k d2 0 wr hy0.out.idx (by omega) (by first | exact .inl rfl | exact .inr rfl) hk)
            clear e0
            go_wp2_with fail
            refine RK.out.mono ?_
            rintro e w5 ⟨rfl, h5, m5⟩
            have HX5 := Lib.hid (hy0.out.ask h5 m5)
            have f0 : w5.cell? ⟨s, 0, none⟩ = some (.int .i64 ((cb 0 (val l) k : Nat) : Int)) := HX5.out.blk.cell 0
            clear h5 m5 RK
            go_wp2_with fail
            go_roundw
            case rel => exact ⟨0 + 1, q2 + 1, true, by omega, by omega, by omega, rfl, HX5.out⟩
            case measure => simp [intOf]
          · have e1 : wr.cell? ⟨s, 1, none⟩ = some (.int .i64 ((cb 1 (val l) k : Nat) : Int)) := hy0.out.blk.cell 1
            have RK := Lib.hid (rank_yes g (val l) k q2 k d2 1 wr hy0.out.idx (by omega) (by first | exact .inl rfl | exact .inr rfl) hk)
            clear e1
            go_wp2_with fail
            refine RK.out.mono ?_
            rintro e w5 ⟨rfl, h5, m5⟩
            have HX5 := Lib.hid (hy0.out.ask h5 m5)
            have f1 : w5.cell? ⟨s, 1, none⟩ = some (.int .i64 ((cb 1 (val l) k : Nat) : Int)) := HX5.out.blk.cell 1
            clear h5 m5 RK
            go_wp2_with fail
            go_roundw
            case rel => exact ⟨1 + 1, q2 + 1, true, by omega, by omega, by omega, rfl, HX5.out⟩
            case measure => simp [intOf]
          · have hj22 : 2 ≤ j := by omega
            clear hj2
            go_wp2_with fail
            go_loopw [122] (fun x wq => ∃ (j q3 : Nat) (d3 : Bool), j ≤ 2 ∧ 2 ≤ q3 ∧ q3 ≤ q2 + j ∧ x = .int .i64 (j : Int) ∧ Hid (Alls w wq g s q3 k k c7 l d3 (some ⟨b7, 0, none⟩))) (fun x _ => 2 - (intOf x).toNat)
            case atStart => exact ⟨0, q2, d2, by omega, by omega, by omega, rfl, hy0.out⟩
            case round =>
              obtain ⟨j, q3, d3, hj, hjq3, hq3, rfl, hz0⟩ := hrel
              have hj3 : j = 0 ∨ j = 1 ∨ j = 2 := by omega
              rcases hj3 with rfl | rfl | rfl
              · have e0 : wr.cell? ⟨s, 0, none⟩ = some (.int .i64 ((cb 0 (val l) k : Nat) : Int)) := hz0.out.blk.cell 0
                have SN := Lib.hid (sel_no g (val l) k q3 d3 0 ((cb 0 (val l) k : Nat) : Int) wr hz0.out.idx (by omega) (.inr (.inr (by omega))))
                go_wp2_with fail
                refine SN.out.mono ?_
                rintro e w5 ⟨rfl, h5, m5⟩
                have HX5 := Lib.hid (hz0.out.ask h5 m5)
                clear h5 m5 SN e0
                go_wp2_with fail
                go_roundw
                case rel => exact ⟨0 + 1, q3 + 1, d3, by omega, by omega, by omega, rfl, HX5.out⟩
                case measure => simp [intOf]
              · have e1 : wr.cell? ⟨s, 1, none⟩ = some (.int .i64 ((cb 1 (val l) k : Nat) : Int)) := hz0.out.blk.cell 1
                have SN := Lib.hid (sel_no g (val l) k q3 d3 1 ((cb 1 (val l) k : Nat) : Int) wr hz0.out.idx (by omega) (.inr (.inr (by omega))))
                go_wp2_with fail
                refine SN.out.mono ?_
                rintro e w5 ⟨rfl, h5, m5⟩
                have HX5 := Lib.hid (hz0.out.ask h5 m5)
                clear h5 m5 SN e1
                go_wp2_with fail
                go_roundw
                case rel => exact ⟨1 + 1, q3 + 1, d3, by omega, by omega, by omega, rfl, HX5.out⟩
                case measure => simp [intOf]
              · have AS := Lib.hid (xasked_p g (val l) k q3 d3 wr hz0.out.idx)
                have hd : 0 < q3 := by omega
                go_wp2_with fail
                refine AS.out.mono ?_
                rintro e w' ⟨rfl, rfl⟩
                go_wp2_with fail
                go_ret
                exact ⟨rfl, hz0.out.bel⟩
end Go.Proofs.YtimhpiancpfdbaaDoor
