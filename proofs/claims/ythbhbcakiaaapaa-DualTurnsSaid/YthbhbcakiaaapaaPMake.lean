/- One, Then, Same of permutations. -/
import Derived.Test.YthbhbcakiaaapaaPOf
import Derived.Deep.DeepCutAuto
namespace Go.Proofs.Ythbhbcakiaaapaa
set_option maxRecDepth 20000
open Go.RowKit
set_option linter.unusedVariables false

def oneL (n : Nat) : List Nat := List.range n
theorem oneL_get (n i : Nat) (h : i < n) : (oneL n).getD i 0 = i := by simp [oneL, List.getD_eq_getElem?_getD, h]
theorem oneL_inv (n : Nat) : Inv (oneL n) (oneL n) := by
  have hl : (oneL n).length = n := by simp [oneL]
  refine ⟨rfl, ?_, ?_, ?_, ?_⟩ <;> intro i hi <;> rw [hl] at * <;> simp only [oneL_get n i hi] <;> first | exact hi | exact oneL_get n i hi

def comp (l r : List Nat) : List Nat := l.map fun x => r.getD x 0
theorem comp_len (l r : List Nat) : (comp l r).length = l.length := by simp [comp]
theorem comp_get (l r : List Nat) (i : Nat) (hi : i < l.length) : (comp l r).getD i 0 = r.getD (l.getD i 0) 0 := by
  simp [comp, List.getD_eq_getElem?_getD, List.getElem?_eq_getElem hi]
theorem comp_inv {l b r d : List Nat} (h : Inv l b) (k : Inv r d) (e : l.length = r.length) : Inv (comp l r) (comp d b) := by
  refine ⟨by rw [comp_len, comp_len, k.len, e], ?_, ?_, ?_, ?_⟩ <;> intro i hi <;> rw [comp_len] at hi <;> try rw [comp_len]
  · rw [comp_get _ _ _ hi, e]; exact k.lt _ (by rw [← e]; exact h.lt i hi)
  · rw [comp_get d b i (by rw [k.len, ← e]; exact hi)]
    exact h.lt' _ (by rw [e]; exact k.lt' i (by rw [← e]; exact hi))
  · rw [comp_get _ _ _ hi]
    have h1 := h.lt i hi
    have h2 := k.lt (l.getD i 0) (by rw [← e]; exact h1)
    rw [comp_get _ _ _ (by rw [k.len]; exact h2), k.lb _ (by rw [← e]; exact h1), h.lb i hi]
  · rw [comp_get d b i (by rw [k.len, ← e]; exact hi)]
    have h1 := k.lt' i (by rw [← e]; exact hi)
    have h2 := h.lt' (d.getD i 0) (by rw [e]; exact h1)
    rw [comp_get l r _ h2, h.bl _ (by rw [e]; exact h1), k.bl i (by rw [← e]; exact hi)]

theorem then_nil1 (v : Option Addr) (w : World) :
    Calls Try.prog 68 #[.pointer none, .pointer v] w fun e w' => e = .returned (.tuple #[.pointer none, .int .i64 2]) ∧ w = w' := by
  go_enter Try.func68, Try.ntmps68
  go_wp2_with fail
  go_ret2
  exact ⟨rfl, rfl⟩
theorem then_nil2 (g : Nat) (w : World) :
    Calls Try.prog 68 #[.pointer (some ⟨g, 0, none⟩), .pointer none] w fun e w' => e = .returned (.tuple #[.pointer none, .int .i64 2]) ∧ w = w' := by
  go_enter Try.func68, Try.ntmps68
  go_wp2_with fail
  go_ret2
  exact ⟨rfl, rfl⟩
theorem then_range (g g' : Nat) (l b r d : List Nat) (w : World) (h : PermAt w g l b) (k : PermAt w g' r d) (hne : l.length ≠ r.length) :
    Calls Try.prog 68 #[.pointer (some ⟨g, 0, none⟩), .pointer (some ⟨g', 0, none⟩)] w fun e w' => e = .returned (.tuple #[.pointer none, .int .i64 1]) ∧ w = w' := by
  have hb : ((l.length : Int) != (r.length : Int)) = true := by rw [bne_iff_ne]; omega
  clear hne
  go_enter Try.func68, Try.ntmps68
  go_wp2_with fail
  refine (len_p g l b _ h).mono ?_
  rintro e w' ⟨rfl, rfl⟩
  go_wp2_with fail
  refine (len_p g' r d _ k).mono ?_
  rintro e w' ⟨rfl, rfl⟩
  go_wp2_with fail
  go_ret2
  exact ⟨rfl, rfl⟩

/-- An answer of two that is a new permutation, and no error. -/
def NewP2 (w : World) (l b : List Nat) (e : Ending) (w' : World) : Prop :=
  ∃ g, e = .returned (.tuple #[.pointer (some ⟨g, 0, none⟩), .int .i64 0]) ∧ PermAt w' g l b ∧ Below w.heap.size w w'

/-- The same, and all of it new. -/
def NewP2Lo (w : World) (l b : List Nat) (e : Ending) (w' : World) : Prop :=
  ∃ g, e = .returned (.tuple #[.pointer (some ⟨g, 0, none⟩), .int .i64 0]) ∧ PermAt w' g l b ∧ PermLo w.heap.size w' g ∧ Below w.heap.size w w'
set_option maxHeartbeats 2000000 in
theorem then_lo (g g' : Nat) (l b r d : List Nat) (w : World) (h : PermAt w g l b) (k : PermAt w g' r d) (he : l.length = r.length) :
    Calls Try.prog 68 #[.pointer (some ⟨g, 0, none⟩), .pointer (some ⟨g', 0, none⟩)] w (NewP2Lo w (comp l r) (comp d b)) := by
  have lenp := len_p g l b w h
  have lenq := len_p g' r d w k
  rw [← he] at lenq
  have LP := Lib.hid lenp
  have LQ := Lib.hid lenq
  clear lenp lenq
  obtain ⟨hinv, hl, A, c, A', c', hb, h1, h2⟩ := h
  obtain ⟨kinv, kl, D, cd, D', cd', kb, k1, k2⟩ := k
  obtain ⟨i0, hi0, hz0, hz1, hz2⟩ := info_parts info_int
  have hmk := run_make_one (P := Try.prog) 25 3 i0 (.int .i64 0) 8 Try.underlying25 hi0 hz0 hz1 hz2 rfl .i64 .i64 l.length (by omega) (by omega)
  have hcomp := comp_inv hinv kinv he
  have HE := Lib.hid he
  clear he kl
  go_enter Try.func68, Try.ntmps68
  go_wp2_with fail
  refine LP.out.mono ?_
  rintro e w' ⟨rfl, rfl⟩
  go_wp2_with fail
  refine LQ.out.mono ?_
  rintro e w' ⟨rfl, rfl⟩
  go_upto_region 6 with fail
  go_cut [7, 8] (fun s7 s8 wx => ∃ g7 g8 : Nat, s7 = .slice (some ⟨g7, 0, none⟩) l.length l.length ∧ s8 = .slice (some ⟨g8, 0, none⟩) l.length l.length ∧ g7 ≠ g8 ∧
    wx.ownsRow w.heap.size 3 1 (.slice (some ⟨g7, 0, none⟩) l.length l.length) l.length (I64 (List.replicate l.length 0)) ∧
    wx.ownsRow w.heap.size 3 1 (.slice (some ⟨g8, 0, none⟩) l.length l.length) l.length (I64 (List.replicate l.length 0)) ∧ Below w.heap.size w wx)
  case first =>
    have e0 := own_made w 3 l.length (.int .i64 0) (by simp only [maxLen]; omega)
    have e1 := own_made (w.alloc (.cells (List.replicate l.length (.int .i64 0)).toArray 3)) 3 l.length (.int .i64 0) (by simp only [maxLen]; omega)
    have e0' := e0.alloc (.cells (List.replicate l.length (.int .i64 0)).toArray 3)
    have e1' := e1.base_le' (show w.heap.size ≤ _ by simp)
    rw [← I64_replicate] at e0' e1'
    have hb2 := ((Below.refl w.heap.size w).alloc (Nat.le_refl _) (.cells (List.replicate l.length (.int .i64 0)).toArray 3)).alloc (by simp) (.cells (List.replicate l.length (.int .i64 0)).toArray 3)
    have E0 := Lib.hid e0'.drew
    have E1 := Lib.hid e1'.drew
    have EB := Lib.hid hb2.drew
    clear e0 e1 e0' e1' hb2
    go_region
    all_goals
      go_wp2_with fail
      go_meet
      refine ⟨_, _, rfl, rfl, by simp, ?_, ?_, by simpa [I64] using EB.out⟩
      · first
          | (simpa [I64] using E0.out)
          | (simpa [I64] using E1.out)
      · first
          | (simpa [I64] using E0.out)
          | (simpa [I64] using E1.out)
  case rest =>
    obtain ⟨g7, g8, rfl, rfl, hne, o7, o8, hbl⟩ := hcut
    go_wp2
    go_loopw [28] (fun i wr => ∃ (q : Nat) (y7 y8 : List Int), q ≤ l.length ∧ i = .int .i64 q ∧ Hid (∀ j, j < q → y7.getD j 0 = (((comp l r).getD j 0 : Nat) : Int)) ∧ Hid (∀ j, j < q → y8.getD j 0 = (((comp d b).getD j 0 : Nat) : Int)) ∧
      wr.ownsRow w.heap.size 3 1 (.slice (some ⟨g7, 0, none⟩) l.length l.length) l.length (I64 y7) ∧
      wr.ownsRow w.heap.size 3 1 (.slice (some ⟨g8, 0, none⟩) l.length l.length) l.length (I64 y8) ∧ Below w.heap.size w wr) (fun i _ => l.length - (intOf i).toNat)
    case atStart => exact ⟨0, _, _, by omega, rfl, fun j hj => absurd hj (by omega), fun j hj => absurd hj (by omega), o7, o8, hbl⟩
    case round =>
      clear o7 o8 hbl
      obtain ⟨q, y7, y8, hq, rfl, hy7, hy8, o7, o8, hbl⟩ := hrel
      by_cases hlt : q < l.length
      · have hrl : 0 < r.length := by rw [← HE.out]; omega
        obtain ⟨b1, p1, rfl, _, m1⟩ := h1.i64 (by omega)
        obtain ⟨b2, p2, rfl, _, m2⟩ := h2.i64 (by omega)
        obtain ⟨b3, p3, rfl, _, m3⟩ := k1.i64 hrl
        obtain ⟨b4, p4, rfl, _, m4⟩ := k2.i64 hrl
        have hg := hb.lt
        have hg' := kb.lt
        have lq := hinv.lt q hlt
        have dq := kinv.lt' q (by rw [← HE.out]; exact hlt)
        rw [← HE.out] at dq
        have a0 : w.cell? ⟨b1, p1 + q, none⟩ = some (.int .i64 ((l.getD q 0 : Nat) : Int)) := by rw [m1 q hlt, ofN_get]
        have a1 : w.cell? ⟨b3, p3 + l.getD q 0, none⟩ = some (.int .i64 ((r.getD (l.getD q 0) 0 : Nat) : Int)) := by rw [m3 _ (by rw [← HE.out]; exact lq), ofN_get]
        have a2 : w.cell? ⟨b4, p4 + q, none⟩ = some (.int .i64 ((d.getD q 0 : Nat) : Int)) := by rw [m4 q (by rw [← HE.out]; exact hlt), ofN_get]
        have a3 : w.cell? ⟨b2, p2 + d.getD q 0, none⟩ = some (.int .i64 ((b.getD (d.getD q 0) 0 : Nat) : Int)) := by rw [m2 _ dq, ofN_get]
        have v7 : Hid ((comp l r).getD q 0 = r.getD (l.getD q 0) 0) := comp_get l r q hlt
        have v8 : Hid ((comp d b).getD q 0 = b.getD (d.getD q 0) 0) := comp_get d b q (by rw [kinv.len, ← HE.out]; exact hlt)
        have b0 := (hbl.cell (p := ⟨b1, p1 + q, none⟩) (World.block_lt_of_cell? _ _ a0)).trans a0
        have b1' := (hbl.cell (p := ⟨b3, p3 + l.getD q 0, none⟩) (World.block_lt_of_cell? _ _ a1)).trans a1
        have b2' := (hbl.cell (p := ⟨b4, p4 + q, none⟩) (World.block_lt_of_cell? _ _ a2)).trans a2
        have b3' := (hbl.cell (p := ⟨b2, p2 + d.getD q 0, none⟩) (World.block_lt_of_cell? _ _ a3)).trans a3
        have s0 : wr.cell? ⟨g, 0, none⟩ = some (.slice (some ⟨b1, p1, none⟩) l.length c) := (hbl.cell (p := ⟨g, 0, none⟩) hg).trans (hb.cell 0)
        have s1 : wr.cell? ⟨g, 1, none⟩ = some (.slice (some ⟨b2, p2, none⟩) l.length c') := (hbl.cell (p := ⟨g, 1, none⟩) hg).trans (hb.cell 1)
        have s2 : wr.cell? ⟨g', 0, none⟩ = some (.slice (some ⟨b3, p3, none⟩) l.length cd) := (hbl.cell (p := ⟨g', 0, none⟩) hg').trans ((kb.cell 0).trans (by rw [HE.out]; rfl))
        have s3 : wr.cell? ⟨g', 1, none⟩ = some (.slice (some ⟨b4, p4, none⟩) l.length cd') := (hbl.cell (p := ⟨g', 1, none⟩) hg').trans ((kb.cell 1).trans (by rw [HE.out]; rfl))
        have hB7 := own_block o7
        have hB8 := own_block o8
        have c7 := own_cellI o7 q hlt
        have c8 := own_cellI o8 q hlt
        have f7 := o7.frozenAt q
        have f8 := o8.frozenAt q
        have n7 := own_lenI o7
        have n8 := own_lenI o8
        have N7 := Lib.hid n7
        have N8 := Lib.hid n8
        have z1 := World.block_lt_of_cell? _ _ a0
        have z2 := World.block_lt_of_cell? _ _ a1
        have z3 := World.block_lt_of_cell? _ _ a2
        have z4 := World.block_lt_of_cell? _ _ a3
        clear m1 m2 m3 m4 a0 a1 a2 a3 n7 n8
        generalize r.getD (l.getD q 0) 0 = x7 at *
        generalize b.getD (d.getD q 0) 0 = x8 at *
        generalize l.getD q 0 = lx at *
        generalize d.getD q 0 = dx at *
        generalize y7.getD q 0 = u7 at *
        generalize y8.getD q 0 = u8 at *
        have i1 : (lx : Int) < (l.length : Int) := by omega
        have i2 : (dx : Int) < (l.length : Int) := by omega
        have i3 : (q : Int) < (l.length : Int) := by omega
        clear hb kb h1 h2 k1 k2
        have far : ∀ (gg oo : Nat) (u : Value), gg ≠ g7 → wr.cell? ⟨gg, oo, none⟩ = some u → (wr.setCell ⟨g7, q, none⟩ (.int .i64 (x7 : Int))).cell? ⟨gg, oo, none⟩ = some u := fun gg oo u hn hu => by
          rw [World.cell?_setCell_other _ _ _ _ (by intro e; exact hn (by simpa using (congrArg Addr.block e).symm))]; exact hu
        have T1 := far g 1 _ (by omega) s1
        have T3 := far g' 1 _ (by omega) s3
        have T4 := far b4 (p4 + q) _ (by omega) b2'
        have T2 := far b2 (p2 + dx) _ (by omega) b3'
        have T8 := far g8 q _ (by omega) c8
        have o7' := own_setI o7 q (x7 : Int)
        have o8' : (wr.setCell ⟨g7, q, none⟩ (.int .i64 (x7 : Int))).ownsRow w.heap.size 3 1 (.slice (some ⟨g8, 0, none⟩) l.length l.length) l.length (I64 y8) :=
          own_mod (S := fun j => j = g7) o8 ((Mod.refl (fun j => j = g7) wr).setCell (p := ⟨g7, q, none⟩) (fun _ => rfl) _) (fun j hj hx => by simp [Value.ownBlock] at hj; omega)
        have o8'' := own_setI o8' q (x8 : Int)
        have o7'' : ((wr.setCell ⟨g7, q, none⟩ (.int .i64 (x7 : Int))).setCell ⟨g8, q, none⟩ (.int .i64 (x8 : Int))).ownsRow w.heap.size 3 1 (.slice (some ⟨g7, 0, none⟩) l.length l.length) l.length (I64 (y7.set q (x7 : Int))) :=
          own_mod (S := fun j => j = g8) o7' ((Mod.refl (fun j => j = g8) _).setCell (p := ⟨g8, q, none⟩) (fun _ => rfl) _) (fun j hj hx => by simp [Value.ownBlock] at hj; omega)
        have O7 := Lib.hid o7''
        have O8 := Lib.hid o8''
        have BL : Hid (Below w.heap.size w ((wr.setCell ⟨g7, q, none⟩ (.int .i64 (x7 : Int))).setCell ⟨g8, q, none⟩ (.int .i64 (x8 : Int)))) := (hbl.setCell hB7.1 _).setCell hB8.1 _
        clear far o7' o8' o7'' o8'' o7 o8
        go_wp2
        go_region
        go_wp2
        go_region
        go_wp2
        go_roundw
        case rel =>
          refine ⟨q + 1, y7.set q (x7 : Int), y8.set q (x8 : Int), by omega, by go_num, fun j hj => ?_, fun j hj => ?_, O7.out, O8.out, ⟨BL.out.os, BL.out.tape, BL.out.output, BL.out.size, BL.out.block⟩⟩
          · rw [getDI_set _ _ _ _ (by rw [N7.out]; exact hlt)]
            by_cases e : j = q
            · subst e; rw [if_pos rfl, v7.out]
            · rw [if_neg e]; exact hy7.out j (by omega)
          · rw [getDI_set _ _ _ _ (by rw [N8.out]; exact hlt)]
            by_cases e : j = q
            · subst e; rw [if_pos rfl, v8.out]
            · rw [if_neg e]; exact hy8.out j (by omega)
        case measure => simp [intOf]; omega
      · obtain rfl : q = l.length := by omega
        have n7 := own_lenI o7
        have n8 := own_lenI o8
        have hyk7 : y7 = ofN (comp l r) := getDI_ext (by rw [n7, ofN_len, comp_len]) fun i hi => by rw [n7] at hi; rw [hy7.out i hi, ofN_get]
        have hyk8 : y8 = ofN (comp d b) := getDI_ext (by rw [n8, ofN_len, comp_len, kinv.len, HE.out]) fun i hi => by rw [n8] at hi; rw [hy8.out i hi, ofN_get]
        have HY7 := Lib.hid hyk7
        have HY8 := Lib.hid hyk8
        clear hyk7 hyk8 n7 n8 hb kb h1 h2 k1 k2
        go_wp2
        go_ret2
        have hb3 : Below wr.heap.size wr (wr.alloc (.cells #[.slice (some ⟨g7, 0, none⟩) l.length l.length, .slice (some ⟨g8, 0, none⟩) l.length l.length] 72)) := (Below.refl _ _).alloc (Nat.le_refl _) _
        have hr7 := (Rd.ofOwn o7).more hb3
        have hr8 := (Rd.ofOwn o8).more hb3
        rw [HY7.out] at hr7
        rw [HY8.out] at hr8
        refine ⟨wr.heap.size, rfl, ⟨hcomp, by rw [comp_len]; exact hl, some ⟨g7, 0, none⟩, l.length, some ⟨g8, 0, none⟩, l.length, ?_, ?_, ?_⟩, ⟨some ⟨g7, 0, none⟩, l.length, l.length, some ⟨g8, 0, none⟩, l.length, l.length, Blk.new wr _ _, hbl.size, fun a e => by cases e; exact (own_block o7).1, fun a e => by cases e; exact (own_block o8).1⟩, hbl.trans (hb3.mono hbl.size)⟩
        · rw [comp_len]; exact Blk.new wr _ _
        · rw [comp_len]; exact hr7
        · rw [comp_len]; exact hr8

theorem then_p (g g' : Nat) (l b r d : List Nat) (w : World) (h : PermAt w g l b) (k : PermAt w g' r d) (he : l.length = r.length) :
    Calls Try.prog 68 #[.pointer (some ⟨g, 0, none⟩), .pointer (some ⟨g', 0, none⟩)] w (NewP2 w (comp l r) (comp d b)) :=
  (then_lo g g' l b r d w h k he).mono fun e w' ⟨g, he, hp, _, hb⟩ => ⟨g, he, hp, hb⟩
/-! ### Same -/
theorem PermAt.drewN {w : World} {g : Nat} {l b : List Nat} (h : PermAt w g l b) (k : Nat) : PermAt (w.drewN k) g l b := h.below (below_draws (Below.refl _ _) k)

set_option maxHeartbeats 1000000 in
theorem same_pp (g g' : Nat) (l b r d : List Nat) (w : World) (h : PermAt w g l b) (k : PermAt w g' r d) :
    Calls Try.prog 49 #[.pointer (some ⟨g, 0, none⟩), .pointer (some ⟨g', 0, none⟩)] w fun e w' => e = .returned (.bool (decide (l = r))) ∧ ∃ j, w' = w.drewN j := by
  have LP : Hid (∀ j, Calls Try.prog 51 #[.pointer (some ⟨g, 0, none⟩)] (w.drewN j) fun e w' => e = .returned (.int .i64 (l.length : Int)) ∧ w.drewN j = w') := fun j => len_p g l b _ (h.drewN j)
  have LP0 := Lib.hid (len_p g l b w h)
  have LQ0 := Lib.hid (len_p g' r d w k)
  by_cases hlen : l.length = r.length
  · by_cases h0 : l.length = 0
    · have hl0 : l = [] := List.eq_nil_of_length_eq_zero h0
      have hr0 : r = [] := List.eq_nil_of_length_eq_zero (by omega)
      subst hl0 hr0
      clear h k hlen h0
      go_enter Try.func49, Try.ntmps49
      go_wp2_with fail
      refine LP0.out.mono ?_
      rintro e w' ⟨rfl, rfl⟩
      go_wp2_with fail
      refine LQ0.out.mono ?_
      rintro e w' ⟨rfl, rfl⟩
      go_wp2_with fail
      go_quiet ((go_at_call 51; exact Calls.quiet_of_same ((LP.out _).mono fun e w' ⟨he, hw⟩ => ⟨he, hw.symm⟩)))
      go_wp2
      go_ret
      exact ⟨rfl, nq, rfl⟩
    · have hb0 : ((l.length : Int) == 0) = false := by simpa using h0
      have hne : ((l.length : Int) != (r.length : Int)) = false := by rw [hlen]; simp
      obtain ⟨hinv, hl, A, c, A', c', hb, h1, h2⟩ := h
      obtain ⟨kinv, kl, D, cd, D', cd', kb, k1, k2⟩ := k
      have s0 : w.cell? ⟨g, 0, none⟩ = some (.slice A l.length c) := hb.cell 0
      have s1 : w.cell? ⟨g', 0, none⟩ = some (.slice D r.length cd) := kb.cell 0
      have EQ : Hid (∀ j, Calls Try.prog 41 #[.slice A l.length c, .slice D r.length cd] (w.drewN j) fun e w' => e = .returned (.bool (decide (l = r))) ∧ ∃ m, w' = (w.drewN j).drewN m) := fun j => by
        have := equalI_any A D l.length c r.length cd _ _ (ofN l) (ofN r) (w.drewN j) (h1.drewN j) (k1.drewN j) (by omega) (by omega)
        refine this.mono fun e w' ⟨he, hw⟩ => ⟨?_, hw⟩
        rw [he]
        congr 2
        rw [decide_eq_decide]
        constructor
        · intro e'
          refine getD_ext hlen fun i hi => ?_
          have := congrArg (fun q => q.getD i 0) e'
          simp only [ofN_get] at this
          omega
        · rintro rfl; rfl
      generalize decide (l = r) = res at *
      clear hinv kinv hb kb h1 h2 k1 k2 hlen h0
      go_enter Try.func49, Try.ntmps49
      go_wp2_with fail
      refine LP0.out.mono ?_
      rintro e w' ⟨rfl, rfl⟩
      go_wp2_with fail
      refine LQ0.out.mono ?_
      rintro e w' ⟨rfl, rfl⟩
      go_wp2_with fail
      go_quiet ((first
        | (go_at_call 51; exact Calls.quiet_of_same ((LP.out _).mono fun e w' ⟨he, hw⟩ => ⟨he, hw.symm⟩))
        | (go_at_call 41; exact Calls.quiet_of (EQ.out _))))
      go_wp2
      go_ret
      exact ⟨rfl, nq, rfl⟩
  · have hne : ((l.length : Int) != (r.length : Int)) = true := by rw [bne_iff_ne]; omega
    have hd : decide (l = r) = false := decide_eq_false fun e => hlen (by rw [e])
    have HD := Lib.hid hd
    clear hd h k hlen
    go_enter Try.func49, Try.ntmps49
    go_wp2_with fail
    refine LP0.out.mono ?_
    rintro e w' ⟨rfl, rfl⟩
    go_wp2_with fail
    refine LQ0.out.mono ?_
    rintro e w' ⟨rfl, rfl⟩
    go_wp2_with fail
    go_ret
    exact ⟨by rw [HD.out]; rfl, 0, rfl⟩
end Go.Proofs.Ythbhbcakiaaapaa
