/- Read, and what a reader answers. -/
import Derived.Test.YtdpejjokdncfnaaDoorBSameG
import Derived.Deep.RegionWith
import Derived.Deep.RegionLaw
namespace Go.Proofs.YtdpejjokdncfnaaDoor
open Go.RowKit
set_option linter.unusedVariables false

/-- At r lies a reader of the n bits V that stands at the place p. -/
def ReadAt (w : World) (B r V n p : Nat) : Prop :=
  p ≤ n ∧ B ≤ r ∧ ∃ g A, g ≠ r ∧ A ≠ some ⟨r, 0, none⟩ ∧ B ≤ g ∧ VecB w B g V n A ∧ Blk w r 104 #[.pointer (some ⟨g, 0, none⟩), .int .i64 (p : Int)]
theorem ReadAt.below {w w' : World} {B r V n p : Nat} (h : ReadAt w B r V n p) (m : Below w.heap.size w w') : ReadAt w' B r V n p := by
  obtain ⟨h1, h2, g, A, h3, h4, h5, h6, h7⟩ := h
  exact ⟨h1, h2, g, A, h3, h4, h5, h6.below m, h7.below m⟩
theorem ReadAt.mod {w w' : World} {S : Nat → Prop} {B r V n p : Nat} (h : ReadAt w B r V n p) (m : Mod S w w') (hs : ∀ i, B ≤ i → i < w.heap.size → ¬ S i) : ReadAt w' B r V n p := by
  obtain ⟨h1, h2, g, A, h3, h4, h5, h6, h7⟩ := h
  refine ⟨h1, h2, g, A, h3, h4, h5, h6.mod m fun i hi => ?_, h7.mod m (hs r h2 h7.lt)⟩
  have hl := h6.foot_lt hi
  rcases h6.foot_le hi with rfl | h
  · exact hs _ h5 hl
  · exact hs _ h hl
set_option maxHeartbeats 1000000 in
theorem read_p (g V n B : Nat) (A : Option Addr) (w : World) (h : VecB w B g V n A) :
    Calls Tryd.prog 44 #[.pointer (some ⟨g, 0, none⟩)] w fun e w' => ∃ r, e = .returned (.pointer (some ⟨r, 0, none⟩)) ∧ ReadAt w' w.heap.size r V n 0 ∧ Below w.heap.size w w' := by
  obtain ⟨hV, hn, c, hb, ho⟩ := h
  obtain ⟨q, hq⟩ : ∃ q, q = (n + 63) / 64 := ⟨_, rfl⟩
  have HQ := Lib.hid hq
  rw [← hq] at hb ho
  have s0 : w.cell? ⟨g, 0, none⟩ = some (.slice A q c) := hb.cell 0
  have s1 : w.cell? ⟨g, 1, none⟩ = some (.int .i64 (n : Int)) := hb.cell 1
  have hgl := hb.lt
  have CL : Hid (Calls Tryd.prog 60 #[.slice A q c] w.drew (NewU64 w.drew (words V q))) :=
    cloneU A q c _ _ _ ((Rd.ofOwn ho).drewN 1) (by omega)
  clear hb ho hq
  go_enter Tryd.func44, Tryd.ntmps44
  go_wp2_with fail
  go_region_with (first
    | (go_at_call 60; refine CL.out.mono ?_; rintro e w9 ⟨A9, c9, rfl, hc9, hm9, hown9, hb9⟩; rw [words_len] at hown9 ⊢; have hx9 : w9.cell? ⟨g, 1, none⟩ = some (.int .i64 (n : Int)) := (hb9.cell (p := ⟨g, 1, none⟩) hgl).trans s1; have HO9 := Lib.hid hown9; have HB9 := Lib.hid hb9; clear hown9 hb9))
  all_goals (
    go_wp2_with fail
    go_ret
    clear s0 s1 hx9
    have hs9 := HB9.out.size
    refine ⟨w9.heap.size + 1, rfl, ⟨Nat.zero_le _, ?_, w9.heap.size, A9, by omega, ?_, ?_, ⟨hV, hn, c9, ?_, ?_⟩, ?_⟩, ?_⟩
    · exact Nat.le_trans hs9 (Nat.le_succ _)
    · intro e
      obtain ⟨b, hb1, hb2⟩ : ∃ b, A9 = some ⟨b, 0, none⟩ ∧ b < w9.heap.size := by
        rcases HO9.out.2 with ⟨h2, _⟩ | ⟨g', cap, cur, hv, _, hg', _⟩
        · simp only [Value.slice.injEq] at h2
          rw [h2.1] at e; cases e
        · simp only [Value.slice.injEq] at hv
          exact ⟨g', hv.1, (Array.getElem?_eq_some_iff.1 hg').1⟩
      rw [hb1] at e
      have e2 : b = w9.heap.size + 1 := (Addr.mk.inj (Option.some.inj e)).1
      omega
    · exact hs9
    · rw [← HQ.out]
      exact (Blk.new w9 _ _).alloc _
    · rw [← HQ.out]
      exact (HO9.out.alloc _).alloc _
    · have := Blk.new (w9.alloc (.cells #[.slice A9 q c9, .int .i64 (n : Int)] 53)) 104 #[.pointer (some ⟨w9.heap.size, 0, none⟩), .int .i64 0]
      simpa using this
    · exact (((Below.refl _ _).drew.trans HB9.out).alloc hs9 _).alloc (Nat.le_trans hs9 (by simp)) _)
theorem read_nil (w : World) :
    Calls Tryd.prog 44 #[.pointer none] w fun e w' => e = .returned (.pointer none) ∧ w = w' := by
  go_enter Tryd.func44, Tryd.ntmps44
  go_wp2
  go_ret
  exact ⟨rfl, rfl⟩
theorem left_nil (w : World) :
    Calls Tryd.prog 45 #[.pointer none] w fun e w' => e = .returned (.int .i64 0) ∧ w = w' := by
  go_enter Tryd.func45, Tryd.ntmps45
  go_wp2
  go_ret
  exact ⟨rfl, rfl⟩
theorem rnum_nil (k : Int) (w : World) :
    Calls Tryd.prog 46 #[.pointer none, .int .i64 k] w fun e w' => e = .returned (.tuple #[.int .u64 0, .int .i64 2]) ∧ w = w' := by
  go_enter Tryd.func46, Tryd.ntmps46
  go_wp2
  go_ret2
  exact ⟨rfl, rfl⟩
theorem left_p (B r V n p : Nat) (w : World) (h : ReadAt w B r V n p) :
    Calls Tryd.prog 45 #[.pointer (some ⟨r, 0, none⟩)] w fun e w' => e = .returned (.int .i64 ((n - p : Nat) : Int)) ∧ ∃ j, w' = w.drewN j := by
  obtain ⟨hp, _, g, A, _, _, _, hv, hb⟩ := h
  have hn := hv.2.1
  have LP : Hid (∀ j, Calls Tryd.prog 42 #[.pointer (some ⟨g, 0, none⟩)] (w.drewN j) fun e w' => e = .returned (.int .i64 (n : Int)) ∧ w.drewN j = w') := fun j => blen_p g V n A _ (hv.drewN j)
  have s0 : w.cell? ⟨r, 0, none⟩ = some (.pointer (some ⟨g, 0, none⟩)) := hb.cell 0
  have s1 : w.cell? ⟨r, 1, none⟩ = some (.int .i64 (p : Int)) := hb.cell 1
  have he : Hid ((n : Int) - (p : Int) = ((n - p : Nat) : Int)) := by show _ = _; omega
  clear hv hb
  go_enter Tryd.func45, Tryd.ntmps45
  go_wp2_with fail
  go_quiet ((go_at_call 42; exact Calls.quiet_of_same ((LP.out _).mono fun e w' ⟨he, hw⟩ => ⟨he, hw.symm⟩)))
  go_wp2
  go_ret
  exact ⟨by rw [← he.out]; rfl, nq, rfl⟩
/-- What the next bits are: refused, or read. -/
theorem rnum_no (B r V n p : Nat) (k : Int) (w : World) (h : ReadAt w B r V n p) (hk : -9223372036854775808 ≤ k ∧ k ≤ 9223372036854775807) (hno : n - p < cnt64 k) :
    Calls Tryd.prog 46 #[.pointer (some ⟨r, 0, none⟩), .int .i64 k] w fun e w' => e = .returned (.tuple #[.int .u64 0, .int .i64 3]) ∧ ∃ j, w' = w.drewN j := by
  have C := Lib.hid (count_p k w hk)
  have L := Lib.hid (left_p B r V n p w h)
  generalize cnt64 k = kk at *
  generalize n - p = m at *
  have hc : (m : Int) < (kk : Int) := by omega
  clear h hno
  go_enter Tryd.func46, Tryd.ntmps46
  go_wp2_with fail
  refine C.out.mono ?_
  rintro e w' ⟨rfl, rfl⟩
  go_wp2_with fail
  refine L.out.mono ?_
  rintro e w' ⟨rfl, j, rfl⟩
  go_wp2_with fail
  go_ret2
  exact ⟨rfl, j, rfl⟩
/-- .. with the copy that it reads. -/
def ReadG (w : World) (B r V n p g : Nat) (A : Option Addr) : Prop :=
  p ≤ n ∧ B ≤ r ∧ g ≠ r ∧ A ≠ some ⟨r, 0, none⟩ ∧ B ≤ g ∧ VecB w B g V n A ∧ Blk w r 104 #[.pointer (some ⟨g, 0, none⟩), .int .i64 (p : Int)]
theorem ReadG.toAt {w : World} {B r V n p g : Nat} {A : Option Addr} (h : ReadG w B r V n p g A) : ReadAt w B r V n p := by
  obtain ⟨h1, h2, h3, h4, h5, h6, h7⟩ := h
  exact ⟨h1, h2, g, A, h3, h4, h5, h6, h7⟩
theorem ReadAt.toG {w : World} {B r V n p : Nat} (h : ReadAt w B r V n p) : ∃ g A, ReadG w B r V n p g A := by
  obtain ⟨h1, h2, g, A, h3, h4, h5, h6, h7⟩ := h
  exact ⟨g, A, h1, h2, h3, h4, h5, h6, h7⟩
theorem ReadG.below {w w' : World} {B r V n p g : Nat} {A : Option Addr} (h : ReadG w B r V n p g A) (m : Below w.heap.size w w') : ReadG w' B r V n p g A := by
  obtain ⟨h1, h2, h3, h4, h5, h6, h7⟩ := h
  exact ⟨h1, h2, h3, h4, h5, h6.below m, h7.below m⟩
theorem ReadG.mod {w w' : World} {S : Nat → Prop} {B r V n p g : Nat} {A : Option Addr} (h : ReadG w B r V n p g A) (m : Mod S w w') (hr : ¬ S r) (hs : ∀ i, foot g A i → ¬ S i) : ReadG w' B r V n p g A := by
  obtain ⟨h1, h2, h3, h4, h5, h6, h7⟩ := h
  exact ⟨h1, h2, h3, h4, h5, h6.mod m hs, h7.mod m hr⟩
set_option maxRecDepth 20000 in
set_option maxHeartbeats 1000000 in
theorem rnum_g (B r V n p g : Nat) (A : Option Addr) (k : Int) (w : World) (h : ReadG w B r V n p g A) (hk : -9223372036854775808 ≤ k ∧ k ≤ 9223372036854775807) (hyes : cnt64 k ≤ n - p) :
    Calls Tryd.prog 46 #[.pointer (some ⟨r, 0, none⟩), .int .i64 k] w fun e w' => e = .returned (.tuple #[.int .u64 ((V / 2 ^ p % 2 ^ cnt64 k : Nat) : Int), .int .i64 0]) ∧ ReadG w' B r V n (p + cnt64 k) g A ∧ Mod (fun i => i = r) w w' := by
  have C := Lib.hid (count_p k w hk)
  have L := Lib.hid (left_p B r V n p w h.toAt)
  have hk64 : cnt64 k ≤ 64 := by unfold cnt64; split <;> (try split) <;> omega
  generalize cnt64 k = kk at *
  have hc : ¬ ((n - p : Nat) : Int) < (kk : Int) := by omega
  have H := Lib.hid h
  obtain ⟨hp, hBr, hgr, hAr, hBg, hv, hb⟩ := h
  have hn := hv.2.1
  rcases Nat.eq_zero_or_pos kk with h0 | h0
  · subst h0
    clear hc hv hb
    generalize n - p = m at *
    go_enter Tryd.func46, Tryd.ntmps46
    go_wp2_with fail
    refine C.out.mono ?_
    rintro e w' ⟨rfl, rfl⟩
    go_wp2_with fail
    refine L.out.mono ?_
    rintro e w' ⟨rfl, j, rfl⟩
    go_wp2_with fail
    go_ret2
    refine ⟨by simp [Nat.mod_one], H.out.below (below_draws (Below.refl _ _) j), (Mod.refl _ w).drewN j⟩
  · have hk0 : ¬ kk = 0 := by omega
    have HP := Lib.hid hyes
    have hpk : p + kk ≤ n := by omega
    have GP : Hid (∀ j, Calls Tryd.prog 61 #[.pointer (some ⟨g, 0, none⟩), .int .i64 (p : Int), .int .i64 (kk : Int)] (w.drewN j) fun e w' => e = .returned (.int .u64 ((V / 2 ^ p % 2 ^ kk : Nat) : Int)) ∧ w.drewN j = w') :=
      fun j => get_p g V n p kk A _ (hv.drewN j) h0 hk64 hpk
    have s0 : w.cell? ⟨r, 0, none⟩ = some (.pointer (some ⟨g, 0, none⟩)) := hb.cell 0
    have s1 : w.cell? ⟨r, 1, none⟩ = some (.int .i64 (p : Int)) := hb.cell 1
    have f1 := hb.frozen 1
    have HV := Lib.hid hv
    have HB := Lib.hid hb
    clear hv hb
    generalize V / 2 ^ p % 2 ^ kk = x at *
    generalize n - p = m at *
    go_enter Tryd.func46, Tryd.ntmps46
    go_wp2_with fail
    refine C.out.mono ?_
    rintro e w' ⟨rfl, rfl⟩
    go_wp2_with fail
    refine L.out.mono ?_
    rintro e w' ⟨rfl, j, rfl⟩
    go_wp2_with fail
    go_quiet ((go_at_call 61; exact (GP.out _).mono fun e w' h => ⟨h.1, _, h.2.symm⟩))
    go_wp2
    go_ret2
    have mm : Mod (fun i => i = r) (w.drewN (j + nq)) ((w.drewN (j + nq)).setCell ⟨r, 1, none⟩ (.int .i64 ((p : Int) + (kk : Int)))) :=
      Mod.setCell (p := ⟨r, 1, none⟩) (Mod.refl (fun i => i = r) _) (fun _ => rfl) _
    refine ⟨rfl, ⟨hpk, hBr, hgr, hAr, hBg, (HV.out.drewN _).mod mm ?_, ?_⟩, Mod.setCell (p := ⟨r, 1, none⟩) ((Mod.refl (fun i => i = r) w).drewN _) (fun _ => rfl) _⟩
    · rintro i (rfl | ⟨b, rfl, rfl⟩) hi
      · exact hgr hi
      · exact hAr (by rw [hi])
    · have := (HB.out.drewN (j + nq)).set_ 1 (.int .i64 ((p : Int) + (kk : Int)))
      simpa using this
theorem rnum_yes (B r V n p : Nat) (k : Int) (w : World) (h : ReadAt w B r V n p) (hk : -9223372036854775808 ≤ k ∧ k ≤ 9223372036854775807) (hyes : cnt64 k ≤ n - p) :
    Calls Tryd.prog 46 #[.pointer (some ⟨r, 0, none⟩), .int .i64 k] w fun e w' => e = .returned (.tuple #[.int .u64 ((V / 2 ^ p % 2 ^ cnt64 k : Nat) : Int), .int .i64 0]) ∧ ReadAt w' B r V n (p + cnt64 k) ∧ Mod (fun i => i = r) w w' := by
  obtain ⟨g, A, hg⟩ := h.toG
  exact (rnum_g B r V n p g A k w hg hk hyes).mono fun e w' ⟨he, h1, h2⟩ => ⟨he, h1.toAt, h2⟩
end Go.Proofs.YtdpejjokdncfnaaDoor
