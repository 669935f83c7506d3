/- Num: bits put behind. -/
import Derived.Test.YtcefohjddbjcjaaZBVec
import Derived.Test.YtcefohjddbjcjaaZAppendK
import Derived.BigRegion
import Derived.Deep.DeepMust
namespace Go.Proofs.Ytcefohjddbjcjaa
open Go.RowKit
set_option linter.unusedVariables false

theorem num_nil (x : Nat) (k : Int) (w : World) (h : -9223372036854775808 ≤ k ∧ k ≤ 9223372036854775807) :
    Calls Try.prog 36 #[.pointer none, .int .u64 (x : Int), .int .i64 k] w fun e w' => e = .returned (.tuple #[]) ∧ w = w' := by
  have C := Lib.hid (count_p k w h)
  go_enter Try.func36, Try.ntmps36
  go_wp2_with fail
  refine C.out.mono ?_
  rintro e w' ⟨rfl, rfl⟩
  go_wp2
  exact bodyPost_ret (results_none rfl _ _ _) rfl ⟨rfl, rfl⟩
theorem num_zeroB (g x : Nat) (k : Int) (w : World) (h : -9223372036854775808 ≤ k ∧ k ≤ 0) :
    Calls Try.prog 36 #[.pointer (some ⟨g, 0, none⟩), .int .u64 (x : Int), .int .i64 k] w fun e w' => e = .returned (.tuple #[]) ∧ w = w' := by
  have C := Lib.hid (count_p k w ⟨h.1, by omega⟩)
  have hc : cnt64 k = 0 := by unfold cnt64; rw [if_pos h.2]
  rw [hc] at C
  go_enter Try.func36, Try.ntmps36
  go_wp2_with fail
  refine C.out.mono ?_
  rintro e w' ⟨rfl, rfl⟩
  go_wp2
  exact bodyPost_ret (results_none rfl _ _ _) rfl ⟨rfl, rfl⟩

/-- What the old row holds behind Num: each word as it was, or as it is now. -/
def OldK (w' : World) (A : Option Addr) (V V' n : Nat) : Prop :=
  ∀ b, A = some ⟨b, 0, none⟩ → ∀ i, i < (n + 63) / 64 → w'.cell? ⟨b, i, none⟩ = some (.int .u64 ((wd V i : Nat) : Int)) ∨ w'.cell? ⟨b, i, none⟩ = some (.int .u64 ((wd V' i : Nat) : Int))
theorem OldK.same {w' : World} {g V V' n n' : Nat} {A : Option Addr} (h : VecAt w' g V' n' A) (hn : n ≤ n') : OldK w' A V V' n := by
  obtain ⟨_, _, c, _, ho⟩ := h
  intro b hb i hi
  subst hb
  right
  rw [ho.cellAt i (by omega), U64_get _ _ (by rw [words_len]; omega), words_get _ _ _ (by omega)]
theorem info_u64 : (Try.prog.info? 22).map (fun i => (i.zero, i.size, i.bytes)) = some (some (.int .u64 0), 1, 8) := by kernel_rfl
set_option maxRecDepth 20000 in
set_option maxHeartbeats 2000000 in
theorem num_new (g V n x kk : Nat) (k : Int) (A : Option Addr) (w : World) (h : VecAt w g V n A) (hx : x < 2 ^ 64) (hk : -9223372036854775808 ≤ k ∧ k ≤ 9223372036854775807) (hkk : cnt64 k = kk) (hk1 : 1 ≤ kk) (hk64 : kk ≤ 64) (hn : n + 64 ≤ 1000000) (hs : n % 64 = 0) :
    Calls Try.prog 36 #[.pointer (some ⟨g, 0, none⟩), .int .u64 (x : Int), .int .i64 k] w fun e w' => e = .returned (.tuple #[]) ∧
      ∃ A', VecAt w' g (put V n x kk) (n + kk) A' ∧ Mod (fun i => i = g ∨ (∃ b, A = some ⟨b, 0, none⟩ ∧ i = b)) w w' ∧ (A' = A ∨ ∃ b, A' = some ⟨b, 0, none⟩ ∧ w.heap.size ≤ b) ∧ OldK w' A V (put V n x kk) n := by
  have C := Lib.hid (count_p k w hk)
  rw [hkk] at C
  have L := Lib.hid (low_p kk w hk64)
  obtain ⟨i0, hi0, hz0, hz1, hz2⟩ := info_parts info_u64
  obtain ⟨hV, hn1, c, hb, ho⟩ := h
  obtain ⟨m, hm⟩ : ∃ m, m = (n + 63) / 64 := ⟨_, rfl⟩
  rw [← hm] at hb ho
  have c0 : w.cell? ⟨g, 0, none⟩ = some (.slice A m c) := hb.cell 0
  have c1 : w.cell? ⟨g, 1, none⟩ = some (.int .i64 (n : Int)) := hb.cell 1
  obtain ⟨X, hX⟩ : ∃ X, X = x % 2 ^ kk := ⟨_, rfl⟩
  have hand : bits .and .u64 (x : Int) ((2 ^ kk - 1 : Nat) : Int) = ((X : Nat) : Int) := by
    rw [u64_and_nat _ _ hx (Nat.lt_of_lt_of_le (Nat.sub_lt (Nat.two_pow_pos kk) Nat.one_pos) (Nat.pow_le_pow_right (by omega) hk64)), Nat.and_two_pow_sub_one_eq_mod, hX]
  have hr : (n : Int) % 64 = 0 := by omega
  have ho' := ho.alloc (.cells #[.int .u64 (X : Int)] 22)
  have hnw := cell_one_new w (.int .u64 (X : Int)) 22
  have hsz : (w.alloc (.cells #[.int .u64 (X : Int)] 22)).heap.size = w.heap.size + 1 := by simp
  have t1 : m + 1 ≤ maxLen := by simp only [maxLen]; omega
  have t2 : (m + 1) * 8 ≤ 140737488355328 := by omega
  have hgl := hb.lt
  have t3 : g + 1 ≤ (w.alloc (.cells #[.int .u64 (X : Int)] 22)).heap.size := by simp; omega
  have h1s : ∀ u ∈ [Value.int .u64 (X : Int)], u.oneCell' = true := by intro u hu; simp at hu; subst hu; rfl
  have HB := Lib.hid hb
  have HXX := Lib.hid hX
  have HMM := Lib.hid hm
  have hk0 : ¬ kk = 0 := by omega
  have HSS := Lib.hid hs
  clear hb ho hX hm hkk hs
  generalize hP : 2 ^ kk - 1 = PP at *
  clear hP
  go_enter Try.func36, Try.ntmps36
  go_wp2_with fail
  refine C.out.mono ?_
  rintro e w' ⟨rfl, rfl⟩
  go_wp2_with fail
  refine L.out.mono ?_
  rintro e w' ⟨rfl, rfl⟩
  go_wp2_with (first
    | (at_builtin; go_must (refine wpList_append_keep _ rfl _ _ 62 rfl (g + 1) 22 i0 (.int .u64 0) 1 8 Try.underlying62 hi0 hz0 hz1 hz2 rfl (by decide) (.slice A m c) m _ rfl ho' ⟨w.heap.size, 0, none⟩ 1 1 [.int .u64 (X : Int)] rfl rfl hnw h1s (by decide) t1 t2 t3 _ hsz ?_)))
  intro gg c6 w6 hown6 hg6 hor hlt6 hkp
  have hne : ∀ q, (Value.slice A m c).ownBlock = some q → q ≠ g := fun q hq e => by have := (ho'.lt q hq).1; omega
  have m6 := Mod.ofGrown hg6
  have b6 : Blk w6 g 64 #[.slice A m c, .int .i64 (n : Int)] := (HB.out.alloc _).mod m6 (fun e => hne g e.symm rfl)
  have d1 : w6.cell? ⟨g, 1, none⟩ = some (.int .i64 (n : Int)) := b6.cell 1
  have d0 : w6.cell? ⟨g, 0, none⟩ = some (.slice A m c) := b6.cell 0
  have f0 := b6.frozen 0
  have f1 := b6.frozen 1
  have B6 := Lib.hid b6
  have M6 := Lib.hid m6
  have HOR := Lib.hid hor
  have HNE := Lib.hid hne
  have HO := Lib.hid ho'
  have HG := Lib.hid hg6
  have HOWN := Lib.hid hown6
  have HKP := Lib.hid hkp
  clear b6 m6 hor hne ho' hg6 hown6 hnw hsz h1s t1 t2 t3 hkp
  go_wp2
  refine bodyPost_end (results_none rfl _ _ _) rfl ⟨rfl, some ⟨gg, 0, none⟩, ?_, ?_, ?_, ?_⟩
  · have hn64 : n = 64 * m := by have := HSS.out; have := HMM.out; omega
    have hm1 : (n + kk + 63) / 64 = m + 1 := by omega
    refine ⟨put_lt x kk hV, by omega, c6, ?_, ?_⟩
    · rw [hm1]
      have := (B6.out.set_ 0 (.slice (some ⟨gg, 0, none⟩) (m + 1) c6)).set_ 1 (.int .i64 ((n : Int) + (kk : Int)))
      simpa using this
    · rw [hm1]
      have hw : U64 (words V m) ++ [Value.int .u64 (X : Int)] = U64 (words (put V n x kk) (m + 1)) := by
        rw [words_next, U64_append, wd_put_new x kk m hV hn64 hk64, ← HXX.out]
        refine congrArg (· ++ _) (congrArg U64 (List.map_congr_left fun i hi => ?_))
        rw [List.mem_range] at hi
        exact (wd_put_low x kk i hV (by omega)).symm
      rw [← hw]
      have mm : Mod (fun i => i = g) w6 ((w6.setCell ⟨g, 0, none⟩ (.slice (some ⟨gg, 0, none⟩) (m + 1) c6)).setCell ⟨g, 1, none⟩ (.int .i64 ((n : Int) + (kk : Int)))) :=
        Mod.setCell (p := ⟨g, 1, none⟩) (Mod.setCell (p := ⟨g, 0, none⟩) (Mod.refl (fun i => i = g) w6) (fun _ => rfl) _) (fun _ => rfl) _
      exact own_mod HOWN.out mm (fun q hq hx => by have := (HOWN.out.lt q hq).1; omega)
  · have ha : ∀ i, some i = (Value.slice A m c).ownBlock → i = g ∨ ∃ b, A = some ⟨b, 0, none⟩ ∧ i = b := fun i hi => by
      rcases HO.out.2 with ⟨h1, _⟩ | ⟨g', cap, cur, hv, _⟩
      · rw [h1] at hi; simp [Value.ownBlock] at hi
      · simp only [Value.slice.injEq] at hv
        rw [hv.1] at hi ⊢
        simp [Value.ownBlock] at hi
        exact .inr ⟨g', rfl, hi⟩
    exact ((((Mod.refl _ w).alloc _).trans M6.out (fun i _ hi => ha i hi)).setCell (fun _ => .inl rfl) _).setCell (fun _ => .inl rfl) _
  · rcases HOR.out with h1 | h1
    · left
      rcases HO.out.2 with ⟨h2, _⟩ | ⟨g', cap, cur, hv, _⟩
      · rw [h2] at h1; simp [Value.ownBlock] at h1
      · simp only [Value.slice.injEq] at hv
        rw [hv.1] at h1 ⊢
        simp [Value.ownBlock] at h1
        rw [h1]
    · right
      exact ⟨gg, rfl, by omega⟩
  · intro b hb i hi
    left
    have hbg : g + 1 ≤ b := by
      subst hb
      exact (HO.out.lt b rfl).1
    have hi2 : i < m := by rw [HMM.out]; exact hi
    have h1 := HKP.out b c (by rw [hb]) i (.int .u64 ((wd V i : Nat) : Int)) (by rw [U64_get _ _ (by rw [words_len]; exact hi2), words_get _ _ _ hi2])
    have h2 : (⟨b, i, none⟩ : Addr) ≠ ⟨g, 0, none⟩ := fun e => by have := congrArg Addr.block e; simp at this; omega
    have h3 : (⟨b, i, none⟩ : Addr) ≠ ⟨g, 1, none⟩ := fun e => by have := congrArg Addr.block e; simp at this; omega
    rw [World.cell?_setCell_other _ _ _ _ h3.symm, World.cell?_setCell_other _ _ _ _ h2.symm]
    exact h1

set_option maxRecDepth 20000 in
set_option maxHeartbeats 2000000 in
theorem num_last (g V n x kk : Nat) (k : Int) (A : Option Addr) (w : World) (h : VecAt w g V n A) (hx : x < 2 ^ 64) (hk : -9223372036854775808 ≤ k ∧ k ≤ 9223372036854775807) (hkk : cnt64 k = kk) (hk1 : 1 ≤ kk) (hk64 : kk ≤ 64) (hn : n + 64 ≤ 1000000) (s : Nat) (hs : n % 64 = s) (hs0 : 0 < s) (hsk : s + kk ≤ 64) :
    Calls Try.prog 36 #[.pointer (some ⟨g, 0, none⟩), .int .u64 (x : Int), .int .i64 k] w fun e w' => e = .returned (.tuple #[]) ∧
      ∃ A', VecAt w' g (put V n x kk) (n + kk) A' ∧ Mod (fun i => i = g ∨ (∃ b, A = some ⟨b, 0, none⟩ ∧ i = b)) w w' ∧ (A' = A ∨ ∃ b, A' = some ⟨b, 0, none⟩ ∧ w.heap.size ≤ b) ∧ OldK w' A V (put V n x kk) n := by
  have C := Lib.hid (count_p k w hk)
  rw [hkk] at C
  have L := Lib.hid (low_p kk w hk64)
  obtain ⟨hV, hn1, c, hb, ho⟩ := h
  obtain ⟨q, hq⟩ : ∃ q, q = n / 64 := ⟨_, rfl⟩
  have hm : (n + 63) / 64 = q + 1 := by omega
  have hnq : n = 64 * q + s := by omega
  rw [hm] at hb ho
  obtain ⟨b, rfl, hb1, hb2⟩ := own_some ho (by omega)
  have c0 : w.cell? ⟨g, 0, none⟩ = some (.slice (some ⟨b, 0, none⟩) (q + 1) c) := hb.cell 0
  have c1 : w.cell? ⟨g, 1, none⟩ = some (.int .i64 (n : Int)) := hb.cell 1
  have cq : w.cell? ⟨b, q, none⟩ = some (.int .u64 ((wd V q : Nat) : Int)) := by
    rw [ho.cellAt q (by omega), U64_get _ _ (by rw [words_len]; omega), words_get _ _ _ (by omega)]
  have fq := ho.frozenAt q
  have f1 := hb.frozen 1
  obtain ⟨X, hX⟩ : ∃ X, X = x % 2 ^ kk := ⟨_, rfl⟩
  have hand : bits .and .u64 (x : Int) ((2 ^ kk - 1 : Nat) : Int) = ((X : Nat) : Int) := by
    rw [u64_and_nat _ _ hx (Nat.lt_of_lt_of_le (Nat.sub_lt (Nat.two_pow_pos kk) Nat.one_pos) (Nat.pow_le_pow_right (by omega) hk64)), Nat.and_two_pow_sub_one_eq_mod, hX]
  have hr : (n : Int) % 64 = (s : Int) := by omega
  have HOR : Hid (bits .or .u64 ((wd V q : Nat) : Int) (IntKind.u64.wrap ((X : Int) * 2 ^ s)) = ((wd (put V n x kk) q : Nat) : Int)) := by
    show _ = _
    rw [wrap_u64, u64_or_nat _ _ (wd_lt V q) (Nat.mod_lt _ (by decide)), wd_put_last x kk q s hV hnq (by omega), hX]
  have hgl := hb.lt
  have HB := Lib.hid hb
  have HO := Lib.hid ho
  have HNQ := Lib.hid hnq
  have hk0 : ¬ kk = 0 := by omega
  have hs64 : s < 64 := by omega
  have hq2 : q ≤ 1000000 := by omega
  have hsk2 : ¬ (64 : Int) < (s : Int) + (kk : Int) := by omega
  clear hb ho hX hm hkk hs hq hnq
  generalize hP : 2 ^ kk - 1 = PP at *
  clear hP
  generalize hW : wd V q = W at *
  clear hW
  go_enter Try.func36, Try.ntmps36
  go_wp2_with fail
  refine C.out.mono ?_
  rintro e w' ⟨rfl, rfl⟩
  go_wp2_with fail
  refine L.out.mono ?_
  rintro e w' ⟨rfl, rfl⟩
  go_wp2_with fail
  go_region
  go_wp2
  rw [HOR.out]
  suffices hvec : VecAt ((w.setCell ⟨b, q, none⟩ (.int .u64 ((wd (put V n x kk) q : Nat) : Int))).setCell ⟨g, 1, none⟩ (.int .i64 ((n : Int) + (kk : Int)))) g (put V n x kk) (n + kk) (some ⟨b, 0, none⟩) by
    refine bodyPost_end (results_none rfl _ _ _) rfl ⟨rfl, some ⟨b, 0, none⟩, hvec.below (Below.refl _ _).drew, Mod.drew (Mod.setCell (p := ⟨g, 1, none⟩) (Mod.setCell (p := ⟨b, q, none⟩) (Mod.refl _ w) (fun _ => .inr ⟨b, rfl, rfl⟩) _) (fun _ => .inl rfl) _), .inl rfl, ?_⟩
    exact OldK.same (hvec.below (Below.refl _ _).drew) (Nat.le_add_right _ _)
  have hn64 := HNQ.out
  have hm1 : (n + kk + 63) / 64 = q + 1 := by omega
  refine ⟨put_lt x kk hV, by omega, c, ?_, ?_⟩
  · rw [hm1]
    have b1 : Blk (w.setCell ⟨b, q, none⟩ (.int .u64 ((wd (put V n x kk) q : Nat) : Int))) g 64 #[.slice (some ⟨b, 0, none⟩) (q + 1) c, .int .i64 (n : Int)] :=
      HB.out.mod (Mod.setCell (p := ⟨b, q, none⟩) (Mod.refl (fun i => i = b) w) (fun _ => rfl) _) (fun e => by omega)
    have := b1.set_ 1 (.int .i64 ((n : Int) + (kk : Int)))
    simpa using this
  · rw [hm1]
    have hw : (U64 (words V (q + 1))).set q (.int .u64 ((wd (put V n x kk) q : Nat) : Int)) = U64 (words (put V n x kk) (q + 1)) := by
      rw [← U64_set, words_next, words_next, List.set_append_right _ _ (by rw [words_len]; exact Nat.le_refl _), words_len, Nat.sub_self]
      refine congrArg U64 (congrArg (· ++ _) (List.map_congr_left fun i hi => ?_))
      rw [List.mem_range] at hi
      exact (wd_put_low x kk i hV (by omega)).symm
    rw [← hw]
    exact own_mod (HO.out.stored q _).1 (Mod.setCell (p := ⟨g, 1, none⟩) (Mod.refl (fun i => i = g) _) (fun _ => rfl) _) (fun r hr2 hx2 => by simp [Value.ownBlock] at hr2; omega)
end Go.Proofs.Ytcefohjddbjcjaa
