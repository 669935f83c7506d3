/- Num: the bits go over the last word's end. -/
import Derived.Test.YtcefohjddbjcjaaZBNum
import Derived.Deep.RegionLaw
import Derived.Deep.AppendLies
namespace Go.Proofs.Ytcefohjddbjcjaa
open Go.RowKit
set_option linter.unusedVariables false

set_option maxRecDepth 20000 in
set_option maxHeartbeats 2000000 in
theorem num_over (g V n x kk : Nat) (k : Int) (A : Option Addr) (w : World) (h : VecAt w g V n A) (hx : x < 2 ^ 64) (hk : -9223372036854775808 ≤ k ∧ k ≤ 9223372036854775807) (hkk : cnt64 k = kk) (hk1 : 1 ≤ kk) (hk64 : kk ≤ 64) (hn : n + 64 ≤ 1000000) (s : Nat) (hs : n % 64 = s) (hs0 : 0 < s) (hsk : 64 < s + kk) :
    Calls Try.prog 36 #[.pointer (some ⟨g, 0, none⟩), .int .u64 (x : Int), .int .i64 k] w fun e w' => e = .returned (.tuple #[]) ∧
      ∃ A', VecAt w' g (put V n x kk) (n + kk) A' ∧ Mod (fun i => i = g ∨ (∃ b, A = some ⟨b, 0, none⟩ ∧ i = b)) w w' ∧ (A' = A ∨ ∃ b, A' = some ⟨b, 0, none⟩ ∧ w.heap.size ≤ b) ∧ OldK w' A V (put V n x kk) n := by
  have C := Lib.hid (count_p k w hk)
  rw [hkk] at C
  have L := Lib.hid (low_p kk w hk64)
  obtain ⟨hV, hn1, c, hb, ho⟩ := h
  obtain ⟨q, hq⟩ : ∃ q, q = n / 64 := ⟨_, rfl⟩
  have hm : (n + 63) / 64 = q + 1 := by omega
  have hnq : n = 64 * q + s := by omega
  rw [hm] at hb ho
  obtain ⟨b, rfl, hb1, hb2⟩ := own_some ho (by omega)
  have c0 : w.cell? ⟨g, 0, none⟩ = some (.slice (some ⟨b, 0, none⟩) (q + 1) c) := hb.cell 0
  have c1 : w.cell? ⟨g, 1, none⟩ = some (.int .i64 (n : Int)) := hb.cell 1
  have cq : w.cell? ⟨b, q, none⟩ = some (.int .u64 ((wd V q : Nat) : Int)) := by
    rw [ho.cellAt q (by omega), U64_get _ _ (by rw [words_len]; omega), words_get _ _ _ (by omega)]
  have fq := ho.frozenAt q
  have f1 := hb.frozen 1
  obtain ⟨X, hX⟩ : ∃ X, X = x % 2 ^ kk := ⟨_, rfl⟩
  have hand : bits .and .u64 (x : Int) ((2 ^ kk - 1 : Nat) : Int) = ((X : Nat) : Int) := by
    rw [u64_and_nat _ _ hx (Nat.lt_of_lt_of_le (Nat.sub_lt (Nat.two_pow_pos kk) Nat.one_pos) (Nat.pow_le_pow_right (by omega) hk64)), Nat.and_two_pow_sub_one_eq_mod, hX]
  have hr : (n : Int) % 64 = (s : Int) := by omega
  have HOR : Hid (bits .or .u64 ((wd V q : Nat) : Int) (IntKind.u64.wrap ((X : Int) * 2 ^ s)) = ((wd (put V n x kk) q : Nat) : Int)) := by
    show _ = _
    rw [wrap_u64, u64_or_nat _ _ (wd_lt V q) (Nat.mod_lt _ (by decide)), wd_put_last x kk q s hV hnq (by omega), hX]
  have hgl := hb.lt
  have HB := Lib.hid hb
  have HO := Lib.hid ho
  have HNQ := Lib.hid hnq
  have hk0 : ¬ kk = 0 := by omega
  have hs64 : s < 64 := by omega
  have hq2 : q ≤ 1000000 := by omega
  have hsk2 : (64 : Int) < (s : Int) + (kk : Int) := by omega
  have HXX : Hid (X = x % 2 ^ kk) := hX
  obtain ⟨i0, hi0, hz0, hz1, hz2⟩ := info_parts info_u64
  clear hb ho hX hm hkk hs hq hnq
  generalize hP : 2 ^ kk - 1 = PP at *
  clear hP
  generalize hW : wd V q = W at *
  clear hW
  go_enter Try.func36, Try.ntmps36
  go_wp2_with fail
  refine C.out.mono ?_
  rintro e w' ⟨rfl, rfl⟩
  go_wp2_with fail
  refine L.out.mono ?_
  rintro e w' ⟨rfl, rfl⟩
  go_wp2_with fail
  go_region
  go_wp2_with fail
  rw [HOR.out]
  have m1 : Mod (fun i => i = b) w ((w.setCell ⟨b, q, none⟩ (.int .u64 ((wd (put V n x kk) q : Nat) : Int))).drew) :=
    Mod.drew (Mod.setCell (p := ⟨b, q, none⟩) (Mod.refl (fun i => i = b) w) (fun _ => rfl) _)
  have b1 := HB.out.mod m1 (show ¬ g = b by omega)
  have o1 := own_below (HO.out.stored q (.int .u64 ((wd (put V n x kk) q : Nat) : Int))).1 (Below.refl _ _).drew
  generalize (w.setCell ⟨b, q, none⟩ (.int .u64 ((wd (put V n x kk) q : Nat) : Int))).drew = w1 at *
  have hs1 := m1.size
  have d0 : w1.cell? ⟨g, 0, none⟩ = some (.slice (some ⟨b, 0, none⟩) (q + 1) c) := b1.cell 0
  have hgl1 : g < w1.heap.size := by omega
  have hgb : g ≠ b := by omega
  have hn1' : q + 1 + 1 ≤ maxLen := by simp only [maxLen]; omega
  have hn2 : (q + 1 + 1) * 8 ≤ 140737488355328 := by omega
  have B1 := Lib.hid b1
  have M1 := Lib.hid m1
  have O1 := Lib.hid o1
  clear b1 m1 cq c0 c1 fq f1
  obtain ⟨t, ht⟩ : ∃ t, t = 64 - s := ⟨_, rfl⟩
  have hwt : IntKind.i64.wrap (64 - (s : Int)) = (t : Int) := by rw [show (64 - (s : Int)) = (t : Int) by omega]; rw [IntKind.wrap_i64]; omega
  have ht64 : t < 64 := by omega
  have HT := Lib.hid ht
  clear ht
  generalize hxs : (U64 (words V (q + 1))).set q (.int .u64 ((wd (put V n x kk) q : Nat) : Int)) = xs at *
  have HXS := Lib.hid hxs
  clear hxs
  have f0 := B1.out.frozen 0
  have fz : ∀ o, (w1.alloc o).drew.frozen? ⟨g, 0, none⟩ = false := fun o => ((B1.out.alloc o).drewN 1).frozen 0
  have hgo : (Value.slice (some ⟨b, 0, none⟩) (q + 1) c).ownBlock ≠ some g := by simp [Value.ownBlock]; omega
  go_region_law
    ((refine step_append_keep _ (by rfl) _ _ _ (by rfl) (g + 1) 22 i0 _ 1 8 Try.underlying62 hi0 hz0 hz1 hz2 rfl (by omega) (.slice (some ⟨b, 0, none⟩) (q + 1) c) (q + 1) xs (by rfl) ((O1.out.alloc _).drew)
        ⟨w1.heap.size, 0, none⟩ 1 1 [.int .u64 ((X : Int) / 2 ^ t)] (by rfl) (by rfl) (World.news_of_block (cs := #[.int .u64 ((X : Int) / 2 ^ t)]) (t := 22) (fr := (0, 0)) (heap_alloc_new w1 _)) (by simp [Value.oneCell'])
        (by omega) hn1' hn2 (by simp; omega) (w1.heap.size + 1) (by simp) ?_; intro gg cap w3 hown1 hgrow hat hlt hkp
      have hgm := Mod.ofGrown hgrow
      have b3 : Blk w3 g 64 #[.slice (some ⟨b, 0, none⟩) (q + 1) c, .int .i64 (n : Int)] := ((B1.out.alloc _).drewN 1).mod hgm (fun e => hgo e.symm)
      have e1 : w3.cell? ⟨g, 1, none⟩ = some (.int .i64 (n : Int)) := b3.cell 1
      have g1 := b3.frozen 1
      have e0 : w3.cell? ⟨g, 0, none⟩ = some (.slice (some ⟨b, 0, none⟩) (q + 1) c) := b3.cell 0
      have g0 := b3.frozen 0
      have HGM := Lib.hid hgm
      have HOW := Lib.hid hown1
      have HAT := Lib.hid hat
      have HKP := Lib.hid hkp
      have B3 := Lib.hid b3
      clear hgm hgrow hown1 hat b3 hkp))
  all_goals go_wp2
  all_goals (
    clear e0 e1 g0 g1 f0 fz
    refine bodyPost_end (results_none rfl _ _ _) rfl ⟨rfl, some ⟨gg, 0, none⟩, ?_, ?_, ?_, ?_⟩
    · have hn64 := HNQ.out
      have hm1 : (n + kk + 63) / 64 = q + 1 + 1 := by omega
      refine ⟨put_lt x kk hV, by omega, cap, ?_, ?_⟩
      · rw [hm1]
        have := (B3.out.set_ 0 (.slice (some ⟨gg, 0, none⟩) (q + 1 + 1) cap)).set_ 1 (.int .i64 ((n : Int) + (kk : Int)))
        simpa using this
      · rw [hm1]
        have hw : xs ++ [Value.int .u64 ((X : Int) / 2 ^ t)] = U64 (words (put V n x kk) (q + 1 + 1)) := by
          have e1 : (X : Int) / 2 ^ t = ((x % 2 ^ kk / 2 ^ (64 - s) : Nat) : Int) := by rw [HXX.out, HT.out]; simp
          rw [words_next, U64_append, ← HXS.out, ← U64_set, words_next V q, words_next _ q, List.set_append_right _ _ (by rw [words_len]; exact Nat.le_refl _), words_len, Nat.sub_self, e1, wd_put_next x kk q s hV hn64 hs64 hs0 hk64]
          refine congrArg (· ++ _) (congrArg U64 (congrArg (· ++ _) (List.map_congr_left fun i hi => ?_)))
          rw [List.mem_range] at hi
          exact (wd_put_low x kk i hV (by omega)).symm
        rw [← hw]
        have mm : Mod (fun i => i = g) w3 ((w3.setCell ⟨g, 0, none⟩ (.slice (some ⟨gg, 0, none⟩) (q + 1 + 1) cap)).setCell ⟨g, 1, none⟩ (.int .i64 ((n : Int) + (kk : Int)))) :=
          Mod.setCell (p := ⟨g, 1, none⟩) (Mod.setCell (p := ⟨g, 0, none⟩) (Mod.refl (fun i => i = g) w3) (fun _ => rfl) _) (fun _ => rfl) _
        exact own_mod HOW.out mm (fun r hr2 hx2 => by have := (HOW.out.lt r hr2).1; omega)
    · have ha : ∀ i, some i = (Value.slice (some ⟨b, 0, none⟩) (q + 1) c).ownBlock → i = g ∨ ∃ b', some (⟨b, 0, none⟩ : Addr) = some ⟨b', 0, none⟩ ∧ i = b' := fun i hi => by
        simp [Value.ownBlock] at hi
        exact .inr ⟨b, rfl, hi⟩
      have m1 : Mod (fun i => i = g ∨ ∃ b', some (⟨b, 0, none⟩ : Addr) = some ⟨b', 0, none⟩ ∧ i = b') w w1 := M1.out.mono fun i _ hi => .inr ⟨b, rfl, hi⟩
      exact ((((m1.alloc _).drew).trans HGM.out (fun i _ hi => ha i hi)).setCell (p := ⟨g, 0, none⟩) (fun _ => .inl rfl) _).setCell (p := ⟨g, 1, none⟩) (fun _ => .inl rfl) _
    · rcases HAT.out with h1 | h1
      · left
        simp [Value.ownBlock] at h1
        rw [h1]
      · right
        exact ⟨gg, rfl, by omega⟩
    · intro b' hb' i hi
      have hbb : b = b' := (Addr.mk.inj (Option.some.inj hb')).1
      subst hbb
      have hn64 := HNQ.out
      have hi2 : i < q + 1 := by omega
      have far : ∀ u, w3.cell? ⟨b, i, none⟩ = some u → ((w3.setCell ⟨g, 0, none⟩ (.slice (some ⟨gg, 0, none⟩) (q + 1 + 1) cap)).setCell ⟨g, 1, none⟩ (.int .i64 ((n : Int) + (kk : Int)))).cell? ⟨b, i, none⟩ = some u := fun u hu => by
        have h2 : (⟨b, i, none⟩ : Addr) ≠ ⟨g, 0, none⟩ := fun e => by have := congrArg Addr.block e; simp at this; omega
        have h3 : (⟨b, i, none⟩ : Addr) ≠ ⟨g, 1, none⟩ := fun e => by have := congrArg Addr.block e; simp at this; omega
        rw [World.cell?_setCell_other _ _ _ _ h3.symm, World.cell?_setCell_other _ _ _ _ h2.symm]
        exact hu
      have hl : (U64 (words V (q + 1))).length = q + 1 := by rw [U64_len, words_len]
      by_cases hiq : i = q
      · right
        subst hiq
        refine far _ (HKP.out b c rfl i _ ?_)
        rw [← HXS.out, List.getElem?_set_self (by rw [hl]; exact hi2)]
      · left
        refine far _ (HKP.out b c rfl i _ ?_)
        rw [← HXS.out, List.getElem?_set_ne (fun e => hiq e.symm), U64_get _ _ (by rw [words_len]; exact hi2), words_get _ _ _ hi2])
end Go.Proofs.Ytcefohjddbjcjaa
