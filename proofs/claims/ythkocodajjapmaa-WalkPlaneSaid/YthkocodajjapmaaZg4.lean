/- Num: the bits go over the last word's end. Num, whole; two vectors side by side; the library's Clone and Equal of words. The library's Equal of words. Bytes. The library's Clone and Equal of bytes. Lists of noughts and ones, and the number that they are; no program in sight. At, Text and Bytes of a vector. -/
import Derived.Test.YthkocodajjapmaaZg3
import Derived.Deep.RegionLaw
import Derived.Deep.AppendLies
import Derived.Test.YthkocodajjapmaaZg1
import Derived.Laws.BytesArg
import Derived.ArgAppend
import Derived.RegionTactic
import Derived.Deep.QuietTactic
import Derived.BigQuiet
namespace Go.Proofs.Ythkocodajjapmaa
open Go.RowKit
set_option linter.unusedVariables false

set_option maxRecDepth 20000 in
set_option maxHeartbeats 2000000 in
theorem num_over (g V n x kk : Nat) (k : Int) (A : Option Addr) (w : World) (h : VecAt w g V n A) (hx : x < 2 ^ 64) (hk : -9223372036854775808 ≤ k ∧ k ≤ 9223372036854775807) (hkk : cnt64 k = kk) (hk1 : 1 ≤ kk) (hk64 : kk ≤ 64) (hn : n + 64 ≤ 1000000) (s : Nat) (hs : n % 64 = s) (hs0 : 0 < s) (hsk : 64 < s + kk) :
    Calls Try.prog 77 #[.pointer (some ⟨g, 0, none⟩), .int .u64 (x : Int), .int .i64 k] w fun e w' => e = .returned (.tuple #[]) ∧
      ∃ A', VecAt w' g (put V n x kk) (n + kk) A' ∧ Mod (fun i => i = g ∨ (∃ b, A = some ⟨b, 0, none⟩ ∧ i = b)) w w' ∧ (A' = A ∨ ∃ b, A' = some ⟨b, 0, none⟩ ∧ w.heap.size ≤ b) ∧ OldK w' A V (put V n x kk) n := by
  have C := Lib.hid (count_p k w hk)
  rw [hkk] at C
  have L := Lib.hid (low_p kk w hk64)
  obtain ⟨hV, hn1, c, hb, ho⟩ := h
  obtain ⟨q, hq⟩ : ∃ q, q = n / 64 := ⟨_, rfl⟩
  have hm : (n + 63) / 64 = q + 1 := by omega
  have hnq : n = 64 * q + s := by omega
  rw [hm] at hb ho
  obtain ⟨b, rfl, hb1, hb2⟩ := own_some ho (by omega)
  have c0 : w.cell? ⟨g, 0, none⟩ = some (.slice (some ⟨b, 0, none⟩) (q + 1) c) := hb.cell 0
  have c1 : w.cell? ⟨g, 1, none⟩ = some (.int .i64 (n : Int)) := hb.cell 1
  have cq : w.cell? ⟨b, q, none⟩ = some (.int .u64 ((wd V q : Nat) : Int)) := by
    rw [ho.cellAt q (by omega), U64_get _ _ (by rw [words_len]; omega), words_get _ _ _ (by omega)]
  have fq := ho.frozenAt q
  have f1 := hb.frozen 1
  obtain ⟨X, hX⟩ : ∃ X, X = x % 2 ^ kk := ⟨_, rfl⟩
  have hand : bits .and .u64 (x : Int) ((2 ^ kk - 1 : Nat) : Int) = ((X : Nat) : Int) := by
    rw [u64_and_nat _ _ hx (Nat.lt_of_lt_of_le (Nat.sub_lt (Nat.two_pow_pos kk) Nat.one_pos) (Nat.pow_le_pow_right (by omega) hk64)), Nat.and_two_pow_sub_one_eq_mod, hX]
  have hr : (n : Int) % 64 = (s : Int) := by omega
  have HOR : Hid (bits .or .u64 ((wd V q : Nat) : Int) (IntKind.u64.wrap ((X : Int) * 2 ^ s)) = ((wd (put V n x kk) q : Nat) : Int)) := by
    show _ = _
    rw [wrap_u64, u64_or_nat _ _ (wd_lt V q) (Nat.mod_lt _ (by decide)), wd_put_last x kk q s hV hnq (by omega), hX]
  have hgl := hb.lt
  have HB := Lib.hid hb
  have HO := Lib.hid ho
  have HNQ := Lib.hid hnq
  have hk0 : ¬ kk = 0 := by omega
  have hs64 : s < 64 := by omega
  have hq2 : q ≤ 1000000 := by omega
  have hsk2 : (64 : Int) < (s : Int) + (kk : Int) := by omega
  have HXX : Hid (X = x % 2 ^ kk) := hX
  obtain ⟨i0, hi0, hz0, hz1, hz2⟩ := info_parts info_u64
  clear hb ho hX hm hkk hs hq hnq
  generalize hP : 2 ^ kk - 1 = PP at *
  clear hP
  generalize hW : wd V q = W at *
  clear hW
  go_enter Try.func77, Try.ntmps77
  go_wp2_with fail
  refine C.out.mono ?_
  rintro e w' ⟨rfl, rfl⟩
  go_wp2_with fail
  refine L.out.mono ?_
  rintro e w' ⟨rfl, rfl⟩
  go_wp2_with fail
  go_region
  go_wp2_with fail
  rw [HOR.out]
  have m1 : Mod (fun i => i = b) w ((w.setCell ⟨b, q, none⟩ (.int .u64 ((wd (put V n x kk) q : Nat) : Int))).drew) :=
    Mod.drew (Mod.setCell (p := ⟨b, q, none⟩) (Mod.refl (fun i => i = b) w) (fun _ => rfl) _)
  have b1 := HB.out.mod m1 (show ¬ g = b by omega)
  have o1 := own_below (HO.out.stored q (.int .u64 ((wd (put V n x kk) q : Nat) : Int))).1 (Below.refl _ _).drew
  generalize (w.setCell ⟨b, q, none⟩ (.int .u64 ((wd (put V n x kk) q : Nat) : Int))).drew = w1 at *
  have hs1 := m1.size
  have d0 : w1.cell? ⟨g, 0, none⟩ = some (.slice (some ⟨b, 0, none⟩) (q + 1) c) := b1.cell 0
  have hgl1 : g < w1.heap.size := by omega
  have hgb : g ≠ b := by omega
  have hn1' : q + 1 + 1 ≤ maxLen := by simp only [maxLen]; omega
  have hn2 : (q + 1 + 1) * 8 ≤ 140737488355328 := by omega
  have B1 := Lib.hid b1
  have M1 := Lib.hid m1
  have O1 := Lib.hid o1
  clear b1 m1 cq c0 c1 fq f1
  obtain ⟨t, ht⟩ : ∃ t, t = 64 - s := ⟨_, rfl⟩
  have hwt : IntKind.i64.wrap (64 - (s : Int)) = (t : Int) := by rw [show (64 - (s : Int)) = (t : Int) by omega]; rw [IntKind.wrap_i64]; omega
  have ht64 : t < 64 := by omega
  have HT := Lib.hid ht
  clear ht
  generalize hxs : (U64 (words V (q + 1))).set q (.int .u64 ((wd (put V n x kk) q : Nat) : Int)) = xs at *
  have HXS := Lib.hid hxs
  clear hxs
  have f0 := B1.out.frozen 0
  have fz : ∀ o, (w1.alloc o).drew.frozen? ⟨g, 0, none⟩ = false := fun o => ((B1.out.alloc o).drewN 1).frozen 0
  have hgo : (Value.slice (some ⟨b, 0, none⟩) (q + 1) c).ownBlock ≠ some g := by simp [Value.ownBlock]; omega
  go_region_law
    ((refine step_append_keep _ (by rfl) _ _ _ (by rfl) (g + 1) 114 i0 _ 1 8 Try.underlying105 hi0 hz0 hz1 hz2 rfl (by omega) (.slice (some ⟨b, 0, none⟩) (q + 1) c) (q + 1) xs (by rfl) ((O1.out.alloc _).drew)
        ⟨w1.heap.size, 0, none⟩ 1 1 [.int .u64 ((X : Int) / 2 ^ t)] (by rfl) (by rfl) (World.news_of_block (cs := #[.int .u64 ((X : Int) / 2 ^ t)]) (t := 114) (fr := (0, 0)) (heap_alloc_new w1 _)) (by simp [Value.oneCell'])
        (by omega) hn1' hn2 (by simp; omega) (w1.heap.size + 1) (by simp) ?_; intro gg cap w3 hown1 hgrow hat hlt hkp
      have hgm := Mod.ofGrown hgrow
      have b3 : Blk w3 g 107 #[.slice (some ⟨b, 0, none⟩) (q + 1) c, .int .i64 (n : Int)] := ((B1.out.alloc _).drewN 1).mod hgm (fun e => hgo e.symm)
      have e1 : w3.cell? ⟨g, 1, none⟩ = some (.int .i64 (n : Int)) := b3.cell 1
      have g1 := b3.frozen 1
      have e0 : w3.cell? ⟨g, 0, none⟩ = some (.slice (some ⟨b, 0, none⟩) (q + 1) c) := b3.cell 0
      have g0 := b3.frozen 0
      have HGM := Lib.hid hgm
      have HOW := Lib.hid hown1
      have HAT := Lib.hid hat
      have HKP := Lib.hid hkp
      have B3 := Lib.hid b3
      clear hgm hgrow hown1 hat b3 hkp))
  all_goals go_wp2
  all_goals (
    clear e0 e1 g0 g1 f0 fz
    refine bodyPost_end (results_none rfl _ _ _) rfl ⟨rfl, some ⟨gg, 0, none⟩, ?_, ?_, ?_, ?_⟩
    · have hn64 := HNQ.out
      have hm1 : (n + kk + 63) / 64 = q + 1 + 1 := by omega
      refine ⟨put_lt x kk hV, by omega, cap, ?_, ?_⟩
      · rw [hm1]
        have := (B3.out.set_ 0 (.slice (some ⟨gg, 0, none⟩) (q + 1 + 1) cap)).set_ 1 (.int .i64 ((n : Int) + (kk : Int)))
        simpa using this
      · rw [hm1]
        have hw : xs ++ [Value.int .u64 ((X : Int) / 2 ^ t)] = U64 (words (put V n x kk) (q + 1 + 1)) := by
          have e1 : (X : Int) / 2 ^ t = ((x % 2 ^ kk / 2 ^ (64 - s) : Nat) : Int) := by rw [HXX.out, HT.out]; simp
          rw [words_next, U64_append, ← HXS.out, ← U64_set, words_next V q, words_next _ q, List.set_append_right _ _ (by rw [words_len]; exact Nat.le_refl _), words_len, Nat.sub_self, e1, wd_put_next x kk q s hV hn64 hs64 hs0 hk64]
          refine congrArg (· ++ _) (congrArg U64 (congrArg (· ++ _) (List.map_congr_left fun i hi => ?_)))
          rw [List.mem_range] at hi
          exact (wd_put_low x kk i hV (by omega)).symm
        rw [← hw]
        have mm : Mod (fun i => i = g) w3 ((w3.setCell ⟨g, 0, none⟩ (.slice (some ⟨gg, 0, none⟩) (q + 1 + 1) cap)).setCell ⟨g, 1, none⟩ (.int .i64 ((n : Int) + (kk : Int)))) :=
          Mod.setCell (p := ⟨g, 1, none⟩) (Mod.setCell (p := ⟨g, 0, none⟩) (Mod.refl (fun i => i = g) w3) (fun _ => rfl) _) (fun _ => rfl) _
        exact own_mod HOW.out mm (fun r hr2 hx2 => by have := (HOW.out.lt r hr2).1; omega)
    · have ha : ∀ i, some i = (Value.slice (some ⟨b, 0, none⟩) (q + 1) c).ownBlock → i = g ∨ ∃ b', some (⟨b, 0, none⟩ : Addr) = some ⟨b', 0, none⟩ ∧ i = b' := fun i hi => by
        simp [Value.ownBlock] at hi
        exact .inr ⟨b, rfl, hi⟩
      have m1 : Mod (fun i => i = g ∨ ∃ b', some (⟨b, 0, none⟩ : Addr) = some ⟨b', 0, none⟩ ∧ i = b') w w1 := M1.out.mono fun i _ hi => .inr ⟨b, rfl, hi⟩
      exact ((((m1.alloc _).drew).trans HGM.out (fun i _ hi => ha i hi)).setCell (p := ⟨g, 0, none⟩) (fun _ => .inl rfl) _).setCell (p := ⟨g, 1, none⟩) (fun _ => .inl rfl) _
    · rcases HAT.out with h1 | h1
      · left
        simp [Value.ownBlock] at h1
        rw [h1]
      · right
        exact ⟨gg, rfl, by omega⟩
    · intro b' hb' i hi
      have hbb : b = b' := (Addr.mk.inj (Option.some.inj hb')).1
      subst hbb
      have hn64 := HNQ.out
      have hi2 : i < q + 1 := by omega
      have far : ∀ u, w3.cell? ⟨b, i, none⟩ = some u → ((w3.setCell ⟨g, 0, none⟩ (.slice (some ⟨gg, 0, none⟩) (q + 1 + 1) cap)).setCell ⟨g, 1, none⟩ (.int .i64 ((n : Int) + (kk : Int)))).cell? ⟨b, i, none⟩ = some u := fun u hu => by
        have h2 : (⟨b, i, none⟩ : Addr) ≠ ⟨g, 0, none⟩ := fun e => by have := congrArg Addr.block e; simp at this; omega
        have h3 : (⟨b, i, none⟩ : Addr) ≠ ⟨g, 1, none⟩ := fun e => by have := congrArg Addr.block e; simp at this; omega
        rw [World.cell?_setCell_other _ _ _ _ h3.symm, World.cell?_setCell_other _ _ _ _ h2.symm]
        exact hu
      have hl : (U64 (words V (q + 1))).length = q + 1 := by rw [U64_len, words_len]
      by_cases hiq : i = q
      · right
        subst hiq
        refine far _ (HKP.out b c rfl i _ ?_)
        rw [← HXS.out, List.getElem?_set_self (by rw [hl]; exact hi2)]
      · left
        refine far _ (HKP.out b c rfl i _ ?_)
        rw [← HXS.out, List.getElem?_set_ne (fun e => hiq e.symm), U64_get _ _ (by rw [words_len]; exact hi2), words_get _ _ _ hi2])
end Go.Proofs.Ythkocodajjapmaa
namespace Go.Proofs.Ythkocodajjapmaa
open Go.RowKit
set_option linter.unusedVariables false

theorem VecB.hlt {w : World} {B g V n : Nat} {A : Option Addr} (h : VecB w B g V n A) : g < w.heap.size := h.foot_lt (.inl rfl)
/-- What Num answers, and what it leaves. -/
def NumPost (w : World) (g V' n' : Nat) (A : Option Addr) (e : Ending) (w' : World) : Prop :=
  e = .returned (.tuple #[]) ∧ ∃ A', VecAt w' g V' n' A' ∧ Mod (foot g A) w w' ∧ (A' = A ∨ ∃ b, A' = some ⟨b, 0, none⟩ ∧ w.heap.size ≤ b)
theorem put_zero (V n x : Nat) : put V n x 0 = V := by simp [put, Nat.mod_one]
/-- .. and what the old row holds. -/
def NumPostK (w : World) (g V V' n n' : Nat) (A : Option Addr) (e : Ending) (w' : World) : Prop :=
  e = .returned (.tuple #[]) ∧ ∃ A', VecAt w' g V' n' A' ∧ Mod (foot g A) w w' ∧ (A' = A ∨ ∃ b, A' = some ⟨b, 0, none⟩ ∧ w.heap.size ≤ b) ∧ OldK w' A V V' n
theorem num_pk (g V n x : Nat) (k : Int) (A : Option Addr) (w : World) (h : VecAt w g V n A) (hx : x < 2 ^ 64) (hk : -9223372036854775808 ≤ k ∧ k ≤ 9223372036854775807) (hn : n + 64 ≤ 1000000) :
    Calls Try.prog 77 #[.pointer (some ⟨g, 0, none⟩), .int .u64 (x : Int), .int .i64 k] w (NumPostK w g V (put V n x (cnt64 k)) n (n + cnt64 k) A) := by
  by_cases h0 : k ≤ 0
  · refine (num_zeroB g x k w ⟨hk.1, h0⟩).mono fun e w' ⟨he, hw⟩ => ?_
    subst hw
    have hc : cnt64 k = 0 := by unfold cnt64; rw [if_pos h0]
    rw [hc, put_zero]
    exact ⟨he, A, h, Mod.refl _ _, .inl rfl, OldK.same h (Nat.le_refl _)⟩
  · have hc1 : 1 ≤ cnt64 k := by unfold cnt64; rw [if_neg h0]; split <;> omega
    have hc2 : cnt64 k ≤ 64 := by unfold cnt64; rw [if_neg h0]; split <;> omega
    rcases Nat.eq_zero_or_pos (n % 64) with hs | hs
    · exact num_new g V n x _ k A w h hx hk rfl hc1 hc2 hn hs
    · by_cases hsk : n % 64 + cnt64 k ≤ 64
      · exact num_last g V n x _ k A w h hx hk rfl hc1 hc2 hn _ rfl hs hsk
      · exact num_over g V n x _ k A w h hx hk rfl hc1 hc2 hn _ rfl hs (by omega)
theorem num_p (g V n x : Nat) (k : Int) (A : Option Addr) (w : World) (h : VecAt w g V n A) (hx : x < 2 ^ 64) (hk : -9223372036854775808 ≤ k ∧ k ≤ 9223372036854775807) (hn : n + 64 ≤ 1000000) :
    Calls Try.prog 77 #[.pointer (some ⟨g, 0, none⟩), .int .u64 (x : Int), .int .i64 k] w (NumPost w g (put V n x (cnt64 k)) (n + cnt64 k) A) :=
  (num_pk g V n x k A w h hx hk hn).mono fun e w' ⟨he, A', h1, h2, h3, _⟩ => ⟨he, A', h1, h2, h3⟩

/-- Two vectors share no block. -/
def Sep (g : Nat) (A : Option Addr) (h : Nat) (C : Option Addr) : Prop := ∀ i, foot g A i → ¬ foot h C i
theorem Sep.symm {g h : Nat} {A C : Option Addr} (s : Sep g A h C) : Sep h C g A := fun i hi hj => s i hj hi
theorem Sep.next {w : World} {B g h U m : Nat} {A A' C : Option Addr} (s : Sep g A h C) (hc : VecB w B h U m C) (ha : A' = A ∨ ∃ b, A' = some ⟨b, 0, none⟩ ∧ w.heap.size ≤ b) : Sep g A' h C := by
  rcases ha with rfl | ⟨b, rfl, hb⟩
  · exact s
  · rintro i (rfl | ⟨b', e, rfl⟩) hj
    · exact s i (.inl rfl) hj
    · have := hc.foot_lt hj
      have e2 : b = i := (Addr.mk.inj (Option.some.inj e)).1
      omega
/-- A vector that is made behind another one. -/
theorem Sep.new {w : World} {B g V n : Nat} {A : Option Addr} (h : VecB w B g V n A) (k : Nat) (hk : w.heap.size ≤ k) : Sep g A k none := by
  rintro i hi (rfl | ⟨b, e, _⟩)
  · have := h.foot_lt hi; omega
  · cases e
theorem NumPost.below {w w' : World} {g V' n' : Nat} {A : Option Addr} {e : Ending} {V n : Nat} (p : NumPost w g V' n' A e w') (h : VecAt w g V n A) : Below g w w' := by
  obtain ⟨_, A', h1, m, _⟩ := p
  obtain ⟨_, _, c, hb, ho⟩ := h
  exact m.belowB (Nat.le_of_lt hb.lt) fun i hi hf => by
    rcases hf with rfl | ⟨b, rfl, rfl⟩
    · omega
    · have : g + 1 ≤ i := (ho.lt i rfl).1
      omega

/-- Two vectors side by side, all of them from block L on. -/
def Two (w : World) (L g V n : Nat) (A : Option Addr) (h U m : Nat) (C : Option Addr) : Prop := VecAt w g V n A ∧ VecAt w h U m C ∧ Sep g A h C ∧ L ≤ g ∧ L ≤ h
theorem Two.below {w w' : World} {L g V n : Nat} {A : Option Addr} {h U m : Nat} {C : Option Addr} (t : Two w L g V n A h U m C) (b : Below w.heap.size w w') : Two w' L g V n A h U m C :=
  ⟨t.1.below b, t.2.1.below b, t.2.2⟩
theorem Two.swap {w : World} {L g V n : Nat} {A : Option Addr} {h U m : Nat} {C : Option Addr} (t : Two w L g V n A h U m C) : Two w L h U m C g V n A :=
  ⟨t.2.1, t.1, t.2.2.1.symm, t.2.2.2.2, t.2.2.2.1⟩
theorem Two.left {w w' : World} {L g V n : Nat} {A : Option Addr} {h U m : Nat} {C : Option Addr} (t : Two w L g V n A h U m C) {V' n' : Nat} {e : Ending} (p : NumPost w g V' n' A e w') :
    e = .returned (.tuple #[]) ∧ Below L w w' ∧ ∃ A', Two w' L g V' n' A' h U m C := by
  have hb := p.below t.1
  obtain ⟨he, A', h1, hm, ha⟩ := p
  obtain ⟨t1, t2, t3, t4, t5⟩ := t
  refine ⟨he, hb.mono t4, A', h1, VecB.mod t2 hm fun i hi hj => t3 i hj hi, Sep.next t3 t2 ha, t4, t5⟩
theorem Two.right {w w' : World} {L g V n : Nat} {A : Option Addr} {h U m : Nat} {C : Option Addr} (t : Two w L g V n A h U m C) {U' m' : Nat} {e : Ending} (p : NumPost w h U' m' C e w') :
    e = .returned (.tuple #[]) ∧ Below L w w' ∧ ∃ C', Two w' L g V n A h U' m' C' := by
  obtain ⟨a, b, C', c⟩ := t.swap.left p
  exact ⟨a, b, C', c.swap⟩
theorem cnt64_nat {s : Nat} (h : s ≤ 64) : cnt64 (s : Int) = s := by unfold cnt64; split <;> (try split) <;> omega
theorem U64_one (z : List Nat) : ∀ u ∈ U64 z, u.oneCell' = true := by
  intro u hu
  simp only [U64, List.mem_map] at hu
  obtain ⟨b, _, rfl⟩ := hu
  rfl
theorem Rd.u64 {w : World} {B n : Nat} {A : Option Addr} {z : List Nat} (h : Rd w B A n (U64 z)) (h0 : 0 < n) :
    ∃ b o, A = some ⟨b, o, none⟩ ∧ b < B ∧ ∀ k, k < n → w.cell? ⟨b, o + k, none⟩ = some (.int .u64 ((z.getD k 0 : Nat) : Int)) := by
  obtain ⟨b, o, e, hb, hc⟩ := h.at_ h0
  refine ⟨b, o, e, hb, fun k hk => ?_⟩
  have hl : z.length = n := by rw [← h.len, U64_len]
  rw [hc k (by rw [U64_len]; omega)]
  have := U64_get z k (by omega)
  rwa [List.getElem?_eq_getElem (by rw [U64_len]; omega)] at this

/-- What Clone answers: nil, or a new row. -/
def NewU64 (w : World) (z : List Nat) (e : Ending) (w' : World) : Prop :=
  ∃ A c, e = .returned (.slice A z.length c) ∧ z.length ≤ c ∧ c ≤ maxLen ∧ w'.ownsRow w.heap.size 114 1 (.slice A z.length c) z.length (U64 z) ∧ Below w.heap.size w w'
theorem NewU64.mk {w w' : World} {z : List Nat} {e : Ending} {v : Value} (he : e = .returned v) (h : w'.ownsRow w.heap.size 114 1 v z.length (U64 z)) (hb : Below w.heap.size w w') : NewU64 w z e w' := by
  obtain ⟨A, c, rfl, h1, h2⟩ := own_form h
  exact ⟨A, c, he, h1, h2, h, hb⟩
theorem getDN_ext {l m : List Nat} (h : l.length = m.length) (hg : ∀ i, i < l.length → l.getD i 0 = m.getD i 0) : l = m := by
  apply List.ext_getElem h
  intro i h1 h2
  have := hg i h1
  rwa [List.getD_eq_getElem?_getD, List.getD_eq_getElem?_getD, List.getElem?_eq_getElem h1, List.getElem?_eq_getElem h2] at this
end Go.Proofs.Ythkocodajjapmaa
namespace Go.Proofs.Ythkocodajjapmaa
open Go.RowKit
set_option linter.unusedVariables false
end Go.Proofs.Ythkocodajjapmaa
namespace Go.Proofs.Ythkocodajjapmaa
open Go.RowKit
set_option linter.unusedVariables false
def U8 (l : List Nat) : List Value := l.map fun (b : Nat) => Value.int .u8 (b : Int)
theorem U8_len (l : List Nat) : (U8 l).length = l.length := by simp [U8]
theorem U8_get (l : List Nat) (j : Nat) (h : j < (U8 l).length) : (U8 l)[j] = .int .u8 ((l[j]'(by simpa [U8] using h) : Nat) : Int) := by simp [U8]
theorem U8_append (l m : List Nat) : U8 (l ++ m) = U8 l ++ U8 m := by simp [U8]
theorem info_u8 : (Try.prog.info? 5).map (fun i => (i.zero, i.size, i.bytes)) = some (some (.int .u8 0), 1, 1) := by kernel_rfl

theorem U8_one (l : List Nat) : ∀ u ∈ U8 l, u.oneCell' = true := by
  intro u hu
  simp only [U8, List.mem_map] at hu
  obtain ⟨b, _, rfl⟩ := hu
  rfl

theorem Rd.u8 {w : World} {B n : Nat} {A : Option Addr} {bs : List Nat} (h : Rd w B A n (U8 bs)) (h0 : 0 < n) :
    ∃ b o, A = some ⟨b, o, none⟩ ∧ b < B ∧ ∀ k, k < n → w.cell? ⟨b, o + k, none⟩ = some (.int .u8 ((bs.getD k 0 : Nat) : Int)) := by
  obtain ⟨b, o, e, hb, hc⟩ := h.at_ h0
  refine ⟨b, o, e, hb, fun k hk => ?_⟩
  have hl : bs.length = n := by rw [← h.len, U8_len]
  rw [hc k (by rw [U8_len]; omega), U8_get]
  simp [List.getD_eq_getElem?_getD, List.getElem?_eq_getElem (show k < bs.length by omega)]
/-- A slice of bytes that came in, as the shell of a law tells of it. -/
theorem row_u8 {w : World} {a : Option Addr} {len cap : Nat} {zs : List Int}
    (h : (a = none ∧ len = 0 ∧ cap = 0 ∧ zs = []) ∨
      ∃ x, a = some x ∧ len ≤ cap ∧ cap ≤ maxLen ∧ zs.length = cap ∧ (∀ i, i < zs.length → w.cell? (x.add i) = some (.int .u8 (zs.getD i 0))) ∧ ∀ n ∈ zs, (Lit.int .u8 n).wf = true) :
    len ≤ cap ∧ cap ≤ maxLen ∧ ∃ bs : List Nat, Rd w w.heap.size a len (U8 bs) ∧ ∀ b ∈ bs, b < 256 := by
  rcases h with ⟨rfl, rfl, rfl, rfl⟩ | ⟨x, rfl, hl, hm, hz, hc, hw⟩
  · exact ⟨Nat.le_refl _, Nat.zero_le _, [], Rd.nil _ _ _, by simp⟩
  · have hb : ∀ n ∈ zs, 0 ≤ n ∧ n < 256 := fun n hn => by
      have := hw n hn
      simp [Lit.wf, IntKind.min, IntKind.max, IntKind.bits, IntKind.signed] at this
      omega
    refine ⟨hl, hm, (zs.take len).map Int.toNat, ⟨by simp [U8]; omega, fun h0 => ?_⟩, ?_⟩
    · obtain ⟨b, o, sp⟩ := x
      obtain rfl : sp = none := by simpa [Addr.add] using World.cell?_spot (hc 0 (by omega))
      refine ⟨b, o, rfl, World.block_lt_of_cell? _ _ (hc 0 (by omega)), fun j hj => ?_⟩
      have hj' : j < len := by simp [U8] at hj; omega
      have := hc j (by omega)
      rw [U8_get]
      have e : (⟨b, o, none⟩ : Addr).add j = ⟨b, o + j, none⟩ := by unfold Addr.add; split <;> simp_all
      rw [e] at this
      rw [this]
      have hjz : j < zs.length := by omega
      have := hb zs[j] (List.getElem_mem _)
      simp [List.getD_eq_getElem?_getD, List.getElem?_eq_getElem hjz]
      omega
    · intro b hb'
      simp only [List.mem_map] at hb'
      obtain ⟨n, hn, rfl⟩ := hb'
      have := hb n (List.mem_of_mem_take hn)
      omega
theorem wf_u8 {x : Int} (h : (Lit.int .u8 x).wf = true) : ∃ n : Nat, x = (n : Int) ∧ n < 256 := by
  simp [Lit.wf, IntKind.min, IntKind.max, IntKind.bits, IntKind.signed] at h
  exact ⟨x.toNat, by omega, by omega⟩
theorem wf_u64 {x : Int} (h : (Lit.int .u64 x).wf = true) : ∃ n : Nat, x = (n : Int) ∧ n < 2 ^ 64 := by
  simp [Lit.wf, IntKind.min, IntKind.max, IntKind.bits, IntKind.signed] at h
  exact ⟨x.toNat, by omega, by omega⟩
theorem wf_i64 {x : Int} (h : (Lit.int .i64 x).wf = true) : -9223372036854775808 ≤ x ∧ x ≤ 9223372036854775807 := by
  simp [Lit.wf, IntKind.min, IntKind.max, IntKind.bits, IntKind.signed] at h
  omega
end Go.Proofs.Ythkocodajjapmaa
namespace Go.Proofs.Ythkocodajjapmaa
open Go.RowKit
set_option linter.unusedVariables false
/-- An answer in new memory that reads as a list. -/
def NewU8 (w : World) (bs : List Nat) (e : Ending) (w' : World) : Prop :=
  ∃ A c, e = .returned (.slice A bs.length c) ∧ bs.length ≤ c ∧ c ≤ maxLen ∧ w'.ownsRow w.heap.size 5 1 (.slice A bs.length c) bs.length (U8 bs) ∧ Below w.heap.size w w'
theorem NewU8.mk {w w' : World} {bs : List Nat} {e : Ending} {v : Value} (he : e = .returned v) (h : w'.ownsRow w.heap.size 5 1 v bs.length (U8 bs)) (hb : Below w.heap.size w w') : NewU8 w bs e w' := by
  obtain ⟨A, c, rfl, h1, h2⟩ := own_form h
  exact ⟨A, c, he, h1, h2, h, hb⟩

theorem conv_bytes (A : Option Addr) (n c B : Nat) (bs : List Nat) (w : World) (h : Rd w B A n (U8 bs)) :
    (convert 22 9 (.slice A n c)).run Try.prog w = .ok (.string (strOfNums (bs.map fun (b : Nat) => (b : Int)))) w := by
  have hl : bs.length = n := by rw [← h.len, U8_len]
  rcases Nat.eq_zero_or_pos n with h0 | h0
  · subst h0
    obtain rfl : bs = [] := List.eq_nil_of_length_eq_zero hl
    rw [run_convert_bytes_string w 22 9 5 _ 0 c Try.underlying22 Try.underlying5 Try.underlying9]
    cases A <;> simp [Conv.bytesToString, loadCells, loadCellsFrom, strOfNums] <;> rfl
  · obtain ⟨b, o, rfl, _, hc⟩ := h.at_ h0
    refine run_convert_bytes_arg (P := Try.prog) w 22 5 Try.underlying22 Try.underlying5 b o n c _ (by simpa using hl) (fun i hi => ?_) 9 Try.underlying9
    rw [hc i (by rw [U8_len]; omega), U8_get]
    simp [List.getD_eq_getElem?_getD, List.getElem?_eq_getElem (show i < bs.length by omega)]

theorem bytes_inj (cs bs : List Nat) (ha : ∀ b ∈ cs, b < 256) (hb : ∀ b ∈ bs, b < 256) :
    ((cs.map fun (b : Nat) => UInt8.ofNat (b : Int).toNat) = bs.map fun (b : Nat) => UInt8.ofNat (b : Int).toNat) ↔ cs = bs := by
  constructor
  · intro h
    induction cs generalizing bs with
    | nil => cases bs with
      | nil => rfl
      | cons b bs => simp at h
    | cons a cs ih => cases bs with
      | nil => simp at h
      | cons b bs =>
        simp only [List.map_cons, List.cons.injEq] at h
        have h1 := congrArg UInt8.toNat h.1
        simp only [Int.toNat_natCast, UInt8.toNat_ofNat'] at h1
        have := ha a (by simp)
        have := hb b (by simp)
        rw [ih bs (fun x hx => ha x (by simp [hx])) (fun x hx => hb x (by simp [hx])) h.2]
        rw [show a = b by omega]
  · rintro rfl; rfl

theorem fill_next (X : List Nat) (k m : Nat) (hX : X.length = m) (hk : k < m) :
    ((U8 (X.take k ++ List.replicate (m - k) 0)).toArray).setIfInBounds k (.int .u8 ((X.getD k 0 : Nat) : Int)) = (U8 (X.take (k + 1) ++ List.replicate (m - (k + 1)) 0)).toArray := by
  rw [show X.getD k 0 = X[k] by simp [List.getD_eq_getElem?_getD, List.getElem?_eq_getElem (show k < X.length by omega)]]
  apply Array.toList_inj.1
  rw [Array.toList_setIfInBounds]
  show (U8 (X.take k ++ List.replicate (m - k) 0)).set k _ = U8 _
  have e1 : List.replicate (m - k) 0 = 0 :: List.replicate (m - (k + 1)) 0 := by
    rw [show m - k = (m - (k + 1)) + 1 by omega, List.replicate_succ]
  rw [e1, U8_append, ← List.take_append_getElem (by omega : k < X.length), List.append_assoc, U8_append, List.set_append_right _ _ (by rw [U8_len, List.length_take]; omega)]
  have e2 : k - (U8 (X.take k)).length = 0 := by rw [U8_len, List.length_take]; omega
  rw [e2]
  rfl
end Go.Proofs.Ythkocodajjapmaa
namespace Go.Proofs.Ythkocodajjapmaa
set_option linter.unusedVariables false

def ofNB (l : List Nat) : List Int := l.map fun (x : Nat) => (x : Int)
theorem ofN_lenB (l : List Nat) : (ofNB l).length = l.length := by simp [ofNB]
theorem ofN_appendB (l m : List Nat) : ofNB (l ++ m) = ofNB l ++ ofNB m := by simp [ofNB]
theorem ofN_takeB (l : List Nat) (k : Nat) : ofNB (l.take k) = (ofNB l).take k := by simp [ofNB, List.map_take]
theorem ofN_dropB (l : List Nat) (k : Nat) : ofNB (l.drop k) = (ofNB l).drop k := by simp [ofNB, List.map_drop]
theorem ofN_getB (l : List Nat) (i : Nat) : (ofNB l).getD i 0 = ((l.getD i 0 : Nat) : Int) := by
  by_cases h : i < l.length
  · simp [ofNB, List.getD_eq_getElem?_getD, h]
  · simp [ofNB, List.getD_eq_getElem?_getD, Nat.le_of_not_lt h]
theorem ofN_injB {l m : List Nat} (h : ofNB l = ofNB m) : l = m := by
  have hl : l.length = m.length := by rw [← ofN_lenB, h, ofN_lenB]
  apply List.ext_getElem hl
  intro i h1 h2
  have := congrArg (fun l => l.getD i 0) h
  simp only [ofN_getB] at this
  simp only [List.getD_eq_getElem?_getD, List.getElem?_eq_getElem h1, List.getElem?_eq_getElem h2, Option.getD_some] at this
  omega

/-- The number of some bits, the lowest first. -/
def val : List Nat → Nat
  | [] => 0
  | b :: l => b + 2 * val l
/-- Noughts and ones. -/
def Bin (l : List Nat) : Prop := ∀ b ∈ l, b < 2
theorem Bin.nil : Bin [] := fun _ h => by cases h
theorem Bin.tail {b : Nat} {l : List Nat} (h : Bin (b :: l)) : Bin l := fun x hx => h x (List.mem_cons_of_mem _ hx)
theorem Bin.head {b : Nat} {l : List Nat} (h : Bin (b :: l)) : b < 2 := h b (List.mem_cons_self ..)
theorem Bin.append {l m : List Nat} (h : Bin l) (k : Bin m) : Bin (l ++ m) := fun x hx => by
  rcases List.mem_append.1 hx with hx | hx
  · exact h x hx
  · exact k x hx
theorem Bin.take {l : List Nat} (h : Bin l) (k : Nat) : Bin (l.take k) := fun x hx => h x (List.mem_of_mem_take hx)
theorem Bin.drop {l : List Nat} (h : Bin l) (k : Nat) : Bin (l.drop k) := fun x hx => h x (List.mem_of_mem_drop hx)
theorem Bin.getD {l : List Nat} (h : Bin l) (i : Nat) : l.getD i 0 < 2 := by
  by_cases hi : i < l.length
  · rw [List.getD_eq_getElem?_getD, List.getElem?_eq_getElem hi]
    exact h _ (List.getElem_mem hi)
  · rw [List.getD_eq_getElem?_getD, List.getElem?_eq_none (by omega)]; decide
theorem val_lt {l : List Nat} (h : Bin l) : val l < 2 ^ l.length := by
  induction l with
  | nil => simp [val]
  | cons b l ih =>
    have h1 := ih h.tail
    have h2 := h.head
    simp only [val, List.length_cons, Nat.pow_succ]
    omega
theorem val_append (l m : List Nat) : val (l ++ m) = val l + 2 ^ l.length * val m := by
  induction l with
  | nil => simp [val]
  | cons b l ih => 
    simp only [List.cons_append, val, ih, List.length_cons, Nat.pow_succ]
    rw [Nat.mul_add, ← Nat.mul_assoc, Nat.mul_comm 2 (2 ^ l.length)]
    omega
theorem val_bit {l : List Nat} (h : Bin l) (i : Nat) : val l / 2 ^ i % 2 = l.getD i 0 := by
  induction l generalizing i with
  | nil => simp [val]
  | cons b l ih =>
    have hb := h.head
    cases i with
    | zero => simp [val]; omega
    | succ i =>
      have e : (b + 2 * val l) / 2 ^ (i + 1) = val l / 2 ^ i := by
        rw [Nat.pow_succ, Nat.mul_comm (2 ^ i) 2, ← Nat.div_div_eq_div_mul]
        congr 1; omega
      simp only [val, e, List.getD_cons_succ]
      exact ih h.tail i
theorem val_inj {l m : List Nat} (h : Bin l) (k : Bin m) (hl : l.length = m.length) (e : val l = val m) : l = m := by
  apply List.ext_getElem hl
  intro i h1 h2
  have a := val_bit h i
  have b := val_bit k i
  rw [e, b] at a
  simpa [List.getD_eq_getElem?_getD, List.getElem?_eq_getElem h1, List.getElem?_eq_getElem h2] using a.symm
/-- A number's k lowest bits. -/
def numL (x k : Nat) : List Nat := (List.range k).map fun i => x / 2 ^ i % 2
theorem numL_len (x k : Nat) : (numL x k).length = k := by simp [numL]
theorem numL_bin (x k : Nat) : Bin (numL x k) := fun b hb => by
  simp only [numL, List.mem_map] at hb
  obtain ⟨i, _, rfl⟩ := hb
  exact Nat.mod_lt _ (by decide)
theorem numL_next (x k : Nat) : numL x (k + 1) = numL x k ++ [x / 2 ^ k % 2] := by simp [numL, List.range_succ]
theorem mod_next (x k : Nat) : x % 2 ^ (k + 1) = x % 2 ^ k + 2 ^ k * (x / 2 ^ k % 2) := by rw [Nat.pow_succ, Nat.mod_mul]
theorem val_numL (x k : Nat) : val (numL x k) = x % 2 ^ k := by
  induction k with
  | zero => simp [numL, val, Nat.mod_one]
  | succ k ih => rw [numL_next, val_append, ih, numL_len, mod_next]; simp [val]
theorem val_take {l : List Nat} (h : Bin l) (k : Nat) : val (l.take k) = val l % 2 ^ k := by
  by_cases hk : k ≤ l.length
  · have e := val_append (l.take k) (l.drop k)
    rw [List.take_append_drop, List.length_take, Nat.min_eq_left hk] at e
    rw [e, Nat.add_mul_mod_self_left]
    have := val_lt (h.take k)
    rw [List.length_take, Nat.min_eq_left hk] at this
    exact (Nat.mod_eq_of_lt this).symm
  · rw [List.take_of_length_le (by omega)]
    exact (Nat.mod_eq_of_lt (Nat.lt_of_lt_of_le (val_lt h) (Nat.pow_le_pow_right (by omega) (by omega)))).symm
theorem val_drop {l : List Nat} (h : Bin l) (k : Nat) : val (l.drop k) = val l / 2 ^ k := by
  by_cases hk : k ≤ l.length
  · have e := val_append (l.take k) (l.drop k)
    rw [List.take_append_drop, List.length_take, Nat.min_eq_left hk] at e
    have := val_lt (h.take k)
    rw [List.length_take, Nat.min_eq_left hk] at this
    rw [e, Nat.add_comm, Nat.mul_add_div (Nat.two_pow_pos k), Nat.div_eq_of_lt this, Nat.add_zero]
  · rw [List.drop_of_length_le (by omega), Nat.div_eq_of_lt (Nat.lt_of_lt_of_le (val_lt h) (Nat.pow_le_pow_right (by omega) (by omega)))]
    rfl
/-- Bits put behind a list's number. -/
theorem put_val {l m : List Nat} (hm : Bin m) : put (val l) l.length (val m) m.length = val (l ++ m) := by
  unfold put
  rw [val_append, Nat.mod_eq_of_lt (val_lt hm), Nat.mul_comm]
theorem put_numL (l : List Nat) (x k : Nat) : put (val l) l.length x k = val (l ++ numL x k) := by
  unfold put
  rw [val_append, val_numL, Nat.mul_comm]
theorem numL_val {l : List Nat} (h : Bin l) (k : Nat) (hk : k ≤ l.length) : numL (val l) k = l.take k := by
  refine val_inj (numL_bin _ _) (h.take k) (by rw [numL_len, List.length_take, Nat.min_eq_left hk]) ?_
  rw [val_numL, val_take h]
/-- A number of bits in two parts is the number at once. -/
theorem put_two (x a b : Nat) : put (put 0 0 x a) (0 + a) (x / 2 ^ a) b = put 0 0 x (a + b) := by
  unfold put
  simp only [Nat.zero_add, Nat.pow_zero, Nat.mul_one]
  rw [Nat.pow_add, Nat.mod_mul, Nat.mul_comm]
/-- Bits of bytes, not more than so many. -/
def few (bs : List Nat) (m : Nat) : List Nat := (bs.flatMap fun b => numL b 8).take m
theorem flat_bin (bs : List Nat) : Bin (bs.flatMap fun b => numL b 8) := fun x hx => by
  obtain ⟨b, _, h⟩ := List.mem_flatMap.1 hx
  exact numL_bin b 8 x h
theorem few_bin (bs : List Nat) (m : Nat) : Bin (few bs m) := (flat_bin bs).take m
theorem flat_len (bs : List Nat) : (bs.flatMap fun b => numL b 8).length = 8 * bs.length := by
  induction bs with
  | nil => rfl
  | cons b bs ih => simp only [List.flatMap_cons, List.length_append, ih, numL_len, List.length_cons]; omega
theorem few_len (bs : List Nat) (m : Nat) : (few bs m).length = min m (8 * bs.length) := by rw [few, List.length_take, flat_len]
/-- On the way: k bytes and i bits of the next one. -/
def fewTo (bs : List Nat) (m k i : Nat) : List Nat := (((bs.take k).flatMap fun b => numL b 8) ++ numL (bs.getD k 0) i).take m
theorem fewTo_start (bs : List Nat) (m : Nat) : fewTo bs m 0 0 = [] := by simp [fewTo, numL]
theorem fewTo_bit (bs : List Nat) (m k i : Nat) (h : (fewTo bs m k i).length < m) : fewTo bs m k (i + 1) = fewTo bs m k i ++ [bs.getD k 0 / 2 ^ i % 2] := by
  unfold fewTo at h ⊢
  generalize ((bs.take k).flatMap fun b => numL b 8) = F at *
  rw [List.length_take] at h
  rw [numL_next, ← List.append_assoc, List.take_of_length_le (by simp only [List.length_append, List.length_cons, List.length_nil] at h ⊢; omega), List.take_of_length_le (by omega)]
theorem fewTo_full (bs : List Nat) (m k i j : Nat) (hij : i ≤ j) (h : ¬ (fewTo bs m k i).length < m) : fewTo bs m k j = fewTo bs m k i := by
  unfold fewTo at h ⊢
  generalize ((bs.take k).flatMap fun b => numL b 8) = F at *
  rw [List.length_take] at h
  have e : numL (bs.getD k 0) j = numL (bs.getD k 0) i ++ (numL (bs.getD k 0) j).drop i := by
    have h1 : numL (bs.getD k 0) i = (numL (bs.getD k 0) j).take i := by
      simp only [numL, ← List.map_take, List.take_range, Nat.min_eq_left hij]
    rw [h1, List.take_append_drop]
  rw [e, ← List.append_assoc, List.take_append_of_le_length (by omega)]
theorem fewTo_next (bs : List Nat) (m k : Nat) (hk : k < bs.length) : fewTo bs m k 8 = fewTo bs m (k + 1) 0 := by
  unfold fewTo
  rw [← List.take_append_getElem hk, List.flatMap_append]
  simp [numL, List.getD_eq_getElem?_getD, List.getElem?_eq_getElem hk]
theorem fewTo_end (bs : List Nat) (m : Nat) : fewTo bs m bs.length 0 = few bs m := by
  unfold fewTo few
  simp [numL]
theorem fewTo_le (bs : List Nat) (m k i : Nat) : (fewTo bs m k i).length ≤ 8 * k + i := by
  unfold fewTo
  rw [List.length_take, List.length_append, flat_len, numL_len, List.length_take]
  omega
/-- What Add makes of numbers. -/
def bit1 (x : Int) : Nat := if x = 0 then 0 else 1
theorem bit1_bin (z : List Int) : Bin (z.map bit1) := fun b hb => by
  simp only [List.mem_map] at hb
  obtain ⟨x, _, rfl⟩ := hb
  unfold bit1; split <;> decide
theorem bit1_ofN {l : List Nat} (h : Bin l) : (ofNB l).map bit1 = l := by
  induction l with
  | nil => rfl
  | cons b l ih =>
    have := h.head
    simp only [ofNB, List.map_cons, List.cons.injEq] at ih ⊢
    refine ⟨?_, ih h.tail⟩
    unfold bit1; split <;> omega
theorem put_one (l : List Nat) (x : Int) : put (val l) l.length (bit1 x) 1 = val (l ++ [bit1 x]) := by
  have h : Bin [bit1 x] := fun b hb => by
    simp only [List.mem_singleton] at hb
    subst hb; unfold bit1; split <;> decide
  have := put_val (l := l) h
  simpa [val] using this
end Go.Proofs.Ythkocodajjapmaa
namespace Go.Proofs.Ythkocodajjapmaa
open Go.RowKit
set_option linter.unusedVariables false

theorem at_outB (v : Option Addr) (n : Nat) (i : Int) (w : World) (hi : -9223372036854775808 ≤ i ∧ i ≤ 9223372036854775807) (ho : i < 0 ∨ (n : Int) ≤ i)
    (hl : Calls Try.prog 52 #[.pointer v] w fun e w' => e = .returned (.int .i64 (n : Int)) ∧ w = w') :
    Calls Try.prog 69 #[.pointer v, .int .i64 i] w fun e w' => e = .returned (.int .i64 (-1)) ∧ w = w' := by
  have L := Lib.hid hl
  clear hl
  by_cases h : i < 0
  · go_enter Try.func69, Try.ntmps69
    go_wp2_with fail
    go_ret
    exact ⟨rfl, rfl⟩
  · have h2 : (n : Int) ≤ i := by omega
    clear ho
    go_enter Try.func69, Try.ntmps69
    go_wp2_with (go_at_call 52; refine L.out.mono ?_; rintro e w' ⟨rfl, rfl⟩)
    go_ret
    exact ⟨rfl, rfl⟩
theorem at_p (g V n i B : Nat) (A : Option Addr) (w : World) (h : VecB w B g V n A) (hi : i < n) :
    Calls Try.prog 69 #[.pointer (some ⟨g, 0, none⟩), .int .i64 (i : Int)] w fun e w' => e = .returned (.int .i64 ((V / 2 ^ i % 2 : Nat) : Int)) ∧ w = w' := by
  have L := Lib.hid (blen_p g V n A w h)
  have G := Lib.hid (get_p g V n i 1 A w h (by omega) (by omega) (by omega))
  have hn := h.2.1
  have hlt : ¬ (n : Int) ≤ (i : Int) := by omega
  have hb : V / 2 ^ i % 2 ^ 1 < 2 := Nat.mod_lt _ (by decide)
  rw [show V / 2 ^ i % 2 = V / 2 ^ i % 2 ^ 1 by rw [Nat.pow_one]]
  generalize V / 2 ^ i % 2 ^ 1 = x at *
  clear h
  go_enter Try.func69, Try.ntmps69
  go_wp2_with (first
    | (go_at_call 52; refine L.out.mono ?_; rintro e w' ⟨rfl, rfl⟩)
    | (go_at_call 78; refine G.out.mono ?_; rintro e w' ⟨rfl, rfl⟩))
  go_ret
  exact ⟨rfl, rfl⟩

/-- The text of some bits. -/
def textOf (l : List Nat) : ByteArray := strOfNums (l.map fun (b : Nat) => ((48 + b : Nat) : Int))
/-- The bytes of n bits. -/
def bytesL (V n : Nat) : List Nat := (List.range ((n + 7) / 8)).map fun i => V / 2 ^ (8 * i) % 256
theorem bytesL_len (V n : Nat) : (bytesL V n).length = (n + 7) / 8 := by simp [bytesL]
theorem bytesL_lt (V n : Nat) : ∀ b ∈ bytesL V n, b < 256 := fun b hb => by
  simp only [bytesL, List.mem_map] at hb
  obtain ⟨i, _, rfl⟩ := hb
  exact Nat.mod_lt _ (by decide)
theorem byte_part {V n i : Nat} (h : V < 2 ^ n) (hi : 8 * i < n) : V / 2 ^ (8 * i) % 2 ^ (min 8 (n - 8 * i)) = V / 2 ^ (8 * i) % 256 := by
  by_cases h8 : 8 ≤ n - 8 * i
  · rw [Nat.min_eq_left h8]
  · rw [Nat.min_eq_right (by omega)]
    have h1 : V / 2 ^ (8 * i) < 2 ^ (n - 8 * i) := by
      rw [Nat.div_lt_iff_lt_mul (Nat.two_pow_pos _), ← Nat.pow_add, show n - 8 * i + 8 * i = n by omega]; exact h
    have h2 : (2 : Nat) ^ (n - 8 * i) ≤ 2 ^ 8 := Nat.pow_le_pow_right (by omega) (by omega)
    rw [Nat.mod_eq_of_lt h1, Nat.mod_eq_of_lt (Nat.lt_of_lt_of_le h1 h2)]
end Go.Proofs.Ythkocodajjapmaa
