/- Num: the bits go over the last word's end. Slices of int: what they read as; the library's Clone and Equal. Num, whole; two vectors side by side; the library's Clone and Equal of words. The library's Equal of words. Bytes. The library's Clone and Equal of bytes. Same: two vectors, nil or not. Few, Add, of: bits out of bytes, and a vector of them. -/
import Derived.Test.YtcefohjddbjcjaaZg2
import Derived.Deep.RegionLaw
import Derived.Deep.AppendLies
import Derived.Test.YtcefohjddbjcjaaProg
import Derived.WalkKit
import Derived.WalkLawsBesides
import Derived.WalkSpells
import Derived.Outline
import Derived.RegionTactic
import Derived.BigRegion
import Derived.Deep.DeepMust
import Derived.Laws.BytesArg
import Derived.ArgAppend
import Derived.Deep.QuietTactic
import Derived.BigQuiet
import Derived.Test.YtcefohjddbjcjaaZg1
import Derived.Deep.RegionWith
namespace Go.Proofs.Ytcefohjddbjcjaa
open Go.RowKit
set_option linter.unusedVariables false

set_option maxRecDepth 20000 in
set_option maxHeartbeats 2000000 in
theorem num_over (g V n x kk : Nat) (k : Int) (A : Option Addr) (w : World) (h : VecAt w g V n A) (hx : x < 2 ^ 64) (hk : -9223372036854775808 ≤ k ∧ k ≤ 9223372036854775807) (hkk : cnt64 k = kk) (hk1 : 1 ≤ kk) (hk64 : kk ≤ 64) (hn : n + 64 ≤ 1000000) (s : Nat) (hs : n % 64 = s) (hs0 : 0 < s) (hsk : 64 < s + kk) :
    Calls Try.prog 36 #[.pointer (some ⟨g, 0, none⟩), .int .u64 (x : Int), .int .i64 k] w fun e w' => e = .returned (.tuple #[]) ∧
      ∃ A', VecAt w' g (put V n x kk) (n + kk) A' ∧ Mod (fun i => i = g ∨ (∃ b, A = some ⟨b, 0, none⟩ ∧ i = b)) w w' ∧ (A' = A ∨ ∃ b, A' = some ⟨b, 0, none⟩ ∧ w.heap.size ≤ b) ∧ OldK w' A V (put V n x kk) n := by
  have C := Lib.hid (count_p k w hk)
  rw [hkk] at C
  have L := Lib.hid (low_p kk w hk64)
  obtain ⟨hV, hn1, c, hb, ho⟩ := h
  obtain ⟨q, hq⟩ : ∃ q, q = n / 64 := ⟨_, rfl⟩
  have hm : (n + 63) / 64 = q + 1 := by omega
  have hnq : n = 64 * q + s := by omega
  rw [hm] at hb ho
  obtain ⟨b, rfl, hb1, hb2⟩ := own_some ho (by omega)
  have c0 : w.cell? ⟨g, 0, none⟩ = some (.slice (some ⟨b, 0, none⟩) (q + 1) c) := hb.cell 0
  have c1 : w.cell? ⟨g, 1, none⟩ = some (.int .i64 (n : Int)) := hb.cell 1
  have cq : w.cell? ⟨b, q, none⟩ = some (.int .u64 ((wd V q : Nat) : Int)) := by
    rw [ho.cellAt q (by omega), U64_get _ _ (by rw [words_len]; omega), words_get _ _ _ (by omega)]
  have fq := ho.frozenAt q
  have f1 := hb.frozen 1
  obtain ⟨X, hX⟩ : ∃ X, X = x % 2 ^ kk := ⟨_, rfl⟩
  have hand : bits .and .u64 (x : Int) ((2 ^ kk - 1 : Nat) : Int) = ((X : Nat) : Int) := by
    rw [u64_and_nat _ _ hx (Nat.lt_of_lt_of_le (Nat.sub_lt (Nat.two_pow_pos kk) Nat.one_pos) (Nat.pow_le_pow_right (by omega) hk64)), Nat.and_two_pow_sub_one_eq_mod, hX]
  have hr : (n : Int) % 64 = (s : Int) := by omega
  have HOR : Hid (bits .or .u64 ((wd V q : Nat) : Int) (IntKind.u64.wrap ((X : Int) * 2 ^ s)) = ((wd (put V n x kk) q : Nat) : Int)) := by
    show _ = _
    rw [wrap_u64, u64_or_nat _ _ (wd_lt V q) (Nat.mod_lt _ (by decide)), wd_put_last x kk q s hV hnq (by omega), hX]
  have hgl := hb.lt
  have HB := Lib.hid hb
  have HO := Lib.hid ho
  have HNQ := Lib.hid hnq
  have hk0 : ¬ kk = 0 := by omega
  have hs64 : s < 64 := by omega
  have hq2 : q ≤ 1000000 := by omega
  have hsk2 : (64 : Int) < (s : Int) + (kk : Int) := by omega
  have HXX : Hid (X = x % 2 ^ kk) := hX
  obtain ⟨i0, hi0, hz0, hz1, hz2⟩ := info_parts info_u64
  clear hb ho hX hm hkk hs hq hnq
  generalize hP : 2 ^ kk - 1 = PP at *
  clear hP
  generalize hW : wd V q = W at *
  clear hW
  go_enter Try.func36, Try.ntmps36
  go_wp2_with fail
  refine C.out.mono ?_
  rintro e w' ⟨rfl, rfl⟩
  go_wp2_with fail
  refine L.out.mono ?_
  rintro e w' ⟨rfl, rfl⟩
  go_wp2_with fail
  go_region
  go_wp2_with fail
  rw [HOR.out]
  have m1 : Mod (fun i => i = b) w ((w.setCell ⟨b, q, none⟩ (.int .u64 ((wd (put V n x kk) q : Nat) : Int))).drew) :=
    Mod.drew (Mod.setCell (p := ⟨b, q, none⟩) (Mod.refl (fun i => i = b) w) (fun _ => rfl) _)
  have b1 := HB.out.mod m1 (show ¬ g = b by omega)
  have o1 := own_below (HO.out.stored q (.int .u64 ((wd (put V n x kk) q : Nat) : Int))).1 (Below.refl _ _).drew
  generalize (w.setCell ⟨b, q, none⟩ (.int .u64 ((wd (put V n x kk) q : Nat) : Int))).drew = w1 at *
  have hs1 := m1.size
  have d0 : w1.cell? ⟨g, 0, none⟩ = some (.slice (some ⟨b, 0, none⟩) (q + 1) c) := b1.cell 0
  have hgl1 : g < w1.heap.size := by omega
  have hgb : g ≠ b := by omega
  have hn1' : q + 1 + 1 ≤ maxLen := by simp only [maxLen]; omega
  have hn2 : (q + 1 + 1) * 8 ≤ 140737488355328 := by omega
  have B1 := Lib.hid b1
  have M1 := Lib.hid m1
  have O1 := Lib.hid o1
  clear b1 m1 cq c0 c1 fq f1
  obtain ⟨t, ht⟩ : ∃ t, t = 64 - s := ⟨_, rfl⟩
  have hwt : IntKind.i64.wrap (64 - (s : Int)) = (t : Int) := by rw [show (64 - (s : Int)) = (t : Int) by omega]; rw [IntKind.wrap_i64]; omega
  have ht64 : t < 64 := by omega
  have HT := Lib.hid ht
  clear ht
  generalize hxs : (U64 (words V (q + 1))).set q (.int .u64 ((wd (put V n x kk) q : Nat) : Int)) = xs at *
  have HXS := Lib.hid hxs
  clear hxs
  have f0 := B1.out.frozen 0
  have fz : ∀ o, (w1.alloc o).drew.frozen? ⟨g, 0, none⟩ = false := fun o => ((B1.out.alloc o).drewN 1).frozen 0
  have hgo : (Value.slice (some ⟨b, 0, none⟩) (q + 1) c).ownBlock ≠ some g := by simp [Value.ownBlock]; omega
  go_region_law
    ((refine step_append_keep _ (by rfl) _ _ _ (by rfl) (g + 1) 22 i0 _ 1 8 Try.underlying62 hi0 hz0 hz1 hz2 rfl (by omega) (.slice (some ⟨b, 0, none⟩) (q + 1) c) (q + 1) xs (by rfl) ((O1.out.alloc _).drew)
        ⟨w1.heap.size, 0, none⟩ 1 1 [.int .u64 ((X : Int) / 2 ^ t)] (by rfl) (by rfl) (World.news_of_block (cs := #[.int .u64 ((X : Int) / 2 ^ t)]) (t := 22) (fr := (0, 0)) (heap_alloc_new w1 _)) (by simp [Value.oneCell'])
        (by omega) hn1' hn2 (by simp; omega) (w1.heap.size + 1) (by simp) ?_; intro gg cap w3 hown1 hgrow hat hlt hkp
      have hgm := Mod.ofGrown hgrow
      have b3 : Blk w3 g 64 #[.slice (some ⟨b, 0, none⟩) (q + 1) c, .int .i64 (n : Int)] := ((B1.out.alloc _).drewN 1).mod hgm (fun e => hgo e.symm)
      have e1 : w3.cell? ⟨g, 1, none⟩ = some (.int .i64 (n : Int)) := b3.cell 1
      have g1 := b3.frozen 1
      have e0 : w3.cell? ⟨g, 0, none⟩ = some (.slice (some ⟨b, 0, none⟩) (q + 1) c) := b3.cell 0
      have g0 := b3.frozen 0
      have HGM := Lib.hid hgm
      have HOW := Lib.hid hown1
      have HAT := Lib.hid hat
      have HKP := Lib.hid hkp
      have B3 := Lib.hid b3
      clear hgm hgrow hown1 hat b3 hkp))
  all_goals go_wp2
  all_goals (
    clear e0 e1 g0 g1 f0 fz
    refine bodyPost_end (results_none rfl _ _ _) rfl ⟨rfl, some ⟨gg, 0, none⟩, ?_, ?_, ?_, ?_⟩
    · have hn64 := HNQ.out
      have hm1 : (n + kk + 63) / 64 = q + 1 + 1 := by omega
      refine ⟨put_lt x kk hV, by omega, cap, ?_, ?_⟩
      · rw [hm1]
        have := (B3.out.set_ 0 (.slice (some ⟨gg, 0, none⟩) (q + 1 + 1) cap)).set_ 1 (.int .i64 ((n : Int) + (kk : Int)))
        simpa using this
      · rw [hm1]
        have hw : xs ++ [Value.int .u64 ((X : Int) / 2 ^ t)] = U64 (words (put V n x kk) (q + 1 + 1)) := by
          have e1 : (X : Int) / 2 ^ t = ((x % 2 ^ kk / 2 ^ (64 - s) : Nat) : Int) := by rw [HXX.out, HT.out]; simp
          rw [words_next, U64_append, ← HXS.out, ← U64_set, words_next V q, words_next _ q, List.set_append_right _ _ (by rw [words_len]; exact Nat.le_refl _), words_len, Nat.sub_self, e1, wd_put_next x kk q s hV hn64 hs64 hs0 hk64]
          refine congrArg (· ++ _) (congrArg U64 (congrArg (· ++ _) (List.map_congr_left fun i hi => ?_)))
          rw [List.mem_range] at hi
          exact (wd_put_low x kk i hV (by omega)).symm
        rw [← hw]
        have mm : Mod (fun i => i = g) w3 ((w3.setCell ⟨g, 0, none⟩ (.slice (some ⟨gg, 0, none⟩) (q + 1 + 1) cap)).setCell ⟨g, 1, none⟩ (.int .i64 ((n : Int) + (kk : Int)))) :=
          Mod.setCell (p := ⟨g, 1, none⟩) (Mod.setCell (p := ⟨g, 0, none⟩) (Mod.refl (fun i => i = g) w3) (fun _ => rfl) _) (fun _ => rfl) _
        exact own_mod HOW.out mm (fun r hr2 hx2 => by have := (HOW.out.lt r hr2).1; omega)
    · have ha : ∀ i, some i = (Value.slice (some ⟨b, 0, none⟩) (q + 1) c).ownBlock → i = g ∨ ∃ b', some (⟨b, 0, none⟩ : Addr) = some ⟨b', 0, none⟩ ∧ i = b' := fun i hi => by
        simp [Value.ownBlock] at hi
        exact .inr ⟨b, rfl, hi⟩
      have m1 : Mod (fun i => i = g ∨ ∃ b', some (⟨b, 0, none⟩ : Addr) = some ⟨b', 0, none⟩ ∧ i = b') w w1 := M1.out.mono fun i _ hi => .inr ⟨b, rfl, hi⟩
      exact ((((m1.alloc _).drew).trans HGM.out (fun i _ hi => ha i hi)).setCell (p := ⟨g, 0, none⟩) (fun _ => .inl rfl) _).setCell (p := ⟨g, 1, none⟩) (fun _ => .inl rfl) _
    · rcases HAT.out with h1 | h1
      · left
        simp [Value.ownBlock] at h1
        rw [h1]
      · right
        exact ⟨gg, rfl, by omega⟩
    · intro b' hb' i hi
      have hbb : b = b' := (Addr.mk.inj (Option.some.inj hb')).1
      subst hbb
      have hn64 := HNQ.out
      have hi2 : i < q + 1 := by omega
      have far : ∀ u, w3.cell? ⟨b, i, none⟩ = some u → ((w3.setCell ⟨g, 0, none⟩ (.slice (some ⟨gg, 0, none⟩) (q + 1 + 1) cap)).setCell ⟨g, 1, none⟩ (.int .i64 ((n : Int) + (kk : Int)))).cell? ⟨b, i, none⟩ = some u := fun u hu => by
        have h2 : (⟨b, i, none⟩ : Addr) ≠ ⟨g, 0, none⟩ := fun e => by have := congrArg Addr.block e; simp at this; omega
        have h3 : (⟨b, i, none⟩ : Addr) ≠ ⟨g, 1, none⟩ := fun e => by have := congrArg Addr.block e; simp at this; omega
        rw [World.cell?_setCell_other _ _ _ _ h3.symm, World.cell?_setCell_other _ _ _ _ h2.symm]
        exact hu
      have hl : (U64 (words V (q + 1))).length = q + 1 := by rw [U64_len, words_len]
      by_cases hiq : i = q
      · right
        subst hiq
        refine far _ (HKP.out b c rfl i _ ?_)
        rw [← HXS.out, List.getElem?_set_self (by rw [hl]; exact hi2)]
      · left
        refine far _ (HKP.out b c rfl i _ ?_)
        rw [← HXS.out, List.getElem?_set_ne (fun e => hiq e.symm), U64_get _ _ (by rw [words_len]; exact hi2), words_get _ _ _ hi2])
end Go.Proofs.Ytcefohjddbjcjaa
namespace Go.Proofs.Ytcefohjddbjcjaa
open Go.RowKit
set_option linter.unusedVariables false

def I64 (z : List Int) : List Value := z.map fun (x : Int) => Value.int .i64 x
theorem I64_len (z : List Int) : (I64 z).length = z.length := by simp [I64]
theorem I64_one (z : List Int) : ∀ u ∈ I64 z, u.oneCell' = true := by
  intro u hu
  simp only [I64, List.mem_map] at hu
  obtain ⟨b, _, rfl⟩ := hu
  rfl
theorem I64_append (l m : List Int) : I64 (l ++ m) = I64 l ++ I64 m := by simp [I64]
theorem I64_take (l : List Int) (k : Nat) : (I64 l).take k = I64 (l.take k) := by simp [I64, List.map_take]
theorem I64_get (z : List Int) (k : Nat) (hk : k < z.length) : (I64 z)[k]? = some (.int .i64 (z.getD k 0)) := by
  simp [I64, List.getD_eq_getElem?_getD, List.getElem?_eq_getElem hk]
theorem info_int : (Try.prog.info? 3).map (fun i => (i.zero, i.size, i.bytes)) = some (some (.int .i64 0), 1, 8) := by kernel_rfl

theorem Rd.i64 {w : World} {B n : Nat} {A : Option Addr} {z : List Int} (h : Rd w B A n (I64 z)) (h0 : 0 < n) :
    ∃ b o, A = some ⟨b, o, none⟩ ∧ b < B ∧ ∀ k, k < n → w.cell? ⟨b, o + k, none⟩ = some (.int .i64 (z.getD k 0)) := by
  obtain ⟨b, o, e, hb, hc⟩ := h.at_ h0
  refine ⟨b, o, e, hb, fun k hk => ?_⟩
  have hl : z.length = n := by rw [← h.len, I64_len]
  rw [hc k (by rw [I64_len]; omega)]
  have := I64_get z k (by omega)
  rwa [List.getElem?_eq_getElem (by rw [I64_len]; omega)] at this
theorem Rd.cutI64 {w : World} {B n : Nat} {A : Option Addr} {z : List Int} (h : Rd w B A n (I64 z)) (k : Nat) (hk : k ≤ n) : Rd w B A k (I64 (z.take k)) := by
  have := h.take k hk
  rwa [I64_take] at this

/-- An answer in new memory that reads as a list of ints. -/
def NewI64 (w : World) (z : List Int) (e : Ending) (w' : World) : Prop :=
  ∃ A c, e = .returned (.slice A z.length c) ∧ z.length ≤ c ∧ c ≤ maxLen ∧ w'.ownsRow w.heap.size 3 1 (.slice A z.length c) z.length (I64 z) ∧ Below w.heap.size w w'
theorem NewI64.mk {w w' : World} {z : List Int} {e : Ending} {v : Value} (he : e = .returned v) (h : w'.ownsRow w.heap.size 3 1 v z.length (I64 z)) (hb : Below w.heap.size w w') : NewI64 w z e w' := by
  obtain ⟨A, c, rfl, h1, h2⟩ := own_form h
  exact ⟨A, c, he, h1, h2, h, hb⟩


theorem getDI_ext {l m : List Int} (h : l.length = m.length) (hg : ∀ i, i < l.length → l.getD i 0 = m.getD i 0) : l = m := by
  apply List.ext_getElem h
  intro i h1 h2
  have := hg i h1
  rwa [List.getD_eq_getElem?_getD, List.getD_eq_getElem?_getD, List.getElem?_eq_getElem h1, List.getElem?_eq_getElem h2] at this

theorem getDI_set (y : List Int) (k j : Nat) (v : Int) (hk : k < y.length) : (y.set k v).getD j 0 = if j = k then v else y.getD j 0 := by
  rw [List.getD_eq_getElem?_getD, List.getD_eq_getElem?_getD, List.getElem?_set]
  by_cases h : k = j
  · subst h; simp [hk]
  · simp [h, Ne.symm h]
theorem I64_set (y : List Int) (k : Nat) (v : Int) : I64 (y.set k v) = (I64 y).set k (.int .i64 v) := by simp [I64, List.map_set]
theorem own_setI {w : World} {base : Nat} {g n c : Nat} {y : List Int} (h : w.ownsRow base 3 1 (.slice (some ⟨g, 0, none⟩) n c) n (I64 y)) (k : Nat) (v : Int) :
    (w.setCell ⟨g, k, none⟩ (.int .i64 v)).ownsRow base 3 1 (.slice (some ⟨g, 0, none⟩) n c) n (I64 (y.set k v)) := by
  rw [I64_set]; exact (h.stored k _).1
theorem own_cellI {w : World} {base : Nat} {g n c : Nat} {y : List Int} (h : w.ownsRow base 3 1 (.slice (some ⟨g, 0, none⟩) n c) n (I64 y)) (k : Nat) (hk : k < n) :
    w.cell? ⟨g, k, none⟩ = some (.int .i64 (y.getD k 0)) := by
  have hl : y.length = n := by have := h.1; rw [I64_len] at this; omega
  rw [h.cellAt k (by omega), I64_get y k (by omega)]
theorem own_lenI {w : World} {base : Nat} {v : Value} {n : Nat} {y : List Int} (h : w.ownsRow base 3 1 v n (I64 y)) : y.length = n := by
  have := h.1; rw [I64_len] at this; omega
theorem own_block {w : World} {base : Nat} {e : TypeId} {size g m n c : Nat} {xs : List Value} (h : w.ownsRow base e size (.slice (some ⟨g, 0, none⟩) m c) n xs) : base ≤ g ∧ g < w.heap.size := h.lt g rfl
/-- A slice that make has just made. -/
theorem own_made (w : World) (e : TypeId) (n : Nat) (z : Value) (hn : n ≤ maxLen) : (w.alloc (.cells (List.replicate n z).toArray e)).ownsRow w.heap.size e 1 (.slice (some ⟨w.heap.size, 0, none⟩) n n) n (List.replicate n z) := by
  have := World.ownsRow_lit (base := w.heap.size) (e := e) (size := 1) w (List.replicate n z).toArray n (Nat.le_refl _) hn (by simp)
  simpa using this
theorem I64_replicate (n : Nat) (x : Int) : I64 (List.replicate n x) = List.replicate n (.int .i64 x) := by simp [I64]
end Go.Proofs.Ytcefohjddbjcjaa
namespace Go.Proofs.Ytcefohjddbjcjaa
open Go.RowKit
set_option linter.unusedVariables false

theorem VecB.hlt {w : World} {B g V n : Nat} {A : Option Addr} (h : VecB w B g V n A) : g < w.heap.size := h.foot_lt (.inl rfl)
/-- What Num answers, and what it leaves. -/
def NumPost (w : World) (g V' n' : Nat) (A : Option Addr) (e : Ending) (w' : World) : Prop :=
  e = .returned (.tuple #[]) ∧ ∃ A', VecAt w' g V' n' A' ∧ Mod (foot g A) w w' ∧ (A' = A ∨ ∃ b, A' = some ⟨b, 0, none⟩ ∧ w.heap.size ≤ b)
theorem put_zero (V n x : Nat) : put V n x 0 = V := by simp [put, Nat.mod_one]
/-- .. and what the old row holds. -/
def NumPostK (w : World) (g V V' n n' : Nat) (A : Option Addr) (e : Ending) (w' : World) : Prop :=
  e = .returned (.tuple #[]) ∧ ∃ A', VecAt w' g V' n' A' ∧ Mod (foot g A) w w' ∧ (A' = A ∨ ∃ b, A' = some ⟨b, 0, none⟩ ∧ w.heap.size ≤ b) ∧ OldK w' A V V' n
theorem num_pk (g V n x : Nat) (k : Int) (A : Option Addr) (w : World) (h : VecAt w g V n A) (hx : x < 2 ^ 64) (hk : -9223372036854775808 ≤ k ∧ k ≤ 9223372036854775807) (hn : n + 64 ≤ 1000000) :
    Calls Try.prog 36 #[.pointer (some ⟨g, 0, none⟩), .int .u64 (x : Int), .int .i64 k] w (NumPostK w g V (put V n x (cnt64 k)) n (n + cnt64 k) A) := by
  by_cases h0 : k ≤ 0
  · refine (num_zeroB g x k w ⟨hk.1, h0⟩).mono fun e w' ⟨he, hw⟩ => ?_
    subst hw
    have hc : cnt64 k = 0 := by unfold cnt64; rw [if_pos h0]
    rw [hc, put_zero]
    exact ⟨he, A, h, Mod.refl _ _, .inl rfl, OldK.same h (Nat.le_refl _)⟩
  · have hc1 : 1 ≤ cnt64 k := by unfold cnt64; rw [if_neg h0]; split <;> omega
    have hc2 : cnt64 k ≤ 64 := by unfold cnt64; rw [if_neg h0]; split <;> omega
    rcases Nat.eq_zero_or_pos (n % 64) with hs | hs
    · exact num_new g V n x _ k A w h hx hk rfl hc1 hc2 hn hs
    · by_cases hsk : n % 64 + cnt64 k ≤ 64
      · exact num_last g V n x _ k A w h hx hk rfl hc1 hc2 hn _ rfl hs hsk
      · exact num_over g V n x _ k A w h hx hk rfl hc1 hc2 hn _ rfl hs (by omega)
theorem num_p (g V n x : Nat) (k : Int) (A : Option Addr) (w : World) (h : VecAt w g V n A) (hx : x < 2 ^ 64) (hk : -9223372036854775808 ≤ k ∧ k ≤ 9223372036854775807) (hn : n + 64 ≤ 1000000) :
    Calls Try.prog 36 #[.pointer (some ⟨g, 0, none⟩), .int .u64 (x : Int), .int .i64 k] w (NumPost w g (put V n x (cnt64 k)) (n + cnt64 k) A) :=
  (num_pk g V n x k A w h hx hk hn).mono fun e w' ⟨he, A', h1, h2, h3, _⟩ => ⟨he, A', h1, h2, h3⟩

/-- Two vectors share no block. -/
def Sep (g : Nat) (A : Option Addr) (h : Nat) (C : Option Addr) : Prop := ∀ i, foot g A i → ¬ foot h C i
theorem Sep.symm {g h : Nat} {A C : Option Addr} (s : Sep g A h C) : Sep h C g A := fun i hi hj => s i hj hi
theorem Sep.next {w : World} {B g h U m : Nat} {A A' C : Option Addr} (s : Sep g A h C) (hc : VecB w B h U m C) (ha : A' = A ∨ ∃ b, A' = some ⟨b, 0, none⟩ ∧ w.heap.size ≤ b) : Sep g A' h C := by
  rcases ha with rfl | ⟨b, rfl, hb⟩
  · exact s
  · rintro i (rfl | ⟨b', e, rfl⟩) hj
    · exact s i (.inl rfl) hj
    · have := hc.foot_lt hj
      have e2 : b = i := (Addr.mk.inj (Option.some.inj e)).1
      omega
/-- A vector that is made behind another one. -/
theorem Sep.new {w : World} {B g V n : Nat} {A : Option Addr} (h : VecB w B g V n A) (k : Nat) (hk : w.heap.size ≤ k) : Sep g A k none := by
  rintro i hi (rfl | ⟨b, e, _⟩)
  · have := h.foot_lt hi; omega
  · cases e
theorem NumPost.below {w w' : World} {g V' n' : Nat} {A : Option Addr} {e : Ending} {V n : Nat} (p : NumPost w g V' n' A e w') (h : VecAt w g V n A) : Below g w w' := by
  obtain ⟨_, A', h1, m, _⟩ := p
  obtain ⟨_, _, c, hb, ho⟩ := h
  exact m.belowB (Nat.le_of_lt hb.lt) fun i hi hf => by
    rcases hf with rfl | ⟨b, rfl, rfl⟩
    · omega
    · have : g + 1 ≤ i := (ho.lt i rfl).1
      omega

/-- Two vectors side by side, all of them from block L on. -/
def Two (w : World) (L g V n : Nat) (A : Option Addr) (h U m : Nat) (C : Option Addr) : Prop := VecAt w g V n A ∧ VecAt w h U m C ∧ Sep g A h C ∧ L ≤ g ∧ L ≤ h
theorem Two.below {w w' : World} {L g V n : Nat} {A : Option Addr} {h U m : Nat} {C : Option Addr} (t : Two w L g V n A h U m C) (b : Below w.heap.size w w') : Two w' L g V n A h U m C :=
  ⟨t.1.below b, t.2.1.below b, t.2.2⟩
theorem Two.swap {w : World} {L g V n : Nat} {A : Option Addr} {h U m : Nat} {C : Option Addr} (t : Two w L g V n A h U m C) : Two w L h U m C g V n A :=
  ⟨t.2.1, t.1, t.2.2.1.symm, t.2.2.2.2, t.2.2.2.1⟩
theorem Two.left {w w' : World} {L g V n : Nat} {A : Option Addr} {h U m : Nat} {C : Option Addr} (t : Two w L g V n A h U m C) {V' n' : Nat} {e : Ending} (p : NumPost w g V' n' A e w') :
    e = .returned (.tuple #[]) ∧ Below L w w' ∧ ∃ A', Two w' L g V' n' A' h U m C := by
  have hb := p.below t.1
  obtain ⟨he, A', h1, hm, ha⟩ := p
  obtain ⟨t1, t2, t3, t4, t5⟩ := t
  refine ⟨he, hb.mono t4, A', h1, VecB.mod t2 hm fun i hi hj => t3 i hj hi, Sep.next t3 t2 ha, t4, t5⟩
theorem Two.right {w w' : World} {L g V n : Nat} {A : Option Addr} {h U m : Nat} {C : Option Addr} (t : Two w L g V n A h U m C) {U' m' : Nat} {e : Ending} (p : NumPost w h U' m' C e w') :
    e = .returned (.tuple #[]) ∧ Below L w w' ∧ ∃ C', Two w' L g V n A h U' m' C' := by
  obtain ⟨a, b, C', c⟩ := t.swap.left p
  exact ⟨a, b, C', c.swap⟩
theorem cnt64_nat {s : Nat} (h : s ≤ 64) : cnt64 (s : Int) = s := by unfold cnt64; split <;> (try split) <;> omega
theorem U64_one (z : List Nat) : ∀ u ∈ U64 z, u.oneCell' = true := by
  intro u hu
  simp only [U64, List.mem_map] at hu
  obtain ⟨b, _, rfl⟩ := hu
  rfl
theorem Rd.u64 {w : World} {B n : Nat} {A : Option Addr} {z : List Nat} (h : Rd w B A n (U64 z)) (h0 : 0 < n) :
    ∃ b o, A = some ⟨b, o, none⟩ ∧ b < B ∧ ∀ k, k < n → w.cell? ⟨b, o + k, none⟩ = some (.int .u64 ((z.getD k 0 : Nat) : Int)) := by
  obtain ⟨b, o, e, hb, hc⟩ := h.at_ h0
  refine ⟨b, o, e, hb, fun k hk => ?_⟩
  have hl : z.length = n := by rw [← h.len, U64_len]
  rw [hc k (by rw [U64_len]; omega)]
  have := U64_get z k (by omega)
  rwa [List.getElem?_eq_getElem (by rw [U64_len]; omega)] at this

/-- What Clone answers: nil, or a new row. -/
def NewU64 (w : World) (z : List Nat) (e : Ending) (w' : World) : Prop :=
  ∃ A c, e = .returned (.slice A z.length c) ∧ z.length ≤ c ∧ c ≤ maxLen ∧ w'.ownsRow w.heap.size 22 1 (.slice A z.length c) z.length (U64 z) ∧ Below w.heap.size w w'
theorem NewU64.mk {w w' : World} {z : List Nat} {e : Ending} {v : Value} (he : e = .returned v) (h : w'.ownsRow w.heap.size 22 1 v z.length (U64 z)) (hb : Below w.heap.size w w') : NewU64 w z e w' := by
  obtain ⟨A, c, rfl, h1, h2⟩ := own_form h
  exact ⟨A, c, he, h1, h2, h, hb⟩
theorem getDN_ext {l m : List Nat} (h : l.length = m.length) (hg : ∀ i, i < l.length → l.getD i 0 = m.getD i 0) : l = m := by
  apply List.ext_getElem h
  intro i h1 h2
  have := hg i h1
  rwa [List.getD_eq_getElem?_getD, List.getD_eq_getElem?_getD, List.getElem?_eq_getElem h1, List.getElem?_eq_getElem h2] at this
end Go.Proofs.Ytcefohjddbjcjaa
namespace Go.Proofs.Ytcefohjddbjcjaa
open Go.RowKit
set_option linter.unusedVariables false
set_option maxHeartbeats 400000 in
theorem equalU (A1 A2 : Option Addr) (n c m d B1 B2 : Nat) (x y : List Nat) (w : World) (h1 : Rd w B1 A1 n (U64 x)) (h2 : Rd w B2 A2 m (U64 y)) (hn : n ≤ 9223372036854775807) (hm : m ≤ 9223372036854775807) :
    Calls Try.prog 32 #[.slice A1 n c, .slice A2 m d] w fun e w' => e = .returned (.bool (decide (x = y))) ∧ ∃ k, w' = w.drewN k := by
  have l1 : x.length = n := by rw [← h1.len, U64_len]
  have l2 : y.length = m := by rw [← h2.len, U64_len]
  by_cases hnm : n = m
  · subst hnm
    have L1 := Lib.hid l1
    have L2 := Lib.hid l2
    clear l1 l2
    go_enter Try.func32, Try.ntmps32
    go_wp2
    go_loopw [13] (fun i wr => ∃ k j : Nat, k ≤ n ∧ i = .int .i64 k ∧ Hid (∀ j, j < k → x.getD j 0 = y.getD j 0) ∧ wr = w.drewN j) (fun i _ => n - (intOf i).toNat)
    case atStart => exact ⟨0, 0, by omega, rfl, fun j hj => absurd hj (by omega), rfl⟩
    case round =>
      obtain ⟨k, j, hk, rfl, hsame, rfl⟩ := hrel
      by_cases hlt : k < n
      · obtain ⟨b1, o1, rfl, _, k1⟩ := h1.u64 (by omega)
        obtain ⟨b2, o2, rfl, _, k2⟩ := h2.u64 (by omega)
        have t1 := k1 k hlt
        have t2 := k2 k hlt
        have hkn : (k : Int) < (n : Int) := by omega
        clear k1 k2
        by_cases heq : x.getD k 0 = y.getD k 0
        · have hb : (((x.getD k 0 : Nat) : Int) != ((y.getD k 0 : Nat) : Int)) = false := by rw [heq]; simp
          have HE := Lib.hid heq
          clear heq
          generalize hx : x.getD k 0 = xv at *
          generalize hy : y.getD k 0 = yv at *
          have HX := Lib.hid hx
          have HY := Lib.hid hy
          clear hx hy
          go_wp2
          go_quiet (fail)
          go_wp2
          go_roundw
          case rel =>
            refine ⟨k + 1, j + nq, by omega, by go_num, fun i hi => ?_, rfl⟩
            by_cases e : i = k
            · subst e; rw [HX.out, HY.out]; exact HE.out
            · exact hsame.out i (by omega)
          case measure => simp [intOf]; omega
        · have hb : (((x.getD k 0 : Nat) : Int) != ((y.getD k 0 : Nat) : Int)) = true := by rw [bne_iff_ne]; omega
          have hxy : decide (x = y) = false := decide_eq_false fun e => heq (by rw [e])
          have HXY := Lib.hid hxy
          clear hxy heq
          generalize x.getD k 0 = xv at *
          generalize y.getD k 0 = yv at *
          go_wp2
          go_quiet (fail)
          go_wp2
          go_ret
          exact ⟨by rw [HXY.out]; rfl, j + nq, by first | rfl | exact World.drewN_drewN _ _ _⟩
      · obtain rfl : k = n := by omega
        have hxy : decide (x = y) = true := decide_eq_true (getDN_ext (by rw [L1.out, L2.out]) (by rw [L1.out]; exact hsame.out))
        have HXY := Lib.hid hxy
        clear hxy
        go_wp2
        go_ret
        exact ⟨by rw [HXY.out]; rfl, j, rfl⟩
  · have hb : ((n : Int) != (m : Int)) = true := by rw [bne_iff_ne]; omega
    have hxy : decide (x = y) = false := decide_eq_false fun e => hnm (by rw [← l1, ← l2, e])
    have HXY := Lib.hid hxy
    clear hxy l1 l2 hnm
    go_enter Try.func32, Try.ntmps32
    go_wp2
    go_ret
    exact ⟨by rw [HXY.out]; rfl, 0, rfl⟩
end Go.Proofs.Ytcefohjddbjcjaa
namespace Go.Proofs.Ytcefohjddbjcjaa
open Go.RowKit
set_option linter.unusedVariables false
def U8 (l : List Nat) : List Value := l.map fun (b : Nat) => Value.int .u8 (b : Int)
theorem U8_len (l : List Nat) : (U8 l).length = l.length := by simp [U8]
theorem U8_get (l : List Nat) (j : Nat) (h : j < (U8 l).length) : (U8 l)[j] = .int .u8 ((l[j]'(by simpa [U8] using h) : Nat) : Int) := by simp [U8]
theorem U8_append (l m : List Nat) : U8 (l ++ m) = U8 l ++ U8 m := by simp [U8]
theorem info_u8 : (Try.prog.info? 5).map (fun i => (i.zero, i.size, i.bytes)) = some (some (.int .u8 0), 1, 1) := by kernel_rfl

theorem U8_one (l : List Nat) : ∀ u ∈ U8 l, u.oneCell' = true := by
  intro u hu
  simp only [U8, List.mem_map] at hu
  obtain ⟨b, _, rfl⟩ := hu
  rfl

theorem Rd.u8 {w : World} {B n : Nat} {A : Option Addr} {bs : List Nat} (h : Rd w B A n (U8 bs)) (h0 : 0 < n) :
    ∃ b o, A = some ⟨b, o, none⟩ ∧ b < B ∧ ∀ k, k < n → w.cell? ⟨b, o + k, none⟩ = some (.int .u8 ((bs.getD k 0 : Nat) : Int)) := by
  obtain ⟨b, o, e, hb, hc⟩ := h.at_ h0
  refine ⟨b, o, e, hb, fun k hk => ?_⟩
  have hl : bs.length = n := by rw [← h.len, U8_len]
  rw [hc k (by rw [U8_len]; omega), U8_get]
  simp [List.getD_eq_getElem?_getD, List.getElem?_eq_getElem (show k < bs.length by omega)]
/-- A slice of bytes that came in, as the shell of a law tells of it. -/
theorem row_u8 {w : World} {a : Option Addr} {len cap : Nat} {zs : List Int}
    (h : (a = none ∧ len = 0 ∧ cap = 0 ∧ zs = []) ∨
      ∃ x, a = some x ∧ len ≤ cap ∧ cap ≤ maxLen ∧ zs.length = cap ∧ (∀ i, i < zs.length → w.cell? (x.add i) = some (.int .u8 (zs.getD i 0))) ∧ ∀ n ∈ zs, (Lit.int .u8 n).wf = true) :
    len ≤ cap ∧ cap ≤ maxLen ∧ ∃ bs : List Nat, Rd w w.heap.size a len (U8 bs) ∧ ∀ b ∈ bs, b < 256 := by
  rcases h with ⟨rfl, rfl, rfl, rfl⟩ | ⟨x, rfl, hl, hm, hz, hc, hw⟩
  · exact ⟨Nat.le_refl _, Nat.zero_le _, [], Rd.nil _ _ _, by simp⟩
  · have hb : ∀ n ∈ zs, 0 ≤ n ∧ n < 256 := fun n hn => by
      have := hw n hn
      simp [Lit.wf, IntKind.min, IntKind.max, IntKind.bits, IntKind.signed] at this
      omega
    refine ⟨hl, hm, (zs.take len).map Int.toNat, ⟨by simp [U8]; omega, fun h0 => ?_⟩, ?_⟩
    · obtain ⟨b, o, sp⟩ := x
      obtain rfl : sp = none := by simpa [Addr.add] using World.cell?_spot (hc 0 (by omega))
      refine ⟨b, o, rfl, World.block_lt_of_cell? _ _ (hc 0 (by omega)), fun j hj => ?_⟩
      have hj' : j < len := by simp [U8] at hj; omega
      have := hc j (by omega)
      rw [U8_get]
      have e : (⟨b, o, none⟩ : Addr).add j = ⟨b, o + j, none⟩ := by unfold Addr.add; split <;> simp_all
      rw [e] at this
      rw [this]
      have hjz : j < zs.length := by omega
      have := hb zs[j] (List.getElem_mem _)
      simp [List.getD_eq_getElem?_getD, List.getElem?_eq_getElem hjz]
      omega
    · intro b hb'
      simp only [List.mem_map] at hb'
      obtain ⟨n, hn, rfl⟩ := hb'
      have := hb n (List.mem_of_mem_take hn)
      omega
theorem wf_u8 {x : Int} (h : (Lit.int .u8 x).wf = true) : ∃ n : Nat, x = (n : Int) ∧ n < 256 := by
  simp [Lit.wf, IntKind.min, IntKind.max, IntKind.bits, IntKind.signed] at h
  exact ⟨x.toNat, by omega, by omega⟩
theorem wf_u64 {x : Int} (h : (Lit.int .u64 x).wf = true) : ∃ n : Nat, x = (n : Int) ∧ n < 2 ^ 64 := by
  simp [Lit.wf, IntKind.min, IntKind.max, IntKind.bits, IntKind.signed] at h
  exact ⟨x.toNat, by omega, by omega⟩
theorem wf_i64 {x : Int} (h : (Lit.int .i64 x).wf = true) : -9223372036854775808 ≤ x ∧ x ≤ 9223372036854775807 := by
  simp [Lit.wf, IntKind.min, IntKind.max, IntKind.bits, IntKind.signed] at h
  omega
end Go.Proofs.Ytcefohjddbjcjaa
namespace Go.Proofs.Ytcefohjddbjcjaa
open Go.RowKit
set_option linter.unusedVariables false
theorem clone_none (c : Nat) (w : World) :
    Calls Try.prog 9 #[.slice none 0 c] w fun e w' => e = .returned (.slice none 0 0) ∧ w = w' := by
  have hq := fun W a n c => Lib.run_eql_slice_nil (P := Try.prog) W 23 5 a n c 0 0 Try.underlying23
  go_enter Try.func9, Try.ntmps9
  go_wp2
  go_ret
  exact ⟨rfl, rfl⟩

/-- An answer in new memory that reads as a list. -/
def NewU8 (w : World) (bs : List Nat) (e : Ending) (w' : World) : Prop :=
  ∃ A c, e = .returned (.slice A bs.length c) ∧ bs.length ≤ c ∧ c ≤ maxLen ∧ w'.ownsRow w.heap.size 5 1 (.slice A bs.length c) bs.length (U8 bs) ∧ Below w.heap.size w w'
theorem NewU8.mk {w w' : World} {bs : List Nat} {e : Ending} {v : Value} (he : e = .returned v) (h : w'.ownsRow w.heap.size 5 1 v bs.length (U8 bs)) (hb : Below w.heap.size w w') : NewU8 w bs e w' := by
  obtain ⟨A, c, rfl, h1, h2⟩ := own_form h
  exact ⟨A, c, he, h1, h2, h, hb⟩

set_option maxHeartbeats 400000 in
theorem clone_any (A : Option Addr) (n c B : Nat) (bs : List Nat) (w : World) (h : Rd w B A n (U8 bs)) (hn : n ≤ 140737488355328) :
    Calls Try.prog 9 #[.slice A n c] w (NewU8 w bs) := by
  have hl : bs.length = n := by rw [← h.len, U8_len]
  cases A with
  | none =>
    obtain rfl : n = 0 := by
      rcases Nat.eq_zero_or_pos n with h' | h'
      · exact h'
      · obtain ⟨b, o, e, _⟩ := h.at_ h'
        cases e
    obtain rfl : bs = [] := List.eq_nil_of_length_eq_zero hl
    exact (clone_none c w).mono fun e w' ⟨he, hw⟩ => .mk he (hw ▸ World.ownsRow_nil _ _ _ _) (hw ▸ Below.refl _ _)
  | some ad =>
    obtain ⟨i0, hi0, hz0, hz1, hz2⟩ := info_parts info_u8
    have hq := fun W a n c => Lib.run_eql_slice_nil (P := Try.prog) W 23 5 a n c 0 0 Try.underlying23
    have hown : (w.alloc (.cells #[] 5)).ownsRow w.heap.size 5 1 (.slice (some ⟨w.heap.size, 0, none⟩) 0 0) 0 [] :=
      World.ownsRow_made w #[] 0 (Nat.le_refl _) (by simp [maxLen]) rfl
    have hrd := h.alloc (.cells #[] 5)
    go_enter Try.func9, Try.ntmps9
    go_wp2_with (first
      | (at_builtin; refine wpList_append_rd _ rfl _ _ 23 rfl w.heap.size 5 i0 (.int .u8 0) 1 Try.underlying23 hi0 hz0 hz1 hz2 rfl _ 0 [] rfl hown B (some ad) n c (U8 bs) rfl hrd (U8_one _) ?c1 ?c2 ?c3 ?_))
    case c1 => simp only [maxLen]; omega
    case c2 => omega
    case c3 => simp
    intro A' c' w' _ _ hown' hg hat
    go_wp2
    go_ret
    refine .mk rfl (by simpa [hl] using hown') ?_
    exact ((Below.refl _ _).alloc (Nat.le_refl _) _).trans (Below.appended hown hg (by simp))
theorem conv_bytes (A : Option Addr) (n c B : Nat) (bs : List Nat) (w : World) (h : Rd w B A n (U8 bs)) :
    (convert 23 9 (.slice A n c)).run Try.prog w = .ok (.string (strOfNums (bs.map fun (b : Nat) => (b : Int)))) w := by
  have hl : bs.length = n := by rw [← h.len, U8_len]
  rcases Nat.eq_zero_or_pos n with h0 | h0
  · subst h0
    obtain rfl : bs = [] := List.eq_nil_of_length_eq_zero hl
    rw [run_convert_bytes_string w 23 9 5 _ 0 c Try.underlying23 Try.underlying5 Try.underlying9]
    cases A <;> simp [Conv.bytesToString, loadCells, loadCellsFrom, strOfNums] <;> rfl
  · obtain ⟨b, o, rfl, _, hc⟩ := h.at_ h0
    refine run_convert_bytes_arg (P := Try.prog) w 23 5 Try.underlying23 Try.underlying5 b o n c _ (by simpa using hl) (fun i hi => ?_) 9 Try.underlying9
    rw [hc i (by rw [U8_len]; omega), U8_get]
    simp [List.getD_eq_getElem?_getD, List.getElem?_eq_getElem (show i < bs.length by omega)]

theorem bytes_inj (cs bs : List Nat) (ha : ∀ b ∈ cs, b < 256) (hb : ∀ b ∈ bs, b < 256) :
    ((cs.map fun (b : Nat) => UInt8.ofNat (b : Int).toNat) = bs.map fun (b : Nat) => UInt8.ofNat (b : Int).toNat) ↔ cs = bs := by
  constructor
  · intro h
    induction cs generalizing bs with
    | nil => cases bs with
      | nil => rfl
      | cons b bs => simp at h
    | cons a cs ih => cases bs with
      | nil => simp at h
      | cons b bs =>
        simp only [List.map_cons, List.cons.injEq] at h
        have h1 := congrArg UInt8.toNat h.1
        simp only [Int.toNat_natCast, UInt8.toNat_ofNat'] at h1
        have := ha a (by simp)
        have := hb b (by simp)
        rw [ih bs (fun x hx => ha x (by simp [hx])) (fun x hx => hb x (by simp [hx])) h.2]
        rw [show a = b by omega]
  · rintro rfl; rfl

theorem equal_any (A1 A2 : Option Addr) (n c m d B1 B2 : Nat) (cs bs : List Nat) (w : World) (h1 : Rd w B1 A1 n (U8 cs)) (h2 : Rd w B2 A2 m (U8 bs)) (ha : ∀ b ∈ cs, b < 256) (hb : ∀ b ∈ bs, b < 256) :
    Calls Try.prog 14 #[.slice A1 n c, .slice A2 m d] w fun e w' => e = .returned (.bool (decide (cs = bs))) ∧ w = w' := by
  have k1 := conv_bytes A1 n c B1 cs w h1
  have k2 := conv_bytes A2 m d B2 bs w h2
  go_enter Try.func14, Try.ntmps14
  go_wp2
  go_ret
  refine ⟨congrArg (fun b => Ending.returned (.bool b)) ?_, rfl⟩
  rw [Bool.eq_iff_iff, beq_iff_eq, decide_eq_true_iff, ← bytes_inj cs bs ha hb]
  rw [ByteArray.toList_eq, ByteArray.toList_eq, strOfNums_data, strOfNums_data]
  simp only [List.map_map]
  exact Iff.rfl

theorem equal_same (A1 A2 : Option Addr) (n c m d B1 B2 : Nat) (bs : List Nat) (w : World) (h1 : Rd w B1 A1 n (U8 bs)) (h2 : Rd w B2 A2 m (U8 bs)) (hb : ∀ b ∈ bs, b < 256) :
    Calls Try.prog 14 #[.slice A1 n c, .slice A2 m d] w fun e w' => e = .returned (.bool true) ∧ w = w' :=
  (equal_any A1 A2 n c m d B1 B2 bs bs w h1 h2 hb hb).mono fun e w' ⟨he, hw⟩ => ⟨by simpa using he, hw⟩

theorem fill_next (X : List Nat) (k m : Nat) (hX : X.length = m) (hk : k < m) :
    ((U8 (X.take k ++ List.replicate (m - k) 0)).toArray).setIfInBounds k (.int .u8 ((X.getD k 0 : Nat) : Int)) = (U8 (X.take (k + 1) ++ List.replicate (m - (k + 1)) 0)).toArray := by
  rw [show X.getD k 0 = X[k] by simp [List.getD_eq_getElem?_getD, List.getElem?_eq_getElem (show k < X.length by omega)]]
  apply Array.toList_inj.1
  rw [Array.toList_setIfInBounds]
  show (U8 (X.take k ++ List.replicate (m - k) 0)).set k _ = U8 _
  have e1 : List.replicate (m - k) 0 = 0 :: List.replicate (m - (k + 1)) 0 := by
    rw [show m - k = (m - (k + 1)) + 1 by omega, List.replicate_succ]
  rw [e1, U8_append, ← List.take_append_getElem (by omega : k < X.length), List.append_assoc, U8_append, List.set_append_right _ _ (by rw [U8_len, List.length_take]; omega)]
  have e2 : k - (U8 (X.take k)).length = 0 := by rw [U8_len, List.length_take]; omega
  rw [e2]
  rfl
end Go.Proofs.Ytcefohjddbjcjaa
namespace Go.Proofs.Ytcefohjddbjcjaa
open Go.RowKit
set_option linter.unusedVariables false

theorem words_inj {V U n m : Nat} (hV : V < 2 ^ n) (hU : U < 2 ^ n) (hm : n ≤ 64 * m) (h : words V m = words U m) : V = U := by
  apply Nat.eq_of_testBit_eq
  intro j
  by_cases hj : j < n
  · have h1 : wd V (j / 64) = wd U (j / 64) := by
      have := congrArg (fun l => l.getD (j / 64) 0) h
      rwa [words_get _ _ _ (by omega), words_get _ _ _ (by omega)] at this
    have h2 := wd_bit V (j / 64) (j % 64)
    have h3 := wd_bit U (j / 64) (j % 64)
    have hl : j % 64 < 64 := by omega
    rw [show 64 * (j / 64) + j % 64 = j by omega] at h2 h3
    simp only [hl, decide_true, Bool.true_and] at h2 h3
    rw [← h2, ← h3, h1]
  · rw [Nat.testBit_lt_two_pow (Nat.lt_of_lt_of_le hV (Nat.pow_le_pow_right (by omega) (by omega))), Nat.testBit_lt_two_pow (Nat.lt_of_lt_of_le hU (Nat.pow_le_pow_right (by omega) (by omega)))]
theorem VecB.drewN {w : World} {B g V n : Nat} {A : Option Addr} (h : VecB w B g V n A) (k : Nat) : VecB (w.drewN k) B g V n A := h.below (below_draws (Below.refl _ _) k)

end Go.Proofs.Ytcefohjddbjcjaa
namespace Go.Proofs.Ytcefohjddbjcjaa
open Go.RowKit
set_option linter.unusedVariables false

theorem NumPost.trans {w w1 w2 : World} {g V2 n2 : Nat} {A A1 : Option Addr} {e' : Ending} (m : Mod (foot g A) w w1) (ha : A1 = A ∨ ∃ b, A1 = some ⟨b, 0, none⟩ ∧ w.heap.size ≤ b)
    (p : NumPost w1 g V2 n2 A1 e' w2) : NumPost w g V2 n2 A e' w2 := by
  obtain ⟨he, A2, h1, m2, h2⟩ := p
  refine ⟨he, A2, h1, m.trans m2 fun i hi hf => ?_, ?_⟩
  · rcases hf with rfl | ⟨b, rfl, rfl⟩
    · exact .inl rfl
    · rcases ha with rfl | ⟨b', e, hb⟩
      · exact .inr ⟨_, rfl, rfl⟩
      · have : i = b' := (Addr.mk.inj (Option.some.inj e)).1
        omega
  · rcases h2 with rfl | ⟨b, rfl, hb⟩
    · exact ha
    · exact .inr ⟨b, rfl, Nat.le_trans m.size hb⟩

set_option maxRecDepth 20000 in
set_option maxHeartbeats 1000000 in
theorem few_p (A : Option Addr) (n c B m : Nat) (bs : List Nat) (w : World) (h : Rd w B A n (U8 bs)) (hb : ∀ b ∈ bs, b < 256) (hB : B ≤ w.heap.size) (hn : n ≤ 9223372036854775807) (hm : m ≤ 1000000) :
    Calls Try.prog 15 #[.slice A n c, .int .i64 (m : Int)] w (NewI64 w (ofNB (few bs m))) := by
  have hl : bs.length = n := by rw [← h.len, U8_len]
  have HL := Lib.hid hl
  have HBS : Hid (∀ k, bs.getD k 0 < 256) := fun k => by
    by_cases hk : k < bs.length
    · rw [List.getD_eq_getElem?_getD, List.getElem?_eq_getElem hk]; exact hb _ (List.getElem_mem hk)
    · rw [List.getD_eq_getElem?_getD, List.getElem?_eq_none (by omega)]; decide
  obtain ⟨i0, hi0, hz0, hz1, hz2⟩ := info_parts info_int
  have H := Lib.hid h
  clear h hl hb
  go_enter Try.func15, Try.ntmps15
  go_wp2
  go_loopw [5, 11] (fun v i wr => ∃ (k q : Nat) (Av : Option Addr) (cv : Nat), k ≤ n ∧ i = .int .i64 (k : Int) ∧ Hid ((fewTo bs m k 0).length = q) ∧ q ≤ m ∧ v = .slice Av q cv ∧ wr.ownsRow w.heap.size 3 1 (.slice Av q cv) q (I64 (ofNB (fewTo bs m k 0))) ∧ Below w.heap.size w wr) (fun _ i _ => n - (intOf i).toNat)
  case atStart => exact ⟨0, 0, none, 0, by omega, rfl, by show _ = _; rw [fewTo_start]; rfl, by omega, rfl, by rw [fewTo_start]; exact World.ownsRow_nil _ _ _ _, Below.refl _ _⟩
  case round =>
    obtain ⟨k, q, Av, cv, hk, rfl, hq, hqm, rfl, hown, hbl⟩ := hrel
    by_cases hlt : k < n
    · have hr := H.out.below (hbl.mono hB)
      obtain ⟨b, o, rfl, _, k1⟩ := hr.u8 (by omega)
      have t1 := k1 k hlt
      have hb0 := HBS.out k
      obtain ⟨y, hy⟩ : ∃ y, y = bs.getD k 0 := ⟨_, rfl⟩
      have HY := Lib.hid hy
      rw [← hy] at t1 hb0
      have HQ0 := hq
      have HOWN0 := Lib.hid hown
      have HBL0 := Lib.hid hbl
      clear hr k1 hy hown hbl hq
      go_wp2
      go_loopw [5, 7, 8] (fun v x i wq => ∃ (j q z : Nat) (Av : Option Addr) (cv : Nat), j ≤ 8 ∧ z = y / 2 ^ j ∧ z < 256 ∧ x = .int .u8 (z : Int) ∧ i = .int .i64 (j : Int) ∧ Hid ((fewTo bs m k j).length = q) ∧ q ≤ m ∧ v = .slice Av q cv ∧ wq.ownsRow w.heap.size 3 1 (.slice Av q cv) q (I64 (ofNB (fewTo bs m k j))) ∧ Below w.heap.size w wq) (fun _ _ i _ => 8 - (intOf i).toNat)
      case atStart => exact ⟨0, q, y, Av, cv, by omega, by simp, hb0, rfl, rfl, HQ0, hqm, rfl, HOWN0.out, HBL0.out⟩
      case round =>
        clear HOWN0 HBL0 HQ0
        obtain ⟨j, q, z, Av, cv, hj, hz, hz8, rfl, rfl, hq, hqm, rfl, hown, hbl⟩ := hrel
        by_cases hj8 : j < 8
        · by_cases hqlt : q < m
          · have HZ := Lib.hid hz
            have hown3' := hown.alloc (.cells #[.int .i64 ((z : Int) % 2)] 3)
            have r3 := Rd.new wr 3 #[.int .i64 ((z : Int) % 2)] 1 (I64 [((z : Int) % 2)]) (by simp [I64]) (by simp)
            have t1 : q + 1 ≤ maxLen := by simp only [maxLen]; omega
            have t2 : (q + 1) * 8 ≤ 140737488355328 := by omega
            have t3 : w.heap.size ≤ (wr.alloc (.cells #[.int .i64 ((z : Int) % 2)] 3)).heap.size := by have := hbl.size; simp; omega
            have WY : Hid (I64 (ofNB (fewTo bs m k j)) ++ I64 [((z : Int) % 2)] = I64 (ofNB (fewTo bs m k (j + 1)))) := by
              show _ = _
              rw [fewTo_bit _ _ _ _ (by rw [hq.out]; exact hqlt), ofN_appendB, I64_append, hz, HY.out]
              simp [ofNB]
            have WL : Hid ((fewTo bs m k (j + 1)).length = q + 1) := by
              show _ = _
              rw [fewTo_bit _ _ _ _ (by rw [hq.out]; exact hqlt), List.length_append, hq.out]; rfl
            have hqi : (q : Int) < (m : Int) := by omega
            clear hz
            go_wp2_with (first
              | (at_builtin; go_must (refine wpList_append_rd _ rfl _ _ 35 rfl w.heap.size 3 i0 (.int .i64 0) 8 Try.underlying35 hi0 hz0 hz1 hz2 rfl (.slice Av q cv) q (I64 (ofNB (fewTo bs m k j))) rfl hown3' (wr.heap.size + 1) (some ⟨wr.heap.size, 0, none⟩) 1 1 (I64 [((z : Int) % 2)]) rfl r3 (I64_one _) t1 t2 t3 ?_)))
            intro A6 c6 w6 hc6 hm6 hown6 hg6 _
            have hb6 : Below w.heap.size wr w6 := ((Below.refl w.heap.size wr).alloc hbl.size _).trans (Below.appended hown3' hg6 t3)
            rw [WY.out] at hown6
            go_wp2
            go_roundw
            case rel => exact ⟨j + 1, q + 1, z / 2, A6, c6, by omega, by rw [HZ.out, Nat.pow_succ, Nat.div_div_eq_div_mul], by omega, by go_num, by go_num, WL, by omega, rfl, hown6, hbl.trans hb6⟩
            case measure => simp [intOf]; omega
          · have hqi : ¬ (q : Int) < (m : Int) := by omega
            have FE : Hid (fewTo bs m (k + 1) 0 = fewTo bs m k j) := by
              show _ = _
              rw [← fewTo_next _ _ _ (by rw [HL.out]; exact hlt)]
              exact fewTo_full bs m k j 8 (by omega) (by rw [hq.out]; exact hqlt)
            go_wp2
            go_roundw
            case rel => exact ⟨k + 1, q, Av, cv, by omega, by go_num, by show _ = _; rw [FE.out]; exact hq.out, hqm, rfl, by rw [FE.out]; exact hown, hbl⟩
            case measure => simp [intOf]; omega
        · obtain rfl : j = 8 := by omega
          have FE : Hid (fewTo bs m (k + 1) 0 = fewTo bs m k 8) := by
            show _ = _
            rw [← fewTo_next _ _ _ (by rw [HL.out]; exact hlt)]
          go_wp2
          go_roundw
          case rel => exact ⟨k + 1, q, Av, cv, by omega, by go_num, by show _ = _; rw [FE.out]; exact hq.out, hqm, rfl, by rw [FE.out]; exact hown, hbl⟩
          case measure => simp [intOf]; omega
    · obtain rfl : k = n := by omega
      have FE : Hid (fewTo bs m k 0 = few bs m) := by show _ = _; rw [← HL.out, fewTo_end]
      rw [FE.out] at hown hq
      go_wp2
      go_ret
      have hq2 : (few bs m).length = q := hq.out
      refine .mk rfl ?_ hbl
      rw [ofN_lenB, hq2]
      exact hown
end Go.Proofs.Ytcefohjddbjcjaa
