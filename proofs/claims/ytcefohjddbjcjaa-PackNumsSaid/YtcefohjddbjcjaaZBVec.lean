/- A vector of bits as it lies in memory. -/
import Derived.Test.YtcefohjddbjcjaaZBits
import Derived.Test.YtcefohjddbjcjaaZRegion
import Derived.Laws.BitsAllLaws
namespace Go.Proofs.Ytcefohjddbjcjaa
open Go.RowKit
set_option linter.unusedVariables false

def U64 (z : List Nat) : List Value := z.map fun (x : Nat) => Value.int .u64 (x : Int)
theorem U64_len (z : List Nat) : (U64 z).length = z.length := by simp [U64]
theorem U64_append (l m : List Nat) : U64 (l ++ m) = U64 l ++ U64 m := by simp [U64]
theorem U64_set (y : List Nat) (k v : Nat) : U64 (y.set k v) = (U64 y).set k (.int .u64 (v : Int)) := by simp [U64, List.map_set]
theorem U64_get (z : List Nat) (k : Nat) (hk : k < z.length) : (U64 z)[k]? = some (.int .u64 ((z.getD k 0 : Nat) : Int)) := by
  simp [U64, List.getD_eq_getElem?_getD, List.getElem?_eq_getElem hk]
/-- The words of n bits. -/
def words (V m : Nat) : List Nat := (List.range m).map (wd V)
theorem words_len (V m : Nat) : (words V m).length = m := by simp [words]
theorem words_get (V m i : Nat) (h : i < m) : (words V m).getD i 0 = wd V i := by simp [words, List.getD_eq_getElem?_getD, h]
theorem words_next (V m : Nat) : words V (m + 1) = words V m ++ [wd V m] := by simp [words, List.range_succ]
/-- At g lies the vector whose n bits are V; its words lie in a row of its own. -/
def VecB (w : World) (B g V n : Nat) (A : Option Addr) : Prop :=
  V < 2 ^ n ∧ n ≤ 1000000 ∧ ∃ c, Blk w g 64 #[.slice A ((n + 63) / 64) c, .int .i64 (n : Int)] ∧
    w.ownsRow B 22 1 (.slice A ((n + 63) / 64) c) ((n + 63) / 64) (U64 (words V ((n + 63) / 64)))
/-- The same, where the row was made behind the vector. -/
def VecAt (w : World) (g V n : Nat) (A : Option Addr) : Prop := VecB w (g + 1) g V n A
theorem VecB.below {w w' : World} {B g V n : Nat} {A : Option Addr} (h : VecB w B g V n A) (m : Below w.heap.size w w') : VecB w' B g V n A := by
  obtain ⟨h1, h2, c, h3, h4⟩ := h
  exact ⟨h1, h2, c, h3.below m, own_below h4 m⟩
theorem VecB.base {w : World} {B B' g V n : Nat} {A : Option Addr} (h : VecB w B g V n A) (hB : B' ≤ B) : VecB w B' g V n A := by
  obtain ⟨h1, h2, c, h3, h4⟩ := h
  exact ⟨h1, h2, c, h3, h4.base_le' hB⟩
/-- The blocks of a vector. -/
def foot (g : Nat) (A : Option Addr) (i : Nat) : Prop := i = g ∨ ∃ b, A = some ⟨b, 0, none⟩ ∧ i = b
theorem VecB.foot_lt {w : World} {B g V n : Nat} {A : Option Addr} (h : VecB w B g V n A) {i : Nat} (hi : foot g A i) : i < w.heap.size := by
  obtain ⟨h1, h2, c, h3, h4⟩ := h
  rcases hi with rfl | ⟨b, rfl, rfl⟩
  · exact h3.lt
  · exact (h4.lt _ rfl).2
theorem VecB.foot_le {w : World} {B g V n : Nat} {A : Option Addr} (h : VecB w B g V n A) {i : Nat} (hi : foot g A i) : i = g ∨ B ≤ i := by
  obtain ⟨h1, h2, c, h3, h4⟩ := h
  rcases hi with rfl | ⟨b, rfl, rfl⟩
  · exact .inl rfl
  · exact .inr (h4.lt _ rfl).1
theorem VecB.mod {w w' : World} {S : Nat → Prop} {B g V n : Nat} {A : Option Addr} (h : VecB w B g V n A) (m : Mod S w w') (hs : ∀ i, foot g A i → ¬ S i) : VecB w' B g V n A := by
  obtain ⟨h1, h2, c, h3, h4⟩ := h
  refine ⟨h1, h2, c, h3.mod m (hs g (.inl rfl)), own_mod h4 m fun k hk => hs k (.inr ?_)⟩
  rcases h4.2 with ⟨e, _⟩ | ⟨b, cap, cur, e, _⟩
  · simp only [Value.slice.injEq] at e
    rw [e.1] at hk; simp [Value.ownBlock] at hk
  · simp only [Value.slice.injEq] at e
    rw [e.1] at hk ⊢
    simp [Value.ownBlock] at hk
    exact ⟨b, rfl, hk.symm⟩
theorem VecAt.below {w w' : World} {g V n : Nat} {A : Option Addr} (h : VecAt w g V n A) (m : Below w.heap.size w w') : VecAt w' g V n A := VecB.below h m
theorem bnew_p (w : World) :
    Calls Try.prog 23 #[] w fun e w' => e = .returned (.pointer (some ⟨w.heap.size, 0, none⟩)) ∧ VecAt w' w.heap.size 0 0 none ∧ Below w.heap.size w w' := by
  go_enter Try.func23, Try.ntmps23
  go_wp2
  go_ret
  refine ⟨rfl, ⟨by decide, by omega, 0, ?_, ?_⟩, (Below.refl _ _).alloc (Nat.le_refl _) _⟩
  · exact Blk.new w _ _
  · simpa [words, U64] using World.ownsRow_nil _ _ _ _
theorem blen_p (g V n : Nat) (A : Option Addr) (w : World) {B : Nat} (h : VecB w B g V n A) :
    Calls Try.prog 21 #[.pointer (some ⟨g, 0, none⟩)] w fun e w' => e = .returned (.int .i64 (n : Int)) ∧ w = w' := by
  obtain ⟨h1, h2, c, hb, ho⟩ := h
  have c1 : w.cell? ⟨g, 1, none⟩ = some (.int .i64 (n : Int)) := hb.cell 1
  clear hb ho
  go_enter Try.func21, Try.ntmps21
  go_wp2
  go_ret
  exact ⟨rfl, rfl⟩
theorem blen_nil (w : World) :
    Calls Try.prog 21 #[.pointer none] w fun e w' => e = .returned (.int .i64 0) ∧ w = w' := by
  go_enter Try.func21, Try.ntmps21
  go_wp2
  go_ret
  exact ⟨rfl, rfl⟩
theorem wrap_u64 (y s : Nat) : IntKind.u64.wrap ((y : Int) * 2 ^ s) = ((y * 2 ^ s % 2 ^ 64 : Nat) : Int) := by
  simp [IntKind.wrap, IntKind.signed, IntKind.bits]
/-- The k bits from the place p on. -/
theorem get_p (g V n p k : Nat) (A : Option Addr) (w : World) {B : Nat} (h : VecB w B g V n A) (hk0 : 1 ≤ k) (hk : k ≤ 64) (hp : p + k ≤ n) :
    Calls Try.prog 34 #[.pointer (some ⟨g, 0, none⟩), .int .i64 (p : Int), .int .i64 (k : Int)] w fun e w' => e = .returned (.int .u64 ((V / 2 ^ p % 2 ^ k : Nat) : Int)) ∧ w = w' := by
  obtain ⟨h1, h2, c, hb, ho⟩ := h
  have c0 : w.cell? ⟨g, 0, none⟩ = some (.slice A ((n + 63) / 64) c) := hb.cell 0
  obtain ⟨m, hm⟩ : ∃ m, m = (n + 63) / 64 := ⟨_, rfl⟩
  rw [← hm] at c0 ho
  obtain ⟨b, rfl, hb1, hb2⟩ := own_some ho (by omega)
  have cell : ∀ i, i < m → w.cell? ⟨b, i, none⟩ = some (.int .u64 ((wd V i : Nat) : Int)) := fun i hi => by
    have r := Rd.ofOwn ho
    obtain ⟨b', o', e, _, hc⟩ := r.at_ (by omega)
    have hl : i < (U64 (words V m)).length := by rw [U64_len, words_len]; exact hi
    have := hc i hl
    cases e
    rw [Nat.zero_add] at this
    rw [this]
    have h3 := U64_get (words V m) i (by rw [words_len]; exact hi)
    rw [words_get _ _ _ hi, List.getElem?_eq_getElem hl] at h3
    exact h3
  obtain ⟨i, hi⟩ : ∃ i, i = p / 64 := ⟨_, rfl⟩
  obtain ⟨s, hs⟩ : ∃ s, s = p % 64 := ⟨_, rfl⟩
  have hs64 : s < 64 := by omega
  have him : i < m := by omega
  have ci := cell i him
  have q1 : (p : Int) / 64 = (i : Int) := by omega
  have q2 : (p : Int) % 64 = (s : Int) := by omega
  have hpi : p = 64 * i + s := by omega
  have LOW := Lib.hid (low_p k w hk)
  by_cases hsk : s + k ≤ 64
  · have G := get_one V i s k hsk
    rw [← hpi] at G
    rw [← G]
    clear G hm hi hs cell hb ho h1
    have hp0 : p ≤ 1000000 := by omega
    have hi0 : i ≤ 1000000 := by omega
    clear hpi hp
    have HX : Hid (wd V i < 2 ^ 64) := wd_lt V i
    generalize wd V i = x at *
    have HSK : ((s : Int) + (k : Int) ≤ 64) := by omega
    clear hsk
    go_enter Try.func34, Try.ntmps34
    go_wp2_with fail
    refine LOW.out.mono ?_
    rintro e w1 ⟨rfl, rfl⟩
    go_wp2
    go_ret
    refine ⟨congrArg (fun z => Ending.returned (.int .u64 z)) ?_, rfl⟩
    have e : ((x : Int) / 2 ^ s) = ((x / 2 ^ s : Nat) : Int) := by simp
    rw [e, u64_and_nat _ _ (Nat.lt_of_le_of_lt (Nat.div_le_self _ _) HX.out) (Nat.lt_of_lt_of_le (Nat.sub_lt (Nat.two_pow_pos k) Nat.one_pos) (Nat.pow_le_pow_right (by omega) hk)), Nat.and_two_pow_sub_one_eq_mod]
  · have hs0 : 0 < s := by omega
    have him2 : i + 1 < m := by omega
    have cj := cell (i + 1) him2
    have G := get_two V i s k hs64 hs0 hk
    rw [← hpi] at G
    rw [← G]
    have HX : Hid (wd V i < 2 ^ 64) := wd_lt V i
    have HY : Hid (wd V (i + 1) < 2 ^ 64) := wd_lt V (i + 1)
    have hp0 : p ≤ 1000000 := by omega
    have hi0 : i ≤ 1000000 := by omega
    clear G hm hi hs cell hb ho h1 hpi hp
    generalize wd V i = x at *
    generalize wd V (i + 1) = y at *
    have HSK : (64 : Int) < (s : Int) + (k : Int) := by omega
    clear hsk
    go_enter Try.func34, Try.ntmps34
    go_wp2_with fail
    refine LOW.out.mono ?_
    rintro e w1 ⟨rfl, rfl⟩
    go_wp2
    go_ret
    refine ⟨congrArg (fun z => Ending.returned (.int .u64 z)) ?_, rfl⟩
    have e : ((x : Int) / 2 ^ s) = ((x / 2 ^ s : Nat) : Int) := by simp
    have hl1 : x / 2 ^ s < 18446744073709551616 := Nat.lt_of_le_of_lt (Nat.div_le_self _ _) HX.out
    have hl2 : y * 2 ^ (64 - s) % 2 ^ 64 < 18446744073709551616 := Nat.mod_lt _ (by decide)
    have hl3 : (x / 2 ^ s ||| y * 2 ^ (64 - s) % 2 ^ 64) < 18446744073709551616 := Nat.or_lt_two_pow (n := 64) hl1 hl2
    rw [e, wrap_u64, u64_or_nat _ _ hl1 hl2, u64_and_nat _ _ hl3 (Nat.lt_of_lt_of_le (Nat.sub_lt (Nat.two_pow_pos k) Nat.one_pos) (Nat.pow_le_pow_right (by omega) hk)), Nat.and_two_pow_sub_one_eq_mod]
end Go.Proofs.Ytcefohjddbjcjaa
