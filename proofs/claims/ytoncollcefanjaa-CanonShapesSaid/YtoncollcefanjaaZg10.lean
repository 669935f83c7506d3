/- Plain mathematics of bits in a row: n bits are a number V < 2^n, and word i is wd V i; no program in sight. The small calls of bits. A vector of bits as it lies in memory. append: what the old row holds behind it. Num: bits put behind. Num: the bits go over the last word's end. Num, whole; two vectors side by side; the library's Clone and Equal of words. The library's Equal of words. Bytes. The library's Clone and Equal of bytes. Lists of noughts and ones, and the number that they are; no program in sight. At, Text and Bytes of a vector. -/
import Derived.Test.YtoncollcefanjaaZg1
import Derived.Test.YtoncollcefanjaaProg
import Derived.WalkKit
import Derived.Laws.BitsAllLaws
import Derived.Deep.AppendLies
import Derived.BigRegion
import Derived.Deep.DeepMust
import Derived.Deep.RegionLaw
import Derived.Laws.BytesArg
import Derived.ArgAppend
import Derived.RegionTactic
import Derived.Deep.QuietTactic
import Derived.BigQuiet
namespace Go.Proofs.Ytoncollcefanjaa
set_option linter.unusedVariables false

/-- The word i of the bits that V is. -/
def wd (V i : Nat) : Nat := V / 2 ^ (64 * i) % 2 ^ 64
theorem wd_lt (V i : Nat) : wd V i < 2 ^ 64 := Nat.mod_lt _ (by decide)
theorem wd_bit (V i j : Nat) : (wd V i).testBit j = (decide (j < 64) && V.testBit (64 * i + j)) := by
  unfold wd
  rw [Nat.testBit_mod_two_pow, Nat.testBit_div_two_pow]
  congr 2
  omega
/-- V with x's lowest k bits behind its n bits. -/
def put (V n x k : Nat) : Nat := V + x % 2 ^ k * 2 ^ n
theorem put_lt {V n : Nat} (x k : Nat) (h : V < 2 ^ n) : put V n x k < 2 ^ (n + k) := by
  unfold put
  have h1 : x % 2 ^ k < 2 ^ k := Nat.mod_lt _ (Nat.two_pow_pos k)
  have h2 : x % 2 ^ k * 2 ^ n ≤ (2 ^ k - 1) * 2 ^ n := Nat.mul_le_mul_right _ (by omega)
  have h3 : (2 ^ k - 1) * 2 ^ n = 2 ^ (n + k) - 2 ^ n := by rw [Nat.sub_mul, Nat.one_mul, ← Nat.pow_add, Nat.add_comm k n]
  have h4 : 2 ^ n ≤ 2 ^ (n + k) := Nat.pow_le_pow_right (by omega) (by omega)
  omega
theorem put_bit {V n : Nat} (x k j : Nat) (h : V < 2 ^ n) : (put V n x k).testBit j = if j < n then V.testBit j else (decide (j - n < k) && x.testBit (j - n)) := by
  unfold put
  rw [Nat.add_comm, Nat.mul_comm, Nat.testBit_two_pow_mul_add _ h, Nat.testBit_mod_two_pow]
theorem wd_high {V n i : Nat} (h : V < 2 ^ n) (hi : n ≤ 64 * i) : wd V i = 0 := by
  unfold wd
  rw [Nat.div_eq_of_lt (Nat.lt_of_lt_of_le h (Nat.pow_le_pow_right (by omega) hi))]
/-- The words ahead of the last one stay when bits are put behind. -/
theorem wd_put_low {V n : Nat} (x k i : Nat) (h : V < 2 ^ n) (hi : 64 * i + 64 ≤ n) : wd (put V n x k) i = wd V i := by
  apply Nat.eq_of_testBit_eq
  intro j
  rw [wd_bit, wd_bit]
  by_cases hj : j < 64
  · rw [put_bit x k _ h, if_pos (by omega)]
  · simp [hj]
/-- A new word: the bits fall on its first place. -/
theorem wd_put_new {V n : Nat} (x k i : Nat) (h : V < 2 ^ n) (hi : n = 64 * i) (hk : k ≤ 64) : wd (put V n x k) i = x % 2 ^ k := by
  apply Nat.eq_of_testBit_eq
  intro j
  rw [wd_bit, put_bit x k _ h, if_neg (by omega), show 64 * i + j - n = j by omega, Nat.testBit_mod_two_pow]
  by_cases hj : j < k
  · simp [hj, show j < 64 by omega]
  · simp [hj]
/-- The last word takes what fits. -/
theorem wd_put_last {V n : Nat} (x k i s : Nat) (h : V < 2 ^ n) (hn : n = 64 * i + s) (hs : s < 64) : wd (put V n x k) i = wd V i ||| (x % 2 ^ k * 2 ^ s) % 2 ^ 64 := by
  apply Nat.eq_of_testBit_eq
  intro j
  rw [Nat.testBit_or, wd_bit, wd_bit, put_bit x k _ h, Nat.testBit_mod_two_pow, Nat.mul_comm (x % 2 ^ k), Nat.testBit_two_pow_mul, Nat.testBit_mod_two_pow]
  by_cases hj : j < 64
  · by_cases hjs : j < s
    · simp [hj, show 64 * i + j < n by omega, show ¬ s ≤ j by omega]
    · have hV : V.testBit (64 * i + j) = false := Nat.testBit_lt_two_pow (Nat.lt_of_lt_of_le h (Nat.pow_le_pow_right (by omega) (by omega)))
      rw [if_neg (by omega), show 64 * i + j - n = j - s by omega, hV]
      simp [hj, show s ≤ j by omega]
  · simp [hj]
/-- The word behind the last takes what is left. -/
theorem wd_put_next {V n : Nat} (x k i s : Nat) (h : V < 2 ^ n) (hn : n = 64 * i + s) (hs : s < 64) (hs0 : 0 < s) (hk : k ≤ 64) : wd (put V n x k) (i + 1) = x % 2 ^ k / 2 ^ (64 - s) := by
  apply Nat.eq_of_testBit_eq
  intro j
  rw [wd_bit, put_bit x k _ h, if_neg (by omega), Nat.testBit_div_two_pow, Nat.testBit_mod_two_pow, show 64 * (i + 1) + j - n = 64 - s + j by omega]
  by_cases hj : 64 - s + j < k
  · simp [show j + (64 - s) < k by omega, show j < 64 by omega, Nat.add_comm]
  · simp [show ¬ 64 - s + j < k by omega, show ¬ j + (64 - s) < k by omega]
/-- Bits read out of one word. -/
theorem get_one (V i s k : Nat) (h : s + k ≤ 64) : wd V i / 2 ^ s % 2 ^ k = V / 2 ^ (64 * i + s) % 2 ^ k := by
  apply Nat.eq_of_testBit_eq
  intro j
  rw [Nat.testBit_mod_two_pow, Nat.testBit_mod_two_pow, Nat.testBit_div_two_pow, Nat.testBit_div_two_pow, wd_bit]
  by_cases hj : j < k
  · simp [hj, show j + s < 64 by omega, show 64 * i + (j + s) = j + (64 * i + s) by omega]
  · simp [hj]
/-- Bits read out of two words. -/
theorem get_two (V i s k : Nat) (hs : s < 64) (hs0 : 0 < s) (hk : k ≤ 64) : (wd V i / 2 ^ s ||| wd V (i + 1) * 2 ^ (64 - s) % 2 ^ 64) % 2 ^ k = V / 2 ^ (64 * i + s) % 2 ^ k := by
  apply Nat.eq_of_testBit_eq
  intro j
  rw [Nat.testBit_mod_two_pow, Nat.testBit_mod_two_pow, Nat.testBit_or, Nat.testBit_div_two_pow, Nat.testBit_div_two_pow, wd_bit, Nat.testBit_mod_two_pow, Nat.mul_comm (wd V (i + 1)), Nat.testBit_two_pow_mul, wd_bit]
  by_cases hj : j < k
  · by_cases hjs : j + s < 64
    · simp [hj, hjs, show ¬ 64 - s ≤ j by omega, show 64 * i + (j + s) = j + (64 * i + s) by omega]
    · simp [hj, hjs, show 64 - s ≤ j by omega, show j < 64 by omega, show j - (64 - s) < 64 by omega, show 64 * (i + 1) + (j - (64 - s)) = j + (64 * i + s) by omega]
  · simp [hj]
end Go.Proofs.Ytoncollcefanjaa
namespace Go.Proofs.Ytoncollcefanjaa
open Go.RowKit
set_option linter.unusedVariables false

/-- As a count of a number's bits. -/
def cnt64 (k : Int) : Nat := if k ≤ 0 then 0 else if 64 ≤ k then 64 else k.toNat
theorem low_eq : ∀ k : Nat, k < 65 → (18446744073709551615 : Int) / 2 ^ (64 - k) = ((2 ^ k - 1 : Nat) : Int) := by decide +kernel
end Go.Proofs.Ytoncollcefanjaa
namespace Go.Proofs.Ytoncollcefanjaa
open Go.RowKit
set_option linter.unusedVariables false

def U64 (z : List Nat) : List Value := z.map fun (x : Nat) => Value.int .u64 (x : Int)
theorem U64_len (z : List Nat) : (U64 z).length = z.length := by simp [U64]
theorem U64_append (l m : List Nat) : U64 (l ++ m) = U64 l ++ U64 m := by simp [U64]
theorem U64_set (y : List Nat) (k v : Nat) : U64 (y.set k v) = (U64 y).set k (.int .u64 (v : Int)) := by simp [U64, List.map_set]
theorem U64_get (z : List Nat) (k : Nat) (hk : k < z.length) : (U64 z)[k]? = some (.int .u64 ((z.getD k 0 : Nat) : Int)) := by
  simp [U64, List.getD_eq_getElem?_getD, List.getElem?_eq_getElem hk]
/-- The words of n bits. -/
def words (V m : Nat) : List Nat := (List.range m).map (wd V)
theorem words_len (V m : Nat) : (words V m).length = m := by simp [words]
theorem words_get (V m i : Nat) (h : i < m) : (words V m).getD i 0 = wd V i := by simp [words, List.getD_eq_getElem?_getD, h]
theorem words_next (V m : Nat) : words V (m + 1) = words V m ++ [wd V m] := by simp [words, List.range_succ]
/-- The blocks of a vector. -/
def foot (g : Nat) (A : Option Addr) (i : Nat) : Prop := i = g ∨ ∃ b, A = some ⟨b, 0, none⟩ ∧ i = b
theorem wrap_u64 (y s : Nat) : IntKind.u64.wrap ((y : Int) * 2 ^ s) = ((y * 2 ^ s % 2 ^ 64 : Nat) : Int) := by
  simp [IntKind.wrap, IntKind.signed, IntKind.bits]
end Go.Proofs.Ytoncollcefanjaa
namespace Go.Proofs.Ytoncollcefanjaa
open Go.RowKit
set_option linter.unusedVariables false
section
variable {P : Program} (w : World)
/-- What the old row holds: the elements that it held. -/
def Keeps (w' : World) (v : Value) (n : Nat) (xs : List Value) : Prop := ∀ g c, v = .slice (some ⟨g, 0, none⟩) n c → ∀ j u, xs[j]? = some u → w'.cell? ⟨g, j, none⟩ = some u
theorem append_keeps (t ty : TypeId) (base : Nat) (e : TypeId) (i : TypeInfo) (z : Value) (size bytes : Nat) (ht : P.underlying t = some (.slice e)) (hi : P.info? e = some i) (hz : i.zero = some z)
    (hsize : i.size = size) (hby : i.bytes = bytes) (hzs : z.cells.size = size) (hsz : 0 < size)
    (v : Value) (n : Nat) (xs : List Value) (hown : w.ownsRow base e size v n xs)
    (ad : Addr) (m c : Nat) (news : List Value) (hl : news.length = m * size) (hnews : ∀ j u, news[j]? = some u → w.cell? (ad.add j) = some u) (h1 : ∀ u ∈ news, u.oneCell' = true)
    (hm : 0 < m) (h63 : n + m ≤ maxLen) (hbytes : (n + m) * bytes ≤ 140737488355328)
    {g' cap' : Nat} {w' : World} (hr : (Builtin.append_ #[t, t] ty #[v, .slice (some ad) m c]).run P w = .ok (.slice (some ⟨g', 0, none⟩) (n + m) cap') w')
    (hown' : w'.ownsRow base e size (.slice (some ⟨g', 0, none⟩) (n + m) cap') (n + m) (xs ++ news)) : Keeps w' v n xs := by
  subst hsize
  subst hby
  intro g0 c0 hv j u hu
  subst hv
  have hsmall : n + m ≤ 9223372036854775807 := by simp only [maxLen] at h63; omega
  rcases hown.2 with ⟨hx, _⟩ | ⟨g, cap, cur, hv, hbg, hg, hnc, hcm, hcs, htake⟩
  · cases hx
  · simp only [Value.slice.injEq, Option.some.injEq, Addr.mk.injEq, and_true, true_and] at hv
    obtain ⟨rfl, rfl⟩ := hv
    by_cases hroom : n + m ≤ c0
    · have hfit : n * i.size + news.length ≤ cur.size := by rw [hl, hcs, ← Nat.add_mul]; exact Nat.mul_le_mul_right _ hroom
      have hr2 := run_append_room (P := P) w t ty e i ht hi g0 n c0 cur hg ad m c news hl hnews h1 hroom hfit
      rw [hr2] at hr
      simp only [Result.ok.injEq, Value.slice.injEq, Option.some.injEq, Addr.mk.injEq, and_true, true_and] at hr
      obtain ⟨⟨rfl, rfl⟩, rfl⟩ := hr
      have hjl := (List.getElem?_eq_some_iff.1 hu).1
      have := hown'.cellAt j (by have h9 := hown'.1; rw [List.length_append] at h9; omega)
      rw [this, List.getElem?_append_left hjl, hu]
    · have holds : ∀ j u, xs[j]? = some u → w.cell? ((⟨g0, 0, none⟩ : Addr).add j) = some u := hown.cells (g := g0) rfl
      have hr2 := run_append_grow (P := P) w t ty e i z ht hi hz ⟨g0, 0, none⟩ n c0 xs hown.1 holds ad m c news hl hnews (by omega) (by omega) (growslice_fits (by omega) hbytes)
      rw [hr2] at hr
      simp only [Result.ok.injEq] at hr
      obtain ⟨_, rfl⟩ := hr
      have hc := hown.cellAt j (by have h9 := hown.1; have := (List.getElem?_eq_some_iff.1 hu).1; omega)
      rw [hu] at hc
      have hlt := World.block_lt_of_cell? _ _ hc
      exact (World.cell?_alloc_lt _ _ _ hlt).trans hc
theorem step_append_keep {ops : Array Oper} {o : Oper} {a : Act} {K : Act → World → Prop} {Q : Exit → Act → World → Prop} {E : Prop} (hgd : o.guard = none) (s x : Operand) (t : TypeId)
    (ho : o.op = .call { callee := .builtin .append, args := #[s, x], argTypes := #[t, t] })
    (base : Nat) (e : TypeId) (i : TypeInfo) (z : Value) (size bytes : Nat) (ht : P.underlying t = some (.slice e)) (hi : P.info? e = some i) (hz : i.zero = some z)
    (hsize : i.size = size) (hby : i.bytes = bytes) (hzs : z.cells.size = size) (hsz : 0 < size)
    (v : Value) (n : Nat) (xs : List Value) (hs : a.eval s = v) (hown : w.ownsRow base e size v n xs)
    (ad : Addr) (m c : Nat) (news : List Value) (hx : a.eval x = .slice (some ad) m c) (hl : news.length = m * size) (hnews : ∀ j u, news[j]? = some u → w.cell? (ad.add j) = some u) (h1 : ∀ u ∈ news, u.oneCell' = true)
    (hm : 0 < m) (h63 : n + m ≤ maxLen) (hbytes : (n + m) * bytes ≤ 140737488355328) (hbase : base ≤ w.heap.size) (H : Nat) (hH : w.heap.size = H)
    (h : ∀ g cap w', w'.ownsRow base e size (.slice (some ⟨g, 0, none⟩) (n + m) cap) (n + m) (xs ++ news) → w.grownBy w' v.ownBlock → (v.ownBlock = some g ∨ g = H) → g < w'.heap.size → Keeps w' v n xs → K (a.put o.dst (.slice (some ⟨g, 0, none⟩) (n + m) cap)) w') :
    if Region.wanted o (yielded ops a.tmps) = true then Oper.wp P o a w K Q else E := by
  have hw : Region.wanted o (yielded ops a.tmps) = true := by simp [Region.wanted, hgd]
  rw [if_pos hw]
  obtain ⟨g, cap, w', hr, h2, h3, h4, h5⟩ := run_append_lies (P := P) w t o.type base e i z size bytes ht hi hz hsize hby hzs hsz v n xs hown ad m c news hl hnews h1 hm h63 hbytes hbase H hH
  have hk := append_keeps (P := P) w t o.type base e i z size bytes ht hi hz hsize hby hzs hsz v n xs hown ad m c news hl hnews h1 hm h63 hbytes hr h2
  unfold Oper.wp execOp
  simp only [ho, resolve, invoke, builtin, Sem.run_bind, Sem.run_pure, Result.andThen_ok, List.map_toArray, List.map_cons, List.map_nil, hs, hx, hr]
  exact h g cap w' h2 h3 h4 h5 hk
theorem wpList_append_keep {ops : Array Oper} {rest : List Oper} {o : Oper} {a : Act} {Q : Exit → Act → World → Prop} (hgd : o.guard = none) (s x : Operand) (t : TypeId)
    (ho : o.op = .call { callee := .builtin .append, args := #[s, x], argTypes := #[t, t] })
    (base : Nat) (e : TypeId) (i : TypeInfo) (z : Value) (size bytes : Nat) (ht : P.underlying t = some (.slice e)) (hi : P.info? e = some i) (hz : i.zero = some z)
    (hsize : i.size = size) (hby : i.bytes = bytes) (hzs : z.cells.size = size) (hsz : 0 < size)
    (v : Value) (n : Nat) (xs : List Value) (hs : a.eval s = v) (hown : w.ownsRow base e size v n xs)
    (ad : Addr) (m c : Nat) (news : List Value) (hx : a.eval x = .slice (some ad) m c) (hl : news.length = m * size) (hnews : ∀ j u, news[j]? = some u → w.cell? (ad.add j) = some u) (h1 : ∀ u ∈ news, u.oneCell' = true)
    (hm : 0 < m) (h63 : n + m ≤ maxLen) (hbytes : (n + m) * bytes ≤ 140737488355328) (hbase : base ≤ w.heap.size) (H : Nat) (hH : w.heap.size = H)
    (h : ∀ g cap w', w'.ownsRow base e size (.slice (some ⟨g, 0, none⟩) (n + m) cap) (n + m) (xs ++ news) → w.grownBy w' v.ownBlock → (v.ownBlock = some g ∨ g = H) → g < w'.heap.size → Keeps w' v n xs → wpList P ops Q rest (a.put o.dst (.slice (some ⟨g, 0, none⟩) (n + m) cap)) w') : wpList P ops Q (o :: rest) a w :=
  wpList_wanted (by simp [Region.wanted, hgd]) fun _ hK => by
    obtain ⟨g, cap, w', hr, h2, h3, h4, h5⟩ := run_append_lies (P := P) w t o.type base e i z size bytes ht hi hz hsize hby hzs hsz v n xs hown ad m c news hl hnews h1 hm h63 hbytes hbase H hH
    have hk := append_keeps (P := P) w t o.type base e i z size bytes ht hi hz hsize hby hzs hsz v n xs hown ad m c news hl hnews h1 hm h63 hbytes hr h2
    unfold Oper.wp execOp
    simp only [ho, resolve, invoke, builtin, Sem.run_bind, Sem.run_pure, Result.andThen_ok, List.map_toArray, List.map_cons, List.map_nil, hs, hx, hr]
    exact hK _ _ (h g cap w' h2 h3 h4 h5 hk)
end
end Go.Proofs.Ytoncollcefanjaa
namespace Go.Proofs.Ytoncollcefanjaa
open Go.RowKit
set_option linter.unusedVariables false

/-- What the old row holds behind Num: each word as it was, or as it is now. -/
def OldK (w' : World) (A : Option Addr) (V V' n : Nat) : Prop :=
  ∀ b, A = some ⟨b, 0, none⟩ → ∀ i, i < (n + 63) / 64 → w'.cell? ⟨b, i, none⟩ = some (.int .u64 ((wd V i : Nat) : Int)) ∨ w'.cell? ⟨b, i, none⟩ = some (.int .u64 ((wd V' i : Nat) : Int))
theorem info_u64 : (Try.prog.info? 111).map (fun i => (i.zero, i.size, i.bytes)) = some (some (.int .u64 0), 1, 8) := by kernel_rfl
end Go.Proofs.Ytoncollcefanjaa
namespace Go.Proofs.Ytoncollcefanjaa
open Go.RowKit
set_option linter.unusedVariables false

end Go.Proofs.Ytoncollcefanjaa
namespace Go.Proofs.Ytoncollcefanjaa
open Go.RowKit
set_option linter.unusedVariables false

theorem put_zero (V n x : Nat) : put V n x 0 = V := by simp [put, Nat.mod_one]
/-- Two vectors share no block. -/
def Sep (g : Nat) (A : Option Addr) (h : Nat) (C : Option Addr) : Prop := ∀ i, foot g A i → ¬ foot h C i
theorem Sep.symm {g h : Nat} {A C : Option Addr} (s : Sep g A h C) : Sep h C g A := fun i hi hj => s i hj hi
theorem cnt64_nat {s : Nat} (h : s ≤ 64) : cnt64 (s : Int) = s := by unfold cnt64; split <;> (try split) <;> omega
theorem U64_one (z : List Nat) : ∀ u ∈ U64 z, u.oneCell' = true := by
  intro u hu
  simp only [U64, List.mem_map] at hu
  obtain ⟨b, _, rfl⟩ := hu
  rfl
theorem Rd.u64 {w : World} {B n : Nat} {A : Option Addr} {z : List Nat} (h : Rd w B A n (U64 z)) (h0 : 0 < n) :
    ∃ b o, A = some ⟨b, o, none⟩ ∧ b < B ∧ ∀ k, k < n → w.cell? ⟨b, o + k, none⟩ = some (.int .u64 ((z.getD k 0 : Nat) : Int)) := by
  obtain ⟨b, o, e, hb, hc⟩ := h.at_ h0
  refine ⟨b, o, e, hb, fun k hk => ?_⟩
  have hl : z.length = n := by rw [← h.len, U64_len]
  rw [hc k (by rw [U64_len]; omega)]
  have := U64_get z k (by omega)
  rwa [List.getElem?_eq_getElem (by rw [U64_len]; omega)] at this

/-- What Clone answers: nil, or a new row. -/
def NewU64 (w : World) (z : List Nat) (e : Ending) (w' : World) : Prop :=
  ∃ A c, e = .returned (.slice A z.length c) ∧ z.length ≤ c ∧ c ≤ maxLen ∧ w'.ownsRow w.heap.size 111 1 (.slice A z.length c) z.length (U64 z) ∧ Below w.heap.size w w'
theorem NewU64.mk {w w' : World} {z : List Nat} {e : Ending} {v : Value} (he : e = .returned v) (h : w'.ownsRow w.heap.size 111 1 v z.length (U64 z)) (hb : Below w.heap.size w w') : NewU64 w z e w' := by
  obtain ⟨A, c, rfl, h1, h2⟩ := own_form h
  exact ⟨A, c, he, h1, h2, h, hb⟩
theorem getDN_ext {l m : List Nat} (h : l.length = m.length) (hg : ∀ i, i < l.length → l.getD i 0 = m.getD i 0) : l = m := by
  apply List.ext_getElem h
  intro i h1 h2
  have := hg i h1
  rwa [List.getD_eq_getElem?_getD, List.getD_eq_getElem?_getD, List.getElem?_eq_getElem h1, List.getElem?_eq_getElem h2] at this
end Go.Proofs.Ytoncollcefanjaa
namespace Go.Proofs.Ytoncollcefanjaa
open Go.RowKit
set_option linter.unusedVariables false
end Go.Proofs.Ytoncollcefanjaa
namespace Go.Proofs.Ytoncollcefanjaa
open Go.RowKit
set_option linter.unusedVariables false
def U8 (l : List Nat) : List Value := l.map fun (b : Nat) => Value.int .u8 (b : Int)
theorem U8_len (l : List Nat) : (U8 l).length = l.length := by simp [U8]
theorem U8_get (l : List Nat) (j : Nat) (h : j < (U8 l).length) : (U8 l)[j] = .int .u8 ((l[j]'(by simpa [U8] using h) : Nat) : Int) := by simp [U8]
theorem U8_append (l m : List Nat) : U8 (l ++ m) = U8 l ++ U8 m := by simp [U8]
theorem info_u8 : (Try.prog.info? 5).map (fun i => (i.zero, i.size, i.bytes)) = some (some (.int .u8 0), 1, 1) := by kernel_rfl

theorem U8_one (l : List Nat) : ∀ u ∈ U8 l, u.oneCell' = true := by
  intro u hu
  simp only [U8, List.mem_map] at hu
  obtain ⟨b, _, rfl⟩ := hu
  rfl

theorem Rd.u8 {w : World} {B n : Nat} {A : Option Addr} {bs : List Nat} (h : Rd w B A n (U8 bs)) (h0 : 0 < n) :
    ∃ b o, A = some ⟨b, o, none⟩ ∧ b < B ∧ ∀ k, k < n → w.cell? ⟨b, o + k, none⟩ = some (.int .u8 ((bs.getD k 0 : Nat) : Int)) := by
  obtain ⟨b, o, e, hb, hc⟩ := h.at_ h0
  refine ⟨b, o, e, hb, fun k hk => ?_⟩
  have hl : bs.length = n := by rw [← h.len, U8_len]
  rw [hc k (by rw [U8_len]; omega), U8_get]
  simp [List.getD_eq_getElem?_getD, List.getElem?_eq_getElem (show k < bs.length by omega)]
/-- A slice of bytes that came in, as the shell of a law tells of it. -/
theorem row_u8 {w : World} {a : Option Addr} {len cap : Nat} {zs : List Int}
    (h : (a = none ∧ len = 0 ∧ cap = 0 ∧ zs = []) ∨
      ∃ x, a = some x ∧ len ≤ cap ∧ cap ≤ maxLen ∧ zs.length = cap ∧ (∀ i, i < zs.length → w.cell? (x.add i) = some (.int .u8 (zs.getD i 0))) ∧ ∀ n ∈ zs, (Lit.int .u8 n).wf = true) :
    len ≤ cap ∧ cap ≤ maxLen ∧ ∃ bs : List Nat, Rd w w.heap.size a len (U8 bs) ∧ ∀ b ∈ bs, b < 256 := by
  rcases h with ⟨rfl, rfl, rfl, rfl⟩ | ⟨x, rfl, hl, hm, hz, hc, hw⟩
  · exact ⟨Nat.le_refl _, Nat.zero_le _, [], Rd.nil _ _ _, by simp⟩
  · have hb : ∀ n ∈ zs, 0 ≤ n ∧ n < 256 := fun n hn => by
      have := hw n hn
      simp [Lit.wf, IntKind.min, IntKind.max, IntKind.bits, IntKind.signed] at this
      omega
    refine ⟨hl, hm, (zs.take len).map Int.toNat, ⟨by simp [U8]; omega, fun h0 => ?_⟩, ?_⟩
    · obtain ⟨b, o, sp⟩ := x
      obtain rfl : sp = none := by simpa [Addr.add] using World.cell?_spot (hc 0 (by omega))
      refine ⟨b, o, rfl, World.block_lt_of_cell? _ _ (hc 0 (by omega)), fun j hj => ?_⟩
      have hj' : j < len := by simp [U8] at hj; omega
      have := hc j (by omega)
      rw [U8_get]
      have e : (⟨b, o, none⟩ : Addr).add j = ⟨b, o + j, none⟩ := by unfold Addr.add; split <;> simp_all
      rw [e] at this
      rw [this]
      have hjz : j < zs.length := by omega
      have := hb zs[j] (List.getElem_mem _)
      simp [List.getD_eq_getElem?_getD, List.getElem?_eq_getElem hjz]
      omega
    · intro b hb'
      simp only [List.mem_map] at hb'
      obtain ⟨n, hn, rfl⟩ := hb'
      have := hb n (List.mem_of_mem_take hn)
      omega
theorem wf_u8 {x : Int} (h : (Lit.int .u8 x).wf = true) : ∃ n : Nat, x = (n : Int) ∧ n < 256 := by
  simp [Lit.wf, IntKind.min, IntKind.max, IntKind.bits, IntKind.signed] at h
  exact ⟨x.toNat, by omega, by omega⟩
theorem wf_u64 {x : Int} (h : (Lit.int .u64 x).wf = true) : ∃ n : Nat, x = (n : Int) ∧ n < 2 ^ 64 := by
  simp [Lit.wf, IntKind.min, IntKind.max, IntKind.bits, IntKind.signed] at h
  exact ⟨x.toNat, by omega, by omega⟩
theorem wf_i64 {x : Int} (h : (Lit.int .i64 x).wf = true) : -9223372036854775808 ≤ x ∧ x ≤ 9223372036854775807 := by
  simp [Lit.wf, IntKind.min, IntKind.max, IntKind.bits, IntKind.signed] at h
  omega
end Go.Proofs.Ytoncollcefanjaa
namespace Go.Proofs.Ytoncollcefanjaa
open Go.RowKit
set_option linter.unusedVariables false
/-- An answer in new memory that reads as a list. -/
def NewU8 (w : World) (bs : List Nat) (e : Ending) (w' : World) : Prop :=
  ∃ A c, e = .returned (.slice A bs.length c) ∧ bs.length ≤ c ∧ c ≤ maxLen ∧ w'.ownsRow w.heap.size 5 1 (.slice A bs.length c) bs.length (U8 bs) ∧ Below w.heap.size w w'
theorem NewU8.mk {w w' : World} {bs : List Nat} {e : Ending} {v : Value} (he : e = .returned v) (h : w'.ownsRow w.heap.size 5 1 v bs.length (U8 bs)) (hb : Below w.heap.size w w') : NewU8 w bs e w' := by
  obtain ⟨A, c, rfl, h1, h2⟩ := own_form h
  exact ⟨A, c, he, h1, h2, h, hb⟩

theorem conv_bytes (A : Option Addr) (n c B : Nat) (bs : List Nat) (w : World) (h : Rd w B A n (U8 bs)) :
    (convert 22 9 (.slice A n c)).run Try.prog w = .ok (.string (strOfNums (bs.map fun (b : Nat) => (b : Int)))) w := by
  have hl : bs.length = n := by rw [← h.len, U8_len]
  rcases Nat.eq_zero_or_pos n with h0 | h0
  · subst h0
    obtain rfl : bs = [] := List.eq_nil_of_length_eq_zero hl
    rw [run_convert_bytes_string w 22 9 5 _ 0 c Try.underlying22 Try.underlying5 Try.underlying9]
    cases A <;> simp [Conv.bytesToString, loadCells, loadCellsFrom, strOfNums] <;> rfl
  · obtain ⟨b, o, rfl, _, hc⟩ := h.at_ h0
    refine run_convert_bytes_arg (P := Try.prog) w 22 5 Try.underlying22 Try.underlying5 b o n c _ (by simpa using hl) (fun i hi => ?_) 9 Try.underlying9
    rw [hc i (by rw [U8_len]; omega), U8_get]
    simp [List.getD_eq_getElem?_getD, List.getElem?_eq_getElem (show i < bs.length by omega)]

theorem bytes_inj (cs bs : List Nat) (ha : ∀ b ∈ cs, b < 256) (hb : ∀ b ∈ bs, b < 256) :
    ((cs.map fun (b : Nat) => UInt8.ofNat (b : Int).toNat) = bs.map fun (b : Nat) => UInt8.ofNat (b : Int).toNat) ↔ cs = bs := by
  constructor
  · intro h
    induction cs generalizing bs with
    | nil => cases bs with
      | nil => rfl
      | cons b bs => simp at h
    | cons a cs ih => cases bs with
      | nil => simp at h
      | cons b bs =>
        simp only [List.map_cons, List.cons.injEq] at h
        have h1 := congrArg UInt8.toNat h.1
        simp only [Int.toNat_natCast, UInt8.toNat_ofNat'] at h1
        have := ha a (by simp)
        have := hb b (by simp)
        rw [ih bs (fun x hx => ha x (by simp [hx])) (fun x hx => hb x (by simp [hx])) h.2]
        rw [show a = b by omega]
  · rintro rfl; rfl

theorem fill_next (X : List Nat) (k m : Nat) (hX : X.length = m) (hk : k < m) :
    ((U8 (X.take k ++ List.replicate (m - k) 0)).toArray).setIfInBounds k (.int .u8 ((X.getD k 0 : Nat) : Int)) = (U8 (X.take (k + 1) ++ List.replicate (m - (k + 1)) 0)).toArray := by
  rw [show X.getD k 0 = X[k] by simp [List.getD_eq_getElem?_getD, List.getElem?_eq_getElem (show k < X.length by omega)]]
  apply Array.toList_inj.1
  rw [Array.toList_setIfInBounds]
  show (U8 (X.take k ++ List.replicate (m - k) 0)).set k _ = U8 _
  have e1 : List.replicate (m - k) 0 = 0 :: List.replicate (m - (k + 1)) 0 := by
    rw [show m - k = (m - (k + 1)) + 1 by omega, List.replicate_succ]
  rw [e1, U8_append, ← List.take_append_getElem (by omega : k < X.length), List.append_assoc, U8_append, List.set_append_right _ _ (by rw [U8_len, List.length_take]; omega)]
  have e2 : k - (U8 (X.take k)).length = 0 := by rw [U8_len, List.length_take]; omega
  rw [e2]
  rfl
end Go.Proofs.Ytoncollcefanjaa
namespace Go.Proofs.Ytoncollcefanjaa
set_option linter.unusedVariables false

def ofNB (l : List Nat) : List Int := l.map fun (x : Nat) => (x : Int)
theorem ofN_lenB (l : List Nat) : (ofNB l).length = l.length := by simp [ofNB]
theorem ofN_appendB (l m : List Nat) : ofNB (l ++ m) = ofNB l ++ ofNB m := by simp [ofNB]
theorem ofN_takeB (l : List Nat) (k : Nat) : ofNB (l.take k) = (ofNB l).take k := by simp [ofNB, List.map_take]
theorem ofN_dropB (l : List Nat) (k : Nat) : ofNB (l.drop k) = (ofNB l).drop k := by simp [ofNB, List.map_drop]
theorem ofN_getB (l : List Nat) (i : Nat) : (ofNB l).getD i 0 = ((l.getD i 0 : Nat) : Int) := by
  by_cases h : i < l.length
  · simp [ofNB, List.getD_eq_getElem?_getD, h]
  · simp [ofNB, List.getD_eq_getElem?_getD, Nat.le_of_not_lt h]
theorem ofN_injB {l m : List Nat} (h : ofNB l = ofNB m) : l = m := by
  have hl : l.length = m.length := by rw [← ofN_lenB, h, ofN_lenB]
  apply List.ext_getElem hl
  intro i h1 h2
  have := congrArg (fun l => l.getD i 0) h
  simp only [ofN_getB] at this
  simp only [List.getD_eq_getElem?_getD, List.getElem?_eq_getElem h1, List.getElem?_eq_getElem h2, Option.getD_some] at this
  omega

/-- The number of some bits, the lowest first. -/
def val : List Nat → Nat
  | [] => 0
  | b :: l => b + 2 * val l
/-- Noughts and ones. -/
def Bin (l : List Nat) : Prop := ∀ b ∈ l, b < 2
theorem Bin.nil : Bin [] := fun _ h => by cases h
theorem Bin.tail {b : Nat} {l : List Nat} (h : Bin (b :: l)) : Bin l := fun x hx => h x (List.mem_cons_of_mem _ hx)
theorem Bin.head {b : Nat} {l : List Nat} (h : Bin (b :: l)) : b < 2 := h b (List.mem_cons_self ..)
theorem Bin.append {l m : List Nat} (h : Bin l) (k : Bin m) : Bin (l ++ m) := fun x hx => by
  rcases List.mem_append.1 hx with hx | hx
  · exact h x hx
  · exact k x hx
theorem Bin.take {l : List Nat} (h : Bin l) (k : Nat) : Bin (l.take k) := fun x hx => h x (List.mem_of_mem_take hx)
theorem Bin.drop {l : List Nat} (h : Bin l) (k : Nat) : Bin (l.drop k) := fun x hx => h x (List.mem_of_mem_drop hx)
theorem Bin.getD {l : List Nat} (h : Bin l) (i : Nat) : l.getD i 0 < 2 := by
  by_cases hi : i < l.length
  · rw [List.getD_eq_getElem?_getD, List.getElem?_eq_getElem hi]
    exact h _ (List.getElem_mem hi)
  · rw [List.getD_eq_getElem?_getD, List.getElem?_eq_none (by omega)]; decide
theorem val_lt {l : List Nat} (h : Bin l) : val l < 2 ^ l.length := by
  induction l with
  | nil => simp [val]
  | cons b l ih =>
    have h1 := ih h.tail
    have h2 := h.head
    simp only [val, List.length_cons, Nat.pow_succ]
    omega
theorem val_append (l m : List Nat) : val (l ++ m) = val l + 2 ^ l.length * val m := by
  induction l with
  | nil => simp [val]
  | cons b l ih => 
    simp only [List.cons_append, val, ih, List.length_cons, Nat.pow_succ]
    rw [Nat.mul_add, ← Nat.mul_assoc, Nat.mul_comm 2 (2 ^ l.length)]
    omega
theorem val_bit {l : List Nat} (h : Bin l) (i : Nat) : val l / 2 ^ i % 2 = l.getD i 0 := by
  induction l generalizing i with
  | nil => simp [val]
  | cons b l ih =>
    have hb := h.head
    cases i with
    | zero => simp [val]; omega
    | succ i =>
      have e : (b + 2 * val l) / 2 ^ (i + 1) = val l / 2 ^ i := by
        rw [Nat.pow_succ, Nat.mul_comm (2 ^ i) 2, ← Nat.div_div_eq_div_mul]
        congr 1; omega
      simp only [val, e, List.getD_cons_succ]
      exact ih h.tail i
theorem val_inj {l m : List Nat} (h : Bin l) (k : Bin m) (hl : l.length = m.length) (e : val l = val m) : l = m := by
  apply List.ext_getElem hl
  intro i h1 h2
  have a := val_bit h i
  have b := val_bit k i
  rw [e, b] at a
  simpa [List.getD_eq_getElem?_getD, List.getElem?_eq_getElem h1, List.getElem?_eq_getElem h2] using a.symm
/-- A number's k lowest bits. -/
def numL (x k : Nat) : List Nat := (List.range k).map fun i => x / 2 ^ i % 2
theorem numL_len (x k : Nat) : (numL x k).length = k := by simp [numL]
theorem numL_bin (x k : Nat) : Bin (numL x k) := fun b hb => by
  simp only [numL, List.mem_map] at hb
  obtain ⟨i, _, rfl⟩ := hb
  exact Nat.mod_lt _ (by decide)
theorem numL_next (x k : Nat) : numL x (k + 1) = numL x k ++ [x / 2 ^ k % 2] := by simp [numL, List.range_succ]
theorem mod_next (x k : Nat) : x % 2 ^ (k + 1) = x % 2 ^ k + 2 ^ k * (x / 2 ^ k % 2) := by rw [Nat.pow_succ, Nat.mod_mul]
theorem val_numL (x k : Nat) : val (numL x k) = x % 2 ^ k := by
  induction k with
  | zero => simp [numL, val, Nat.mod_one]
  | succ k ih => rw [numL_next, val_append, ih, numL_len, mod_next]; simp [val]
theorem val_take {l : List Nat} (h : Bin l) (k : Nat) : val (l.take k) = val l % 2 ^ k := by
  by_cases hk : k ≤ l.length
  · have e := val_append (l.take k) (l.drop k)
    rw [List.take_append_drop, List.length_take, Nat.min_eq_left hk] at e
    rw [e, Nat.add_mul_mod_self_left]
    have := val_lt (h.take k)
    rw [List.length_take, Nat.min_eq_left hk] at this
    exact (Nat.mod_eq_of_lt this).symm
  · rw [List.take_of_length_le (by omega)]
    exact (Nat.mod_eq_of_lt (Nat.lt_of_lt_of_le (val_lt h) (Nat.pow_le_pow_right (by omega) (by omega)))).symm
theorem val_drop {l : List Nat} (h : Bin l) (k : Nat) : val (l.drop k) = val l / 2 ^ k := by
  by_cases hk : k ≤ l.length
  · have e := val_append (l.take k) (l.drop k)
    rw [List.take_append_drop, List.length_take, Nat.min_eq_left hk] at e
    have := val_lt (h.take k)
    rw [List.length_take, Nat.min_eq_left hk] at this
    rw [e, Nat.add_comm, Nat.mul_add_div (Nat.two_pow_pos k), Nat.div_eq_of_lt this, Nat.add_zero]
  · rw [List.drop_of_length_le (by omega), Nat.div_eq_of_lt (Nat.lt_of_lt_of_le (val_lt h) (Nat.pow_le_pow_right (by omega) (by omega)))]
    rfl
/-- Bits put behind a list's number. -/
theorem put_val {l m : List Nat} (hm : Bin m) : put (val l) l.length (val m) m.length = val (l ++ m) := by
  unfold put
  rw [val_append, Nat.mod_eq_of_lt (val_lt hm), Nat.mul_comm]
theorem put_numL (l : List Nat) (x k : Nat) : put (val l) l.length x k = val (l ++ numL x k) := by
  unfold put
  rw [val_append, val_numL, Nat.mul_comm]
theorem numL_val {l : List Nat} (h : Bin l) (k : Nat) (hk : k ≤ l.length) : numL (val l) k = l.take k := by
  refine val_inj (numL_bin _ _) (h.take k) (by rw [numL_len, List.length_take, Nat.min_eq_left hk]) ?_
  rw [val_numL, val_take h]
/-- A number of bits in two parts is the number at once. -/
theorem put_two (x a b : Nat) : put (put 0 0 x a) (0 + a) (x / 2 ^ a) b = put 0 0 x (a + b) := by
  unfold put
  simp only [Nat.zero_add, Nat.pow_zero, Nat.mul_one]
  rw [Nat.pow_add, Nat.mod_mul, Nat.mul_comm]
/-- Bits of bytes, not more than so many. -/
def few (bs : List Nat) (m : Nat) : List Nat := (bs.flatMap fun b => numL b 8).take m
theorem flat_bin (bs : List Nat) : Bin (bs.flatMap fun b => numL b 8) := fun x hx => by
  obtain ⟨b, _, h⟩ := List.mem_flatMap.1 hx
  exact numL_bin b 8 x h
theorem few_bin (bs : List Nat) (m : Nat) : Bin (few bs m) := (flat_bin bs).take m
theorem flat_len (bs : List Nat) : (bs.flatMap fun b => numL b 8).length = 8 * bs.length := by
  induction bs with
  | nil => rfl
  | cons b bs ih => simp only [List.flatMap_cons, List.length_append, ih, numL_len, List.length_cons]; omega
theorem few_len (bs : List Nat) (m : Nat) : (few bs m).length = min m (8 * bs.length) := by rw [few, List.length_take, flat_len]
/-- On the way: k bytes and i bits of the next one. -/
def fewTo (bs : List Nat) (m k i : Nat) : List Nat := (((bs.take k).flatMap fun b => numL b 8) ++ numL (bs.getD k 0) i).take m
theorem fewTo_start (bs : List Nat) (m : Nat) : fewTo bs m 0 0 = [] := by simp [fewTo, numL]
theorem fewTo_bit (bs : List Nat) (m k i : Nat) (h : (fewTo bs m k i).length < m) : fewTo bs m k (i + 1) = fewTo bs m k i ++ [bs.getD k 0 / 2 ^ i % 2] := by
  unfold fewTo at h ⊢
  generalize ((bs.take k).flatMap fun b => numL b 8) = F at *
  rw [List.length_take] at h
  rw [numL_next, ← List.append_assoc, List.take_of_length_le (by simp only [List.length_append, List.length_cons, List.length_nil] at h ⊢; omega), List.take_of_length_le (by omega)]
theorem fewTo_full (bs : List Nat) (m k i j : Nat) (hij : i ≤ j) (h : ¬ (fewTo bs m k i).length < m) : fewTo bs m k j = fewTo bs m k i := by
  unfold fewTo at h ⊢
  generalize ((bs.take k).flatMap fun b => numL b 8) = F at *
  rw [List.length_take] at h
  have e : numL (bs.getD k 0) j = numL (bs.getD k 0) i ++ (numL (bs.getD k 0) j).drop i := by
    have h1 : numL (bs.getD k 0) i = (numL (bs.getD k 0) j).take i := by
      simp only [numL, ← List.map_take, List.take_range, Nat.min_eq_left hij]
    rw [h1, List.take_append_drop]
  rw [e, ← List.append_assoc, List.take_append_of_le_length (by omega)]
theorem fewTo_next (bs : List Nat) (m k : Nat) (hk : k < bs.length) : fewTo bs m k 8 = fewTo bs m (k + 1) 0 := by
  unfold fewTo
  rw [← List.take_append_getElem hk, List.flatMap_append]
  simp [numL, List.getD_eq_getElem?_getD, List.getElem?_eq_getElem hk]
theorem fewTo_end (bs : List Nat) (m : Nat) : fewTo bs m bs.length 0 = few bs m := by
  unfold fewTo few
  simp [numL]
theorem fewTo_le (bs : List Nat) (m k i : Nat) : (fewTo bs m k i).length ≤ 8 * k + i := by
  unfold fewTo
  rw [List.length_take, List.length_append, flat_len, numL_len, List.length_take]
  omega
/-- What Add makes of numbers. -/
def bit1 (x : Int) : Nat := if x = 0 then 0 else 1
theorem bit1_bin (z : List Int) : Bin (z.map bit1) := fun b hb => by
  simp only [List.mem_map] at hb
  obtain ⟨x, _, rfl⟩ := hb
  unfold bit1; split <;> decide
theorem bit1_ofN {l : List Nat} (h : Bin l) : (ofNB l).map bit1 = l := by
  induction l with
  | nil => rfl
  | cons b l ih =>
    have := h.head
    simp only [ofNB, List.map_cons, List.cons.injEq] at ih ⊢
    refine ⟨?_, ih h.tail⟩
    unfold bit1; split <;> omega
theorem put_one (l : List Nat) (x : Int) : put (val l) l.length (bit1 x) 1 = val (l ++ [bit1 x]) := by
  have h : Bin [bit1 x] := fun b hb => by
    simp only [List.mem_singleton] at hb
    subst hb; unfold bit1; split <;> decide
  have := put_val (l := l) h
  simpa [val] using this
end Go.Proofs.Ytoncollcefanjaa
namespace Go.Proofs.Ytoncollcefanjaa
open Go.RowKit
set_option linter.unusedVariables false

/-- The text of some bits. -/
def textOf (l : List Nat) : ByteArray := strOfNums (l.map fun (b : Nat) => ((48 + b : Nat) : Int))
/-- The bytes of n bits. -/
def bytesL (V n : Nat) : List Nat := (List.range ((n + 7) / 8)).map fun i => V / 2 ^ (8 * i) % 256
theorem bytesL_len (V n : Nat) : (bytesL V n).length = (n + 7) / 8 := by simp [bytesL]
theorem bytesL_lt (V n : Nat) : ∀ b ∈ bytesL V n, b < 256 := fun b hb => by
  simp only [bytesL, List.mem_map] at hb
  obtain ⟨i, _, rfl⟩ := hb
  exact Nat.mod_lt _ (by decide)
theorem byte_part {V n i : Nat} (h : V < 2 ^ n) (hi : 8 * i < n) : V / 2 ^ (8 * i) % 2 ^ (min 8 (n - 8 * i)) = V / 2 ^ (8 * i) % 256 := by
  by_cases h8 : 8 ≤ n - 8 * i
  · rw [Nat.min_eq_left h8]
  · rw [Nat.min_eq_right (by omega)]
    have h1 : V / 2 ^ (8 * i) < 2 ^ (n - 8 * i) := by
      rw [Nat.div_lt_iff_lt_mul (Nat.two_pow_pos _), ← Nat.pow_add, show n - 8 * i + 8 * i = n by omega]; exact h
    have h2 : (2 : Nat) ^ (n - 8 * i) ≤ 2 ^ 8 := Nat.pow_le_pow_right (by omega) (by omega)
    rw [Nat.mod_eq_of_lt h1, Nat.mod_eq_of_lt (Nat.lt_of_lt_of_le h1 h2)]
end Go.Proofs.Ytoncollcefanjaa
