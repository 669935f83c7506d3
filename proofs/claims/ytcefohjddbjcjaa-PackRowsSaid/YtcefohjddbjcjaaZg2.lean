/- Words for memory, of my own: a slice that reads as a list; a block known whole; what a call may have turned. The small calls of bits. append onto a slice of the call's own, the source a slice that reads as a list, nil or not. A region that draws its order, walked once: each operation yields one value in every world of a class. A vector of bits as it lies in memory. append: what the old row holds behind it. Num: bits put behind. -/
import Derived.Below
import Derived.Laws.OwnMore
import Derived.Maps.AppendAt
import Derived.Laws.AppendOwnNone
import Derived.Laws.MakeOwn
import Derived.Deep.Draws
import Derived.Laws.Rows
import Derived.OwnWalk
import Derived.Lib.Hide
import Derived.Test.YtcefohjddbjcjaaZg1
import Derived.Test.YtcefohjddbjcjaaProg
import Derived.WalkKit
import Derived.RegionTactic
import Derived.Deep.QuietTactic
import Derived.BigQuiet
import Derived.Deep.DeepMust
import Derived.Laws.BitsAllLaws
import Derived.Deep.AppendLies
import Derived.BigRegion
namespace Go.Proofs.Ytcefohjddbjcjaa
open Go.RowKit

/-- A slice's value with the address A and n elements of one cell each reads as xs, all of it below block B. -/
structure Rd (w : World) (B : Nat) (A : Option Addr) (n : Nat) (xs : List Value) : Prop where
  len : xs.length = n
  at_ : 0 < n → ∃ b o, A = some ⟨b, o, none⟩ ∧ b < B ∧ ∀ j (h : j < xs.length), w.cell? ⟨b, o + j, none⟩ = some xs[j]

/-- Block g is the cells cs of the element type t, none of them frozen. -/
def Blk (w : World) (g : Nat) (t : TypeId) (cs : Array Value) : Prop := w.heap[g]? = some (.cells cs t (0, 0))

/-- From w to w' nothing has turned but in blocks of S and in new ones. -/
structure Mod (S : Nat → Prop) (w w' : World) : Prop where
  os : w'.os = w.os
  tape : w'.tape = w.tape
  output : w'.output = w.output
  size : w.heap.size ≤ w'.heap.size
  block : ∀ k, k < w.heap.size → ¬ S k → w'.heap[k]? = w.heap[k]?

section
variable {w w' w1 w2 : World} {S S' : Nat → Prop}

theorem Mod.refl (S : Nat → Prop) (w : World) : Mod S w w := ⟨rfl, rfl, rfl, Nat.le_refl _, fun _ _ _ => rfl⟩
theorem Mod.trans (h : Mod S w w1) (k : Mod S' w1 w2) (hs : ∀ i, i < w.heap.size → S' i → S i) : Mod S w w2 :=
  ⟨k.os.trans h.os, k.tape.trans h.tape, k.output.trans h.output, Nat.le_trans h.size k.size,
    fun i hi hn => (k.block i (Nat.lt_of_lt_of_le hi h.size) (fun hs' => hn (hs i hi hs'))).trans (h.block i hi hn)⟩
theorem Mod.mono (h : Mod S w w') (hs : ∀ i, i < w.heap.size → S i → S' i) : Mod S' w w' :=
  ⟨h.os, h.tape, h.output, h.size, fun i hi hn => h.block i hi (fun k => hn (hs i hi k))⟩
theorem Mod.drewN (h : Mod S w w') (n : Nat) : Mod S w (w'.drewN n) := ⟨h.os, h.tape, h.output, h.size, h.block⟩
theorem Mod.drew (h : Mod S w w') : Mod S w w'.drew := ⟨h.os, h.tape, h.output, h.size, h.block⟩
theorem Mod.alloc (h : Mod S w w') (o : Obj) : Mod S w (w'.alloc o) :=
  ⟨h.os, h.tape, h.output, Nat.le_trans h.size (by simp), fun k hk hn => (Below.heap_alloc _ _ _ (Nat.lt_of_lt_of_le hk h.size)).trans (h.block k hk hn)⟩
theorem Mod.setCell (h : Mod S w w') {p : Addr} (hp : p.block < w.heap.size → S p.block) (u : Value) : Mod S w (w'.setCell p u) :=
  ⟨h.os, h.tape, h.output, by simpa [World.setCell] using h.size, fun k hk hn =>
    (Below.heap_setCell _ _ _ _ (fun e => hn (by subst e; exact hp hk))).trans (h.block k hk hn)⟩
theorem Mod.ofGrown {row : Option Nat} (h : w.grownBy w' row) : Mod (fun k => some k = row) w w' :=
  ⟨h.os, h.tape, h.output, h.size, fun k hk hn => h.block k hk hn⟩
theorem Mod.ofBelow {B : Nat} (h : Below B w w') : Mod (B ≤ ·) w w' :=
  ⟨h.os, h.tape, h.output, h.size, fun k _ hn => h.block k (Nat.lt_of_not_le hn)⟩
theorem Mod.below (h : Mod S w w') (hs : ∀ i, i < w.heap.size → ¬ S i) : Below w.heap.size w w' :=
  ⟨h.os, h.tape, h.output, h.size, fun k hk => h.block k hk (hs k hk)⟩
theorem Mod.belowB {B : Nat} (h : Mod S w w') (hB : B ≤ w.heap.size) (hs : ∀ i, i < B → ¬ S i) : Below B w w' :=
  ⟨h.os, h.tape, h.output, h.size, fun k hk => h.block k (Nat.lt_of_lt_of_le hk hB) (hs k hk)⟩
theorem Mod.none_ (h : Below w.heap.size w w') (S : Nat → Prop) : Mod S w w' :=
  ⟨h.os, h.tape, h.output, h.size, fun k hk _ => h.block k hk⟩

theorem Blk.lt {g : Nat} {t : TypeId} {cs : Array Value} (h : Blk w g t cs) : g < w.heap.size := by
  rcases Nat.lt_or_ge g w.heap.size with hlt | hge
  · exact hlt
  · unfold Blk at h; rw [Array.getElem?_eq_none hge] at h; cases h
theorem Blk.cell {g : Nat} {t : TypeId} {cs : Array Value} (h : Blk w g t cs) (i : Nat) : w.cell? ⟨g, i, none⟩ = cs[i]? := cell_of_row w g i cs t (0, 0) h
theorem Blk.frozen {g : Nat} {t : TypeId} {cs : Array Value} (h : Blk w g t cs) (i : Nat) : w.frozen? ⟨g, i, none⟩ = false := by
  unfold Blk at h
  simp [World.frozen?, h]
theorem Blk.new (w : World) (t : TypeId) (cs : Array Value) : Blk (w.alloc (.cells cs t)) w.heap.size t cs := heap_alloc_new w _
theorem Blk.alloc {g : Nat} {t : TypeId} {cs : Array Value} (h : Blk w g t cs) (o : Obj) : Blk (w.alloc o) g t cs := (Below.heap_alloc w o g h.lt).trans h
theorem Blk.drewN {g : Nat} {t : TypeId} {cs : Array Value} (h : Blk w g t cs) (n : Nat) : Blk (w.drewN n) g t cs := h
theorem Blk.set_ {g : Nat} {t : TypeId} {cs : Array Value} (h : Blk w g t cs) (i : Nat) (u : Value) : Blk (w.setCell ⟨g, i, none⟩ u) g t (cs.setIfInBounds i u) := by
  unfold Blk at h ⊢
  simp [World.setCell, Array.getElem?_modify, h]
theorem Blk.mod {g : Nat} {t : TypeId} {cs : Array Value} (h : Blk w g t cs) (m : Mod S w w') (hg : ¬ S g) : Blk w' g t cs := (m.block g h.lt hg).trans h

theorem Mod.cell (m : Mod S w w') {b : Nat} (hb : b < w.heap.size) (hn : ¬ S b) (o : Nat) : w'.cell? ⟨b, o, none⟩ = w.cell? ⟨b, o, none⟩ :=
  World.cell?_of_block (w := w) (m.block b hb hn)
theorem Mod.frozen (m : Mod S w w') {b : Nat} (hb : b < w.heap.size) (hn : ¬ S b) (o : Nat) : w'.frozen? ⟨b, o, none⟩ = w.frozen? ⟨b, o, none⟩ :=
  World.frozen?_of_block (w := w) (m.block b hb hn)

/-- Where the block lies that a slice leads to. -/
def inBlk (A : Option Addr) (k : Nat) : Prop := ∃ a : Addr, A = some a ∧ a.block = k

theorem Rd.mod {B n : Nat} {A : Option Addr} {xs : List Value} (h : Rd w B A n xs) (m : Mod S w w') (hB : B ≤ w.heap.size) (hn : 0 < n → ∀ k, inBlk A k → ¬ S k) : Rd w' B A n xs :=
  ⟨h.len, fun h0 => by
    obtain ⟨b, o, e, hb, hc⟩ := h.at_ h0
    exact ⟨b, o, e, hb, fun j hj => (m.cell (by omega) (hn h0 b ⟨_, e, rfl⟩) (o + j)).trans (hc j hj)⟩⟩
theorem Rd.below {B n : Nat} {A : Option Addr} {xs : List Value} (h : Rd w B A n xs) (m : Below B w w') : Rd w' B A n xs :=
  ⟨h.len, fun h0 => by
    obtain ⟨b, o, e, hb, hc⟩ := h.at_ h0
    exact ⟨b, o, e, hb, fun j hj => (m.cell (p := ⟨b, o + j, none⟩) hb).trans (hc j hj)⟩⟩
theorem Rd.up {B B' n : Nat} {A : Option Addr} {xs : List Value} (h : Rd w B A n xs) (hB : B ≤ B') : Rd w B' A n xs :=
  ⟨h.len, fun h0 => by
    obtain ⟨b, o, e, hb, hc⟩ := h.at_ h0
    exact ⟨b, o, e, by omega, hc⟩⟩
theorem Rd.nil (w : World) (B : Nat) (A : Option Addr) : Rd w B A 0 [] := ⟨rfl, fun h => absurd h (by omega)⟩
theorem Rd.ofOwn {base : Nat} {e : TypeId} {A : Option Addr} {n c : Nat} {xs : List Value} (h : w.ownsRow base e 1 (.slice A n c) n xs) : Rd w w.heap.size A n xs := by
  refine ⟨by simpa using h.1, fun hn => ?_⟩
  rcases h.2 with ⟨_, h0⟩ | ⟨g, cap, cur, hv, hb, hg, hle, hcm, hcs, ht⟩
  · omega
  · simp only [Value.slice.injEq, true_and] at hv
    obtain ⟨rfl, rfl⟩ := hv
    refine ⟨g, 0, rfl, (Array.getElem?_eq_some_iff.1 hg).1, fun j hj => ?_⟩
    have := h.cellAt j (by have := h.1; omega)
    rw [Nat.zero_add, this, List.getElem?_eq_getElem hj]

/-- A cut of a slice reads as the cut of its list. -/
theorem Rd.take {B n : Nat} {A : Option Addr} {xs : List Value} (h : Rd w B A n xs) (k : Nat) (hk : k ≤ n) : Rd w B A k (xs.take k) :=
  ⟨by rw [List.length_take, h.len]; omega, fun h0 => by
    obtain ⟨b, o, e, hb, hc⟩ := h.at_ (by omega)
    refine ⟨b, o, e, hb, fun j hj => ?_⟩
    rw [List.getElem_take]
    exact hc j _⟩
theorem Rd.cells {B n : Nat} {A : Option Addr} {xs : List Value} (h : Rd w B A n xs) {ad : Addr} (hA : A = some ad) : ∀ j u, xs[j]? = some u → w.cell? (ad.add j) = some u := by
  intro j u hu
  obtain ⟨hj, rfl⟩ := List.getElem?_eq_some_iff.1 hu
  obtain ⟨b, o, e, hb, hc⟩ := h.at_ (by have := h.len; omega)
  obtain rfl := Option.some.inj (hA.symm.trans e)
  have := hc j hj
  unfold Addr.add
  split
  · have : j = 0 := by simpa using ‹_›
    subst this
    simpa using hc 0 hj
  · exact this
theorem Rd.new (w : World) (t : TypeId) (cs : Array Value) (n : Nat) (xs : List Value) (h : cs.toList = xs) (hn : cs.size = n) : Rd (w.alloc (.cells cs t)) (w.heap.size + 1) (some ⟨w.heap.size, 0, none⟩) n xs := by
  subst h; subst hn
  refine ⟨by simp, fun _ => ⟨_, _, rfl, by omega, fun j hj => ?_⟩⟩
  rw [(Blk.new w t cs).cell, Nat.zero_add]
  simp at hj ⊢
theorem Rd.alloc {B n : Nat} {A : Option Addr} {xs : List Value} (h : Rd w B A n xs) (o : Obj) : Rd (w.alloc o) B A n xs :=
  ⟨h.len, fun h0 => by
    obtain ⟨b, o', e, hb, hc⟩ := h.at_ h0
    exact ⟨b, o', e, hb, fun j hj => (World.cell?_alloc_lt _ _ _ (World.block_lt_of_cell? _ _ (hc j hj))).trans (hc j hj)⟩⟩
theorem Rd.drewN {B n : Nat} {A : Option Addr} {xs : List Value} (h : Rd w B A n xs) (k : Nat) : Rd (w.drewN k) B A n xs := ⟨h.len, h.at_⟩
theorem below_draws {B : Nat} (h : Below B w w') (n : Nat) : Below B w (w'.drewN n) := ⟨h.os, h.tape, h.output, h.size, h.block⟩
theorem own_some {base : Nat} {e : TypeId} {A : Option Addr} {n m c : Nat} {xs : List Value} (h : w.ownsRow base e 1 (.slice A m c) n xs) (hn : 0 < n) : ∃ g, A = some ⟨g, 0, none⟩ ∧ base ≤ g ∧ g < w.heap.size := by
  rcases h.2 with ⟨_, h0⟩ | ⟨g, cap, cur, hv, hb, hg, _⟩
  · omega
  · simp only [Value.slice.injEq] at hv
    exact ⟨g, hv.1, hb, (Array.getElem?_eq_some_iff.1 hg).1⟩
theorem Rd.drop {B n : Nat} {b o : Nat} {xs : List Value} (h : Rd w B (some ⟨b, o, none⟩) n xs) (k : Nat) : Rd w B (some ⟨b, o + k, none⟩) (n - k) (xs.drop k) :=
  ⟨by rw [List.length_drop, h.len], fun h0 => by
    obtain ⟨b', o', e, hb, hc⟩ := h.at_ (by omega)
    simp only [Option.some.injEq, Addr.mk.injEq, and_true] at e
    obtain ⟨rfl, rfl⟩ := e
    refine ⟨_, _, rfl, hb, fun j hj => ?_⟩
    rw [List.getElem_drop, Nat.add_assoc]
    exact hc (k + j) _⟩
theorem Rd.none_ {B n : Nat} {xs : List Value} (h : Rd w B none n xs) : n = 0 := by
  rcases Nat.eq_zero_or_pos n with h' | h'
  · exact h'
  · obtain ⟨b, o, e, _⟩ := h.at_ h'
    cases e
theorem Rd.lt {B n : Nat} {A : Option Addr} {xs : List Value} (h : Rd w B A n xs) : Rd w w.heap.size A n xs :=
  ⟨h.len, fun h0 => by
    obtain ⟨b, o', e, hb, hc⟩ := h.at_ h0
    exact ⟨b, o', e, World.block_lt_of_cell? _ _ (hc 0 (by have := h.len; omega)), hc⟩⟩
end

theorem _root_.Go.World.ownsRow.base_le' {w : World} {base base' : Nat} {e : TypeId} {size : Nat} {v : Value} {n : Nat} {xs : List Value} (h : w.ownsRow base e size v n xs) (hb : base' ≤ base) : w.ownsRow base' e size v n xs := by
  refine ⟨h.1, ?_⟩
  rcases h.2 with h' | ⟨g, cap, cur, rfl, hg, rest⟩
  · exact .inl h'
  · exact .inr ⟨g, cap, cur, rfl, by omega, rest⟩
theorem own_mod {w w' : World} {S : Nat → Prop} {base : Nat} {e : TypeId} {size n : Nat} {v : Value} {xs : List Value} (h : w.ownsRow base e size v n xs) (m : Mod S w w') (hn : ∀ k, v.ownBlock = some k → ¬ S k) : w'.ownsRow base e size v n xs := by
  refine ⟨h.1, ?_⟩
  rcases h.2 with h' | ⟨g, cap, cur, rfl, hb, hg, rest⟩
  · exact .inl h'
  · exact .inr ⟨g, cap, cur, rfl, hb, (m.block g (Array.getElem?_eq_some_iff.1 hg).1 (hn g rfl)).trans hg, rest⟩
theorem own_below {w w' : World} {base : Nat} {e : TypeId} {size n : Nat} {v : Value} {xs : List Value} (h : w.ownsRow base e size v n xs) (m : Below w.heap.size w w') : w'.ownsRow base e size v n xs :=
  own_mod h (Mod.none_ m (fun _ => False)) (fun _ _ => id)
theorem own_ne {w : World} {base : Nat} {e t : TypeId} {size n g : Nat} {v : Value} {xs : List Value} {cs : Array Value} (h : w.ownsRow base e size v n xs) (hb : Blk w g t cs) (hne : e ≠ t) : v.ownBlock ≠ some g := by
  intro hv
  rcases h.2 with ⟨rfl, _⟩ | ⟨g', cap, cur, rfl, _, hg, _⟩
  · simp [Value.ownBlock] at hv
  · simp [Value.ownBlock] at hv
    subst hv
    unfold Blk at hb
    rw [hg] at hb
    simp at hb
    exact hne hb.2
theorem Blk.below {w w' : World} {g : Nat} {t : TypeId} {cs : Array Value} (h : Blk w g t cs) (m : Below w.heap.size w w') : Blk w' g t cs := (m.block g h.lt).trans h

/-- make of n elements of one cell. -/
theorem run_make_one {P : Program} (t e : TypeId) (i : TypeInfo) (z : Value) (bytes : Nat) (ht : P.underlying t = some (.slice e)) (hi : P.info? e = some i) (hz : i.zero = some z) (hsize : i.size = 1) (hby : i.bytes = bytes) (hzs : z.cells = #[z])
    (kl kc : IntKind) (n : Nat) (hb : bytes * n ≤ 281474976710656) (hn : n ≤ 9223372036854775807) (w : World) :
    (Instr.makeSlice t (.int kl (n : Int)) (.int kc (n : Int))).run P w = .ok (.slice (some ⟨w.heap.size, 0, none⟩) n n) (w.alloc (.cells (List.replicate n z).toArray e)) := by
  subst hby
  have hb' : (i.bytes : Int) * (n : Int) ≤ 281474976710656 := by
    have h : ((i.bytes * n : Nat) : Int) ≤ 281474976710656 := by omega
    rwa [Int.natCast_mul] at h
  have hr := run_make (P := P) w t e i z ht hi hz kl kc n n (by omega) (Int.le_refl _) hb' (by omega)
  simp only [Int.toNat_natCast, hsize, Nat.mul_one, hzs] at hr
  rw [hr]
  congr 3
  apply Array.toList_inj.1
  rw [toList_madeCells_one]
end Go.Proofs.Ytcefohjddbjcjaa
namespace Go.Proofs.Ytcefohjddbjcjaa
open Go.RowKit
set_option linter.unusedVariables false

/-- As a count of a number's bits. -/
def cnt64 (k : Int) : Nat := if k ≤ 0 then 0 else if 64 ≤ k then 64 else k.toNat
theorem count_p (k : Int) (w : World) (h : -9223372036854775808 ≤ k ∧ k ≤ 9223372036854775807) :
    Calls Try.prog 43 #[.int .i64 k] w fun e w' => e = .returned (.int .i64 (cnt64 k : Int)) ∧ w = w' := by
  obtain ⟨m, hm, hm0⟩ : ∃ m : Int, (∀ w, (Builtin.max_ #[3, 3] 3 #[.int .i64 k, .int .i64 0]).run Try.prog w = .ok (.int .i64 m) w) ∧ m = (if k ≤ 0 then 0 else k) :=
    ⟨if k ≤ 0 then 0 else k, fun w => by simp [Builtin.max_, Builtin.max2]; split <;> split <;> omega, rfl⟩
  have hmn : ∀ w, (Builtin.min_ #[3, 3] 3 #[.int .i64 m, .int .i64 64]).run Try.prog w = .ok (.int .i64 ((cnt64 k : Nat) : Int)) w := fun w => by
    simp [Builtin.min_, Builtin.min2, cnt64]
    repeat' split
    all_goals (first | rfl | omega | (subst hm0; repeat' split at * <;> omega) | (simp_all; omega))
  generalize cnt64 k = c at *
  clear hm0
  go_enter Try.func43, Try.ntmps43
  go_wp2
  go_ret
  exact ⟨rfl, rfl⟩
theorem low_eq : ∀ k : Nat, k < 65 → (18446744073709551615 : Int) / 2 ^ (64 - k) = ((2 ^ k - 1 : Nat) : Int) := by decide +kernel
theorem low_p (k : Nat) (w : World) (h : k ≤ 64) :
    Calls Try.prog 40 #[.int .i64 (k : Int)] w fun e w' => e = .returned (.int .u64 ((2 ^ k - 1 : Nat) : Int)) ∧ w = w' := by
  go_enter Try.func40, Try.ntmps40
  go_wp2
  go_ret
  exact ⟨congrArg (fun x => Ending.returned (.int .u64 x)) (low_eq k (by omega)), rfl⟩
end Go.Proofs.Ytcefohjddbjcjaa
namespace Go.Proofs.Ytcefohjddbjcjaa
open Go.RowKit
theorem own_form {w : World} {base : Nat} {e : TypeId} {size n : Nat} {v : Value} {xs : List Value} (h : w.ownsRow base e size v n xs) : ∃ A c, v = .slice A n c ∧ n ≤ c ∧ c ≤ maxLen := by
  rcases h.2 with ⟨rfl, rfl⟩ | ⟨g, cap, cur, rfl, _, _, h1, h2, _⟩
  · exact ⟨none, 0, rfl, Nat.le_refl _, Nat.zero_le _⟩
  · exact ⟨_, _, rfl, h1, h2⟩

section
variable {P : Program} (w : World)

theorem run_append_none (base : Nat) (t ty e : TypeId) (i : TypeInfo) (size : Nat) (ht : P.underlying t = some (.slice e)) (hi : P.info? e = some i)
    (v : Value) (n : Nat) (xs : List Value) (hown : w.ownsRow base e size v n xs) (c : Nat) :
    (Builtin.append_ #[t, t] ty #[v, .slice none 0 c]).run P w = .ok v w := by
  rcases hown.2 with ⟨rfl, rfl⟩ | ⟨g, cap, cur, rfl, _, _, hnc, _⟩
  · simp [Builtin.append_, run_underlying ht, sizeOf, typeInfo, hi, Builtin.lenOf, Builtin.firstCells]
  · simp [Builtin.append_, run_underlying ht, sizeOf, typeInfo, hi, Builtin.lenOf, Builtin.firstCells, hnc, storeCells]

theorem run_append_rd (base : Nat) (t ty e : TypeId) (i : TypeInfo) (z : Value) (bytes : Nat) (ht : P.underlying t = some (.slice e)) (hi : P.info? e = some i) (hz : i.zero = some z)
    (hsize : i.size = 1) (hby : i.bytes = bytes) (hzs : z.cells.size = 1)
    (v : Value) (n : Nat) (xs : List Value) (hown : w.ownsRow base e 1 v n xs)
    (B : Nat) (A : Option Addr) (m c : Nat) (news : List Value) (hr : Rd w B A m news) (h1 : ∀ u ∈ news, u.oneCell' = true)
    (h63 : n + m ≤ maxLen) (hbytes : (n + m) * bytes ≤ 140737488355328) (hbase : base ≤ w.heap.size) :
    ∃ v' w', (Builtin.append_ #[t, t] ty #[v, .slice A m c]).run P w = .ok v' w' ∧ w'.ownsRow base e 1 v' (n + m) (xs ++ news) ∧ w.grownBy w' v.ownBlock ∧
      (v'.ownBlock = v.ownBlock ∨ v'.ownBlock = some w.heap.size) := by
  cases A with
  | none =>
    obtain rfl : m = 0 := by
      rcases Nat.eq_zero_or_pos m with h | h
      · exact h
      · obtain ⟨b, o, e, _⟩ := hr.at_ h
        cases e
    obtain rfl : news = [] := List.eq_nil_of_length_eq_zero hr.len
    exact ⟨v, w, run_append_none w base t ty e i 1 ht hi v n xs hown c, by simpa using hown, ⟨rfl, rfl, rfl, Nat.le_refl _, fun _ _ _ => rfl⟩, .inl rfl⟩
  | some ad =>
    obtain ⟨v', w', hrun, h2, h3, _, h5⟩ := run_append_own_at (P := P) w base t ty e i z 1 bytes ht hi hz hsize hby hzs (by omega) v n xs hown ad m c news (by simpa using hr.len) (hr.cells rfl) h1 h63 hbytes hbase
    exact ⟨v', w', hrun, h2, h3, h5⟩

theorem wp_append_rd {o : Oper} {a : Act} {K : Act → World → Prop} {Q : Exit → Act → World → Prop} (s x : Operand) (t : TypeId)
    (ho : o.op = .call { callee := .builtin .append, args := #[s, x], argTypes := #[t, t] })
    (base : Nat) (e : TypeId) (i : TypeInfo) (z : Value) (bytes : Nat) (ht : P.underlying t = some (.slice e)) (hi : P.info? e = some i) (hz : i.zero = some z)
    (hsize : i.size = 1) (hby : i.bytes = bytes) (hzs : z.cells.size = 1)
    (v : Value) (n : Nat) (xs : List Value) (hs : a.eval s = v) (hown : w.ownsRow base e 1 v n xs)
    (B : Nat) (A : Option Addr) (m c : Nat) (news : List Value) (hx : a.eval x = .slice A m c) (hr : Rd w B A m news) (h1 : ∀ u ∈ news, u.oneCell' = true)
    (h63 : n + m ≤ maxLen) (hbytes : (n + m) * bytes ≤ 140737488355328) (hbase : base ≤ w.heap.size)
    (h : ∀ A' c' w', n + m ≤ c' → c' ≤ maxLen → w'.ownsRow base e 1 (.slice A' (n + m) c') (n + m) (xs ++ news) → w.grownBy w' v.ownBlock →
      ((Value.slice A' (n + m) c').ownBlock = v.ownBlock ∨ (Value.slice A' (n + m) c').ownBlock = some w.heap.size) → K (a.put o.dst (.slice A' (n + m) c')) w') : o.wp P a w K Q := by
  obtain ⟨v', w', hrun, h2, h3, h4⟩ := run_append_rd (P := P) w base t o.type e i z bytes ht hi hz hsize hby hzs v n xs hown B A m c news hr h1 h63 hbytes hbase
  unfold Oper.wp execOp
  simp only [ho, resolve, invoke, builtin, Sem.run_bind, Sem.run_pure, Result.andThen_ok, List.map_toArray, List.map_cons, List.map_nil, hs, hx, hrun]
  obtain ⟨A', c', rfl, h5, h6⟩ := own_form h2
  exact h A' c' w' h5 h6 h2 h3 h4

theorem wpList_wanted {w : World} {ops : Array Oper} {rest : List Oper} {o : Oper} {a : Act} {Q : Exit → Act → World → Prop} (hw : Region.wanted o (yielded ops a.tmps) = true)
    (h : ∀ K : Act → World → Prop, (∀ a w, wpList P ops Q rest a w → K a w) → o.wp P a w K Q) : wpList P ops Q (o :: rest) a w :=
  wpList_step fun K hK => by simp only [hw, if_true]; exact h K hK

theorem wpList_append_rd {ops : Array Oper} {rest : List Oper} {o : Oper} {a : Act} {Q : Exit → Act → World → Prop} (hgd : Region.wanted o (yielded ops a.tmps) = true) (s x : Operand) (t : TypeId)
    (ho : o.op = .call { callee := .builtin .append, args := #[s, x], argTypes := #[t, t] })
    (base : Nat) (e : TypeId) (i : TypeInfo) (z : Value) (bytes : Nat) (ht : P.underlying t = some (.slice e)) (hi : P.info? e = some i) (hz : i.zero = some z)
    (hsize : i.size = 1) (hby : i.bytes = bytes) (hzs : z.cells.size = 1)
    (v : Value) (n : Nat) (xs : List Value) (hs : a.eval s = v) (hown : w.ownsRow base e 1 v n xs)
    (B : Nat) (A : Option Addr) (m c : Nat) (news : List Value) (hx : a.eval x = .slice A m c) (hr : Rd w B A m news) (h1 : ∀ u ∈ news, u.oneCell' = true)
    (h63 : n + m ≤ maxLen) (hbytes : (n + m) * bytes ≤ 140737488355328) (hbase : base ≤ w.heap.size)
    (h : ∀ A' c' w', n + m ≤ c' → c' ≤ maxLen → w'.ownsRow base e 1 (.slice A' (n + m) c') (n + m) (xs ++ news) → w.grownBy w' v.ownBlock →
      ((Value.slice A' (n + m) c').ownBlock = v.ownBlock ∨ (Value.slice A' (n + m) c').ownBlock = some w.heap.size) → wpList P ops Q rest (a.put o.dst (.slice A' (n + m) c')) w') : wpList P ops Q (o :: rest) a w :=
  wpList_wanted hgd fun _ hK => wp_append_rd w s x t ho base e i z bytes ht hi hz hsize hby hzs v n xs hs hown B A m c news hx hr h1 h63 hbytes hbase fun A' c' w' h2 h3 h4 h5 h6 => hK _ _ (h A' c' w' h2 h3 h4 h5 h6)
end

/-- What an append leaves of what lies below the call's own blocks. -/
theorem Mod.appended {w w' : World} {base : Nat} {e : TypeId} {v : Value} {n : Nat} {xs : List Value} (hown : w.ownsRow base e 1 v n xs) (hg : w.grownBy w' v.ownBlock) : Mod (fun k => base ≤ k) w w' :=
  (Mod.ofGrown hg).mono fun i _ h => (hown.lt i h.symm).1
theorem Below.appended {w w' : World} {base : Nat} {e : TypeId} {v : Value} {n : Nat} {xs : List Value} (hown : w.ownsRow base e 1 v n xs) (hg : w.grownBy w' v.ownBlock) (hb : base ≤ w.heap.size) : Below base w w' :=
  (Below.refl _ _).grown hg hb (fun k hk => (hown.lt k hk).1)
end Go.Proofs.Ytcefohjddbjcjaa
namespace Go.Proofs.Ytcefohjddbjcjaa
open Go.RowKit

theorem region_class {P : Program} {id : Nat} {Q : Exit → Act → World → Prop} {a : Act} {w : World} {l : List Oper} (C : World → Prop) (hm : P.follows .mixedOrders = true) (hB : Region.lexB .any l.toArray = true)
    (hC : C w.drew) (h : wpQuiet P l.toArray C (fun a' => ∀ w', C w' → Q .normal a' w') l a) : (Code.region id l.toArray true).wp P Q a w :=
  wp_region_quiet (C := C) hm hB hC (by simpa using h)
end Go.Proofs.Ytcefohjddbjcjaa
namespace Go.Proofs.Ytcefohjddbjcjaa
open Go.RowKit
set_option linter.unusedVariables false

def U64 (z : List Nat) : List Value := z.map fun (x : Nat) => Value.int .u64 (x : Int)
theorem U64_len (z : List Nat) : (U64 z).length = z.length := by simp [U64]
theorem U64_append (l m : List Nat) : U64 (l ++ m) = U64 l ++ U64 m := by simp [U64]
theorem U64_set (y : List Nat) (k v : Nat) : U64 (y.set k v) = (U64 y).set k (.int .u64 (v : Int)) := by simp [U64, List.map_set]
theorem U64_get (z : List Nat) (k : Nat) (hk : k < z.length) : (U64 z)[k]? = some (.int .u64 ((z.getD k 0 : Nat) : Int)) := by
  simp [U64, List.getD_eq_getElem?_getD, List.getElem?_eq_getElem hk]
/-- The words of n bits. -/
def words (V m : Nat) : List Nat := (List.range m).map (wd V)
theorem words_len (V m : Nat) : (words V m).length = m := by simp [words]
theorem words_get (V m i : Nat) (h : i < m) : (words V m).getD i 0 = wd V i := by simp [words, List.getD_eq_getElem?_getD, h]
theorem words_next (V m : Nat) : words V (m + 1) = words V m ++ [wd V m] := by simp [words, List.range_succ]
/-- At g lies the vector whose n bits are V; its words lie in a row of its own. -/
def VecB (w : World) (B g V n : Nat) (A : Option Addr) : Prop :=
  V < 2 ^ n ∧ n ≤ 1000000 ∧ ∃ c, Blk w g 64 #[.slice A ((n + 63) / 64) c, .int .i64 (n : Int)] ∧
    w.ownsRow B 22 1 (.slice A ((n + 63) / 64) c) ((n + 63) / 64) (U64 (words V ((n + 63) / 64)))
/-- The same, where the row was made behind the vector. -/
def VecAt (w : World) (g V n : Nat) (A : Option Addr) : Prop := VecB w (g + 1) g V n A
theorem VecB.below {w w' : World} {B g V n : Nat} {A : Option Addr} (h : VecB w B g V n A) (m : Below w.heap.size w w') : VecB w' B g V n A := by
  obtain ⟨h1, h2, c, h3, h4⟩ := h
  exact ⟨h1, h2, c, h3.below m, own_below h4 m⟩
theorem VecB.base {w : World} {B B' g V n : Nat} {A : Option Addr} (h : VecB w B g V n A) (hB : B' ≤ B) : VecB w B' g V n A := by
  obtain ⟨h1, h2, c, h3, h4⟩ := h
  exact ⟨h1, h2, c, h3, h4.base_le' hB⟩
/-- The blocks of a vector. -/
def foot (g : Nat) (A : Option Addr) (i : Nat) : Prop := i = g ∨ ∃ b, A = some ⟨b, 0, none⟩ ∧ i = b
theorem VecB.foot_lt {w : World} {B g V n : Nat} {A : Option Addr} (h : VecB w B g V n A) {i : Nat} (hi : foot g A i) : i < w.heap.size := by
  obtain ⟨h1, h2, c, h3, h4⟩ := h
  rcases hi with rfl | ⟨b, rfl, rfl⟩
  · exact h3.lt
  · exact (h4.lt _ rfl).2
theorem VecB.foot_le {w : World} {B g V n : Nat} {A : Option Addr} (h : VecB w B g V n A) {i : Nat} (hi : foot g A i) : i = g ∨ B ≤ i := by
  obtain ⟨h1, h2, c, h3, h4⟩ := h
  rcases hi with rfl | ⟨b, rfl, rfl⟩
  · exact .inl rfl
  · exact .inr (h4.lt _ rfl).1
theorem VecB.mod {w w' : World} {S : Nat → Prop} {B g V n : Nat} {A : Option Addr} (h : VecB w B g V n A) (m : Mod S w w') (hs : ∀ i, foot g A i → ¬ S i) : VecB w' B g V n A := by
  obtain ⟨h1, h2, c, h3, h4⟩ := h
  refine ⟨h1, h2, c, h3.mod m (hs g (.inl rfl)), own_mod h4 m fun k hk => hs k (.inr ?_)⟩
  rcases h4.2 with ⟨e, _⟩ | ⟨b, cap, cur, e, _⟩
  · simp only [Value.slice.injEq] at e
    rw [e.1] at hk; simp [Value.ownBlock] at hk
  · simp only [Value.slice.injEq] at e
    rw [e.1] at hk ⊢
    simp [Value.ownBlock] at hk
    exact ⟨b, rfl, hk.symm⟩
theorem VecAt.below {w w' : World} {g V n : Nat} {A : Option Addr} (h : VecAt w g V n A) (m : Below w.heap.size w w') : VecAt w' g V n A := VecB.below h m
theorem bnew_p (w : World) :
    Calls Try.prog 23 #[] w fun e w' => e = .returned (.pointer (some ⟨w.heap.size, 0, none⟩)) ∧ VecAt w' w.heap.size 0 0 none ∧ Below w.heap.size w w' := by
  go_enter Try.func23, Try.ntmps23
  go_wp2
  go_ret
  refine ⟨rfl, ⟨by decide, by omega, 0, ?_, ?_⟩, (Below.refl _ _).alloc (Nat.le_refl _) _⟩
  · exact Blk.new w _ _
  · simpa [words, U64] using World.ownsRow_nil _ _ _ _
theorem blen_p (g V n : Nat) (A : Option Addr) (w : World) {B : Nat} (h : VecB w B g V n A) :
    Calls Try.prog 21 #[.pointer (some ⟨g, 0, none⟩)] w fun e w' => e = .returned (.int .i64 (n : Int)) ∧ w = w' := by
  obtain ⟨h1, h2, c, hb, ho⟩ := h
  have c1 : w.cell? ⟨g, 1, none⟩ = some (.int .i64 (n : Int)) := hb.cell 1
  clear hb ho
  go_enter Try.func21, Try.ntmps21
  go_wp2
  go_ret
  exact ⟨rfl, rfl⟩
theorem blen_nil (w : World) :
    Calls Try.prog 21 #[.pointer none] w fun e w' => e = .returned (.int .i64 0) ∧ w = w' := by
  go_enter Try.func21, Try.ntmps21
  go_wp2
  go_ret
  exact ⟨rfl, rfl⟩
theorem wrap_u64 (y s : Nat) : IntKind.u64.wrap ((y : Int) * 2 ^ s) = ((y * 2 ^ s % 2 ^ 64 : Nat) : Int) := by
  simp [IntKind.wrap, IntKind.signed, IntKind.bits]
/-- The k bits from the place p on. -/
theorem get_p (g V n p k : Nat) (A : Option Addr) (w : World) {B : Nat} (h : VecB w B g V n A) (hk0 : 1 ≤ k) (hk : k ≤ 64) (hp : p + k ≤ n) :
    Calls Try.prog 34 #[.pointer (some ⟨g, 0, none⟩), .int .i64 (p : Int), .int .i64 (k : Int)] w fun e w' => e = .returned (.int .u64 ((V / 2 ^ p % 2 ^ k : Nat) : Int)) ∧ w = w' := by
  obtain ⟨h1, h2, c, hb, ho⟩ := h
  have c0 : w.cell? ⟨g, 0, none⟩ = some (.slice A ((n + 63) / 64) c) := hb.cell 0
  obtain ⟨m, hm⟩ : ∃ m, m = (n + 63) / 64 := ⟨_, rfl⟩
  rw [← hm] at c0 ho
  obtain ⟨b, rfl, hb1, hb2⟩ := own_some ho (by omega)
  have cell : ∀ i, i < m → w.cell? ⟨b, i, none⟩ = some (.int .u64 ((wd V i : Nat) : Int)) := fun i hi => by
    have r := Rd.ofOwn ho
    obtain ⟨b', o', e, _, hc⟩ := r.at_ (by omega)
    have hl : i < (U64 (words V m)).length := by rw [U64_len, words_len]; exact hi
    have := hc i hl
    cases e
    rw [Nat.zero_add] at this
    rw [this]
    have h3 := U64_get (words V m) i (by rw [words_len]; exact hi)
    rw [words_get _ _ _ hi, List.getElem?_eq_getElem hl] at h3
    exact h3
  obtain ⟨i, hi⟩ : ∃ i, i = p / 64 := ⟨_, rfl⟩
  obtain ⟨s, hs⟩ : ∃ s, s = p % 64 := ⟨_, rfl⟩
  have hs64 : s < 64 := by omega
  have him : i < m := by omega
  have ci := cell i him
  have q1 : (p : Int) / 64 = (i : Int) := by omega
  have q2 : (p : Int) % 64 = (s : Int) := by omega
  have hpi : p = 64 * i + s := by omega
  have LOW := Lib.hid (low_p k w hk)
  by_cases hsk : s + k ≤ 64
  · have G := get_one V i s k hsk
    rw [← hpi] at G
    rw [← G]
    clear G hm hi hs cell hb ho h1
    have hp0 : p ≤ 1000000 := by omega
    have hi0 : i ≤ 1000000 := by omega
    clear hpi hp
    have HX : Hid (wd V i < 2 ^ 64) := wd_lt V i
    generalize wd V i = x at *
    have HSK : ((s : Int) + (k : Int) ≤ 64) := by omega
    clear hsk
    go_enter Try.func34, Try.ntmps34
    go_wp2_with fail
    refine LOW.out.mono ?_
    rintro e w1 ⟨rfl, rfl⟩
    go_wp2
    go_ret
    refine ⟨congrArg (fun z => Ending.returned (.int .u64 z)) ?_, rfl⟩
    have e : ((x : Int) / 2 ^ s) = ((x / 2 ^ s : Nat) : Int) := by simp
    rw [e, u64_and_nat _ _ (Nat.lt_of_le_of_lt (Nat.div_le_self _ _) HX.out) (Nat.lt_of_lt_of_le (Nat.sub_lt (Nat.two_pow_pos k) Nat.one_pos) (Nat.pow_le_pow_right (by omega) hk)), Nat.and_two_pow_sub_one_eq_mod]
  · have hs0 : 0 < s := by omega
    have him2 : i + 1 < m := by omega
    have cj := cell (i + 1) him2
    have G := get_two V i s k hs64 hs0 hk
    rw [← hpi] at G
    rw [← G]
    have HX : Hid (wd V i < 2 ^ 64) := wd_lt V i
    have HY : Hid (wd V (i + 1) < 2 ^ 64) := wd_lt V (i + 1)
    have hp0 : p ≤ 1000000 := by omega
    have hi0 : i ≤ 1000000 := by omega
    clear G hm hi hs cell hb ho h1 hpi hp
    generalize wd V i = x at *
    generalize wd V (i + 1) = y at *
    have HSK : (64 : Int) < (s : Int) + (k : Int) := by omega
    clear hsk
    go_enter Try.func34, Try.ntmps34
    go_wp2_with fail
    refine LOW.out.mono ?_
    rintro e w1 ⟨rfl, rfl⟩
    go_wp2
    go_ret
    refine ⟨congrArg (fun z => Ending.returned (.int .u64 z)) ?_, rfl⟩
    have e : ((x : Int) / 2 ^ s) = ((x / 2 ^ s : Nat) : Int) := by simp
    have hl1 : x / 2 ^ s < 18446744073709551616 := Nat.lt_of_le_of_lt (Nat.div_le_self _ _) HX.out
    have hl2 : y * 2 ^ (64 - s) % 2 ^ 64 < 18446744073709551616 := Nat.mod_lt _ (by decide)
    have hl3 : (x / 2 ^ s ||| y * 2 ^ (64 - s) % 2 ^ 64) < 18446744073709551616 := Nat.or_lt_two_pow (n := 64) hl1 hl2
    rw [e, wrap_u64, u64_or_nat _ _ hl1 hl2, u64_and_nat _ _ hl3 (Nat.lt_of_lt_of_le (Nat.sub_lt (Nat.two_pow_pos k) Nat.one_pos) (Nat.pow_le_pow_right (by omega) hk)), Nat.and_two_pow_sub_one_eq_mod]
end Go.Proofs.Ytcefohjddbjcjaa
namespace Go.Proofs.Ytcefohjddbjcjaa
open Go.RowKit
set_option linter.unusedVariables false
section
variable {P : Program} (w : World)
/-- What the old row holds: the elements that it held. -/
def Keeps (w' : World) (v : Value) (n : Nat) (xs : List Value) : Prop := ∀ g c, v = .slice (some ⟨g, 0, none⟩) n c → ∀ j u, xs[j]? = some u → w'.cell? ⟨g, j, none⟩ = some u
theorem append_keeps (t ty : TypeId) (base : Nat) (e : TypeId) (i : TypeInfo) (z : Value) (size bytes : Nat) (ht : P.underlying t = some (.slice e)) (hi : P.info? e = some i) (hz : i.zero = some z)
    (hsize : i.size = size) (hby : i.bytes = bytes) (hzs : z.cells.size = size) (hsz : 0 < size)
    (v : Value) (n : Nat) (xs : List Value) (hown : w.ownsRow base e size v n xs)
    (ad : Addr) (m c : Nat) (news : List Value) (hl : news.length = m * size) (hnews : ∀ j u, news[j]? = some u → w.cell? (ad.add j) = some u) (h1 : ∀ u ∈ news, u.oneCell' = true)
    (hm : 0 < m) (h63 : n + m ≤ maxLen) (hbytes : (n + m) * bytes ≤ 140737488355328)
    {g' cap' : Nat} {w' : World} (hr : (Builtin.append_ #[t, t] ty #[v, .slice (some ad) m c]).run P w = .ok (.slice (some ⟨g', 0, none⟩) (n + m) cap') w')
    (hown' : w'.ownsRow base e size (.slice (some ⟨g', 0, none⟩) (n + m) cap') (n + m) (xs ++ news)) : Keeps w' v n xs := by
  subst hsize
  subst hby
  intro g0 c0 hv j u hu
  subst hv
  have hsmall : n + m ≤ 9223372036854775807 := by simp only [maxLen] at h63; omega
  rcases hown.2 with ⟨hx, _⟩ | ⟨g, cap, cur, hv, hbg, hg, hnc, hcm, hcs, htake⟩
  · cases hx
  · simp only [Value.slice.injEq, Option.some.injEq, Addr.mk.injEq, and_true, true_and] at hv
    obtain ⟨rfl, rfl⟩ := hv
    by_cases hroom : n + m ≤ c0
    · have hfit : n * i.size + news.length ≤ cur.size := by rw [hl, hcs, ← Nat.add_mul]; exact Nat.mul_le_mul_right _ hroom
      have hr2 := run_append_room (P := P) w t ty e i ht hi g0 n c0 cur hg ad m c news hl hnews h1 hroom hfit
      rw [hr2] at hr
      simp only [Result.ok.injEq, Value.slice.injEq, Option.some.injEq, Addr.mk.injEq, and_true, true_and] at hr
      obtain ⟨⟨rfl, rfl⟩, rfl⟩ := hr
      have hjl := (List.getElem?_eq_some_iff.1 hu).1
      have := hown'.cellAt j (by have h9 := hown'.1; rw [List.length_append] at h9; omega)
      rw [this, List.getElem?_append_left hjl, hu]
    · have holds : ∀ j u, xs[j]? = some u → w.cell? ((⟨g0, 0, none⟩ : Addr).add j) = some u := hown.cells (g := g0) rfl
      have hr2 := run_append_grow (P := P) w t ty e i z ht hi hz ⟨g0, 0, none⟩ n c0 xs hown.1 holds ad m c news hl hnews (by omega) (by omega) (growslice_fits (by omega) hbytes)
      rw [hr2] at hr
      simp only [Result.ok.injEq] at hr
      obtain ⟨_, rfl⟩ := hr
      have hc := hown.cellAt j (by have h9 := hown.1; have := (List.getElem?_eq_some_iff.1 hu).1; omega)
      rw [hu] at hc
      have hlt := World.block_lt_of_cell? _ _ hc
      exact (World.cell?_alloc_lt _ _ _ hlt).trans hc
theorem step_append_keep {ops : Array Oper} {o : Oper} {a : Act} {K : Act → World → Prop} {Q : Exit → Act → World → Prop} {E : Prop} (hgd : o.guard = none) (s x : Operand) (t : TypeId)
    (ho : o.op = .call { callee := .builtin .append, args := #[s, x], argTypes := #[t, t] })
    (base : Nat) (e : TypeId) (i : TypeInfo) (z : Value) (size bytes : Nat) (ht : P.underlying t = some (.slice e)) (hi : P.info? e = some i) (hz : i.zero = some z)
    (hsize : i.size = size) (hby : i.bytes = bytes) (hzs : z.cells.size = size) (hsz : 0 < size)
    (v : Value) (n : Nat) (xs : List Value) (hs : a.eval s = v) (hown : w.ownsRow base e size v n xs)
    (ad : Addr) (m c : Nat) (news : List Value) (hx : a.eval x = .slice (some ad) m c) (hl : news.length = m * size) (hnews : ∀ j u, news[j]? = some u → w.cell? (ad.add j) = some u) (h1 : ∀ u ∈ news, u.oneCell' = true)
    (hm : 0 < m) (h63 : n + m ≤ maxLen) (hbytes : (n + m) * bytes ≤ 140737488355328) (hbase : base ≤ w.heap.size) (H : Nat) (hH : w.heap.size = H)
    (h : ∀ g cap w', w'.ownsRow base e size (.slice (some ⟨g, 0, none⟩) (n + m) cap) (n + m) (xs ++ news) → w.grownBy w' v.ownBlock → (v.ownBlock = some g ∨ g = H) → g < w'.heap.size → Keeps w' v n xs → K (a.put o.dst (.slice (some ⟨g, 0, none⟩) (n + m) cap)) w') :
    if Region.wanted o (yielded ops a.tmps) = true then Oper.wp P o a w K Q else E := by
  have hw : Region.wanted o (yielded ops a.tmps) = true := by simp [Region.wanted, hgd]
  rw [if_pos hw]
  obtain ⟨g, cap, w', hr, h2, h3, h4, h5⟩ := run_append_lies (P := P) w t o.type base e i z size bytes ht hi hz hsize hby hzs hsz v n xs hown ad m c news hl hnews h1 hm h63 hbytes hbase H hH
  have hk := append_keeps (P := P) w t o.type base e i z size bytes ht hi hz hsize hby hzs hsz v n xs hown ad m c news hl hnews h1 hm h63 hbytes hr h2
  unfold Oper.wp execOp
  simp only [ho, resolve, invoke, builtin, Sem.run_bind, Sem.run_pure, Result.andThen_ok, List.map_toArray, List.map_cons, List.map_nil, hs, hx, hr]
  exact h g cap w' h2 h3 h4 h5 hk
theorem wpList_append_keep {ops : Array Oper} {rest : List Oper} {o : Oper} {a : Act} {Q : Exit → Act → World → Prop} (hgd : o.guard = none) (s x : Operand) (t : TypeId)
    (ho : o.op = .call { callee := .builtin .append, args := #[s, x], argTypes := #[t, t] })
    (base : Nat) (e : TypeId) (i : TypeInfo) (z : Value) (size bytes : Nat) (ht : P.underlying t = some (.slice e)) (hi : P.info? e = some i) (hz : i.zero = some z)
    (hsize : i.size = size) (hby : i.bytes = bytes) (hzs : z.cells.size = size) (hsz : 0 < size)
    (v : Value) (n : Nat) (xs : List Value) (hs : a.eval s = v) (hown : w.ownsRow base e size v n xs)
    (ad : Addr) (m c : Nat) (news : List Value) (hx : a.eval x = .slice (some ad) m c) (hl : news.length = m * size) (hnews : ∀ j u, news[j]? = some u → w.cell? (ad.add j) = some u) (h1 : ∀ u ∈ news, u.oneCell' = true)
    (hm : 0 < m) (h63 : n + m ≤ maxLen) (hbytes : (n + m) * bytes ≤ 140737488355328) (hbase : base ≤ w.heap.size) (H : Nat) (hH : w.heap.size = H)
    (h : ∀ g cap w', w'.ownsRow base e size (.slice (some ⟨g, 0, none⟩) (n + m) cap) (n + m) (xs ++ news) → w.grownBy w' v.ownBlock → (v.ownBlock = some g ∨ g = H) → g < w'.heap.size → Keeps w' v n xs → wpList P ops Q rest (a.put o.dst (.slice (some ⟨g, 0, none⟩) (n + m) cap)) w') : wpList P ops Q (o :: rest) a w :=
  wpList_wanted (by simp [Region.wanted, hgd]) fun _ hK => by
    obtain ⟨g, cap, w', hr, h2, h3, h4, h5⟩ := run_append_lies (P := P) w t o.type base e i z size bytes ht hi hz hsize hby hzs hsz v n xs hown ad m c news hl hnews h1 hm h63 hbytes hbase H hH
    have hk := append_keeps (P := P) w t o.type base e i z size bytes ht hi hz hsize hby hzs hsz v n xs hown ad m c news hl hnews h1 hm h63 hbytes hr h2
    unfold Oper.wp execOp
    simp only [ho, resolve, invoke, builtin, Sem.run_bind, Sem.run_pure, Result.andThen_ok, List.map_toArray, List.map_cons, List.map_nil, hs, hx, hr]
    exact hK _ _ (h g cap w' h2 h3 h4 h5 hk)
end
end Go.Proofs.Ytcefohjddbjcjaa
namespace Go.Proofs.Ytcefohjddbjcjaa
open Go.RowKit
set_option linter.unusedVariables false

theorem num_nil (x : Nat) (k : Int) (w : World) (h : -9223372036854775808 ≤ k ∧ k ≤ 9223372036854775807) :
    Calls Try.prog 36 #[.pointer none, .int .u64 (x : Int), .int .i64 k] w fun e w' => e = .returned (.tuple #[]) ∧ w = w' := by
  have C := Lib.hid (count_p k w h)
  go_enter Try.func36, Try.ntmps36
  go_wp2_with fail
  refine C.out.mono ?_
  rintro e w' ⟨rfl, rfl⟩
  go_wp2
  exact bodyPost_ret (results_none rfl _ _ _) rfl ⟨rfl, rfl⟩
theorem num_zeroB (g x : Nat) (k : Int) (w : World) (h : -9223372036854775808 ≤ k ∧ k ≤ 0) :
    Calls Try.prog 36 #[.pointer (some ⟨g, 0, none⟩), .int .u64 (x : Int), .int .i64 k] w fun e w' => e = .returned (.tuple #[]) ∧ w = w' := by
  have C := Lib.hid (count_p k w ⟨h.1, by omega⟩)
  have hc : cnt64 k = 0 := by unfold cnt64; rw [if_pos h.2]
  rw [hc] at C
  go_enter Try.func36, Try.ntmps36
  go_wp2_with fail
  refine C.out.mono ?_
  rintro e w' ⟨rfl, rfl⟩
  go_wp2
  exact bodyPost_ret (results_none rfl _ _ _) rfl ⟨rfl, rfl⟩

/-- What the old row holds behind Num: each word as it was, or as it is now. -/
def OldK (w' : World) (A : Option Addr) (V V' n : Nat) : Prop :=
  ∀ b, A = some ⟨b, 0, none⟩ → ∀ i, i < (n + 63) / 64 → w'.cell? ⟨b, i, none⟩ = some (.int .u64 ((wd V i : Nat) : Int)) ∨ w'.cell? ⟨b, i, none⟩ = some (.int .u64 ((wd V' i : Nat) : Int))
theorem OldK.same {w' : World} {g V V' n n' : Nat} {A : Option Addr} (h : VecAt w' g V' n' A) (hn : n ≤ n') : OldK w' A V V' n := by
  obtain ⟨_, _, c, _, ho⟩ := h
  intro b hb i hi
  subst hb
  right
  rw [ho.cellAt i (by omega), U64_get _ _ (by rw [words_len]; omega), words_get _ _ _ (by omega)]
theorem info_u64 : (Try.prog.info? 22).map (fun i => (i.zero, i.size, i.bytes)) = some (some (.int .u64 0), 1, 8) := by kernel_rfl
set_option maxRecDepth 20000 in
set_option maxHeartbeats 2000000 in
theorem num_new (g V n x kk : Nat) (k : Int) (A : Option Addr) (w : World) (h : VecAt w g V n A) (hx : x < 2 ^ 64) (hk : -9223372036854775808 ≤ k ∧ k ≤ 9223372036854775807) (hkk : cnt64 k = kk) (hk1 : 1 ≤ kk) (hk64 : kk ≤ 64) (hn : n + 64 ≤ 1000000) (hs : n % 64 = 0) :
    Calls Try.prog 36 #[.pointer (some ⟨g, 0, none⟩), .int .u64 (x : Int), .int .i64 k] w fun e w' => e = .returned (.tuple #[]) ∧
      ∃ A', VecAt w' g (put V n x kk) (n + kk) A' ∧ Mod (fun i => i = g ∨ (∃ b, A = some ⟨b, 0, none⟩ ∧ i = b)) w w' ∧ (A' = A ∨ ∃ b, A' = some ⟨b, 0, none⟩ ∧ w.heap.size ≤ b) ∧ OldK w' A V (put V n x kk) n := by
  have C := Lib.hid (count_p k w hk)
  rw [hkk] at C
  have L := Lib.hid (low_p kk w hk64)
  obtain ⟨i0, hi0, hz0, hz1, hz2⟩ := info_parts info_u64
  obtain ⟨hV, hn1, c, hb, ho⟩ := h
  obtain ⟨m, hm⟩ : ∃ m, m = (n + 63) / 64 := ⟨_, rfl⟩
  rw [← hm] at hb ho
  have c0 : w.cell? ⟨g, 0, none⟩ = some (.slice A m c) := hb.cell 0
  have c1 : w.cell? ⟨g, 1, none⟩ = some (.int .i64 (n : Int)) := hb.cell 1
  obtain ⟨X, hX⟩ : ∃ X, X = x % 2 ^ kk := ⟨_, rfl⟩
  have hand : bits .and .u64 (x : Int) ((2 ^ kk - 1 : Nat) : Int) = ((X : Nat) : Int) := by
    rw [u64_and_nat _ _ hx (Nat.lt_of_lt_of_le (Nat.sub_lt (Nat.two_pow_pos kk) Nat.one_pos) (Nat.pow_le_pow_right (by omega) hk64)), Nat.and_two_pow_sub_one_eq_mod, hX]
  have hr : (n : Int) % 64 = 0 := by omega
  have ho' := ho.alloc (.cells #[.int .u64 (X : Int)] 22)
  have hnw := cell_one_new w (.int .u64 (X : Int)) 22
  have hsz : (w.alloc (.cells #[.int .u64 (X : Int)] 22)).heap.size = w.heap.size + 1 := by simp
  have t1 : m + 1 ≤ maxLen := by simp only [maxLen]; omega
  have t2 : (m + 1) * 8 ≤ 140737488355328 := by omega
  have hgl := hb.lt
  have t3 : g + 1 ≤ (w.alloc (.cells #[.int .u64 (X : Int)] 22)).heap.size := by simp; omega
  have h1s : ∀ u ∈ [Value.int .u64 (X : Int)], u.oneCell' = true := by intro u hu; simp at hu; subst hu; rfl
  have HB := Lib.hid hb
  have HXX := Lib.hid hX
  have HMM := Lib.hid hm
  have hk0 : ¬ kk = 0 := by omega
  have HSS := Lib.hid hs
  clear hb ho hX hm hkk hs
  generalize hP : 2 ^ kk - 1 = PP at *
  clear hP
  go_enter Try.func36, Try.ntmps36
  go_wp2_with fail
  refine C.out.mono ?_
  rintro e w' ⟨rfl, rfl⟩
  go_wp2_with fail
  refine L.out.mono ?_
  rintro e w' ⟨rfl, rfl⟩
  go_wp2_with (first
    | (at_builtin; go_must (refine wpList_append_keep _ rfl _ _ 62 rfl (g + 1) 22 i0 (.int .u64 0) 1 8 Try.underlying62 hi0 hz0 hz1 hz2 rfl (by decide) (.slice A m c) m _ rfl ho' ⟨w.heap.size, 0, none⟩ 1 1 [.int .u64 (X : Int)] rfl rfl hnw h1s (by decide) t1 t2 t3 _ hsz ?_)))
  intro gg c6 w6 hown6 hg6 hor hlt6 hkp
  have hne : ∀ q, (Value.slice A m c).ownBlock = some q → q ≠ g := fun q hq e => by have := (ho'.lt q hq).1; omega
  have m6 := Mod.ofGrown hg6
  have b6 : Blk w6 g 64 #[.slice A m c, .int .i64 (n : Int)] := (HB.out.alloc _).mod m6 (fun e => hne g e.symm rfl)
  have d1 : w6.cell? ⟨g, 1, none⟩ = some (.int .i64 (n : Int)) := b6.cell 1
  have d0 : w6.cell? ⟨g, 0, none⟩ = some (.slice A m c) := b6.cell 0
  have f0 := b6.frozen 0
  have f1 := b6.frozen 1
  have B6 := Lib.hid b6
  have M6 := Lib.hid m6
  have HOR := Lib.hid hor
  have HNE := Lib.hid hne
  have HO := Lib.hid ho'
  have HG := Lib.hid hg6
  have HOWN := Lib.hid hown6
  have HKP := Lib.hid hkp
  clear b6 m6 hor hne ho' hg6 hown6 hnw hsz h1s t1 t2 t3 hkp
  go_wp2
  refine bodyPost_end (results_none rfl _ _ _) rfl ⟨rfl, some ⟨gg, 0, none⟩, ?_, ?_, ?_, ?_⟩
  · have hn64 : n = 64 * m := by have := HSS.out; have := HMM.out; omega
    have hm1 : (n + kk + 63) / 64 = m + 1 := by omega
    refine ⟨put_lt x kk hV, by omega, c6, ?_, ?_⟩
    · rw [hm1]
      have := (B6.out.set_ 0 (.slice (some ⟨gg, 0, none⟩) (m + 1) c6)).set_ 1 (.int .i64 ((n : Int) + (kk : Int)))
      simpa using this
    · rw [hm1]
      have hw : U64 (words V m) ++ [Value.int .u64 (X : Int)] = U64 (words (put V n x kk) (m + 1)) := by
        rw [words_next, U64_append, wd_put_new x kk m hV hn64 hk64, ← HXX.out]
        refine congrArg (· ++ _) (congrArg U64 (List.map_congr_left fun i hi => ?_))
        rw [List.mem_range] at hi
        exact (wd_put_low x kk i hV (by omega)).symm
      rw [← hw]
      have mm : Mod (fun i => i = g) w6 ((w6.setCell ⟨g, 0, none⟩ (.slice (some ⟨gg, 0, none⟩) (m + 1) c6)).setCell ⟨g, 1, none⟩ (.int .i64 ((n : Int) + (kk : Int)))) :=
        Mod.setCell (p := ⟨g, 1, none⟩) (Mod.setCell (p := ⟨g, 0, none⟩) (Mod.refl (fun i => i = g) w6) (fun _ => rfl) _) (fun _ => rfl) _
      exact own_mod HOWN.out mm (fun q hq hx => by have := (HOWN.out.lt q hq).1; omega)
  · have ha : ∀ i, some i = (Value.slice A m c).ownBlock → i = g ∨ ∃ b, A = some ⟨b, 0, none⟩ ∧ i = b := fun i hi => by
      rcases HO.out.2 with ⟨h1, _⟩ | ⟨g', cap, cur, hv, _⟩
      · rw [h1] at hi; simp [Value.ownBlock] at hi
      · simp only [Value.slice.injEq] at hv
        rw [hv.1] at hi ⊢
        simp [Value.ownBlock] at hi
        exact .inr ⟨g', rfl, hi⟩
    exact ((((Mod.refl _ w).alloc _).trans M6.out (fun i _ hi => ha i hi)).setCell (fun _ => .inl rfl) _).setCell (fun _ => .inl rfl) _
  · rcases HOR.out with h1 | h1
    · left
      rcases HO.out.2 with ⟨h2, _⟩ | ⟨g', cap, cur, hv, _⟩
      · rw [h2] at h1; simp [Value.ownBlock] at h1
      · simp only [Value.slice.injEq] at hv
        rw [hv.1] at h1 ⊢
        simp [Value.ownBlock] at h1
        rw [h1]
    · right
      exact ⟨gg, rfl, by omega⟩
  · intro b hb i hi
    left
    have hbg : g + 1 ≤ b := by
      subst hb
      exact (HO.out.lt b rfl).1
    have hi2 : i < m := by rw [HMM.out]; exact hi
    have h1 := HKP.out b c (by rw [hb]) i (.int .u64 ((wd V i : Nat) : Int)) (by rw [U64_get _ _ (by rw [words_len]; exact hi2), words_get _ _ _ hi2])
    have h2 : (⟨b, i, none⟩ : Addr) ≠ ⟨g, 0, none⟩ := fun e => by have := congrArg Addr.block e; simp at this; omega
    have h3 : (⟨b, i, none⟩ : Addr) ≠ ⟨g, 1, none⟩ := fun e => by have := congrArg Addr.block e; simp at this; omega
    rw [World.cell?_setCell_other _ _ _ _ h3.symm, World.cell?_setCell_other _ _ _ _ h2.symm]
    exact h1

set_option maxRecDepth 20000 in
set_option maxHeartbeats 2000000 in
theorem num_last (g V n x kk : Nat) (k : Int) (A : Option Addr) (w : World) (h : VecAt w g V n A) (hx : x < 2 ^ 64) (hk : -9223372036854775808 ≤ k ∧ k ≤ 9223372036854775807) (hkk : cnt64 k = kk) (hk1 : 1 ≤ kk) (hk64 : kk ≤ 64) (hn : n + 64 ≤ 1000000) (s : Nat) (hs : n % 64 = s) (hs0 : 0 < s) (hsk : s + kk ≤ 64) :
    Calls Try.prog 36 #[.pointer (some ⟨g, 0, none⟩), .int .u64 (x : Int), .int .i64 k] w fun e w' => e = .returned (.tuple #[]) ∧
      ∃ A', VecAt w' g (put V n x kk) (n + kk) A' ∧ Mod (fun i => i = g ∨ (∃ b, A = some ⟨b, 0, none⟩ ∧ i = b)) w w' ∧ (A' = A ∨ ∃ b, A' = some ⟨b, 0, none⟩ ∧ w.heap.size ≤ b) ∧ OldK w' A V (put V n x kk) n := by
  have C := Lib.hid (count_p k w hk)
  rw [hkk] at C
  have L := Lib.hid (low_p kk w hk64)
  obtain ⟨hV, hn1, c, hb, ho⟩ := h
  obtain ⟨q, hq⟩ : ∃ q, q = n / 64 := ⟨_, rfl⟩
  have hm : (n + 63) / 64 = q + 1 := by omega
  have hnq : n = 64 * q + s := by omega
  rw [hm] at hb ho
  obtain ⟨b, rfl, hb1, hb2⟩ := own_some ho (by omega)
  have c0 : w.cell? ⟨g, 0, none⟩ = some (.slice (some ⟨b, 0, none⟩) (q + 1) c) := hb.cell 0
  have c1 : w.cell? ⟨g, 1, none⟩ = some (.int .i64 (n : Int)) := hb.cell 1
  have cq : w.cell? ⟨b, q, none⟩ = some (.int .u64 ((wd V q : Nat) : Int)) := by
    rw [ho.cellAt q (by omega), U64_get _ _ (by rw [words_len]; omega), words_get _ _ _ (by omega)]
  have fq := ho.frozenAt q
  have f1 := hb.frozen 1
  obtain ⟨X, hX⟩ : ∃ X, X = x % 2 ^ kk := ⟨_, rfl⟩
  have hand : bits .and .u64 (x : Int) ((2 ^ kk - 1 : Nat) : Int) = ((X : Nat) : Int) := by
    rw [u64_and_nat _ _ hx (Nat.lt_of_lt_of_le (Nat.sub_lt (Nat.two_pow_pos kk) Nat.one_pos) (Nat.pow_le_pow_right (by omega) hk64)), Nat.and_two_pow_sub_one_eq_mod, hX]
  have hr : (n : Int) % 64 = (s : Int) := by omega
  have HOR : Hid (bits .or .u64 ((wd V q : Nat) : Int) (IntKind.u64.wrap ((X : Int) * 2 ^ s)) = ((wd (put V n x kk) q : Nat) : Int)) := by
    show _ = _
    rw [wrap_u64, u64_or_nat _ _ (wd_lt V q) (Nat.mod_lt _ (by decide)), wd_put_last x kk q s hV hnq (by omega), hX]
  have hgl := hb.lt
  have HB := Lib.hid hb
  have HO := Lib.hid ho
  have HNQ := Lib.hid hnq
  have hk0 : ¬ kk = 0 := by omega
  have hs64 : s < 64 := by omega
  have hq2 : q ≤ 1000000 := by omega
  have hsk2 : ¬ (64 : Int) < (s : Int) + (kk : Int) := by omega
  clear hb ho hX hm hkk hs hq hnq
  generalize hP : 2 ^ kk - 1 = PP at *
  clear hP
  generalize hW : wd V q = W at *
  clear hW
  go_enter Try.func36, Try.ntmps36
  go_wp2_with fail
  refine C.out.mono ?_
  rintro e w' ⟨rfl, rfl⟩
  go_wp2_with fail
  refine L.out.mono ?_
  rintro e w' ⟨rfl, rfl⟩
  go_wp2_with fail
  go_region
  go_wp2
  rw [HOR.out]
  suffices hvec : VecAt ((w.setCell ⟨b, q, none⟩ (.int .u64 ((wd (put V n x kk) q : Nat) : Int))).setCell ⟨g, 1, none⟩ (.int .i64 ((n : Int) + (kk : Int)))) g (put V n x kk) (n + kk) (some ⟨b, 0, none⟩) by
    refine bodyPost_end (results_none rfl _ _ _) rfl ⟨rfl, some ⟨b, 0, none⟩, hvec.below (Below.refl _ _).drew, Mod.drew (Mod.setCell (p := ⟨g, 1, none⟩) (Mod.setCell (p := ⟨b, q, none⟩) (Mod.refl _ w) (fun _ => .inr ⟨b, rfl, rfl⟩) _) (fun _ => .inl rfl) _), .inl rfl, ?_⟩
    exact OldK.same (hvec.below (Below.refl _ _).drew) (Nat.le_add_right _ _)
  have hn64 := HNQ.out
  have hm1 : (n + kk + 63) / 64 = q + 1 := by omega
  refine ⟨put_lt x kk hV, by omega, c, ?_, ?_⟩
  · rw [hm1]
    have b1 : Blk (w.setCell ⟨b, q, none⟩ (.int .u64 ((wd (put V n x kk) q : Nat) : Int))) g 64 #[.slice (some ⟨b, 0, none⟩) (q + 1) c, .int .i64 (n : Int)] :=
      HB.out.mod (Mod.setCell (p := ⟨b, q, none⟩) (Mod.refl (fun i => i = b) w) (fun _ => rfl) _) (fun e => by omega)
    have := b1.set_ 1 (.int .i64 ((n : Int) + (kk : Int)))
    simpa using this
  · rw [hm1]
    have hw : (U64 (words V (q + 1))).set q (.int .u64 ((wd (put V n x kk) q : Nat) : Int)) = U64 (words (put V n x kk) (q + 1)) := by
      rw [← U64_set, words_next, words_next, List.set_append_right _ _ (by rw [words_len]; exact Nat.le_refl _), words_len, Nat.sub_self]
      refine congrArg U64 (congrArg (· ++ _) (List.map_congr_left fun i hi => ?_))
      rw [List.mem_range] at hi
      exact (wd_put_low x kk i hV (by omega)).symm
    rw [← hw]
    exact own_mod (HO.out.stored q _).1 (Mod.setCell (p := ⟨g, 1, none⟩) (Mod.refl (fun i => i = g) _) (fun _ => rfl) _) (fun r hr2 hx2 => by simp [Value.ownBlock] at hr2; omega)
end Go.Proofs.Ytcefohjddbjcjaa
