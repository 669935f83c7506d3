/- Nodes in memory; join, at, leaf. -/
import Derived.Test.YtdpejjokdncfnaaDoorInts
import Derived.Test.YtdpejjokdncfnaaDoorQSpec
namespace Go.Proofs.YtdpejjokdncfnaaDoor
open Go.RowKit
set_option linter.unusedVariables false
set_option maxRecDepth 20000
def ndv (p : Int × Int) : Value := .agg #[.int .i32 p.1, .int .i32 p.2]
/-- m nodes in a row. -/
def ndArr (T : Nat → Int × Int) (m : Nat) : Array Value := ((List.range (2 * m)).map fun j => Value.int .i32 (if j % 2 = 0 then (T (j / 2)).1 else (T (j / 2)).2)).toArray
theorem ndArr_size (T : Nat → Int × Int) (m : Nat) : (ndArr T m).size = 2 * m := by simp [ndArr]
theorem ndArr_get (T : Nat → Int × Int) (m k : Nat) (h : k < m) : (ndArr T m)[k * 2]? = some (.int .i32 (T k).1) ∧ (ndArr T m)[k * 2 + 1]? = some (.int .i32 (T k).2) := by
  constructor
  · have e1 : k * 2 % 2 = 0 := by omega
    have e2 : k * 2 / 2 = k := by omega
    have hl : k * 2 < 2 * m := by omega
    simp [ndArr, hl]
  · have e1 : (k * 2 + 1) % 2 = 1 := by omega
    have e2 : (k * 2 + 1) / 2 = k := by omega
    have hl : k * 2 + 1 < 2 * m := by omega
    simp [ndArr, hl, e1, e2]
def upd (T : Nat → Int × Int) (k : Nat) (p : Int × Int) : Nat → Int × Int := fun j => if j = k then p else T j
theorem ndArr_set (T : Nat → Int × Int) (m k : Nat) (p : Int × Int) (h : k < m) : ((ndArr T m).setIfInBounds (k * 2) (.int .i32 p.1)).setIfInBounds (k * 2 + 1) (.int .i32 p.2) = ndArr (upd T k p) m := by
  apply Array.ext
  · simp [ndArr]
  · intro i h1 h2
    have hi : i < 2 * m := by simpa [ndArr] using h2
    have s1 : i < (ndArr T m).size := by rw [ndArr_size]; exact hi
    rw [Array.getElem_setIfInBounds (by simpa using s1), Array.getElem_setIfInBounds s1]
    by_cases e1 : k * 2 + 1 = i
    · subst e1
      simp [ndArr, upd, show (k * 2 + 1) % 2 = 1 by omega, show (k * 2 + 1) / 2 = k by omega]
    · rw [if_neg e1]
      by_cases e2 : k * 2 = i
      · subst e2
        simp [ndArr, upd, show (k * 2) / 2 = k by omega]
      · rw [if_neg e2]
        simp [ndArr, upd, show i / 2 ≠ k by omega]
theorem ndArr_congr {T U : Nat → Int × Int} {m : Nat} (h : ∀ k, k < m → T k = U k) : ndArr T m = ndArr U m := by
  unfold ndArr
  congr 1
  apply List.map_congr_left
  intro j hj
  have : j < 2 * m := by simpa using hj
  rw [h (j / 2) (by omega)]
/-- The variable 'nothing'. -/
structure Nul (w : World) : Prop where
  s : w.cell? ⟨0, 0, none⟩ = some (.int .i32 0)
  l : w.cell? ⟨0, 1, none⟩ = some (.int .i32 2147483647)
theorem Nul.lt {w : World} (h : Nul w) : 0 < w.heap.size := World.block_lt_of_cell? _ _ h.s
theorem Nul.below {w w' : World} {B : Nat} (h : Nul w) (hB : 0 < B) (m : Below B w w') : Nul w' :=
  ⟨(m.cell (p := ⟨0, 0, none⟩) hB).trans h.s, (m.cell (p := ⟨0, 1, none⟩) hB).trans h.l⟩
theorem Nul.bel {w w' : World} (h : Nul w) (m : Below w.heap.size w w') : Nul w' := h.below h.lt m
theorem Nul.mod {w w' : World} {S : Nat → Prop} (h : Nul w) (m : Mod S w w') (hs : ¬ S 0) : Nul w' :=
  ⟨(m.cell h.lt hs 0).trans h.s, (m.cell h.lt hs 1).trans h.l⟩
theorem info_node : (Tryd.prog.info? 82).map (·.size) = some 2 := by kernel_rfl
/-- m nodes, from one on, read at b. -/
def RdT (w : World) (b : Nat) (T : Nat → Int × Int) (m : Nat) : Prop := ∀ k, k < m → w.cell? ⟨b, k * 2, none⟩ = some (.int .i32 (T k).1) ∧ w.cell? ⟨b, k * 2 + 1, none⟩ = some (.int .i32 (T k).2)
theorem RdT.ofBlk {w : World} {b m : Nat} {T : Nat → Int × Int} (h : Blk w b 82 (ndArr T m)) : RdT w b T m := fun k hk =>
  ⟨by rw [h.cell]; exact (ndArr_get T m k hk).1, by rw [h.cell]; exact (ndArr_get T m k hk).2⟩
theorem RdT.below {w w' : World} {b m : Nat} {T : Nat → Int × Int} (h : RdT w b T m) (hb : b < w.heap.size) (m' : Below w.heap.size w w') : RdT w' b T m := fun k hk =>
  ⟨(m'.cell (p := ⟨b, k * 2, none⟩) hb).trans (h k hk).1, (m'.cell (p := ⟨b, k * 2 + 1, none⟩) hb).trans (h k hk).2⟩
section
variable (w : World)
theorem leaf_p (A : Option Addr) (m c : Nat) (k : Nat) (hm : m ≤ 10000000) (hk : k ≤ 10000000) :
    Calls Tryd.prog 55 #[.slice A m c, .int .i64 (k : Int)] w fun e w' => e = .returned (.int .i64 ((m / 2 + 1 + k : Nat) : Int)) ∧ w = w' := by
  have e1 : ((m : Int) / 2 + 1 + k) = ((m / 2 + 1 + k : Nat) : Int) := by omega
  have E1 := Lib.hid e1
  clear e1
  go_enter Tryd.func55, Tryd.ntmps55
  go_wp2
  go_ret
  exact ⟨congrArg (fun z => Ending.returned (.int .i64 z)) E1.out, rfl⟩
set_option maxHeartbeats 1000000 in
theorem at_p (b m c x : Nat) (T : Nat → Int × Int) (h : RdT w b T m) (hx : 1 ≤ x) (hxm : x ≤ m) (hm : m ≤ 10000000) (hb : b < w.heap.size) :
    Calls Tryd.prog 57 #[.slice (some ⟨b, 0, none⟩) m c, .int .i64 (x : Int)] w fun e w' => e = .returned (ndv (T (x - 1))) ∧ Below w.heap.size w w' := by
  obtain ⟨c1, c2⟩ := h (x - 1) (by omega)
  obtain ⟨k, rfl⟩ : ∃ k, x = k + 1 := ⟨x - 1, by omega⟩
  rw [show k + 1 - 1 = k by omega] at *
  have HINF := Lib.hid info_node
  have e1 : ((k + 1 : Nat) : Int) - 1 = (k : Int) := by omega
  clear h
  go_enter Tryd.func57, Tryd.ntmps57
  go_wp2_with fail
  refine bodyPost_ret (results_cell_row rfl _ _ w.heap.size 82 _ (0, 0) _ rfl (Blk.new w _ _) Tryd.underlying82 rfl HINF.out) rfl ?_
  exact ⟨rfl, (Below.refl _ _).alloc (Nat.le_refl _) _⟩
theorem blk_new3 (w : World) (o1 o2 : Obj) (t : TypeId) (cs : Array Value) : Blk (((w.alloc o1).alloc o2).alloc (.cells cs t)) (w.heap.size + 1 + 1) t cs := by
  have := Blk.new ((w.alloc o1).alloc o2) t cs
  rwa [World.size_alloc, World.size_alloc] at this
/-- What a node's numbers may be. -/
structure Fits (a : Int × Int) : Prop where
  a1 : -2000000 ≤ a.1
  a2 : a.1 ≤ 2000000
  b1 : -2000000 ≤ a.2
  b2 : a.2 ≤ 2147483647
  real : a = nul ∨ a.2 ≤ 0
theorem nd_fits {E : Nat → Int} (h : Exc E) {n : Nat} (hn : n ≤ 1000000) (a b : Nat) : Fits (nd E n a b) := by
  obtain ⟨h1, h2, h3, h4⟩ := nd_bound h hn a b
  refine ⟨h1, h2, h3, h4, ?_⟩
  by_cases e : n ≤ 512 * a ∨ b ≤ a
  · exact .inl (nd_nul e)
  · exact .inr (nd_low (by omega) (by omega))
theorem nul_fits : Fits nul := ⟨by decide, by decide, by decide, by decide, .inl rfl⟩
theorem min_i32 (a b : Int) (W : World) : (Builtin.min_ #[21, 21] 21 #[.int .i32 a, .int .i32 b]).run Tryd.prog W = .ok (.int .i32 (min a b)) W := by
  rw [run_min_int2]
  have e : (if b < a then b else a) = min a b := by split <;> omega
  rw [e]
set_option maxHeartbeats 1000000 in
theorem join_p (a b : Int × Int) (hN : Nul w) (ha : Fits a) (hb : Fits b) :
    Calls Tryd.prog 56 #[ndv a, ndv b] w fun e w' => e = .returned (ndv (joinN a b)) ∧ Below w.heap.size w w' := by
  have hz := hN.lt
  obtain ⟨c1, c2⟩ := hN
  have HINF := Lib.hid info_node
  by_cases h : b = nul
  · have e1 : joinN a b = a := by unfold joinN; rw [if_pos h]
    rw [e1]
    obtain ⟨s, l⟩ := b
    obtain ⟨rfl, rfl⟩ : s = 0 ∧ l = 2147483647 := by simpa [nul] using h
    obtain ⟨s, l⟩ := a
    unfold ndv
    clear h e1
    go_enter Tryd.func56, Tryd.ntmps56
    go_wp2_with fail
    refine bodyPost_ret (results_cell_row rfl _ _ (w.heap.size + 1 + 1) 82 _ (0, 0) _ rfl (blk_new3 w _ _ _ _) Tryd.underlying82 rfl HINF.out) rfl ?_
    exact ⟨rfl, (((Below.refl _ _).alloc (Nat.le_refl _) _).alloc (by simp) _).alloc (by simp; omega) _⟩
  · have hl : b.2 ≤ 0 := hb.real.resolve_left h
    have e1 : joinN a b = (a.1 + b.1, min a.2 (a.1 + b.2)) := by unfold joinN; rw [if_neg h]
    obtain ⟨s, l⟩ := a
    obtain ⟨s', l'⟩ := b
    have g1 : (l' == 2147483647) = false := by rw [beq_eq_false_iff_ne]; intro e; simp only at hl; omega
    obtain ⟨a1, a2, a3, a4, _⟩ := ha
    obtain ⟨b1, b2, b3, b4, _⟩ := hb
    simp only at a1 a2 a3 a4 b1 b2 b3 b4 hl
    rw [e1]
    unfold ndv
    clear h e1
    go_enter Tryd.func56, Tryd.ntmps56
    go_wp2_with fail
    all_goals
      refine bodyPost_ret (results_cell_row rfl _ _ (w.heap.size + 1 + 1) 82 _ (0, 0) _ rfl (blk_new3 w _ _ _ _) Tryd.underlying82 rfl HINF.out) rfl ?_
      refine ⟨?_, (((Below.refl _ _).alloc (Nat.le_refl _) _).alloc (by simp) _).alloc (by simp; omega) _⟩
      congr
      omega
end
end Go.Proofs.YtdpejjokdncfnaaDoor
