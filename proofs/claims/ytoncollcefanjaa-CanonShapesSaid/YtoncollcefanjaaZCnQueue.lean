/- A queue: a slice of ints of the call's own that is taken from in front (wait = wait[1:]) and put to behind. -/
import Derived.Test.YtoncollcefanjaaZg6
import Derived.ArgAppend
namespace Go.Proofs.Ytoncollcefanjaa
set_option maxRecDepth 20000
open Go.RowKit
set_option linter.unusedVariables false
set_option linter.unusedSimpArgs false
/-- The slice of n cells of block g from o on, c of them its own, reads as xs. -/
structure QAt (w : World) (base g o n c : Nat) (xs : List Value) : Prop where
  len : xs.length = n
  bg : base ≤ g
  lt : g < w.heap.size
  nc : n ≤ c
  cm : c ≤ maxLen
  some_ : ∀ j, j < c → (w.cell? ⟨g, o + j, none⟩).isSome = true
  fz : ∀ j, w.frozen? ⟨g, j, none⟩ = false
  at_ : ∀ j u, xs[j]? = some u → w.cell? ⟨g, o + j, none⟩ = some u
section
variable {w w' : World} {base g o n c : Nat} {xs : List Value} {S : Nat → Prop}
theorem QAt.mod (h : QAt w base g o n c xs) (m : Mod S w w') (hs : ¬ S g) : QAt w' base g o n c xs :=
  ⟨h.len, h.bg, Nat.lt_of_lt_of_le h.lt m.size, h.nc, h.cm, fun j hj => by rw [m.cell h.lt hs]; exact h.some_ j hj, fun j => by rw [m.frozen h.lt hs]; exact h.fz j, fun j u hu => by rw [m.cell h.lt hs]; exact h.at_ j u hu⟩
theorem QAt.ofRow {e : TypeId} (h : w.ownsRow base e 1 (.slice (some ⟨g, 0, none⟩) n c) n xs) : QAt w base g 0 n c xs := by
  have hb := own_block h
  have hl := h.1
  rcases h.2 with ⟨h0, _⟩ | ⟨g', cap, cur, hv, _, hg, h1, h2, h3, h4⟩
  · cases h0
  · simp only [Value.slice.injEq, Option.some.injEq, Addr.mk.injEq, true_and, and_true] at hv
    obtain ⟨rfl, rfl⟩ := hv
    have blk : Blk w g e cur := hg
    refine ⟨by omega, hb.1, hb.2, h1, h2, fun j hj => ?_, fun j => blk.frozen j, fun j u hu => ?_⟩
    · rw [Nat.zero_add, blk.cell, Array.getElem?_eq_getElem (by omega)]; rfl
    · rw [Nat.zero_add, blk.cell, ← h4] at *
      rw [List.getElem?_take] at hu
      split at hu
      · rw [← hu, ← Array.getElem?_toList]
      · cases hu
theorem QAt.pop (h : QAt w base g o n c xs) (hn : 0 < n) : QAt w base g (o + 1) (n - 1) (c - 1) (xs.drop 1) :=
  ⟨by rw [List.length_drop, h.len], h.bg, h.lt, by have := h.nc; omega, by have := h.cm; omega, fun j hj => by rw [Nat.add_assoc, Nat.add_comm 1 j]; exact h.some_ (j + 1) (by omega), h.fz, fun j u hu => by
    rw [Nat.add_assoc, Nat.add_comm 1 j]
    refine h.at_ (j + 1) u ?_
    rwa [List.getElem?_drop, Nat.add_comm 1 j] at hu⟩
theorem QAt.none_ (h : QAt w base g o n c xs) : QAt w base g o 0 0 [] :=
  ⟨rfl, h.bg, h.lt, Nat.le_refl _, Nat.zero_le _, fun j hj => absurd hj (by omega), h.fz, fun j u hu => by simp at hu⟩
/-- Put behind: the append's run, and what is then. -/
theorem QAt.push (h : QAt w base g o n c xs) (x : Int) (hn : n ≤ 1000000) :
    ∃ g1 o1 c1 w1, (Builtin.append_ #[24, 24] 24 #[.slice (some ⟨g, o, none⟩) n c, .slice (some ⟨w.heap.size, 0, none⟩) 1 1]).run Try.prog (w.alloc (.cells #[.int .i64 x] 3)) = .ok (.slice (some ⟨g1, o1, none⟩) (n + 1) c1) w1 ∧
      QAt w1 base g1 o1 (n + 1) c1 (xs ++ [.int .i64 x]) ∧ Mod (fun k => k = g) w w1 ∧ (g1 = g ∨ w.heap.size ≤ g1) := by
  obtain ⟨i0, hi0, hz0, hz1, hz2⟩ := info_parts info_int
  have hal : Below w.heap.size w (w.alloc (.cells #[.int .i64 x] 3)) := (Below.refl _ _).alloc (Nat.le_refl _) _
  have h1 : QAt (w.alloc (.cells #[.int .i64 x] 3)) base g o n c xs := h.mod (Mod.none_ hal (fun _ => False)) id
  have nb := Blk.new w 3 #[.int .i64 x]
  have hnews : ∀ j u, ([.int .i64 x] : List Value)[j]? = some u → (w.alloc (.cells #[.int .i64 x] 3)).cell? (Addr.add ⟨w.heap.size, 0, none⟩ j) = some u := fun j u hu => by
    match j with
    | 0 => simp at hu; subst hu; have := nb.cell 0; exact this
    | j + 1 => simp at hu
  have one : ∀ u ∈ ([.int .i64 x] : List Value), u.oneCell' = true := by simp [Value.oneCell']
  by_cases hr : n + 1 ≤ c
  · have hrun := run_append_room_cells (P := Try.prog) (w.alloc (.cells #[.int .i64 x] 3)) 24 24 3 i0 Try.underlying24 hi0 g o n c ⟨w.heap.size, 0, none⟩ 1 1 [.int .i64 x] (by rw [hz1]; rfl) hnews one hr
      (fun j hj => by rw [hz1, Nat.mul_one, Nat.add_assoc]; exact h1.some_ (n + j) (by simp at hj; omega)) (fun j hj => h1.fz _)
    rw [hz1, Nat.mul_one] at hrun
    have hs : (w.alloc (.cells #[.int .i64 x] 3)).setCells g (o + n) [.int .i64 x] = (w.alloc (.cells #[.int .i64 x] 3)).setCell ⟨g, o + n, none⟩ (.int .i64 x) := rfl
    rw [hs] at hrun
    have hc1 := h1.some_ n (by omega)
    have MM : Mod (fun k => k = g) (w.alloc (.cells #[.int .i64 x] 3)) ((w.alloc (.cells #[.int .i64 x] 3)).setCell ⟨g, o + n, none⟩ (.int .i64 x)) := Mod.setCell (p := ⟨g, o + n, none⟩) (Mod.refl (fun k => k = g) _) (fun _ => rfl) _
    refine ⟨g, o, c, _, hrun, ⟨by rw [List.length_append, h.len]; rfl, h1.bg, Nat.lt_of_lt_of_le h1.lt MM.size, hr, h1.cm, fun j hj => ?_, fun j => ?_, fun j u hu => ?_⟩, (Mod.none_ hal (fun k => k = g)).trans MM fun _ _ e => e, .inl rfl⟩
    · by_cases e : j = n
      · subst e; rw [World.cell?_setCell_same' _ _ _ hc1]; rfl
      · rw [World.cell?_setCell_other _ _ (a := ⟨g, o + n, none⟩) (b := ⟨g, o + j, none⟩) (by intro q; simp only [Addr.mk.injEq, true_and, and_true] at q; omega)]; exact h1.some_ j hj
    · have := h1.fz j
      simpa using this
    · by_cases e : j = n
      · subst e
        rw [World.cell?_setCell_same' _ _ _ hc1]
        rw [List.getElem?_append_right (by rw [h.len]; exact Nat.le_refl _), h.len] at hu
        simpa using hu
      · rw [World.cell?_setCell_other _ _ (a := ⟨g, o + n, none⟩) (b := ⟨g, o + j, none⟩) (by intro q; simp only [Addr.mk.injEq, true_and, and_true] at q; omega)]
        refine h1.at_ j u ?_
        have hxl := h.len
        rcases Nat.lt_or_ge j n with q | q
        · rwa [List.getElem?_append_left (by omega)] at hu
        · rw [List.getElem?_append_right (by omega)] at hu
          have : (1 : Nat) ≤ j - xs.length := by have := h.len; omega
          simp [List.getElem?_eq_none (l := ([.int .i64 x] : List Value)) this] at hu
  · obtain ⟨v', w1, hrun, hrow, hgr⟩ := run_append_arg_grows (P := Try.prog) (w.alloc (.cells #[.int .i64 x] 3)) 24 24 3 i0 (.int .i64 0) 1 8 Try.underlying24 hi0 hz0 hz1 hz2 rfl (by omega) ⟨g, o, none⟩ n c xs (by rw [h.len, Nat.mul_one]) (fun j u hu => by rw [Addr.add_lit]; exact h1.at_ j u hu) ⟨w.heap.size, 0, none⟩ 1 1 [.int .i64 x] rfl hnews (by omega) (by unfold maxLen; omega) (by omega)
    obtain ⟨A1, c1, rfl, _, _⟩ := own_form hrow
    obtain ⟨g1, rfl, hg1, _⟩ := own_some hrow (by omega)
    have hs : (w.alloc (.cells #[.int .i64 x] 3)).heap.size = w.heap.size + 1 := by simp
    rw [hs] at hg1
    have hb := h.lt
    have hbb := h.bg
    have q := QAt.ofRow hrow
    exact ⟨g1, 0, c1, w1, hrun, ⟨q.len, by omega, q.lt, q.nc, q.cm, q.some_, q.fz, q.at_⟩, (Mod.none_ hal (fun k => k = g)).trans (Mod.ofGrown hgr) (fun _ _ e => by cases e), .inr (by omega)⟩
/-- Taken from in front. -/
theorem run_pop (W : World) (g o n c : Nat) (hn : 0 < n) :
    (Instr.slice 24 (.slice (some ⟨g, o, none⟩) n c) (some (.int .i64 1)) none none).run Try.prog W = .ok (.slice (some ⟨g, if c = 1 then o else o + 1, none⟩) (n - 1) (c - 1)) W := by
  obtain ⟨i0, hi0, hz0, hz1, hz2⟩ := info_parts info_int
  have ht : Try.prog.underlying 24 = some (.slice (Try.prog.elem 24)) := by kernel_rfl
  have he : Try.prog.elem 24 = 3 := by kernel_rfl
  rw [run_slice_l (P := Try.prog) W 24 (some ⟨g, o, none⟩) n c ht .i64 1 (by omega) (by omega), he]
  simp [sizeOf, typeInfo, hi0, hz1, sliced, Addr.add]
  split <;> rfl
theorem QAt.pop' (h : QAt w base g o n c xs) (hn : 0 < n) : QAt w base g (if c = 1 then o else o + 1) (n - 1) (c - 1) (xs.drop 1) := by
  by_cases e : c = 1
  · rw [if_pos e]
    have := h.nc
    have hx : xs.drop 1 = [] := List.drop_eq_nil_of_le (by have := h.len; omega)
    have e1 : n - 1 = 0 := by omega
    have e2 : c - 1 = 0 := by omega
    rw [hx, e1, e2]
    exact h.none_
  · rw [if_neg e]; exact h.pop hn
end
end Go.Proofs.Ytoncollcefanjaa
