/- The library's Clone of bytes; a variable of the library, of whatever value, holds some number. -/
import Derived.Test.YtohlkhffljjodaaDoorZRAwake
import Derived.Deep.RegionWith
import Derived.Handed
namespace Go.Proofs.YtohlkhffljjodaaDoor
open Go.RowKit
set_option linter.unusedVariables false
set_option maxRecDepth 20000
theorem Z8_one (l : List Int) : ∀ u ∈ Z8 l, u.oneCell' = true := by
  intro u hu
  simp only [Z8, List.mem_map] at hu
  obtain ⟨b, _, rfl⟩ := hu
  rfl
theorem Z8_take (l : List Int) (k : Nat) : Z8 (l.take k) = (Z8 l).take k := by simp [Z8]
/-- An answer in new memory that reads as these bytes. -/
def NewZ8 (w : World) (bs : List Int) (e : Ending) (w' : World) : Prop :=
  ∃ A c, e = .returned (.slice A bs.length c) ∧ bs.length ≤ c ∧ c ≤ maxLen ∧ (A = none → c = 0) ∧ w'.ownsRow w.heap.size 5 1 (.slice A bs.length c) bs.length (Z8 bs) ∧ Below w.heap.size w w'
theorem own_cap {w : World} {base : Nat} {e : TypeId} {size n c m : Nat} {A : Option Addr} {xs : List Value} (h : w.ownsRow base e size (.slice A m c) n xs) : A = none → c = 0 := by
  intro hA
  rcases h.2 with ⟨hv, _⟩ | ⟨g, cap, cur, hv, _⟩
  · simp only [Value.slice.injEq] at hv; exact hv.2.2
  · simp only [Value.slice.injEq] at hv; rw [hA] at hv; exact absurd hv.1 (by simp)
theorem NewZ8.mk {w w' : World} {bs : List Int} {e : Ending} {v : Value} (he : e = .returned v) (h : w'.ownsRow w.heap.size 5 1 v bs.length (Z8 bs)) (hb : Below w.heap.size w w') : NewZ8 w bs e w' := by
  obtain ⟨A, c, rfl, h1, h2⟩ := own_form h
  exact ⟨A, c, he, h1, h2, own_cap h, h, hb⟩
theorem info_u8 : (Tryd.prog.info? 5).map (fun i => (i.zero, i.size, i.bytes)) = some (some (.int .u8 0), 1, 1) := by kernel_rfl
set_option maxHeartbeats 400000 in
theorem clone8 (A : Option Addr) (n c B : Nat) (bs : List Int) (w : World) (h : Rd w B A n (Z8 bs)) (hn : n ≤ 140737488355328) :
    Calls Tryd.prog 17 #[.slice A n c] w (NewZ8 w bs) := by
  have hl : bs.length = n := by rw [← h.len, Z8_len]
  have hq := fun W a n c => Lib.run_eql_slice_nil (P := Tryd.prog) W 22 5 a n c 0 0 Tryd.underlying22
  cases A with
  | none =>
    obtain rfl : n = 0 := h.none_
    obtain rfl : bs = [] := List.eq_nil_of_length_eq_zero hl
    go_enter Tryd.func17, Tryd.ntmps17
    go_wp2
    go_ret
    exact .mk rfl (World.ownsRow_nil _ _ _ _) (Below.refl _ _)
  | some ad =>
    obtain ⟨i0, hi0, hz0, hz1, hz2⟩ := info_parts info_u8
    have hown : (w.alloc (.cells #[] 5)).ownsRow w.heap.size 5 1 (.slice (some ⟨w.heap.size, 0, none⟩) 0 0) 0 [] :=
      World.ownsRow_made w #[] 0 (Nat.le_refl _) (by simp [maxLen]) rfl
    have hrd := h.alloc (.cells #[] 5)
    go_enter Tryd.func17, Tryd.ntmps17
    go_wp2_with (first
      | (at_builtin; refine wpList_append_rd _ rfl _ _ 22 rfl w.heap.size 5 i0 (.int .u8 0) 1 Tryd.underlying22 hi0 hz0 hz1 hz2 rfl _ 0 [] rfl hown B (some ad) n c (Z8 bs) rfl hrd (Z8_one _) ?c1 ?c2 ?c3 ?_))
    case c1 => simp only [maxLen]; omega
    case c2 => omega
    case c3 => simp
    intro A' c' w' _ _ hown' hg hat
    go_wp2
    go_ret
    refine .mk rfl (by simpa [hl] using hown') ?_
    exact ((Below.refl _ _).alloc (Nat.le_refl _) _).trans (Below.appended hown hg (by simp))
/-- A library's variable of one integer cell holds some number. -/
theorem shape_int {w : World} (h : w.ShapedOpen Tryd.prog) {g : Nat} {z : Array Value} (hg : g < Tryd.prog.globals.size) (h0 : (((begin Tryd.prog (fun _ _ => 0) default).world.heap[g]?).bind Obj.row?) = some (z, 3)) (hz : z.size = 1) (hb : Tryd.prog.buildable 3 = true) :
    ∃ m, w.cell? ⟨g, 0, none⟩ = some (.int .i64 m) := by
  obtain ⟨cs, h1, h2, h3⟩ := h.1 g z _ hg h0
  obtain ⟨ts, k1, _, k2⟩ := h3 hb
  have e : w.cell? ⟨g, 0, none⟩ = cs[0]? := cell_of_row w g 0 cs _ (0, 0) h1
  have hs : 0 < cs.size := by omega
  obtain ⟨t, e1, e2⟩ := k2 0 cs[0] (Array.getElem?_eq_getElem hs)
  have ht : Tryd.prog.cellTypes Tryd.prog.depth 3 = some [3] := by kernel_rfl
  rw [ht] at k1
  obtain rfl := Option.some.inj k1
  simp at e1
  subst e1
  rw [e, Array.getElem?_eq_getElem hs]
  unfold Cell.ok at e2
  rw [Tryd.underlying3] at e2
  split at e2 <;> simp_all
end Go.Proofs.YtohlkhffljjodaaDoor
