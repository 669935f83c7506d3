/- Slices of int: what they read as; the library's Clone and Equal. -/
import Derived.Test.YtcefohjddbjcjaaProg
import Derived.Test.YtcefohjddbjcjaaZAppend
import Derived.Test.YtcefohjddbjcjaaZRegion
import Derived.WalkKit
import Derived.WalkLawsBesides
import Derived.WalkSpells
import Derived.Outline
import Derived.RegionTactic
import Derived.BigRegion
import Derived.Deep.DeepMust
namespace Go.Proofs.Ytcefohjddbjcjaa
open Go.RowKit
set_option linter.unusedVariables false

def I64 (z : List Int) : List Value := z.map fun (x : Int) => Value.int .i64 x
theorem I64_len (z : List Int) : (I64 z).length = z.length := by simp [I64]
theorem I64_one (z : List Int) : ∀ u ∈ I64 z, u.oneCell' = true := by
  intro u hu
  simp only [I64, List.mem_map] at hu
  obtain ⟨b, _, rfl⟩ := hu
  rfl
theorem I64_append (l m : List Int) : I64 (l ++ m) = I64 l ++ I64 m := by simp [I64]
theorem I64_take (l : List Int) (k : Nat) : (I64 l).take k = I64 (l.take k) := by simp [I64, List.map_take]
theorem I64_get (z : List Int) (k : Nat) (hk : k < z.length) : (I64 z)[k]? = some (.int .i64 (z.getD k 0)) := by
  simp [I64, List.getD_eq_getElem?_getD, List.getElem?_eq_getElem hk]
theorem info_int : (Try.prog.info? 3).map (fun i => (i.zero, i.size, i.bytes)) = some (some (.int .i64 0), 1, 8) := by kernel_rfl

theorem Rd.i64 {w : World} {B n : Nat} {A : Option Addr} {z : List Int} (h : Rd w B A n (I64 z)) (h0 : 0 < n) :
    ∃ b o, A = some ⟨b, o, none⟩ ∧ b < B ∧ ∀ k, k < n → w.cell? ⟨b, o + k, none⟩ = some (.int .i64 (z.getD k 0)) := by
  obtain ⟨b, o, e, hb, hc⟩ := h.at_ h0
  refine ⟨b, o, e, hb, fun k hk => ?_⟩
  have hl : z.length = n := by rw [← h.len, I64_len]
  rw [hc k (by rw [I64_len]; omega)]
  have := I64_get z k (by omega)
  rwa [List.getElem?_eq_getElem (by rw [I64_len]; omega)] at this
theorem Rd.cutI64 {w : World} {B n : Nat} {A : Option Addr} {z : List Int} (h : Rd w B A n (I64 z)) (k : Nat) (hk : k ≤ n) : Rd w B A k (I64 (z.take k)) := by
  have := h.take k hk
  rwa [I64_take] at this

/-- An answer in new memory that reads as a list of ints. -/
def NewI64 (w : World) (z : List Int) (e : Ending) (w' : World) : Prop :=
  ∃ A c, e = .returned (.slice A z.length c) ∧ z.length ≤ c ∧ c ≤ maxLen ∧ w'.ownsRow w.heap.size 3 1 (.slice A z.length c) z.length (I64 z) ∧ Below w.heap.size w w'
theorem NewI64.mk {w w' : World} {z : List Int} {e : Ending} {v : Value} (he : e = .returned v) (h : w'.ownsRow w.heap.size 3 1 v z.length (I64 z)) (hb : Below w.heap.size w w') : NewI64 w z e w' := by
  obtain ⟨A, c, rfl, h1, h2⟩ := own_form h
  exact ⟨A, c, he, h1, h2, h, hb⟩


theorem getDI_ext {l m : List Int} (h : l.length = m.length) (hg : ∀ i, i < l.length → l.getD i 0 = m.getD i 0) : l = m := by
  apply List.ext_getElem h
  intro i h1 h2
  have := hg i h1
  rwa [List.getD_eq_getElem?_getD, List.getD_eq_getElem?_getD, List.getElem?_eq_getElem h1, List.getElem?_eq_getElem h2] at this

theorem getDI_set (y : List Int) (k j : Nat) (v : Int) (hk : k < y.length) : (y.set k v).getD j 0 = if j = k then v else y.getD j 0 := by
  rw [List.getD_eq_getElem?_getD, List.getD_eq_getElem?_getD, List.getElem?_set]
  by_cases h : k = j
  · subst h; simp [hk]
  · simp [h, Ne.symm h]
theorem I64_set (y : List Int) (k : Nat) (v : Int) : I64 (y.set k v) = (I64 y).set k (.int .i64 v) := by simp [I64, List.map_set]
theorem own_setI {w : World} {base : Nat} {g n c : Nat} {y : List Int} (h : w.ownsRow base 3 1 (.slice (some ⟨g, 0, none⟩) n c) n (I64 y)) (k : Nat) (v : Int) :
    (w.setCell ⟨g, k, none⟩ (.int .i64 v)).ownsRow base 3 1 (.slice (some ⟨g, 0, none⟩) n c) n (I64 (y.set k v)) := by
  rw [I64_set]; exact (h.stored k _).1
theorem own_cellI {w : World} {base : Nat} {g n c : Nat} {y : List Int} (h : w.ownsRow base 3 1 (.slice (some ⟨g, 0, none⟩) n c) n (I64 y)) (k : Nat) (hk : k < n) :
    w.cell? ⟨g, k, none⟩ = some (.int .i64 (y.getD k 0)) := by
  have hl : y.length = n := by have := h.1; rw [I64_len] at this; omega
  rw [h.cellAt k (by omega), I64_get y k (by omega)]
theorem own_lenI {w : World} {base : Nat} {v : Value} {n : Nat} {y : List Int} (h : w.ownsRow base 3 1 v n (I64 y)) : y.length = n := by
  have := h.1; rw [I64_len] at this; omega
theorem own_block {w : World} {base : Nat} {e : TypeId} {size g m n c : Nat} {xs : List Value} (h : w.ownsRow base e size (.slice (some ⟨g, 0, none⟩) m c) n xs) : base ≤ g ∧ g < w.heap.size := h.lt g rfl
/-- A slice that make has just made. -/
theorem own_made (w : World) (e : TypeId) (n : Nat) (z : Value) (hn : n ≤ maxLen) : (w.alloc (.cells (List.replicate n z).toArray e)).ownsRow w.heap.size e 1 (.slice (some ⟨w.heap.size, 0, none⟩) n n) n (List.replicate n z) := by
  have := World.ownsRow_lit (base := w.heap.size) (e := e) (size := 1) w (List.replicate n z).toArray n (Nat.le_refl _) hn (by simp)
  simpa using this
theorem I64_replicate (n : Nat) (x : Int) : I64 (List.replicate n x) = List.replicate n (.int .i64 x) := by simp [I64]
end Go.Proofs.Ytcefohjddbjcjaa
