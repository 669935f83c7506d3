/- The library's table, and the variable 'nothing', as the row lists them. -/
import Derived.Test.YtagpdpacaoianaaGreatDoorZg3
import Derived.Test.YtagpdpacaoianaaGreatDoorZg4
import Derived.Test.YtagpdpacaoianaaGreatDoorRows
import Derived.MakeChecks
import Derived.Lib.LaidTab
import Derived.Lib.LaidU8
namespace Go.Proofs.YtagpdpacaoianaaGreatDoor
open Go.RowKit
set_option linter.unusedVariables false
/-- What the row lists. -/
structure MTabs (w : World) : Prop where
  tab : Tab w
  nul : Nul w
  lt : 1 < w.heap.size
theorem mtabs_of {W : World} (h : laidMetH Tryz.prog [("math/bits.deBruijn64tab", Rows.laid_math_bits_deBruijn64tab), ("parquetry/paren.nothing", Rows.laid_parquetry_paren_nothing)] W) : MTabs W := by
  rw [MakeChecks.laidMetH_plain _ _ _ (by kernel_rfl)] at h
  have hN : Nul W := by
    obtain ⟨g, t, cs, fuel, p, hg, ht, hvar, hd⟩ := Lib.laidMet.reads h (List.mem_cons_of_mem _ (List.mem_cons_self ..))
    have e : (Rows.laid_parquetry_paren_nothing : DataW Unit) = .agg (([0, 2147483647] : List Int).map fun z => .lit (.int .i32 z)) := by kernel_rfl
    rw [e] at hd
    obtain rfl : g = 2 := Option.some.inj (hg.symm.trans (show Tryz.prog.globalNamed "parquetry/paren.nothing" = some 2 by kernel_rfl))
    obtain rfl : t = 137 := Option.some.inj (ht.symm.trans (show (Tryz.prog.globals[2]?).map (·.type) = some 137 by kernel_rfl))
    have hc := Lib.ints_of_struct (k := .i32) Tryz.underlying137 (fun i f hf => by
      rcases i with _ | _ | i
      · simp at hf; subst hf; exact ⟨Tryz.underlying21, rfl, by kernel_rfl⟩
      · simp at hf; subst hf; exact ⟨Tryz.underlying21, rfl, by kernel_rfl⟩
      · simp at hf) (by kernel_rfl) hd
    have h0 := World.var?_cell (show Tryz.prog.globalNamed "parquetry/paren.nothing" = some 2 by kernel_rfl) hvar 0
    have h1 := World.var?_cell (show Tryz.prog.globalNamed "parquetry/paren.nothing" = some 2 by kernel_rfl) hvar 1
    have hc' : cs = #[.int .i32 0, .int .i32 2147483647] := by
      apply Array.toList_inj.1
      rw [hc]
      rfl
    subst hc'
    exact ⟨h0, h1⟩
  have hT : Tab W := by
    have e : (Rows.laid_math_bits_deBruijn64tab : DataW Unit) = Lib.tabData .u8 (Lib.deBruijn64tab.map fun (x : Nat) => (x : Int)) := by kernel_rfl
    rw [e] at h
    have hT := Lib.tabIs_of_head (g := 1) (by kernel_rfl) (by kernel_rfl) Tryz.underlying145 Tryz.underlying5 (by kernel_rfl) (by kernel_rfl) h
    refine ⟨fun j hj => ?_⟩
    have := hT.cell (g := 1) (by kernel_rfl) j (by simpa using hj)
    rw [this]
    simp [List.getD_eq_getElem?_getD, hj]
  exact ⟨hT, hN, World.block_lt_of_cell? _ _ (hT.at_ 0 (by decide))⟩
end Go.Proofs.YtagpdpacaoianaaGreatDoor
