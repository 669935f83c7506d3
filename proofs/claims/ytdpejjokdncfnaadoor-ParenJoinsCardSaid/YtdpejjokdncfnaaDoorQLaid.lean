/- The variable 'nothing', as the row lists it. -/
import Derived.Test.YtdpejjokdncfnaaDoorQNode
import Derived.Test.YtdpejjokdncfnaaDoorRows
import Derived.MakeChecks
import Derived.Lib.LaidU8
namespace Go.Proofs.YtdpejjokdncfnaaDoor
open Go.RowKit
set_option linter.unusedVariables false
abbrev Tab (w : World) : Prop := Nul w
theorem tab_of {W : World} (h : laidMetH Tryd.prog [("parquetry/paren.nothing", Rows.laid_parquetry_paren_nothing)] W) : Tab W := by
  rw [MakeChecks.laidMetH_plain _ _ _ (by kernel_rfl)] at h
  obtain ⟨g, t, cs, fuel, p, hg, ht, hvar, hd⟩ := Lib.laidMet.reads h (List.mem_cons_self ..)
  have e : (Rows.laid_parquetry_paren_nothing : DataW Unit) = .agg (([0, 2147483647] : List Int).map fun z => .lit (.int .i32 z)) := by kernel_rfl
  rw [e] at hd
  obtain rfl : g = 0 := Option.some.inj (hg.symm.trans (show Tryd.prog.globalNamed "parquetry/paren.nothing" = some 0 by kernel_rfl))
  obtain rfl : t = 82 := Option.some.inj (ht.symm.trans (show (Tryd.prog.globals[0]?).map (·.type) = some 82 by kernel_rfl))
  have hc := Lib.ints_of_struct (k := .i32) Tryd.underlying82 (fun i f hf => by
    rcases i with _ | _ | i
    · simp at hf; subst hf; exact ⟨Tryd.underlying21, rfl, by kernel_rfl⟩
    · simp at hf; subst hf; exact ⟨Tryd.underlying21, rfl, by kernel_rfl⟩
    · simp at hf) (by kernel_rfl) hd
  have h0 := World.var?_cell (show Tryd.prog.globalNamed "parquetry/paren.nothing" = some 0 by kernel_rfl) hvar 0
  have h1 := World.var?_cell (show Tryd.prog.globalNamed "parquetry/paren.nothing" = some 0 by kernel_rfl) hvar 1
  have hc' : cs = #[.int .i32 0, .int .i32 2147483647] := by
    apply Array.toList_inj.1
    rw [hc]
    rfl
  subst hc'
  exact ⟨h0, h1⟩
end Go.Proofs.YtdpejjokdncfnaaDoor
