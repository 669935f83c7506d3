/- The document's walk: its maps. -/
import Derived.Test.YtoncollcefanjaaZg18
import Derived.Test.YtoncollcefanjaaZg11
namespace Go.Proofs.Ytoncollcefanjaa
set_option maxRecDepth 20000
open Go.RowKit Go.Maps
set_option linter.unusedVariables false
/-- A map bears the kinds of the edges that were looked at. -/
structure MF (D : DataW Unit) (K : List Int) : Prop where
  tidy : Tidy D
  has_ : ∀ e, e < K.length → Maps.has D (kI e) = decide (K.getD e 0 ≠ -1)
  at_ : ∀ e, e < K.length → D.atKey (kI e) (.lit (.int .i64 0)) = .lit (.int .i64 (if K.getD e 0 = -1 then 0 else K.getD e 0))
theorem MF.zero (m : Nat) : MF (.map []) (List.replicate m (-1)) where
  tidy := tidy_empty
  has_ := fun e he => by
    have : (List.replicate m (-1 : Int)).getD e 0 = -1 := by simp at he; simp [List.getD_eq_getElem?_getD, he]
    rw [this]; simp [Maps.has]
  at_ := fun e he => by
    have : (List.replicate m (-1 : Int)).getD e 0 = -1 := by simp at he; simp [List.getD_eq_getElem?_getD, he]
    rw [this]; simp [DataW.atKey]
theorem MF.put {D : DataW Unit} {K : List Int} (h : MF D K) {e : Nat} (he : e < K.length) (v : Int) (hv : v ≠ -1) : MF (D.put (kI e) (.lit (.int .i64 v))) (K.set e v) where
  tidy := h.tidy.put (kI_key _) _
  has_ := fun j hj => by
    rw [List.length_set] at hj
    rw [getI_set _ _ _ _ he]
    by_cases c : j = e
    · subst c
      rw [has_put_same h.tidy.isMap (kI_key _), if_pos rfl]; simp [hv]
    · rw [has_put_other (kI_ne c), h.has_ j hj, if_neg c]
  at_ := fun j hj => by
    rw [List.length_set] at hj
    rw [getI_set _ _ _ _ he]
    by_cases c : j = e
    · subst c
      rw [atKey_put_same h.tidy.isMap (kI_key _), if_pos rfl, if_neg hv]
    · rw [atKey_put_other (kI_ne c), h.at_ j hj, if_neg c]
theorem look_f {w : World} {g n : Nat} {D : DataW Unit} {K : List Int} (h : OwnM w g n D) (hm : MF D K) (e : Nat) (he : e < K.length) (hj : e ≤ 1000000) :
    (Instr.lookup 65 (.map (some g)) (.int .i64 (e : Int)) true).run Try.prog w = .ok (.tuple #[.int .i64 (if K.getD e 0 = -1 then 0 else K.getD e 0), .bool (decide (K.getD e 0 ≠ -1))]) w := by
  obtain ⟨v, ps, hrun, hat⟩ := World.ownsMap.look_ok h mlaw Try.underlying65 (mzero _) (plainElem_int Try.underlying3 (by decide)) (mkey e hj)
  rw [hm.at_ e he] at hat
  rw [hm.has_ e he] at hrun
  obtain ⟨c, rfl, hc, _⟩ := plainElem_int_inv Try.underlying3 hat
  simp only [Prod.mk.injEq, DataW.lit.injEq, Lit.int.injEq, true_and] at hc
  rw [hc.1]; exact hrun
end Go.Proofs.Ytoncollcefanjaa
