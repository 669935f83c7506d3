/- The document's walk: its maps. -/
import Derived.Test.YtgohdhmijfajfaaDSumsM
import Derived.Test.YtgohdhmijfajfaaWOf
namespace Go.Proofs.Ytgohdhmijfajfaa
set_option maxRecDepth 20000
open Go.RowKit Go.Maps
set_option linter.unusedVariables false
/-- A map bears the kinds of the edges that were looked at. -/
structure MF (D : DataW Unit) (K : List Int) : Prop where
  tidy : Tidy D
  has_ : ∀ e, e < K.length → Maps.has D (kI e) = decide (K.getD e 0 ≠ -1)
  at_ : ∀ e, e < K.length → D.atKey (kI e) (.lit (.int .i64 0)) = .lit (.int .i64 (if K.getD e 0 = -1 then 0 else K.getD e 0))
theorem MF.zero (m : Nat) : MF (.map []) (List.replicate m (-1)) where
  tidy := tidy_empty
  has_ := fun e he => by
    have : (List.replicate m (-1 : Int)).getD e 0 = -1 := by simp at he; simp [List.getD_eq_getElem?_getD, he]
    rw [this]; simp [Maps.has]
  at_ := fun e he => by
    have : (List.replicate m (-1 : Int)).getD e 0 = -1 := by simp at he; simp [List.getD_eq_getElem?_getD, he]
    rw [this]; simp [DataW.atKey]
theorem MF.put {D : DataW Unit} {K : List Int} (h : MF D K) {e : Nat} (he : e < K.length) (v : Int) (hv : v ≠ -1) : MF (D.put (kI e) (.lit (.int .i64 v))) (K.set e v) where
  tidy := h.tidy.put (kI_key _) _
  has_ := fun j hj => by
    rw [List.length_set] at hj
    rw [getI_set _ _ _ _ he]
    by_cases c : j = e
    · subst c
      rw [has_put_same h.tidy.isMap (kI_key _), if_pos rfl]; simp [hv]
    · rw [has_put_other (kI_ne c), h.has_ j hj, if_neg c]
  at_ := fun j hj => by
    rw [List.length_set] at hj
    rw [getI_set _ _ _ _ he]
    by_cases c : j = e
    · subst c
      rw [atKey_put_same h.tidy.isMap (kI_key _), if_pos rfl, if_neg hv]
    · rw [atKey_put_other (kI_ne c), h.at_ j hj, if_neg c]
/-- A map bears the vertices that were met. -/
structure MM (D : DataW Unit) (M : List Bool) : Prop where
  tidy : Tidy D
  at_ : ∀ v, v < M.length → D.atKey (kI v) (.lit (.int .i64 0)) = .lit (.int .i64 (if M.getD v false = true then 1 else 0))
theorem MM.zero (V : Nat) : MM (.map []) (List.replicate V false) where
  tidy := tidy_empty
  at_ := fun v hv => by
    have : (List.replicate V false).getD v false = false := by simp [List.getD_eq_getElem?_getD, List.getElem?_replicate]; split <;> rfl
    rw [this]; simp [DataW.atKey]
theorem MM.put {D : DataW Unit} {M : List Bool} (h : MM D M) {v : Nat} (hv : v < M.length) : MM (D.put (kI v) (.lit (.int .i64 1))) (M.set v true) where
  tidy := h.tidy.put (kI_key _) _
  at_ := fun j hj => by
    rw [List.length_set] at hj
    rw [getB_set _ _ _ _ hv]
    by_cases c : j = v
    · subst c
      rw [atKey_put_same h.tidy.isMap (kI_key _), if_pos rfl, if_pos rfl]
    · rw [atKey_put_other (kI_ne c), h.at_ j hj, if_neg c]
theorem look_f {w : World} {g n : Nat} {D : DataW Unit} {K : List Int} (h : OwnM w g n D) (hm : MF D K) (e : Nat) (he : e < K.length) (hj : e ≤ 1000000) :
    (Instr.lookup 38 (.map (some g)) (.int .i64 (e : Int)) true).run Try.prog w = .ok (.tuple #[.int .i64 (if K.getD e 0 = -1 then 0 else K.getD e 0), .bool (decide (K.getD e 0 ≠ -1))]) w := by
  obtain ⟨v, ps, hrun, hat⟩ := World.ownsMap.look_ok h mlaw Try.underlying38 (mzero _) (plainElem_int Try.underlying3 (by decide)) (mkey e hj)
  rw [hm.at_ e he] at hat
  rw [hm.has_ e he] at hrun
  obtain ⟨c, rfl, hc, _⟩ := plainElem_int_inv Try.underlying3 hat
  simp only [Prod.mk.injEq, DataW.lit.injEq, Lit.int.injEq, true_and] at hc
  rw [hc.1]; exact hrun
theorem look_met {w : World} {g n : Nat} {D : DataW Unit} {M : List Bool} (h : OwnM w g n D) (hm : MM D M) (v : Nat) (hv : v < M.length) (hj : v ≤ 1000000) :
    (Instr.lookup 38 (.map (some g)) (.int .i64 (v : Int)) false).run Try.prog w = .ok (.int .i64 (if M.getD v false = true then 1 else 0)) w := by
  obtain ⟨c, hrun, hat, _⟩ := World.ownsMap.lookup_int h mlaw Try.underlying38 Try.underlying3 (mzero _) (mkey v hj)
  rw [hm.at_ v hv] at hat
  simp only [DataW.lit.injEq, Lit.int.injEq, true_and] at hat
  rw [hat]; exact hrun
theorem put_m {w : World} {g n : Nat} {D : DataW Unit} (h : OwnM w g n D) (hn : n < 1000000) (e : Nat) (hj : e ≤ 1000000) (v : Int) (hv : -9223372036854775808 ≤ v ∧ v ≤ 9223372036854775807) :
    ∃ w', (Instr.mapUpdate 38 (.map (some g)) (.int .i64 (e : Int)) (.int .i64 v)).run Try.prog w = .ok () w' ∧ OwnM w' g (n + 1) (D.put (kI e) (.lit (.int .i64 v))) ∧ w.grownBy w' (some g) :=
  World.ownsMap.update h mlaw Try.underlying38 (by unfold maxLen; omega) (mkey e hj) (plainElem_int Try.underlying3 (WalkArith.wf_i64 (by omega)))
end Go.Proofs.Ytgohdhmijfajfaa
