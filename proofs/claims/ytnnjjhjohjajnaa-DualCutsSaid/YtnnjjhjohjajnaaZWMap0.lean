/- A Go map of integers that bears a set of numbers. -/
import Derived.Test.YtnnjjhjohjajnaaZDSumsM
import Derived.Test.YtnnjjhjohjajnaaZWMath
namespace Go.Proofs.Ytnnjjhjohjajnaa
set_option maxRecDepth 20000
open Go.RowKit Go.Maps
set_option linter.unusedVariables false
/-- A map bears the vertices that were met. -/
structure MM (D : DataW Unit) (M : List Bool) : Prop where
  tidy : Tidy D
  at_ : ∀ v, v < M.length → D.atKey (kI v) (.lit (.int .i64 0)) = .lit (.int .i64 (if M.getD v false = true then 1 else 0))
theorem MM.zero (V : Nat) : MM (.map []) (List.replicate V false) where
  tidy := tidy_empty
  at_ := fun v hv => by
    have : (List.replicate V false).getD v false = false := by simp [List.getD_eq_getElem?_getD, List.getElem?_replicate]; split <;> rfl
    rw [this]; simp [DataW.atKey]
theorem MM.put {D : DataW Unit} {M : List Bool} (h : MM D M) {v : Nat} (hv : v < M.length) : MM (D.put (kI v) (.lit (.int .i64 1))) (M.set v true) where
  tidy := h.tidy.put (kI_key _) _
  at_ := fun j hj => by
    rw [List.length_set] at hj
    rw [getB_set _ _ _ _ hv]
    by_cases c : j = v
    · subst c
      rw [atKey_put_same h.tidy.isMap (kI_key _), if_pos rfl, if_pos rfl]
    · rw [atKey_put_other (kI_ne c), h.at_ j hj, if_neg c]
theorem look_met {w : World} {g n : Nat} {D : DataW Unit} {M : List Bool} (h : OwnM w g n D) (hm : MM D M) (v : Nat) (hv : v < M.length) (hj : v ≤ 1000000) :
    (Instr.lookup 73 (.map (some g)) (.int .i64 (v : Int)) false).run Try.prog w = .ok (.int .i64 (if M.getD v false = true then 1 else 0)) w := by
  obtain ⟨c, hrun, hat, _⟩ := World.ownsMap.lookup_int h mlaw Try.underlying73 Try.underlying3 (mzero _) (mkey v hj)
  rw [hm.at_ v hv] at hat
  simp only [DataW.lit.injEq, Lit.int.injEq, true_and] at hat
  rw [hat]; exact hrun
theorem put_m {w : World} {g n : Nat} {D : DataW Unit} (h : OwnM w g n D) (hn : n < 1000000) (e : Nat) (hj : e ≤ 1000000) (v : Int) (hv : -9223372036854775808 ≤ v ∧ v ≤ 9223372036854775807) :
    ∃ w', (Instr.mapUpdate 73 (.map (some g)) (.int .i64 (e : Int)) (.int .i64 v)).run Try.prog w = .ok () w' ∧ OwnM w' g (n + 1) (D.put (kI e) (.lit (.int .i64 v))) ∧ w.grownBy w' (some g) :=
  World.ownsMap.update h mlaw Try.underlying73 (by unfold maxLen; omega) (mkey e hj) (plainElem_int Try.underlying3 (WalkArith.wf_i64 (by omega)))
theorem own_map_ne {w : World} {base : Nat} {e : TypeId} {size n g m : Nat} {v : Value} {xs : List Value} {D : DataW Unit} (h : w.ownsRow base e size v n xs) (hm : OwnM w g m D) : v.ownBlock ≠ some g := fun q => by
  obtain ⟨es, clock, hb, _⟩ := hm
  rcases h.2 with ⟨h0, _⟩ | ⟨k, cap, cur, rfl, hb', hg, _⟩
  · rw [h0] at q; simp [Value.ownBlock] at q
  · simp [Value.ownBlock] at q
    subst q
    rw [hb] at hg
    simp at hg
end Go.Proofs.Ytnnjjhjohjajnaa
