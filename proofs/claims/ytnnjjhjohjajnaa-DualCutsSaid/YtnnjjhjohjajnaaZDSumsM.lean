/- Counting by a Go map: what its datum is when the first k numbers' names have been counted; no walk. -/
import Derived.Test.YtnnjjhjohjajnaaZDDegM
import Derived.Maps.OwnSet
namespace Go.Proofs.Ytnnjjhjohjajnaa
set_option maxRecDepth 20000
open Go.RowKit Go.Maps
set_option linter.unusedVariables false

theorem name_inj {l b : List Nat} (h : Inv l b) {x y : Nat} (hx : x < l.length) (hy : y < l.length) (e : nameOf l x = nameOf l y) : lead l x = lead l y := by
  have h1 := (lead_is h hx).2.1
  have h2 := (lead_is h hy).2.1
  rcases Nat.lt_trichotomy (lead l x) (lead l y) with hlt | heq | hgt
  · have := leads_lt l _ _ h1 hlt
    unfold nameOf at e; omega
  · exact heq
  · have := leads_lt l _ _ h2 hgt
    unfold nameOf at e; omega
theorem cnt_orb {l b : List Nat} (h : Inv l b) {d : Nat} (hd : d < l.length) : cntN l l.length (nameOf l d) = (orb l d).length := by
  unfold cntN
  apply List.Perm.length_eq
  refine (List.perm_ext_iff_of_nodup (List.Pairwise.filter _ List.nodup_range) (orb_nodup h hd)).2 fun x => ?_
  rw [List.mem_filter, List.mem_range, decide_eq_true_iff]
  constructor
  · rintro ⟨h1, h2⟩
    exact mem_of_lead h h1 hd (name_inj h h1 hd h2)
  · intro hx
    refine ⟨orb_lt h hd hx, ?_⟩
    unfold nameOf
    rw [lead_of_mem h hd hx]

def kI (j : Nat) : Lit := .int .i64 (j : Int)
theorem kI_ne {i j : Nat} (h : i ≠ j) : kI i ≠ kI j := by
  intro e
  unfold kI at e
  simp only [Lit.int.injEq, true_and] at e
  omega
theorem kI_key (j : Nat) : WideAt.IsKeyLit (kI j) := by
  unfold kI; simp [WideAt.IsKeyLit]
/-- The datum of a map that has counted the names of the first k numbers. -/
structure MC {H : Type} (D : DataW H) (l : List Nat) (k : Nat) : Prop where
  tidy : Tidy D
  has_ : ∀ j : Nat, Maps.has D (kI j) = decide (j < met l k)
  size_ : Maps.size D = met l k
  at_ : ∀ j : Nat, D.atKey (kI j) (.lit (.int .i64 0)) = .lit (.int .i64 ((cntN l k j : Nat) : Int))
theorem MC.zero {H : Type} (l : List Nat) : MC (H := H) (.map []) l 0 where
  tidy := tidy_empty
  has_ := fun j => by rw [met_zero]; simp [Maps.has]
  size_ := by rw [met_zero]; rfl
  at_ := fun j => by simp [DataW.atKey, cntN]
theorem MC.step {H : Type} {D : DataW H} {l b : List Nat} (hi : Inv l b) {k : Nat} (hk : k < l.length) (h : MC D l k) :
    MC (D.put (kI (nameOf l k)) (.lit (.int .i64 ((cntN l k (nameOf l k) : Nat) + 1 : Int)))) l (k + 1) where
  tidy := h.tidy.put (kI_key _) _
  has_ := fun j => by
    by_cases hj : j = nameOf l k
    · subst hj
      rw [has_put_same h.tidy.isMap (kI_key _)]
      exact (decide_eq_true (name_met hi hk (Nat.lt_succ_self k))).symm
    · rw [has_put_other (kI_ne hj), h.has_]
      rw [decide_eq_decide]
      by_cases hl : Leads l k
      · have := name_lead hi hk hl
        rw [met_lead l k hl]; omega
      · rw [met_not l k hl]
  size_ := by
    rw [size_put h.tidy, h.has_, h.size_]
    by_cases hl : Leads l k
    · have := name_lead hi hk hl
      rw [met_lead l k hl, if_neg (by simp; omega)]
    · have := name_not hi hk hl
      rw [met_not l k hl, if_pos (by simpa using this)]
  at_ := fun j => by
    by_cases hj : j = nameOf l k
    · subst hj
      rw [atKey_put_same h.tidy.isMap (kI_key _), cntN_next, if_pos rfl]; rfl
    · rw [atKey_put_other (kI_ne hj), h.at_, cntN_next, if_neg (fun e => hj e.symm)]; rfl
theorem own_map_below {H : Type} {P : Program} {k : TypeId} {R : Value → Option (DataW H × List MemPlace)} {w w' : World} {b n : Nat} {D : DataW H} (h : w.ownsMap P k R b n D) (m : Below w.heap.size w w') : w'.ownsMap P k R b n D := by
  have hlt := h.lt
  obtain ⟨es, clock, hb, F, hs, hD⟩ := h
  exact ⟨es, clock, (m.block b hlt).trans hb, F, hs, hD⟩
theorem mlaw : Keyed Try.prog 3 := int_keyed Try.underlying3
theorem mzero (w : World) : (zeroValue 3).run Try.prog w = .ok (.int .i64 0) w := by kernel_rfl
theorem mkey (j : Nat) (hj : j ≤ 1000000) : keyOf Try.prog 3 (.int .i64 (j : Int)) = some (kI j) := keyOf_int_mk Try.underlying3 (by simp [Lit.wf, IntKind.min, IntKind.max, IntKind.bits, IntKind.signed]; omega)
abbrev OwnM (w : World) (g n : Nat) (D : DataW Unit) : Prop := w.ownsMap Try.prog 3 (plainElem Try.prog 3) g n D
theorem look_m {w : World} {g n k : Nat} {D : DataW Unit} {l : List Nat} (h : OwnM w g n D) (hm : MC D l k) (j : Nat) (hj : j ≤ 1000000) :
    (Instr.lookup 73 (.map (some g)) (.int .i64 (j : Int)) false).run Try.prog w = .ok (.int .i64 ((cntN l k j : Nat) : Int)) w := by
  obtain ⟨c, hrun, hat, _⟩ := World.ownsMap.lookup_int h mlaw Try.underlying73 Try.underlying3 (mzero _) (mkey j hj)
  rw [hm.at_] at hat
  simp only [DataW.lit.injEq, Lit.int.injEq, true_and] at hat
  rw [hat]; exact hrun
end Go.Proofs.Ytnnjjhjohjajnaa
