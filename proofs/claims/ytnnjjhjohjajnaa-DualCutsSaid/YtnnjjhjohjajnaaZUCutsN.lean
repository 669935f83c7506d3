/- Two filtered rows of darts put together: who stands behind whom in the map with the edge made one. -/
import Derived.Test.YtnnjjhjohjajnaaZUCutsM
import Derived.Test.YtnnjjhjohjajnaaZUNamesM
namespace Go.Proofs.Ytnnjjhjohjajnaa
set_option maxRecDepth 20000
open Go.RowKit
set_option linter.unusedVariables false
def swE (e y : Nat) : Nat := if y = 2 * e then 2 * e + 1 else if y = 2 * e + 1 then 2 * e else y
section
variable {l b : List Nat}
theorem fltE_app (e : Nat) (L M : List Nat) : fltE e (L ++ M) = fltE e L ++ fltE e M := by unfold fltE; rw [List.filter_append]
theorem orb_get (l : List Nat) (d : Nat) {k : Nat} (hk : k < per l d) : (orb l d).getD k 0 = it l k d := by
  unfold orb; exact way_get l d _ k hk
theorem orb_lenP (l : List Nat) (d : Nat) : (orb l d).length = per l d := by unfold orb; exact way_len _ _ _
/-- Two vertices' darts, one row behind the other: around goes l with the edge's darts exchanged. -/
theorem two_cyc (h : Inv l b) {e : Nat} (he : e < l.length / 2) (hne : nameOf l (2 * e) ≠ nameOf l (2 * e + 1)) : Cyc (fun x => swE e (sgL l x)) (orb l (2 * e + 1) ++ orb l (2 * e)) := by
  have h0 : 2 * e < l.length := by omega
  have h1 : 2 * e + 1 < l.length := by omega
  have hpf := sgL_pf h
  have no1 : ∀ k, it l k (2 * e + 1) ≠ 2 * e := fun k c => hne ((name_iff h h0 h1).2 (hpf.eqv.symm _ _ h1 h0 ⟨k, by rw [sgL_it]; exact c⟩))
  have no2 : ∀ k, it l k (2 * e) ≠ 2 * e + 1 := fun k c => hne ((name_iff h h0 h1).2 ⟨k, by rw [sgL_it]; exact c⟩)
  have p1 := per_is h h1
  have p0 := per_is h h0
  have hl1 := orb_lenP l (2 * e + 1)
  have hl0 := orb_lenP l (2 * e)
  have g1 : ∀ k, k < per l (2 * e + 1) → (orb l (2 * e + 1) ++ orb l (2 * e)).getD k 0 = it l k (2 * e + 1) := fun k hk => by
    rw [← orb_get l (2 * e + 1) hk]
    simp only [List.getD_eq_getElem?_getD]
    rw [List.getElem?_append_left (by rw [hl1]; exact hk)]
  have g0 : ∀ k, k < per l (2 * e) → (orb l (2 * e + 1) ++ orb l (2 * e)).getD (per l (2 * e + 1) + k) 0 = it l k (2 * e) := fun k hk => by
    rw [← orb_get l (2 * e) hk]
    simp only [List.getD_eq_getElem?_getD]
    rw [List.getElem?_append_right (by rw [hl1]; omega), hl1, Nat.add_sub_cancel_left]
  have hL : (orb l (2 * e + 1) ++ orb l (2 * e)).length = per l (2 * e + 1) + per l (2 * e) := by rw [List.length_append, hl1, hl0]
  intro i hi
  rw [hL] at hi
  unfold nxt
  rw [hL]
  by_cases c : i < per l (2 * e + 1)
  · rw [g1 i c]
    have hs : sgL l (it l i (2 * e + 1)) = it l (i + 1) (2 * e + 1) := rfl
    have hpos : 0 < per l (2 * e) := p0.1
    show _ = swE e (sgL l (it l i (2 * e + 1)))
    rw [if_pos (by omega), hs]
    by_cases d : i + 1 < per l (2 * e + 1)
    · rw [g1 _ d]
      unfold swE
      rw [if_neg (no1 _), if_neg (p1.2.2 _ (by omega) d)]
    · have hp : i + 1 = per l (2 * e + 1) := by omega
      have hz : (orb l (2 * e + 1) ++ orb l (2 * e)).getD (per l (2 * e + 1)) 0 = it l 0 (2 * e) := g0 0 hpos
      rw [hp, hz, p1.2.1]
      unfold swE
      rw [if_neg (by omega), if_pos rfl]; rfl
  · obtain ⟨k, rfl⟩ : ∃ k, i = per l (2 * e + 1) + k := ⟨i - per l (2 * e + 1), by omega⟩
    have hk : k < per l (2 * e) := by omega
    rw [g0 k hk]
    have hs : sgL l (it l k (2 * e)) = it l (k + 1) (2 * e) := rfl
    show _ = swE e (sgL l (it l k (2 * e)))
    rw [hs]
    by_cases d : k + 1 < per l (2 * e)
    · rw [if_pos (by omega), Nat.add_assoc, g0 _ d]
      unfold swE
      rw [if_neg (p0.2.2 _ (by omega) d), if_neg (no2 _)]
    · have hp : k + 1 = per l (2 * e) := by omega
      rw [if_neg (by omega), hp, p0.2.1, g1 0 p1.1]
      unfold swE
      rw [if_pos rfl]; rfl
theorem flt_shrink (h : Inv l b) {e : Nat} (he : e < l.length / 2) (hne : nameOf l (2 * e) ≠ nameOf l (2 * e + 1)) {i : Nat} (hi : i < (fltE e (orb l (2 * e + 1)) ++ fltE e (orb l (2 * e))).length) :
    nxt (fltE e (orb l (2 * e + 1)) ++ fltE e (orb l (2 * e))) i = outN (phiL l) e (sgL l ((fltE e (orb l (2 * e + 1)) ++ fltE e (orb l (2 * e))).getD i 0)) := by
  have h0 : 2 * e < l.length := by omega
  have h1 : 2 * e + 1 < l.length := by omega
  have hpf := sgL_pf h
  rw [← fltE_app] at hi ⊢
  have hf := (two_cyc h he hne).fst (fun x => decide (x / 2 ≠ e)) hi
  have hm : (fltE e (orb l (2 * e + 1) ++ orb l (2 * e))).getD i 0 ∈ fltE e (orb l (2 * e + 1) ++ orb l (2 * e)) := by
    rw [List.getD_eq_getElem?_getD, List.getElem?_eq_getElem hi]; exact List.getElem_mem hi
  obtain ⟨hm1, hm2⟩ := List.mem_filter.1 hm
  have hxe : (fltE e (orb l (2 * e + 1) ++ orb l (2 * e))).getD i 0 / 2 ≠ e := of_decide_eq_true hm2
  have hx : (fltE e (orb l (2 * e + 1) ++ orb l (2 * e))).getD i 0 < l.length := by
    rcases List.mem_append.1 hm1 with q | q
    · obtain ⟨t, ht⟩ := (mem_orb h h1).1 q
      rw [← ht]; exact it_lt h h1 t
    · obtain ⟨t, ht⟩ := (mem_orb h h0).1 q
      rw [← ht]; exact it_lt h h0 t
  obtain ⟨t, t1, t2, t3, t4⟩ := hf
  have key : ∀ x, x < l.length → x / 2 ≠ e → Fst (fun x => swE e (sgL l x)) (fun y => y / 2 ≠ e) x (outN (phiL l) e (sgL l x)) := fun x hx hxe => by
    have z1 : (phiL l).getD (2 * e + 1) 0 = sgL l (2 * e) := by
      have := phi_at l h1
      have e1 : mt (2 * e + 1) = 2 * e := by unfold mt; rw [if_neg (by omega)]; omega
      rw [e1] at this; exact this
    have z0 : (phiL l).getD (2 * e) 0 = sgL l (2 * e + 1) := by
      have := phi_at l h0
      have e1 : mt (2 * e) = 2 * e + 1 := by unfold mt; rw [if_pos (by omega)]
      rw [e1] at this; exact this
    have no1 : sgL l (2 * e + 1) ≠ 2 * e := fun c => hne ((name_iff h h0 h1).2 (hpf.eqv.symm _ _ h1 h0 ⟨1, c⟩))
    have no2 : sgL l (2 * e) ≠ 2 * e + 1 := fun c => hne ((name_iff h h0 h1).2 ⟨1, c⟩)
    have inj := hpf.inj
    have one : ∀ y, y / 2 ≠ e → swE e y = y := fun y hy => by unfold swE; rw [if_neg (by omega), if_neg (by omega)]
    have s0 : swE e (2 * e) = 2 * e + 1 := by unfold swE; rw [if_pos rfl]
    have s1 : swE e (2 * e + 1) = 2 * e := by unfold swE; rw [if_neg (by omega), if_pos rfl]
    by_cases c : sgL l x / 2 ≠ e
    · have ho : outN (phiL l) e (sgL l x) = sgL l x := by unfold outN; rw [if_pos c]
      rw [ho]
      exact ⟨1, by omega, one _ c, c, fun s a1 a2 => by omega⟩
    · have hc : sgL l x = 2 * e ∨ sgL l x = 2 * e + 1 := by omega
      rcases hc with hc | hc
      · -- on goes the other dart of the edge
        by_cases d : sgL l (2 * e + 1) / 2 ≠ e
        · have ho : outN (phiL l) e (sgL l x) = sgL l (2 * e + 1) := by unfold outN; rw [if_neg c, hc, z0, if_pos d]
          rw [ho]
          refine ⟨2, by omega, ?_, d, fun s a1 a2 => ?_⟩
          · show swE e (sgL l (swE e (sgL l x))) = _
            rw [hc, s0, one _ d]
          · obtain rfl : s = 1 := by omega
            show ¬ swE e (sgL l x) / 2 ≠ e
            rw [hc, s0]; omega
        · have hd : sgL l (2 * e + 1) = 2 * e + 1 := by omega
          have d2 : sgL l (2 * e) / 2 ≠ e := fun c2 => by
            have : sgL l (2 * e) = 2 * e := by omega
            have := inj x (2 * e) hx h0 (by rw [hc, this])
            omega
          have ho : outN (phiL l) e (sgL l x) = sgL l (2 * e) := by unfold outN; rw [if_neg c, hc, z0, if_neg d, hd, z1]
          rw [ho]
          refine ⟨3, by omega, ?_, d2, fun s a1 a2 => ?_⟩
          · show swE e (sgL l (swE e (sgL l (swE e (sgL l x))))) = _
            rw [hc, s0, hd, s1, one _ d2]
          · have : s = 1 ∨ s = 2 := by omega
            rcases this with rfl | rfl
            · show ¬ swE e (sgL l x) / 2 ≠ e
              rw [hc, s0]; omega
            · show ¬ swE e (sgL l (swE e (sgL l x))) / 2 ≠ e
              rw [hc, s0, hd, s1]; omega
      · by_cases d : sgL l (2 * e) / 2 ≠ e
        · have ho : outN (phiL l) e (sgL l x) = sgL l (2 * e) := by unfold outN; rw [if_neg c, hc, z1, if_pos d]
          rw [ho]
          refine ⟨2, by omega, ?_, d, fun s a1 a2 => ?_⟩
          · show swE e (sgL l (swE e (sgL l x))) = _
            rw [hc, s1, one _ d]
          · obtain rfl : s = 1 := by omega
            show ¬ swE e (sgL l x) / 2 ≠ e
            rw [hc, s1]; omega
        · have hd : sgL l (2 * e) = 2 * e := by omega
          have d2 : sgL l (2 * e + 1) / 2 ≠ e := fun c2 => by
            have : sgL l (2 * e + 1) = 2 * e + 1 := by omega
            have := inj x (2 * e + 1) hx h1 (by rw [hc, this])
            omega
          have ho : outN (phiL l) e (sgL l x) = sgL l (2 * e + 1) := by unfold outN; rw [if_neg c, hc, z1, if_neg d, hd, z0]
          rw [ho]
          refine ⟨3, by omega, ?_, d2, fun s a1 a2 => ?_⟩
          · show swE e (sgL l (swE e (sgL l (swE e (sgL l x))))) = _
            rw [hc, s1, hd, s0, one _ d2]
          · have : s = 1 ∨ s = 2 := by omega
            rcases this with rfl | rfl
            · show ¬ swE e (sgL l x) / 2 ≠ e
              rw [hc, s1]; omega
            · show ¬ swE e (sgL l (swE e (sgL l x))) / 2 ≠ e
              rw [hc, s1, hd, s0]; omega
  exact Fst.uniq (S := fun y => y / 2 ≠ e) ⟨t, t1, t2, of_decide_eq_true t3, fun s s1 s2 c => t4 s s1 s2 (decide_eq_true c)⟩ (key _ hx hxe)
/-! ### what the document's lists have -/
/-- The vertices that the edge is not at, of the first k darts. -/
noncomputable def othN (l : List Nat) (e k : Nat) : List (List Nat) := (((leads l k).filter fun d => decide (nameOf l d ≠ nameOf l (2 * e) ∧ nameOf l d ≠ nameOf l (2 * e + 1))).map (orb l))
end
end Go.Proofs.Ytnnjjhjohjajnaa
