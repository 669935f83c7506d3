/- Two filtered rows of darts put together: who stands behind whom in the map with the edge made one. What the document's lists tell of the map without an edge, and of the map with the edge made one. The map with an edge made one: vertices, faces, parts, genus. made: a map of numbers, and the document's (layer 10). One. The document's examples, and DualNil: the walks. DualTurns: an edge made one in the map is cut in the dual. -/
import Derived.Test.YthdmkcnclmgdlaaZg16
import Derived.Test.YthdmkcnclmgdlaaZg3
import Derived.Test.YthdmkcnclmgdlaaZg2
import Derived.Test.YthdmkcnclmgdlaaZPMake
import Derived.Test.YthdmkcnclmgdlaaZUAwake
import Derived.Test.YthdmkcnclmgdlaaZUCut
import Derived.Test.YthdmkcnclmgdlaaZERow5
import Derived.Test.YthdmkcnclmgdlaaZPRef2
import Derived.Test.YthdmkcnclmgdlaaZg1
import Derived.Test.YthdmkcnclmgdlaaZDMap2
namespace Go.Proofs.Ythdmkcnclmgdlaa
set_option maxRecDepth 20000
open Go.RowKit
set_option linter.unusedVariables false
def swE (e y : Nat) : Nat := if y = 2 * e then 2 * e + 1 else if y = 2 * e + 1 then 2 * e else y
section
variable {l b : List Nat}
theorem fltE_app (e : Nat) (L M : List Nat) : fltE e (L ++ M) = fltE e L ++ fltE e M := by unfold fltE; rw [List.filter_append]
theorem orb_get (l : List Nat) (d : Nat) {k : Nat} (hk : k < per l d) : (orb l d).getD k 0 = it l k d := by
  unfold orb; exact way_get l d _ k hk
theorem orb_lenP (l : List Nat) (d : Nat) : (orb l d).length = per l d := by unfold orb; exact way_len _ _ _
/-- Two vertices' darts, one row behind the other: around goes l with the edge's darts exchanged. -/
theorem two_cyc (h : Inv l b) {e : Nat} (he : e < l.length / 2) (hne : nameOf l (2 * e) ≠ nameOf l (2 * e + 1)) : CycU (fun x => swE e (sgL l x)) (orb l (2 * e + 1) ++ orb l (2 * e)) := by
  have h0 : 2 * e < l.length := by omega
  have h1 : 2 * e + 1 < l.length := by omega
  have hpf := sgL_pf h
  have no1 : ∀ k, it l k (2 * e + 1) ≠ 2 * e := fun k c => hne ((name_iff h h0 h1).2 (hpf.eqv.symm _ _ h1 h0 ⟨k, by rw [sgL_it]; exact c⟩))
  have no2 : ∀ k, it l k (2 * e) ≠ 2 * e + 1 := fun k c => hne ((name_iff h h0 h1).2 ⟨k, by rw [sgL_it]; exact c⟩)
  have p1 := per_is h h1
  have p0 := per_is h h0
  have hl1 := orb_lenP l (2 * e + 1)
  have hl0 := orb_lenP l (2 * e)
  have g1 : ∀ k, k < per l (2 * e + 1) → (orb l (2 * e + 1) ++ orb l (2 * e)).getD k 0 = it l k (2 * e + 1) := fun k hk => by
    rw [← orb_get l (2 * e + 1) hk]
    simp only [List.getD_eq_getElem?_getD]
    rw [List.getElem?_append_left (by rw [hl1]; exact hk)]
  have g0 : ∀ k, k < per l (2 * e) → (orb l (2 * e + 1) ++ orb l (2 * e)).getD (per l (2 * e + 1) + k) 0 = it l k (2 * e) := fun k hk => by
    rw [← orb_get l (2 * e) hk]
    simp only [List.getD_eq_getElem?_getD]
    rw [List.getElem?_append_right (by rw [hl1]; omega), hl1, Nat.add_sub_cancel_left]
  have hL : (orb l (2 * e + 1) ++ orb l (2 * e)).length = per l (2 * e + 1) + per l (2 * e) := by rw [List.length_append, hl1, hl0]
  intro i hi
  rw [hL] at hi
  unfold nxt
  rw [hL]
  by_cases c : i < per l (2 * e + 1)
  · rw [g1 i c]
    have hs : sgL l (it l i (2 * e + 1)) = it l (i + 1) (2 * e + 1) := rfl
    have hpos : 0 < per l (2 * e) := p0.1
    show _ = swE e (sgL l (it l i (2 * e + 1)))
    rw [if_pos (by omega), hs]
    by_cases d : i + 1 < per l (2 * e + 1)
    · rw [g1 _ d]
      unfold swE
      rw [if_neg (no1 _), if_neg (p1.2.2 _ (by omega) d)]
    · have hp : i + 1 = per l (2 * e + 1) := by omega
      have hz : (orb l (2 * e + 1) ++ orb l (2 * e)).getD (per l (2 * e + 1)) 0 = it l 0 (2 * e) := g0 0 hpos
      rw [hp, hz, p1.2.1]
      unfold swE
      rw [if_neg (by omega), if_pos rfl]; rfl
  · obtain ⟨k, rfl⟩ : ∃ k, i = per l (2 * e + 1) + k := ⟨i - per l (2 * e + 1), by omega⟩
    have hk : k < per l (2 * e) := by omega
    rw [g0 k hk]
    have hs : sgL l (it l k (2 * e)) = it l (k + 1) (2 * e) := rfl
    show _ = swE e (sgL l (it l k (2 * e)))
    rw [hs]
    by_cases d : k + 1 < per l (2 * e)
    · rw [if_pos (by omega), Nat.add_assoc, g0 _ d]
      unfold swE
      rw [if_neg (p0.2.2 _ (by omega) d), if_neg (no2 _)]
    · have hp : k + 1 = per l (2 * e) := by omega
      rw [if_neg (by omega), hp, p0.2.1, g1 0 p1.1]
      unfold swE
      rw [if_pos rfl]; rfl
theorem flt_shrink (h : Inv l b) {e : Nat} (he : e < l.length / 2) (hne : nameOf l (2 * e) ≠ nameOf l (2 * e + 1)) {i : Nat} (hi : i < (fltE e (orb l (2 * e + 1)) ++ fltE e (orb l (2 * e))).length) :
    nxt (fltE e (orb l (2 * e + 1)) ++ fltE e (orb l (2 * e))) i = outN (phiL l) e (sgL l ((fltE e (orb l (2 * e + 1)) ++ fltE e (orb l (2 * e))).getD i 0)) := by
  have h0 : 2 * e < l.length := by omega
  have h1 : 2 * e + 1 < l.length := by omega
  have hpf := sgL_pf h
  rw [← fltE_app] at hi ⊢
  have hf := (two_cyc h he hne).fst (fun x => decide (x / 2 ≠ e)) hi
  have hm : (fltE e (orb l (2 * e + 1) ++ orb l (2 * e))).getD i 0 ∈ fltE e (orb l (2 * e + 1) ++ orb l (2 * e)) := by
    rw [List.getD_eq_getElem?_getD, List.getElem?_eq_getElem hi]; exact List.getElem_mem hi
  obtain ⟨hm1, hm2⟩ := List.mem_filter.1 hm
  have hxe : (fltE e (orb l (2 * e + 1) ++ orb l (2 * e))).getD i 0 / 2 ≠ e := of_decide_eq_true hm2
  have hx : (fltE e (orb l (2 * e + 1) ++ orb l (2 * e))).getD i 0 < l.length := by
    rcases List.mem_append.1 hm1 with q | q
    · obtain ⟨t, ht⟩ := (mem_orb h h1).1 q
      rw [← ht]; exact it_lt h h1 t
    · obtain ⟨t, ht⟩ := (mem_orb h h0).1 q
      rw [← ht]; exact it_lt h h0 t
  obtain ⟨t, t1, t2, t3, t4⟩ := hf
  have key : ∀ x, x < l.length → x / 2 ≠ e → Fst (fun x => swE e (sgL l x)) (fun y => y / 2 ≠ e) x (outN (phiL l) e (sgL l x)) := fun x hx hxe => by
    have z1 : (phiL l).getD (2 * e + 1) 0 = sgL l (2 * e) := by
      have := phi_at l h1
      have e1 : mt (2 * e + 1) = 2 * e := by unfold mt; rw [if_neg (by omega)]; omega
      rw [e1] at this; exact this
    have z0 : (phiL l).getD (2 * e) 0 = sgL l (2 * e + 1) := by
      have := phi_at l h0
      have e1 : mt (2 * e) = 2 * e + 1 := by unfold mt; rw [if_pos (by omega)]
      rw [e1] at this; exact this
    have no1 : sgL l (2 * e + 1) ≠ 2 * e := fun c => hne ((name_iff h h0 h1).2 (hpf.eqv.symm _ _ h1 h0 ⟨1, c⟩))
    have no2 : sgL l (2 * e) ≠ 2 * e + 1 := fun c => hne ((name_iff h h0 h1).2 ⟨1, c⟩)
    have inj := hpf.inj
    have one : ∀ y, y / 2 ≠ e → swE e y = y := fun y hy => by unfold swE; rw [if_neg (by omega), if_neg (by omega)]
    have s0 : swE e (2 * e) = 2 * e + 1 := by unfold swE; rw [if_pos rfl]
    have s1 : swE e (2 * e + 1) = 2 * e := by unfold swE; rw [if_neg (by omega), if_pos rfl]
    by_cases c : sgL l x / 2 ≠ e
    · have ho : outN (phiL l) e (sgL l x) = sgL l x := by unfold outN; rw [if_pos c]
      rw [ho]
      exact ⟨1, by omega, one _ c, c, fun s a1 a2 => by omega⟩
    · have hc : sgL l x = 2 * e ∨ sgL l x = 2 * e + 1 := by omega
      rcases hc with hc | hc
      · -- on goes the other dart of the edge
        by_cases d : sgL l (2 * e + 1) / 2 ≠ e
        · have ho : outN (phiL l) e (sgL l x) = sgL l (2 * e + 1) := by unfold outN; rw [if_neg c, hc, z0, if_pos d]
          rw [ho]
          refine ⟨2, by omega, ?_, d, fun s a1 a2 => ?_⟩
          · show swE e (sgL l (swE e (sgL l x))) = _
            rw [hc, s0, one _ d]
          · obtain rfl : s = 1 := by omega
            show ¬ swE e (sgL l x) / 2 ≠ e
            rw [hc, s0]; omega
        · have hd : sgL l (2 * e + 1) = 2 * e + 1 := by omega
          have d2 : sgL l (2 * e) / 2 ≠ e := fun c2 => by
            have : sgL l (2 * e) = 2 * e := by omega
            have := inj x (2 * e) hx h0 (by rw [hc, this])
            omega
          have ho : outN (phiL l) e (sgL l x) = sgL l (2 * e) := by unfold outN; rw [if_neg c, hc, z0, if_neg d, hd, z1]
          rw [ho]
          refine ⟨3, by omega, ?_, d2, fun s a1 a2 => ?_⟩
          · show swE e (sgL l (swE e (sgL l (swE e (sgL l x))))) = _
            rw [hc, s0, hd, s1, one _ d2]
          · have : s = 1 ∨ s = 2 := by omega
            rcases this with rfl | rfl
            · show ¬ swE e (sgL l x) / 2 ≠ e
              rw [hc, s0]; omega
            · show ¬ swE e (sgL l (swE e (sgL l x))) / 2 ≠ e
              rw [hc, s0, hd, s1]; omega
      · by_cases d : sgL l (2 * e) / 2 ≠ e
        · have ho : outN (phiL l) e (sgL l x) = sgL l (2 * e) := by unfold outN; rw [if_neg c, hc, z1, if_pos d]
          rw [ho]
          refine ⟨2, by omega, ?_, d, fun s a1 a2 => ?_⟩
          · show swE e (sgL l (swE e (sgL l x))) = _
            rw [hc, s1, one _ d]
          · obtain rfl : s = 1 := by omega
            show ¬ swE e (sgL l x) / 2 ≠ e
            rw [hc, s1]; omega
        · have hd : sgL l (2 * e) = 2 * e := by omega
          have d2 : sgL l (2 * e + 1) / 2 ≠ e := fun c2 => by
            have : sgL l (2 * e + 1) = 2 * e + 1 := by omega
            have := inj x (2 * e + 1) hx h1 (by rw [hc, this])
            omega
          have ho : outN (phiL l) e (sgL l x) = sgL l (2 * e + 1) := by unfold outN; rw [if_neg c, hc, z1, if_neg d, hd, z0]
          rw [ho]
          refine ⟨3, by omega, ?_, d2, fun s a1 a2 => ?_⟩
          · show swE e (sgL l (swE e (sgL l (swE e (sgL l x))))) = _
            rw [hc, s1, hd, s0, one _ d2]
          · have : s = 1 ∨ s = 2 := by omega
            rcases this with rfl | rfl
            · show ¬ swE e (sgL l x) / 2 ≠ e
              rw [hc, s1]; omega
            · show ¬ swE e (sgL l (swE e (sgL l x))) / 2 ≠ e
              rw [hc, s1, hd, s0]; omega
  exact Fst.uniq (S := fun y => y / 2 ≠ e) ⟨t, t1, t2, of_decide_eq_true t3, fun s s1 s2 c => t4 s s1 s2 (decide_eq_true c)⟩ (key _ hx hxe)
/-! ### what the document's lists have -/
/-- The vertices that the edge is not at, of the first k darts. -/
noncomputable def othN (l : List Nat) (e k : Nat) : List (List Nat) := (((leads l k).filter fun d => decide (nameOf l d ≠ nameOf l (2 * e) ∧ nameOf l d ≠ nameOf l (2 * e + 1))).map (orb l))
end
end Go.Proofs.Ythdmkcnclmgdlaa
namespace Go.Proofs.Ythdmkcnclmgdlaa
set_option maxRecDepth 20000
open Go.RowKit
set_option linter.unusedVariables false
section
variable {l b : List Nat}
theorem un_calE {e x : Nat} (hx : x / 2 ≠ e) : unN e (calN e x) = x := by unfold unN calN; split <;> split <;> omega
theorem cal_ltE {e x n : Nat} (hE : 2 * e + 2 ≤ n) (hx : x < n) (hxe : x / 2 ≠ e) : calN e x < n - 2 := by unfold calN; split <;> omega
theorem wo_at (l z : List Nat) {e x : Nat} (hE : 2 * e + 2 ≤ l.length) (hx : x < l.length) (hxe : x / 2 ≠ e) : (woN l z e).getD (calN e x) 0 = calN e (outN z e (l.getD x 0)) := by
  rw [woN_get l z e _ hE (cal_ltE hE hx hxe), un_calE hxe]
/-- A row tells of the list T what stands behind each of its darts. -/
def Tells (n e : Nat) (T v : List Nat) : Prop := ∀ i, i < v.length → v.getD i 0 < n ∧ v.getD i 0 / 2 ≠ e ∧ nxt v i < n ∧ nxt v i / 2 ≠ e ∧ calN e (nxt v i) = T.getD (calN e (v.getD i 0)) 0
theorem nxt_mem {v : List Nat} {i : Nat} (hi : i < v.length) : nxt v i ∈ v := by
  have key : ∀ k, k < v.length → v.getD k 0 ∈ v := fun k hk => by
    rw [List.getD_eq_getElem?_getD, List.getElem?_eq_getElem hk]; exact List.getElem_mem hk
  unfold nxt
  split
  · exact key _ (by assumption)
  · exact key 0 (by omega)
theorem getD_memE {v : List Nat} {i : Nat} (hi : i < v.length) : v.getD i 0 ∈ v := by
  rw [List.getD_eq_getElem?_getD, List.getElem?_eq_getElem hi]; exact List.getElem_mem hi
theorem orb_ltE (h : Inv l b) {d x : Nat} (hd : d < l.length) (hx : x ∈ orb l d) : x < l.length := by
  obtain ⟨t, ht⟩ := (mem_orb h hd).1 hx
  rw [← ht]; exact it_lt h hd t
theorem flt_memE {e x : Nat} {L : List Nat} (hx : x ∈ fltE e L) : x ∈ L ∧ x / 2 ≠ e := by
  obtain ⟨h1, h2⟩ := List.mem_filter.1 hx
  exact ⟨h1, of_decide_eq_true h2⟩
theorem mem_fltE {e x : Nat} {L : List Nat} (hx : x ∈ L) (hxe : x / 2 ≠ e) : x ∈ fltE e L := List.mem_filter.2 ⟨hx, decide_eq_true hxe⟩
/-- Cut: a vertex of the edge. -/
theorem tells_cut (h : Inv l b) {e d : Nat} (he : e < l.length / 2) (hd : d < l.length) : Tells l.length e (woN l l e) (fltE e (orb l d)) := fun i hi => by
  obtain ⟨m1, m2⟩ := flt_memE (getD_memE hi)
  obtain ⟨n1, n2⟩ := flt_memE (nxt_mem hi)
  refine ⟨orb_ltE h hd m1, m2, orb_ltE h hd n1, n2, ?_⟩
  rw [wo_at l l (by omega) (orb_ltE h hd m1) m2, flt_cut h he hd hi]
  rfl
/-- Either: a vertex that the edge is not at. -/
theorem tells_oth (h : Inv l b) {e d : Nat} (z : List Nat) (he : e < l.length / 2) (hd : d < l.length) (hx : ∀ x, x ∈ orb l d → x / 2 ≠ e) : Tells l.length e (woN l z e) (orb l d) := fun i hi => by
  have m1 := getD_memE hi
  have n1 := nxt_mem hi
  refine ⟨orb_ltE h hd m1, hx _ m1, orb_ltE h hd n1, hx _ n1, ?_⟩
  have hc := orb_cyc h hd i hi
  have hs : (orb l d).getD i 0 < l.length := orb_ltE h hd m1
  rw [wo_at l z (by omega) hs (hx _ m1)]
  have hne : l.getD ((orb l d).getD i 0) 0 / 2 ≠ e := by
    have := hx _ n1
    rw [hc] at this; exact this
  unfold outN
  rw [if_pos hne, hc]; rfl
/-- Shrunk: the two vertices' darts. -/
theorem tells_one (h : Inv l b) {e : Nat} (he : e < l.length / 2) (hne : nameOf l (2 * e) ≠ nameOf l (2 * e + 1)) : Tells l.length e (woN l (phiL l) e) (fltE e (orb l (2 * e + 1)) ++ fltE e (orb l (2 * e))) := fun i hi => by
  have mem : ∀ x, x ∈ fltE e (orb l (2 * e + 1)) ++ fltE e (orb l (2 * e)) → x < l.length ∧ x / 2 ≠ e := fun x hx => by
    rcases List.mem_append.1 hx with q | q
    · obtain ⟨q1, q2⟩ := flt_memE q
      exact ⟨orb_ltE h (by omega) q1, q2⟩
    · obtain ⟨q1, q2⟩ := flt_memE q
      exact ⟨orb_ltE h (by omega) q1, q2⟩
  obtain ⟨m1, m2⟩ := mem _ (getD_memE hi)
  obtain ⟨n1, n2⟩ := mem _ (nxt_mem hi)
  refine ⟨m1, m2, n1, n2, ?_⟩
  rw [wo_at l (phiL l) (by omega) m1 m2, flt_shrink h he hne hi]
  rfl
theorem oth_clear (h : Inv l b) {e d x : Nat} (he : e < l.length / 2) (hd : d < l.length) (n0 : nameOf l d ≠ nameOf l (2 * e)) (n1 : nameOf l d ≠ nameOf l (2 * e + 1)) (hx : x ∈ orb l d) : x / 2 ≠ e := fun c => by
  obtain ⟨t, ht⟩ := (mem_orb h hd).1 hx
  have o : Orb (sgL l) d x := ⟨t, by rw [sgL_it]; exact ht⟩
  have hxl := orb_ltE h hd hx
  have := (name_iff h hd hxl).2 o
  have hc : x = 2 * e ∨ x = 2 * e + 1 := by omega
  rcases hc with rfl | rfl
  · exact n0 this
  · exact n1 this
theorem oth_mem {e k : Nat} : ∀ {v : List Nat}, v ∈ othN l e k → ∃ d, d ∈ leads l k ∧ nameOf l d ≠ nameOf l (2 * e) ∧ nameOf l d ≠ nameOf l (2 * e + 1) ∧ v = orb l d := fun {v} hv => by
  unfold othN at hv
  obtain ⟨d, hd, rfl⟩ := List.mem_map.1 hv
  obtain ⟨h1, h2⟩ := List.mem_filter.1 hd
  have h3 := of_decide_eq_true h2
  exact ⟨d, h1, h3.1, h3.2, rfl⟩
theorem leads_in {d k : Nat} : d ∈ leads l k ↔ d < k ∧ Leads l d := by
  unfold leads
  rw [List.mem_filter, List.mem_range, decide_eq_true_iff]
/-- All that is left stands in some row. -/
theorem cov_any (h : Inv l b) {e x : Nat} (he : e < l.length / 2) (hx : x < l.length) (hxe : x / 2 ≠ e) :
    (∃ v, v ∈ othN l e l.length ∧ x ∈ v) ∨ (nameOf l x = nameOf l (2 * e) ∧ x ∈ fltE e (orb l (2 * e))) ∨ (nameOf l x = nameOf l (2 * e + 1) ∧ x ∈ fltE e (orb l (2 * e + 1))) := by
  have own : ∀ d, d < l.length → nameOf l x = nameOf l d → x ∈ fltE e (orb l d) := fun d hd c => by
    obtain ⟨t, ht⟩ := (name_iff h hd hx).1 c.symm
    exact mem_fltE ((mem_orb h hd).2 ⟨t, by rw [← sgL_it]; exact ht⟩) hxe
  by_cases c0 : nameOf l x = nameOf l (2 * e)
  · exact .inr (.inl ⟨c0, own _ (by omega) c0⟩)
  · by_cases c1 : nameOf l x = nameOf l (2 * e + 1)
    · exact .inr (.inr ⟨c1, own _ (by omega) c1⟩)
    · obtain ⟨h1, h2, h3⟩ := lead_is h hx
      have hlt : lead l x < l.length := by omega
      have hn : nameOf l (lead l x) = nameOf l x := by
        obtain ⟨t, ht⟩ := (mem_orb h hlt).1 h3
        exact (name_iff h hlt hx).2 ⟨t, by rw [sgL_it]; exact ht⟩
      refine .inl ⟨orb l (lead l x), ?_, h3⟩
      unfold othN
      refine List.mem_map.2 ⟨lead l x, List.mem_filter.2 ⟨leads_in.2 ⟨hlt, h2⟩, decide_eq_true ⟨?_, ?_⟩⟩, rfl⟩
      · rw [hn]; exact c0
      · rw [hn]; exact c1
end
end Go.Proofs.Ythdmkcnclmgdlaa
namespace Go.Proofs.Ythdmkcnclmgdlaa
set_option maxRecDepth 20000
open Go.RowKit
set_option linter.unusedVariables false
section
variable {l b : List Nat}
open Classical in
/-- Classes of what is left of n numbers, two taken out. -/
theorem un_cls {e : Nat} (hE : 2 * e + 2 ≤ l.length) {Q R : Nat → Nat → Prop} (hQ : ∀ j k, j < l.length - 2 → k < l.length - 2 → (Q j k ↔ R (unN e j) (unN e k))) :
    cls Q (fun _ => True) (l.length - 2) = cls (isoR (isoR R (2 * e)) (2 * e + 1)) (fun i => (True ∧ i ≠ 2 * e) ∧ i ≠ 2 * e + 1) l.length := by
  have hc : cntE e l.length = l.length - 2 := by unfold cntE; rw [if_neg (by omega), if_neg (by omega)]
  have e1 : num (fun i => ((True ∧ i ≠ 2 * e) ∧ i ≠ 2 * e + 1) ∧ Least (isoR (isoR R (2 * e)) (2 * e + 1)) i) l.length = (((List.range l.length).filter (fun d => decide (d / 2 ≠ e))).filter (fun i => decide (Least (isoR (isoR R (2 * e)) (2 * e + 1)) i))).length := by
    unfold num
    rw [List.filter_filter]
    congr 1
    apply List.filter_congr
    intro i _
    rw [← Bool.decide_and, decide_eq_decide]
    constructor
    · rintro ⟨⟨⟨_, a⟩, c⟩, q⟩; exact ⟨q, by omega⟩
    · rintro ⟨q, a⟩; exact ⟨⟨⟨trivial, by omega⟩, by omega⟩, q⟩
  rw [cls_num, cls_num]
  unfold num at e1 ⊢
  rw [e1, filt_un, List.filter_map, List.length_map, hc]
  congr 1
  apply List.filter_congr
  intro j hj
  have hj : j < l.length - 2 := by simpa using hj
  rw [Bool.eq_iff_iff]
  simp only [Function.comp_apply, decide_eq_true_eq]
  have hn := (unN_is e j).1
  constructor
  · rintro ⟨_, H⟩ i hi r
    rcases r with r | ⟨r1, r2, r | ⟨r3, r4, r5⟩⟩
    · omega
    · omega
    · have ci : i / 2 ≠ e := by omega
      have := unN_lt hE hj
      have hil : i < l.length := by omega
      have hcl := calN_lt e i l.length ci hil hE
      have hcu := calN_un e i ci
      have hlt : calN e i < j := by
        rcases Nat.lt_or_ge (calN e i) j with c | c
        · exact c
        · rcases Nat.lt_or_ge j (calN e i) with c' | c'
          · have := un_mono (e := e) c'; omega
          · have : calN e i = j := by omega
            rw [this] at hcu; omega
      exact H _ hlt ((hQ _ _ hcl hj).2 (by rw [hcu]; exact r5))
  · intro H
    refine ⟨trivial, fun j' hj' r => H (unN e j') (un_mono hj') ?_⟩
    have hn' := (unN_is e j').1
    exact .inr ⟨by omega, by omega, .inr ⟨by omega, by omega, (hQ _ _ (by omega) hj).1 r⟩⟩
/-- All of a row that tells are of one orbit. -/
theorem tells_orb {n e : Nat} {T v : List Nat} (h : Tells n e T v) {i k : Nat} (hi : i < v.length) (hk : k < v.length) : Orb (sgL T) (calN e (v.getD i 0)) (calN e (v.getD k 0)) := by
  have hc : CycU (sgL T) (v.map (calN e)) := by
    have g : ∀ j, j < v.length → (v.map (calN e)).getD j 0 = calN e (v.getD j 0) := fun j hj => by
      simp [List.getD_eq_getElem?_getD, List.getElem?_eq_getElem hj]
    intro j hj
    rw [List.length_map] at hj
    rw [g j hj]
    have ht := (h j hj).2.2.2.2
    show _ = T.getD _ 0
    rw [← ht]
    unfold nxt
    rw [List.length_map]
    split
    · next c => rw [g _ c]
    · rw [g 0 (by omega)]
  have g : ∀ j, j < v.length → (v.map (calN e)).getD j 0 = calN e (v.getD j 0) := fun j hj => by
    simp [List.getD_eq_getElem?_getD, List.getElem?_eq_getElem hj]
  have hit := hc.it (a := i) (by rw [List.length_map]; exact hi) (k + v.length - i)
  rw [List.length_map, g i hi, show i + (k + v.length - i) = k + v.length by omega, Nat.add_mod_right, Nat.mod_eq_of_lt hk, g k hk] at hit
  exact ⟨_, hit⟩
theorem mem_getE {v : List Nat} {x : Nat} (h : x ∈ v) : ∃ i, i < v.length ∧ v.getD i 0 = x := by
  obtain ⟨i, hi, e⟩ := List.getElem_of_mem h
  exact ⟨i, hi, by rw [List.getD_eq_getElem?_getD, List.getElem?_eq_getElem hi]; exact e⟩
theorem tells_mem {n e : Nat} {T v : List Nat} (h : Tells n e T v) {x y : Nat} (hx : x ∈ v) (hy : y ∈ v) : Orb (sgL T) (calN e x) (calN e y) := by
  obtain ⟨i, hi, rfl⟩ := mem_getE hx
  obtain ⟨k, hk, rfl⟩ := mem_getE hy
  exact tells_orb h hi hk
theorem outE (h : Inv l b) {e : Nat} (he : e < l.length / 2) (hne : nameOf l (2 * e) ≠ nameOf l (2 * e + 1)) {x : Nat} (hx : x < l.length) (hxe : x / 2 ≠ e) : outN (phiL l) e (sgL l x) / 2 ≠ e := by
  have h0 : 2 * e < l.length := by omega
  have h1 : 2 * e + 1 < l.length := by omega
  have hpf := sgL_pf h
  have z1 : (phiL l).getD (2 * e + 1) 0 = sgL l (2 * e) := by
    have := phi_at l h1
    have e1 : mt (2 * e + 1) = 2 * e := by unfold mt; rw [if_neg (by omega)]; omega
    rw [e1] at this; exact this
  have z0 : (phiL l).getD (2 * e) 0 = sgL l (2 * e + 1) := by
    have := phi_at l h0
    have e1 : mt (2 * e) = 2 * e + 1 := by unfold mt; rw [if_pos (by omega)]
    rw [e1] at this; exact this
  have no1 : sgL l (2 * e + 1) ≠ 2 * e := fun c => hne ((name_iff h h0 h1).2 (hpf.eqv.symm _ _ h1 h0 ⟨1, c⟩))
  have no2 : sgL l (2 * e) ≠ 2 * e + 1 := fun c => hne ((name_iff h h0 h1).2 ⟨1, c⟩)
  have inj := hpf.inj
  unfold outN
  split
  · assumption
  · next c =>
    have hc : sgL l x = 2 * e ∨ sgL l x = 2 * e + 1 := by omega
    rcases hc with hc | hc <;> rw [hc]
    · rw [z0]
      split
      · assumption
      · next d =>
        have hd : sgL l (2 * e + 1) = 2 * e + 1 := by omega
        rw [hd, z1]
        intro c2
        have : sgL l (2 * e) = 2 * e := by omega
        have := inj x (2 * e) hx h0 (by rw [hc, this])
        omega
    · rw [z1]
      split
      · assumption
      · next d =>
        have hd : sgL l (2 * e) = 2 * e := by omega
        rw [hd, z0]
        intro c2
        have : sgL l (2 * e + 1) = 2 * e + 1 := by omega
        have := inj x (2 * e + 1) hx h1 (by rw [hc, this])
        omega
/-- Vertices of the shrunk map. -/
theorem shr_orb (h : Inv l b) {e : Nat} (hE : 2 * e + 2 ≤ l.length) (he : e < l.length / 2) (hne : nameOf l (2 * e) ≠ nameOf l (2 * e + 1)) {j k : Nat} (hj : j < l.length - 2) (hk : k < l.length - 2) :
    Orb (sgL (woN l (phiL l) e)) j k ↔ joinR (Orb (sgL l)) (2 * e) (2 * e + 1) (unN e j) (unN e k) := by
  have hpf := sgL_pf h
  have h0 : 2 * e < l.length := by omega
  have h1 : 2 * e + 1 < l.length := by omega
  have hq := joinR.eqv hpf.eqv h0 h1
  have z1 : (phiL l).getD (2 * e + 1) 0 = sgL l (2 * e) := by
    have := phi_at l h1
    have e1 : mt (2 * e + 1) = 2 * e := by unfold mt; rw [if_neg (by omega)]; omega
    rw [e1] at this; exact this
  have z0 : (phiL l).getD (2 * e) 0 = sgL l (2 * e + 1) := by
    have := phi_at l h0
    have e1 : mt (2 * e) = 2 * e + 1 := by unfold mt; rw [if_pos (by omega)]
    rw [e1] at this; exact this
  have r01 : joinR (Orb (sgL l)) (2 * e) (2 * e + 1) (2 * e) (2 * e + 1) := .inr (.inl ⟨⟨0, rfl⟩, ⟨0, rfl⟩⟩)
  have r10 := hq.symm _ _ h0 h1 r01
  have st : ∀ x, joinR (Orb (sgL l)) (2 * e) (2 * e + 1) x (sgL l x) := fun x => .inl ⟨1, rfl⟩
  have lt := hpf.lt
  have out : ∀ y, y < l.length → joinR (Orb (sgL l)) (2 * e) (2 * e + 1) y (outN (phiL l) e y) := fun y hy => by
    have one : ∀ y, y < l.length → y / 2 = e → joinR (Orb (sgL l)) (2 * e) (2 * e + 1) y ((phiL l).getD y 0) ∧ (phiL l).getD y 0 < l.length := fun y hy c => by
      have : y = 2 * e ∨ y = 2 * e + 1 := by omega
      rcases this with rfl | rfl
      · rw [z0]; exact ⟨hq.trans _ _ _ h0 h1 (lt _ h1) r01 (st _), lt _ h1⟩
      · rw [z1]; exact ⟨hq.trans _ _ _ h1 h0 (lt _ h0) r10 (st _), lt _ h0⟩
    unfold outN
    split
    · exact hq.refl _ hy
    · next c =>
      obtain ⟨a1, a2⟩ := one y hy (by omega)
      split
      · exact a1
      · next d =>
        obtain ⟨b1, b2⟩ := one _ a2 (by omega)
        exact hq.trans _ _ _ hy a2 b2 a1 b1
  have step : ∀ j, j < l.length - 2 → joinR (Orb (sgL l)) (2 * e) (2 * e + 1) (unN e j) (unN e (sgL (woN l (phiL l) e) j)) ∧ sgL (woN l (phiL l) e) j < l.length - 2 := fun j hj => by
    have hu := unN_lt hE hj
    have hn := (unN_is e j).1
    rcases cov_any h he hu hn with ⟨v, hv, hx⟩ | ⟨_, hx⟩ | ⟨_, hx⟩
    all_goals (
      have ht : ∃ w, Tells l.length e (woN l (phiL l) e) w ∧ unN e j ∈ w := by
        first
          | (obtain ⟨d, d1, d2, d3, rfl⟩ := oth_mem hv
             exact ⟨_, tells_oth h (phiL l) he (leads_in.1 d1).1 (fun x hx => oth_clear h he (leads_in.1 d1).1 d2 d3 hx), hx⟩)
          | exact ⟨_, tells_one h he hne, List.mem_append.2 (.inr hx)⟩
          | exact ⟨_, tells_one h he hne, List.mem_append.2 (.inl hx)⟩
      obtain ⟨w, hw, hm⟩ := ht
      obtain ⟨i, hi, hix⟩ := mem_getE hm
      obtain ⟨_, _, q1, q2, q3⟩ := hw i hi
      rw [hix, (unN_is e j).2] at q3
      have hs : sgL (woN l (phiL l) e) j = calN e (nxt w i) := q3.symm
      rw [hs]
      have hval := woN_get l (phiL l) e j hE hj
      have hcl := cal_ltE hE q1 q2
      refine ⟨?_, hcl⟩
      rw [calN_un e _ q2]
      have e2 : calN e (nxt w i) = calN e (outN (phiL l) e (sgL l (unN e j))) := by rw [← hs]; exact hval
      have hol : nxt w i = outN (phiL l) e (sgL l (unN e j)) := by
        have hoe : outN (phiL l) e (sgL l (unN e j)) / 2 ≠ e := outE h he hne hu hn
        have := congrArg (unN e) e2
        rwa [calN_un e _ q2, calN_un e _ hoe] at this
      rw [hol]
      have hlu := lt _ hu
      exact hq.trans _ _ _ hu hlu (by rw [← hol]; exact q1) (st _) (out _ hlu))
  constructor
  · rintro ⟨s, rfl⟩
    have : ∀ s, joinR (Orb (sgL l)) (2 * e) (2 * e + 1) (unN e j) (unN e (itf (sgL (woN l (phiL l) e)) s j)) ∧ itf (sgL (woN l (phiL l) e)) s j < l.length - 2 := fun s => by
      induction s with
      | zero => exact ⟨hq.refl _ (unN_lt hE hj), hj⟩
      | succ s ih =>
        obtain ⟨c1, c2⟩ := step _ ih.2
        exact ⟨hq.trans _ _ _ (unN_lt hE hj) (unN_lt hE ih.2) (unN_lt hE c2) ih.1 c1, c2⟩
    exact (this s).1
  · intro r
    have hu := unN_lt hE hj
    have hv := unN_lt hE hk
    have hnu := (unN_is e j)
    have hnv := (unN_is e k)
    have inU : ∀ x, x < l.length → x / 2 ≠ e → (Orb (sgL l) x (2 * e) ∨ Orb (sgL l) x (2 * e + 1)) → x ∈ fltE e (orb l (2 * e + 1)) ++ fltE e (orb l (2 * e)) := fun x hx hxe o => by
      rcases o with o | o
      · obtain ⟨t, ht⟩ := hpf.eqv.symm _ _ hx h0 o
        exact List.mem_append.2 (.inr (mem_fltE ((mem_orb h h0).2 ⟨t, by rw [← sgL_it]; exact ht⟩) hxe))
      · obtain ⟨t, ht⟩ := hpf.eqv.symm _ _ hx h1 o
        exact List.mem_append.2 (.inl (mem_fltE ((mem_orb h h1).2 ⟨t, by rw [← sgL_it]; exact ht⟩) hxe))
    have fin : ∀ w, Tells l.length e (woN l (phiL l) e) w → unN e j ∈ w → unN e k ∈ w → Orb (sgL (woN l (phiL l) e)) j k := fun w hw m1 m2 => by
      have := tells_mem hw m1 m2
      rwa [hnu.2, hnv.2] at this
    have sym := hpf.eqv.symm
    have tr := hpf.eqv.trans
    by_cases cu : Orb (sgL l) (unN e j) (2 * e) ∨ Orb (sgL l) (unN e j) (2 * e + 1)
    · have cv : Orb (sgL l) (unN e k) (2 * e) ∨ Orb (sgL l) (unN e k) (2 * e + 1) := by
        rcases r with r | ⟨r1, r2⟩ | ⟨r1, r2⟩
        · rcases cu with c | c
          · exact .inl (tr _ _ _ hv hu h0 (sym _ _ hu hv r) c)
          · exact .inr (tr _ _ _ hv hu h1 (sym _ _ hu hv r) c)
        · exact .inr (sym _ _ h1 hv r2)
        · exact .inl (sym _ _ h0 hv r2)
      exact fin _ (tells_one h he hne) (inU _ hu hnu.1 cu) (inU _ hv hnv.1 cv)
    · have r' : Orb (sgL l) (unN e j) (unN e k) := by
        rcases r with r | ⟨r1, _⟩ | ⟨r1, _⟩
        · exact r
        · exact absurd (.inl r1) cu
        · exact absurd (.inr r1) cu
      obtain ⟨t, ht⟩ := r'
      refine fin (orb l (unN e j)) (tells_oth h (phiL l) he hu fun x hx c => ?_) ((mem_orb h hu).2 ⟨0, rfl⟩) ((mem_orb h hu).2 ⟨t, by rw [← sgL_it]; exact ht⟩)
      obtain ⟨t', ht'⟩ := (mem_orb h hu).1 hx
      have o : Orb (sgL l) (unN e j) x := ⟨t', by rw [sgL_it]; exact ht'⟩
      have : x = 2 * e ∨ x = 2 * e + 1 := by omega
      rcases this with rfl | rfl
      · exact cu (.inl o)
      · exact cu (.inr o)
end
end Go.Proofs.Ythdmkcnclmgdlaa
namespace Go.Proofs.Ythdmkcnclmgdlaa
set_option maxRecDepth 20000
open Go.RowKit
set_option linter.unusedVariables false
end Go.Proofs.Ythdmkcnclmgdlaa
namespace Go.Proofs.Ythdmkcnclmgdlaa
set_option maxRecDepth 20000
open Go.RowKit
set_option linter.unusedVariables false

/-! ### Then -/
end Go.Proofs.Ythdmkcnclmgdlaa
namespace Go.Proofs.Ythdmkcnclmgdlaa
set_option maxRecDepth 20000
open Go.RowKit
set_option linter.unusedVariables false
end Go.Proofs.Ythdmkcnclmgdlaa
namespace Go.Proofs.Ythdmkcnclmgdlaa
set_option maxRecDepth 20000
open Go.RowKit
set_option linter.unusedVariables false
theorem un_mate (e j : Nat) : unN e (mateN j) = mateN (unN e j) := by
  rw [mateN_eq, mateN_eq]; unfold unN
  repeat' split
  all_goals omega
/-- The dual of the map with the edge made one is the dual with the edge cut. -/
theorem dual_shrink {l b : List Nat} (h : Inv l b) (hev : l.length % 2 = 0) {e : Nat} (hE : 2 * e + 2 ≤ l.length) : phiL (woN l (phiL l) e) = woN (phiL l) (phiL l) e := by
  have hl := phiL_len l
  have l1 := woN_len l (phiL l) e hE
  have l2 := woN_len (phiL l) (phiL l) e (by omega)
  have l3 := phiL_len (woN l (phiL l) e)
  apply List.ext_getElem (by omega)
  intro j h1 h2
  have hj : j < l.length - 2 := by omega
  have hm : mateN j < l.length - 2 := mateN_lt (by omega) hj
  have hu : unN e j < l.length := by unfold unN; split <;> omega
  have e1 : (phiL (woN l (phiL l) e)).getD j 0 = calN e (outN (phiL l) e (l.getD (unN e (mateN j)) 0)) := by
    rw [phiL_get _ _ (by omega), woN_get l (phiL l) e (mateN j) hE hm]
  have e2 : (woN (phiL l) (phiL l) e).getD j 0 = calN e (outN (phiL l) e ((phiL l).getD (unN e j) 0)) := woN_get (phiL l) (phiL l) e j (by omega) (by omega)
  rw [phiL_get _ _ hu, ← un_mate] at e2
  have e3 := e1.trans e2.symm
  simpa [List.getD_eq_getElem?_getD, List.getElem?_eq_getElem h1, List.getElem?_eq_getElem h2] using e3
theorem loops_pos (l : List Nat) (e : Nat) (he : nameOf l (2 * e) = nameOf l (2 * e + 1)) : ∀ k, e < k → 0 < loopsN l k
  | 0, h => by omega
  | k + 1, h => by
    rcases Nat.lt_or_ge e k with c | c
    · have := loops_pos l e he k c
      have h2 := loopsN_next l k
      by_cases d : lowE l k = highE l k
      · rw [h2.1 d]; omega
      · rw [h2.2 d]; exact this
    · obtain rfl : e = k := by omega
      rw [(loopsN_next l e).1 (by unfold lowE highE; rw [he]; simp)]; omega
end Go.Proofs.Ythdmkcnclmgdlaa
