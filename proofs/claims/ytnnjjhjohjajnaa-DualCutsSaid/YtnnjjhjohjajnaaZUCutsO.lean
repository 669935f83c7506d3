/- What the document's lists tell of the map without an edge, and of the map with the edge made one. -/
import Derived.Test.YtnnjjhjohjajnaaZUCutsN
namespace Go.Proofs.Ytnnjjhjohjajnaa
set_option maxRecDepth 20000
open Go.RowKit
set_option linter.unusedVariables false
section
variable {l b : List Nat}
theorem un_calE {e x : Nat} (hx : x / 2 ≠ e) : unN e (calN e x) = x := by unfold unN calN; split <;> split <;> omega
theorem cal_ltE {e x n : Nat} (hE : 2 * e + 2 ≤ n) (hx : x < n) (hxe : x / 2 ≠ e) : calN e x < n - 2 := by unfold calN; split <;> omega
theorem wo_at (l z : List Nat) {e x : Nat} (hE : 2 * e + 2 ≤ l.length) (hx : x < l.length) (hxe : x / 2 ≠ e) : (woN l z e).getD (calN e x) 0 = calN e (outN z e (l.getD x 0)) := by
  rw [woN_get l z e _ hE (cal_ltE hE hx hxe), un_calE hxe]
/-- A row tells of the list T what stands behind each of its darts. -/
def Tells (n e : Nat) (T v : List Nat) : Prop := ∀ i, i < v.length → v.getD i 0 < n ∧ v.getD i 0 / 2 ≠ e ∧ nxt v i < n ∧ nxt v i / 2 ≠ e ∧ calN e (nxt v i) = T.getD (calN e (v.getD i 0)) 0
theorem nxt_mem {v : List Nat} {i : Nat} (hi : i < v.length) : nxt v i ∈ v := by
  have key : ∀ k, k < v.length → v.getD k 0 ∈ v := fun k hk => by
    rw [List.getD_eq_getElem?_getD, List.getElem?_eq_getElem hk]; exact List.getElem_mem hk
  unfold nxt
  split
  · exact key _ (by assumption)
  · exact key 0 (by omega)
theorem getD_memE {v : List Nat} {i : Nat} (hi : i < v.length) : v.getD i 0 ∈ v := by
  rw [List.getD_eq_getElem?_getD, List.getElem?_eq_getElem hi]; exact List.getElem_mem hi
theorem orb_ltE (h : Inv l b) {d x : Nat} (hd : d < l.length) (hx : x ∈ orb l d) : x < l.length := by
  obtain ⟨t, ht⟩ := (mem_orb h hd).1 hx
  rw [← ht]; exact it_lt h hd t
theorem flt_memE {e x : Nat} {L : List Nat} (hx : x ∈ fltE e L) : x ∈ L ∧ x / 2 ≠ e := by
  obtain ⟨h1, h2⟩ := List.mem_filter.1 hx
  exact ⟨h1, of_decide_eq_true h2⟩
theorem mem_fltE {e x : Nat} {L : List Nat} (hx : x ∈ L) (hxe : x / 2 ≠ e) : x ∈ fltE e L := List.mem_filter.2 ⟨hx, decide_eq_true hxe⟩
/-- Cut: a vertex of the edge. -/
theorem tells_cut (h : Inv l b) {e d : Nat} (he : e < l.length / 2) (hd : d < l.length) : Tells l.length e (woN l l e) (fltE e (orb l d)) := fun i hi => by
  obtain ⟨m1, m2⟩ := flt_memE (getD_memE hi)
  obtain ⟨n1, n2⟩ := flt_memE (nxt_mem hi)
  refine ⟨orb_ltE h hd m1, m2, orb_ltE h hd n1, n2, ?_⟩
  rw [wo_at l l (by omega) (orb_ltE h hd m1) m2, flt_cut h he hd hi]
  rfl
/-- Either: a vertex that the edge is not at. -/
theorem tells_oth (h : Inv l b) {e d : Nat} (z : List Nat) (he : e < l.length / 2) (hd : d < l.length) (hx : ∀ x, x ∈ orb l d → x / 2 ≠ e) : Tells l.length e (woN l z e) (orb l d) := fun i hi => by
  have m1 := getD_memE hi
  have n1 := nxt_mem hi
  refine ⟨orb_ltE h hd m1, hx _ m1, orb_ltE h hd n1, hx _ n1, ?_⟩
  have hc := orb_cyc h hd i hi
  have hs : (orb l d).getD i 0 < l.length := orb_ltE h hd m1
  rw [wo_at l z (by omega) hs (hx _ m1)]
  have hne : l.getD ((orb l d).getD i 0) 0 / 2 ≠ e := by
    have := hx _ n1
    rw [hc] at this; exact this
  unfold outN
  rw [if_pos hne, hc]; rfl
/-- Shrunk: the two vertices' darts. -/
theorem tells_one (h : Inv l b) {e : Nat} (he : e < l.length / 2) (hne : nameOf l (2 * e) ≠ nameOf l (2 * e + 1)) : Tells l.length e (woN l (phiL l) e) (fltE e (orb l (2 * e + 1)) ++ fltE e (orb l (2 * e))) := fun i hi => by
  have mem : ∀ x, x ∈ fltE e (orb l (2 * e + 1)) ++ fltE e (orb l (2 * e)) → x < l.length ∧ x / 2 ≠ e := fun x hx => by
    rcases List.mem_append.1 hx with q | q
    · obtain ⟨q1, q2⟩ := flt_memE q
      exact ⟨orb_ltE h (by omega) q1, q2⟩
    · obtain ⟨q1, q2⟩ := flt_memE q
      exact ⟨orb_ltE h (by omega) q1, q2⟩
  obtain ⟨m1, m2⟩ := mem _ (getD_memE hi)
  obtain ⟨n1, n2⟩ := mem _ (nxt_mem hi)
  refine ⟨m1, m2, n1, n2, ?_⟩
  rw [wo_at l (phiL l) (by omega) m1 m2, flt_shrink h he hne hi]
  rfl
theorem oth_clear (h : Inv l b) {e d x : Nat} (he : e < l.length / 2) (hd : d < l.length) (n0 : nameOf l d ≠ nameOf l (2 * e)) (n1 : nameOf l d ≠ nameOf l (2 * e + 1)) (hx : x ∈ orb l d) : x / 2 ≠ e := fun c => by
  obtain ⟨t, ht⟩ := (mem_orb h hd).1 hx
  have o : Orb (sgL l) d x := ⟨t, by rw [sgL_it]; exact ht⟩
  have hxl := orb_ltE h hd hx
  have := (name_iff h hd hxl).2 o
  have hc : x = 2 * e ∨ x = 2 * e + 1 := by omega
  rcases hc with rfl | rfl
  · exact n0 this
  · exact n1 this
theorem oth_mem {e k : Nat} : ∀ {v : List Nat}, v ∈ othN l e k → ∃ d, d ∈ leads l k ∧ nameOf l d ≠ nameOf l (2 * e) ∧ nameOf l d ≠ nameOf l (2 * e + 1) ∧ v = orb l d := fun {v} hv => by
  unfold othN at hv
  obtain ⟨d, hd, rfl⟩ := List.mem_map.1 hv
  obtain ⟨h1, h2⟩ := List.mem_filter.1 hd
  have h3 := of_decide_eq_true h2
  exact ⟨d, h1, h3.1, h3.2, rfl⟩
theorem leads_in {d k : Nat} : d ∈ leads l k ↔ d < k ∧ Leads l d := by
  unfold leads
  rw [List.mem_filter, List.mem_range, decide_eq_true_iff]
/-- All that is left stands in some row. -/
theorem cov_any (h : Inv l b) {e x : Nat} (he : e < l.length / 2) (hx : x < l.length) (hxe : x / 2 ≠ e) :
    (∃ v, v ∈ othN l e l.length ∧ x ∈ v) ∨ (nameOf l x = nameOf l (2 * e) ∧ x ∈ fltE e (orb l (2 * e))) ∨ (nameOf l x = nameOf l (2 * e + 1) ∧ x ∈ fltE e (orb l (2 * e + 1))) := by
  have own : ∀ d, d < l.length → nameOf l x = nameOf l d → x ∈ fltE e (orb l d) := fun d hd c => by
    obtain ⟨t, ht⟩ := (name_iff h hd hx).1 c.symm
    exact mem_fltE ((mem_orb h hd).2 ⟨t, by rw [← sgL_it]; exact ht⟩) hxe
  by_cases c0 : nameOf l x = nameOf l (2 * e)
  · exact .inr (.inl ⟨c0, own _ (by omega) c0⟩)
  · by_cases c1 : nameOf l x = nameOf l (2 * e + 1)
    · exact .inr (.inr ⟨c1, own _ (by omega) c1⟩)
    · obtain ⟨h1, h2, h3⟩ := lead_is h hx
      have hlt : lead l x < l.length := by omega
      have hn : nameOf l (lead l x) = nameOf l x := by
        obtain ⟨t, ht⟩ := (mem_orb h hlt).1 h3
        exact (name_iff h hlt hx).2 ⟨t, by rw [sgL_it]; exact ht⟩
      refine .inl ⟨orb l (lead l x), ?_, h3⟩
      unfold othN
      refine List.mem_map.2 ⟨lead l x, List.mem_filter.2 ⟨leads_in.2 ⟨hlt, h2⟩, decide_eq_true ⟨?_, ?_⟩⟩, rfl⟩
      · rw [hn]; exact c0
      · rw [hn]; exact c1
end
end Go.Proofs.Ytnnjjhjohjajnaa
