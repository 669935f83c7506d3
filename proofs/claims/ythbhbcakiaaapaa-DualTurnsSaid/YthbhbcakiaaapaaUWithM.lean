/- A map without an edge: mathematics. -/
import Derived.Test.YthbhbcakiaaapaaUWith
import Derived.Test.YthbhbcakiaaapaaPRef2
namespace Go.Proofs.Ythbhbcakiaaapaa
set_option maxRecDepth 20000
open Go.RowKit
set_option linter.unusedVariables false
/-- The dart that is called j without the edge e. -/
def unN (e j : Nat) : Nat := if 2 * e ≤ j then j + 2 else j
def cntE (e k : Nat) : Nat := if k ≤ 2 * e then k else if k = 2 * e + 1 then 2 * e else k - 2
theorem unN_is (e j : Nat) : unN e j / 2 ≠ e ∧ calN e (unN e j) = j := by
  unfold unN calN
  split
  · refine ⟨by omega, ?_⟩
    rw [if_pos (by omega)]; omega
  · refine ⟨by omega, ?_⟩
    rw [if_neg (by omega)]
theorem calN_un (e d : Nat) (h : d / 2 ≠ e) : unN e (calN e d) = d := by
  unfold unN calN
  by_cases c : e < d / 2
  · rw [if_pos c, if_pos (by omega)]; omega
  · rw [if_neg c, if_neg (by omega)]
theorem calN_lt (e d n : Nat) (h : d / 2 ≠ e) (hd : d < n) (he : 2 * e + 2 ≤ n) : calN e d < n - 2 := by
  unfold calN
  split <;> omega
theorem filt_un (e : Nat) : ∀ k, (List.range k).filter (fun d => decide (d / 2 ≠ e)) = (List.range (cntE e k)).map (unN e)
  | 0 => by simp [cntE]
  | k + 1 => by
    rw [List.range_succ, List.filter_append, filt_un e k]
    by_cases c : k / 2 = e
    · have e1 : cntE e (k + 1) = cntE e k := by unfold cntE; split <;> split <;> (try split) <;> (try split) <;> omega
      rw [e1]; simp [c]
    · have e1 : cntE e (k + 1) = cntE e k + 1 := by unfold cntE; split <;> split <;> (try split) <;> (try split) <;> omega
      have e2 : unN e (cntE e k) = k := by unfold unN cntE; split <;> split <;> (try split) <;> (try split) <;> omega
      rw [e1, List.range_succ, List.map_append, List.map_singleton, e2]
      simp [c]
theorem woN_is (l z : List Nat) (e : Nat) (he : 2 * e + 2 ≤ l.length) : woN l z e = (List.range (l.length - 2)).map fun j => calN e (outN z e (l.getD (unN e j) 0)) := by
  unfold woN woTo
  rw [filt_un, List.map_map]
  have : cntE e l.length = l.length - 2 := by unfold cntE; rw [if_neg (by omega), if_neg (by omega)]
  rw [this]; rfl
theorem woN_len (l z : List Nat) (e : Nat) (he : 2 * e + 2 ≤ l.length) : (woN l z e).length = l.length - 2 := by rw [woN_is l z e he]; simp
theorem woN_get (l z : List Nat) (e j : Nat) (he : 2 * e + 2 ≤ l.length) (hj : j < l.length - 2) : (woN l z e).getD j 0 = calN e (outN z e (l.getD (unN e j) 0)) := by
  rw [woN_is l z e he]; simp [List.getD_eq_getElem?_getD, List.getElem?_range hj]
section
variable {l b z : List Nat}
theorem out_lt (h : Inv l b) (hz : ∀ k, k < l.length → z.getD k 0 < l.length) {e x : Nat} (hx : x < l.length) : outN z e x < l.length := by
  unfold outN
  split
  · exact hx
  · split
    · exact hz _ hx
    · exact hz _ (hz _ hx)
theorem out_inj (h : Inv l b) (hz : ∀ k, k < l.length → z.getD k 0 < l.length) (hzi : ∀ i j, i < l.length → j < l.length → z.getD i 0 = z.getD j 0 → i = j) {e : Nat}
    (hP : ∀ d y, d < l.length → y < l.length → d / 2 ≠ e → y / 2 = e → l.getD d 0 ≠ z.getD y 0) {d d' : Nat} (hd : d < l.length) (hd' : d' < l.length) (he : d / 2 ≠ e) (he' : d' / 2 ≠ e)
    (q : outN z e (l.getD d 0) = outN z e (l.getD d' 0)) : d = d' := by
  have a0 := h.lt d hd
  have b0 := h.lt d' hd'
  have a1 := hz _ a0
  have b1 := hz _ b0
  have li := fun r => h.inj d d' hd hd' r
  unfold outN at q
  by_cases c : l.getD d 0 / 2 = e <;> by_cases c' : l.getD d' 0 / 2 = e
  · rw [if_neg (by omega), if_neg (show ¬ (l.getD d' 0 / 2 ≠ e) by omega)] at q
    by_cases f : z.getD (l.getD d 0) 0 / 2 = e <;> by_cases f' : z.getD (l.getD d' 0) 0 / 2 = e
    · rw [if_neg (by omega), if_neg (by omega)] at q
      exact li (hzi _ _ a0 b0 (hzi _ _ a1 b1 q))
    · rw [if_neg (by omega), if_pos f'] at q
      exact absurd (hzi _ _ a1 b0 q).symm (hP d' _ hd' a0 he' c)
    · rw [if_pos f, if_neg (by omega)] at q
      exact absurd (hzi _ _ a0 b1 q) (hP d _ hd b0 he c')
    · rw [if_pos f, if_pos f'] at q
      exact li (hzi _ _ a0 b0 q)
  · rw [if_neg (by omega), if_pos c'] at q
    by_cases f : z.getD (l.getD d 0) 0 / 2 = e
    · rw [if_neg (by omega)] at q
      exact absurd q.symm (hP d' _ hd' a1 he' f)
    · rw [if_pos f] at q
      exact absurd q.symm (hP d' _ hd' a0 he' c)
  · rw [if_pos c, if_neg (show ¬ (l.getD d' 0 / 2 ≠ e) by omega)] at q
    by_cases f' : z.getD (l.getD d' 0) 0 / 2 = e
    · rw [if_neg (by omega)] at q
      exact absurd q (hP d _ hd b1 he f')
    · rw [if_pos f'] at q
      exact absurd q (hP d _ hd b0 he c')
  · rw [if_pos c, if_pos c'] at q
    exact li q
theorem woN_inv (h : Inv l b) {e : Nat} (hE : 2 * e + 2 ≤ l.length) (hz : ∀ k, k < l.length → z.getD k 0 < l.length) (hzi : ∀ i j, i < l.length → j < l.length → z.getD i 0 = z.getD j 0 → i = j)
    (hP : ∀ d y, d < l.length → y < l.length → d / 2 ≠ e → y / 2 = e → l.getD d 0 ≠ z.getD y 0) (ho : ∀ d, d < l.length → d / 2 ≠ e → outN z e (l.getD d 0) / 2 ≠ e) : ∃ b', Inv (woN l z e) b' := by
  apply good_inv
  have hlen := woN_len l z e hE
  have un_lt : ∀ j, j < l.length - 2 → unN e j < l.length := fun j hj => by unfold unN; split <;> omega
  intro i hi
  rw [ofN_len, hlen] at hi
  have hu := un_lt i hi
  have hn := (unN_is e i).1
  have ho1 := ho _ hu hn
  rw [ofN_get, woN_get l z e i hE hi, ofN_len, hlen]
  have hlt := calN_lt e _ l.length ho1 (out_lt h hz (h.lt _ hu)) hE
  refine ⟨by omega, by omega, fun j hj => ?_⟩
  have hj' : j < l.length - 2 := by omega
  have hu' := un_lt j hj'
  have hn' := (unN_is e j).1
  have ho2 := ho _ hu' hn'
  rw [ofN_get, woN_get l z e j hE hj']
  intro q
  have q1 : calN e (outN z e (l.getD (unN e j) 0)) = calN e (outN z e (l.getD (unN e i) 0)) := by omega
  have q2 := congrArg (unN e) q1
  rw [calN_un e _ ho2, calN_un e _ ho1] at q2
  have q3 := out_inj h hz hzi hP hu' hu hn' hn q2
  have q4 := congrArg (calN e) q3
  rw [(unN_is e j).2, (unN_is e i).2] at q4
  omega
/-- Cut: there is a map. -/
theorem cut_inv (h : Inv l b) {e : Nat} (hE : 2 * e + 2 ≤ l.length) : ∃ b', Inv (woN l l e) b' :=
  woN_inv h hE (fun k hk => h.lt k hk) (fun i j hi hj q => h.inj i j hi hj q) (fun d y hd hy c c' q => by have := h.inj _ _ hd hy q; rw [this] at c; exact c c') (fun d hd c => out_s h hd c (by omega))
/-- Shrink: there is a map. -/
theorem shrink_inv (h : Inv l b) (hev : l.length % 2 = 0) {e : Nat} (hE : 2 * e + 2 ≤ l.length) : ∃ b', Inv (woN l (phiL l) e) b' := by
  have hp := phi_inv h hev
  have hl := phiL_len l
  refine woN_inv h hE (fun k hk => ?_) (fun i j hi hj q => hp.inj i j (by rw [hl]; exact hi) (by rw [hl]; exact hj) q) (fun d y hd hy c c' q => ?_) (fun d hd c => out_f h hev hd c (by omega))
  · have := hp.lt k (by rw [hl]; exact hk); rwa [hl] at this
  · rw [phiL_get _ _ hy] at q
    have := h.inj _ _ hd (mateN_lt hev hy) q
    rw [this, mateN_eq] at c
    split at c <;> omega
/-- The root's heir is a root. -/
theorem heir_ok (h : Inv l b) (hev : l.length % 2 = 0) {r e : Nat} (hr : r < l.length) (hE : 2 * e + 2 ≤ l.length) : RootOk (heirN l b r e) (l.length - 2) := by
  have hb := h.symm
  have hl := h.len
  have x1 : b.getD r 0 < l.length := by have := hb.lt r (by omega); omega
  have y1 : b.getD (b.getD r 0) 0 < l.length := by have := hb.lt (b.getD r 0) (by omega); omega
  have big : ∀ d, d < l.length → d / 2 ≠ e → RootOk ((calN e d : Nat) : Int) (l.length - 2) := fun d hd c => by
    have := calN_lt e d l.length c hd hE
    exact .inr ⟨by omega, by omega, by omega⟩
  have last : RootOk (lastN l.length) (l.length - 2) := by
    unfold lastN
    split
    · exact .inl ⟨by omega, rfl⟩
    · exact .inr ⟨by omega, by omega, by omega⟩
  unfold heirN
  split
  · exact big _ hr (by assumption)
  · split
    · exact last
    · split
      · exact big _ x1 (by assumption)
      · split
        · exact last
        · refine big _ y1 fun c => ?_
          have n1 : b.getD (b.getD r 0) 0 ≠ b.getD r 0 := fun q => by
            have := hb.inj _ _ (by omega) (by omega) q
            omega
          omega
end
end Go.Proofs.Ythbhbcakiaaapaa
