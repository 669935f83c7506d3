/- Sorts of darts, parted finer and finer: mathematics. The parts in the order in which they are walked. The walk of a part by the places of its darts: mathematics. -/
import Derived.Test.YtgcbdoljapnecaaGreatZg10
import Derived.Test.YtgcbdoljapnecaaGreatZEPartsW
import Derived.Deep.CutRange
import Derived.Test.YtgcbdoljapnecaaGreatZg8
import Derived.Test.YtgcbdoljapnecaaGreatZPRef2
namespace Go.Proofs.YtgcbdoljapnecaaGreat
set_option maxRecDepth 20000
open Go.RowKit
set_option linter.unusedVariables false
set_option linter.unusedSimpArgs false
/-- D: the darts sort by sort; P: where each stands; O: the sort of each; F: where each sort begins; Z: how many it has. -/
structure Srt (n : Nat) (D P O F Z : List Nat) : Prop where
  inv : Inv D P
  dl : D.length = n
  ol : O.length = n
  zl : Z.length = F.length
  olt : ∀ d, d < n → O.getD d 0 < F.length
  fz : ∀ s, s < F.length → F.getD s 0 + Z.getD s 0 ≤ n
  pos : ∀ s, s < F.length → 0 < Z.getD s 0
  ins : ∀ p s, p < n → s < F.length → (O.getD (D.getD p 0) 0 = s ↔ F.getD s 0 ≤ p ∧ p < F.getD s 0 + Z.getD s 0)
/-- Of each sort the first ones, C, are chosen: the darts X. -/
structure Cho (n : Nat) (P O F Z C : List Nat) (X : Nat → Prop) : Prop where
  len : C.length = F.length
  le : ∀ s, s < F.length → C.getD s 0 ≤ Z.getD s 0
  is : ∀ d, d < n → (P.getD d 0 < F.getD (O.getD d 0) 0 + C.getD (O.getD d 0) 0 ↔ X d)
section
variable {n : Nat} {D P O F Z C : List Nat} {X : Nat → Prop}
theorem Srt.pl (S : Srt n D P O F Z) : P.length = n := by rw [S.inv.len, S.dl]
theorem Srt.plt (S : Srt n D P O F Z) {d : Nat} (hd : d < n) : P.getD d 0 < n := by have := S.inv.lt' d (by rw [S.dl]; exact hd); rwa [S.dl] at this
theorem Srt.dlt (S : Srt n D P O F Z) {p : Nat} (hp : p < n) : D.getD p 0 < n := by have := S.inv.lt p (by rw [S.dl]; exact hp); rwa [S.dl] at this
theorem Srt.dp (S : Srt n D P O F Z) {d : Nat} (hd : d < n) : D.getD (P.getD d 0) 0 = d := S.inv.bl d (by rw [S.dl]; exact hd)
theorem Srt.pd (S : Srt n D P O F Z) {p : Nat} (hp : p < n) : P.getD (D.getD p 0) 0 = p := S.inv.lb p (by rw [S.dl]; exact hp)
/-- Where a dart stands. -/
theorem Srt.at_ (S : Srt n D P O F Z) {d s : Nat} (hd : d < n) (hs : s < F.length) : O.getD d 0 = s ↔ F.getD s 0 ≤ P.getD d 0 ∧ P.getD d 0 < F.getD s 0 + Z.getD s 0 := by
  have := S.ins (P.getD d 0) s (S.plt hd) hs
  rwa [S.dp hd] at this
theorem swp_getD (L : List Nat) (p q a c i : Nat) (hp : p < L.length) (hq : q < L.length) : ((L.set p a).set q c).getD i 0 = if i = q then c else if i = p then a else L.getD i 0 := by
  rw [getDN_set _ _ _ _ (by rw [List.length_set]; exact hq), getDN_set _ _ _ _ hp]
/-- A dart that isn't chosen is let stand behind the chosen ones. -/
theorem Srt.choose (S : Srt n D P O F Z) (H : Cho n P O F Z C X) {d : Nat} (hd : d < n) (hx : ¬ X d) {s q e p : Nat} (hs : s = O.getD d 0) (hq : q = F.getD s 0 + C.getD s 0) (hp : p = P.getD d 0) (he : e = D.getD q 0) :
    s < F.length ∧ q < n ∧ e < n ∧ Srt n ((D.set p e).set q d) ((P.set e p).set d q) O F Z ∧ Cho n ((P.set e p).set d q) O F Z (C.set s (C.getD s 0 + 1)) (fun x => X x ∨ x = d) := by
  have hsl : s < F.length := by rw [hs]; exact S.olt d hd
  have hqp : q ≤ p := by
    have : ¬ p < F.getD s 0 + C.getD s 0 := fun c => hx ((H.is d hd).1 (by rw [← hs, ← hp]; exact c))
    omega
  have hpz := (S.at_ hd hsl).1 hs.symm
  rw [← hp] at hpz
  have hpn : p < n := by rw [hp]; exact S.plt hd
  have hqn : q < n := by omega
  have hen : e < n := by rw [he]; exact S.dlt hqn
  have hDp : D.getD p 0 = d := by rw [hp]; exact S.dp hd
  have hPe : P.getD e 0 = q := by rw [he]; exact S.pd hqn
  have hOe : O.getD e 0 = s := by rw [he]; exact (S.ins q s hqn hsl).2 ⟨by omega, by omega⟩
  have gD : ∀ i, ((D.set p e).set q d).getD i 0 = if i = q then d else if i = p then e else D.getD i 0 := fun i => swp_getD D p q e d i (by rw [S.dl]; exact hpn) (by rw [S.dl]; exact hqn)
  have gP : ∀ i, ((P.set e p).set d q).getD i 0 = if i = d then q else if i = e then p else P.getD i 0 := fun i => swp_getD P e d p q i (by rw [S.pl]; exact hen) (by rw [S.pl]; exact hd)
  have hCl : C.length = F.length := H.len
  have gC : ∀ i, (C.set s (C.getD s 0 + 1)).getD i 0 = if i = s then C.getD s 0 + 1 else C.getD i 0 := fun i => getDN_set _ _ _ _ (by rw [hCl]; exact hsl)
  have ed : e = d ↔ p = q := ⟨fun c => by rw [← hPe, c, hp], fun c => by rw [he, ← c, hDp]⟩
  refine ⟨hsl, hqn, hen, ⟨⟨by simp [S.pl, S.dl], ?_, ?_, ?_, ?_⟩, by simp [S.dl], S.ol, S.zl, S.olt, S.fz, S.pos, ?_⟩, by simpa using hCl, ?_, ?_⟩
  · intro i hi
    simp only [List.length_set, S.dl] at hi ⊢
    rw [gD]; split
    · exact hd
    · split
      · exact hen
      · exact S.dlt hi
  · intro i hi
    simp only [List.length_set, S.dl] at hi ⊢
    rw [gP]; split
    · exact hqn
    · split
      · exact hpn
      · exact S.plt hi
  · intro i hi
    simp only [List.length_set, S.dl] at hi
    rw [gD, gP]
    by_cases h1 : i = q
    · rw [if_pos h1, if_pos rfl]; exact h1.symm
    · rw [if_neg h1]
      by_cases h2 : i = p
      · rw [if_pos h2]
        have : e ≠ d := fun c => h1 (h2.trans (ed.1 c))
        rw [if_neg this, if_pos rfl]; exact h2.symm
      · rw [if_neg h2]
        have a1 : D.getD i 0 ≠ d := fun c => h2 (by rw [← S.pd hi, c, hp])
        have a2 : D.getD i 0 ≠ e := fun c => h1 (by rw [← S.pd hi, c, hPe])
        rw [if_neg a1, if_neg a2, S.pd hi]
  · intro i hi
    simp only [List.length_set, S.dl] at hi
    rw [gP, gD]
    by_cases h1 : i = d
    · rw [if_pos h1, if_pos rfl]; exact h1.symm
    · rw [if_neg h1]
      by_cases h2 : i = e
      · rw [if_pos h2]
        have : p ≠ q := fun c => h1 (h2.trans (ed.2 c))
        rw [if_neg this, if_pos rfl]; exact h2.symm
      · rw [if_neg h2]
        have a1 : P.getD i 0 ≠ q := fun c => h2 (by rw [← S.dp hi, c, he])
        have a2 : P.getD i 0 ≠ p := fun c => h1 (by rw [← S.dp hi, c, hDp])
        rw [if_neg a1, if_neg a2, S.dp hi]
  · intro i t hi ht
    rw [gD]
    by_cases h1 : i = q
    · rw [if_pos h1, ← hs]
      have := S.ins q t hqn ht
      rw [← he, hOe] at this
      rw [h1]; exact this
    · rw [if_neg h1]
      by_cases h2 : i = p
      · rw [if_pos h2, hOe]
        have := S.ins p t hpn ht
        rw [hDp, ← hs] at this
        rw [h2]; exact this
      · rw [if_neg h2]; exact S.ins i t hi ht
  · intro t ht
    rw [gC]; split
    · rename_i h; rw [h]; have := H.le s hsl; omega
    · exact H.le t ht
  · intro x hx'
    rw [gP, gC]
    by_cases h1 : x = d
    · rw [if_pos h1, h1, ← hs, if_pos rfl]
      exact ⟨fun _ => .inr rfl, fun _ => by omega⟩
    · rw [if_neg h1]
      by_cases h2 : x = e
      · have hne : p ≠ q := fun c => h1 (h2.trans (ed.2 c))
        rw [if_pos h2, h2, hOe, if_pos rfl]
        have := H.is e hen
        rw [hPe, hOe] at this
        exact ⟨fun c => by omega, fun c => by
          rcases c with c | c
          · have := this.2 c; omega
          · exact absurd (h2.trans c) h1⟩
      · rw [if_neg h2]
        have hi := H.is x hx'
        have hor : (X x ∨ x = d) ↔ X x := ⟨fun c => c.elim id fun c => absurd c h1, .inl⟩
        rw [hor]
        by_cases h3 : O.getD x 0 = s
        · rw [h3, if_pos rfl]
          rw [h3] at hi
          have a1 : P.getD x 0 ≠ q := fun c => h2 (by rw [← S.dp hx', c, he])
          exact ⟨fun c => hi.1 (by omega), fun c => by have := hi.2 c; omega⟩
        · rw [if_neg h3]; exact hi
/-- Of a sort of which all are chosen nothing is parted. -/
theorem Srt.keep (S : Srt n D P O F Z) (H : Cho n P O F Z C X) {s : Nat} (hs : s < F.length) : Cho n P O F Z (C.set s 0) (fun x => X x ∧ O.getD x 0 ≠ s) := by
  have gC : ∀ i, (C.set s 0).getD i 0 = if i = s then 0 else C.getD i 0 := fun i => getDN_set _ _ _ _ (by rw [H.len]; exact hs)
  refine ⟨by simpa using H.len, fun t ht => ?_, fun x hx => ?_⟩
  · rw [gC]; split
    · exact Nat.zero_le _
    · exact H.le t ht
  · rw [gC]
    by_cases h : O.getD x 0 = s
    · rw [if_pos h]
      have := (S.at_ hx hs).1 h
      rw [h]
      exact ⟨fun c => by omega, fun c => absurd rfl c.2⟩
    · rw [if_neg h]
      exact ⟨fun c => ⟨(H.is x hx).1 c, h⟩, fun c => (H.is x hx).2 c.1⟩
theorem getD_snocC (L : List Nat) (x i : Nat) : (L ++ [x]).getD i 0 = if i = L.length then x else L.getD i 0 := by
  by_cases h : i < L.length
  · rw [if_neg (by omega), List.getD_eq_getElem?_getD, List.getElem?_append_left h, List.getD_eq_getElem?_getD]
  · by_cases h2 : i = L.length
    · subst h2; simp
    · rw [if_neg h2, List.getD_eq_getElem?_getD, List.getD_eq_getElem?_getD, List.getElem?_eq_none (by simp; omega), List.getElem?_eq_none (by omega)]
end
end Go.Proofs.YtgcbdoljapnecaaGreat
namespace Go.Proofs.YtgcbdoljapnecaaGreat
set_option maxRecDepth 100000
open Go.RowKit
set_option linter.unusedVariables false
set_option linter.unusedSimpArgs false
open Classical in
/-- The parts' least darts, of those ahead of k. -/
noncomputable def LL (l : List Nat) (k : Nat) : List Nat := (List.range k).filter fun d => decide (Least (part l) d)
open Classical in
noncomputable def DJ (l : List Nat) (j k : Nat) : List Nat := (List.range k).filter fun d => decide (pq l d = j)
theorem LL_next (l : List Nat) (k : Nat) : (Least (part l) k → LL l (k + 1) = LL l k ++ [k]) ∧ (¬ Least (part l) k → LL l (k + 1) = LL l k) := by
  unfold LL
  rw [List.range_succ, List.filter_append]
  exact ⟨fun h => by simp [h], fun h => by simp [h]⟩
theorem DJ_next (l : List Nat) (j k : Nat) : (pq l k = j → DJ l j (k + 1) = DJ l j k ++ [k]) ∧ (pq l k ≠ j → DJ l j (k + 1) = DJ l j k) := by
  unfold DJ
  rw [List.range_succ, List.filter_append]
  exact ⟨fun h => by simp [h], fun h => by simp [h]⟩
theorem LL_len (l : List Nat) : ∀ k, (LL l k).length = pn (part l) k
  | 0 => by simp [LL, pn, cls]
  | k + 1 => by
    have ih := LL_len l k
    by_cases c : Least (part l) k
    · rw [(LL_next l k).1 c, (pn_next (part l) k).1 c, List.length_append, ih]; rfl
    · rw [(LL_next l k).2 c, (pn_next (part l) k).2 c, ih]
theorem LL_get (l : List Nat) : ∀ k j, j < (LL l k).length → (LL l k).getD j 0 < k ∧ Least (part l) ((LL l k).getD j 0) ∧ pn (part l) ((LL l k).getD j 0) = j
  | 0, j, h => by simp [LL] at h
  | k + 1, j, h => by
    by_cases c : Least (part l) k
    · rw [(LL_next l k).1 c] at h ⊢
      rw [getD_snocC]
      rw [List.length_append] at h
      have e1 : [k].length = 1 := rfl
      by_cases e : j = (LL l k).length
      · rw [if_pos e]
        exact ⟨by omega, c, by rw [e, LL_len]⟩
      · rw [if_neg e]
        have := LL_get l k j (by omega)
        exact ⟨by omega, this.2⟩
    · rw [(LL_next l k).2 c] at h ⊢
      have := LL_get l k j h
      exact ⟨by omega, this.2⟩
open Classical in
theorem LL_starts {l b : List Nat} (hi : Inv l b) (he : l.length % 2 = 0) {r : Nat} (hr : r < l.length) {m : Nat} (hm : m = rep (part l) r) : ∀ k, k ≤ l.length →
    (k ≤ m → ((List.range k).filter fun d => decide (Least (part l) d ∧ ¬ part l r d)) = LL l k) ∧ (m < k → ∃ T, LL l k = LL l m ++ m :: T ∧ ((List.range k).filter fun d => decide (Least (part l) d ∧ ¬ part l r d)) = LL l m ++ T) := by
  have eq := part_eqv hi he
  have rp := rep_is eq hr
  rw [← hm] at rp
  have hmr : part l r m := eq.symm m r (by omega) hr rp.2.1
  have key : ∀ x, x < l.length → Least (part l) x → part l r x → x = m := fun x hx h1 h2 => by
    rw [hm]; exact (rep_of eq hx hr (eq.symm r x hr hx h2) h1).symm
  intro k
  induction k with
  | zero => exact fun _ => ⟨fun _ => by simp [LL], fun h => by omega⟩
  | succ k ih =>
    intro hk
    obtain ⟨i1, i2⟩ := ih (by omega)
    rw [List.range_succ, List.filter_append]
    constructor
    · intro hkm
      rw [i1 (by omega)]
      by_cases c : Least (part l) k
      · rw [(LL_next l k).1 c]
        have : ¬ part l r k := fun q => by have := key k (by omega) c q; omega
        simp [c, this]
      · rw [(LL_next l k).2 c]; simp [c]
    · intro hmk
      by_cases e : k = m
      · subst e
        refine ⟨[], by rw [(LL_next l k).1 rp.2.2], ?_⟩
        rw [i1 (Nat.le_refl _)]
        simp [hmr]
      · obtain ⟨T, h1, h2⟩ := i2 (by omega)
        by_cases c : Least (part l) k
        · have : ¬ part l r k := fun q => e (key k (by omega) c q)
          refine ⟨T ++ [k], by rw [(LL_next l k).1 c, h1]; simp, ?_⟩
          rw [h2]; simp [c, this]
        · refine ⟨T, by rw [(LL_next l k).2 c, h1], ?_⟩
          rw [h2]; simp [c]
/-- The parts of the first k darts. -/
structure PK (l : List Nat) (k : Nat) (ps : List PEl) : Prop where
  fst : ps.map (fun p => p.1) = LL l k
  dar : ∀ j, j < ps.length → (ps.getD j pE0).2.2 = DJ l j k
section
variable {l b : List Nat} {k : Nat} {ps : List PEl}
theorem PK.len (h : PK l k ps) : ps.length = pn (part l) k := by rw [← LL_len, ← h.fst, List.length_map]
theorem PK.is_ (hi : Inv l b) (he : l.length % 2 = 0) (h : PK l k ps) (hk : k < l.length) : (Least (part l) k → pq l k = ps.length) ∧ (¬ Least (part l) k → pq l k < ps.length) := by
  have eq := part_eqv hi he
  refine ⟨fun c => ?_, fun c => ?_⟩
  · rw [h.len]; exact prt_least eq hk c
  · rw [h.len]
    have r := rep_is eq hk
    have : rep (part l) k ≠ k := fun q => c ((rep_least eq hk).2 q)
    exact prt_lt eq hk (by omega)
theorem PK.new (hi : Inv l b) (he : l.length % 2 = 0) (h : PK l k ps) (hk : k < l.length) (c : Least (part l) k) : ∀ j, j < (ps ++ [((k, .slice none 0 0, []) : PEl)]).length → ((ps ++ [((k, .slice none 0 0, []) : PEl)]).getD j pE0).2.2 = DJ l j k := by
  intro j hj
  rw [List.length_append] at hj
  have e1 : [((k, .slice none 0 0, []) : PEl)].length = 1 := rfl
  by_cases e : j < ps.length
  · rw [List.getD_eq_getElem?_getD, List.getElem?_append_left e, ← List.getD_eq_getElem?_getD]; exact h.dar j e
  · obtain rfl : j = ps.length := by omega
    have : DJ l ps.length k = [] := by
      unfold DJ
      rw [List.filter_eq_nil_iff]
      intro d hd
      rw [List.mem_range] at hd
      have eq := part_eqv hi he
      have : prt (part l) d < pn (part l) k := prt_lt eq (by omega) (by have := (rep_is eq (show d < l.length by omega)).1; omega)
      rw [← h.len] at this
      unfold pq
      simp; omega
    rw [this]; simp [List.getD_eq_getElem?_getD]
/-- The dart is put to its part. -/
theorem PK.put {fs : List Nat} (hf : ps.map (fun p => p.1) = fs) (hd : ∀ j, j < ps.length → (ps.getD j pE0).2.2 = DJ l j k) (hL : fs = LL l (k + 1)) {j : Nat} (hj : pq l k = j) (hjl : j < ps.length) (v : Value) : PK l (k + 1) (ps.set j ((ps.getD j pE0).1, v, (ps.getD j pE0).2.2 ++ [k])) := by
  have gs : ∀ i, (ps.set j ((ps.getD j pE0).1, v, (ps.getD j pE0).2.2 ++ [k])).getD i pE0 = if i = j then ((ps.getD j pE0).1, v, (ps.getD j pE0).2.2 ++ [k]) else ps.getD i pE0 := fun i => getD_setR _ _ _ _ _ hjl
  refine ⟨?_, fun i hi => ?_⟩
  · rw [← hL, ← hf]
    apply List.ext_getElem (by simp)
    intro i h1 h2
    simp only [List.length_map, List.length_set] at h1 h2
    rw [List.getElem_map, List.getElem_map, List.getElem_set]
    split
    · rename_i e; subst e
      rw [List.getD_eq_getElem?_getD, List.getElem?_eq_getElem hjl]; rfl
    · rfl
  · rw [List.length_set] at hi
    rw [gs]
    by_cases e : i = j
    · rw [if_pos e, e, (DJ_next l j k).1 hj, ← hd j hjl]
    · rw [if_neg e, (DJ_next l i k).2 (by rw [hj]; exact fun c => e c.symm)]
      exact hd i hi
end
def PartsPost (w : World) (l : List Nat) (r : Nat) (e : Ending) (w' : World) : Prop :=
  ∃ A c ps, e = .returned (.slice A ps.length c) ∧ w'.ownsRow w.heap.size 150 2 (.slice A ps.length c) ps.length (pcs ps) ∧ (∀ p ∈ ps, ∃ A' c', p.2.1 = .slice A' p.2.2.length c' ∧ w'.ownsRow w.heap.size 3 1 (.slice A' p.2.2.length c') p.2.2.length (I64 (ofN p.2.2))) ∧
    ps.map (fun p => p.1) = starts l r ∧ (∀ p ∈ ps, p.2.2 = Go.Proofs.YtgcbdoljapnecaaGreat.own l p.1) ∧ Below w.heap.size w w'
/-- The root's part is brought to the front. -/
theorem PK.done {l b : List Nat} (hi : Inv l b) (he : l.length % 2 = 0) {r : Nat} (hr : r < l.length) {ps : List PEl} (h : PK l l.length ps) {j : Nat} (hj : j = pq l r) (v : Value) :
    j < ps.length ∧ ((r, v, (ps.getD j pE0).2.2) :: (ps.take j ++ ps.drop (j + 1))).map (fun p => p.1) = starts l r ∧ ∀ p ∈ ((r, v, (ps.getD j pE0).2.2) :: (ps.take j ++ ps.drop (j + 1)) : List PEl), p.2.2 = Go.Proofs.YtgcbdoljapnecaaGreat.own l p.1 := by
  have eq := part_eqv hi he
  have rp := rep_is eq hr
  have hjl : j < ps.length := by
    rw [hj, h.len]; exact prt_lt eq hr (by omega)
  have own_is : ∀ s, s < l.length → DJ l (pq l s) l.length = Go.Proofs.YtgcbdoljapnecaaGreat.own l s := fun s hs => by
    unfold DJ Go.Proofs.YtgcbdoljapnecaaGreat.own
    apply List.filter_congr
    intro d hd
    rw [List.mem_range] at hd
    have : pq l d = pq l s ↔ part l s d := by
      unfold pq
      rw [prt_iff eq hd hs]
      exact ⟨eq.symm d s hd hs, eq.symm s d hs hd⟩
    simp only [decide_eq_decide]
    exact this
  have tail : ∀ i, i < ps.length → (ps.getD i pE0).2.2 = Go.Proofs.YtgcbdoljapnecaaGreat.own l (ps.getD i pE0).1 := fun i hi' => by
    rw [h.dar i hi']
    have hl : i < (LL l l.length).length := by rw [← h.fst, List.length_map]; exact hi'
    obtain ⟨g1, g2, g3⟩ := LL_get l l.length i hl
    have ef : (LL l l.length).getD i 0 = (ps.getD i pE0).1 := by
      rw [← h.fst, List.getD_eq_getElem?_getD, List.getElem?_map, List.getD_eq_getElem?_getD, List.getElem?_eq_getElem hi']; rfl
    rw [ef] at g1 g2 g3
    rw [← own_is _ g1]
    congr 1
    exact (prt_least eq g1 g2).trans g3 |>.symm
  refine ⟨hjl, ?_, fun p hp => ?_⟩
  · have hjm : j = (LL l (rep (part l) r)).length := by rw [LL_len, hj]; rfl
    obtain ⟨T, h1, h2⟩ := (LL_starts hi he hr rfl l.length (Nat.le_refl _)).2 (by omega)
    simp only [List.map_cons, List.map_append, List.map_take, List.map_drop]
    rw [h.fst, h1, hjm, List.take_left' rfl]
    have e2 : (LL l (rep (part l) r) ++ rep (part l) r :: T).drop ((LL l (rep (part l) r)).length + 1) = T := by
      rw [← List.drop_drop, List.drop_left' rfl]; rfl
    rw [e2]
    unfold starts
    rw [h2]
  · rcases List.mem_cons.1 hp with rfl | hp
    · show (ps.getD j pE0).2.2 = _
      rw [h.dar j hjl, hj]; exact own_is r hr
    · have : p ∈ ps := by
        rcases List.mem_append.1 hp with q | q
        · exact List.mem_of_mem_take q
        · exact List.mem_of_mem_drop q
      obtain ⟨i, hi', rfl⟩ := List.getElem_of_mem this
      have := tail i hi'
      rwa [List.getD_eq_getElem?_getD, List.getElem?_eq_getElem hi'] at this
end Go.Proofs.YtgcbdoljapnecaaGreat
namespace Go.Proofs.YtgcbdoljapnecaaGreat
set_option maxRecDepth 20000
open Go.RowKit
set_option linter.unusedVariables false
set_option linter.unusedSimpArgs false
theorem pf_invC {l : List Nat} (h : PF l.length (sgL l)) : ∃ b, Inv l b := by
  apply good_inv
  intro i hi
  rw [ofN_len] at hi
  rw [ofN_get, ofN_len]
  have := h.lt i hi
  refine ⟨by omega, by unfold sgL at this; omega, fun j hj c => ?_⟩
  rw [ofN_get] at c
  have := h.inj j i (by omega) hi (by unfold sgL; omega)
  omega
/-- The turns of a part, by places. -/
def alN (l D pl : List Nat) : List Nat := D.map fun d => sgL pl (sgL l d)
section
variable {l b D pl : List Nat} {r : Nat}
theorem alN_len : (alN l D pl).length = D.length := by simp [alN]
theorem alN_get {i : Nat} (hi : i < D.length) : sgL (alN l D pl) i = sgL pl (sgL l (sgL D i)) := by
  have e : sgL D i = D[i] := by unfold sgL; rw [List.getD_eq_getElem?_getD, List.getElem?_eq_getElem hi]; rfl
  rw [e]
  show (alN l D pl).getD i 0 = _
  unfold alN
  rw [List.getD_eq_getElem?_getD, List.getElem?_map, List.getElem?_eq_getElem hi]
  rfl
theorem sgL_mem {i : Nat} (hi : i < D.length) : sgL D i ∈ D := by
  unfold sgL
  rw [List.getD_eq_getElem?_getD, List.getElem?_eq_getElem hi]
  exact List.getElem_mem hi
theorem mem_sgL {d : Nat} (h : d ∈ D) : ∃ i, i < D.length ∧ sgL D i = d := by
  obtain ⟨i, hi, e⟩ := List.getElem_of_mem h
  exact ⟨i, hi, by unfold sgL; rw [List.getD_eq_getElem?_getD, List.getElem?_eq_getElem hi]; exact e⟩
theorem own_sig (hl : Inv l b) (he : l.length % 2 = 0) (hr : r < l.length) {d : Nat} (hd : d ∈ own l r) : sgL l d ∈ own l r := by
  rw [own_mem] at hd ⊢
  exact ⟨hl.lt _ hd.1, (part_eqv hl he).trans _ _ _ hr hd.1 (hl.lt _ hd.1) hd.2 (gk_sig (sgL_pf hl) _ _)⟩
theorem own_self (hl : Inv l b) (he : l.length % 2 = 0) (hr : r < l.length) : r ∈ own l r := by
  rw [own_mem]
  exact ⟨hr, (part_eqv hl he).refl _ hr⟩
/-- What the program's walk of a part asks, and what it answers. -/
theorem al_walk (hl : Inv l b) (he : l.length % 2 = 0) (hr : r < l.length) (hD : D = own l r) (hp : ∀ i, i < D.length → sgL pl (sgL D i) = i) :
    (alN l D pl).length % 2 = 0 ∧ (∃ B, Inv (alN l D pl) B) ∧ sgL pl r < D.length ∧ sgL D (sgL pl r) = r ∧ (wlk (alN l D pl) (sgL pl r)).map (sgL D) = wlk l r ∧ (∀ j ∈ wlk (alN l D pl) (sgL pl r), j < D.length) := by
  have st : ∀ i, i < D.length → ∃ j, j < D.length ∧ sgL D j = sgL l (sgL D i) := fun i hi => by
    refine mem_sgL ?_
    rw [hD]
    exact own_sig hl he hr (by rw [← hD]; exact sgL_mem hi)
  have sg : ∀ i, i < D.length → sgL (alN l D pl) i < D.length ∧ sgL D (sgL (alN l D pl) i) = sgL l (sgL D i) := fun i hi => by
    obtain ⟨j, hj, e⟩ := st i hi
    rw [alN_get hi, ← e, hp j hj]
    exact ⟨hj, rfl⟩
  have L : Lies l (alN l D pl) (sgL D) := by
    have := own_lies (A := alN l D pl) hl he hr (by rw [alN_len, hD]) (fun i hi => by
      rw [alN_len] at hi
      rw [← hD]; exact (sg i hi).2)
    rw [← hD] at this
    exact this
  obtain ⟨k, hk, e⟩ := mem_sgL (show r ∈ D by rw [hD]; exact own_self hl he hr)
  have hkr : sgL pl r = k := by rw [← e, hp k hk]
  obtain ⟨B, hB⟩ := pf_invC (l := alN l D pl) (lies_pf L hl fun i hi => by rw [alN_len] at hi ⊢; exact (sg i hi).1)
  have ev := L.inc.ev
  have hk' : k < (alN l D pl).length := by rw [alN_len]; exact hk
  rw [hkr]
  refine ⟨by omega, ⟨B, hB⟩, hk, e, ?_, fun j hj => ?_⟩
  · have := L.walk hB hl he hk'
    rwa [e] at this
  · have := wlk_lt hB (by omega) hk' j hj
    rwa [alN_len] at this
end
end Go.Proofs.YtgcbdoljapnecaaGreat
