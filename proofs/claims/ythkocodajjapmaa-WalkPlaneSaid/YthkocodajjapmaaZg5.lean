/- How many steps of each kind a walk has: mathematics. Words of four letters as numbers: mathematics. At of a word. Add of a word; the word of a walk. Lists of steps; the word of a walk. -/
import Derived.Test.YthkocodajjapmaaZWOf
import Derived.Test.YthkocodajjapmaaZETurnM
import Derived.Test.YthkocodajjapmaaZg4
import Derived.BigQuiet
namespace Go.Proofs.Ythkocodajjapmaa
set_option maxRecDepth 20000
open Go.RowKit
set_option linter.unusedVariables false
/-! ### how many steps of each kind -/
section
variable {n m V : Nat} {sg nm : Nat → Nat} {r : Nat}
theorem num_next_eq (Q : Nat → Prop) (k c : Nat) (h : num Q (k + 1) = c) : (Q k → c = num Q k + 1) ∧ (¬ Q k → c = num Q k) :=
  ⟨fun q => by rw [← h, (num_next Q k).1 q], fun q => by rw [← h, (num_next Q k).2 q]⟩
theorem num_less' {n a : Nat} {Q R : Nat → Prop} (ha : a < n) (q : Q a) (h : ∀ i, i < n → (R i ↔ Q i ∧ i ≠ a)) : num R n + 1 = num Q n := by
  unfold num
  exact @filter_less (List.range n) (List.nodup_range) Q R (fun _ => Classical.propDecidable _) (fun _ => Classical.propDecidable _) a (by simpa using ha) q fun i hi => h i (by simpa using hi)
theorem num_same {n : Nat} {Q R : Nat → Prop} (h : ∀ i, i < n → (R i ↔ Q i)) : num R n = num Q n := by
  unfold num
  congr 1
  apply List.filter_congr
  intro i hi
  have := h i (by simpa using hi)
  simp [this]
theorem num_noneW {n : Nat} {Q : Nat → Prop} (h : ∀ i, i < n → ¬ Q i) : num Q n = 0 := by
  unfold num
  rw [List.length_eq_zero_iff, List.filter_eq_nil_iff]
  intro i hi
  have := h i (by simpa using hi)
  simpa using this
/-- How many of the first j steps are of the kind q. -/
noncomputable def wcn (sg nm : Nat → Nat) (m V r q j : Nat) : Nat := num (fun i => (wrun sg nm m V r i).k nm = q) j
/-- They are as many as edges of that kind. -/
theorem wcn_is (hs : PF n sg) (hn : n = 2 * m) (hnm : ∀ x y, x < n → y < n → (nm x = nm y ↔ Orb sg x y)) (hV : ∀ x, x < n → nm x < V) (hr : r < n) (q : Nat) (hq : q = 0 ∨ q = 2) : ∀ j, wcn sg nm m V r q j = num (fun e => (wrun sg nm m V r j).K.getD e 0 = (q : Int)) m
  | 0 => by
    have h0 : wcn sg nm m V r q 0 = 0 := rfl
    rw [h0]
    refine (num_noneW fun e he => ?_).symm
    show (List.replicate m (-1 : Int)).getD e 0 ≠ _
    have : (List.replicate m (-1 : Int)).getD e 0 = -1 := by simp [List.getD_eq_getElem?_getD, he]
    rw [this]; omega
  | j + 1 => by
    have ih := wcn_is hs hn hnm hV hr q hq j
    have hw := wok hs hn hnm hV hr j
    have hN := num_next (fun i => (wrun sg nm m V r i).k nm = q) j
    unfold wcn at ih ⊢
    have hse : (wrun sg nm m V r j).d / 2 < m := by have := hw.lt; omega
    have hK : (wrun sg nm m V r (j + 1)).K = wK1 (wrun sg nm m V r j).K (wrun sg nm m V r j).d ((wrun sg nm m V r j).k nm) := rfl
    rw [hK]
    generalize wrun sg nm m V r j = s at *
    have hsl : s.d / 2 < s.K.length := by rw [hw.kl]; exact hse
    rcases s.kinds (nm := nm) with ⟨k, a⟩ | ⟨k, a⟩ | ⟨k, a, c, _⟩ | ⟨k, a, c, _⟩
    · rw [hN.2 (by rw [k]; omega), ih, k]; rfl
    · rw [hN.2 (by rw [k]; omega), ih, k]; rfl
    · rw [k]
      have hK2 : ∀ e, (wK1 s.K s.d 2).getD e 0 = if e = s.d / 2 then 2 else s.K.getD e 0 := fun e => by
        unfold wK1; rw [if_pos (by omega)]; exact getI_set _ _ _ _ hsl
      have hkq : (s.k nm = q) ↔ q = 2 := by rw [k]; exact eq_comm
      by_cases c2 : q = 2
      · rw [hN.1 (hkq.2 c2), ih]
        refine num_less' hse (by rw [hK2, if_pos rfl, c2]; rfl) fun e he => ?_
        rw [hK2]
        by_cases x : e = s.d / 2
        · rw [if_pos x]
          subst c2
          exact ⟨fun y => absurd (by rw [← x]; exact y) c, fun y => absurd x y.2⟩
        · rw [if_neg x]; exact ⟨fun y => ⟨y, x⟩, fun y => y.1⟩
      · rw [hN.2 (fun y => c2 (hkq.1 y)), ih]
        refine num_same fun e he => ?_
        rw [hK2]
        by_cases x : e = s.d / 2
        · rw [if_pos x, x]
          have : q = 0 := by omega
          subst this
          exact ⟨fun y => absurd y a, fun y => absurd y (by decide)⟩
        · rw [if_neg x]
    · rw [k]
      have hK2 : ∀ e, (wK1 s.K s.d 0).getD e 0 = if e = s.d / 2 then 0 else s.K.getD e 0 := fun e => by
        unfold wK1; rw [if_pos (by omega)]; exact getI_set _ _ _ _ hsl
      have hkq : (s.k nm = q) ↔ q = 0 := by rw [k]; exact eq_comm
      by_cases c2 : q = 0
      · rw [hN.1 (hkq.2 c2), ih]
        refine num_less' hse (by rw [hK2, if_pos rfl, c2]; rfl) fun e he => ?_
        rw [hK2]
        by_cases x : e = s.d / 2
        · rw [if_pos x]
          subst c2
          exact ⟨fun y => absurd (by rw [← x]; exact y) a, fun y => absurd x y.2⟩
        · rw [if_neg x]; exact ⟨fun y => ⟨y, x⟩, fun y => y.1⟩
      · rw [hN.2 (fun y => c2 (hkq.1 y)), ih]
        refine num_same fun e he => ?_
        rw [hK2]
        by_cases x : e = s.d / 2
        · rw [if_pos x, x]
          have : q = 2 := by omega
          subst this
          exact ⟨fun y => absurd y c, fun y => absurd y (by decide)⟩
        · rw [if_neg x]
/-- The least dart of a vertex. -/
theorem one_lead (hs : PF n sg) (hnm : ∀ x y, x < n → y < n → (nm x = nm y ↔ Orb sg x y)) {x : Nat} (hx : x < n) : ∃ p, p < n ∧ Least (Orb sg) p ∧ nm p = nm x ∧ ∀ q, q < n → Least (Orb sg) q → nm q = nm x → q = p := by
  obtain ⟨p, h1, h2, h3⟩ := least_ex hs.eqv x hx
  have hp : p < n := by omega
  refine ⟨p, hp, h3, (hnm p x hp hx).2 h2, fun q hq l e => ?_⟩
  have hqp : Orb sg q p := hs.eqv.trans _ _ _ hq hx hp ((hnm q x hq hx).1 e) (hs.eqv.symm _ _ hp hx h2)
  exact least_uniq hs.eqv hq hp hqp l h3
/-- One more vertex is met than edges are Open. -/
theorem wmet (hs : PF n sg) (hn : n = 2 * m) (hnm : ∀ x y, x < n → y < n → (nm x = nm y ↔ Orb sg x y)) (hV : ∀ x, x < n → nm x < V) (hr : r < n) : ∀ j, num (fun d => Least (Orb sg) d ∧ (wrun sg nm m V r j).M.getD (nm d) false = true) n = wcn sg nm m V r 0 j + 1
  | 0 => by
    have h0 : wcn sg nm m V r 0 0 = 0 := rfl
    rw [h0]
    obtain ⟨p, hp, l, e, u⟩ := one_lead hs hnm hr
    have hm : ∀ x, ((List.replicate V false).set (nm r) true).getD x false = decide (x = nm r) := fun x => by
      rw [getB_set _ _ _ _ (by simpa using hV r hr)]
      by_cases c : x = nm r
      · rw [if_pos c, decide_eq_true_iff.2 c]
      · rw [if_neg c, decide_eq_false_iff_not.2 c]
        simp [List.getD_eq_getElem?_getD, List.getElem?_replicate]
        split <;> rfl
    have : num (fun _ => False) n + 1 = num (fun d => Least (Orb sg) d ∧ (wrun sg nm m V r 0).M.getD (nm d) false = true) n := by
      refine num_less' hp ⟨l, ?_⟩ fun i hi => ⟨False.elim, fun ⟨⟨a, b⟩, c⟩ => c (u i hi a ?_)⟩
      · show ((List.replicate V false).set (nm r) true).getD _ false = true
        rw [hm, e]; simp
      · have b' : ((List.replicate V false).set (nm r) true).getD (nm i) false = true := b
        rw [hm, decide_eq_true_iff] at b'
        exact b'
    rw [← this, num_noneW fun _ _ => id]
  | j + 1 => by
    have ih := wmet hs hn hnm hV hr j
    have hw := wok hs hn hnm hV hr j
    have hN := num_next (fun i => (wrun sg nm m V r i).k nm = 0) j
    unfold wcn at ih ⊢
    have hM : (wrun sg nm m V r (j + 1)).M = wM1 nm (wrun sg nm m V r j).M (wrun sg nm m V r j).d ((wrun sg nm m V r j).k nm) := rfl
    rw [hM]
    generalize wrun sg nm m V r j = s at *
    have hmd : mt s.d < n := mt_lt hn hw.lt
    by_cases k : s.k nm = 0
    · rw [hN.1 k, ← ih, k]
      have c : s.M.getD (nm (mt s.d)) false ≠ true := by
        rcases s.kinds (nm := nm) with ⟨q, _⟩ | ⟨q, _⟩ | ⟨q, _⟩ | ⟨_, _, _, c⟩
        · rw [k] at q; omega
        · rw [k] at q; omega
        · rw [k] at q; omega
        · exact c
      have hM2 : ∀ v, (wM1 nm s.M s.d 0).getD v false = if v = nm (mt s.d) then true else s.M.getD v false := fun v => by
        unfold wM1; rw [if_pos rfl]; exact getB_set _ _ _ _ (by rw [hw.ml]; exact hV _ hmd)
      obtain ⟨p, hp, l, e, u⟩ := one_lead hs hnm hmd
      refine (num_less' hp ⟨l, by rw [hM2, if_pos e]⟩ fun i hi => ?_).symm
      rw [hM2]
      constructor
      · rintro ⟨a, b⟩
        refine ⟨⟨a, ?_⟩, fun x => c ?_⟩
        · split
          · rfl
          · exact b
        · rw [← e, ← x]; exact b
      · rintro ⟨⟨a, b⟩, x⟩
        refine ⟨a, ?_⟩
        split at b
        · next y => exact absurd (u i hi a y) x
        · exact b
    · rw [hN.2 k, ← ih]
      unfold wM1
      rw [if_neg k]
end
theorem num_lt (N : Nat) : ∀ n, N ≤ n → num (fun j => j < N) n = N
  | 0, h => by have : N = 0 := by omega
               subst this; rfl
  | n + 1, h => by
    rcases Nat.lt_or_ge n N with c | c
    · rw [(num_next (fun j => j < N) n).1 c]
      have : num (fun j => j < N) n = num (fun _ => True) n := num_same fun i hi => ⟨fun _ => trivial, fun _ => by omega⟩
      have h2 : ∀ k, num (fun _ => True) k = k := fun k => by
        induction k with
        | zero => rfl
        | succ k ih => rw [(num_next (fun _ => True) k).1 trivial, ih]
      rw [this, h2]; omega
    · rw [(num_next (fun j => j < N) n).2 (by omega), num_lt N n c]
theorem num_or {P Q : Nat → Prop} (h : ∀ e, P e → ¬ Q e) : ∀ k, num P k + num Q k = num (fun e => P e ∨ Q e) k
  | 0 => rfl
  | k + 1 => by
    have ih := num_or h k
    by_cases p : P k
    · rw [(num_next P k).1 p, (num_next Q k).2 (h k p), (num_next (fun e => P e ∨ Q e) k).1 (.inl p)]; omega
    · rw [(num_next P k).2 p]
      by_cases q : Q k
      · rw [(num_next Q k).1 q, (num_next (fun e => P e ∨ Q e) k).1 (.inr q)]; omega
      · rw [(num_next Q k).2 q, (num_next (fun e => P e ∨ Q e) k).2 (fun x => x.elim p q)]; omega
theorem num_evens (P : Nat → Prop) : ∀ m, num (fun d => P d ∧ d % 2 = 0) (2 * m) = num (fun e => P (2 * e)) m
  | 0 => rfl
  | m + 1 => by
    have ih := num_evens P m
    rw [show 2 * (m + 1) = 2 * m + 1 + 1 by omega, (num_next (fun d => P d ∧ d % 2 = 0) (2 * m + 1)).2 (fun x => by have := x.2; omega)]
    by_cases p : P (2 * m)
    · rw [(num_next (fun d => P d ∧ d % 2 = 0) (2 * m)).1 ⟨p, by omega⟩, (num_next (fun e => P (2 * e)) m).1 p, ih]
    · rw [(num_next (fun d => P d ∧ d % 2 = 0) (2 * m)).2 (fun x => p x.1), (num_next (fun e => P (2 * e)) m).2 p, ih]
section
variable {l b : List Nat}
theorem wmark (h : Inv l b) (he : l.length % 2 = 0) {V : Nat} (hV : ∀ x, x < l.length → nameOf l x < V) {r : Nat} (hr : r < l.length) {x : Nat} (hx : x < l.length) :
    part l r x ↔ (wrun (sgL l) (nameOf l) (l.length / 2) V r (wN (sgL l) (nameOf l) (l.length / 2) V r)).M.getD (nameOf l x) false = true := by
  have hs := sgL_pf h
  have hn : l.length = 2 * (l.length / 2) := by omega
  have hw := wok hs hn (nm_ok h) hV hr (wN (sgL l) (nameOf l) (l.length / 2) V r)
  obtain ⟨n1, n2, n3, n4⟩ := wN_is hs hn (nm_ok h) hV hr
  refine (wpart hs hn (nm_ok h) hV hr hx).trans ?_
  rw [← hw.mo x hx]
  constructor
  · rintro ⟨j, hj, e⟩
    exact ⟨j, by rw [worb hs hn (nm_ok h) hV hr _ _ (Nat.le_of_lt hj)]; exact e⟩
  · rintro ⟨k, e⟩
    have hb : itf (fK (sgL l) (wrun (sgL l) (nameOf l) (l.length / 2) V r (wN (sgL l) (nameOf l) (l.length / 2) V r)).K) (wN (sgL l) (nameOf l) (l.length / 2) V r) r = r := by rw [worb hs hn (nm_ok h) hV hr _ _ (Nat.le_refl _)]; exact n3
    have h1 := itf_mul hb (k / wN (sgL l) (nameOf l) (l.length / 2) V r)
    have hlt : k % wN (sgL l) (nameOf l) (l.length / 2) V r < wN (sgL l) (nameOf l) (l.length / 2) V r := Nat.mod_lt _ (by omega)
    refine ⟨_, hlt, ?_⟩
    rw [← worb hs hn (nm_ok h) hV hr _ _ (Nat.le_of_lt hlt)]
    rw [← Nat.mod_add_div k (wN (sgL l) (nameOf l) (l.length / 2) V r), itf_add, Nat.mul_comm, h1] at e
    exact e
theorem pq_part (h : Inv l b) (he : l.length % 2 = 0) {r x : Nat} (hr : r < l.length) (hx : x < l.length) : pq l x = pq l r ↔ part l r x := by
  have hq := part_eqv h he
  unfold pq
  rw [eq_comm]
  exact prt_iff hq hr hx
open Classical in
theorem walk_counts (h : Inv l b) (he : l.length % 2 = 0) {V : Nat} (hV : ∀ x, x < l.length → nameOf l x < V) {r : Nat} (hr : r < l.length) :
    wN (sgL l) (nameOf l) (l.length / 2) V r = 2 * pE l (pq l r) l.length ∧
    wcn (sgL l) (nameOf l) (l.length / 2) V r 0 (wN (sgL l) (nameOf l) (l.length / 2) V r) + 1 = pV l (pq l r) l.length ∧
    wcn (sgL l) (nameOf l) (l.length / 2) V r 0 (wN (sgL l) (nameOf l) (l.length / 2) V r) + wcn (sgL l) (nameOf l) (l.length / 2) V r 2 (wN (sgL l) (nameOf l) (l.length / 2) V r) = pE l (pq l r) l.length := by
  have hs := sgL_pf h
  have hn : l.length = 2 * (l.length / 2) := by omega
  obtain ⟨n1, n2, n3, n4⟩ := wN_is hs hn (nm_ok h) hV hr
  have hwp := fun x hx => wpart hs hn (nm_ok h) hV hr (x := x) hx
  have hwo := fun i j hi hj e => wonce hs hn (nm_ok h) hV hr (i := i) (j := j) hi hj e
  have hwm := fun x hx => wmark h he hV hr (x := x) hx
  have hlt := fun j => (wok hs hn (nm_ok h) hV hr j).lt
  have hmet := wmet hs hn (nm_ok h) hV hr (wN (sgL l) (nameOf l) (l.length / 2) V r)
  have hc0 := wcn_is hs hn (nm_ok h) hV hr 0 (.inl rfl) (wN (sgL l) (nameOf l) (l.length / 2) V r)
  have hc2 := wcn_is hs hn (nm_ok h) hV hr 2 (.inr rfl) (wN (sgL l) (nameOf l) (l.length / 2) V r)
  have hwk := fun j hj => wkind hs hn (nm_ok h) hV hr (i := j) (j := wN (sgL l) (nameOf l) (l.length / 2) V r) hj
  have hw := wok hs hn (nm_ok h) hV hr (wN (sgL l) (nameOf l) (l.length / 2) V r)
  generalize hN : wN (sgL l) (nameOf l) (l.length / 2) V r = N at *
  refine ⟨?_, ?_, ?_⟩
  · rw [← num_two h he]
    have e1 : num (fun d => pq l d = pq l r) l.length = num (fun d => part l r d) l.length := num_same fun d hd => pq_part h he hr hd
    rw [e1]
    refine Nat.le_antisymm ?_ ?_
    · have := num_inj (A := fun j => j < N) (B := fun d => part l r d) (n := l.length) (fun j => (wrun (sgL l) (nameOf l) (l.length / 2) V r j).d) (fun j _ hj => ⟨hlt j, (hwp _ (hlt j)).2 ⟨j, hj, rfl⟩⟩) (fun i j _ _ hi hj e => hwo i j hi hj e)
      rwa [num_lt N _ n2] at this
    · have := num_inj (A := fun d => part l r d) (B := fun j => j < N) (n := l.length) (fun d => if hx : ∃ j, j < N ∧ (wrun (sgL l) (nameOf l) (l.length / 2) V r j).d = d then hx.choose else 0) (fun d hd hp => by
        have hx := (hwp d hd).1 hp
        show (if hx : _ then _ else _) < _ ∧ (if hx : _ then _ else _) < N
        rw [dif_pos hx]
        exact ⟨by have := hx.choose_spec.1; omega, hx.choose_spec.1⟩) (fun x y hx hy px py e => by
        have h1 := (hwp x hx).1 px
        have h2 := (hwp y hy).1 py
        simp only [dif_pos h1, dif_pos h2] at e
        rw [← h1.choose_spec.2, ← h2.choose_spec.2, e])
      rwa [num_lt N _ n2] at this
  · rw [← hmet]
    unfold pV
    refine num_same fun d hd => ?_
    rw [← hwm d hd, pq_part h he hr hd, leads_least h (Nat.le_of_lt hd)]
    exact and_comm
  · rw [hc0, hc2, num_or (fun e x y => by rw [x] at y; omega)]
    unfold pE
    have e2 : num (fun d => pq l d = pq l r ∧ d % 2 = 0) l.length = num (fun e => pq l (2 * e) = pq l r) (l.length / 2) := by
      have := num_evens (fun d => pq l d = pq l r) (l.length / 2)
      rwa [← hn] at this
    rw [e2]
    refine num_same fun e hem => ?_
    have h2 : 2 * e < l.length := by omega
    rw [pq_part h he hr h2]
    constructor
    · intro x
      exact (hwm _ h2).2 (hw.me _ h2 (by rw [show 2 * e / 2 = e by omega]; rcases x with x | x <;> rw [x] <;> decide))
    · intro p
      obtain ⟨j, hj, ej⟩ := (hwp _ h2).1 p
      have := hwk j hj
      rw [ej, show 2 * e / 2 = e by omega] at this
      rw [this]
      split
      · exact .inl rfl
      · exact .inr rfl
end
end Go.Proofs.Ythkocodajjapmaa
namespace Go.Proofs.Ythkocodajjapmaa
set_option maxRecDepth 20000
open Go.RowKit
set_option linter.unusedVariables false
/-- The number that a word's bits are: two bits a letter. -/
def wv : List Nat → Nat
  | [] => 0
  | k :: ks => k % 4 + 4 * wv ks
theorem wv_snoc (k : Nat) : ∀ ks : List Nat, wv (ks ++ [k]) = put (wv ks) (2 * ks.length) k 2
  | [] => by simp [wv, put]
  | x :: ks => by
    show x % 4 + 4 * wv (ks ++ [k]) = _
    rw [wv_snoc k ks]
    unfold put
    show _ = (x % 4 + 4 * wv ks) + _
    rw [List.length_cons, show 2 * (ks.length + 1) = 2 * ks.length + 2 by omega, Nat.pow_add, show (2 : Nat) ^ 2 = 4 from rfl, ← Nat.mul_assoc]
    generalize k % 4 * 2 ^ (2 * ks.length) = q
    omega
theorem wv_at : ∀ (ks : List Nat) (i : Nat), i < ks.length → wv ks / 2 ^ (2 * i) % 2 + 2 * (wv ks / 2 ^ (2 * i + 1) % 2) = ks.getD i 0 % 4
  | [], i, h => absurd h (by simp)
  | x :: ks, 0, h => by
    show (x % 4 + 4 * wv ks) / 2 ^ 0 % 2 + 2 * ((x % 4 + 4 * wv ks) / 2 ^ 1 % 2) = x % 4
    rw [Nat.pow_zero, Nat.pow_one]; omega
  | x :: ks, i + 1, h => by
    have ih := wv_at ks i (by simpa using h)
    show (x % 4 + 4 * wv ks) / 2 ^ (2 * (i + 1)) % 2 + 2 * ((x % 4 + 4 * wv ks) / 2 ^ (2 * (i + 1) + 1) % 2) = ks.getD i 0 % 4
    have e : ∀ j, (x % 4 + 4 * wv ks) / 2 ^ (j + 2) = wv ks / 2 ^ j := fun j => by
      rw [Nat.pow_add, show (2 : Nat) ^ 2 = 4 from rfl, Nat.mul_comm (2 ^ j) 4, ← Nat.div_div_eq_div_mul]
      congr 1; omega
    rw [show 2 * (i + 1) = 2 * i + 2 by omega, show 2 * i + 2 + 1 = 2 * i + 1 + 2 by omega, e, e]
    exact ih
theorem wv_lo (ks : List Nat) (i : Nat) (h : i < ks.length) : wv ks / 2 ^ (2 * i) % 2 = ks.getD i 0 % 2 := by have := wv_at ks i h; omega
theorem wv_hi (ks : List Nat) (i : Nat) (h : i < ks.length) : wv ks / 2 ^ (2 * i + 1) % 2 = ks.getD i 0 / 2 % 2 := by have := wv_at ks i h; omega
/-- At g lies a word. -/
def WordAt (w : World) (B g : Nat) (ks : List Nat) : Prop :=
  (∀ x ∈ ks, x < 4) ∧ B ≤ g ∧ ∃ gv A, B ≤ gv ∧ Blk w g 86 #[.pointer (some ⟨gv, 0, none⟩)] ∧ VecAt w gv (wv ks) (2 * ks.length) A
theorem WordAt.below {w w' : World} {B g : Nat} {ks : List Nat} (h : WordAt w B g ks) (z : Below w.heap.size w w') : WordAt w' B g ks := by
  obtain ⟨h1, h2, gv, A, h3, h4, h5⟩ := h
  exact ⟨h1, h2, gv, A, h3, h4.below z, h5.below z⟩
theorem WordAt.base {w : World} {B B' g : Nat} {ks : List Nat} (h : WordAt w B g ks) (z : B' ≤ B) : WordAt w B' g ks := by
  obtain ⟨h1, h2, gv, A, h3, h4, h5⟩ := h
  exact ⟨h1, by omega, gv, A, by omega, h4, h5⟩
theorem mnew_p (w : World) : Calls Try.prog 37 #[] w fun e w' => ∃ g, e = .returned (.pointer (some ⟨g, 0, none⟩)) ∧ WordAt w' w.heap.size g [] ∧ Below w.heap.size w w' := by
  have NP := Lib.hid (bnew_p w)
  go_enter Try.func37, Try.ntmps37
  go_wp2_with fail
  refine NP.out.mono ?_
  rintro e w1 ⟨rfl, hv, z⟩
  go_wp2_with fail
  go_ret
  refine ⟨_, rfl, ⟨by simp, z.size, w.heap.size, none, Nat.le_refl _, Blk.new w1 _ _, ?_⟩, z.alloc z.size _⟩
  exact hv.below ((Below.refl _ _).alloc (Nat.le_refl _) _)
theorem foot_word {w : World} {B g gv V n : Nat} {A : Option Addr} {cs : Array Value} (h : Blk w g 86 cs) (hv : VecB w B gv V n A) : ¬ foot gv A g := by
  obtain ⟨h1, h2, c, h3, h4⟩ := hv
  rintro (e | ⟨b, e, rfl⟩)
  · subst e
    unfold Blk at h h3
    rw [h] at h3
    simp at h3
  · exact own_ne h4 h (by decide) (by rw [e]; rfl)
set_option maxHeartbeats 1000000 in
theorem mput_p (B g : Nat) (ks : List Nat) (k : Nat) (w : World) (h : WordAt w B g ks) (hk : k < 4) (hn : ks.length ≤ 400000) :
    Calls Try.prog 68 #[.pointer (some ⟨g, 0, none⟩), .int .i64 (k : Int)] w fun e w' => e = .returned (.tuple #[]) ∧ WordAt w' B g (ks ++ [k]) ∧ Below B w w' := by
  obtain ⟨h1, h2, gv, A, h3, h4, h5⟩ := h
  have np := num_p gv (wv ks) (2 * ks.length) k 2 A w h5 (by omega) (by omega) (by omega)
  rw [show cnt64 2 = 2 by decide] at np
  have NP := Lib.hid np
  clear np
  have c0 : w.cell? ⟨g, 0, none⟩ = some (.pointer (some ⟨gv, 0, none⟩)) := h4.cell 0
  have hw : IntKind.u64.wrap (k : Int) = (k : Int) := by simp [IntKind.wrap, IntKind.signed, IntKind.bits]; omega
  have H4 := Lib.hid h4
  have H5 := Lib.hid h5
  have H1 := Lib.hid h1
  clear h4 h5 h1
  go_enter Try.func68, Try.ntmps68
  go_wp2_with fail
  refine NP.out.mono ?_
  intro e w1 hp
  have hb := NumPost.below hp H5.out
  obtain ⟨rfl, A', hv, hm, ha⟩ := hp
  have W1 : Hid (WordAt w1 B g (ks ++ [k])) := by
    refine ⟨fun x hx => ?_, h2, gv, A', h3, H4.out.mod hm (foot_word H4.out H5.out), ?_⟩
    · rcases List.mem_append.1 hx with y | y
      · exact H1.out x y
      · simp at y; omega
    · rw [wv_snoc, List.length_append, List.length_singleton, show 2 * (ks.length + 1) = 2 * ks.length + 2 by omega]
      exact hv
  have Z1 := Lib.hid (hb.mono h3)
  clear hb hv hm ha NP
  go_wp2_with fail
  refine bodyPost_end (results_none rfl _ _ _) rfl ⟨rfl, W1.out, Z1.out⟩
/-- A word whose blocks are none of S. -/
def WordS (w : World) (B g : Nat) (ks : List Nat) (S : Nat → Prop) : Prop :=
  (∀ x ∈ ks, x < 4) ∧ B ≤ g ∧ ∃ gv A, B ≤ gv ∧ Blk w g 86 #[.pointer (some ⟨gv, 0, none⟩)] ∧ VecAt w gv (wv ks) (2 * ks.length) A ∧ ∀ i, foot gv A i → ¬ S i
theorem WordS.at_ {w : World} {B g : Nat} {ks : List Nat} {S : Nat → Prop} (h : WordS w B g ks S) : WordAt w B g ks := by
  obtain ⟨h1, h2, gv, A, h3, h4, h5, _⟩ := h
  exact ⟨h1, h2, gv, A, h3, h4, h5⟩
theorem WordAt.sep {w : World} {B g : Nat} {ks : List Nat} (h : WordAt w B g ks) {S : Nat → Prop} (hS : ∀ i, S i → ∃ cs, Blk w i 3 cs) : WordS w B g ks S := by
  obtain ⟨h1, h2, gv, A, h3, h4, h5⟩ := h
  refine ⟨h1, h2, gv, A, h3, h4, h5, fun i hi hs => ?_⟩
  obtain ⟨cs, hb⟩ := hS i hs
  obtain ⟨_, _, c, b1, b2⟩ := h5
  rcases hi with e | ⟨b, e, rfl⟩
  · subst e
    unfold Blk at hb b1
    rw [hb] at b1
    simp at b1
  · exact own_ne b2 hb (by decide) (by rw [e]; rfl)
set_option maxHeartbeats 1000000 in
theorem mput_s (B g : Nat) (ks : List Nat) (k : Nat) (w : World) (S : Nat → Prop) (h : WordS w B g ks S) (hk : k < 4) (hn : ks.length ≤ 400000) (hS : ∀ i, S i → i < w.heap.size) :
    Calls Try.prog 68 #[.pointer (some ⟨g, 0, none⟩), .int .i64 (k : Int)] w fun e w' => e = .returned (.tuple #[]) ∧ WordS w' B g (ks ++ [k]) S ∧ Below B w w' ∧ Mod (fun i => ¬ S i) w w' := by
  obtain ⟨h1, h2, gv, A, h3, h4, h5, h6⟩ := h
  have np := num_p gv (wv ks) (2 * ks.length) k 2 A w h5 (by omega) (by omega) (by omega)
  rw [show cnt64 2 = 2 by decide] at np
  have NP := Lib.hid np
  clear np
  have c0 : w.cell? ⟨g, 0, none⟩ = some (.pointer (some ⟨gv, 0, none⟩)) := h4.cell 0
  have hw : IntKind.u64.wrap (k : Int) = (k : Int) := by simp [IntKind.wrap, IntKind.signed, IntKind.bits]; omega
  have H4 := Lib.hid h4
  have H5 := Lib.hid h5
  have H1 := Lib.hid h1
  have H6 := Lib.hid h6
  clear h4 h5 h1 h6
  go_enter Try.func68, Try.ntmps68
  go_wp2_with fail
  refine NP.out.mono ?_
  intro e w1 hp
  have hb := NumPost.below hp H5.out
  obtain ⟨rfl, A', hv, hm, ha⟩ := hp
  have W1 : Hid (WordS w1 B g (ks ++ [k]) S) := by
    refine ⟨fun x hx => ?_, h2, gv, A', h3, H4.out.mod hm (foot_word H4.out H5.out), ?_, fun i hi hs => ?_⟩
    · rcases List.mem_append.1 hx with y | y
      · exact H1.out x y
      · simp at y; omega
    · rw [wv_snoc, List.length_append, List.length_singleton, show 2 * (ks.length + 1) = 2 * ks.length + 2 by omega]
      exact hv
    · rcases ha with rfl | ⟨b, rfl, hb⟩
      · exact H6.out i hi hs
      · rcases hi with e | ⟨b', e, e2⟩
        · exact H6.out i (.inl e) hs
        · have := hS i hs
          have e3 : b = b' := (Addr.mk.inj (Option.some.inj e)).1
          omega
  have Z1 := Lib.hid (hb.mono h3)
  have M1 : Hid (Mod (fun i => ¬ S i) w w1) := hm.mono fun i _ hi hs => H6.out i hi hs
  clear hb hv hm ha NP
  go_wp2_with fail
  refine bodyPost_end (results_none rfl _ _ _) rfl ⟨rfl, W1.out, Z1.out, M1.out⟩
theorem mlen_p (B g : Nat) (ks : List Nat) (w : World) (h : WordAt w B g ks) : Calls Try.prog 27 #[.pointer (some ⟨g, 0, none⟩)] w fun e w' => e = .returned (.int .i64 (ks.length : Int)) ∧ w = w' := by
  obtain ⟨h1, h2, gv, A, h3, h4, h5⟩ := h
  have LP := Lib.hid (blen_p gv _ _ A w h5)
  have hl := h5.2.1
  have c0 : w.cell? ⟨g, 0, none⟩ = some (.pointer (some ⟨gv, 0, none⟩)) := h4.cell 0
  obtain ⟨n2, hn2⟩ : ∃ n2, n2 = 2 * ks.length := ⟨_, rfl⟩
  rw [← hn2] at LP
  have e1 : (n2 : Int) / 2 = (ks.length : Int) := by omega
  have e2 : (n2 : Int).tdiv 2 = (ks.length : Int) := by rw [Int.tdiv_eq_ediv_of_nonneg (by omega)]; exact e1
  have ew : IntKind.i64.wrap (ks.length : Int) = (ks.length : Int) := by simp [IntKind.wrap, IntKind.signed, IntKind.bits]; omega
  clear hn2 h4 h5 hl
  go_enter Try.func27, Try.ntmps27
  go_wp2_with fail
  refine LP.out.mono ?_
  rintro e w1 ⟨rfl, rfl⟩
  go_wp2_with fail
  go_ret
  exact ⟨by first | rfl | simp [ew], rfl⟩
theorem mlen_nil (w : World) : Calls Try.prog 27 #[.pointer none] w fun e w' => e = .returned (.int .i64 0) ∧ w = w' := by
  go_enter Try.func27, Try.ntmps27
  go_wp2_with fail
  go_ret
  exact ⟨rfl, rfl⟩
end Go.Proofs.Ythkocodajjapmaa
namespace Go.Proofs.Ythkocodajjapmaa
set_option maxRecDepth 20000
open Go.RowKit
set_option linter.unusedVariables false
set_option maxHeartbeats 4000000 in
theorem mat_p (B g : Nat) (ks : List Nat) (i : Nat) (w : World) (h : WordAt w B g ks) (hi : i < ks.length) (hn : ks.length ≤ 400000) : Calls Try.prog 39 #[.pointer (some ⟨g, 0, none⟩), .int .i64 (i : Int)] w fun e w' => e = .returned (.int .i64 ((ks.getD i 0 : Nat) : Int)) ∧ ∃ j, w' = w.drewN j := by
  have LP := Lib.hid (mlen_p B g ks w h)
  obtain ⟨h1, h2, gv, A, h3, h4, h5⟩ := h
  obtain ⟨a, ha⟩ : ∃ a, a = 2 * i := ⟨_, rfl⟩
  obtain ⟨a1, ha1⟩ : ∃ a1, a1 = 2 * i + 1 := ⟨_, rfl⟩
  obtain ⟨bt, hbt⟩ : ∃ bt : Nat → Nat, ∀ p, bt p = wv ks / 2 ^ p % 2 := ⟨_, fun _ => rfl⟩
  have AT : Hid (∀ (j p : Nat), p < 2 * ks.length → Calls Try.prog 69 #[.pointer (some ⟨gv, 0, none⟩), .int .i64 (p : Int)] (w.drewN j) fun e w' => e = .returned (.int .i64 ((bt p : Nat) : Int)) ∧ w.drewN j = w') := fun j p hp => by
    rw [hbt]; exact at_p gv _ _ p (gv + 1) A (w.drewN j) (VecB.below h5 (below_draws (Below.refl _ _) j)) hp
  have hx : bt a = ks.getD i 0 % 2 := by rw [hbt, ha]; exact wv_lo ks i hi
  have hy : bt a1 = ks.getD i 0 / 2 % 2 := by rw [hbt, ha1]; exact wv_hi ks i hi
  have hal : a < 2 * ks.length := by omega
  have ha1l : a1 < 2 * ks.length := by omega
  have AT0 := Lib.hid (fun j => AT.out j a hal)
  have AT1 := Lib.hid (fun j => AT.out j a1 ha1l)
  have c0 : w.cell? ⟨g, 0, none⟩ = some (.pointer (some ⟨gv, 0, none⟩)) := h4.cell 0
  have hk4 : ks.getD i 0 < 4 := h1 _ (by rw [List.getD_eq_getElem?_getD, List.getElem?_eq_getElem hi]; exact List.getElem_mem hi)
  generalize ks.getD i 0 = k at *
  have f1 : 2 * (i : Int) = (a : Int) := by omega
  have f2 : (a : Int) + 1 = (a1 : Int) := by omega
  have g1 : IntKind.i64.wrap (a : Int) = (a : Int) := by simp [IntKind.wrap, IntKind.signed, IntKind.bits]; omega
  have g2 : IntKind.i64.wrap (a1 : Int) = (a1 : Int) := by simp [IntKind.wrap, IntKind.signed, IntKind.bits]; omega
  obtain ⟨y2, hy2⟩ : ∃ y2, y2 = 2 * bt a1 := ⟨_, rfl⟩
  have f3 : 2 * ((bt a1 : Nat) : Int) = (y2 : Int) := by omega
  have g3 : IntKind.i64.wrap (y2 : Int) = (y2 : Int) := by simp [IntKind.wrap, IntKind.signed, IntKind.bits]; omega
  have f4 : ((bt a : Nat) : Int) + (y2 : Int) = (k : Int) := by omega
  have g4 : IntKind.i64.wrap (k : Int) = (k : Int) := by simp [IntKind.wrap, IntKind.signed, IntKind.bits]; omega
  have hlt : ¬ (ks.length : Int) ≤ (i : Int) := by omega
  have hlt2 : decide ((ks.length : Int) ≤ (i : Int)) = false := by rw [decide_eq_false_iff_not]; exact hlt
  clear h4 h5 ha ha1 hx hy hy2 h1 hbt hal ha1l AT
  have AT : Hid (∀ (j p : Nat), (p = a ∨ p = a1) → Calls Try.prog 69 #[.pointer (some ⟨gv, 0, none⟩), .int .i64 (p : Int)] (w.drewN j) fun e w' => e = .returned (.int .i64 ((bt p : Nat) : Int)) ∧ w.drewN j = w') := fun j p hp => by
    rcases hp with rfl | rfl
    · exact AT0.out j
    · exact AT1.out j
  clear AT0 AT1
  go_enter Try.func39, Try.ntmps39
  go_wp2_with fail
  refine LP.out.mono ?_
  rintro e w' ⟨rfl, rfl⟩
  go_wp2_with fail
  go_quiet ((go_at_call 69; exact (AT.out _ _ (by first | exact .inl rfl | exact .inr rfl)).mono fun e w' h => ⟨h.1, _, h.2.symm⟩))
  go_wp2_with fail
  go_ret
  exact ⟨rfl, _, rfl⟩
/-- The text of letters. -/
def signN (k : Nat) : Nat := [40, 41, 91, 93].getD k 0
def textM (ks : List Nat) : ByteArray := strOfNums (ks.map fun k => ((signN k : Nat) : Int))
theorem strOfNums_map (X : List Nat) : strOfNums (X.map fun (b : Nat) => (b : Int)) = strOfNums (X.map fun (b : Nat) => (b : Int)) := rfl
set_option maxHeartbeats 4000000 in
theorem mtext_p (B g : Nat) (ks : List Nat) (w : World) (h : WordAt w B g ks) (hn : ks.length ≤ 400000) :
    Calls Try.prog 15 #[.pointer (some ⟨g, 0, none⟩)] w fun e w' => e = .returned (.string (textM ks)) ∧ Below w.heap.size w w' := by
  have LP := Lib.hid (mlen_p B g ks w h)
  obtain ⟨n, hnn⟩ : ∃ n, n = ks.length := ⟨_, rfl⟩
  rw [← hnn] at LP hn
  obtain ⟨X, hX⟩ : ∃ X, X = ks.map signN := ⟨_, rfl⟩
  have HX : Hid (X.length = n) := by show _ = _; rw [hX, List.length_map, hnn]
  have HT : Hid (textM ks = strOfNums (X.map fun (b : Nat) => (b : Int))) := by
    show _ = _
    rw [hX, textM, List.map_map]; rfl
  have H4 := Lib.hid h.1
  have XG : Hid (∀ i, i < n → ∃ k, k < 4 ∧ ks.getD i 0 = k ∧ X.getD i 0 = signN k) := fun i hi => by
    have hil : i < ks.length := by omega
    refine ⟨ks.getD i 0, H4.out _ (by rw [List.getD_eq_getElem?_getD, List.getElem?_eq_getElem hil]; exact List.getElem_mem hil), rfl, ?_⟩
    rw [hX]; simp [List.getD_eq_getElem?_getD, hil]
  have AP : Hid (∀ (i : Nat) (W : World), i < n → Below w.heap.size w W → Calls Try.prog 39 #[.pointer (some ⟨g, 0, none⟩), .int .i64 (i : Int)] W fun e w' => e = .returned (.int .i64 ((ks.getD i 0 : Nat) : Int)) ∧ Below W.heap.size W w') := fun i W hi z =>
    (mat_p B g ks i W (h.below z) (by omega) (by omega)).mono fun e w' ⟨h1, j, h2⟩ => ⟨h1, by rw [h2]; exact below_draws (Below.refl _ _) j⟩
  obtain ⟨i0, hi0, hz0, hz1, hz2⟩ := info_parts info_u8
  have hmk := run_make_one (P := Try.prog) 22 5 i0 (.int .u8 0) 1 Try.underlying22 hi0 hz0 hz1 hz2 rfl .i64 .i64 n (by omega) (by omega)
  clear h hX hnn H4
  go_enter Try.func15, Try.ntmps15
  go_wp2_with fail
  refine LP.out.mono ?_
  rintro e w' ⟨rfl, rfl⟩
  go_wp2_with fail
  go_loopw [10] (fun i wr => ∃ k : Nat, k ≤ n ∧ i = .int .i64 k ∧ Blk wr w.heap.size 5 (U8 (X.take k ++ List.replicate (n - k) 0)).toArray ∧ Below w.heap.size w wr) (fun i _ => n - (intOf i).toNat)
  case atStart =>
    refine ⟨0, by omega, rfl, ?_, (Below.refl _ _).alloc (Nat.le_refl _) _⟩
    have := Blk.new w 5 (Array.replicate n (.int .u8 0))
    simpa [U8] using this
  case round =>
    obtain ⟨k, hk, rfl, hbk, hbl⟩ := hrel
    by_cases hlt : k < n
    · obtain ⟨q, hq4, hq, hxq⟩ := XG.out k hlt
      have AT := Lib.hid (AP.out k wr hlt hbl)
      rw [hq] at AT
      have hf := fill_next X k n HX.out hlt
      rw [hxq] at hf
      have HFX := Lib.hid hf
      have hqI : (q : Int) = 0 ∨ (q : Int) = 1 ∨ (q : Int) = 2 ∨ (q : Int) = 3 := by omega
      have hsg : ∀ W : World, (Instr.index 9 (.string { data := #[40, 41, 91, 93] }) (.int .i64 (q : Int))).run Try.prog W = .ok (.int .u8 ((signN q : Nat) : Int)) W := fun W => by
        rcases (show q = 0 ∨ q = 1 ∨ q = 2 ∨ q = 3 by omega) with rfl | rfl | rfl | rfl <;> rfl
      have hs256 : signN q < 256 := by
        rcases (show q = 0 ∨ q = 1 ∨ q = 2 ∨ q = 3 by omega) with rfl | rfl | rfl | rfl <;> decide
      generalize signN q = y at *
      clear hf hq hxq hqI hq4
      obtain ⟨z, hz⟩ : ∃ z, (U8 (X.take k ++ List.replicate (n - k) 0)).toArray[k]? = some z := ⟨_, Array.getElem?_eq_getElem (by simp [U8_len]; have := HX.out; omega)⟩
      have HBK := Lib.hid hbk
      have HBL := Lib.hid hbl
      have HZ := Lib.hid hz
      clear hbk hbl hz
      go_wp2_with fail
      refine AT.out.mono ?_
      rintro e w2 ⟨rfl, z2⟩
      have hbk2 := HBK.out.below z2
      have tz : w2.cell? ⟨w.heap.size, k, none⟩ = some z := (hbk2.cell k).trans HZ.out
      have fz : w2.frozen? ⟨w.heap.size, k, none⟩ = false := hbk2.frozen k
      have NB := Lib.hid (hbk2.set_ k (.int .u8 (y : Int)))
      have ZB := Lib.hid ((HBL.out.trans (z2.mono HBL.out.size)).setCell (p := ⟨w.heap.size, k, none⟩) (Nat.le_refl _) (.int .u8 (y : Int)))
      clear hbk2 z2 HBK HBL AT
      go_wp2_with fail
      go_roundw
      case rel =>
        refine ⟨k + 1, by omega, by go_num, ?_, ZB.out⟩
        have := NB.out
        rw [HFX.out] at this
        exact this
      case measure => simp [intOf]; omega
    · obtain rfl : k = n := by omega
      rw [Nat.sub_self, List.replicate_zero, List.append_nil, List.take_of_length_le (by rw [HX.out]; exact Nat.le_refl _)] at hbk
      have hend : Rd wr (w.heap.size + 1) (some ⟨w.heap.size, 0, none⟩) k (U8 X) :=
        ⟨by rw [U8_len, HX.out], fun _ => ⟨_, _, rfl, Nat.lt_succ_self _, fun j hj => by rw [Nat.zero_add, hbk.cell]; simp at hj ⊢⟩⟩
      have hcv := conv_bytes (some ⟨w.heap.size, 0, none⟩) k k _ X wr hend
      go_wp2_with fail
      go_ret
      exact ⟨by rw [HT.out]; rfl, hbl⟩
end Go.Proofs.Ythkocodajjapmaa
namespace Go.Proofs.Ythkocodajjapmaa
set_option maxRecDepth 20000
open Go.RowKit
set_option linter.unusedVariables false
def Kd (x : Int) : Prop := 0 ≤ x ∧ x < 4
instance (x : Int) : Decidable (Kd x) := by unfold Kd; exact inferInstance
theorem isKind_p (x : Int) (w : World) : Calls Try.prog 67 #[.int .i64 x] w fun e w' => e = .returned (.bool (decide (Kd x))) ∧ w = w' := by
  by_cases h0 : 0 ≤ x
  · by_cases h1 : x ≤ 3
    · have hk : decide (Kd x) = true := decide_eq_true ⟨h0, by omega⟩
      rw [hk]
      go_enter Try.func67, Try.ntmps67
      go_wp2_with fail
      go_ret
      exact ⟨rfl, rfl⟩
    · have hk : decide (Kd x) = false := decide_eq_false fun h => h1 (by have := h.2; omega)
      rw [hk]
      have h2 : decide (x ≤ 3) = false := by rw [decide_eq_false_iff_not]; exact h1
      go_enter Try.func67, Try.ntmps67
      go_wp2_with fail
      go_ret
      exact ⟨rfl, rfl⟩
  · have hk : decide (Kd x) = false := decide_eq_false fun h => h0 h.1
    rw [hk]
    have h2 : decide (0 ≤ x) = false := by rw [decide_eq_false_iff_not]; exact h0
    go_enter Try.func67, Try.ntmps67
    go_wp2_with fail
    go_ret
    exact ⟨rfl, rfl⟩
theorem noKind_p (x : Int) (w : World) : Calls Try.prog 66 #[.int .i64 x] w fun e w' => e = .returned (.bool (!decide (Kd x))) ∧ w = w' := by
  have KP := Lib.hid (isKind_p x w)
  generalize decide (Kd x) = q at *
  go_enter Try.func66, Try.ntmps66
  go_wp2_with fail
  refine KP.out.mono ?_
  rintro e w' ⟨rfl, rfl⟩
  go_wp2_with fail
  go_ret
  exact ⟨rfl, rfl⟩
theorem indexKind_p (A : Option Addr) (n c B : Nat) (z : List Int) (w : World) (h : Rd w B A n (I64 z)) (hn : n ≤ 1000000) :
    Calls Try.prog 76 #[.slice A n c, .func (.func 66) #[] #[]] w fun e w' => ∃ q : Int, e = .returned (.int .i64 q) ∧ w = w' ∧ (0 ≤ q ↔ ¬ ∀ x ∈ z, Kd x) := by
  have hl : z.length = n := by rw [← h.len, I64_len]
  have NK : Hid (∀ (x : Int) (W : World), Calls Try.prog 66 #[.int .i64 x] W fun e w' => e = .returned (.bool (!decide (Kd x))) ∧ W = w') := fun x W => noKind_p x W
  have HZ := Lib.hid h
  have HL := Lib.hid hl
  clear h hl
  go_enter Try.func76, Try.ntmps76
  go_wp2_with fail
  go_loopw [8] (fun i wr => ∃ k : Nat, k ≤ n ∧ i = .int .i64 k ∧ Hid (∀ j, j < k → Kd (z.getD j 0)) ∧ wr = w) (fun i _ => n - (intOf i).toNat)
  case atStart => exact ⟨0, by omega, rfl, fun j hj => absurd hj (by omega), rfl⟩
  case round =>
    obtain ⟨k, hk, rfl, hy, rfl⟩ := hrel
    by_cases hlt : k < n
    · obtain ⟨bb, o, rfl, _, kk⟩ := HZ.out.i64 (by omega)
      have x0 := kk k hlt
      have hmem : z.getD k 0 ∈ z := by
        have : k < z.length := by rw [HL.out]; exact hlt
        rw [List.getD_eq_getElem?_getD, List.getElem?_eq_getElem this]; exact List.getElem_mem this
      have HME := Lib.hid hmem
      have NX : Hid (Kd (z.getD k 0) → ∀ j, j < k + 1 → Kd (z.getD j 0)) := fun q j hj => by
        rcases Nat.lt_or_ge j k with c | c
        · exact hy.out j c
        · rw [show j = k by omega]; exact q
      clear kk hmem
      generalize z.getD k 0 = x at *
      have N1 := Lib.hid (NK.out x wr)
      by_cases q : Kd x
      · rw [decide_eq_true q] at N1
        have HQ := Lib.hid q
        clear q
        go_wp2_with fail
        refine N1.out.mono ?_
        rintro e w' ⟨rfl, rfl⟩
        go_wp2_with fail
        go_roundw
        case rel => exact ⟨k + 1, by omega, by go_num, NX.out HQ.out, trivial⟩
        case measure => simp [intOf]; omega
      · rw [decide_eq_false q] at N1
        have HQ := Lib.hid q
        clear q
        go_wp2_with fail
        refine N1.out.mono ?_
        rintro e w' ⟨rfl, rfl⟩
        go_wp2_with fail
        go_ret
        exact ⟨k, rfl, rfl, ⟨fun _ H => HQ.out (H _ HME.out), fun _ => by omega⟩⟩
    · obtain rfl : k = n := by omega
      go_wp2_with fail
      go_ret
      refine ⟨-1, rfl, rfl, ⟨fun h => absurd h (by omega), fun H => absurd (fun x hx => ?_) H⟩⟩
      obtain ⟨j, hj, rfl⟩ := List.getElem_of_mem hx
      have := hy.out j (by rw [← HL.out]; exact hj)
      rwa [List.getD_eq_getElem?_getD, List.getElem?_eq_getElem hj] at this
theorem containsKind_p (A : Option Addr) (n c B : Nat) (z : List Int) (w : World) (h : Rd w B A n (I64 z)) (hn : n ≤ 1000000) :
    Calls Try.prog 65 #[.slice A n c, .func (.func 66) #[] #[]] w fun e w' => e = .returned (.bool (!decide (∀ x ∈ z, Kd x))) ∧ w = w' := by
  have ip := indexKind_p A n c B z w h hn
  clear h
  by_cases h : ∀ x ∈ z, Kd x
  · have IP : Hid (Calls Try.prog 76 #[.slice A n c, .func (.func 66) #[] #[]] w fun e w' => ∃ q : Int, e = .returned (.int .i64 q) ∧ w = w' ∧ q < 0) :=
      ip.mono fun e w' ⟨q, h1, h2, h3⟩ => ⟨q, h1, h2, by rcases Int.lt_or_le q 0 with c | c; exact c; exact absurd h (h3.1 c)⟩
    rw [decide_eq_true h]
    clear ip h
    go_enter Try.func65, Try.ntmps65
    go_wp2_with fail
    refine IP.out.mono ?_
    rintro e w' ⟨q, rfl, rfl, hq⟩
    have hd : decide (0 ≤ q) = false := by rw [decide_eq_false_iff_not]; omega
    go_wp2_with fail
    go_ret
    exact ⟨by first | rfl | simp, rfl⟩
  · have IP : Hid (Calls Try.prog 76 #[.slice A n c, .func (.func 66) #[] #[]] w fun e w' => ∃ q : Int, e = .returned (.int .i64 q) ∧ w = w' ∧ 0 ≤ q) :=
      ip.mono fun e w' ⟨q, h1, h2, h3⟩ => ⟨q, h1, h2, h3.2 h⟩
    rw [decide_eq_false h]
    clear ip h
    go_enter Try.func65, Try.ntmps65
    go_wp2_with fail
    refine IP.out.mono ?_
    rintro e w' ⟨q, rfl, rfl, hq⟩
    have hd : decide (0 ≤ q) = true := by rw [decide_eq_true_iff]; exact hq
    go_wp2_with fail
    go_ret
    exact ⟨by first | rfl | simp, rfl⟩
def toN (z : List Int) : List Nat := z.map Int.toNat
theorem toN_len (z : List Int) : (toN z).length = z.length := by simp [toN]
theorem toN_next (z : List Int) (k : Nat) (h : k < z.length) : (toN z).take (k + 1) = (toN z).take k ++ [(z.getD k 0).toNat] := by
  rw [List.take_add_one, List.getElem?_eq_getElem (by rw [toN_len]; exact h)]
  simp [toN, List.getD_eq_getElem?_getD, h]
theorem madd_nil (v : Value) (w : World) : Calls Try.prog 38 #[.pointer none, v] w fun e w' => e = .returned (.int .i64 2) ∧ w = w' := by
  go_enter Try.func38, Try.ntmps38
  go_wp2_with fail
  go_ret
  exact ⟨rfl, rfl⟩
set_option maxHeartbeats 4000000 in
theorem madd_p (B g : Nat) (ks : List Nat) (A : Option Addr) (n c : Nat) (z : List Int) (w : World) (h : WordS w B g ks (inBlk A)) (hz : Rd w w.heap.size A n (I64 z)) (hA : ∀ i, inBlk A i → i < w.heap.size) (hn : ks.length + n ≤ 400000) :
    Calls Try.prog 38 #[.pointer (some ⟨g, 0, none⟩), .slice A n c] w fun e w' => e = .returned (.int .i64 (if ∀ x ∈ z, Kd x then 0 else 1)) ∧ WordAt w' B g (if ∀ x ∈ z, Kd x then ks ++ toN z else ks) ∧ Below B w w' := by
  have CP := Lib.hid (containsKind_p A n c _ z w hz (by omega))
  have hl : z.length = n := by rw [← hz.len, I64_len]
  by_cases hg : ∀ x ∈ z, Kd x
  · rw [decide_eq_true hg] at CP
    rw [if_pos hg, if_pos hg]
    have HG : Hid (∀ k, k < n → ∃ q : Nat, q < 4 ∧ z.getD k 0 = (q : Int)) := fun k hk => by
      have hk' : k < z.length := by omega
      have := hg (z.getD k 0) (by rw [List.getD_eq_getElem?_getD, List.getElem?_eq_getElem hk']; exact List.getElem_mem hk')
      have h1 := this.1
      have h2 := this.2
      exact ⟨(z.getD k 0).toNat, by omega, by omega⟩
    have HA := Lib.hid hA
    have PP : Hid (∀ (ls : List Nat) (k : Nat) (W : World), WordS W B g ls (inBlk A) → w.heap.size ≤ W.heap.size → k < 4 → ls.length ≤ 400000 → Calls Try.prog 68 #[.pointer (some ⟨g, 0, none⟩), .int .i64 (k : Int)] W fun e w' => e = .returned (.tuple #[]) ∧ WordS w' B g (ls ++ [k]) (inBlk A) ∧ Below B W w' ∧ Mod (fun i => ¬ inBlk A i) W w') := fun ls k W h hs hk hl => mput_s B g ls k W _ h hk hl (fun i hi => Nat.lt_of_lt_of_le (HA.out i hi) hs)
    have HZ := Lib.hid hz
    have HL := Lib.hid hl
    have HW := Lib.hid h
    clear hz h hg hl
    go_enter Try.func38, Try.ntmps38
    go_wp2_with fail
    refine CP.out.mono ?_
    rintro e w' ⟨rfl, rfl⟩
    clear CP
    go_wp2_with fail
    go_loopw [13] (fun i wr => ∃ k : Nat, k ≤ n ∧ i = .int .i64 k ∧ Hid (WordS wr B g (ks ++ (toN z).take k) (inBlk A)) ∧ Hid (Below B w wr) ∧ Hid (Mod (fun i => ¬ inBlk A i) w wr)) (fun i _ => n - (intOf i).toNat)
    case atStart => exact ⟨0, by omega, rfl, by show WordS _ _ _ _ _; rw [List.take_zero, List.append_nil]; exact HW.out, Below.refl _ _, Mod.refl _ _⟩
    case round =>
      obtain ⟨k, hk, rfl, HS, HB, HM⟩ := hrel
      by_cases hlt : k < n
      · have hr := HZ.out.mod HM.out (Nat.le_refl _) (fun _ i hi hs => hs hi)
        obtain ⟨bb, o, rfl, _, kk⟩ := hr.i64 (by omega)
        have x0 := kk k hlt
        obtain ⟨q, hq4, hq⟩ := HG.out k hlt
        have hnx := toN_next z k (by rw [HL.out]; exact hlt)
        rw [hq, Int.toNat_natCast] at hnx
        rw [hq] at x0
        have HNX := Lib.hid hnx
        have P1 := Lib.hid (PP.out _ q wr HS.out HM.out.size hq4 (by rw [List.length_append, List.length_take]; omega))
        clear kk hr hq hnx hq4 HS
        go_wp2_with fail
        refine P1.out.mono ?_
        rintro e w2 ⟨rfl, hw2, z2, m2⟩
        have HW2 := Lib.hid hw2
        have HB2 := Lib.hid (HB.out.trans z2)
        have HM2 := Lib.hid (HM.out.trans m2 (fun i _ hi => hi))
        clear hw2 z2 m2 P1 HB HM
        go_wp2_with fail
        go_roundw
        case rel => exact ⟨k + 1, by omega, by go_num, by show WordS _ _ _ _ _; rw [HNX.out, ← List.append_assoc]; exact HW2.out, HB2.out, HM2.out⟩
        case measure => simp [intOf]; omega
      · obtain rfl : k = n := by omega
        go_wp2_with fail
        go_ret
        have := HS.out
        rw [List.take_of_length_le (by rw [toN_len, HL.out]; exact Nat.le_refl _)] at this
        exact ⟨rfl, this.at_, HB.out⟩
  · rw [decide_eq_false hg] at CP
    rw [if_neg hg, if_neg hg]
    have HW := Lib.hid h
    clear hz h hg hl
    go_enter Try.func38, Try.ntmps38
    go_wp2_with fail
    refine CP.out.mono ?_
    rintro e w' ⟨rfl, rfl⟩
    go_wp2_with fail
    go_ret
    exact ⟨rfl, HW.out.at_, Below.refl _ _⟩
end Go.Proofs.Ythkocodajjapmaa
namespace Go.Proofs.Ythkocodajjapmaa
set_option maxRecDepth 20000
open Go.RowKit
set_option linter.unusedVariables false
/-- A slice of n steps, two numbers each. -/
def RdS (w : World) (B : Nat) (A : Option Addr) (n : Nat) (L : List Int) : Prop :=
  L.length = 2 * n ∧ (0 < n → ∃ b, A = some ⟨b, 0, none⟩ ∧ b < B ∧ ∀ k, k < 2 * n → w.cell? ⟨b, k, none⟩ = some (.int .i64 (L.getD k 0)))
theorem RdS.below {w w' : World} {B n : Nat} {A : Option Addr} {L : List Int} (h : RdS w B A n L) (z : Below B w w') : RdS w' B A n L :=
  ⟨h.1, fun h0 => by
    obtain ⟨b, e, hb, k⟩ := h.2 h0
    exact ⟨b, e, hb, fun i hi => (z.cell (p := ⟨b, i, none⟩) hb).trans (k i hi)⟩⟩
theorem RdS.up {w : World} {B B' n : Nat} {A : Option Addr} {L : List Int} (h : RdS w B A n L) (z : B ≤ B') : RdS w B' A n L :=
  ⟨h.1, fun h0 => by
    obtain ⟨b, e, hb, k⟩ := h.2 h0
    exact ⟨b, e, by omega, k⟩⟩
theorem RdS.own {w : World} {base : Nat} {A : Option Addr} {n c : Nat} {L : List Int} (h : w.ownsRow base 40 2 (.slice A n c) n (I64 L)) : RdS w w.heap.size A n L := by
  have hl : L.length = 2 * n := by have := h.1; rw [I64_len] at this; omega
  refine ⟨hl, fun hn => ?_⟩
  rcases h.2 with ⟨_, h0⟩ | ⟨g, cap, cur, hv, hb, hg, _⟩
  · omega
  · simp only [Value.slice.injEq, true_and] at hv
    obtain ⟨rfl, rfl⟩ := hv
    refine ⟨g, rfl, (Array.getElem?_eq_some_iff.1 hg).1, fun k hk => ?_⟩
    rw [h.cellAt k (by omega)]
    exact I64_get L k (by omega)
theorem RdS.nil (w : World) (B : Nat) (A : Option Addr) : RdS w B A 0 [] := ⟨rfl, fun h => absurd h (by omega)⟩
theorem RdS.take {w : World} {B n : Nat} {A : Option Addr} {L : List Int} (h : RdS w B A n L) (k : Nat) (hk : k ≤ n) : RdS w B A k (L.take (2 * k)) :=
  ⟨by rw [List.length_take, h.1]; omega, fun h0 => by
    obtain ⟨b, e, hb, kk⟩ := h.2 (by omega)
    refine ⟨b, e, hb, fun i hi => ?_⟩
    rw [kk i (by omega)]
    simp [List.getD_eq_getElem?_getD, hi]⟩
/-- The kinds of the first k steps, those that there aren't left out. -/
def kindsN (L : List Int) : Nat → List Nat
  | 0 => []
  | k + 1 => if Kd (L.getD (2 * k + 1) 0) then kindsN L k ++ [(L.getD (2 * k + 1) 0).toNat] else kindsN L k
theorem kindsN_len (L : List Int) : ∀ k, (kindsN L k).length ≤ k
  | 0 => by simp [kindsN]
  | k + 1 => by
    have := kindsN_len L k
    unfold kindsN
    split
    · simp; exact this
    · omega
set_option maxHeartbeats 4000000 in
theorem wword_p (A : Option Addr) (n c B : Nat) (L : List Int) (w : World) (h : RdS w B A n L) (hB : B ≤ w.heap.size) (hn : n ≤ 300000) :
    Calls Try.prog 14 #[.slice A n c] w fun e w' => ∃ g, e = .returned (.pointer (some ⟨g, 0, none⟩)) ∧ WordAt w' w.heap.size g (kindsN L n) ∧ Below w.heap.size w w' := by
  have NP := Lib.hid (mnew_p w)
  have HZ := Lib.hid (h.up hB)
  have AP : Hid (∀ (g : Nat) (ks : List Nat) (b : Nat) (x : Int) (W : World), WordAt W w.heap.size g ks → ks.length ≤ 300000 → Blk W b 3 #[.int .i64 x] → Calls Try.prog 38 #[.pointer (some ⟨g, 0, none⟩), .slice (some ⟨b, 0, none⟩) 1 1] W fun e w' => (∃ q, e = .returned (.int .i64 q)) ∧ WordAt w' w.heap.size g (if Kd x then ks ++ [x.toNat] else ks) ∧ Below w.heap.size W w') := fun g ks b x W hw hk hb => by
    have hib : ∀ i, inBlk (some ⟨b, 0, none⟩) i → i = b := fun i ⟨a, e, h⟩ => by cases e; exact h.symm
    have P := madd_p w.heap.size g ks (some ⟨b, 0, none⟩) 1 1 [x] W (hw.sep fun i hi => by rw [hib i hi]; exact ⟨_, hb⟩) ⟨rfl, fun _ => ⟨b, 0, rfl, hb.lt, fun j hj => by
      have : j = 0 := by simp [I64] at hj; omega
      subst this
      exact hb.cell 0⟩⟩ (fun i hi => by rw [hib i hi]; exact hb.lt) (by omega)
    have e1 : (∀ y ∈ [x], Kd y) ↔ Kd x := by simp
    have e2 : toN [x] = [x.toNat] := rfl
    by_cases hx : Kd x
    · rw [if_pos (e1.2 hx), if_pos (e1.2 hx), e2] at P
      rw [if_pos hx]
      exact P.mono fun e w' ⟨h1, h2⟩ => ⟨⟨_, h1⟩, h2⟩
    · rw [if_neg (fun h => hx (e1.1 h)), if_neg (fun h => hx (e1.1 h))] at P
      rw [if_neg hx]
      exact P.mono fun e w' ⟨h1, h2⟩ => ⟨⟨_, h1⟩, h2⟩
  go_enter Try.func14, Try.ntmps14
  go_wp2_with fail
  refine NP.out.mono ?_
  rintro e w1 ⟨g, rfl, hw1, z1⟩
  have HW1 := Lib.hid hw1
  have Z1 := Lib.hid z1
  clear hw1 z1 NP
  go_wp2_with fail
  go_loopw [9] (fun i wr => ∃ k : Nat, k ≤ n ∧ i = .int .i64 k ∧ Hid (WordAt wr w.heap.size g (kindsN L k)) ∧ Hid (Below w.heap.size w wr)) (fun i _ => n - (intOf i).toNat)
  case atStart => exact ⟨0, by omega, rfl, HW1.out, Z1.out⟩
  case round =>
    obtain ⟨k, hk, rfl, HS, HB⟩ := hrel
    by_cases hlt : k < n
    · obtain ⟨b, rfl, hbB, kk⟩ := (HZ.out.below HB.out).2 (by omega)
      have x0 := kk (2 * k) (by omega)
      have x1 := kk (2 * k + 1) (by omega)
      obtain ⟨y, hy⟩ : ∃ y, y = L.getD (2 * k + 1) 0 := ⟨_, rfl⟩
      obtain ⟨d, hd⟩ : ∃ d, d = L.getD (2 * k) 0 := ⟨_, rfl⟩
      have HN : Hid (kindsN L (k + 1) = if Kd y then kindsN L k ++ [y.toNat] else kindsN L k) := by show _ = _; rw [hy]; rfl
      rw [← hy] at x1
      rw [← hd] at x0
      rw [show 2 * k = k * 2 by omega] at x0 x1
      clear kk hy hd
      have hs1 : (wr.alloc (.cells #[.int .i64 d, .int .i64 y] 40)).heap.size = wr.heap.size + 1 := by simp
      have ZA := (Below.refl wr.heap.size wr).alloc (Nat.le_refl _) (.cells #[.int .i64 d, .int .i64 y] 40)
      have ZB := ZA.alloc ZA.size (.cells #[.int .i64 y] 3)
      have BL := Blk.new (wr.alloc (.cells #[.int .i64 d, .int .i64 y] 40)) 3 #[.int .i64 y]
      rw [hs1] at BL
      have A1 := Lib.hid (AP.out g _ _ y _ (HS.out.below ZB) (Nat.le_trans (kindsN_len L k) (by omega)) BL)
      have HB1 := Lib.hid (HB.out.trans (ZB.mono HB.out.size))
      rw [← HN.out] at A1
      clear ZA ZB BL HS hs1 HN
      go_wp2_with fail
      refine A1.out.mono ?_
      rintro e w2 ⟨⟨q, rfl⟩, hw2, z2⟩
      have HW2 := Lib.hid hw2
      have HB2 := Lib.hid (HB1.out.trans z2)
      clear hw2 z2 A1 HB HB1 x0 x1
      go_wp2_with fail
      go_roundw
      case rel => exact ⟨k + 1, by omega, by go_num, HW2.out, HB2.out⟩
      case measure => simp [intOf]; omega
    · obtain rfl : k = n := by omega
      go_wp2_with fail
      go_ret
      exact ⟨g, rfl, HS.out, HB.out⟩
end Go.Proofs.Ythkocodajjapmaa
