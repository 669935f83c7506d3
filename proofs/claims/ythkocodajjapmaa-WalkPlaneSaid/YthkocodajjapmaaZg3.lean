/- How many steps of each kind a walk has: mathematics. Plain mathematics of bits in a row: n bits are a number V < 2^n, and word i is wd V i; no program in sight. The small calls of bits. -/
import Derived.Test.YthkocodajjapmaaZWOf
import Derived.Test.YthkocodajjapmaaZETurnM
import Derived.Test.YthkocodajjapmaaZg1
import Derived.Test.YthkocodajjapmaaProg
import Derived.WalkKit
namespace Go.Proofs.Ythkocodajjapmaa
set_option maxRecDepth 20000
open Go.RowKit
set_option linter.unusedVariables false
/-! ### how many steps of each kind -/
section
variable {n m V : Nat} {sg nm : Nat → Nat} {r : Nat}
theorem num_next_eq (Q : Nat → Prop) (k c : Nat) (h : num Q (k + 1) = c) : (Q k → c = num Q k + 1) ∧ (¬ Q k → c = num Q k) :=
  ⟨fun q => by rw [← h, (num_next Q k).1 q], fun q => by rw [← h, (num_next Q k).2 q]⟩
theorem num_less' {n a : Nat} {Q R : Nat → Prop} (ha : a < n) (q : Q a) (h : ∀ i, i < n → (R i ↔ Q i ∧ i ≠ a)) : num R n + 1 = num Q n := by
  unfold num
  exact @filter_less (List.range n) (List.nodup_range) Q R (fun _ => Classical.propDecidable _) (fun _ => Classical.propDecidable _) a (by simpa using ha) q fun i hi => h i (by simpa using hi)
theorem num_same {n : Nat} {Q R : Nat → Prop} (h : ∀ i, i < n → (R i ↔ Q i)) : num R n = num Q n := by
  unfold num
  congr 1
  apply List.filter_congr
  intro i hi
  have := h i (by simpa using hi)
  simp [this]
theorem num_noneW {n : Nat} {Q : Nat → Prop} (h : ∀ i, i < n → ¬ Q i) : num Q n = 0 := by
  unfold num
  rw [List.length_eq_zero_iff, List.filter_eq_nil_iff]
  intro i hi
  have := h i (by simpa using hi)
  simpa using this
/-- How many of the first j steps are of the kind q. -/
noncomputable def wcn (sg nm : Nat → Nat) (m V r q j : Nat) : Nat := num (fun i => (wrun sg nm m V r i).k nm = q) j
/-- They are as many as edges of that kind. -/
theorem wcn_is (hs : PF n sg) (hn : n = 2 * m) (hnm : ∀ x y, x < n → y < n → (nm x = nm y ↔ Orb sg x y)) (hV : ∀ x, x < n → nm x < V) (hr : r < n) (q : Nat) (hq : q = 0 ∨ q = 2) : ∀ j, wcn sg nm m V r q j = num (fun e => (wrun sg nm m V r j).K.getD e 0 = (q : Int)) m
  | 0 => by
    have h0 : wcn sg nm m V r q 0 = 0 := rfl
    rw [h0]
    refine (num_noneW fun e he => ?_).symm
    show (List.replicate m (-1 : Int)).getD e 0 ≠ _
    have : (List.replicate m (-1 : Int)).getD e 0 = -1 := by simp [List.getD_eq_getElem?_getD, he]
    rw [this]; omega
  | j + 1 => by
    have ih := wcn_is hs hn hnm hV hr q hq j
    have hw := wok hs hn hnm hV hr j
    have hN := num_next (fun i => (wrun sg nm m V r i).k nm = q) j
    unfold wcn at ih ⊢
    have hse : (wrun sg nm m V r j).d / 2 < m := by have := hw.lt; omega
    have hK : (wrun sg nm m V r (j + 1)).K = wK1 (wrun sg nm m V r j).K (wrun sg nm m V r j).d ((wrun sg nm m V r j).k nm) := rfl
    rw [hK]
    generalize wrun sg nm m V r j = s at *
    have hsl : s.d / 2 < s.K.length := by rw [hw.kl]; exact hse
    rcases s.kinds (nm := nm) with ⟨k, a⟩ | ⟨k, a⟩ | ⟨k, a, c, _⟩ | ⟨k, a, c, _⟩
    · rw [hN.2 (by rw [k]; omega), ih, k]; rfl
    · rw [hN.2 (by rw [k]; omega), ih, k]; rfl
    · rw [k]
      have hK2 : ∀ e, (wK1 s.K s.d 2).getD e 0 = if e = s.d / 2 then 2 else s.K.getD e 0 := fun e => by
        unfold wK1; rw [if_pos (by omega)]; exact getI_set _ _ _ _ hsl
      have hkq : (s.k nm = q) ↔ q = 2 := by rw [k]; exact eq_comm
      by_cases c2 : q = 2
      · rw [hN.1 (hkq.2 c2), ih]
        refine num_less' hse (by rw [hK2, if_pos rfl, c2]; rfl) fun e he => ?_
        rw [hK2]
        by_cases x : e = s.d / 2
        · rw [if_pos x]
          subst c2
          exact ⟨fun y => absurd (by rw [← x]; exact y) c, fun y => absurd x y.2⟩
        · rw [if_neg x]; exact ⟨fun y => ⟨y, x⟩, fun y => y.1⟩
      · rw [hN.2 (fun y => c2 (hkq.1 y)), ih]
        refine num_same fun e he => ?_
        rw [hK2]
        by_cases x : e = s.d / 2
        · rw [if_pos x, x]
          have : q = 0 := by omega
          subst this
          exact ⟨fun y => absurd y a, fun y => absurd y (by decide)⟩
        · rw [if_neg x]
    · rw [k]
      have hK2 : ∀ e, (wK1 s.K s.d 0).getD e 0 = if e = s.d / 2 then 0 else s.K.getD e 0 := fun e => by
        unfold wK1; rw [if_pos (by omega)]; exact getI_set _ _ _ _ hsl
      have hkq : (s.k nm = q) ↔ q = 0 := by rw [k]; exact eq_comm
      by_cases c2 : q = 0
      · rw [hN.1 (hkq.2 c2), ih]
        refine num_less' hse (by rw [hK2, if_pos rfl, c2]; rfl) fun e he => ?_
        rw [hK2]
        by_cases x : e = s.d / 2
        · rw [if_pos x]
          subst c2
          exact ⟨fun y => absurd (by rw [← x]; exact y) a, fun y => absurd x y.2⟩
        · rw [if_neg x]; exact ⟨fun y => ⟨y, x⟩, fun y => y.1⟩
      · rw [hN.2 (fun y => c2 (hkq.1 y)), ih]
        refine num_same fun e he => ?_
        rw [hK2]
        by_cases x : e = s.d / 2
        · rw [if_pos x, x]
          have : q = 2 := by omega
          subst this
          exact ⟨fun y => absurd y c, fun y => absurd y (by decide)⟩
        · rw [if_neg x]
/-- The least dart of a vertex. -/
theorem one_lead (hs : PF n sg) (hnm : ∀ x y, x < n → y < n → (nm x = nm y ↔ Orb sg x y)) {x : Nat} (hx : x < n) : ∃ p, p < n ∧ Least (Orb sg) p ∧ nm p = nm x ∧ ∀ q, q < n → Least (Orb sg) q → nm q = nm x → q = p := by
  obtain ⟨p, h1, h2, h3⟩ := least_ex hs.eqv x hx
  have hp : p < n := by omega
  refine ⟨p, hp, h3, (hnm p x hp hx).2 h2, fun q hq l e => ?_⟩
  have hqp : Orb sg q p := hs.eqv.trans _ _ _ hq hx hp ((hnm q x hq hx).1 e) (hs.eqv.symm _ _ hp hx h2)
  exact least_uniq hs.eqv hq hp hqp l h3
/-- One more vertex is met than edges are Open. -/
theorem wmet (hs : PF n sg) (hn : n = 2 * m) (hnm : ∀ x y, x < n → y < n → (nm x = nm y ↔ Orb sg x y)) (hV : ∀ x, x < n → nm x < V) (hr : r < n) : ∀ j, num (fun d => Least (Orb sg) d ∧ (wrun sg nm m V r j).M.getD (nm d) false = true) n = wcn sg nm m V r 0 j + 1
  | 0 => by
    have h0 : wcn sg nm m V r 0 0 = 0 := rfl
    rw [h0]
    obtain ⟨p, hp, l, e, u⟩ := one_lead hs hnm hr
    have hm : ∀ x, ((List.replicate V false).set (nm r) true).getD x false = decide (x = nm r) := fun x => by
      rw [getB_set _ _ _ _ (by simpa using hV r hr)]
      by_cases c : x = nm r
      · rw [if_pos c, decide_eq_true_iff.2 c]
      · rw [if_neg c, decide_eq_false_iff_not.2 c]
        simp [List.getD_eq_getElem?_getD, List.getElem?_replicate]
        split <;> rfl
    have : num (fun _ => False) n + 1 = num (fun d => Least (Orb sg) d ∧ (wrun sg nm m V r 0).M.getD (nm d) false = true) n := by
      refine num_less' hp ⟨l, ?_⟩ fun i hi => ⟨False.elim, fun ⟨⟨a, b⟩, c⟩ => c (u i hi a ?_)⟩
      · show ((List.replicate V false).set (nm r) true).getD _ false = true
        rw [hm, e]; simp
      · have b' : ((List.replicate V false).set (nm r) true).getD (nm i) false = true := b
        rw [hm, decide_eq_true_iff] at b'
        exact b'
    rw [← this, num_noneW fun _ _ => id]
  | j + 1 => by
    have ih := wmet hs hn hnm hV hr j
    have hw := wok hs hn hnm hV hr j
    have hN := num_next (fun i => (wrun sg nm m V r i).k nm = 0) j
    unfold wcn at ih ⊢
    have hM : (wrun sg nm m V r (j + 1)).M = wM1 nm (wrun sg nm m V r j).M (wrun sg nm m V r j).d ((wrun sg nm m V r j).k nm) := rfl
    rw [hM]
    generalize wrun sg nm m V r j = s at *
    have hmd : mt s.d < n := mt_lt hn hw.lt
    by_cases k : s.k nm = 0
    · rw [hN.1 k, ← ih, k]
      have c : s.M.getD (nm (mt s.d)) false ≠ true := by
        rcases s.kinds (nm := nm) with ⟨q, _⟩ | ⟨q, _⟩ | ⟨q, _⟩ | ⟨_, _, _, c⟩
        · rw [k] at q; omega
        · rw [k] at q; omega
        · rw [k] at q; omega
        · exact c
      have hM2 : ∀ v, (wM1 nm s.M s.d 0).getD v false = if v = nm (mt s.d) then true else s.M.getD v false := fun v => by
        unfold wM1; rw [if_pos rfl]; exact getB_set _ _ _ _ (by rw [hw.ml]; exact hV _ hmd)
      obtain ⟨p, hp, l, e, u⟩ := one_lead hs hnm hmd
      refine (num_less' hp ⟨l, by rw [hM2, if_pos e]⟩ fun i hi => ?_).symm
      rw [hM2]
      constructor
      · rintro ⟨a, b⟩
        refine ⟨⟨a, ?_⟩, fun x => c ?_⟩
        · split
          · rfl
          · exact b
        · rw [← e, ← x]; exact b
      · rintro ⟨⟨a, b⟩, x⟩
        refine ⟨a, ?_⟩
        split at b
        · next y => exact absurd (u i hi a y) x
        · exact b
    · rw [hN.2 k, ← ih]
      unfold wM1
      rw [if_neg k]
end
theorem num_lt (N : Nat) : ∀ n, N ≤ n → num (fun j => j < N) n = N
  | 0, h => by have : N = 0 := by omega
               subst this; rfl
  | n + 1, h => by
    rcases Nat.lt_or_ge n N with c | c
    · rw [(num_next (fun j => j < N) n).1 c]
      have : num (fun j => j < N) n = num (fun _ => True) n := num_same fun i hi => ⟨fun _ => trivial, fun _ => by omega⟩
      have h2 : ∀ k, num (fun _ => True) k = k := fun k => by
        induction k with
        | zero => rfl
        | succ k ih => rw [(num_next (fun _ => True) k).1 trivial, ih]
      rw [this, h2]; omega
    · rw [(num_next (fun j => j < N) n).2 (by omega), num_lt N n c]
theorem num_or {P Q : Nat → Prop} (h : ∀ e, P e → ¬ Q e) : ∀ k, num P k + num Q k = num (fun e => P e ∨ Q e) k
  | 0 => rfl
  | k + 1 => by
    have ih := num_or h k
    by_cases p : P k
    · rw [(num_next P k).1 p, (num_next Q k).2 (h k p), (num_next (fun e => P e ∨ Q e) k).1 (.inl p)]; omega
    · rw [(num_next P k).2 p]
      by_cases q : Q k
      · rw [(num_next Q k).1 q, (num_next (fun e => P e ∨ Q e) k).1 (.inr q)]; omega
      · rw [(num_next Q k).2 q, (num_next (fun e => P e ∨ Q e) k).2 (fun x => x.elim p q)]; omega
theorem num_evens (P : Nat → Prop) : ∀ m, num (fun d => P d ∧ d % 2 = 0) (2 * m) = num (fun e => P (2 * e)) m
  | 0 => rfl
  | m + 1 => by
    have ih := num_evens P m
    rw [show 2 * (m + 1) = 2 * m + 1 + 1 by omega, (num_next (fun d => P d ∧ d % 2 = 0) (2 * m + 1)).2 (fun x => by have := x.2; omega)]
    by_cases p : P (2 * m)
    · rw [(num_next (fun d => P d ∧ d % 2 = 0) (2 * m)).1 ⟨p, by omega⟩, (num_next (fun e => P (2 * e)) m).1 p, ih]
    · rw [(num_next (fun d => P d ∧ d % 2 = 0) (2 * m)).2 (fun x => p x.1), (num_next (fun e => P (2 * e)) m).2 p, ih]
section
variable {l b : List Nat}
theorem wmark (h : Inv l b) (he : l.length % 2 = 0) {V : Nat} (hV : ∀ x, x < l.length → nameOf l x < V) {r : Nat} (hr : r < l.length) {x : Nat} (hx : x < l.length) :
    part l r x ↔ (wrun (sgL l) (nameOf l) (l.length / 2) V r (wN (sgL l) (nameOf l) (l.length / 2) V r)).M.getD (nameOf l x) false = true := by
  have hs := sgL_pf h
  have hn : l.length = 2 * (l.length / 2) := by omega
  have hw := wok hs hn (nm_ok h) hV hr (wN (sgL l) (nameOf l) (l.length / 2) V r)
  obtain ⟨n1, n2, n3, n4⟩ := wN_is hs hn (nm_ok h) hV hr
  refine (wpart hs hn (nm_ok h) hV hr hx).trans ?_
  rw [← hw.mo x hx]
  constructor
  · rintro ⟨j, hj, e⟩
    exact ⟨j, by rw [worb hs hn (nm_ok h) hV hr _ _ (Nat.le_of_lt hj)]; exact e⟩
  · rintro ⟨k, e⟩
    have hb : itf (fK (sgL l) (wrun (sgL l) (nameOf l) (l.length / 2) V r (wN (sgL l) (nameOf l) (l.length / 2) V r)).K) (wN (sgL l) (nameOf l) (l.length / 2) V r) r = r := by rw [worb hs hn (nm_ok h) hV hr _ _ (Nat.le_refl _)]; exact n3
    have h1 := itf_mul hb (k / wN (sgL l) (nameOf l) (l.length / 2) V r)
    have hlt : k % wN (sgL l) (nameOf l) (l.length / 2) V r < wN (sgL l) (nameOf l) (l.length / 2) V r := Nat.mod_lt _ (by omega)
    refine ⟨_, hlt, ?_⟩
    rw [← worb hs hn (nm_ok h) hV hr _ _ (Nat.le_of_lt hlt)]
    rw [← Nat.mod_add_div k (wN (sgL l) (nameOf l) (l.length / 2) V r), itf_add, Nat.mul_comm, h1] at e
    exact e
theorem pq_part (h : Inv l b) (he : l.length % 2 = 0) {r x : Nat} (hr : r < l.length) (hx : x < l.length) : pq l x = pq l r ↔ part l r x := by
  have hq := part_eqv h he
  unfold pq
  rw [eq_comm]
  exact prt_iff hq hr hx
open Classical in
theorem walk_counts (h : Inv l b) (he : l.length % 2 = 0) {V : Nat} (hV : ∀ x, x < l.length → nameOf l x < V) {r : Nat} (hr : r < l.length) :
    wN (sgL l) (nameOf l) (l.length / 2) V r = 2 * pE l (pq l r) l.length ∧
    wcn (sgL l) (nameOf l) (l.length / 2) V r 0 (wN (sgL l) (nameOf l) (l.length / 2) V r) + 1 = pV l (pq l r) l.length ∧
    wcn (sgL l) (nameOf l) (l.length / 2) V r 0 (wN (sgL l) (nameOf l) (l.length / 2) V r) + wcn (sgL l) (nameOf l) (l.length / 2) V r 2 (wN (sgL l) (nameOf l) (l.length / 2) V r) = pE l (pq l r) l.length := by
  have hs := sgL_pf h
  have hn : l.length = 2 * (l.length / 2) := by omega
  obtain ⟨n1, n2, n3, n4⟩ := wN_is hs hn (nm_ok h) hV hr
  have hwp := fun x hx => wpart hs hn (nm_ok h) hV hr (x := x) hx
  have hwo := fun i j hi hj e => wonce hs hn (nm_ok h) hV hr (i := i) (j := j) hi hj e
  have hwm := fun x hx => wmark h he hV hr (x := x) hx
  have hlt := fun j => (wok hs hn (nm_ok h) hV hr j).lt
  have hmet := wmet hs hn (nm_ok h) hV hr (wN (sgL l) (nameOf l) (l.length / 2) V r)
  have hc0 := wcn_is hs hn (nm_ok h) hV hr 0 (.inl rfl) (wN (sgL l) (nameOf l) (l.length / 2) V r)
  have hc2 := wcn_is hs hn (nm_ok h) hV hr 2 (.inr rfl) (wN (sgL l) (nameOf l) (l.length / 2) V r)
  have hwk := fun j hj => wkind hs hn (nm_ok h) hV hr (i := j) (j := wN (sgL l) (nameOf l) (l.length / 2) V r) hj
  have hw := wok hs hn (nm_ok h) hV hr (wN (sgL l) (nameOf l) (l.length / 2) V r)
  generalize hN : wN (sgL l) (nameOf l) (l.length / 2) V r = N at *
  refine ⟨?_, ?_, ?_⟩
  · rw [← num_two h he]
    have e1 : num (fun d => pq l d = pq l r) l.length = num (fun d => part l r d) l.length := num_same fun d hd => pq_part h he hr hd
    rw [e1]
    refine Nat.le_antisymm ?_ ?_
    · have := num_inj (A := fun j => j < N) (B := fun d => part l r d) (n := l.length) (fun j => (wrun (sgL l) (nameOf l) (l.length / 2) V r j).d) (fun j _ hj => ⟨hlt j, (hwp _ (hlt j)).2 ⟨j, hj, rfl⟩⟩) (fun i j _ _ hi hj e => hwo i j hi hj e)
      rwa [num_lt N _ n2] at this
    · have := num_inj (A := fun d => part l r d) (B := fun j => j < N) (n := l.length) (fun d => if hx : ∃ j, j < N ∧ (wrun (sgL l) (nameOf l) (l.length / 2) V r j).d = d then hx.choose else 0) (fun d hd hp => by
        have hx := (hwp d hd).1 hp
        show (if hx : _ then _ else _) < _ ∧ (if hx : _ then _ else _) < N
        rw [dif_pos hx]
        exact ⟨by have := hx.choose_spec.1; omega, hx.choose_spec.1⟩) (fun x y hx hy px py e => by
        have h1 := (hwp x hx).1 px
        have h2 := (hwp y hy).1 py
        simp only [dif_pos h1, dif_pos h2] at e
        rw [← h1.choose_spec.2, ← h2.choose_spec.2, e])
      rwa [num_lt N _ n2] at this
  · rw [← hmet]
    unfold pV
    refine num_same fun d hd => ?_
    rw [← hwm d hd, pq_part h he hr hd, leads_least h (Nat.le_of_lt hd)]
    exact and_comm
  · rw [hc0, hc2, num_or (fun e x y => by rw [x] at y; omega)]
    unfold pE
    have e2 : num (fun d => pq l d = pq l r ∧ d % 2 = 0) l.length = num (fun e => pq l (2 * e) = pq l r) (l.length / 2) := by
      have := num_evens (fun d => pq l d = pq l r) (l.length / 2)
      rwa [← hn] at this
    rw [e2]
    refine num_same fun e hem => ?_
    have h2 : 2 * e < l.length := by omega
    rw [pq_part h he hr h2]
    constructor
    · intro x
      exact (hwm _ h2).2 (hw.me _ h2 (by rw [show 2 * e / 2 = e by omega]; rcases x with x | x <;> rw [x] <;> decide))
    · intro p
      obtain ⟨j, hj, ej⟩ := (hwp _ h2).1 p
      have := hwk j hj
      rw [ej, show 2 * e / 2 = e by omega] at this
      rw [this]
      split
      · exact .inl rfl
      · exact .inr rfl
end
end Go.Proofs.Ythkocodajjapmaa
namespace Go.Proofs.Ythkocodajjapmaa
set_option linter.unusedVariables false

/-- The word i of the bits that V is. -/
def wd (V i : Nat) : Nat := V / 2 ^ (64 * i) % 2 ^ 64
theorem wd_lt (V i : Nat) : wd V i < 2 ^ 64 := Nat.mod_lt _ (by decide)
theorem wd_bit (V i j : Nat) : (wd V i).testBit j = (decide (j < 64) && V.testBit (64 * i + j)) := by
  unfold wd
  rw [Nat.testBit_mod_two_pow, Nat.testBit_div_two_pow]
  congr 2
  omega
/-- V with x's lowest k bits behind its n bits. -/
def put (V n x k : Nat) : Nat := V + x % 2 ^ k * 2 ^ n
theorem put_lt {V n : Nat} (x k : Nat) (h : V < 2 ^ n) : put V n x k < 2 ^ (n + k) := by
  unfold put
  have h1 : x % 2 ^ k < 2 ^ k := Nat.mod_lt _ (Nat.two_pow_pos k)
  have h2 : x % 2 ^ k * 2 ^ n ≤ (2 ^ k - 1) * 2 ^ n := Nat.mul_le_mul_right _ (by omega)
  have h3 : (2 ^ k - 1) * 2 ^ n = 2 ^ (n + k) - 2 ^ n := by rw [Nat.sub_mul, Nat.one_mul, ← Nat.pow_add, Nat.add_comm k n]
  have h4 : 2 ^ n ≤ 2 ^ (n + k) := Nat.pow_le_pow_right (by omega) (by omega)
  omega
theorem put_bit {V n : Nat} (x k j : Nat) (h : V < 2 ^ n) : (put V n x k).testBit j = if j < n then V.testBit j else (decide (j - n < k) && x.testBit (j - n)) := by
  unfold put
  rw [Nat.add_comm, Nat.mul_comm, Nat.testBit_two_pow_mul_add _ h, Nat.testBit_mod_two_pow]
theorem wd_high {V n i : Nat} (h : V < 2 ^ n) (hi : n ≤ 64 * i) : wd V i = 0 := by
  unfold wd
  rw [Nat.div_eq_of_lt (Nat.lt_of_lt_of_le h (Nat.pow_le_pow_right (by omega) hi))]
/-- The words ahead of the last one stay when bits are put behind. -/
theorem wd_put_low {V n : Nat} (x k i : Nat) (h : V < 2 ^ n) (hi : 64 * i + 64 ≤ n) : wd (put V n x k) i = wd V i := by
  apply Nat.eq_of_testBit_eq
  intro j
  rw [wd_bit, wd_bit]
  by_cases hj : j < 64
  · rw [put_bit x k _ h, if_pos (by omega)]
  · simp [hj]
/-- A new word: the bits fall on its first place. -/
theorem wd_put_new {V n : Nat} (x k i : Nat) (h : V < 2 ^ n) (hi : n = 64 * i) (hk : k ≤ 64) : wd (put V n x k) i = x % 2 ^ k := by
  apply Nat.eq_of_testBit_eq
  intro j
  rw [wd_bit, put_bit x k _ h, if_neg (by omega), show 64 * i + j - n = j by omega, Nat.testBit_mod_two_pow]
  by_cases hj : j < k
  · simp [hj, show j < 64 by omega]
  · simp [hj]
/-- The last word takes what fits. -/
theorem wd_put_last {V n : Nat} (x k i s : Nat) (h : V < 2 ^ n) (hn : n = 64 * i + s) (hs : s < 64) : wd (put V n x k) i = wd V i ||| (x % 2 ^ k * 2 ^ s) % 2 ^ 64 := by
  apply Nat.eq_of_testBit_eq
  intro j
  rw [Nat.testBit_or, wd_bit, wd_bit, put_bit x k _ h, Nat.testBit_mod_two_pow, Nat.mul_comm (x % 2 ^ k), Nat.testBit_two_pow_mul, Nat.testBit_mod_two_pow]
  by_cases hj : j < 64
  · by_cases hjs : j < s
    · simp [hj, show 64 * i + j < n by omega, show ¬ s ≤ j by omega]
    · have hV : V.testBit (64 * i + j) = false := Nat.testBit_lt_two_pow (Nat.lt_of_lt_of_le h (Nat.pow_le_pow_right (by omega) (by omega)))
      rw [if_neg (by omega), show 64 * i + j - n = j - s by omega, hV]
      simp [hj, show s ≤ j by omega]
  · simp [hj]
/-- The word behind the last takes what is left. -/
theorem wd_put_next {V n : Nat} (x k i s : Nat) (h : V < 2 ^ n) (hn : n = 64 * i + s) (hs : s < 64) (hs0 : 0 < s) (hk : k ≤ 64) : wd (put V n x k) (i + 1) = x % 2 ^ k / 2 ^ (64 - s) := by
  apply Nat.eq_of_testBit_eq
  intro j
  rw [wd_bit, put_bit x k _ h, if_neg (by omega), Nat.testBit_div_two_pow, Nat.testBit_mod_two_pow, show 64 * (i + 1) + j - n = 64 - s + j by omega]
  by_cases hj : 64 - s + j < k
  · simp [show j + (64 - s) < k by omega, show j < 64 by omega, Nat.add_comm]
  · simp [show ¬ 64 - s + j < k by omega, show ¬ j + (64 - s) < k by omega]
/-- Bits read out of one word. -/
theorem get_one (V i s k : Nat) (h : s + k ≤ 64) : wd V i / 2 ^ s % 2 ^ k = V / 2 ^ (64 * i + s) % 2 ^ k := by
  apply Nat.eq_of_testBit_eq
  intro j
  rw [Nat.testBit_mod_two_pow, Nat.testBit_mod_two_pow, Nat.testBit_div_two_pow, Nat.testBit_div_two_pow, wd_bit]
  by_cases hj : j < k
  · simp [hj, show j + s < 64 by omega, show 64 * i + (j + s) = j + (64 * i + s) by omega]
  · simp [hj]
/-- Bits read out of two words. -/
theorem get_two (V i s k : Nat) (hs : s < 64) (hs0 : 0 < s) (hk : k ≤ 64) : (wd V i / 2 ^ s ||| wd V (i + 1) * 2 ^ (64 - s) % 2 ^ 64) % 2 ^ k = V / 2 ^ (64 * i + s) % 2 ^ k := by
  apply Nat.eq_of_testBit_eq
  intro j
  rw [Nat.testBit_mod_two_pow, Nat.testBit_mod_two_pow, Nat.testBit_or, Nat.testBit_div_two_pow, Nat.testBit_div_two_pow, wd_bit, Nat.testBit_mod_two_pow, Nat.mul_comm (wd V (i + 1)), Nat.testBit_two_pow_mul, wd_bit]
  by_cases hj : j < k
  · by_cases hjs : j + s < 64
    · simp [hj, hjs, show ¬ 64 - s ≤ j by omega, show 64 * i + (j + s) = j + (64 * i + s) by omega]
    · simp [hj, hjs, show 64 - s ≤ j by omega, show j < 64 by omega, show j - (64 - s) < 64 by omega, show 64 * (i + 1) + (j - (64 - s)) = j + (64 * i + s) by omega]
  · simp [hj]
end Go.Proofs.Ythkocodajjapmaa
namespace Go.Proofs.Ythkocodajjapmaa
open Go.RowKit
set_option linter.unusedVariables false

/-- As a count of a number's bits. -/
def cnt64 (k : Int) : Nat := if k ≤ 0 then 0 else if 64 ≤ k then 64 else k.toNat
theorem count_p (k : Int) (w : World) (h : -9223372036854775808 ≤ k ∧ k ≤ 9223372036854775807) :
    Calls Try.prog 84 #[.int .i64 k] w fun e w' => e = .returned (.int .i64 (cnt64 k : Int)) ∧ w = w' := by
  obtain ⟨m, hm, hm0⟩ : ∃ m : Int, (∀ w, (Builtin.max_ #[3, 3] 3 #[.int .i64 k, .int .i64 0]).run Try.prog w = .ok (.int .i64 m) w) ∧ m = (if k ≤ 0 then 0 else k) :=
    ⟨if k ≤ 0 then 0 else k, fun w => by simp [Builtin.max_, Builtin.max2]; split <;> split <;> omega, rfl⟩
  have hmn : ∀ w, (Builtin.min_ #[3, 3] 3 #[.int .i64 m, .int .i64 64]).run Try.prog w = .ok (.int .i64 ((cnt64 k : Nat) : Int)) w := fun w => by
    simp [Builtin.min_, Builtin.min2, cnt64]
    repeat' split
    all_goals (first | rfl | omega | (subst hm0; repeat' split at * <;> omega) | (simp_all; omega))
  generalize cnt64 k = c at *
  clear hm0
  go_enter Try.func84, Try.ntmps84
  go_wp2
  go_ret
  exact ⟨rfl, rfl⟩
theorem low_eq : ∀ k : Nat, k < 65 → (18446744073709551615 : Int) / 2 ^ (64 - k) = ((2 ^ k - 1 : Nat) : Int) := by decide +kernel
theorem low_p (k : Nat) (w : World) (h : k ≤ 64) :
    Calls Try.prog 85 #[.int .i64 (k : Int)] w fun e w' => e = .returned (.int .u64 ((2 ^ k - 1 : Nat) : Int)) ∧ w = w' := by
  go_enter Try.func85, Try.ntmps85
  go_wp2
  go_ret
  exact ⟨congrArg (fun x => Ending.returned (.int .u64 x)) (low_eq k (by omega)), rfl⟩
end Go.Proofs.Ythkocodajjapmaa
