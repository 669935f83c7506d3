/- Chords on a cycle of darts: just if no two cross there is a cycle more for each. Plain mathematics of bits in a row: n bits are a number V < 2^n, and word i is wd V i; no program in sight. Lists of noughts and ones, and the number that they are; no program in sight. -/
import Derived.Test.YtgcbdoljapnecaaZWMath
namespace Go.Proofs.Ytgcbdoljapnecaa
set_option linter.unusedVariables false
/-! ### chords on a cycle -/
open Classical in
/-- The edges of Q exchanged. -/
noncomputable def psi (f : Nat → Nat) (Q : Nat → Prop) (i : Nat) : Nat := f (if Q (i / 2) then mt i else i)
theorem psi_pf {n m : Nat} {f : Nat → Nat} (hf : PF n f) (hn : n = 2 * m) (Q : Nat → Prop) : PF n (psi f Q) := by
  refine ⟨fun i hi => ?_, fun i j hi hj e => ?_⟩
  · unfold psi
    split
    · exact hf.lt _ (mt_lt hn hi)
    · exact hf.lt _ hi
  · unfold psi at e
    have hi' := mt_lt hn hi
    have hj' := mt_lt hn hj
    split at e
    · next a =>
      split at e
      · have := congrArg mt (hf.inj _ _ hi' hj' e)
        rwa [mt_mt', mt_mt'] at this
      · next c =>
        have := hf.inj _ _ hi' hj e
        rw [← this, mt_half] at c
        exact absurd a c
    · next a =>
      split at e
      · next c =>
        have := hf.inj _ _ hi hj' e
        rw [this, mt_half] at a
        exact absurd c a
      · exact hf.inj _ _ hi hj e
theorem psi_congr (f : Nat → Nat) {Q R : Nat → Prop} (h : ∀ e, Q e ↔ R e) : psi f Q = psi f R := by
  funext i
  unfold psi
  by_cases c : Q (i / 2)
  · rw [if_pos c, if_pos ((h _).1 c)]
  · rw [if_neg c, if_neg fun d => c ((h _).2 d)]
theorem psi_none (f : Nat → Nat) {Q : Nat → Prop} (h : ∀ e, ¬ Q e) : psi f Q = f := by
  funext i
  unfold psi
  rw [if_neg (h _)]
theorem psi_add (f : Nat → Nat) {Q : Nat → Prop} {e : Nat} (he : ¬ Q e) : psi f (fun x => Q x ∨ x = e) = fun i => psi f Q (swp (2 * e) (2 * e + 1) i) := by
  funext i
  unfold psi
  have hsw : swp (2 * e) (2 * e + 1) i = if i / 2 = e then mt i else i := by
    unfold swp mt
    repeat' split
    all_goals omega
  rw [hsw]
  by_cases c : i / 2 = e
  · rw [if_pos c, if_pos (.inr c), if_neg (by rw [mt_half, c]; exact he)]
  · rw [if_neg c]
    by_cases d : Q (i / 2)
    · rw [if_pos d, if_pos (.inl d)]
    · rw [if_neg d, if_neg fun x => x.elim d c]
section
variable {n m : Nat} {f : Nat → Nat} {P : Nat → Prop}
theorem psi_inv (hf : PF n f) (hn : n = 2 * m) (hP : ∀ i, i < n → (P (f i) ↔ P i)) (hm : ∀ i, i < n → (P (mt i) ↔ P i)) (Q : Nat → Prop) : ∀ i, i < n → (P (psi f Q i) ↔ P i) := fun i hi => by
  unfold psi
  split
  · rw [hP _ (mt_lt hn hi), hm i hi]
  · exact hP i hi
theorem psi_step (hf : PF n f) (hn : n = 2 * m) (hP : ∀ i, i < n → (P (f i) ↔ P i)) (hm : ∀ i, i < n → (P (mt i) ↔ P i)) {Q : Nat → Prop} {e : Nat} (hQ : ¬ Q e) (he : e < m) (pe : P (2 * e)) :
    (Orb (psi f Q) (2 * e) (2 * e + 1) → cls (Orb (psi f fun x => Q x ∨ x = e)) P n = cls (Orb (psi f Q)) P n + 1) ∧
    (¬ Orb (psi f Q) (2 * e) (2 * e + 1) → cls (Orb (psi f fun x => Q x ∨ x = e)) P n + 1 = cls (Orb (psi f Q)) P n) := by
  rw [psi_add f hQ]
  have h1 : mt (2 * e) = 2 * e + 1 := by unfold mt; rw [if_pos (by omega)]
  exact cls_swap (psi_pf hf hn Q) (psi_inv hf hn hP hm Q) (by omega) (by omega) (by omega) pe (by rw [← h1]; exact (hm _ (by omega)).2 pe)
end
theorem num_more {n : Nat} {Q R : Nat → Prop} {a : Nat} (ha : a < n) (q : ¬ Q a) (h : ∀ i, R i ↔ Q i ∨ i = a) : ∀ k, num R k = num Q k + if a < k then 1 else 0
  | 0 => by rw [if_neg (by omega)]; rfl
  | k + 1 => by
    have ih := num_more ha q h k
    by_cases c : k = a
    · subst c
      rw [if_neg (by omega)] at ih
      rw [(num_next R k).1 ((h k).2 (.inr rfl)), (num_next Q k).2 q, if_pos (by omega), ih]
    · by_cases d : Q k
      · rw [(num_next R k).1 ((h k).2 (.inl d)), (num_next Q k).1 d, ih]
        split <;> split <;> omega
      · rw [(num_next R k).2 (fun x => ((h k).1 x).elim d c), (num_next Q k).2 d, ih]
        split <;> split <;> omega
theorem num_none' {Q : Nat → Prop} (h : ∀ i, ¬ Q i) : ∀ k, num Q k = 0
  | 0 => rfl
  | k + 1 => by rw [(num_next Q k).2 (h k), num_none' h k]
/-- A cycle of darts, and who is whose mate there. -/
structure Cyc (n m N : Nat) (f : Nat → Nat) (P : Nat → Prop) (dt tw : Nat → Nat) : Prop where
  pf : PF n f
  nm : n = 2 * m
  inv : ∀ i, i < n → (P (f i) ↔ P i)
  mate : ∀ i, i < n → (P (mt i) ↔ P i)
  pos : 0 < N
  lt : ∀ j, j < N → dt j < n
  inP : ∀ j, j < N → P (dt j)
  inj : ∀ i j, i < N → j < N → dt i = dt j → i = j
  all : ∀ x, x < n → P x → ∃ j, j < N ∧ dt j = x
  next : ∀ j, j + 1 < N → f (dt j) = dt (j + 1)
  wrap : f (dt (N - 1)) = dt 0
  tlt : ∀ j, j < N → tw j < N
  tw_ : ∀ j, j < N → dt (tw j) = mt (dt j)
section
variable {n m N : Nat} {f : Nat → Nat} {P : Nat → Prop} {dt tw : Nat → Nat} {F : Nat → Prop}
theorem Cyc.ttw (h : Cyc n m N f P dt tw) {j : Nat} (hj : j < N) : tw (tw j) = j :=
  h.inj _ _ (h.tlt _ (h.tlt _ hj)) hj (by rw [h.tw_ _ (h.tlt _ hj), h.tw_ _ hj, mt_mt'])
theorem Cyc.tne (h : Cyc n m N f P dt tw) {j : Nat} (hj : j < N) : tw j ≠ j := fun e => by
  have := h.tw_ j hj
  rw [e] at this
  exact mt_ne _ this.symm
theorem Cyc.thalf (h : Cyc n m N f P dt tw) {j : Nat} (hj : j < N) : dt (tw j) / 2 = dt j / 2 := by rw [h.tw_ j hj, mt_half]
/-- Same edge: the place or its mate's. -/
theorem Cyc.same (h : Cyc n m N f P dt tw) {i j : Nat} (hi : i < N) (hj : j < N) (e : dt i / 2 = dt j / 2) : i = j ∨ i = tw j := by
  have : dt i = dt j ∨ dt i = mt (dt j) := by unfold mt; split <;> omega
  rcases this with c | c
  · exact .inl (h.inj _ _ hi hj c)
  · exact .inr (h.inj _ _ hi (h.tlt _ hj) (by rw [h.tw_ _ hj]; exact c))
def NonX (N : Nat) (dt tw : Nat → Nat) (F : Nat → Prop) : Prop := ∀ i k, i < k → k < tw i → tw i < tw k → i < N → k < N → F (dt i / 2) → F (dt k / 2) → False
/-- The edges of F that are shut ahead of x. -/
def ShutC (dt tw : Nat → Nat) (F : Nat → Prop) (x e : Nat) : Prop := F e ∧ ∃ y, y < x ∧ dt y / 2 = e ∧ tw y < y
theorem Cyc.one (h : Cyc n m N f P dt tw) : cls (Orb f) P n = 1 := by
  have hd0 := h.lt 0 h.pos
  have it : ∀ j, j < N → itf f j (dt 0) = dt j := fun j => by
    induction j with
    | zero => intro _; rfl
    | succ j ih => intro hj; show f (itf f j (dt 0)) = _; rw [ih (by omega), h.next j hj]
  refine cls_one h.pf.eqv hd0 fun i hi => ⟨fun p => ?_, fun ⟨k, e⟩ => ?_⟩
  · obtain ⟨j, hj, e⟩ := h.all i hi p
    exact ⟨j, by rw [it j hj, e]⟩
  · subst e
    have : ∀ k, P (itf f k (dt 0)) := fun k => by
      induction k with
      | zero => exact h.inP 0 h.pos
      | succ k ih => exact (h.inv _ (h.pf.itlt hd0 k)).2 ih
    exact this k
/-- Within a chord one comes from its one end to the other. -/
theorem Cyc.reach (h : Cyc n m N f P dt tw) (hX : NonX N dt tw F) {x : Nat} (hx : x < N) (hc : tw x < x) (hF : F (dt x / 2)) : ∀ d t, x - t = d → tw x < t → t ≤ x →
    (∀ o, o < N → F (dt o / 2) → tw x < o → o < t → t ≤ tw o → tw o < x → False) → Orb (psi f (ShutC dt tw F x)) (dt t) (dt x) := by
  intro d
  induction d using Nat.strongRecOn with
  | ind d ih =>
    intro t hd h1 h2 top
    by_cases ht : t = x
    · subst ht; exact ⟨0, rfl⟩
    have htN : t < N := by omega
    by_cases hf : F (dt t / 2)
    · have hc1 := h.tlt t htN
      have hcc := h.ttw htN
      have hcn := h.tne htN
      rcases Nat.lt_or_ge (tw t) t with q | q
      · exfalso
        have e1 : tw (tw x) = x := h.ttw hx
        rcases Nat.lt_trichotomy (tw t) (tw x) with w | w | w
        · exact hX (tw t) (tw x) w (by rw [hcc]; omega) (by rw [hcc, e1]; omega) hc1 (h.tlt _ hx) (by rw [h.thalf htN]; exact hf) (by rw [h.thalf hx]; exact hF)
        · have := congrArg tw w; rw [hcc, e1] at this; omega
        · exact top (tw t) hc1 (by rw [h.thalf htN]; exact hf) w q (by rw [hcc]; exact Nat.le_refl _) (by rw [hcc]; omega)
      · have hlt : tw t < x := by
          rcases Nat.lt_trichotomy (tw t) x with w | w | w
          · exact w
          · have := congrArg tw w; rw [hcc] at this; omega
          · exfalso
            have e1 : tw (tw x) = x := h.ttw hx
            exact hX (tw x) t h1 (by rw [e1]; omega) (by rw [e1]; exact w) (h.tlt _ hx) htN (by rw [h.thalf hx]; exact hF) hf
        have hs : ShutC dt tw F x (dt t / 2) := ⟨hf, tw t, hlt, h.thalf htN, by rw [hcc]; omega⟩
        have hst : psi f (ShutC dt tw F x) (dt t) = dt (tw t + 1) := by
          unfold psi
          rw [if_pos hs, ← h.tw_ t htN, h.next _ (by omega)]
        obtain ⟨k, hk⟩ := ih (x - (tw t + 1)) (by omega) (tw t + 1) rfl (by omega) (by omega) (fun o ho hfo a b c e => by
          rcases Nat.lt_trichotomy o t with w | w | w
          · exact top o ho hfo a w (by omega) e
          · subst w; omega
          · rcases Nat.lt_or_ge o (tw t) with v | v
            · exact hX t o w v (by omega) htN ho hf hfo
            · have : o = tw t := by omega
              subst this
              rw [hcc] at c; omega)
        exact ⟨k + 1, by rw [itf_succ, hst]; exact hk⟩
    · have hst : psi f (ShutC dt tw F x) (dt t) = dt (t + 1) := by
        unfold psi
        rw [if_neg fun s => hf s.1, h.next _ (by omega)]
      obtain ⟨k, hk⟩ := ih (x - (t + 1)) (by omega) (t + 1) rfl (by omega) (by omega) (fun o ho hfo a b c e => by
        rcases Nat.lt_or_ge o t with w | w
        · exact top o ho hfo a w (by omega) e
        · have : o = t := by omega
          subst this
          exact hf hfo)
      exact ⟨k + 1, by rw [itf_succ, hst]; exact hk⟩
theorem Cyc.fresh (h : Cyc n m N f P dt tw) {x : Nat} (hx : x < N) (hc : tw x < x) : ¬ ShutC dt tw F x (dt x / 2) := fun ⟨_, y, hy, e, hty⟩ => by
  rcases h.same (by omega) hx e with c | c
  · omega
  · subst c
    rw [h.ttw hx] at hty
    omega
theorem Cyc.ends (h : Cyc n m N f P dt tw) (hX : NonX N dt tw F) {x : Nat} (hx : x < N) (hc : tw x < x) (hF : F (dt x / 2)) : Orb (psi f (ShutC dt tw F x)) (dt (tw x)) (dt x) := by
  obtain ⟨k, hk⟩ := h.reach hX hx hc hF (x - (tw x + 1)) (tw x + 1) rfl (by omega) (by omega) (fun o _ _ a b _ _ => by omega)
  refine ⟨k + 1, ?_⟩
  rw [itf_succ]
  have : psi f (ShutC dt tw F x) (dt (tw x)) = dt (tw x + 1) := by
    unfold psi
    rw [if_neg (by rw [h.thalf hx]; exact h.fresh hx hc), h.next _ (by omega)]
  rw [this]; exact hk
/-- At most one cycle more for each chord. -/
theorem Cyc.most (h : Cyc n m N f P dt tw) (hF : ∀ e, F e → e < m ∧ P (2 * e)) (B : Nat → Prop) (hB : ∀ e, B e → F e) : ∀ k, cls (Orb (psi f fun e => B e ∨ (F e ∧ e < k))) P n + num B k ≤ cls (Orb (psi f B)) P n + num F k
  | 0 => by
    have : ∀ e, (B e ∨ (F e ∧ e < 0)) ↔ B e := fun e => ⟨fun x => x.elim id fun y => absurd y.2 (by omega), .inl⟩
    rw [psi_congr f this]; exact Nat.le_refl _
  | k + 1 => by
    have ih := h.most hF B hB k
    by_cases c : F k
    · by_cases d : B k
      · have heq : ∀ e, (B e ∨ (F e ∧ e < k + 1)) ↔ (B e ∨ (F e ∧ e < k)) := fun e => by
          constructor
          · rintro (x | ⟨x, y⟩)
            · exact .inl x
            · by_cases q : e = k
              · subst q; exact .inl d
              · exact .inr ⟨x, by omega⟩
          · rintro (x | ⟨x, y⟩)
            · exact .inl x
            · exact .inr ⟨x, by omega⟩
        rw [psi_congr f heq, (num_next F k).1 c, (num_next B k).1 d]; omega
      · have hfr : ¬ (B k ∨ (F k ∧ k < k)) := fun x => x.elim d fun y => absurd y.2 (by omega)
        have heq : ∀ e, (B e ∨ (F e ∧ e < k + 1)) ↔ ((B e ∨ (F e ∧ e < k)) ∨ e = k) := fun e => by
          constructor
          · rintro (x | ⟨x, y⟩)
            · exact .inl (.inl x)
            · by_cases q : e = k
              · exact .inr q
              · exact .inl (.inr ⟨x, by omega⟩)
          · rintro ((x | ⟨x, y⟩) | q)
            · exact .inl x
            · exact .inr ⟨x, by omega⟩
            · subst q; exact .inr ⟨c, by omega⟩
        obtain ⟨s1, s2⟩ := psi_step (Q := fun e => B e ∨ (F e ∧ e < k)) h.pf h.nm h.inv h.mate hfr (hF k c).1 (hF k c).2
        rw [psi_congr f heq, (num_next F k).1 c, (num_next B k).2 d]
        by_cases o : Orb (psi f fun e => B e ∨ (F e ∧ e < k)) (2 * k) (2 * k + 1)
        · have := s1 o; omega
        · have := s2 o; omega
    · have heq : ∀ e, (B e ∨ (F e ∧ e < k + 1)) ↔ (B e ∨ (F e ∧ e < k)) := fun e => by
        constructor
        · rintro (x | ⟨x, y⟩)
          · exact .inl x
          · by_cases q : e = k
            · subst q; exact absurd x c
            · exact .inr ⟨x, by omega⟩
        · rintro (x | ⟨x, y⟩)
          · exact .inl x
          · exact .inr ⟨x, by omega⟩
      rw [psi_congr f heq, (num_next F k).2 c, (num_next B k).2 fun b => c (hB k b)]; omega
/-- Two that cross leave at most as many cycles as chords, less one. -/
theorem Cyc.cross (h : Cyc n m N f P dt tw) (hF : ∀ e, F e → e < m ∧ P (2 * e)) {i k : Nat} (h1 : i < k) (h2 : k < tw i) (h3 : tw i < tw k) (hi : i < N) (hk : k < N) (fi : F (dt i / 2)) (fk : F (dt k / 2)) :
    cls (Orb (psi f F)) P n + 1 ≤ num F m := by
  obtain ⟨e1, he1⟩ : ∃ e1, e1 = dt i / 2 := ⟨_, rfl⟩
  obtain ⟨e2, he2⟩ : ∃ e2, e2 = dt k / 2 := ⟨_, rfl⟩
  have hne : e2 ≠ e1 := fun e => by
    rw [he1, he2] at e
    rcases h.same hk hi e with c | c
    · omega
    · omega
  rw [← he1] at fi
  rw [← he2] at fk
  have hj := h.tlt i hi
  have hl := h.tlt k hk
  -- the first one
  have s1 := psi_step (Q := fun _ => False) h.pf h.nm h.inv h.mate (e := e1) (fun x => x) (hF e1 fi).1 (hF e1 fi).2
  have hb1 : psi f (fun x => False ∨ x = e1) = psi f (fun x => x = e1) := psi_congr f fun e => ⟨fun x => x.elim False.elim id, .inr⟩
  rw [hb1, psi_none f (Q := fun _ => False) (fun _ x => x), h.one] at s1
  have c1 : cls (Orb (psi f fun x => x = e1)) P n ≤ 2 := by
    by_cases o : Orb f (2 * e1) (2 * e1 + 1)
    · have := s1.1 o; omega
    · have := s1.2 o; omega
  -- what lies within stays within
  have stay : ∀ q t, i < t → t ≤ tw i → ∃ t', i < t' ∧ t' ≤ tw i ∧ itf (psi f fun x => x = e1) q (dt t) = dt t' := fun q => by
    induction q with
    | zero => intro t a b; exact ⟨t, a, b, rfl⟩
    | succ q ih =>
      intro t a b
      rw [itf_succ]
      have htN : t < N := by omega
      by_cases c : t = tw i
      · have : psi f (fun x => x = e1) (dt t) = dt (i + 1) := by
          unfold psi
          rw [if_pos (by rw [c, h.thalf hi, he1]), ← h.tw_ t htN, c, h.ttw hi, h.next i (by omega)]
        rw [this]
        exact ih (i + 1) (by omega) (by omega)
      · have hn1 : ¬ dt t / 2 = e1 := fun e => by
          rw [he1] at e
          rcases h.same htN hi e with d | d
          · omega
          · exact c d
        have : psi f (fun x => x = e1) (dt t) = dt (t + 1) := by
          unfold psi
          rw [if_neg hn1, h.next t (by omega)]
        rw [this]
        exact ih (t + 1) (by omega) (by omega)
  have hno : ¬ Orb (psi f fun x => x = e1) (dt k) (dt (tw k)) := fun ⟨q, e⟩ => by
    obtain ⟨t', a, b, c⟩ := stay q k h1 (by omega)
    rw [c] at e
    have := h.inj _ _ (by omega) hl e
    omega
  have hpf := (psi_pf h.pf h.nm (fun x => x = e1)).eqv
  have s2 := (psi_step (Q := fun x => x = e1) h.pf h.nm h.inv h.mate (e := e2) hne (hF e2 fk).1 (hF e2 fk).2).2 (fun o => by
    apply hno
    have hlk := h.lt k hk
    have hlt := h.lt _ hl
    have ht := h.tw_ k hk
    rcases Nat.mod_two_eq_zero_or_one (dt k) with q | q
    · have e3 : mt (dt k) = 2 * e2 + 1 := by unfold mt; rw [if_pos (by omega)]; omega
      rw [ht, e3]
      have : dt k = 2 * e2 := by omega
      rw [this]; exact o
    · have e3 : mt (dt k) = 2 * e2 := by unfold mt; rw [if_neg (by omega)]; omega
      rw [ht, e3]
      have e4 : dt k = 2 * e2 + 1 := by omega
      rw [e4]
      exact hpf.symm _ _ (by omega) (by omega) o)
  -- all others
  have mo := h.most hF (fun x => x = e1 ∨ x = e2) (fun e x => by rcases x with rfl | rfl <;> assumption) m
  have hall : ∀ e, ((e = e1 ∨ e = e2) ∨ (F e ∧ e < m)) ↔ F e := fun e => by
    constructor
    · rintro ((rfl | rfl) | ⟨x, _⟩)
      · exact fi
      · exact fk
      · exact x
    · intro x; exact .inr ⟨x, (hF e x).1⟩
  rw [psi_congr f hall] at mo
  have n1 : num (fun x => x = e1 ∨ x = e2) m = 2 := by
    have a := num_more (Q := fun x => x = e1) (R := fun x => x = e1 ∨ x = e2) (hF e2 fk).1 hne (fun i => Iff.rfl) m
    have b := num_more (Q := fun _ => False) (R := fun x => x = e1) (hF e1 fi).1 (fun x => x) (fun i => ⟨.inr, fun x => x.elim False.elim id⟩) m
    rw [if_pos (hF e2 fk).1] at a
    rw [if_pos (hF e1 fi).1, num_none' (fun _ x => x)] at b
    omega
  omega
end
end Go.Proofs.Ytgcbdoljapnecaa
namespace Go.Proofs.Ytgcbdoljapnecaa
set_option linter.unusedVariables false

/-- The word i of the bits that V is. -/
def wd (V i : Nat) : Nat := V / 2 ^ (64 * i) % 2 ^ 64
/-- V with x's lowest k bits behind its n bits. -/
def put (V n x k : Nat) : Nat := V + x % 2 ^ k * 2 ^ n
end Go.Proofs.Ytgcbdoljapnecaa
namespace Go.Proofs.Ytgcbdoljapnecaa
set_option linter.unusedVariables false

def ofNB (l : List Nat) : List Int := l.map fun (x : Nat) => (x : Int)
theorem ofN_lenB (l : List Nat) : (ofNB l).length = l.length := by simp [ofNB]
theorem ofN_appendB (l m : List Nat) : ofNB (l ++ m) = ofNB l ++ ofNB m := by simp [ofNB]
theorem ofN_takeB (l : List Nat) (k : Nat) : ofNB (l.take k) = (ofNB l).take k := by simp [ofNB, List.map_take]
theorem ofN_getB (l : List Nat) (i : Nat) : (ofNB l).getD i 0 = ((l.getD i 0 : Nat) : Int) := by
  by_cases h : i < l.length
  · simp [ofNB, List.getD_eq_getElem?_getD, h]
  · simp [ofNB, List.getD_eq_getElem?_getD, Nat.le_of_not_lt h]
/-- The number of some bits, the lowest first. -/
def val : List Nat → Nat
  | [] => 0
  | b :: l => b + 2 * val l
/-- Noughts and ones. -/
def Bin (l : List Nat) : Prop := ∀ b ∈ l, b < 2
theorem Bin.nil : Bin [] := fun _ h => by cases h
theorem Bin.tail {b : Nat} {l : List Nat} (h : Bin (b :: l)) : Bin l := fun x hx => h x (List.mem_cons_of_mem _ hx)
theorem Bin.head {b : Nat} {l : List Nat} (h : Bin (b :: l)) : b < 2 := h b (List.mem_cons_self ..)
theorem Bin.append {l m : List Nat} (h : Bin l) (k : Bin m) : Bin (l ++ m) := fun x hx => by
  rcases List.mem_append.1 hx with hx | hx
  · exact h x hx
  · exact k x hx
theorem Bin.take {l : List Nat} (h : Bin l) (k : Nat) : Bin (l.take k) := fun x hx => h x (List.mem_of_mem_take hx)
theorem Bin.drop {l : List Nat} (h : Bin l) (k : Nat) : Bin (l.drop k) := fun x hx => h x (List.mem_of_mem_drop hx)
theorem Bin.getD {l : List Nat} (h : Bin l) (i : Nat) : l.getD i 0 < 2 := by
  by_cases hi : i < l.length
  · rw [List.getD_eq_getElem?_getD, List.getElem?_eq_getElem hi]
    exact h _ (List.getElem_mem hi)
  · rw [List.getD_eq_getElem?_getD, List.getElem?_eq_none (by omega)]; decide
theorem val_bit {l : List Nat} (h : Bin l) (i : Nat) : val l / 2 ^ i % 2 = l.getD i 0 := by
  induction l generalizing i with
  | nil => simp [val]
  | cons b l ih =>
    have hb := h.head
    cases i with
    | zero => simp [val]; omega
    | succ i =>
      have e : (b + 2 * val l) / 2 ^ (i + 1) = val l / 2 ^ i := by
        rw [Nat.pow_succ, Nat.mul_comm (2 ^ i) 2, ← Nat.div_div_eq_div_mul]
        congr 1; omega
      simp only [val, e, List.getD_cons_succ]
      exact ih h.tail i
/-- A number's k lowest bits. -/
def numL (x k : Nat) : List Nat := (List.range k).map fun i => x / 2 ^ i % 2
end Go.Proofs.Ytgcbdoljapnecaa
