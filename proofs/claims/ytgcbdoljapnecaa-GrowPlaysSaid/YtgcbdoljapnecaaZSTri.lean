/- Triangulations: a vertex put into a face, an edge flipped. -/
import Derived.Test.YtgcbdoljapnecaaZSJord
namespace Go.Proofs.Ytgcbdoljapnecaa
set_option linter.unusedVariables false
/-! ### triangulations: a vertex put into a face -/
theorem mt_e {n k : Nat} (h : n % 2 = 0) : mt (n + 2 * k) = n + 2 * k + 1 := by unfold mt; rw [if_pos (by omega)]
theorem mt_o {n k : Nat} (h : n % 2 = 0) : mt (n + 2 * k + 1) = n + 2 * k := by unfold mt; rw [if_neg (by omega)]; omega
theorem mt_inj {a b : Nat} (h : mt a = mt b) : a = b := by rw [← mt_mt' a, h, mt_mt']
/-- A triangulation of n darts, whose vertices have the names v below V. -/
structure TG (n : Nat) (sg v : Nat → Nat) (V : Nat) : Prop where
  ev : n % 2 = 0
  pos : 0 < n
  pf : PF n sg
  lab : ∀ i, i < n → v i < V
  lsg : ∀ i, i < n → v (sg i) = v i
  orb : ∀ i j, i < n → j < n → v i = v j → Orb sg i j
  sur : ∀ k, k < V → ∃ i, i < n ∧ v i = k
  cnt : n + 12 = 6 * V
  tri : ∀ d, d < n → sg (mt (sg (mt (sg (mt d))))) = d
  noloop : ∀ d, d < n → v (mt d) ≠ v d
  simple : ∀ d e, d < n → e < n → v d = v e → v (mt d) = v (mt e) → d = e
  conn : ∀ S : Nat → Prop, (∀ i, i < n → S i → S (sg i)) → (∀ i, i < n → S i → S (mt i)) → S 0 → ∀ i, i < n → S i
theorem mt_ltn {n i : Nat} (hn : n % 2 = 0) (hi : i < n) : mt i < n := by unfold mt; split <;> omega
section
variable {n V : Nat} {sg v : Nat → Nat}
/-- What a face's three darts are like. -/
structure Tri3 (n : Nat) (sg v : Nat → Nat) (x0 x1 x2 : Nat) : Prop where
  l0 : x0 < n
  l1 : x1 < n
  l2 : x2 < n
  m0 : mt x0 < n
  m1 : mt x1 < n
  m2 : mt x2 < n
  s0 : sg (mt x0) = x1
  s1 : sg (mt x1) = x2
  s2 : sg (mt x2) = x0
  v0 : v (mt x0) = v x1
  v1 : v (mt x1) = v x2
  v2 : v (mt x2) = v x0
  d01 : v x0 ≠ v x1
  d12 : v x1 ≠ v x2
  d20 : v x2 ≠ v x0
theorem TG.face (h : TG n sg v V) {d : Nat} (hd : d < n) : Tri3 n sg v d (sg (mt d)) (sg (mt (sg (mt d)))) := by
  have m0 := mt_ltn h.ev hd
  have l1 := h.pf.lt _ m0
  have m1 := mt_ltn h.ev l1
  have l2 := h.pf.lt _ m1
  have m2 := mt_ltn h.ev l2
  have s2 := h.tri d hd
  have v0 := h.lsg _ m0
  have v1 := h.lsg _ m1
  have v2 := h.lsg _ m2
  rw [s2] at v2
  have n0 := h.noloop d hd
  have n1 := h.noloop _ l1
  have n2 := h.noloop _ l2
  exact ⟨hd, l1, l2, m0, m1, m2, rfl, rfl, s2, v0.symm, v1.symm, v2.symm, by omega, by omega, by omega⟩
/-- Turns, when a vertex is put into the face of x0, x1, x2. -/
def putS (n : Nat) (sg : Nat → Nat) (x0 x1 x2 : Nat) (i : Nat) : Nat :=
  if i = mt x2 then n else if i = mt x0 then n + 2 else if i = mt x1 then n + 4 else if i = n then x0 else if i = n + 2 then x1 else if i = n + 4 then x2
  else if i = n + 1 then n + 5 else if i = n + 3 then n + 1 else if i = n + 5 then n + 3 else sg i
def putV (n V : Nat) (v : Nat → Nat) (x0 x1 x2 : Nat) (i : Nat) : Nat :=
  if i < n then v i else if i = n then v x0 else if i = n + 2 then v x1 else if i = n + 4 then v x2 else V
theorem TG.put_cases (h : TG n sg v V) {x0 x1 x2 : Nat} (t : Tri3 n sg v x0 x1 x2) (i : Nat) (hi : i < n + 6) :
    (i = mt x2 ∧ putS n sg x0 x1 x2 i = n) ∨ (i = mt x0 ∧ putS n sg x0 x1 x2 i = n + 2) ∨ (i = mt x1 ∧ putS n sg x0 x1 x2 i = n + 4) ∨ (i = n ∧ putS n sg x0 x1 x2 i = x0) ∨ (i = n + 2 ∧ putS n sg x0 x1 x2 i = x1) ∨ (i = n + 4 ∧ putS n sg x0 x1 x2 i = x2) ∨
    (i = n + 1 ∧ putS n sg x0 x1 x2 i = n + 5) ∨ (i = n + 3 ∧ putS n sg x0 x1 x2 i = n + 1) ∨ (i = n + 5 ∧ putS n sg x0 x1 x2 i = n + 3) ∨
    (i < n ∧ i ≠ mt x0 ∧ i ≠ mt x1 ∧ i ≠ mt x2 ∧ putS n sg x0 x1 x2 i = sg i ∧ sg i < n ∧ sg i ≠ x0 ∧ sg i ≠ x1 ∧ sg i ≠ x2) := by
  obtain ⟨l0, l1, l2, m0, m1, m2, s0, s1, s2, v0, v1, v2, d01, d12, d20⟩ := t
  have e01 : mt x0 ≠ mt x1 := fun e => d01 (by rw [mt_inj e])
  have e12 : mt x1 ≠ mt x2 := fun e => d12 (by rw [mt_inj e])
  have e20 : mt x2 ≠ mt x0 := fun e => d20 (by rw [mt_inj e])
  unfold putS
  by_cases c1 : i = mt x2
  · rw [if_pos c1]; exact .inl ⟨c1, rfl⟩
  rw [if_neg c1]
  by_cases c2 : i = mt x0
  · rw [if_pos c2]; exact .inr (.inl ⟨c2, rfl⟩)
  rw [if_neg c2]
  by_cases c3 : i = mt x1
  · rw [if_pos c3]; exact .inr (.inr (.inl ⟨c3, rfl⟩))
  rw [if_neg c3]
  by_cases c4 : i = n
  · rw [if_pos c4]; exact .inr (.inr (.inr (.inl ⟨c4, rfl⟩)))
  rw [if_neg c4]
  by_cases c5 : i = n + 2
  · rw [if_pos c5]; exact .inr (.inr (.inr (.inr (.inl ⟨c5, rfl⟩))))
  rw [if_neg c5]
  by_cases c6 : i = n + 4
  · rw [if_pos c6]; exact .inr (.inr (.inr (.inr (.inr (.inl ⟨c6, rfl⟩)))))
  rw [if_neg c6]
  by_cases c7 : i = n + 1
  · rw [if_pos c7]; exact .inr (.inr (.inr (.inr (.inr (.inr (.inl ⟨c7, rfl⟩))))))
  rw [if_neg c7]
  by_cases c8 : i = n + 3
  · rw [if_pos c8]; exact .inr (.inr (.inr (.inr (.inr (.inr (.inr (.inl ⟨c8, rfl⟩)))))))
  rw [if_neg c8]
  by_cases c9 : i = n + 5
  · rw [if_pos c9]; exact .inr (.inr (.inr (.inr (.inr (.inr (.inr (.inr (.inl ⟨c9, rfl⟩))))))))
  rw [if_neg c9]
  have hlt : i < n := by omega
  have hl := h.pf.lt i hlt
  refine .inr (.inr (.inr (.inr (.inr (.inr (.inr (.inr (.inr ⟨hlt, c2, c3, c1, rfl, hl, fun e => ?_, fun e => ?_, fun e => ?_⟩))))))))
  · exact c1 (h.pf.inj _ _ hlt m2 (by rw [e, s2]))
  · exact c2 (h.pf.inj _ _ hlt m0 (by rw [e, s0]))
  · exact c3 (h.pf.inj _ _ hlt m1 (by rw [e, s1]))
theorem TG.put_pf (h : TG n sg v V) {x0 x1 x2 : Nat} (t : Tri3 n sg v x0 x1 x2) : PF (n + 6) (putS n sg x0 x1 x2) := by
  have ⟨l0, l1, l2, m0, m1, m2, s0, s1, s2, v0, v1, v2, d01, d12, d20⟩ := t
  have x01 : x0 ≠ x1 := fun e => d01 (by rw [e])
  have x12 : x1 ≠ x2 := fun e => d12 (by rw [e])
  have x20 : x2 ≠ x0 := fun e => d20 (by rw [e])
  refine ⟨fun i hi => ?_, fun i j hi hj e => ?_⟩
  · have := h.put_cases t i hi
    omega
  · rcases h.put_cases t i hi with ⟨a, b⟩ | ⟨a, b⟩ | ⟨a, b⟩ | ⟨a, b⟩ | ⟨a, b⟩ | ⟨a, b⟩ | ⟨a, b⟩ | ⟨a, b⟩ | ⟨a, b⟩ | ⟨a, a1, a2, a3, b, b0, b1, b2, b3⟩ <;> rw [b] at e <;>
      rcases h.put_cases t j hj with ⟨c, d⟩ | ⟨c, d⟩ | ⟨c, d⟩ | ⟨c, d⟩ | ⟨c, d⟩ | ⟨c, d⟩ | ⟨c, d⟩ | ⟨c, d⟩ | ⟨c, d⟩ | ⟨c, c1, c2, c3, d, d0, d1, d2, d3⟩ <;> rw [d] at e <;>
      first | omega | exact h.pf.inj _ _ a c e
theorem putV_lt {x0 x1 x2 i : Nat} (hi : i < n) : putV n V v x0 x1 x2 i = v i := by unfold putV; rw [if_pos hi]
theorem TG.put (h : TG n sg v V) {x0 x1 x2 : Nat} (t : Tri3 n sg v x0 x1 x2) : TG (n + 6) (putS n sg x0 x1 x2) (putV n V v x0 x1 x2) (V + 1) := by
  have P := h.put_pf t
  have C := h.put_cases t
  have ⟨l0, l1, l2, m0, m1, m2, s0, s1, s2, v0, v1, v2, d01, d12, d20⟩ := t
  have ev := h.ev
  have q0 : putV n V v x0 x1 x2 n = v x0 := by unfold putV; rw [if_neg (by omega), if_pos rfl]
  have q1 : putV n V v x0 x1 x2 (n + 1) = V := by unfold putV; rw [if_neg (by omega), if_neg (by omega), if_neg (by omega), if_neg (by omega)]
  have q2 : putV n V v x0 x1 x2 (n + 2) = v x1 := by unfold putV; rw [if_neg (by omega), if_neg (by omega), if_pos rfl]
  have q3 : putV n V v x0 x1 x2 (n + 3) = V := by unfold putV; rw [if_neg (by omega), if_neg (by omega), if_neg (by omega), if_neg (by omega)]
  have q4 : putV n V v x0 x1 x2 (n + 4) = v x2 := by unfold putV; rw [if_neg (by omega), if_neg (by omega), if_neg (by omega), if_pos rfl]
  have q5 : putV n V v x0 x1 x2 (n + 5) = V := by unfold putV; rw [if_neg (by omega), if_neg (by omega), if_neg (by omega), if_neg (by omega)]
  have ql : ∀ i, i < n → putV n V v x0 x1 x2 i = v i := fun i hi => putV_lt hi
  have t0 : mt n = n + 1 := mt_e (k := 0) ev
  have t1 : mt (n + 1) = n := mt_o (k := 0) ev
  have t2 : mt (n + 2) = n + 3 := mt_e (k := 1) ev
  have t3 : mt (n + 3) = n + 2 := mt_o (k := 1) ev
  have t4 : mt (n + 4) = n + 5 := mt_e (k := 2) ev
  have t5 : mt (n + 5) = n + 4 := mt_o (k := 2) ev
  have ml : ∀ i, i < n → mt i < n := fun i hi => mt_ltn ev hi
  have vl : ∀ i, i < n → v i < V := h.lab
  have six : ∀ i, i < n + 6 → i < n ∨ i = n ∨ i = n + 1 ∨ i = n + 2 ∨ i = n + 3 ∨ i = n + 4 ∨ i = n + 5 := fun i hi => by omega
  -- the new turns, one by one
  have p0 : putS n sg x0 x1 x2 n = x0 := by have := C n (by omega); omega
  have p2 : putS n sg x0 x1 x2 (n + 2) = x1 := by have := C (n + 2) (by omega); omega
  have p4 : putS n sg x0 x1 x2 (n + 4) = x2 := by have := C (n + 4) (by omega); omega
  have p1 : putS n sg x0 x1 x2 (n + 1) = n + 5 := by have := C (n + 1) (by omega); omega
  have p3 : putS n sg x0 x1 x2 (n + 3) = n + 1 := by have := C (n + 3) (by omega); omega
  have p5 : putS n sg x0 x1 x2 (n + 5) = n + 3 := by have := C (n + 5) (by omega); omega
  have e01 : mt x0 ≠ mt x1 := fun e => d01 (by rw [mt_inj e])
  have e12 : mt x1 ≠ mt x2 := fun e => d12 (by rw [mt_inj e])
  have e20 : mt x2 ≠ mt x0 := fun e => d20 (by rw [mt_inj e])
  have r2 : putS n sg x0 x1 x2 (mt x2) = n := by have := C (mt x2) (by omega); omega
  have r0 : putS n sg x0 x1 x2 (mt x0) = n + 2 := by have := C (mt x0) (by omega); omega
  have r1 : putS n sg x0 x1 x2 (mt x1) = n + 4 := by have := C (mt x1) (by omega); omega
  have rl : ∀ i, i < n → i ≠ mt x0 → i ≠ mt x1 → i ≠ mt x2 → putS n sg x0 x1 x2 i = sg i := fun i hi a b c => by have := C i (by omega); omega
  -- an old turn is a new one, or two
  have old : ∀ i, i < n → Orb (putS n sg x0 x1 x2) i (sg i) := fun i hi => by
    by_cases c0 : i = mt x0
    · subst c0; exact ⟨2, by show putS _ _ _ _ _ (putS _ _ _ _ _ (mt x0)) = _; rw [r0, p2, s0]⟩
    by_cases c1 : i = mt x1
    · subst c1; exact ⟨2, by show putS _ _ _ _ _ (putS _ _ _ _ _ (mt x1)) = _; rw [r1, p4, s1]⟩
    by_cases c2 : i = mt x2
    · subst c2; exact ⟨2, by show putS _ _ _ _ _ (putS _ _ _ _ _ (mt x2)) = _; rw [r2, p0, s2]⟩
    exact ⟨1, rl i hi c0 c1 c2⟩
  have E := P.eqv
  have oldO : ∀ k i, i < n → Orb (putS n sg x0 x1 x2) i (itf sg k i) := fun k => by
    induction k with
    | zero => intro i _; exact ⟨0, rfl⟩
    | succ k ih =>
      intro i hi
      have hk := h.pf.itlt hi k
      exact E.trans _ _ _ (by omega) (by omega) (by have := h.pf.lt _ hk; show itf sg (k + 1) i < _; show sg (itf sg k i) < _; omega) (ih i hi) (old _ hk)
  -- who stands for a dart among the old ones
  have stand : ∀ i, i < n + 6 → putV n V v x0 x1 x2 i < V → ∃ j, j < n ∧ v j = putV n V v x0 x1 x2 i ∧ Orb (putS n sg x0 x1 x2) i j := fun i hi hV => by
    rcases six i hi with c | rfl | rfl | rfl | rfl | rfl | rfl
    · exact ⟨i, c, (ql i c).symm, ⟨0, rfl⟩⟩
    · exact ⟨x0, l0, q0.symm, ⟨1, p0⟩⟩
    · omega
    · exact ⟨x1, l1, q2.symm, ⟨1, p2⟩⟩
    · omega
    · exact ⟨x2, l2, q4.symm, ⟨1, p4⟩⟩
    · omega
  have odd3 : ∀ i, i < n + 6 → putV n V v x0 x1 x2 i = V → Orb (putS n sg x0 x1 x2) (n + 1) i := fun i hi hV => by
    rcases six i hi with c | rfl | rfl | rfl | rfl | rfl | rfl
    · rw [ql i c] at hV; have := vl i c; omega
    · have := vl x0 l0; omega
    · exact ⟨0, rfl⟩
    · have := vl x1 l1; omega
    · exact ⟨2, by show putS _ _ _ _ _ (putS _ _ _ _ _ (n + 1)) = _; rw [p1, p5]⟩
    · have := vl x2 l2; omega
    · exact ⟨1, p1⟩
  refine ⟨by omega, by omega, P, fun i hi => ?_, fun i hi => ?_, fun i j hi hj e => ?_, fun k hk => ?_, by have := h.cnt; omega, fun d hd => ?_, fun d hd => ?_, fun d e hd he e1 e2 => ?_, fun S hs hm h0 i hi => ?_⟩
  · rcases six i hi with c | rfl | rfl | rfl | rfl | rfl | rfl
    · rw [ql i c]; have := vl i c; omega
    · have := vl x0 l0; omega
    · omega
    · have := vl x1 l1; omega
    · omega
    · have := vl x2 l2; omega
    · omega
  · rcases C i hi with ⟨rfl, b⟩ | ⟨rfl, b⟩ | ⟨rfl, b⟩ | ⟨rfl, b⟩ | ⟨rfl, b⟩ | ⟨rfl, b⟩ | ⟨rfl, b⟩ | ⟨rfl, b⟩ | ⟨rfl, b⟩ | ⟨a, a1, a2, a3, b, b0, b1, b2, b3⟩ <;> rw [b]
    · rw [q0, ql _ m2, v2]
    · rw [q2, ql _ m0, v0]
    · rw [q4, ql _ m1, v1]
    · rw [q0, ql _ l0]
    · rw [q2, ql _ l1]
    · rw [q4, ql _ l2]
    · rw [q5, q1]
    · rw [q1, q3]
    · rw [q3, q5]
    · rw [ql _ b0, ql _ a, h.lsg i a]
  · by_cases hV : putV n V v x0 x1 x2 i < V
    · obtain ⟨a, ha, ea, oa⟩ := stand i hi hV
      obtain ⟨c, hc, ec, oc⟩ := stand j hj (by omega)
      obtain ⟨k, ek⟩ := h.orb a c ha hc (by omega)
      exact E.trans _ _ _ hi (by omega) hj oa (E.trans _ _ _ (by omega) (show c < n + 6 by omega) hj (by rw [← ek]; exact oldO k a ha) (E.symm _ _ hj (by omega) oc))
    · have hi' : putV n V v x0 x1 x2 i = V := by
        rcases six i hi with c | rfl | rfl | rfl | rfl | rfl | rfl
        · rw [ql i c] at hV; exact absurd (vl i c) hV
        · rw [q0] at hV; exact absurd (vl _ l0) hV
        · exact q1
        · rw [q2] at hV; exact absurd (vl _ l1) hV
        · exact q3
        · rw [q4] at hV; exact absurd (vl _ l2) hV
        · exact q5
      exact E.trans _ _ _ hi (show n + 1 < n + 6 by omega) hj (E.symm _ _ (by omega) hi (odd3 i hi hi')) (odd3 j hj (by omega))
  · by_cases c : k < V
    · obtain ⟨i, hi, e⟩ := h.sur k c
      exact ⟨i, by omega, by rw [ql i hi, e]⟩
    · exact ⟨n + 1, by omega, by rw [q1]; omega⟩
  · rcases six d hd with c | rfl | rfl | rfl | rfl | rfl | rfl
    · by_cases c0 : d = x0
      · subst c0; rw [r0, t2, p3, t1, p0]
      by_cases c1 : d = x1
      · subst c1; rw [r1, t4, p5, t3, p2]
      by_cases c2 : d = x2
      · subst c2; rw [r2, t0, p1, t5, p4]
      have f := h.face c
      have hm := f.m0
      have nx : ∀ y z, mt y = mt z → y = z := fun y z e => mt_inj e
      have g0 : putS n sg x0 x1 x2 (mt d) = sg (mt d) := rl _ hm (fun e => c0 (nx _ _ e)) (fun e => c1 (nx _ _ e)) (fun e => c2 (nx _ _ e))
      have inj3 : ∀ y z, y < n → z < n → sg (mt y) = sg (mt z) → y = z := fun y z hy hz e => mt_inj (h.pf.inj _ _ (ml y hy) (ml z hz) e)
      have g1 : putS n sg x0 x1 x2 (mt (sg (mt d))) = sg (mt (sg (mt d))) := rl _ f.m1
        (fun e => c2 (inj3 d x2 c l2 (by rw [s2]; exact nx _ _ e))) (fun e => c0 (inj3 d x0 c l0 (by rw [s0]; exact nx _ _ e))) (fun e => c1 (inj3 d x1 c l1 (by rw [s1]; exact nx _ _ e)))
      have g2 : putS n sg x0 x1 x2 (mt (sg (mt (sg (mt d))))) = d := by
        have f2 := f.s2
        rw [rl _ f.m2
          (fun e => c1 (by rw [nx _ _ e, s0] at f2; exact f2.symm)) (fun e => c2 (by rw [nx _ _ e, s1] at f2; exact f2.symm)) (fun e => c0 (by rw [nx _ _ e, s2] at f2; exact f2.symm))]
        exact f2
      rw [g0, g1, g2]
    · rw [t0, p1, t5, p4, r2]
    · rw [t1, p0, r0, t2, p3]
    · rw [t2, p3, t1, p0, r0]
    · rw [t3, p2, r1, t4, p5]
    · rw [t4, p5, t3, p2, r1]
    · rw [t5, p4, r2, t0, p1]
  · rcases six d hd with c | rfl | rfl | rfl | rfl | rfl | rfl
    · rw [ql _ (ml d c), ql _ c]; exact h.noloop d c
    · rw [t0, q1, q0]; have := vl x0 l0; omega
    · rw [t1, q1, q0]; have := vl x0 l0; omega
    · rw [t2, q3, q2]; have := vl x1 l1; omega
    · rw [t3, q3, q2]; have := vl x1 l1; omega
    · rw [t4, q5, q4]; have := vl x2 l2; omega
    · rw [t5, q5, q4]; have := vl x2 l2; omega
  · have w0 := vl x0 l0
    have w1 := vl x1 l1
    have w2 := vl x2 l2
    rcases six d hd with c | rfl | rfl | rfl | rfl | rfl | rfl <;> rcases six e he with c' | rfl | rfl | rfl | rfl | rfl | rfl <;>
      (try rw [ql _ c] at e1) <;> (try rw [ql _ (ml d c)] at e2) <;> (try have := vl d c) <;> (try have := vl _ (ml d c)) <;>
      (try rw [ql _ c'] at e1) <;> (try rw [ql _ (ml e c')] at e2) <;> (try have := vl e c') <;> (try have := vl _ (ml e c')) <;>
      (try simp only [t0, t1, t2, t3, t4, t5, q0, q1, q2, q3, q4, q5] at e1 e2) <;>
      first | omega | exact h.simple d e c c' e1 e2
  · have so : ∀ i, i < n → S i := h.conn S (fun i hi s => by
      obtain ⟨k, ek⟩ := old i hi
      rw [← ek]
      have : ∀ k, S (itf (putS n sg x0 x1 x2) k i) := fun k => by
        induction k with
        | zero => exact s
        | succ k ih => exact hs _ (P.itlt (by omega) k) ih
      exact this k) (fun i hi s => hm i (by omega) s) h0
    have a0 : S n := by rw [← r2]; exact hs _ (by omega) (so _ m2)
    have a2 : S (n + 2) := by rw [← r0]; exact hs _ (by omega) (so _ m0)
    have a4 : S (n + 4) := by rw [← r1]; exact hs _ (by omega) (so _ m1)
    rcases six i hi with c | rfl | rfl | rfl | rfl | rfl | rfl
    · exact so i c
    · exact a0
    · rw [← t0]; exact hm _ (by omega) a0
    · exact a2
    · rw [← t2]; exact hm _ (by omega) a2
    · exact a4
    · rw [← t4]; exact hm _ (by omega) a4
end
end Go.Proofs.Ytgcbdoljapnecaa
namespace Go.Proofs.Ytgcbdoljapnecaa
set_option linter.unusedVariables false
/-! ### triangulations: an edge flipped -/
section
variable {n V : Nat} {sg v : Nat → Nat}
def flipS (sg : Nat → Nat) (d e x1 a y1 b : Nat) (i : Nat) : Nat :=
  if i = mt a then y1 else if i = mt b then x1 else if i = mt x1 then d else if i = mt y1 then e else if i = d then a else if i = e then b else sg i
def flipV (v : Nat → Nat) (d e a b : Nat) (i : Nat) : Nat := if i = d then v a else if i = e then v b else v i
/-- What an edge's two faces are like. -/
structure Tri6 (n : Nat) (sg v : Nat → Nat) (d e x1 a y1 b : Nat) : Prop where
  f1 : Tri3 n sg v d x1 a
  f2 : Tri3 n sg v e y1 b
  de : mt d = e
  ed : mt e = d
  cd : v a ≠ v b
  no : ∀ x, x < n → v x = v a → v (mt x) = v b → False
theorem TG.flip_cases (h : TG n sg v V) {d e x1 a y1 b : Nat} (t : Tri6 n sg v d e x1 a y1 b) (i : Nat) (hi : i < n) :
    (i = mt a ∧ flipS sg d e x1 a y1 b i = y1) ∨ (i = mt b ∧ flipS sg d e x1 a y1 b i = x1) ∨ (i = mt x1 ∧ flipS sg d e x1 a y1 b i = d) ∨ (i = mt y1 ∧ flipS sg d e x1 a y1 b i = e) ∨ (i = d ∧ flipS sg d e x1 a y1 b i = a) ∨ (i = e ∧ flipS sg d e x1 a y1 b i = b) ∨
    (i ≠ mt a ∧ i ≠ mt b ∧ i ≠ mt x1 ∧ i ≠ mt y1 ∧ i ≠ d ∧ i ≠ e ∧ flipS sg d e x1 a y1 b i = sg i ∧ sg i < n ∧ sg i ≠ d ∧ sg i ≠ e ∧ sg i ≠ a ∧ sg i ≠ b ∧ sg i ≠ x1 ∧ sg i ≠ y1) := by
  obtain ⟨⟨l0, l1, l2, m0, m1, m2, s0, s1, s2, v0, v1, v2, d01, d12, d20⟩, ⟨k0, k1, k2, n0, n1, n2, t0, t1, t2, w0, w1, w2, c01, c12, c20⟩, de, ed, cd, no⟩ := t
  unfold flipS
  by_cases c1 : i = mt a
  · rw [if_pos c1]; exact .inl ⟨c1, rfl⟩
  rw [if_neg c1]
  by_cases c2 : i = mt b
  · rw [if_pos c2]; exact .inr (.inl ⟨c2, rfl⟩)
  rw [if_neg c2]
  by_cases c3 : i = mt x1
  · rw [if_pos c3]; exact .inr (.inr (.inl ⟨c3, rfl⟩))
  rw [if_neg c3]
  by_cases c4 : i = mt y1
  · rw [if_pos c4]; exact .inr (.inr (.inr (.inl ⟨c4, rfl⟩)))
  rw [if_neg c4]
  by_cases c5 : i = d
  · rw [if_pos c5]; exact .inr (.inr (.inr (.inr (.inl ⟨c5, rfl⟩))))
  rw [if_neg c5]
  by_cases c6 : i = e
  · rw [if_pos c6]; exact .inr (.inr (.inr (.inr (.inr (.inl ⟨c6, rfl⟩)))))
  rw [if_neg c6]
  have hl := h.pf.lt i hi
  have I := fun j hj e => h.pf.inj i j hi hj e
  exact .inr (.inr (.inr (.inr (.inr (.inr ⟨c1, c2, c3, c4, c5, c6, rfl, hl, fun z => c1 (I _ m2 (by rw [z, s2])), fun z => c2 (I _ n2 (by rw [z, t2])), fun z => c3 (I _ m1 (by rw [z, s1])), fun z => c4 (I _ n1 (by rw [z, t1])),
    fun z => c6 (I _ k0 (by rw [z, ← de, s0])), fun z => c5 (I _ l0 (by rw [z, ← ed, t0]))⟩)))))
set_option maxHeartbeats 4000000 in
theorem TG.flip (h : TG n sg v V) {d e x1 a y1 b : Nat} (t : Tri6 n sg v d e x1 a y1 b) : TG n (flipS sg d e x1 a y1 b) (flipV v d e a b) V := by
  have C := h.flip_cases t
  have ⟨⟨l0, l1, l2, m0, m1, m2, s0, s1, s2, v0, v1, v2, d01, d12, d20⟩, ⟨k0, k1, k2, n0, n1, n2, t0, t1, t2, w0, w1, w2, c01, c12, c20⟩, de, ed, cd, no⟩ := t
  have ev := h.ev
  rw [de] at v0 s0
  rw [ed] at w0 t0
  -- labels: d A, e B, x1 B, a C, y1 A, b D
  have lA : v y1 = v d := w0.symm
  have lB : v x1 = v e := v0.symm
  have nAB : v d ≠ v e := fun z => d01 (z.trans v0)
  have nBC : v e ≠ v a := fun z => d12 (v0.symm.trans z)
  have nCA : v a ≠ v d := d20
  have nAD : v d ≠ v b := fun z => c12 (w0.symm.trans z)
  have nBD : v b ≠ v e := c20
  have nv : ∀ {p q : Nat}, v p ≠ v q → p ≠ q := fun h z => h (by rw [z])
  have x1d : x1 ≠ d := nv (by rw [lB]; exact nAB.symm)
  have x1e : x1 ≠ e := fun z => nCA (by rw [← v1, z, ed])
  have ad : a ≠ d := nv nCA
  have ae : a ≠ e := nv nBC.symm
  have y1e : y1 ≠ e := nv (by rw [lA]; exact nAB)
  have y1d : y1 ≠ d := fun z => nBD (by rw [← w1, z, de])
  have be : b ≠ e := nv nBD
  have bd : b ≠ d := nv nAD.symm
  have dne : d ≠ e := nv nAB
  have madd : mt a ≠ d := fun z => ae (by rw [← mt_mt' a, z, de])
  have mbe : mt b ≠ e := fun z => bd (by rw [← mt_mt' b, z, ed])
  have mxd : mt x1 ≠ d := nv (by rw [v1]; exact nCA)
  have mxe : mt x1 ≠ e := nv (by rw [v1]; exact nBC.symm)
  have myd : mt y1 ≠ d := nv (by rw [w1]; exact nAD.symm)
  have mye : mt y1 ≠ e := nv (by rw [w1]; exact nBD)
  have mae : mt a ≠ e := fun z => ad (by rw [← mt_mt' a, z, ed])
  have mbd : mt b ≠ d := fun z => be (by rw [← mt_mt' b, z, de])
  have mab : mt a ≠ mt b := fun z => cd (by rw [mt_inj z])
  have max_ : mt a ≠ mt x1 := fun z => d12 (by rw [mt_inj z])
  have may : mt a ≠ mt y1 := fun z => nCA (by rw [mt_inj z, lA])
  have mbx : mt b ≠ mt x1 := fun z => nBD (by rw [mt_inj z, lB])
  have mby : mt b ≠ mt y1 := fun z => c12 (by rw [mt_inj z])
  have mxy : mt x1 ≠ mt y1 := nv (by rw [v1, w1]; exact cd)
  have ra : flipS sg d e x1 a y1 b (mt a) = y1 := by unfold flipS; rw [if_pos rfl]
  have rb : flipS sg d e x1 a y1 b (mt b) = x1 := by unfold flipS; rw [if_neg (Ne.symm mab), if_pos rfl]
  have rx : flipS sg d e x1 a y1 b (mt x1) = d := by unfold flipS; rw [if_neg (Ne.symm max_), if_neg (Ne.symm mbx), if_pos rfl]
  have ry : flipS sg d e x1 a y1 b (mt y1) = e := by unfold flipS; rw [if_neg (Ne.symm may), if_neg (Ne.symm mby), if_neg (Ne.symm mxy), if_pos rfl]
  have rd : flipS sg d e x1 a y1 b d = a := by unfold flipS; rw [if_neg (Ne.symm madd), if_neg (Ne.symm mbd), if_neg (Ne.symm mxd), if_neg (Ne.symm myd), if_pos rfl]
  have re : flipS sg d e x1 a y1 b e = b := by unfold flipS; rw [if_neg (Ne.symm mae), if_neg (Ne.symm mbe), if_neg (Ne.symm mxe), if_neg (Ne.symm mye), if_neg (Ne.symm dne), if_pos rfl]
  have qd : flipV v d e a b d = v a := by unfold flipV; rw [if_pos rfl]
  have qe : flipV v d e a b e = v b := by unfold flipV; rw [if_neg (Ne.symm dne), if_pos rfl]
  have ql : ∀ i, i ≠ d → i ≠ e → flipV v d e a b i = v i := fun i h1 h2 => by unfold flipV; rw [if_neg h1, if_neg h2]
  have mne : ∀ i, i ≠ d → i ≠ e → mt i ≠ d ∧ mt i ≠ e := fun i h1 h2 => ⟨fun z => h2 (by rw [← mt_mt' i, z, de]), fun z => h1 (by rw [← mt_mt' i, z, ed])⟩
  have ml : ∀ i, i < n → mt i < n := fun i hi => mt_ltn ev hi
  have P : PF n (flipS sg d e x1 a y1 b) := by
    refine ⟨fun i hi => ?_, fun i j hi hj z => ?_⟩
    · have := C i hi; omega
    · have va := congrArg v (show a = a from rfl)
      have ab : a ≠ b := fun z => cd (by rw [z])
      have ax : a ≠ x1 := fun z => d12 (by rw [z])
      have ay : a ≠ y1 := nv (by rw [lA]; exact nCA)
      have bx : b ≠ x1 := nv (by rw [lB]; exact nBD)
      have by_ : b ≠ y1 := fun z => c12 (by rw [z])
      have xy : x1 ≠ y1 := nv (by rw [lA, lB]; exact nAB.symm)
      rcases C i hi with ⟨p, q⟩ | ⟨p, q⟩ | ⟨p, q⟩ | ⟨p, q⟩ | ⟨p, q⟩ | ⟨p, q⟩ | ⟨p1, p2, p3, p4, p5, p6, q, q0, q1, q2, q3, q4, q5, q6⟩ <;> rw [q] at z <;>
        rcases C j hj with ⟨p', q'⟩ | ⟨p', q'⟩ | ⟨p', q'⟩ | ⟨p', q'⟩ | ⟨p', q'⟩ | ⟨p', q'⟩ | ⟨p1', p2', p3', p4', p5', p6', q', q0', q1', q2', q3', q4', q5', q6'⟩ <;> rw [q'] at z <;>
        first | exact p.trans p'.symm | exact absurd z (by assumption) | exact absurd z.symm (by assumption) | exact h.pf.inj _ _ hi hj z
  have E := P.eqv
  -- what stands for a dart
  let pr : Nat → Nat := fun y => if y = d then y1 else if y = e then x1 else y
  have prd : pr d = y1 := if_pos rfl
  have pre : pr e = x1 := by show (if e = d then y1 else if e = e then x1 else e) = x1; rw [if_neg (Ne.symm dne), if_pos rfl]
  have prl : ∀ y, y ≠ d → y ≠ e → pr y = y := fun y h1 h2 => by show (if y = d then y1 else if y = e then x1 else y) = y; rw [if_neg h1, if_neg h2]
  have prlt : ∀ y, y < n → pr y < n := fun y hy => by
    by_cases c1 : y = d
    · rw [c1, prd]; exact k1
    · by_cases c2 : y = e
      · rw [c2, pre]; exact l1
      · rw [prl y c1 c2]; exact hy
  have st : ∀ y, y < n → Orb (flipS sg d e x1 a y1 b) (pr y) (pr (sg y)) := fun y hy => by
    by_cases c1 : y = d
    · rw [c1, prd, t0, prl _ y1d y1e]; exact ⟨0, rfl⟩
    by_cases c2 : y = e
    · rw [c2, pre, s0, prl _ x1d x1e]; exact ⟨0, rfl⟩
    rw [prl y c1 c2]
    rcases C y hy with ⟨p, q⟩ | ⟨p, q⟩ | ⟨p, q⟩ | ⟨p, q⟩ | ⟨p, q⟩ | ⟨p, q⟩ | ⟨p1, p2, p3, p4, p5, p6, q, q0, q1, q2, q3, q4, q5, q6⟩
    · rw [p, s2, prd]; exact ⟨1, ra⟩
    · rw [p, t2, pre]; exact ⟨1, rb⟩
    · rw [p, s1, prl _ ad ae]; exact ⟨2, by show flipS _ _ _ _ _ _ _ (flipS _ _ _ _ _ _ _ (mt x1)) = _; rw [rx, rd]⟩
    · rw [p, t1, prl _ bd be]; exact ⟨2, by show flipS _ _ _ _ _ _ _ (flipS _ _ _ _ _ _ _ (mt y1)) = _; rw [ry, re]⟩
    · exact absurd p c1
    · exact absurd p c2
    · rw [prl _ q1 q2]; exact ⟨1, q⟩
  have sts : ∀ k y, y < n → Orb (flipS sg d e x1 a y1 b) (pr y) (pr (itf sg k y)) := fun k => by
    induction k with
    | zero => intro y _; exact ⟨0, rfl⟩
    | succ k ih =>
      intro y hy
      have hk := h.pf.itlt hy k
      exact E.trans _ _ _ (prlt y hy) (prlt _ hk) (prlt _ (h.pf.lt _ hk)) (ih y hy) (st _ hk)
  have stand : ∀ i, i < n → ∃ j, j < n ∧ j ≠ d ∧ j ≠ e ∧ v j = flipV v d e a b i ∧ Orb (flipS sg d e x1 a y1 b) i j := fun i hi => by
    by_cases c1 : i = d
    · subst c1; exact ⟨a, l2, ad, ae, qd.symm, ⟨1, rd⟩⟩
    by_cases c2 : i = e
    · subst c2; exact ⟨b, k2, bd, be, qe.symm, ⟨1, re⟩⟩
    exact ⟨i, hi, c1, c2, (ql i c1 c2).symm, ⟨0, rfl⟩⟩
  refine ⟨ev, h.pos, P, fun i hi => ?_, fun i hi => ?_, fun i j hi hj z => ?_, fun k hk => ?_, h.cnt, fun f hf => ?_, fun f hf => ?_, fun f g hf hg z1 z2 => ?_, fun S hs hm h0 i hi => ?_⟩
  · obtain ⟨j, hj, _, _, ej, _⟩ := stand i hi
    rw [← ej]; exact h.lab j hj
  · rcases C i hi with ⟨p, q⟩ | ⟨p, q⟩ | ⟨p, q⟩ | ⟨p, q⟩ | ⟨p, q⟩ | ⟨p, q⟩ | ⟨p1, p2, p3, p4, p5, p6, q, q0, q1, q2, q3, q4, q5, q6⟩ <;> rw [q]
    · rw [p, ql _ y1d y1e, ql _ madd mae]; exact (v2.trans w0).symm
    · rw [p, ql _ x1d x1e, ql _ mbd mbe]; exact (w2.trans v0).symm
    · rw [p, qd, ql _ mxd mxe]; exact v1.symm
    · rw [p, qe, ql _ myd mye]; exact w1.symm
    · rw [p, qd, ql _ ad ae]
    · rw [p, qe, ql _ bd be]
    · rw [ql _ q1 q2, ql _ p5 p6, h.lsg i hi]
  · obtain ⟨i', hi', i1, i2, ei, oi⟩ := stand i hi
    obtain ⟨j', hj', j1, j2, ej, oj⟩ := stand j hj
    obtain ⟨k, ek⟩ := h.orb i' j' hi' hj' (ei.trans (z.trans ej.symm))
    have := sts k i' hi'
    rw [ek, prl _ i1 i2, prl _ j1 j2] at this
    exact E.trans _ _ _ hi hi' hj oi (E.trans _ _ _ hi' hj' hj this (E.symm _ _ hj hj' oj))
  · obtain ⟨i, hi, z⟩ := h.sur k hk
    by_cases c1 : i = d
    · exact ⟨y1, k1, by rw [ql _ y1d y1e, ← w0, ← c1, z]⟩
    by_cases c2 : i = e
    · exact ⟨x1, l1, by rw [ql _ x1d x1e, ← v0, ← c2, z]⟩
    exact ⟨i, hi, by rw [ql _ c1 c2, z]⟩
  · by_cases c1 : f = x1
    · rw [c1, rx, de, re, rb]
    by_cases c2 : f = d
    · rw [c2, de, re, rb, rx]
    by_cases c3 : f = b
    · rw [c3, rb, rx, de, re]
    by_cases c4 : f = y1
    · rw [c4, ry, ed, rd, ra]
    by_cases c5 : f = e
    · rw [c5, ed, rd, ra, ry]
    by_cases c6 : f = a
    · rw [c6, ra, ry, ed, rd]
    have hm := ml f hf
    have other : ∀ f, f < n → f ≠ x1 → f ≠ d → f ≠ b → f ≠ y1 → f ≠ e → f ≠ a → flipS sg d e x1 a y1 b (mt f) = sg (mt f) ∧ sg (mt f) < n ∧ sg (mt f) ≠ x1 ∧ sg (mt f) ≠ d ∧ sg (mt f) ≠ b ∧ sg (mt f) ≠ y1 ∧ sg (mt f) ≠ e ∧ sg (mt f) ≠ a := fun f hf c1 c2 c3 c4 c5 c6 => by
      rcases C (mt f) (ml f hf) with ⟨p, q⟩ | ⟨p, q⟩ | ⟨p, q⟩ | ⟨p, q⟩ | ⟨p, q⟩ | ⟨p, q⟩ | ⟨p1, p2, p3, p4, p5, p6, q, q0, q1, q2, q3, q4, q5, q6⟩
      · exact absurd (mt_inj p) c6
      · exact absurd (mt_inj p) c3
      · exact absurd (mt_inj p) c1
      · exact absurd (mt_inj p) c4
      · exact absurd (mt_inj (p.trans ed.symm)) c5
      · exact absurd (mt_inj (p.trans de.symm)) c2
      · exact ⟨q, q0, q5, q1, q4, q6, q2, q3⟩
    obtain ⟨e1, u0, u1, u2, u3, u4, u5, u6⟩ := other f hf c1 c2 c3 c4 c5 c6
    obtain ⟨e2, u0', u1', u2', u3', u4', u5', u6'⟩ := other _ u0 u1 u2 u3 u4 u5 u6
    obtain ⟨e3, _⟩ := other _ u0' u1' u2' u3' u4' u5' u6'
    rw [e1, e2, e3]; exact h.tri f hf
  · by_cases c1 : f = d
    · rw [c1, de, qe, qd]; exact fun x => cd x.symm
    by_cases c2 : f = e
    · rw [c2, ed, qd, qe]; exact cd
    have := mne f c1 c2
    rw [ql _ this.1 this.2, ql _ c1 c2]; exact h.noloop f hf
  · by_cases c1 : f = d
    · subst c1
      rw [qd] at z1; rw [de, qe] at z2
      by_cases g1 : g = f
      · exact g1.symm
      by_cases g2 : g = e
      · subst g2; rw [qe] at z1; exact absurd z1 cd
      have := mne g g1 g2
      rw [ql _ g1 g2] at z1; rw [ql _ this.1 this.2] at z2
      exact (no g hg z1.symm z2.symm).elim
    by_cases c2 : f = e
    · subst c2
      rw [qe] at z1; rw [ed, qd] at z2
      by_cases g2 : g = f
      · exact g2.symm
      by_cases g1 : g = d
      · subst g1; rw [qd] at z1; exact absurd z1.symm cd
      have := mne g g1 g2
      rw [ql _ g1 g2] at z1; rw [ql _ this.1 this.2] at z2
      exact (no (mt g) (ml g hg) z2.symm (by rw [mt_mt']; exact z1.symm)).elim
    have mf := mne f c1 c2
    rw [ql _ c1 c2] at z1; rw [ql _ mf.1 mf.2] at z2
    by_cases g1 : g = d
    · subst g1
      rw [qd] at z1; rw [de, qe] at z2
      exact (no f hf z1 z2).elim
    by_cases g2 : g = e
    · subst g2
      rw [qe] at z1; rw [ed, qd] at z2
      exact (no (mt f) (ml f hf) z2 (by rw [mt_mt']; exact z1)).elim
    have mg := mne g g1 g2
    rw [ql _ g1 g2] at z1; rw [ql _ mg.1 mg.2] at z2
    exact h.simple f g hf hg z1 z2
  · have ci := fun i hi => closed_iff P hs i hi
    have mi : ∀ i, i < n → (S (mt i) ↔ S i) := fun i hi => ⟨fun s => by have := hm _ (ml i hi) s; rwa [mt_mt'] at this, hm i hi⟩
    have a1 := ci _ m2; rw [ra] at a1
    have a2 := ci _ n2; rw [rb] at a2
    have a3 := ci _ m1; rw [rx] at a3
    have a4 := ci _ n1; rw [ry] at a4
    have a5 := ci _ l0; rw [rd] at a5
    have a6 := ci _ k0; rw [re] at a6
    have b1 := mi _ l2
    have b2 := mi _ k2
    refine h.conn S (fun y hy s => ?_) hm h0 i hi
    rcases C y hy with ⟨p, q⟩ | ⟨p, q⟩ | ⟨p, q⟩ | ⟨p, q⟩ | ⟨p, q⟩ | ⟨p, q⟩ | ⟨p1, p2, p3, p4, p5, p6, q, q0, q1, q2, q3, q4, q5, q6⟩
    · rw [p] at s ⊢; rw [s2]; exact a5.1 (b1.1 s)
    · rw [p] at s ⊢; rw [t2]; exact a6.1 (b2.1 s)
    · rw [p] at s ⊢; rw [s1]; exact a5.2 (a3.2 s)
    · rw [p] at s ⊢; rw [t1]; exact a6.2 (a4.2 s)
    · rw [p] at s ⊢; rw [t0]; exact a1.2 (b1.2 (a5.2 s))
    · rw [p] at s ⊢; rw [s0]; exact a2.2 (b2.2 (a6.2 s))
    · rw [← q]; exact hs y hy s
end
end Go.Proofs.Ytgcbdoljapnecaa
