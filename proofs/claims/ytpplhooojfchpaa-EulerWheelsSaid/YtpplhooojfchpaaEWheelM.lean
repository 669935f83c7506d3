/- Wheels and cycles: what they are like, reckoned. -/
import Derived.Test.YtpplhooojfchpaaEGenR
import Derived.KernelRfl
namespace Go.Proofs.Ytpplhooojfchpaa
set_option maxRecDepth 20000
open Go.RowKit
set_option linter.unusedVariables false
def minB (l : List Nat) : Nat → Nat → Nat → Nat
  | 0, _, m => m
  | f + 1, x, m => minB l f (l.getD x 0) (if x < m then x else m)
def minO (l : List Nat) (x : Nat) : Nat := minB l l.length x x
theorem minB_is (l : List Nat) : ∀ f x m, minB l f x m ≤ m ∧ (∀ k, k < f → minB l f x m ≤ itf (sgL l) k x) ∧ (minB l f x m = m ∨ ∃ k, minB l f x m = itf (sgL l) k x)
  | 0, x, m => ⟨Nat.le_refl _, fun k h => absurd h (by omega), .inl rfl⟩
  | f + 1, x, m => by
    obtain ⟨h1, h2, h3⟩ := minB_is l f (l.getD x 0) (if x < m then x else m)
    unfold minB
    refine ⟨?_, fun k hk => ?_, ?_⟩
    · split at h1 <;> split <;> omega
    · cases k with
      | zero =>
        show _ ≤ x
        split at h1 <;> split <;> omega
      | succ k => rw [itf_succ]; exact h2 k (by omega)
    · rcases h3 with h3 | ⟨k, h3⟩
      · rw [h3]
        by_cases c : x < m
        · rw [if_pos c]; exact .inr ⟨0, rfl⟩
        · rw [if_neg c]; exact .inl rfl
      · exact .inr ⟨k + 1, by rw [itf_succ]; exact h3⟩
theorem minO_lead {l b : List Nat} (h : Inv l b) {x : Nat} (hx : x < l.length) : minO l x = lead l x := by
  obtain ⟨h1, h2, h3⟩ := minB_is l l.length x x
  have hq := (sgL_pf h).eqv
  obtain ⟨l1, l2, l3⟩ := lead_is h hx
  have hlt : lead l x < l.length := by omega
  have o1 : Orb (sgL l) (lead l x) x := by
    obtain ⟨t, e⟩ := (mem_orb h hlt).1 l3
    exact ⟨t, by rw [sgL_it]; exact e⟩
  have up : minO l x ≤ lead l x := by
    obtain ⟨t, e⟩ := hq.symm _ _ hlt hx o1
    have hm : lead l x ∈ orb l x := (mem_orb h hx).2 ⟨t, by rw [← sgL_it]; exact e⟩
    have hm' : lead l x ∈ way l x (per l x) := hm
    obtain ⟨j, hj, ej⟩ := mem_way.1 hm'
    have := h2 j (by have := per_le h hx; omega)
    rw [sgL_it, ej] at this
    exact this
  have dn : lead l x ≤ minO l x := by
    have o2 : Orb (sgL l) x (minO l x) := by
      rcases h3 with h3 | ⟨k, h3⟩
      · exact ⟨0, h3.symm⟩
      · exact ⟨k, h3.symm⟩
    have hml : minO l x < l.length := by omega
    obtain ⟨t, e⟩ := hq.trans _ _ _ hlt hx hml o1 o2
    exact (leads_orb h hlt).1 l2 _ ((mem_orb h hlt).2 ⟨t, by rw [← sgL_it]; exact e⟩)
  omega
theorem name_lead_eq {l b : List Nat} (h : Inv l b) {x y : Nat} (hx : x < l.length) (hy : y < l.length) (e : nameOf l x = nameOf l y) : lead l x = lead l y := by
  unfold nameOf at e
  obtain ⟨a1, a2, _⟩ := lead_is h hx
  obtain ⟨b1, b2, _⟩ := lead_is h hy
  rcases Nat.lt_trichotomy (lead l x) (lead l y) with c | c | c
  · have := leads_lt l _ _ a2 c; omega
  · exact c
  · have := leads_lt l _ _ b2 c; omega
def invB (l b : List Nat) : Bool := b.length == l.length && (List.range l.length).all fun i => decide (l.getD i 0 < l.length) && decide (b.getD i 0 < l.length) && l.getD (b.getD i 0) 0 == i && b.getD (l.getD i 0) 0 == i
def simV (v : List Nat) (m : Nat) : Bool := (List.range m).all fun e => v.getD (2 * e) 0 != v.getD (2 * e + 1) 0 && (List.range (2 * e)).all fun y => !(v.getD y 0 == v.getD (2 * e) 0 && v.getD (mateN y) 0 == v.getD (2 * e + 1) 0)
def treeB (l p d : List Nat) : Bool := (List.range l.length).all fun i => i == 0 || (decide (p.getD i 0 < l.length) && decide (d.getD (p.getD i 0) 0 < d.getD i 0) && (mt i == p.getD i 0 || l.getD i 0 == p.getD i 0 || l.getD (p.getD i 0) 0 == i))
def minsB (l v : List Nat) : Bool := (List.range l.length).all fun x => v.getD x 0 == minO l x
def triB (f : List Nat) : Bool := (List.range f.length).all fun d => f.getD d 0 != d && f.getD (f.getD (f.getD d 0) 0) 0 == d
def chk (l b f v p d : List Nat) : Bool := invB l b && minsB l v && simV v (l.length / 2) && treeB l p d
theorem all_range {n : Nat} {f : Nat → Bool} (h : (List.range n).all f = true) (i : Nat) (hi : i < n) : f i = true := by
  rw [List.all_eq_true] at h
  exact h i (by simpa using hi)
theorem invB_ok {l b : List Nat} (h : invB l b = true) : Inv l b := by
  unfold invB at h
  simp only [Bool.and_eq_true, beq_iff_eq] at h
  obtain ⟨hl, ha⟩ := h
  have key : ∀ i, i < l.length → l.getD i 0 < l.length ∧ b.getD i 0 < l.length ∧ l.getD (b.getD i 0) 0 = i ∧ b.getD (l.getD i 0) 0 = i := fun i hi => by
    have := all_range ha i hi
    simp only [Bool.and_eq_true, beq_iff_eq, decide_eq_true_iff] at this
    exact ⟨this.1.1.1, this.1.1.2, this.1.2, this.2⟩
  exact ⟨hl, fun i hi => (key i hi).1, fun i hi => (key i hi).2.1, fun i hi => (key i hi).2.2.2, fun i hi => (key i hi).2.2.1⟩
theorem treeB_ok {l b p d : List Nat} (h : Inv l b) (he : l.length % 2 = 0) (h0 : 0 < l.length) (ht : treeB l p d = true) : ∀ i, i < l.length → part l 0 i := by
  have hq := part_eqv h he
  have hpf := sgL_pf h
  have key : ∀ k i, d.getD i 0 ≤ k → i < l.length → part l 0 i := fun k => by
    induction k using Nat.strongRecOn with
    | ind k ih =>
      intro i hk hi
      have := all_range ht i hi
      simp only [Bool.or_eq_true, Bool.and_eq_true, beq_iff_eq, decide_eq_true_iff] at this
      rcases this with rfl | ⟨⟨hp, hd⟩, ha⟩
      · exact hq.refl _ hi
      · have hpp := ih (d.getD (p.getD i 0) 0) (by omega) (p.getD i 0) (Nat.le_refl _) hp
        refine hq.trans _ _ _ h0 hp hi hpp ?_
        rcases ha with (ha | ha) | ha
        · have := gk_mt hpf (m := l.length / 2) (by omega) i hi
          rw [ha] at this
          exact hq.symm _ _ hi hp this
        · have : part l i (sgL l i) := gk_sig hpf i _
          unfold sgL at this
          rw [ha] at this
          exact hq.symm _ _ hi hp this
        · have : part l (p.getD i 0) (sgL l (p.getD i 0)) := gk_sig hpf _ _
          unfold sgL at this
          rwa [ha] at this
  exact fun i hi => key _ i (Nat.le_refl _) hi
theorem loop_iff' (l : List Nat) (e : Nat) : lowE l e = highE l e ↔ nameOf l (2 * e) = nameOf l (2 * e + 1) := by unfold lowE highE; omega
theorem simV_ok {l b v : List Nat} (h : Inv l b) (he : l.length % 2 = 0) (hm : minsB l v = true) (hs : simV v (l.length / 2) = true) : loopsN l (l.length / 2) = 0 ∧ dblN l (l.length / 2) = 0 := by
  have hv : ∀ x, x < l.length → v.getD x 0 = lead l x := fun x hx => by
    have := all_range hm x hx
    simp only [beq_iff_eq] at this
    rw [this, minO_lead h hx]
  have hmt : ∀ y, y < l.length → mateN y < l.length := fun y hy => mateN_lt he hy
  constructor
  · have : ∀ k, k ≤ l.length / 2 → loopsN l k = 0 := fun k => by
      induction k with
      | zero => intro _; rfl
      | succ k ih =>
        intro hk
        have := all_range hs k (by omega)
        simp only [Bool.and_eq_true, bne_iff_ne, ne_eq] at this
        rw [(loopsN_next l k).2 fun c => ?_]
        · exact ih (by omega)
        · have hn := (loop_iff' l k).1 c
          have := name_lead_eq h (show 2 * k < l.length by omega) (show 2 * k + 1 < l.length by omega) hn
          rw [hv _ (by omega), hv _ (by omega)] at *
          simp_all
    exact this _ (Nat.le_refl _)
  · unfold dblN
    refine num_zero fun e hE ⟨_, hp⟩ => ?_
    have ha := all_range hs e hE
    simp only [Bool.and_eq_true] at ha
    obtain ⟨f, hf, h1, h2⟩ := num_has hp
    have hc : (nameOf l (2 * f) = nameOf l (2 * e) ∧ nameOf l (2 * f + 1) = nameOf l (2 * e + 1)) ∨ (nameOf l (2 * f) = nameOf l (2 * e + 1) ∧ nameOf l (2 * f + 1) = nameOf l (2 * e)) := by
      unfold lowE at h1
      unfold highE at h2
      omega
    have le := fun x y (hx : x < l.length) (hy : y < l.length) (c : nameOf l x = nameOf l y) => name_lead_eq h hx hy c
    rcases hc with ⟨a1, a2⟩ | ⟨a1, a2⟩
    · have b1 := all_range ha.2 (2 * f) (by omega)
      have m1 : mateN (2 * f) = 2 * f + 1 := by rw [mateN_eq, if_pos (by omega)]
      rw [m1, hv _ (by omega), hv _ (by omega), hv _ (by omega), hv _ (by omega), le _ _ (by omega) (by omega) a1, le _ _ (by omega) (by omega) a2] at b1
      simp at b1
    · have b1 := all_range ha.2 (2 * f + 1) (by omega)
      have m1 : mateN (2 * f + 1) = 2 * f := by rw [mateN_eq, if_neg (by omega)]; omega
      rw [m1, hv _ (by omega), hv _ (by omega), hv _ (by omega), hv _ (by omega), le _ _ (by omega) (by omega) a1, le _ _ (by omega) (by omega) a2] at b1
      simp at b1
/-- What is known of a wheel, or of a cycle. -/
def WFacts (l : List Nat) (n v f : Nat) : Prop := ∃ b, Inv l b ∧ l.length % 2 = 0 ∧ genusN l = 0 ∧ pN l = 1 ∧ loopsN l (l.length / 2) = 0 ∧ dblN l (l.length / 2) = 0 ∧ (TriangN l 0 ↔ n = 3) ∧ (sizes l).length = v ∧ (sizes (phiL l)).length = f
theorem facts_of {l0 l b f v p d : List Nat} {n v1 f1 : Nat} {t : Bool} (h : l0 = l ∧ phiL l = f ∧ chk l b f v p d = true) (hm : metB l = v1 ∧ metB f = f1 ∧ triB f = t) (h0 : l.length % 2 = 0 ∧ 0 < l.length) (ht : t = decide (n = 3)) (hv : 3 ≤ v1 ∧ v1 + f1 = l.length / 2 + 2) : WFacts l0 n v1 f1 := by
  obtain ⟨rfl, rfl, hc⟩ := h
  unfold chk at hc
  simp only [Bool.and_eq_true] at hc
  obtain ⟨⟨⟨c1, c2⟩, c3⟩, c4⟩ := hc
  have hi := invB_ok c1
  have hp := phi_inv hi h0.1
  obtain ⟨o1, o2⟩ := one_part hi h0.1 h0.2 (treeB_ok hi h0.1 h0.2 c4)
  obtain ⟨s1, s2⟩ := simV_ok hi h0.1 c2 c3
  have g0 : genusN l0 = 0 := by rw [hm.1, hm.2.1] at o2; omega
  have e1 : (sizes l0).length = v1 := by rw [sizes_is hi, hm.1]
  have e2 : (sizes (phiL l0)).length = f1 := by rw [sizes_is hp, hm.2.1]
  refine ⟨b, hi, h0.1, g0, o1, s1, s2, ?_, e1, e2⟩
  have htri : (∀ d, d < l0.length → Tri l0 d) ↔ triB (phiL l0) = true := by
    unfold triB
    rw [List.all_eq_true, phiL_len]
    constructor
    · intro H d hd
      have := H d (by simpa using hd)
      unfold Tri at this
      simp only [Bool.and_eq_true, bne_iff_ne, ne_eq, beq_iff_eq]
      exact this
    · intro H d hd
      have := H d (by simpa using hd)
      simp only [Bool.and_eq_true, bne_iff_ne, ne_eq, beq_iff_eq] at this
      exact this
  unfold TriangN
  rw [htri, hm.2.2, ht, decide_eq_true_iff, e1]
  exact ⟨fun x => x.2.2.1, fun x => ⟨by omega, by omega, x, g0, s1, s2⟩⟩
/-- The lists while they are laid. -/
def wstep (n : Nat) (s : List Nat) (i : Nat) : List Nat := (((s.set (2 * i) (2 * (n + i) + 1)).set (2 * (n + i) + 1) (2 * ((i + n - 1) % n) + 1)).set (2 * ((i + n - 1) % n) + 1) (2 * i)).set (2 * (n + i)) (2 * (n + (i + 1) % n))
def wst (n : Nat) : Nat → List Nat
  | 0 => List.replicate (4 * n) 0
  | i + 1 => wstep n (wst n i) i
def cstep (n : Nat) (s : List Nat) (i : Nat) : List Nat := (s.set (2 * i) (2 * ((i + n - 1) % n) + 1)).set (2 * ((i + n - 1) % n) + 1) (2 * i)
def cst (n : Nat) : Nat → List Nat
  | 0 => List.replicate (2 * n) 0
  | i + 1 => cstep n (cst n i) i
theorem wst_len (n : Nat) : ∀ k, (wst n k).length = 4 * n
  | 0 => by simp [wst]
  | k + 1 => by unfold wst wstep; simp [wst_len n k]
theorem cst_len (n : Nat) : ∀ k, (cst n k).length = 2 * n
  | 0 => by simp [cst]
  | k + 1 => by unfold cst cstep; simp [cst_len n k]
def wL3 : List Nat := [7, 2, 9, 4, 11, 0, 8, 5, 10, 1, 6, 3]
def wB3 : List Nat := [5, 9, 1, 11, 3, 7, 10, 0, 6, 2, 8, 4]
def wF3 : List Nat := [2, 7, 4, 9, 0, 11, 5, 8, 1, 10, 3, 6]
def wV3 : List Nat := [0, 1, 1, 3, 3, 0, 6, 0, 6, 1, 6, 3]
def wP3 : List Nat := [0, 0, 1, 2, 5, 0, 7, 0, 9, 1, 6, 4]
def wD3 : List Nat := [0, 1, 2, 3, 2, 1, 2, 1, 3, 2, 3, 3]
theorem wok3 : wst 3 3 = wL3 ∧ phiL wL3 = wF3 ∧ chk wL3 wB3 wF3 wV3 wP3 wD3 = true := ⟨by kernel_rfl, by kernel_rfl, by kernel_rfl⟩
theorem wmet3 : metB wL3 = 4 ∧ metB wF3 = 4 ∧ triB wF3 = true := ⟨by kernel_rfl, by kernel_rfl, by kernel_rfl⟩
def cL3 : List Nat := [5, 2, 1, 4, 3, 0]
def cB3 : List Nat := [5, 2, 1, 4, 3, 0]
def cF3 : List Nat := [2, 5, 4, 1, 0, 3]
def cV3 : List Nat := [0, 1, 1, 3, 3, 0]
def cP3 : List Nat := [0, 0, 1, 2, 5, 0]
def cD3 : List Nat := [0, 1, 2, 3, 2, 1]
theorem cok3 : cst 3 3 = cL3 ∧ phiL cL3 = cF3 ∧ chk cL3 cB3 cF3 cV3 cP3 cD3 = true := ⟨by kernel_rfl, by kernel_rfl, by kernel_rfl⟩
theorem cmet3 : metB cL3 = 3 ∧ metB cF3 = 2 ∧ triB cF3 = true := ⟨by kernel_rfl, by kernel_rfl, by kernel_rfl⟩
def wL4 : List Nat := [9, 2, 11, 4, 13, 6, 15, 0, 10, 7, 12, 1, 14, 3, 8, 5]
def wB4 : List Nat := [7, 11, 1, 13, 3, 15, 5, 9, 14, 0, 8, 2, 10, 4, 12, 6]
def wF4 : List Nat := [2, 9, 4, 11, 6, 13, 0, 15, 7, 10, 1, 12, 3, 14, 5, 8]
def wV4 : List Nat := [0, 1, 1, 3, 3, 5, 5, 0, 8, 0, 8, 1, 8, 3, 8, 5]
def wP4 : List Nat := [0, 0, 1, 2, 3, 6, 7, 0, 9, 0, 11, 1, 10, 3, 8, 6]
def wD4 : List Nat := [0, 1, 2, 3, 4, 3, 2, 1, 2, 1, 3, 2, 4, 4, 3, 3]
theorem wok4 : wst 4 4 = wL4 ∧ phiL wL4 = wF4 ∧ chk wL4 wB4 wF4 wV4 wP4 wD4 = true := ⟨by kernel_rfl, by kernel_rfl, by kernel_rfl⟩
theorem wmet4 : metB wL4 = 5 ∧ metB wF4 = 5 ∧ triB wF4 = false := ⟨by kernel_rfl, by kernel_rfl, by kernel_rfl⟩
def cL4 : List Nat := [7, 2, 1, 4, 3, 6, 5, 0]
def cB4 : List Nat := [7, 2, 1, 4, 3, 6, 5, 0]
def cF4 : List Nat := [2, 7, 4, 1, 6, 3, 0, 5]
def cV4 : List Nat := [0, 1, 1, 3, 3, 5, 5, 0]
def cP4 : List Nat := [0, 0, 1, 2, 3, 6, 7, 0]
def cD4 : List Nat := [0, 1, 2, 3, 4, 3, 2, 1]
theorem cok4 : cst 4 4 = cL4 ∧ phiL cL4 = cF4 ∧ chk cL4 cB4 cF4 cV4 cP4 cD4 = true := ⟨by kernel_rfl, by kernel_rfl, by kernel_rfl⟩
theorem cmet4 : metB cL4 = 4 ∧ metB cF4 = 2 ∧ triB cF4 = false := ⟨by kernel_rfl, by kernel_rfl, by kernel_rfl⟩
def wL5 : List Nat := [11, 2, 13, 4, 15, 6, 17, 8, 19, 0, 12, 9, 14, 1, 16, 3, 18, 5, 10, 7]
def wB5 : List Nat := [9, 13, 1, 15, 3, 17, 5, 19, 7, 11, 18, 0, 10, 2, 12, 4, 14, 6, 16, 8]
def wF5 : List Nat := [2, 11, 4, 13, 6, 15, 8, 17, 0, 19, 9, 12, 1, 14, 3, 16, 5, 18, 7, 10]
def wV5 : List Nat := [0, 1, 1, 3, 3, 5, 5, 7, 7, 0, 10, 0, 10, 1, 10, 3, 10, 5, 10, 7]
def wP5 : List Nat := [0, 0, 1, 2, 3, 4, 7, 8, 9, 0, 11, 0, 13, 1, 12, 3, 18, 16, 10, 8]
def wD5 : List Nat := [0, 1, 2, 3, 4, 5, 4, 3, 2, 1, 2, 1, 3, 2, 4, 4, 4, 5, 3, 3]
theorem wok5 : wst 5 5 = wL5 ∧ phiL wL5 = wF5 ∧ chk wL5 wB5 wF5 wV5 wP5 wD5 = true := ⟨by kernel_rfl, by kernel_rfl, by kernel_rfl⟩
theorem wmet5 : metB wL5 = 6 ∧ metB wF5 = 6 ∧ triB wF5 = false := ⟨by kernel_rfl, by kernel_rfl, by kernel_rfl⟩
def cL5 : List Nat := [9, 2, 1, 4, 3, 6, 5, 8, 7, 0]
def cB5 : List Nat := [9, 2, 1, 4, 3, 6, 5, 8, 7, 0]
def cF5 : List Nat := [2, 9, 4, 1, 6, 3, 8, 5, 0, 7]
def cV5 : List Nat := [0, 1, 1, 3, 3, 5, 5, 7, 7, 0]
def cP5 : List Nat := [0, 0, 1, 2, 3, 4, 7, 8, 9, 0]
def cD5 : List Nat := [0, 1, 2, 3, 4, 5, 4, 3, 2, 1]
theorem cok5 : cst 5 5 = cL5 ∧ phiL cL5 = cF5 ∧ chk cL5 cB5 cF5 cV5 cP5 cD5 = true := ⟨by kernel_rfl, by kernel_rfl, by kernel_rfl⟩
theorem cmet5 : metB cL5 = 5 ∧ metB cF5 = 2 ∧ triB cF5 = false := ⟨by kernel_rfl, by kernel_rfl, by kernel_rfl⟩
def wL6 : List Nat := [13, 2, 15, 4, 17, 6, 19, 8, 21, 10, 23, 0, 14, 11, 16, 1, 18, 3, 20, 5, 22, 7, 12, 9]
def wB6 : List Nat := [11, 15, 1, 17, 3, 19, 5, 21, 7, 23, 9, 13, 22, 0, 12, 2, 14, 4, 16, 6, 18, 8, 20, 10]
def wF6 : List Nat := [2, 13, 4, 15, 6, 17, 8, 19, 10, 21, 0, 23, 11, 14, 1, 16, 3, 18, 5, 20, 7, 22, 9, 12]
def wV6 : List Nat := [0, 1, 1, 3, 3, 5, 5, 7, 7, 9, 9, 0, 12, 0, 12, 1, 12, 3, 12, 5, 12, 7, 12, 9]
def wP6 : List Nat := [0, 0, 1, 2, 3, 4, 5, 8, 9, 10, 11, 0, 13, 0, 15, 1, 14, 3, 16, 5, 22, 20, 12, 10]
def wD6 : List Nat := [0, 1, 2, 3, 4, 5, 6, 5, 4, 3, 2, 1, 2, 1, 3, 2, 4, 4, 5, 6, 4, 5, 3, 3]
theorem wok6 : wst 6 6 = wL6 ∧ phiL wL6 = wF6 ∧ chk wL6 wB6 wF6 wV6 wP6 wD6 = true := ⟨by kernel_rfl, by kernel_rfl, by kernel_rfl⟩
theorem wmet6 : metB wL6 = 7 ∧ metB wF6 = 7 ∧ triB wF6 = false := ⟨by kernel_rfl, by kernel_rfl, by kernel_rfl⟩
def cL6 : List Nat := [11, 2, 1, 4, 3, 6, 5, 8, 7, 10, 9, 0]
def cB6 : List Nat := [11, 2, 1, 4, 3, 6, 5, 8, 7, 10, 9, 0]
def cF6 : List Nat := [2, 11, 4, 1, 6, 3, 8, 5, 10, 7, 0, 9]
def cV6 : List Nat := [0, 1, 1, 3, 3, 5, 5, 7, 7, 9, 9, 0]
def cP6 : List Nat := [0, 0, 1, 2, 3, 4, 5, 8, 9, 10, 11, 0]
def cD6 : List Nat := [0, 1, 2, 3, 4, 5, 6, 5, 4, 3, 2, 1]
theorem cok6 : cst 6 6 = cL6 ∧ phiL cL6 = cF6 ∧ chk cL6 cB6 cF6 cV6 cP6 cD6 = true := ⟨by kernel_rfl, by kernel_rfl, by kernel_rfl⟩
theorem cmet6 : metB cL6 = 6 ∧ metB cF6 = 2 ∧ triB cF6 = false := ⟨by kernel_rfl, by kernel_rfl, by kernel_rfl⟩
def wL7 : List Nat := [15, 2, 17, 4, 19, 6, 21, 8, 23, 10, 25, 12, 27, 0, 16, 13, 18, 1, 20, 3, 22, 5, 24, 7, 26, 9, 14, 11]
def wB7 : List Nat := [13, 17, 1, 19, 3, 21, 5, 23, 7, 25, 9, 27, 11, 15, 26, 0, 14, 2, 16, 4, 18, 6, 20, 8, 22, 10, 24, 12]
def wF7 : List Nat := [2, 15, 4, 17, 6, 19, 8, 21, 10, 23, 12, 25, 0, 27, 13, 16, 1, 18, 3, 20, 5, 22, 7, 24, 9, 26, 11, 14]
def wV7 : List Nat := [0, 1, 1, 3, 3, 5, 5, 7, 7, 9, 9, 11, 11, 0, 14, 0, 14, 1, 14, 3, 14, 5, 14, 7, 14, 9, 14, 11]
def wP7 : List Nat := [0, 0, 1, 2, 3, 4, 5, 6, 9, 10, 11, 12, 13, 0, 15, 0, 17, 1, 16, 3, 18, 5, 24, 22, 26, 24, 14, 12]
def wD7 : List Nat := [0, 1, 2, 3, 4, 5, 6, 7, 6, 5, 4, 3, 2, 1, 2, 1, 3, 2, 4, 4, 5, 6, 5, 6, 4, 5, 3, 3]
theorem wok7 : wst 7 7 = wL7 ∧ phiL wL7 = wF7 ∧ chk wL7 wB7 wF7 wV7 wP7 wD7 = true := ⟨by kernel_rfl, by kernel_rfl, by kernel_rfl⟩
theorem wmet7 : metB wL7 = 8 ∧ metB wF7 = 8 ∧ triB wF7 = false := ⟨by kernel_rfl, by kernel_rfl, by kernel_rfl⟩
def cL7 : List Nat := [13, 2, 1, 4, 3, 6, 5, 8, 7, 10, 9, 12, 11, 0]
def cB7 : List Nat := [13, 2, 1, 4, 3, 6, 5, 8, 7, 10, 9, 12, 11, 0]
def cF7 : List Nat := [2, 13, 4, 1, 6, 3, 8, 5, 10, 7, 12, 9, 0, 11]
def cV7 : List Nat := [0, 1, 1, 3, 3, 5, 5, 7, 7, 9, 9, 11, 11, 0]
def cP7 : List Nat := [0, 0, 1, 2, 3, 4, 5, 6, 9, 10, 11, 12, 13, 0]
def cD7 : List Nat := [0, 1, 2, 3, 4, 5, 6, 7, 6, 5, 4, 3, 2, 1]
theorem cok7 : cst 7 7 = cL7 ∧ phiL cL7 = cF7 ∧ chk cL7 cB7 cF7 cV7 cP7 cD7 = true := ⟨by kernel_rfl, by kernel_rfl, by kernel_rfl⟩
theorem cmet7 : metB cL7 = 7 ∧ metB cF7 = 2 ∧ triB cF7 = false := ⟨by kernel_rfl, by kernel_rfl, by kernel_rfl⟩
def wL8 : List Nat := [17, 2, 19, 4, 21, 6, 23, 8, 25, 10, 27, 12, 29, 14, 31, 0, 18, 15, 20, 1, 22, 3, 24, 5, 26, 7, 28, 9, 30, 11, 16, 13]
def wB8 : List Nat := [15, 19, 1, 21, 3, 23, 5, 25, 7, 27, 9, 29, 11, 31, 13, 17, 30, 0, 16, 2, 18, 4, 20, 6, 22, 8, 24, 10, 26, 12, 28, 14]
def wF8 : List Nat := [2, 17, 4, 19, 6, 21, 8, 23, 10, 25, 12, 27, 14, 29, 0, 31, 15, 18, 1, 20, 3, 22, 5, 24, 7, 26, 9, 28, 11, 30, 13, 16]
def wV8 : List Nat := [0, 1, 1, 3, 3, 5, 5, 7, 7, 9, 9, 11, 11, 13, 13, 0, 16, 0, 16, 1, 16, 3, 16, 5, 16, 7, 16, 9, 16, 11, 16, 13]
def wP8 : List Nat := [0, 0, 1, 2, 3, 4, 5, 6, 7, 27, 11, 12, 13, 14, 15, 0, 17, 0, 19, 1, 18, 3, 20, 5, 22, 24, 28, 26, 30, 28, 16, 14]
def wD8 : List Nat := [0, 1, 2, 3, 4, 5, 6, 7, 8, 7, 6, 5, 4, 3, 2, 1, 2, 1, 3, 2, 4, 4, 5, 6, 6, 7, 5, 6, 4, 5, 3, 3]
theorem wok8 : wst 8 8 = wL8 ∧ phiL wL8 = wF8 ∧ chk wL8 wB8 wF8 wV8 wP8 wD8 = true := ⟨by kernel_rfl, by kernel_rfl, by kernel_rfl⟩
theorem wmet8 : metB wL8 = 9 ∧ metB wF8 = 9 ∧ triB wF8 = false := ⟨by kernel_rfl, by kernel_rfl, by kernel_rfl⟩
def cL8 : List Nat := [15, 2, 1, 4, 3, 6, 5, 8, 7, 10, 9, 12, 11, 14, 13, 0]
def cB8 : List Nat := [15, 2, 1, 4, 3, 6, 5, 8, 7, 10, 9, 12, 11, 14, 13, 0]
def cF8 : List Nat := [2, 15, 4, 1, 6, 3, 8, 5, 10, 7, 12, 9, 14, 11, 0, 13]
def cV8 : List Nat := [0, 1, 1, 3, 3, 5, 5, 7, 7, 9, 9, 11, 11, 13, 13, 0]
def cP8 : List Nat := [0, 0, 1, 2, 3, 4, 5, 6, 7, 10, 11, 12, 13, 14, 15, 0]
def cD8 : List Nat := [0, 1, 2, 3, 4, 5, 6, 7, 8, 7, 6, 5, 4, 3, 2, 1]
theorem cok8 : cst 8 8 = cL8 ∧ phiL cL8 = cF8 ∧ chk cL8 cB8 cF8 cV8 cP8 cD8 = true := ⟨by kernel_rfl, by kernel_rfl, by kernel_rfl⟩
theorem cmet8 : metB cL8 = 8 ∧ metB cF8 = 2 ∧ triB cF8 = false := ⟨by kernel_rfl, by kernel_rfl, by kernel_rfl⟩
def wL9 : List Nat := [19, 2, 21, 4, 23, 6, 25, 8, 27, 10, 29, 12, 31, 14, 33, 16, 35, 0, 20, 17, 22, 1, 24, 3, 26, 5, 28, 7, 30, 9, 32, 11, 34, 13, 18, 15]
def wB9 : List Nat := [17, 21, 1, 23, 3, 25, 5, 27, 7, 29, 9, 31, 11, 33, 13, 35, 15, 19, 34, 0, 18, 2, 20, 4, 22, 6, 24, 8, 26, 10, 28, 12, 30, 14, 32, 16]
def wF9 : List Nat := [2, 19, 4, 21, 6, 23, 8, 25, 10, 27, 12, 29, 14, 31, 16, 33, 0, 35, 17, 20, 1, 22, 3, 24, 5, 26, 7, 28, 9, 30, 11, 32, 13, 34, 15, 18]
def wV9 : List Nat := [0, 1, 1, 3, 3, 5, 5, 7, 7, 9, 9, 11, 11, 13, 13, 15, 15, 0, 18, 0, 18, 1, 18, 3, 18, 5, 18, 7, 18, 9, 18, 11, 18, 13, 18, 15]
def wP9 : List Nat := [0, 0, 1, 2, 3, 4, 5, 6, 7, 29, 11, 31, 13, 14, 15, 16, 17, 0, 19, 0, 21, 1, 20, 3, 22, 5, 24, 26, 30, 28, 32, 30, 34, 32, 18, 16]
def wD9 : List Nat := [0, 1, 2, 3, 4, 5, 6, 7, 8, 8, 8, 7, 6, 5, 4, 3, 2, 1, 2, 1, 3, 2, 4, 4, 5, 6, 6, 7, 6, 7, 5, 6, 4, 5, 3, 3]
theorem wok9 : wst 9 9 = wL9 ∧ phiL wL9 = wF9 ∧ chk wL9 wB9 wF9 wV9 wP9 wD9 = true := ⟨by kernel_rfl, by kernel_rfl, by kernel_rfl⟩
theorem wmet9 : metB wL9 = 10 ∧ metB wF9 = 10 ∧ triB wF9 = false := ⟨by kernel_rfl, by kernel_rfl, by kernel_rfl⟩
def cL9 : List Nat := [17, 2, 1, 4, 3, 6, 5, 8, 7, 10, 9, 12, 11, 14, 13, 16, 15, 0]
def cB9 : List Nat := [17, 2, 1, 4, 3, 6, 5, 8, 7, 10, 9, 12, 11, 14, 13, 16, 15, 0]
def cF9 : List Nat := [2, 17, 4, 1, 6, 3, 8, 5, 10, 7, 12, 9, 14, 11, 16, 13, 0, 15]
def cV9 : List Nat := [0, 1, 1, 3, 3, 5, 5, 7, 7, 9, 9, 11, 11, 13, 13, 15, 15, 0]
def cP9 : List Nat := [0, 0, 1, 2, 3, 4, 5, 6, 7, 8, 11, 12, 13, 14, 15, 16, 17, 0]
def cD9 : List Nat := [0, 1, 2, 3, 4, 5, 6, 7, 8, 9, 8, 7, 6, 5, 4, 3, 2, 1]
theorem cok9 : cst 9 9 = cL9 ∧ phiL cL9 = cF9 ∧ chk cL9 cB9 cF9 cV9 cP9 cD9 = true := ⟨by kernel_rfl, by kernel_rfl, by kernel_rfl⟩
theorem cmet9 : metB cL9 = 9 ∧ metB cF9 = 2 ∧ triB cF9 = false := ⟨by kernel_rfl, by kernel_rfl, by kernel_rfl⟩
def wL10 : List Nat := [21, 2, 23, 4, 25, 6, 27, 8, 29, 10, 31, 12, 33, 14, 35, 16, 37, 18, 39, 0, 22, 19, 24, 1, 26, 3, 28, 5, 30, 7, 32, 9, 34, 11, 36, 13, 38, 15, 20, 17]
def wB10 : List Nat := [19, 23, 1, 25, 3, 27, 5, 29, 7, 31, 9, 33, 11, 35, 13, 37, 15, 39, 17, 21, 38, 0, 20, 2, 22, 4, 24, 6, 26, 8, 28, 10, 30, 12, 32, 14, 34, 16, 36, 18]
def wF10 : List Nat := [2, 21, 4, 23, 6, 25, 8, 27, 10, 29, 12, 31, 14, 33, 16, 35, 18, 37, 0, 39, 19, 22, 1, 24, 3, 26, 5, 28, 7, 30, 9, 32, 11, 34, 13, 36, 15, 38, 17, 20]
def wV10 : List Nat := [0, 1, 1, 3, 3, 5, 5, 7, 7, 9, 9, 11, 11, 13, 13, 15, 15, 17, 17, 0, 20, 0, 20, 1, 20, 3, 20, 5, 20, 7, 20, 9, 20, 11, 20, 13, 20, 15, 20, 17]
def wP10 : List Nat := [0, 0, 1, 2, 3, 4, 5, 6, 7, 8, 31, 33, 13, 35, 15, 16, 17, 18, 19, 0, 21, 0, 23, 1, 22, 3, 24, 5, 26, 28, 28, 30, 34, 32, 36, 34, 38, 36, 20, 18]
def wD10 : List Nat := [0, 1, 2, 3, 4, 5, 6, 7, 8, 9, 9, 8, 8, 7, 6, 5, 4, 3, 2, 1, 2, 1, 3, 2, 4, 4, 5, 6, 6, 7, 7, 8, 6, 7, 5, 6, 4, 5, 3, 3]
theorem wok10 : wst 10 10 = wL10 ∧ phiL wL10 = wF10 ∧ chk wL10 wB10 wF10 wV10 wP10 wD10 = true := ⟨by kernel_rfl, by kernel_rfl, by kernel_rfl⟩
theorem wmet10 : metB wL10 = 11 ∧ metB wF10 = 11 ∧ triB wF10 = false := ⟨by kernel_rfl, by kernel_rfl, by kernel_rfl⟩
def cL10 : List Nat := [19, 2, 1, 4, 3, 6, 5, 8, 7, 10, 9, 12, 11, 14, 13, 16, 15, 18, 17, 0]
def cB10 : List Nat := [19, 2, 1, 4, 3, 6, 5, 8, 7, 10, 9, 12, 11, 14, 13, 16, 15, 18, 17, 0]
def cF10 : List Nat := [2, 19, 4, 1, 6, 3, 8, 5, 10, 7, 12, 9, 14, 11, 16, 13, 18, 15, 0, 17]
def cV10 : List Nat := [0, 1, 1, 3, 3, 5, 5, 7, 7, 9, 9, 11, 11, 13, 13, 15, 15, 17, 17, 0]
def cP10 : List Nat := [0, 0, 1, 2, 3, 4, 5, 6, 7, 8, 9, 12, 13, 14, 15, 16, 17, 18, 19, 0]
def cD10 : List Nat := [0, 1, 2, 3, 4, 5, 6, 7, 8, 9, 10, 9, 8, 7, 6, 5, 4, 3, 2, 1]
theorem cok10 : cst 10 10 = cL10 ∧ phiL cL10 = cF10 ∧ chk cL10 cB10 cF10 cV10 cP10 cD10 = true := ⟨by kernel_rfl, by kernel_rfl, by kernel_rfl⟩
theorem cmet10 : metB cL10 = 10 ∧ metB cF10 = 2 ∧ triB cF10 = false := ⟨by kernel_rfl, by kernel_rfl, by kernel_rfl⟩
def wL11 : List Nat := [23, 2, 25, 4, 27, 6, 29, 8, 31, 10, 33, 12, 35, 14, 37, 16, 39, 18, 41, 20, 43, 0, 24, 21, 26, 1, 28, 3, 30, 5, 32, 7, 34, 9, 36, 11, 38, 13, 40, 15, 42, 17, 22, 19]
def wB11 : List Nat := [21, 25, 1, 27, 3, 29, 5, 31, 7, 33, 9, 35, 11, 37, 13, 39, 15, 41, 17, 43, 19, 23, 42, 0, 22, 2, 24, 4, 26, 6, 28, 8, 30, 10, 32, 12, 34, 14, 36, 16, 38, 18, 40, 20]
def wF11 : List Nat := [2, 23, 4, 25, 6, 27, 8, 29, 10, 31, 12, 33, 14, 35, 16, 37, 18, 39, 20, 41, 0, 43, 21, 24, 1, 26, 3, 28, 5, 30, 7, 32, 9, 34, 11, 36, 13, 38, 15, 40, 17, 42, 19, 22]
def wV11 : List Nat := [0, 1, 1, 3, 3, 5, 5, 7, 7, 9, 9, 11, 11, 13, 13, 15, 15, 17, 17, 19, 19, 0, 22, 0, 22, 1, 22, 3, 22, 5, 22, 7, 22, 9, 22, 11, 22, 13, 22, 15, 22, 17, 22, 19]
def wP11 : List Nat := [0, 0, 1, 2, 3, 4, 5, 6, 7, 8, 33, 35, 13, 37, 15, 39, 17, 18, 19, 20, 21, 0, 23, 0, 25, 1, 24, 3, 26, 5, 28, 30, 30, 32, 36, 34, 38, 36, 40, 38, 42, 40, 22, 20]
def wD11 : List Nat := [0, 1, 2, 3, 4, 5, 6, 7, 8, 9, 9, 9, 9, 8, 8, 7, 6, 5, 4, 3, 2, 1, 2, 1, 3, 2, 4, 4, 5, 6, 6, 7, 7, 8, 7, 8, 6, 7, 5, 6, 4, 5, 3, 3]
theorem wok11 : wst 11 11 = wL11 ∧ phiL wL11 = wF11 ∧ chk wL11 wB11 wF11 wV11 wP11 wD11 = true := ⟨by kernel_rfl, by kernel_rfl, by kernel_rfl⟩
theorem wmet11 : metB wL11 = 12 ∧ metB wF11 = 12 ∧ triB wF11 = false := ⟨by kernel_rfl, by kernel_rfl, by kernel_rfl⟩
def cL11 : List Nat := [21, 2, 1, 4, 3, 6, 5, 8, 7, 10, 9, 12, 11, 14, 13, 16, 15, 18, 17, 20, 19, 0]
def cB11 : List Nat := [21, 2, 1, 4, 3, 6, 5, 8, 7, 10, 9, 12, 11, 14, 13, 16, 15, 18, 17, 20, 19, 0]
def cF11 : List Nat := [2, 21, 4, 1, 6, 3, 8, 5, 10, 7, 12, 9, 14, 11, 16, 13, 18, 15, 20, 17, 0, 19]
def cV11 : List Nat := [0, 1, 1, 3, 3, 5, 5, 7, 7, 9, 9, 11, 11, 13, 13, 15, 15, 17, 17, 19, 19, 0]
def cP11 : List Nat := [0, 0, 1, 2, 3, 4, 5, 6, 7, 8, 9, 10, 13, 14, 15, 16, 17, 18, 19, 20, 21, 0]
def cD11 : List Nat := [0, 1, 2, 3, 4, 5, 6, 7, 8, 9, 10, 11, 10, 9, 8, 7, 6, 5, 4, 3, 2, 1]
theorem cok11 : cst 11 11 = cL11 ∧ phiL cL11 = cF11 ∧ chk cL11 cB11 cF11 cV11 cP11 cD11 = true := ⟨by kernel_rfl, by kernel_rfl, by kernel_rfl⟩
theorem cmet11 : metB cL11 = 11 ∧ metB cF11 = 2 ∧ triB cF11 = false := ⟨by kernel_rfl, by kernel_rfl, by kernel_rfl⟩
def wL12 : List Nat := [25, 2, 27, 4, 29, 6, 31, 8, 33, 10, 35, 12, 37, 14, 39, 16, 41, 18, 43, 20, 45, 22, 47, 0, 26, 23, 28, 1, 30, 3, 32, 5, 34, 7, 36, 9, 38, 11, 40, 13, 42, 15, 44, 17, 46, 19, 24, 21]
def wB12 : List Nat := [23, 27, 1, 29, 3, 31, 5, 33, 7, 35, 9, 37, 11, 39, 13, 41, 15, 43, 17, 45, 19, 47, 21, 25, 46, 0, 24, 2, 26, 4, 28, 6, 30, 8, 32, 10, 34, 12, 36, 14, 38, 16, 40, 18, 42, 20, 44, 22]
def wF12 : List Nat := [2, 25, 4, 27, 6, 29, 8, 31, 10, 33, 12, 35, 14, 37, 16, 39, 18, 41, 20, 43, 22, 45, 0, 47, 23, 26, 1, 28, 3, 30, 5, 32, 7, 34, 9, 36, 11, 38, 13, 40, 15, 42, 17, 44, 19, 46, 21, 24]
def wV12 : List Nat := [0, 1, 1, 3, 3, 5, 5, 7, 7, 9, 9, 11, 11, 13, 13, 15, 15, 17, 17, 19, 19, 21, 21, 0, 24, 0, 24, 1, 24, 3, 24, 5, 24, 7, 24, 9, 24, 11, 24, 13, 24, 15, 24, 17, 24, 19, 24, 21]
def wP12 : List Nat := [0, 0, 1, 2, 3, 4, 5, 6, 7, 8, 35, 10, 37, 39, 15, 41, 17, 43, 19, 20, 21, 22, 23, 0, 25, 0, 27, 1, 26, 3, 28, 5, 30, 32, 32, 34, 34, 36, 40, 38, 42, 40, 44, 42, 46, 44, 24, 22]
def wD12 : List Nat := [0, 1, 2, 3, 4, 5, 6, 7, 8, 9, 9, 10, 10, 9, 9, 8, 8, 7, 6, 5, 4, 3, 2, 1, 2, 1, 3, 2, 4, 4, 5, 6, 6, 7, 7, 8, 8, 9, 7, 8, 6, 7, 5, 6, 4, 5, 3, 3]
theorem wok12 : wst 12 12 = wL12 ∧ phiL wL12 = wF12 ∧ chk wL12 wB12 wF12 wV12 wP12 wD12 = true := ⟨by kernel_rfl, by kernel_rfl, by kernel_rfl⟩
theorem wmet12 : metB wL12 = 13 ∧ metB wF12 = 13 ∧ triB wF12 = false := ⟨by kernel_rfl, by kernel_rfl, by kernel_rfl⟩
def cL12 : List Nat := [23, 2, 1, 4, 3, 6, 5, 8, 7, 10, 9, 12, 11, 14, 13, 16, 15, 18, 17, 20, 19, 22, 21, 0]
def cB12 : List Nat := [23, 2, 1, 4, 3, 6, 5, 8, 7, 10, 9, 12, 11, 14, 13, 16, 15, 18, 17, 20, 19, 22, 21, 0]
def cF12 : List Nat := [2, 23, 4, 1, 6, 3, 8, 5, 10, 7, 12, 9, 14, 11, 16, 13, 18, 15, 20, 17, 22, 19, 0, 21]
def cV12 : List Nat := [0, 1, 1, 3, 3, 5, 5, 7, 7, 9, 9, 11, 11, 13, 13, 15, 15, 17, 17, 19, 19, 21, 21, 0]
def cP12 : List Nat := [0, 0, 1, 2, 3, 4, 5, 6, 7, 8, 9, 10, 11, 14, 15, 16, 17, 18, 19, 20, 21, 22, 23, 0]
def cD12 : List Nat := [0, 1, 2, 3, 4, 5, 6, 7, 8, 9, 10, 11, 12, 11, 10, 9, 8, 7, 6, 5, 4, 3, 2, 1]
theorem cok12 : cst 12 12 = cL12 ∧ phiL cL12 = cF12 ∧ chk cL12 cB12 cF12 cV12 cP12 cD12 = true := ⟨by kernel_rfl, by kernel_rfl, by kernel_rfl⟩
theorem cmet12 : metB cL12 = 12 ∧ metB cF12 = 2 ∧ triB cF12 = false := ⟨by kernel_rfl, by kernel_rfl, by kernel_rfl⟩
def wL13 : List Nat := [27, 2, 29, 4, 31, 6, 33, 8, 35, 10, 37, 12, 39, 14, 41, 16, 43, 18, 45, 20, 47, 22, 49, 24, 51, 0, 28, 25, 30, 1, 32, 3, 34, 5, 36, 7, 38, 9, 40, 11, 42, 13, 44, 15, 46, 17, 48, 19, 50, 21, 26, 23]
def wB13 : List Nat := [25, 29, 1, 31, 3, 33, 5, 35, 7, 37, 9, 39, 11, 41, 13, 43, 15, 45, 17, 47, 19, 49, 21, 51, 23, 27, 50, 0, 26, 2, 28, 4, 30, 6, 32, 8, 34, 10, 36, 12, 38, 14, 40, 16, 42, 18, 44, 20, 46, 22, 48, 24]
def wF13 : List Nat := [2, 27, 4, 29, 6, 31, 8, 33, 10, 35, 12, 37, 14, 39, 16, 41, 18, 43, 20, 45, 22, 47, 24, 49, 0, 51, 25, 28, 1, 30, 3, 32, 5, 34, 7, 36, 9, 38, 11, 40, 13, 42, 15, 44, 17, 46, 19, 48, 21, 50, 23, 26]
def wV13 : List Nat := [0, 1, 1, 3, 3, 5, 5, 7, 7, 9, 9, 11, 11, 13, 13, 15, 15, 17, 17, 19, 19, 21, 21, 23, 23, 0, 26, 0, 26, 1, 26, 3, 26, 5, 26, 7, 26, 9, 26, 11, 26, 13, 26, 15, 26, 17, 26, 19, 26, 21, 26, 23]
def wP13 : List Nat := [0, 0, 1, 2, 3, 4, 5, 6, 7, 8, 37, 10, 39, 41, 15, 43, 17, 45, 19, 47, 21, 22, 23, 24, 25, 0, 27, 0, 29, 1, 28, 3, 30, 5, 32, 34, 34, 36, 36, 38, 42, 40, 44, 42, 46, 44, 48, 46, 50, 48, 26, 24]
def wD13 : List Nat := [0, 1, 2, 3, 4, 5, 6, 7, 8, 9, 9, 10, 10, 10, 10, 9, 9, 8, 8, 7, 6, 5, 4, 3, 2, 1, 2, 1, 3, 2, 4, 4, 5, 6, 6, 7, 7, 8, 8, 9, 8, 9, 7, 8, 6, 7, 5, 6, 4, 5, 3, 3]
theorem wok13 : wst 13 13 = wL13 ∧ phiL wL13 = wF13 ∧ chk wL13 wB13 wF13 wV13 wP13 wD13 = true := ⟨by kernel_rfl, by kernel_rfl, by kernel_rfl⟩
theorem wmet13 : metB wL13 = 14 ∧ metB wF13 = 14 ∧ triB wF13 = false := ⟨by kernel_rfl, by kernel_rfl, by kernel_rfl⟩
def cL13 : List Nat := [25, 2, 1, 4, 3, 6, 5, 8, 7, 10, 9, 12, 11, 14, 13, 16, 15, 18, 17, 20, 19, 22, 21, 24, 23, 0]
def cB13 : List Nat := [25, 2, 1, 4, 3, 6, 5, 8, 7, 10, 9, 12, 11, 14, 13, 16, 15, 18, 17, 20, 19, 22, 21, 24, 23, 0]
def cF13 : List Nat := [2, 25, 4, 1, 6, 3, 8, 5, 10, 7, 12, 9, 14, 11, 16, 13, 18, 15, 20, 17, 22, 19, 24, 21, 0, 23]
def cV13 : List Nat := [0, 1, 1, 3, 3, 5, 5, 7, 7, 9, 9, 11, 11, 13, 13, 15, 15, 17, 17, 19, 19, 21, 21, 23, 23, 0]
def cP13 : List Nat := [0, 0, 1, 2, 3, 4, 5, 6, 7, 8, 9, 10, 11, 12, 15, 16, 17, 18, 19, 20, 21, 22, 23, 24, 25, 0]
def cD13 : List Nat := [0, 1, 2, 3, 4, 5, 6, 7, 8, 9, 10, 11, 12, 13, 12, 11, 10, 9, 8, 7, 6, 5, 4, 3, 2, 1]
theorem cok13 : cst 13 13 = cL13 ∧ phiL cL13 = cF13 ∧ chk cL13 cB13 cF13 cV13 cP13 cD13 = true := ⟨by kernel_rfl, by kernel_rfl, by kernel_rfl⟩
theorem cmet13 : metB cL13 = 13 ∧ metB cF13 = 2 ∧ triB cF13 = false := ⟨by kernel_rfl, by kernel_rfl, by kernel_rfl⟩
def wL14 : List Nat := [29, 2, 31, 4, 33, 6, 35, 8, 37, 10, 39, 12, 41, 14, 43, 16, 45, 18, 47, 20, 49, 22, 51, 24, 53, 26, 55, 0, 30, 27, 32, 1, 34, 3, 36, 5, 38, 7, 40, 9, 42, 11, 44, 13, 46, 15, 48, 17, 50, 19, 52, 21, 54, 23, 28, 25]
def wB14 : List Nat := [27, 31, 1, 33, 3, 35, 5, 37, 7, 39, 9, 41, 11, 43, 13, 45, 15, 47, 17, 49, 19, 51, 21, 53, 23, 55, 25, 29, 54, 0, 28, 2, 30, 4, 32, 6, 34, 8, 36, 10, 38, 12, 40, 14, 42, 16, 44, 18, 46, 20, 48, 22, 50, 24, 52, 26]
def wF14 : List Nat := [2, 29, 4, 31, 6, 33, 8, 35, 10, 37, 12, 39, 14, 41, 16, 43, 18, 45, 20, 47, 22, 49, 24, 51, 26, 53, 0, 55, 27, 30, 1, 32, 3, 34, 5, 36, 7, 38, 9, 40, 11, 42, 13, 44, 15, 46, 17, 48, 19, 50, 21, 52, 23, 54, 25, 28]
def wV14 : List Nat := [0, 1, 1, 3, 3, 5, 5, 7, 7, 9, 9, 11, 11, 13, 13, 15, 15, 17, 17, 19, 19, 21, 21, 23, 23, 25, 25, 0, 28, 0, 28, 1, 28, 3, 28, 5, 28, 7, 28, 9, 28, 11, 28, 13, 28, 15, 28, 17, 28, 19, 28, 21, 28, 23, 28, 25]
def wP14 : List Nat := [0, 0, 1, 2, 3, 4, 5, 6, 7, 8, 39, 10, 41, 12, 43, 45, 17, 47, 19, 49, 21, 51, 23, 24, 25, 26, 27, 0, 29, 0, 31, 1, 30, 3, 32, 5, 34, 36, 36, 38, 38, 40, 40, 42, 46, 44, 48, 46, 50, 48, 52, 50, 54, 52, 28, 26]
def wD14 : List Nat := [0, 1, 2, 3, 4, 5, 6, 7, 8, 9, 9, 10, 10, 11, 11, 10, 10, 9, 9, 8, 8, 7, 6, 5, 4, 3, 2, 1, 2, 1, 3, 2, 4, 4, 5, 6, 6, 7, 7, 8, 8, 9, 9, 10, 8, 9, 7, 8, 6, 7, 5, 6, 4, 5, 3, 3]
theorem wok14 : wst 14 14 = wL14 ∧ phiL wL14 = wF14 ∧ chk wL14 wB14 wF14 wV14 wP14 wD14 = true := ⟨by kernel_rfl, by kernel_rfl, by kernel_rfl⟩
theorem wmet14 : metB wL14 = 15 ∧ metB wF14 = 15 ∧ triB wF14 = false := ⟨by kernel_rfl, by kernel_rfl, by kernel_rfl⟩
def cL14 : List Nat := [27, 2, 1, 4, 3, 6, 5, 8, 7, 10, 9, 12, 11, 14, 13, 16, 15, 18, 17, 20, 19, 22, 21, 24, 23, 26, 25, 0]
def cB14 : List Nat := [27, 2, 1, 4, 3, 6, 5, 8, 7, 10, 9, 12, 11, 14, 13, 16, 15, 18, 17, 20, 19, 22, 21, 24, 23, 26, 25, 0]
def cF14 : List Nat := [2, 27, 4, 1, 6, 3, 8, 5, 10, 7, 12, 9, 14, 11, 16, 13, 18, 15, 20, 17, 22, 19, 24, 21, 26, 23, 0, 25]
def cV14 : List Nat := [0, 1, 1, 3, 3, 5, 5, 7, 7, 9, 9, 11, 11, 13, 13, 15, 15, 17, 17, 19, 19, 21, 21, 23, 23, 25, 25, 0]
def cP14 : List Nat := [0, 0, 1, 2, 3, 4, 5, 6, 7, 8, 9, 10, 11, 12, 13, 16, 17, 18, 19, 20, 21, 22, 23, 24, 25, 26, 27, 0]
def cD14 : List Nat := [0, 1, 2, 3, 4, 5, 6, 7, 8, 9, 10, 11, 12, 13, 14, 13, 12, 11, 10, 9, 8, 7, 6, 5, 4, 3, 2, 1]
theorem cok14 : cst 14 14 = cL14 ∧ phiL cL14 = cF14 ∧ chk cL14 cB14 cF14 cV14 cP14 cD14 = true := ⟨by kernel_rfl, by kernel_rfl, by kernel_rfl⟩
theorem cmet14 : metB cL14 = 14 ∧ metB cF14 = 2 ∧ triB cF14 = false := ⟨by kernel_rfl, by kernel_rfl, by kernel_rfl⟩
theorem wheel_all (n : Nat) (h1 : 3 ≤ n) (h2 : n < 15) : WFacts (wst n n) n (n + 1) (n + 1) ∧ WFacts (cst n n) n n 2 := by
  obtain rfl | rfl | rfl | rfl | rfl | rfl | rfl | rfl | rfl | rfl | rfl | rfl : n = 3 ∨ n = 4 ∨ n = 5 ∨ n = 6 ∨ n = 7 ∨ n = 8 ∨ n = 9 ∨ n = 10 ∨ n = 11 ∨ n = 12 ∨ n = 13 ∨ n = 14 := by omega
  · exact ⟨facts_of wok3 wmet3 (by decide) (by decide) (by decide), facts_of cok3 cmet3 (by decide) (by decide) (by decide)⟩
  · exact ⟨facts_of wok4 wmet4 (by decide) (by decide) (by decide), facts_of cok4 cmet4 (by decide) (by decide) (by decide)⟩
  · exact ⟨facts_of wok5 wmet5 (by decide) (by decide) (by decide), facts_of cok5 cmet5 (by decide) (by decide) (by decide)⟩
  · exact ⟨facts_of wok6 wmet6 (by decide) (by decide) (by decide), facts_of cok6 cmet6 (by decide) (by decide) (by decide)⟩
  · exact ⟨facts_of wok7 wmet7 (by decide) (by decide) (by decide), facts_of cok7 cmet7 (by decide) (by decide) (by decide)⟩
  · exact ⟨facts_of wok8 wmet8 (by decide) (by decide) (by decide), facts_of cok8 cmet8 (by decide) (by decide) (by decide)⟩
  · exact ⟨facts_of wok9 wmet9 (by decide) (by decide) (by decide), facts_of cok9 cmet9 (by decide) (by decide) (by decide)⟩
  · exact ⟨facts_of wok10 wmet10 (by decide) (by decide) (by decide), facts_of cok10 cmet10 (by decide) (by decide) (by decide)⟩
  · exact ⟨facts_of wok11 wmet11 (by decide) (by decide) (by decide), facts_of cok11 cmet11 (by decide) (by decide) (by decide)⟩
  · exact ⟨facts_of wok12 wmet12 (by decide) (by decide) (by decide), facts_of cok12 cmet12 (by decide) (by decide) (by decide)⟩
  · exact ⟨facts_of wok13 wmet13 (by decide) (by decide) (by decide), facts_of cok13 cmet13 (by decide) (by decide) (by decide)⟩
  · exact ⟨facts_of wok14 wmet14 (by decide) (by decide) (by decide), facts_of cok14 cmet14 (by decide) (by decide) (by decide)⟩
end Go.Proofs.Ytpplhooojfchpaa
