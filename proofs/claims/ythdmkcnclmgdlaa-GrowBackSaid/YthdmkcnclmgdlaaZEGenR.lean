/- How many vertices, faces and parts a list has, reckoned. The parts together: sums. Doubles of euler: edges between the same two vertices. Doubles, Simple, Triangulation of euler: the walks. The document's Genus; a tree's edges. -/
import Derived.Test.YthdmkcnclmgdlaaZEPartsW
import Derived.Test.YthdmkcnclmgdlaaZERow5
import Derived.Maps.OwnOps
import Derived.Maps.Views
import Derived.Maps.Keyed
import Derived.WideKeyEntry
import Derived.DeepKeys4
import Derived.Deep.RegionWith
namespace Go.Proofs.Ythdmkcnclmgdlaa
set_option maxRecDepth 20000
open Go.RowKit
set_option linter.unusedVariables false
def goB (l : List Nat) (d : Nat) : Nat → Nat → Bool
  | 0, _ => true
  | f + 1, x => if x < d then false else goB l d f (l.getD x 0)
def leadB (l : List Nat) (d : Nat) : Bool := goB l d l.length d
/-- How many orbits. -/
def metB (l : List Nat) : Nat := ((List.range l.length).filter (leadB l)).length
theorem goB_iff (l : List Nat) (d : Nat) : ∀ f x, goB l d f x = true ↔ ∀ k, k < f → d ≤ itf (sgL l) k x
  | 0, x => ⟨fun _ k h => absurd h (by omega), fun _ => rfl⟩
  | f + 1, x => by
    unfold goB
    by_cases h : x < d
    · rw [if_pos h]
      constructor
      · intro c; cases c
      · intro c; have := c 0 (by omega); have e : itf (sgL l) 0 x = x := rfl; omega
    · rw [if_neg h, goB_iff l d f]
      constructor
      · intro c k hk
        cases k with
        | zero => show d ≤ x; omega
        | succ k => rw [itf_succ]; exact c k (by omega)
      · intro c k hk
        have := c (k + 1) (by omega)
        rwa [itf_succ] at this
section
variable {l b : List Nat}
theorem leadB_iff (h : Inv l b) {d : Nat} (hd : d < l.length) : leadB l d = true ↔ Leads l d := by
  unfold leadB
  rw [goB_iff, leads_orb h hd]
  constructor
  · intro H x hx
    have hx' : x ∈ way l d (per l d) := hx
    obtain ⟨j, hj, e⟩ := mem_way.1 hx'
    have hp := per_le h hd
    have := H j (by omega)
    rw [sgL_it, e] at this
    exact this
  · intro H k _
    have := H (itf (sgL l) k d) ((mem_orb h hd).2 ⟨k, by rw [sgL_it]⟩)
    exact this
theorem met_is (h : Inv l b) : met l l.length = metB l := by
  unfold met leads metB
  congr 1
  apply List.filter_congr
  intro d hd
  have hd : d < l.length := by simpa using hd
  rw [Bool.eq_iff_iff, leadB_iff h hd, decide_eq_true_iff]
theorem sizes_is (h : Inv l b) : (sizes l).length = metB l := by
  unfold sizes; rw [sizesTo_len, met_is h]
theorem num_leads (h : Inv l b) : num (fun d => Leads l d) l.length = metB l := by
  unfold num metB
  congr 1
  apply List.filter_congr
  intro d hd
  have hd : d < l.length := by simpa using hd
  rw [Bool.eq_iff_iff, leadB_iff h hd, decide_eq_true_iff]
end
/-- Those that are seen to be together with 0. -/
def nearB (l : List Nat) (v : List Bool) : List Bool := (List.range l.length).map fun d => v.getD d false || v.getD (mt d) false || v.getD (l.getD d 0) false
def nearsB (l : List Nat) : Nat → List Bool
  | 0 => (List.range l.length).map fun d => d == 0
  | k + 1 => nearB l (nearsB l k)
def oneB (l : List Nat) (k : Nat) : Bool := (List.range l.length).all fun d => (nearsB l k).getD d false
theorem map_rangeB (f : Nat → Bool) (n i : Nat) : ((List.range n).map f).getD i false = (decide (i < n) && f i) := by
  by_cases h : i < n
  · simp [List.getD_eq_getElem?_getD, h]
  · have : (List.map f (List.range n))[i]? = none := by rw [List.getElem?_eq_none_iff]; simpa using h
    rw [List.getD_eq_getElem?_getD, this]
    simp [h]
section
variable {l b : List Nat}
theorem nearsB_ok (h : Inv l b) (he : l.length % 2 = 0) : ∀ k d, (nearsB l k).getD d false = true → d < l.length ∧ part l 0 d
  | 0, d, e => by
    unfold nearsB at e
    rw [map_rangeB] at e
    simp at e
    obtain ⟨e1, e2⟩ := e
    subst e2
    exact ⟨e1, (part_eqv h he).refl 0 e1⟩
  | k + 1, d, e => by
    have hq := part_eqv h he
    have hpf := sgL_pf h
    unfold nearsB nearB at e
    rw [map_rangeB] at e
    simp only [Bool.and_eq_true, Bool.or_eq_true, decide_eq_true_iff] at e
    obtain ⟨hd, e⟩ := e
    refine ⟨hd, ?_⟩
    rcases e with (e | e) | e
    · exact (nearsB_ok h he k d e).2
    · obtain ⟨h1, h2⟩ := nearsB_ok h he k _ e
      exact hq.trans _ _ _ (by omega) h1 hd h2 (hq.symm _ _ hd h1 (gk_mt hpf (by omega) d hd))
    · obtain ⟨h1, h2⟩ := nearsB_ok h he k _ e
      exact hq.trans _ _ _ (by omega) h1 hd h2 (hq.symm _ _ hd h1 (gk_sig hpf d _))
theorem oneB_ok (h : Inv l b) (he : l.length % 2 = 0) {k : Nat} (e : oneB l k = true) : ∀ d, d < l.length → part l 0 d := fun d hd => by
  unfold oneB at e
  rw [List.all_eq_true] at e
  exact (nearsB_ok h he k d (e d (by simpa using hd))).2
theorem num_even (n : Nat) : num (fun d => d % 2 = 0) (2 * n) = n := by
  induction n with
  | zero => rfl
  | succ n ih =>
    rw [show 2 * (n + 1) = 2 * n + 1 + 1 by omega, (num_next _ (2 * n + 1)).2 (by omega), (num_next _ (2 * n)).1 (by omega), ih]
/-- A map of one part. -/
theorem one_part (h : Inv l b) (he : l.length % 2 = 0) (h0 : 0 < l.length) (H : ∀ d, d < l.length → part l 0 d) :
    pN l = 1 ∧ metB l + metB (phiL l) + 2 * genusN l = l.length / 2 + 2 := by
  have hq := part_eqv h he
  have hp := phi_inv h he
  have h1 : pN l = 1 := by
    unfold pN pn
    exact cls_one hq h0 fun i hi => ⟨fun _ => H i hi, fun _ => trivial⟩
  refine ⟨h1, ?_⟩
  have hpq : ∀ d, d < l.length → pq l d = 0 := fun d hd => by
    have := pq_lt h he hd hd
    have := pq_lt h he hd (show d < d + 1 by omega)
    have := pn_mono (part l) (show d + 1 ≤ l.length by omega)
    have : pn (part l) l.length = 1 := h1
    omega
  obtain ⟨G, hG, hE⟩ := pG_is h he hp (j := 0) (by rw [h1]; omega)
  have eV : pV l 0 l.length = metB l := by
    rw [← num_leads h]
    exact num_congr fun d hd => ⟨fun x => x.2, fun x => ⟨hpq d hd, x⟩⟩
  have eB : pB l 0 l.length = metB (phiL l) := by
    rw [← num_leads hp, phiL_len]
    exact num_congr fun d hd => ⟨fun x => x.2, fun x => ⟨hpq d hd, x⟩⟩
  have eE : pE l 0 l.length = l.length / 2 := by
    have : pE l 0 l.length = num (fun d => d % 2 = 0) l.length := num_congr fun d hd => ⟨fun x => x.2, fun x => ⟨hpq d hd, x⟩⟩
    rw [this]
    have := num_even (l.length / 2)
    rwa [show 2 * (l.length / 2) = l.length by omega] at this
  have eg : genusN l = G := by
    unfold genusN
    rw [h1]
    unfold genusTo pgen
    simp [h1, hG]
  rw [eV, eB, eE] at hE
  rw [eg]; exact hE
end
end Go.Proofs.Ythdmkcnclmgdlaa
namespace Go.Proofs.Ythdmkcnclmgdlaa
set_option maxRecDepth 20000
open Go.RowKit
set_option linter.unusedVariables false
noncomputable def sumN (f : Nat → Nat) (p : Nat) : Nat := ((List.range p).map f).sum
theorem sumN_next (f : Nat → Nat) (p : Nat) : sumN f (p + 1) = sumN f p + f p := by unfold sumN; rw [List.range_succ, List.map_append, List.sum_append]; simp
theorem sumN_congr {f g : Nat → Nat} : ∀ {p : Nat}, (∀ j, j < p → f j = g j) → sumN f p = sumN g p
  | 0, _ => rfl
  | p + 1, h => by rw [sumN_next, sumN_next, sumN_congr fun j hj => h j (by omega), h p (by omega)]
theorem sumN_inc {f g : Nat → Nat} {q : Nat} (hq : g q = f q + 1) (h : ∀ j, j ≠ q → g j = f j) : ∀ p, q < p → sumN g p = sumN f p + 1
  | 0, hp => absurd hp (by omega)
  | p + 1, hp => by
    rw [sumN_next, sumN_next]
    by_cases e : q = p
    · subst e
      rw [hq, sumN_congr (g := f) fun j hj => h j (by omega)]; omega
    · rw [sumN_inc hq h p (by omega), h p (fun c => e c.symm)]; omega
theorem sumN_zero (p : Nat) : sumN (fun _ => 0) p = 0 := by
  induction p with
  | zero => rfl
  | succ p ih => rw [sumN_next, ih]
theorem sum_parts {l : List Nat} {p n : Nat} (hp : ∀ d, d < n → pq l d < p) (S : Nat → Prop) : ∀ k, k ≤ n → sumN (fun j => num (fun d => pq l d = j ∧ S d) k) p = num S k
  | 0, _ => by
    have : ∀ Q : Nat → Prop, num Q 0 = 0 := fun Q => rfl
    rw [this]
    exact (sumN_congr fun j _ => this _).trans (sumN_zero p)
  | k + 1, hk => by
    have ih := sum_parts hp S k (by omega)
    by_cases s : S k
    · rw [(num_next S k).1 s, ← ih]
      exact sumN_inc (q := pq l k) ((num_next _ k).1 ⟨rfl, s⟩) (fun j hj => (num_next _ k).2 fun x => hj x.1.symm) p (hp k (by omega))
    · rw [(num_next S k).2 s, ← ih]
      exact sumN_congr fun j _ => (num_next _ k).2 fun x => s x.2
noncomputable def vcell (l : List Nat) (j : Nat) : Nat := if j < pN l then pV l j l.length else 1
noncomputable def ecell (l : List Nat) (j : Nat) : Nat := if j < pN l then pE l j l.length else 0
noncomputable def bcell (l : List Nat) (j : Nat) : Nat := if j < pN l then pB l j l.length else 1
theorem cell_1 (l : List Nat) (j : Nat) : pcL l (5 * j + 1) = vcell l j := by
  unfold pcL vcell
  rw [show (5 * j + 1) / 5 = j by omega, pc_1, if_neg (show ¬ (5 * j + 1) % 5 = 0 by omega), if_pos (show (5 * j + 1) % 5 = 1 by omega)]
  split <;> rfl
theorem cell_2 (l : List Nat) (j : Nat) : pcL l (5 * j + 2) = ecell l j := by
  unfold pcL ecell
  rw [show (5 * j + 2) / 5 = j by omega, pc_2, if_neg (show ¬ (5 * j + 2) % 5 = 0 by omega), if_neg (show ¬ (5 * j + 2) % 5 = 1 by omega), if_neg (show ¬ (5 * j + 2) % 5 = 3 by omega)]
  split <;> rfl
theorem cell_3 (l : List Nat) (j : Nat) : pcL l (5 * j + 3) = bcell l j := by
  unfold pcL bcell
  rw [show (5 * j + 3) / 5 = j by omega, pc_3, if_neg (show ¬ (5 * j + 3) % 5 = 0 by omega), if_neg (show ¬ (5 * j + 3) % 5 = 1 by omega), if_pos (show (5 * j + 3) % 5 = 3 by omega)]
  split <;> rfl
section
variable {l b : List Nat}
theorem cell_euler (h : Inv l b) (he : l.length % 2 = 0) (j : Nat) : vcell l j + bcell l j + 2 * pgen l j = ecell l j + 2 ∧ vcell l j ≤ l.length + 1 ∧ bcell l j ≤ l.length + 1 ∧ ecell l j ≤ l.length := by
  unfold vcell bcell ecell pgen
  by_cases hj : j < pN l
  · rw [if_pos hj, if_pos hj, if_pos hj, if_pos hj]
    obtain ⟨G, hG, hE⟩ := pG_is h he (phi_inv h he) hj
    rw [hG]
    have := pV_le l j l.length
    have := pE_le l j l.length
    have := pB_le l j l.length
    exact ⟨by simpa using hE, by omega, by omega, by omega⟩
  · rw [if_neg hj, if_neg hj, if_neg hj, if_neg hj]
    exact ⟨rfl, by omega, by omega, by omega⟩
theorem sum_lone {f : Nat → Nat} {p q : Nat} (h : ∀ j, p ≤ j → f j = q) : ∀ c, sumN f (p + c) = sumN f p + q * c
  | 0 => by simp
  | c + 1 => by rw [← Nat.add_assoc, sumN_next, sum_lone h c, h _ (by omega), Nat.mul_add]; omega
theorem sum_v (h : Inv l b) (he : l.length % 2 = 0) (c : Nat) : sumN (vcell l) (pN l + c) = (sizes l).length + c := by
  rw [sum_lone (q := 1) (fun j hj => by unfold vcell; rw [if_neg (by omega)]), Nat.one_mul]
  congr 1
  rw [sumN_congr (g := fun j => num (fun d => pq l d = j ∧ Leads l d) l.length) (fun j hj => by unfold vcell; rw [if_pos hj]; rfl), sum_parts (p := pN l) (n := l.length) (fun d hd => pq_lt h he hd hd) _ _ (Nat.le_refl _), num_leads h, sizes_is h]
theorem sum_b (h : Inv l b) (he : l.length % 2 = 0) (c : Nat) : sumN (bcell l) (pN l + c) = (sizes (phiL l)).length + c := by
  have hp := phi_inv h he
  rw [sum_lone (q := 1) (fun j hj => by unfold bcell; rw [if_neg (by omega)]), Nat.one_mul]
  congr 1
  have e := num_leads hp
  rw [phiL_len] at e
  rw [sumN_congr (g := fun j => num (fun d => pq l d = j ∧ Leads (phiL l) d) l.length) (fun j hj => by unfold bcell; rw [if_pos hj]; rfl), sum_parts (p := pN l) (n := l.length) (fun d hd => pq_lt h he hd hd) _ _ (Nat.le_refl _), e, sizes_is hp]
theorem sum_e (h : Inv l b) (he : l.length % 2 = 0) (c : Nat) : sumN (ecell l) (pN l + c) = l.length / 2 := by
  rw [sum_lone (q := 0) (fun j hj => by unfold ecell; rw [if_neg (by omega)]), Nat.zero_mul, Nat.add_zero]
  rw [sumN_congr (g := fun j => num (fun d => pq l d = j ∧ d % 2 = 0) l.length) (fun j hj => by unfold ecell; rw [if_pos hj]; rfl), sum_parts (p := pN l) (n := l.length) (fun d hd => pq_lt h he hd hd) _ _ (Nat.le_refl _)]
  have := num_even (l.length / 2)
  rwa [show 2 * (l.length / 2) = l.length by omega] at this
end
theorem sumN_le {f : Nat → Nat} {m : Nat} (h : ∀ j, f j ≤ m) : ∀ p, sumN f p ≤ p * m
  | 0 => by simp [sumN]
  | p + 1 => by rw [sumN_next, Nat.add_mul, Nat.one_mul]; have := sumN_le h p; have := h p; omega
end Go.Proofs.Ythdmkcnclmgdlaa
namespace Go.Proofs.Ythdmkcnclmgdlaa
set_option maxRecDepth 20000
open Go.RowKit Go.Maps
set_option linter.unusedVariables false
/-- How many of the first k edges are between a and c. -/
noncomputable def prN (l : List Nat) (a c k : Nat) : Nat := num (fun e => lowE l e = a ∧ highE l e = c) k
/-- How many of the first k edges, that are no loops, have one between the same two ahead. -/
noncomputable def dblN (l : List Nat) (k : Nat) : Nat := num (fun e => lowE l e ≠ highE l e ∧ 0 < prN l (lowE l e) (highE l e) e) k
def kP (a c : Nat) : Lit := .string (keyBytes [.int .i64 (a : Int), .int .i64 (c : Int)])
theorem wf_small (a : Nat) (h : a ≤ 1000000) : (Lit.int .i64 (a : Int)).wf = true := by simp [Lit.wf, IntKind.min, IntKind.max, IntKind.bits, IntKind.signed]; omega
theorem pdeep : Try.prog.keyType 117 = true := by kernel_rfl
theorem pcells : Try.prog.cellsOf 117 = 2 := by kernel_rfl
theorem icells : Try.prog.cellsOf 3 = 1 := by kernel_rfl
theorem psize : ∃ m, Try.prog.types.size = m + 1 := ⟨Try.prog.types.size - 1, by kernel_rfl⟩
theorem pkey (a c : Nat) (ha : a ≤ 1000000) (hc : c ≤ 1000000) : keyOf Try.prog 117 (.agg #[.int .i64 (a : Int), .int .i64 (c : Int)]) = some (kP a c) := by
  have hd := pdeep
  obtain ⟨m, hm⟩ := psize
  unfold keyOf
  simp only [Try.underlying117]
  rw [if_pos (by simp [hd, Value.formed, Try.underlying117, pcells]), hm]
  unfold Program.keyLits
  simp only [Try.underlying117, Value.cells]
  rw [if_pos (by rw [pcells]; exact ⟨rfl, by simp⟩)]
  simp [Program.keyLits, icells, Try.underlying3, wf_small a ha, wf_small c hc, kP]
theorem prow : (117 : TypeId) < Try.prog.types.size := of_decide_eq_true (by kernel_rfl)
theorem pwide : (match Try.prog.underlying 117 with | some (.array _ _) | some (.struct _) => true | _ => false) = true := by rw [Try.underlying117]
theorem plaid : laidOutB Try.prog = true := by kernel_rfl
theorem pklaw : WideMaps.KeyLaw Try.prog 117 := deep_law_laid plaid (m := 3) (by omega) prow (by kernel_rfl) pwide
theorem plaw : Keyed Try.prog 117 := Keyed.of_law pklaw
theorem pzero (w : World) : (zeroValue 3).run Try.prog w = .ok (.int .i64 0) w := by kernel_rfl
theorem kP_inj {a c a' c' : Nat} (ha : a ≤ 1000000) (hc : c ≤ 1000000) (ha' : a' ≤ 1000000) (hc' : c' ≤ 1000000) (e : kP a c = kP a' c') : a = a' ∧ c = c' := by
  have := plaw.inj (pkey a c ha hc) (by rw [e]; exact pkey a' c' ha' hc')
  simp at this
  omega
theorem kP_key (a c : Nat) (ha : a ≤ 1000000) (hc : c ≤ 1000000) : WideAt.IsKeyLit (kP a c) := plaw.key (pkey a c ha hc)
structure PM (D : DataW Unit) (l : List Nat) (k : Nat) : Prop where
  isMap : Maps.IsMap D
  at_ : ∀ a c : Nat, a ≤ 1000000 → c ≤ 1000000 → a ≠ c → D.atKey (kP a c) (.lit (.int .i64 0)) = .lit (.int .i64 (prN l a c k : Nat))
theorem PM.zero (l : List Nat) : PM (.map []) l 0 := ⟨isMap_empty, fun a c _ _ _ => by simp [DataW.atKey, prN, num]⟩
theorem PM.loop {D : DataW Unit} {l : List Nat} {k : Nat} (h : PM D l k) (e : lowE l k = highE l k) : PM D l (k + 1) :=
  ⟨h.isMap, fun a c ha hc hne => by
    rw [h.at_ a c ha hc hne]
    unfold prN
    rw [(num_next _ k).2 (fun x => hne (by rw [← x.1, ← x.2, e]))]⟩
theorem PM.step {D : DataW Unit} {l : List Nat} {k x y q : Nat} (h : PM D l k) (hx : x = lowE l k) (hy : y = highE l k) (hxl : x ≤ 1000000) (hyl : y ≤ 1000000) (hq : q = prN l x y k) : PM (D.put (kP x y) (.lit (.int .i64 ((q : Int) + 1)))) l (k + 1) :=
  ⟨h.isMap.put _ _, fun a c ha hc hne => by
    by_cases e : a = x ∧ c = y
    · obtain ⟨rfl, rfl⟩ := e
      rw [atKey_put_same h.isMap (kP_key _ _ hxl hyl)]
      have : prN l a c (k + 1) = prN l a c k + 1 := (num_next _ k).1 ⟨hx.symm, hy.symm⟩
      rw [this, hq]; rfl
    · rw [atKey_put_other (fun c' => e (kP_inj ha hc hxl hyl c')), h.at_ a c ha hc hne]
      have : prN l a c (k + 1) = prN l a c k := (num_next _ k).2 fun z => e ⟨by rw [hx, z.1], by rw [hy, z.2]⟩
      rw [this]⟩
theorem pown_below {H : Type} {P : Program} {k : TypeId} {R : Value → Option (DataW H × List MemPlace)} {w w' : World} {b n : Nat} {D : DataW H} (h : w.ownsMap P k R b n D) (m : Below w.heap.size w w') : w'.ownsMap P k R b n D := by
  have hlt := h.lt
  obtain ⟨es, clock, hb, F, hs, hD⟩ := h
  exact ⟨es, clock, (m.block b hlt).trans hb, F, hs, hD⟩
abbrev OwnP (w : World) (g n : Nat) (D : DataW Unit) : Prop := w.ownsMap Try.prog 117 (plainElem Try.prog 3) g n D
theorem look_p {w : World} {g n k x y : Nat} {D : DataW Unit} {l : List Nat} (h : OwnP w g n D) (hm : PM D l k) (hx : x ≤ 1000000) (hy : y ≤ 1000000) (hne : x ≠ y) :
    (Instr.lookup 119 (.map (some g)) (.agg #[.int .i64 (x : Int), .int .i64 (y : Int)]) false).run Try.prog w = .ok (.int .i64 ((prN l x y k : Nat) : Int)) w := by
  obtain ⟨c, hrun, hat, _⟩ := World.ownsMap.lookup_int h plaw Try.underlying119 Try.underlying3 (pzero _) (pkey x y hx hy)
  rw [hm.at_ x y hx hy hne] at hat
  simp only [DataW.lit.injEq, Lit.int.injEq, true_and] at hat
  rw [hat]; exact hrun
theorem set_twice (w : World) (b : Nat) (o1 o2 : Obj) : ChangeMaps.setBlock (ChangeMaps.setBlock w b o1) b o2 = ChangeMaps.setBlock w b o2 := by
  unfold ChangeMaps.setBlock
  simp
theorem set_self (w : World) (b : Nat) (o : Obj) (h : w.heap[b]? = some o) : ChangeMaps.setBlock w b o = w := by
  obtain ⟨hlt, he⟩ := Array.getElem?_eq_some_iff.1 h
  have : w.heap.setIfInBounds b o = w.heap := by
    apply Array.ext
    · simp
    · intro i h1 h2
      rw [Array.getElem_setIfInBounds h2]
      split
      · subst_vars; rfl
      · rfl
  unfold ChangeMaps.setBlock
  rw [this]
theorem entry_look {H : Type} {P : Program} {k e t : TypeId} {w w1 : World} {R : Value → Option (DataW H × List MemPlace)} {b : Nat} {es : Array MapEntry} {clock : Nat} (K : WideMaps.KeyLaw P k) (ht : P.underlying t = some (.map k e)) {z : Value} (hz : ∀ u : World, (zeroValue e).run P u = .ok z u) (hb : w.heap[b]? = some (.map es clock)) (F : WideElems.Fit P k R es clock)
    {key : Value} {kl : Lit} (hkey : keyOf P k key = some kl) {v v' : Value} (hrun : (Instr.mapEntry t (.map (some b)) key).run P w = .ok v' w1) (hl : (Instr.lookup t (.map (some b)) key false).run P w = .ok v w) :
    (Instr.lookup t (.map (some b)) key false).run P w1 = .ok v w1 := by
  rcases K.find w hkey es.toList F.keys with ⟨h1, h2⟩ | ⟨j, e0, h1, h2, h3⟩
  · have r1 : (Instr.mapEntry t (.map (some b)) key).run P w = .ok (.tuple #[z, goInt clock]) (ChangeMaps.setBlock w b (.map (es.push ⟨key, z, clock⟩) (clock + 1))) := by
      simp [Instr.mapEntry, run_underlying ht, MapKept.run_getObj_map hb, K.check w false hkey, h1, hz, MapKept.run_setObj_map _ hb, Result.andThen, ChangeMaps.setBlock]
    have r2 : (Instr.lookup t (.map (some b)) key false).run P w = .ok z w := by
      simp [Instr.lookup, run_underlying ht, MapKept.run_getObj_map hb, K.check w _ hkey, h1, hz, Result.andThen]
    rw [r1] at hrun
    rw [r2] at hl
    simp only [Result.ok.injEq] at hrun hl
    obtain ⟨_, rfl⟩ := hrun
    obtain ⟨rfl, _⟩ := hl
    have hb1 := ChangeMaps.heap_setBlock_same hb (.map (es.push ⟨key, z, clock⟩) (clock + 1))
    rcases K.find (ChangeMaps.setBlock w b (.map (es.push ⟨key, z, clock⟩) (clock + 1))) hkey (es.push ⟨key, z, clock⟩).toList (fun x hx => by
      simp only [Array.toList_push, List.mem_append, List.mem_singleton] at hx
      rcases hx with hx | rfl
      · exact F.keys x hx
      · exact ⟨kl, hkey⟩) with ⟨f1, f2⟩ | ⟨j, e0, f1, f2, f3⟩
    · exact absurd rfl (f2 ⟨key, z, clock⟩ (by simp))
    · have hm := List.mem_of_getElem? f2
      simp only [Array.toList_push, List.mem_append, List.mem_singleton] at hm
      rcases hm with hm | rfl
      · exact absurd f3 (h2 e0 hm)
      · rw [Array.toList_push] at f1
        simp [Instr.lookup, run_underlying ht, MapKept.run_getObj_map hb1, K.check _ _ hkey, f1, Result.andThen]
  · have hj : es[j]? = some e0 := by simpa using h2
    have hsame : es.modify j (fun e => { e with key := key }) = es := by
      apply Array.ext'
      rw [Array.toList_modify, ChangeMaps.modify_eq_set _ _ _ _ h2]
      have : ({ e0 with key := key } : MapEntry) = e0 := by rw [← h3]
      rw [this]
      exact WideElems.set_self _ _ _ h2
    have r1 : (Instr.mapEntry t (.map (some b)) key).run P w = .ok (.tuple #[e0.val, goInt e0.born]) (ChangeMaps.setBlock w b (.map es clock)) := by
      simp [Instr.mapEntry, run_underlying ht, MapKept.run_getObj_map hb, K.check w false hkey, h1, hj, h3, K.stays w hkey, hsame, MapKept.run_setObj_map _ hb, Result.andThen, ChangeMaps.setBlock]
    rw [r1, set_self w b _ hb] at hrun
    simp only [Result.ok.injEq] at hrun
    obtain ⟨_, rfl⟩ := hrun
    exact hl
theorem own_entry {w : World} {g n : Nat} {D : DataW Unit} (h : OwnP w g n D) (hn : n < maxLen) {key : Value} {kl : Lit} (hkey : keyOf Try.prog 117 key = some kl) {v val : Value} (hl : (Instr.lookup 119 (.map (some g)) key false).run Try.prog w = .ok v w) {d : DataW Unit} {ps : List MemPlace} (hv : plainElem Try.prog 3 val = some (d, ps)) :
    ∃ (v0 : Value) (st : Nat) (w1 w2 : World), (Instr.mapEntry 119 (.map (some g)) key).run Try.prog w = .ok (.tuple #[v0, goInt st]) w1 ∧ (Instr.lookup 119 (.map (some g)) key false).run Try.prog w1 = .ok v w1 ∧ (Instr.entryStore 119 (.map (some g)) (goInt st) val).run Try.prog w1 = .ok () w2 ∧ OwnP w2 g (n + 1) (D.put kl d) ∧ w.grownBy w2 (some g) ∧ w.grownBy w1 (some g) := by
  obtain ⟨w', hrun, h1, h2⟩ := World.ownsMap.update h plaw Try.underlying119 hn hkey hv
  obtain ⟨es, clock, hb, F, hs, rfl⟩ := h
  obtain ⟨v0, st, es1, clock1, run1, _, H2⟩ := WideElems.entry_then_store pklaw Try.underlying119 pzero hb F hkey
  obtain ⟨es', clock', run2, run3⟩ := H2 _ val (ChangeMaps.heap_setBlock_same hb _)
  rw [hrun] at run3
  simp only [Result.ok.injEq, true_and] at run3
  rw [set_twice] at run2
  rw [← run3] at run2
  exact ⟨v0, st, _, _, run1, entry_look pklaw Try.underlying119 pzero hb F hkey run1 hl, run2, h1, h2, ⟨rfl, rfl, rfl, by simp [ChangeMaps.setBlock], fun i _ hi => ChangeMaps.heap_setBlock_other hb _ (fun e => hi (by rw [e]))⟩⟩
end Go.Proofs.Ythdmkcnclmgdlaa
namespace Go.Proofs.Ythdmkcnclmgdlaa
set_option maxRecDepth 20000
open Go.RowKit Go.Maps
set_option linter.unusedVariables false
theorem prN_le (l : List Nat) (a c k : Nat) : prN l a c k ≤ k := num_le _ _
set_option maxHeartbeats 4000000 in
theorem doubles_p (g : Nat) (l b : List Nat) (root lone : Int) (w : World) (h : MapAt w g l b root lone) :
    Calls Try.prog 99 #[.pointer (some ⟨g, 0, none⟩)] w fun e w' => e = .returned (.int .i64 (dblN l (l.length / 2) : Int)) ∧ Below w.heap.size w w' := by
  have hle := h.2.1
  have hinv : Inv l b := by obtain ⟨_, _, p, A, c, S, d, q, A', c', S', d', hb, hp, _⟩ := h; exact hp.1
  have HM : Hid (∀ w', Below w.heap.size w w' → MapAt w' g l b root lone) := fun w' m => h.below m
  have HNL : Hid (∀ x, x < l.length → nameOf l x ≤ 1000000) := fun x hx => by
    have h1 := name_lt hinv hx
    have h2 := sizes_le l
    rw [sizes_len] at h2
    omega
  have hmm := @run_makeMap Try.prog
  have hba := (Below.refl w.heap.size w).alloc (Nat.le_refl _) (.map #[] 0)
  have EP := Lib.hid (edges_p g l b root lone _ (HM.out _ hba))
  have OW0 : Hid (OwnP (w.alloc (.map #[] 0)) w.heap.size 0 (.map [])) := World.ownsMap_made _ _ _ _
  have HBA := Lib.hid hba
  have HZ : Hid (0 = dblN l 0) := rfl
  obtain ⟨n, hn⟩ : ∃ n, n = l.length / 2 := ⟨_, rfl⟩
  rw [← hn] at EP ⊢
  have hn2 : 2 * n ≤ l.length := by omega
  clear h hn hinv hba
  go_enter Try.func99, Try.ntmps99
  go_wp2_with fail
  refine EP.out.mono ?_
  rintro e w1 ⟨rfl, hb1⟩
  have OW1 := Lib.hid (pown_below OW0.out hb1)
  have HB1 := Lib.hid (HBA.out.trans (hb1.mono HBA.out.size))
  clear hb1 OW0 HBA EP
  go_wp2_with fail
  go_loopw [3, 10] (fun s3 i wr => ∃ (k p : Nat) (D : DataW Unit), k ≤ n ∧ p ≤ k ∧ s3 = .int .i64 (p : Int) ∧ i = .int .i64 (k : Int) ∧ Hid (p = dblN l k) ∧ Hid (PM D l k) ∧ Hid (OwnP wr w.heap.size k D) ∧ Hid (Below w.heap.size w wr)) (fun _ i _ => n - (intOf i).toNat)
  case atStart => exact ⟨0, 0, .map [], by omega, by omega, rfl, rfl, HZ, PM.zero l, OW1, HB1⟩
  case round =>
    clear OW1 HB1
    obtain ⟨k, p, D, hk, hpk, rfl, rfl, HP, HPM, HO, HB⟩ := hrel
    by_cases hkn : k = n
    · subst hkn
      have hdk : decide (k < k) = false := by simp
      go_wp2_with fail
      go_ret
      exact ⟨by rw [← HP.out]; rfl, HB.out⟩
    · have hlt : k < n := by omega
      have hdk : decide (k < n) = true := by rw [decide_eq_true_iff]; exact hlt
      have EN := Lib.hid (ends_p g l b root lone k wr (HM.out _ HB.out) (by omega))
      have NX := Lib.hid (num_next (fun e => lowE l e ≠ highE l e ∧ 0 < prN l (lowE l e) (highE l e) e) k)
      have hxl : lowE l k ≤ 1000000 := by have := HNL.out (2 * k) (by omega); unfold lowE; omega
      have hyl : highE l k ≤ 1000000 := by have := HNL.out (2 * k) (by omega); have := HNL.out (2 * k + 1) (by omega); unfold highE; omega
      obtain ⟨x, hx⟩ : ∃ x, x = lowE l k := ⟨_, rfl⟩
      obtain ⟨y, hy⟩ : ∃ y, y = highE l k := ⟨_, rfl⟩
      rw [← hx, ← hy] at EN NX
      rw [← hx] at hxl
      rw [← hy] at hyl
      have HX := Lib.hid hx
      have HY := Lib.hid hy
      clear hx hy
      have LP := Lib.hid (fun W => isLoop_p x y W)
      have hsr := HB.out.size
      by_cases he : x = y
      · have hd : decide (x = y) = true := by simp [he]
        rw [hd] at LP
        have NX2 := Lib.hid (NX.out.2 (fun c => c.1 he))
        have PM2 := Lib.hid (HPM.out.loop (by rw [← HX.out, ← HY.out]; exact he))
        clear he hd
        go_wp2_with (first
          | (go_at_call 108; refine EN.out.mono ?_; rintro e w2 ⟨rfl, hb2⟩; have O2 := Lib.hid ((pown_below HO.out hb2).alloc (.cells #[.int .i64 (x : Int), .int .i64 (y : Int)] 117)); have B2 := Lib.hid ((HB.out.trans (hb2.mono hsr)).alloc (show w.heap.size ≤ w2.heap.size by have := hb2.size; omega) (.cells #[.int .i64 (x : Int), .int .i64 (y : Int)] 117)))
          | (go_at_call 109; refine (LP.out _).mono ?_; rintro e w3 ⟨rfl, hb3⟩; have O3 := Lib.hid (pown_below O2.out hb3); have B3 := Lib.hid (B2.out.trans (hb3.mono B2.out.size))))
        go_roundw
        case rel => exact ⟨k + 1, p, D, by omega, by omega, rfl, by go_num, by show _ = _; unfold dblN at HP ⊢; rw [NX2.out, HP.out], PM2, World.ownsMap.mono O3.out (by omega), B3⟩
        case measure => simp [intOf]; omega
      · have hd : decide (x = y) = false := by simp [he]
        rw [hd] at LP
        have HNE := Lib.hid he
        obtain ⟨q, hq⟩ : ∃ q, q = prN l x y k := ⟨_, rfl⟩
        have hql : q ≤ 500000 := by have := prN_le l x y k; omega
        have HQ := Lib.hid hq
        have HLK : Hid (∀ W : World, OwnP W w.heap.size k D → (Instr.lookup 119 (.map (some w.heap.size)) (.agg #[.int .i64 (x : Int), .int .i64 (y : Int)]) false).run Try.prog W = .ok (.int .i64 (q : Int)) W) := fun W O => by rw [HQ.out]; exact look_p O HPM.out hxl hyl HNE.out
        have HEN : Hid (∀ W : World, OwnP W w.heap.size k D → ∃ (v0 : Value) (st : Nat) (w1 w2 : World), (Instr.mapEntry 119 (.map (some w.heap.size)) (.agg #[.int .i64 (x : Int), .int .i64 (y : Int)])).run Try.prog W = .ok (.tuple #[v0, goInt st]) w1 ∧ (Instr.lookup 119 (.map (some w.heap.size)) (.agg #[.int .i64 (x : Int), .int .i64 (y : Int)]) false).run Try.prog w1 = .ok (.int .i64 (q : Int)) w1 ∧ (Instr.entryStore 119 (.map (some w.heap.size)) (goInt st) (.int .i64 ((q : Int) + 1))).run Try.prog w1 = .ok () w2 ∧ OwnP w2 w.heap.size (k + 1) (D.put (kP x y) (.lit (.int .i64 ((q : Int) + 1)))) ∧ W.grownBy w2 (some w.heap.size) ∧ W.grownBy w1 (some w.heap.size)) := fun W O =>
          own_entry O (by simp only [maxLen]; omega) (pkey x y hxl hyl) (HLK.out W O) (plainElem_int Try.underlying3 (by have := wf_small (q + 1) (by omega); rwa [Int.natCast_add] at this))
        have PM2 := Lib.hid (HPM.out.step HX.out HY.out hxl hyl hq)
        by_cases h0 : 0 < q
        · have NX2 := Lib.hid (NX.out.1 ⟨HNE.out, by rw [← HQ.out]; exact h0⟩)
          clear he hd hq
          go_wp2_with (first
            | (go_at_call 108; refine EN.out.mono ?_; rintro e w2 ⟨rfl, hb2⟩; have O2 := Lib.hid ((pown_below HO.out hb2).alloc (.cells #[.int .i64 (x : Int), .int .i64 (y : Int)] 117)); have B2 := Lib.hid ((HB.out.trans (hb2.mono hsr)).alloc (show w.heap.size ≤ w2.heap.size by have := hb2.size; omega) (.cells #[.int .i64 (x : Int), .int .i64 (y : Int)] 117)); have X2 := Lib.hid (Blk.new w2 117 #[.int .i64 (x : Int), .int .i64 (y : Int)]))
            | (go_at_call 109; refine (LP.out _).mono ?_; rintro e w3 ⟨rfl, hb3⟩; have O3 := Lib.hid (pown_below O2.out hb3); have B3 := Lib.hid (B2.out.trans (hb3.mono B2.out.size)); have X3 := X2.out.below hb3; have xc0 : w3.cell? ⟨w2.heap.size, 0, none⟩ = some (.int .i64 (x : Int)) := X3.cell 0; have xc1 : w3.cell? ⟨w2.heap.size, 1, none⟩ = some (.int .i64 (y : Int)) := X3.cell 1; have lk := HLK.out _ O3.out; have X3H := Lib.hid X3; clear X3))
          clear lk
          have lkd := HLK.out w3.drew (World.ownsMap.drew O3.out)
          obtain ⟨v0, st, w4, w5, en, lk2, es, O5, G5, G4⟩ := HEN.out w3.drew (World.ownsMap.drew O3.out)
          have xd0 : w3.drew.cell? ⟨w2.heap.size, 0, none⟩ = some (.int .i64 (x : Int)) := xc0
          have xd1 : w3.drew.cell? ⟨w2.heap.size, 1, none⟩ = some (.int .i64 (y : Int)) := xc1
          have B5 := Lib.hid (B3.out.drew.trans ((Mod.ofGrown G5).belowB B3.out.drew.size (fun i hi e => absurd hi (by cases e; exact Nat.lt_irrefl _))))
          have HO5 := Lib.hid O5
          have es2 : (Instr.entryStore 119 (.map (some w.heap.size)) (.int .i64 (st : Int)) (.int .i64 ((q : Int) + 1))).run Try.prog w4 = .ok () w5 := es
          clear O5 G5 G4 es
          have wq : IntKind.i64.wrap ((q : Int) + 1) = (q : Int) + 1 := by simp [IntKind.wrap, IntKind.signed, IntKind.bits]; omega
          go_region_with (fail)
          all_goals (
            go_wp2_with fail
            go_roundw
            case rel => exact ⟨k + 1, p + 1, _, by omega, by omega, by go_num, by go_num, by show _ = _; unfold dblN at HP ⊢; rw [NX2.out, HP.out], PM2, HO5, B5⟩
            case measure => simp [intOf]; omega)
        · have NX2 := Lib.hid (NX.out.2 (fun c => h0 (by rw [HQ.out]; exact c.2)))
          have hq0 : ¬ (0 < (q : Int)) := by omega
          clear he hd hq
          go_wp2_with (first
            | (go_at_call 108; refine EN.out.mono ?_; rintro e w2 ⟨rfl, hb2⟩; have O2 := Lib.hid ((pown_below HO.out hb2).alloc (.cells #[.int .i64 (x : Int), .int .i64 (y : Int)] 117)); have B2 := Lib.hid ((HB.out.trans (hb2.mono hsr)).alloc (show w.heap.size ≤ w2.heap.size by have := hb2.size; omega) (.cells #[.int .i64 (x : Int), .int .i64 (y : Int)] 117)); have X2 := Lib.hid (Blk.new w2 117 #[.int .i64 (x : Int), .int .i64 (y : Int)]))
            | (go_at_call 109; refine (LP.out _).mono ?_; rintro e w3 ⟨rfl, hb3⟩; have O3 := Lib.hid (pown_below O2.out hb3); have B3 := Lib.hid (B2.out.trans (hb3.mono B2.out.size)); have X3 := X2.out.below hb3; have xc0 : w3.cell? ⟨w2.heap.size, 0, none⟩ = some (.int .i64 (x : Int)) := X3.cell 0; have xc1 : w3.cell? ⟨w2.heap.size, 1, none⟩ = some (.int .i64 (y : Int)) := X3.cell 1; have lk := HLK.out _ O3.out; have X3H := Lib.hid X3; clear X3))
          clear lk
          have lkd := HLK.out w3.drew (World.ownsMap.drew O3.out)
          obtain ⟨v0, st, w4, w5, en, lk2, es, O5, G5, G4⟩ := HEN.out w3.drew (World.ownsMap.drew O3.out)
          have xd0 : w3.drew.cell? ⟨w2.heap.size, 0, none⟩ = some (.int .i64 (x : Int)) := xc0
          have xd1 : w3.drew.cell? ⟨w2.heap.size, 1, none⟩ = some (.int .i64 (y : Int)) := xc1
          have B5 := Lib.hid (B3.out.drew.trans ((Mod.ofGrown G5).belowB B3.out.drew.size (fun i hi e => absurd hi (by cases e; exact Nat.lt_irrefl _))))
          have HO5 := Lib.hid O5
          have es2 : (Instr.entryStore 119 (.map (some w.heap.size)) (.int .i64 (st : Int)) (.int .i64 ((q : Int) + 1))).run Try.prog w4 = .ok () w5 := es
          clear O5 G5 G4 es
          have wq : IntKind.i64.wrap ((q : Int) + 1) = (q : Int) + 1 := by simp [IntKind.wrap, IntKind.signed, IntKind.bits]; omega
          go_region_with (fail)
          all_goals (
            go_wp2_with fail
            go_roundw
            case rel => exact ⟨k + 1, p, _, by omega, by omega, rfl, by go_num, by show _ = _; unfold dblN at HP ⊢; rw [NX2.out, HP.out], PM2, HO5, B5⟩
            case measure => simp [intOf]; omega)
theorem simple_p (g : Nat) (l b : List Nat) (root lone : Int) (w : World) (h : MapAt w g l b root lone) :
    Calls Try.prog 69 #[.pointer (some ⟨g, 0, none⟩)] w fun e w' => e = .returned (.bool (decide (loopsN l (l.length / 2) = 0 ∧ dblN l (l.length / 2) = 0))) ∧ Below w.heap.size w w' := by
  have LP := Lib.hid (loops_p g l b root lone w h)
  have DP : Hid (∀ w', Below w.heap.size w w' → Calls Try.prog 99 #[.pointer (some ⟨g, 0, none⟩)] w' fun e w'' => e = .returned (.int .i64 (dblN l (l.length / 2) : Int)) ∧ Below w'.heap.size w' w'') := fun w' m => doubles_p g l b root lone w' (h.below m)
  generalize loopsN l (l.length / 2) = c at *
  generalize dblN l (l.length / 2) = d at *
  clear h
  by_cases hc : c = 0
  · have e1 : ((c : Int) == 0) = true := by rw [beq_iff_eq]; omega
    have e2 : ((d : Int) == 0) = decide (c = 0 ∧ d = 0) := by
      by_cases hd : d = 0
      · rw [decide_eq_true ⟨hc, hd⟩, beq_iff_eq]; omega
      · rw [decide_eq_false (fun x => hd x.2), beq_eq_false_iff_ne]; omega
    have HE2 := Lib.hid e2
    clear e2 hc
    generalize decide (c = 0 ∧ d = 0) = r at *
    go_enter Try.func69, Try.ntmps69
    go_wp2_with fail
    refine LP.out.mono ?_
    rintro e w1 ⟨rfl, hb1⟩
    go_wp2_with fail
    refine (DP.out _ hb1).mono ?_
    rintro e w2 ⟨rfl, hb2⟩
    have e2 := HE2.out
    have B := Lib.hid (hb1.trans (hb2.mono hb1.size))
    go_wp2_with fail
    go_ret
    exact ⟨rfl, B.out⟩
  · have e1 : ((c : Int) == 0) = false := by rw [beq_eq_false_iff_ne]; omega
    have e2 : decide (c = 0 ∧ d = 0) = false := decide_eq_false fun x => hc x.1
    rw [e2]
    clear e2 hc
    go_enter Try.func69, Try.ntmps69
    go_wp2_with fail
    refine LP.out.mono ?_
    rintro e w1 ⟨rfl, hb1⟩
    go_wp2_with fail
    go_ret
    exact ⟨rfl, hb1⟩
/-- Is a map a triangulation. -/
def TriangN (l : List Nat) (lone : Nat) : Prop := pN l + lone = 1 ∧ 3 ≤ (sizes l).length + lone ∧ (∀ d, d < l.length → Tri l d) ∧ genusN l = 0 ∧ loopsN l (l.length / 2) = 0 ∧ dblN l (l.length / 2) = 0
def BoolPost (P : Prop) (w : World) (e : Ending) (w' : World) : Prop := ∃ r : Bool, e = .returned (.bool r) ∧ (r = true ↔ P) ∧ Below w.heap.size w w'
theorem BoolPost.yes {P : Prop} {w w' : World} {e : Ending} (he : e = .returned (.bool true)) (h : P) (hb : Below w.heap.size w w') : BoolPost P w e w' := ⟨true, he, ⟨fun _ => h, fun _ => rfl⟩, hb⟩
theorem BoolPost.no {P : Prop} {w w' : World} {e : Ending} (he : e = .returned (.bool false)) (h : ¬ P) (hb : Below w.heap.size w w') : BoolPost P w e w' := ⟨false, he, ⟨fun c => (by cases c), fun c => absurd c h⟩, hb⟩
theorem triang_p (g : Nat) (l b : List Nat) (root : Int) (lone : Nat) (w : World) (h : MapAt w g l b root lone) :
    Calls Try.prog 25 #[.pointer (some ⟨g, 0, none⟩)] w (BoolPost (TriangN l lone) w) := by
  have CP := Lib.hid (connected_p g l b root lone w h)
  have VP : Hid (∀ w', Below w.heap.size w w' → Calls Try.prog 19 #[.pointer (some ⟨g, 0, none⟩)] w' fun e w'' => e = .returned (.int .i64 (((sizes l).length : Int) + (lone : Int))) ∧ Below w'.heap.size w' w'') := fun w' m => vertices_p g l b root lone w' (h.below m)
  have TP : Hid (∀ w', Below w.heap.size w w' → Calls Try.prog 67 #[.pointer (some ⟨g, 0, none⟩)] w' (TriPost w' l)) := fun w' m => triangles_p g l b root lone w' (h.below m)
  have PP : Hid (∀ w', Below w.heap.size w w' → Calls Try.prog 68 #[.pointer (some ⟨g, 0, none⟩)] w' fun e w'' => e = .returned (.bool (decide (genusN l = 0))) ∧ Below w'.heap.size w' w'') := fun w' m => planar_p g l b root lone w' (h.below m)
  have SP : Hid (∀ w', Below w.heap.size w w' → Calls Try.prog 69 #[.pointer (some ⟨g, 0, none⟩)] w' fun e w'' => e = .returned (.bool (decide (loopsN l (l.length / 2) = 0 ∧ dblN l (l.length / 2) = 0))) ∧ Below w'.heap.size w' w'') := fun w' m => simple_p g l b root lone w' (h.below m)
  have HT : Hid (∀ P1 P2 P3 P4 P5 : Prop, (P1 ↔ pN l + lone = 1) → (P2 ↔ 3 ≤ (sizes l).length + lone) → (P3 ↔ ∀ d, d < l.length → Tri l d) → (P4 ↔ genusN l = 0) → (P5 ↔ (loopsN l (l.length / 2) = 0 ∧ dblN l (l.length / 2) = 0)) → (TriangN l lone ↔ P1 ∧ P2 ∧ P3 ∧ P4 ∧ P5)) := fun P1 P2 P3 P4 P5 e1 e2 e3 e4 e5 => by rw [e1, e2, e3, e4, e5]; exact Iff.rfl
  obtain ⟨b1, hb1⟩ : ∃ b1, b1 = decide (pN l + lone = 1) := ⟨_, rfl⟩
  obtain ⟨b4, hb4⟩ : ∃ b4, b4 = decide (genusN l = 0) := ⟨_, rfl⟩
  obtain ⟨b5, hb5⟩ : ∃ b5, b5 = decide (loopsN l (l.length / 2) = 0 ∧ dblN l (l.length / 2) = 0) := ⟨_, rfl⟩
  rw [← hb1] at CP
  rw [← hb4] at PP
  rw [← hb5] at SP
  have H1 : Hid (b1 = true ↔ pN l + lone = 1) := by show _ ↔ _; rw [hb1, decide_eq_true_iff]
  have H4 : Hid (b4 = true ↔ genusN l = 0) := by show _ ↔ _; rw [hb4, decide_eq_true_iff]
  have H5 : Hid (b5 = true ↔ (loopsN l (l.length / 2) = 0 ∧ dblN l (l.length / 2) = 0)) := by show _ ↔ _; rw [hb5, decide_eq_true_iff]
  have hsl := sizes_le l
  have hll := h.2.1
  have hlo := h.1.2.2
  obtain ⟨nv, hnv⟩ : ∃ nv, nv = (sizes l).length := ⟨_, rfl⟩
  rw [← hnv] at VP hsl
  have HNV := Lib.hid hnv
  have HTT := Lib.hid (HT.out (b1 = true) (3 ≤ (sizes l).length + lone) (∀ d, d < l.length → Tri l d) (b4 = true) (b5 = true) H1.out Iff.rfl Iff.rfl H4.out H5.out)
  clear h hb1 hb4 hb5 HT H1 H4 H5 hnv
  cases b1 with
  | false =>
    go_enter Try.func25, Try.ntmps25
    go_wp2_with fail
    refine CP.out.mono ?_
    rintro e w1 ⟨rfl, z1⟩
    go_wp2_with fail
    go_ret
    exact .no rfl (fun c => by have := (HTT.out.1 c).1; cases this) z1
  | true =>
    go_enter Try.func25, Try.ntmps25
    go_wp2_with fail
    refine CP.out.mono ?_
    rintro e w1 ⟨rfl, z1⟩
    go_wp2_with fail
    refine (VP.out _ z1).mono ?_
    rintro e w2 ⟨rfl, z2⟩
    have Z2 := z1.trans (z2.mono z1.size)
    clear z2
    by_cases h3 : 3 ≤ nv + lone
    · have h3i : (3 : Int) ≤ (nv : Int) + (lone : Int) := by omega
      go_wp2_with fail
      refine (TP.out _ Z2).mono ?_
      rintro e w3 ⟨r3, rfl, hr3, z3⟩
      have Z3 := Z2.trans (z3.mono Z2.size)
      have HR3 := Lib.hid hr3
      clear z3 hr3
      cases r3 with
      | false =>
        go_wp2_with fail
        go_ret
        exact .no rfl (fun c => by have := HR3.out.2 (HTT.out.1 c).2.2.1; cases this) Z3
      | true =>
        go_wp2_with fail
        refine (PP.out _ Z3).mono ?_
        rintro e w4 ⟨rfl, z4⟩
        have Z4 := Z3.trans (z4.mono Z3.size)
        clear z4
        cases b4 with
        | false =>
          go_wp2_with fail
          go_ret
          exact .no rfl (fun c => by have := (HTT.out.1 c).2.2.2.1; cases this) Z4
        | true =>
          go_wp2_with fail
          refine (SP.out _ Z4).mono ?_
          rintro e w5 ⟨rfl, z5⟩
          have Z5 := Lib.hid (Z4.trans (z5.mono Z4.size))
          clear z5
          go_wp2_with fail
          go_ret
          cases b5 with
          | false => exact .no rfl (fun c => by have := (HTT.out.1 c).2.2.2.2; cases this) Z5.out
          | true => exact .yes rfl (HTT.out.2 ⟨by first | rfl | trivial, by rw [← HNV.out]; exact h3, HR3.out.1 (by first | rfl | trivial), by first | rfl | trivial, by first | rfl | trivial⟩) Z5.out
    · have h3i : ¬ ((3 : Int) ≤ (nv : Int) + (lone : Int)) := by omega
      have Z2' := Lib.hid Z2
      go_wp2_with fail
      go_ret
      exact .no rfl (fun c => h3 (by rw [HNV.out]; exact (HTT.out.1 c).2.1)) Z2'.out
/-! ### of nil -/
theorem parts_nil (w : World) : Calls Try.prog 23 #[.pointer none] w fun e w' => e = .returned (.slice none 0 0) ∧ Below w.heap.size w w' := by
  have EN := Lib.hid (enames_nil w)
  have LN := Lib.hid (fun W => lone_nil W)
  go_enter Try.func23, Try.ntmps23
  go_wp2_with fail
  refine EN.out.mono ?_
  rintro e w1 ⟨An, cn, rfl, hcn, hmn, hownn, hb1⟩
  have B1 := Lib.hid hb1
  clear hownn hb1
  go_wp2_with fail
  go_loopw [3, 4, 5, 14] (fun s3 s4 s5 i wr => s3 = .slice none 0 0 ∧ s4 = .int .i64 0 ∧ s5 = .int .i64 0 ∧ i = .int .i64 0 ∧ wr = w1) (fun _ _ _ _ _ => 0)
  case atStart => exact ⟨rfl, rfl, rfl, rfl, rfl⟩
  case round =>
    obtain ⟨rfl, rfl, rfl, rfl, rfl⟩ := hrel
    go_wp2_with fail
    go_loopw [74] (fun i wx => i = .int .i64 0 ∧ wx = wr) (fun _ _ => 0)
    case atStart => exact ⟨rfl, rfl⟩
    case round =>
      obtain ⟨rfl, rfl⟩ := hrel
      go_wp2_with (go_at_call 14; refine (LN.out _).mono ?_; rintro e w2 ⟨rfl, rfl⟩)
      go_loopw [3, 96] (fun s3 i wx => s3 = .slice none 0 0 ∧ i = .int .i64 0 ∧ wx = wr) (fun _ _ _ => 0)
      case atStart => exact ⟨rfl, rfl, rfl⟩
      case round =>
        obtain ⟨rfl, rfl, rfl⟩ := hrel
        go_wp2_with fail
        go_ret
        exact ⟨rfl, B1.out⟩
end Go.Proofs.Ythdmkcnclmgdlaa
namespace Go.Proofs.Ythdmkcnclmgdlaa
set_option maxRecDepth 20000
open Go.RowKit
set_option linter.unusedVariables false
set_option maxHeartbeats 4000000 in
theorem regenus_p (A0 : Option Addr) (c0 : Nat) (l b : List Nat) (root : Int) (lone : Nat) (w : World) (h : Rd w w.heap.size A0 l.length (I64 (ofN l))) (hinv0 : Inv l b) (hev : l.length % 2 = 0) (hle : l.length ≤ 100000) (hln : lone ≤ 65536) :
    Calls Try.prog 15 #[.agg #[.slice A0 l.length c0, .int .i64 root, .int .i64 (lone : Int)]] w fun e w' => e = .returned (.int .i64 (genusN l : Int)) ∧ Below w.heap.size w w' := by
  have hinv : Inv l b ∧ Inv (phiL l) (phiB l b) := ⟨hinv0, phi_inv hinv0 hev⟩
  have hb0 := (Below.refl w.heap.size w).alloc (Nat.le_refl _) (.cells #[.slice A0 l.length c0, .int .i64 root, .int .i64 (lone : Int)] 27)
  have HG := Lib.hid (fun j => pgen_is hinv.1 hev hinv.2 j)
  have HGT := Lib.hid (fun k => genusTo_le hinv.1 hev hinv.2 k)
  have PT := Lib.hid (reparts_p A0 c0 l b root lone _ ((h.below hb0).lt) hinv0 hev hle hln)
  have HB0 := Lib.hid hb0
  have HINF := Lib.hid info_qart5
  have hpn := pN_le l
  have HEND := Lib.hid (genusTo_lone l lone)
  have HN0 : Hid (genusTo l 0 = 0) := rfl
  generalize hc : pN l + lone = c at *
  have hcl : c ≤ 200000 := by omega
  have HGTc : Hid (∀ k, k ≤ c → genusTo l k ≤ 30000000000) := fun k hk => by
    have h1 := HGT.out k
    have h2 : k * l.length ≤ 200000 * 131072 := Nat.mul_le_mul (by omega) (by omega)
    omega
  have hs0 : w.heap.size ≤ (w.alloc (.cells #[.slice A0 l.length c0, .int .i64 root, .int .i64 (lone : Int)] 27)).heap.size := by simp
  clear h hev hinv hc hpn HGT hinv0 hb0
  go_enter Try.func15, Try.ntmps15
  go_wp2_with fail
  refine PT.out.mono ?_
  rintro e w1 ⟨A, c3, rfl, hc3, hm3, hown, hb1⟩
  have HO := Lib.hid hown
  have HB1 := Lib.hid (HB0.out.trans (hb1.mono hs0))
  have hs1 := HB1.out.size
  clear hown hb1 PT
  go_wp2_with fail
  go_loopw [3, 9] (fun s3 i wr => ∃ (k : Nat), k ≤ c ∧ s3 = .int .i64 (genusTo l k : Int) ∧ i = .int .i64 (k : Int) ∧ Hid (Below w1.heap.size w1 wr)) (fun _ i _ => c - (intOf i).toNat)
  case atStart => exact ⟨0, by omega, by rw [HN0.out]; rfl, rfl, Below.refl _ _⟩
  case round =>
    obtain ⟨k, hk, rfl, rfl, HB⟩ := hrel
    by_cases hkc : k < c
    · obtain ⟨g3, rfl, hg3, hg3'⟩ := own_some5 HO.out (show 0 < c by omega)
      have hO := own_below HO.out HB.out
      have cl : ∀ f, f < 5 → wr.cell? ⟨g3, k * 5 + f, none⟩ = some (.int .i64 (pcL l (5 * k + f))) := fun f hf => by
        rw [own_cell5 hO _ (by omega), Nat.mul_comm k 5, partsC_get _ _ _ _ hkc hf]
      have c0 := cl 0 (by omega)
      have c1 := cl 1 (by omega)
      have c2 := cl 2 (by omega)
      have c3' := cl 3 (by omega)
      have c4 := cl 4 (by omega)
      rw [(HG.out k).1] at c4
      rw [Nat.add_zero, Nat.add_zero] at c0
      have hpl := (HG.out k).2
      have hgt := HGTc.out k (by omega)
      have HNX := Lib.hid (genusTo_next l k)
      have hdk : decide (k < c) = true := by rw [decide_eq_true_iff]; exact hkc
      have hsw := HB.out.size
      generalize pcL l (5 * k) = v0 at c0
      generalize pcL l (5 * k + 1) = v1 at c1
      generalize pcL l (5 * k + 2) = v2 at c2
      generalize pcL l (5 * k + 3) = v3 at c3'
      generalize pgen l k = v4 at *
      generalize hgk : genusTo l k = G at *
      clear cl hO hgk
      go_wp2_with fail
      go_roundw
      case rel => exact ⟨k + 1, by omega, by rw [HNX.out]; go_num, by go_num, HB.out.alloc hsw _⟩
      case measure => simp [intOf]; omega
    · obtain rfl : k = c := by omega
      have HE : Hid (genusTo l k = genusN l) := HEND.out
      go_wp2_with fail
      go_ret
      exact ⟨by rw [HE.out]; rfl, HB1.out.trans (HB.out.mono hs1)⟩
/-! ### edges that are neither loops nor doubles -/
section
variable {l b : List Nat}
theorem leads_cls (h : Inv l b) : cls (Orb (sgL l)) (fun _ => True) l.length = metB l := by
  rw [← num_leads h]
  unfold cls num
  congr 1
  apply List.filter_congr
  intro d hd
  have hd : d < l.length := by simpa using hd
  rw [decide_eq_decide]
  have e := leads_least h (show d ≤ l.length by omega)
  exact ⟨fun x => e.2 x.2, fun x => ⟨trivial, e.1 x⟩⟩
theorem name_orb (h : Inv l b) {i j : Nat} (hi : i < l.length) (hj : j < l.length) (e : nameOf l i = nameOf l j) : Orb (sgL l) i j := by
  have hq := (sgL_pf h).eqv
  have key : ∀ x, x < l.length → Orb (sgL l) (lead l x) x := fun x hx => by
    obtain ⟨h1, h2, h3⟩ := lead_is h hx
    obtain ⟨t, et⟩ := (mem_orb h (by omega)).1 h3
    exact ⟨t, by rw [sgL_it]; exact et⟩
  have hl : lead l i = lead l j := by
    unfold nameOf at e
    obtain ⟨a1, a2, _⟩ := lead_is h hi
    obtain ⟨b1, b2, _⟩ := lead_is h hj
    rcases Nat.lt_trichotomy (lead l i) (lead l j) with c | c | c
    · have := leads_lt l _ _ a2 c; omega
    · exact c
    · have := leads_lt l _ _ b2 c; omega
  have li := (lead_is h hi).1
  have h1 := key i hi
  have h2 := key j hj
  rw [← hl] at h2
  exact hq.trans _ _ _ hi (by omega) hj (hq.symm _ _ (by omega) hi h1) h2
/-- Good edges: no loops, and none ahead between the same two. -/
def GoodE (l : List Nat) (e : Nat) : Prop := lowE l e ≠ highE l e ∧ ¬ 0 < prN l (lowE l e) (highE l e) e
theorem num_has {Q : Nat → Prop} : ∀ {k : Nat}, 0 < num Q k → ∃ e, e < k ∧ Q e
  | 0, h => by simp [num] at h
  | k + 1, h => by
    by_cases q : Q k
    · exact ⟨k, by omega, q⟩
    · rw [(num_next Q k).2 q] at h
      obtain ⟨e, h1, h2⟩ := num_has h
      exact ⟨e, by omega, h2⟩
theorem good_join (h : Inv l b) (he : l.length % 2 = 0) {e : Nat} (hE : e < l.length / 2) (hg : ¬ GoodE l e) : gk (sgL l) e (2 * e) (2 * e + 1) := by
  have hpf := sgL_pf h
  have hn : l.length = 2 * (l.length / 2) := by omega
  have hq := gk_eqv hpf hn e (by omega)
  have lift : ∀ i j, i < l.length → j < l.length → nameOf l i = nameOf l j → gk (sgL l) e i j := fun i j hi hj c => gk_mono _ (Nat.zero_le e) (show gk (sgL l) 0 i j from name_orb h hi hj c)
  by_cases c : lowE l e = highE l e
  · refine lift _ _ (by omega) (by omega) ?_
    unfold lowE highE at c
    omega
  · have c2 : 0 < prN l (lowE l e) (highE l e) e := Classical.byContradiction fun x => hg ⟨c, x⟩
    obtain ⟨f, hf, h1, h2⟩ := num_has c2
    have hj := gk_edge hpf f e hf
    unfold lowE at h1
    unfold highE at h2
    have hc : (nameOf l (2 * f) = nameOf l (2 * e) ∧ nameOf l (2 * f + 1) = nameOf l (2 * e + 1)) ∨ (nameOf l (2 * f) = nameOf l (2 * e + 1) ∧ nameOf l (2 * f + 1) = nameOf l (2 * e)) := by omega
    rcases hc with ⟨a1, a2⟩ | ⟨a1, a2⟩
    · exact hq.trans _ (2 * f + 1) _ (by omega) (by omega) (by omega) (hq.trans _ (2 * f) _ (by omega) (by omega) (by omega) (lift _ _ (by omega) (by omega) a1.symm) hj) (lift _ _ (by omega) (by omega) a2)
    · exact hq.trans _ (2 * f) _ (by omega) (by omega) (by omega) (hq.trans _ (2 * f + 1) _ (by omega) (by omega) (by omega) (lift _ _ (by omega) (by omega) a2.symm) (hq.symm _ _ (by omega) (by omega) hj)) (lift _ _ (by omega) (by omega) a1)
theorem edges_are (l : List Nat) : ∀ k, num (GoodE l) k + loopsN l k + dblN l k = k
  | 0 => rfl
  | k + 1 => by
    have ih := edges_are l k
    by_cases c : lowE l k = highE l k
    · have e1 := (loopsN_next l k).1 c
      have e2 : dblN l (k + 1) = dblN l k := (num_next _ k).2 fun x => x.1 c
      have e3 : num (GoodE l) (k + 1) = num (GoodE l) k := (num_next _ k).2 fun x => x.1 c
      omega
    · have e1 := (loopsN_next l k).2 c
      by_cases d : 0 < prN l (lowE l k) (highE l k) k
      · have e2 : dblN l (k + 1) = dblN l k + 1 := (num_next _ k).1 ⟨c, d⟩
        have e3 : num (GoodE l) (k + 1) = num (GoodE l) k := (num_next _ k).2 fun x => x.2 d
        omega
      · have e2 : dblN l (k + 1) = dblN l k := (num_next _ k).2 fun x => d x.2
        have e3 : num (GoodE l) (k + 1) = num (GoodE l) k + 1 := (num_next _ k).1 ⟨c, d⟩
        omega
/-- Of one part there are at most as many loops and doubles as edges more than a tree has. -/
theorem few_bad (h : Inv l b) (he : l.length % 2 = 0) : metB l + loopsN l (l.length / 2) + dblN l (l.length / 2) ≤ pN l + l.length / 2 := by
  have hpf := sgL_pf h
  have hn : l.length = 2 * (l.length / 2) := by omega
  have h1 := good_edges hpf hn (GoodE l) (fun e hE hg => good_join h he hE hg) (l.length / 2) (Nat.le_refl _)
  rw [leads_cls h] at h1
  have h2 := edges_are l (l.length / 2)
  have h3 : cls (gk (sgL l) (l.length / 2)) (fun _ => True) l.length = pN l := rfl
  omega
end
end Go.Proofs.Ythdmkcnclmgdlaa
