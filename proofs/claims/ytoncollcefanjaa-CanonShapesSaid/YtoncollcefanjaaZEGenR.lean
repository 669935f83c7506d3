/- How many vertices, faces and parts a list has, reckoned. The parts together: sums. Doubles of euler: edges between the same two vertices. Doubles, Simple, Triangulation of euler: the walks. The document's Genus; a tree's edges. -/
import Derived.Test.YtoncollcefanjaaZEPartsW
import Derived.Test.YtoncollcefanjaaZERow5
import Derived.Maps.OwnOps
import Derived.Maps.Views
import Derived.Maps.Keyed
import Derived.WideKeyEntry
import Derived.DeepKeys4
import Derived.Deep.RegionWith
namespace Go.Proofs.Ytoncollcefanjaa
set_option maxRecDepth 20000
open Go.RowKit
set_option linter.unusedVariables false
def goB (l : List Nat) (d : Nat) : Nat → Nat → Bool
  | 0, _ => true
  | f + 1, x => if x < d then false else goB l d f (l.getD x 0)
def leadB (l : List Nat) (d : Nat) : Bool := goB l d l.length d
/-- How many orbits. -/
def metB (l : List Nat) : Nat := ((List.range l.length).filter (leadB l)).length
theorem goB_iff (l : List Nat) (d : Nat) : ∀ f x, goB l d f x = true ↔ ∀ k, k < f → d ≤ itf (sgL l) k x
  | 0, x => ⟨fun _ k h => absurd h (by omega), fun _ => rfl⟩
  | f + 1, x => by
    unfold goB
    by_cases h : x < d
    · rw [if_pos h]
      constructor
      · intro c; cases c
      · intro c; have := c 0 (by omega); have e : itf (sgL l) 0 x = x := rfl; omega
    · rw [if_neg h, goB_iff l d f]
      constructor
      · intro c k hk
        cases k with
        | zero => show d ≤ x; omega
        | succ k => rw [itf_succ]; exact c k (by omega)
      · intro c k hk
        have := c (k + 1) (by omega)
        rwa [itf_succ] at this
section
variable {l b : List Nat}
theorem leadB_iff (h : Inv l b) {d : Nat} (hd : d < l.length) : leadB l d = true ↔ Leads l d := by
  unfold leadB
  rw [goB_iff, leads_orb h hd]
  constructor
  · intro H x hx
    have hx' : x ∈ way l d (per l d) := hx
    obtain ⟨j, hj, e⟩ := mem_way.1 hx'
    have hp := per_le h hd
    have := H j (by omega)
    rw [sgL_it, e] at this
    exact this
  · intro H k _
    have := H (itf (sgL l) k d) ((mem_orb h hd).2 ⟨k, by rw [sgL_it]⟩)
    exact this
theorem met_is (h : Inv l b) : met l l.length = metB l := by
  unfold met leads metB
  congr 1
  apply List.filter_congr
  intro d hd
  have hd : d < l.length := by simpa using hd
  rw [Bool.eq_iff_iff, leadB_iff h hd, decide_eq_true_iff]
theorem sizes_is (h : Inv l b) : (sizes l).length = metB l := by
  unfold sizes; rw [sizesTo_len, met_is h]
theorem num_leads (h : Inv l b) : num (fun d => Leads l d) l.length = metB l := by
  unfold num metB
  congr 1
  apply List.filter_congr
  intro d hd
  have hd : d < l.length := by simpa using hd
  rw [Bool.eq_iff_iff, leadB_iff h hd, decide_eq_true_iff]
end
/-- Those that are seen to be together with 0. -/
def nearB (l : List Nat) (v : List Bool) : List Bool := (List.range l.length).map fun d => v.getD d false || v.getD (mt d) false || v.getD (l.getD d 0) false
def nearsB (l : List Nat) : Nat → List Bool
  | 0 => (List.range l.length).map fun d => d == 0
  | k + 1 => nearB l (nearsB l k)
def oneB (l : List Nat) (k : Nat) : Bool := (List.range l.length).all fun d => (nearsB l k).getD d false
theorem map_rangeB (f : Nat → Bool) (n i : Nat) : ((List.range n).map f).getD i false = (decide (i < n) && f i) := by
  by_cases h : i < n
  · simp [List.getD_eq_getElem?_getD, h]
  · have : (List.map f (List.range n))[i]? = none := by rw [List.getElem?_eq_none_iff]; simpa using h
    rw [List.getD_eq_getElem?_getD, this]
    simp [h]
section
variable {l b : List Nat}
theorem nearsB_ok (h : Inv l b) (he : l.length % 2 = 0) : ∀ k d, (nearsB l k).getD d false = true → d < l.length ∧ part l 0 d
  | 0, d, e => by
    unfold nearsB at e
    rw [map_rangeB] at e
    simp at e
    obtain ⟨e1, e2⟩ := e
    subst e2
    exact ⟨e1, (part_eqv h he).refl 0 e1⟩
  | k + 1, d, e => by
    have hq := part_eqv h he
    have hpf := sgL_pf h
    unfold nearsB nearB at e
    rw [map_rangeB] at e
    simp only [Bool.and_eq_true, Bool.or_eq_true, decide_eq_true_iff] at e
    obtain ⟨hd, e⟩ := e
    refine ⟨hd, ?_⟩
    rcases e with (e | e) | e
    · exact (nearsB_ok h he k d e).2
    · obtain ⟨h1, h2⟩ := nearsB_ok h he k _ e
      exact hq.trans _ _ _ (by omega) h1 hd h2 (hq.symm _ _ hd h1 (gk_mt hpf (by omega) d hd))
    · obtain ⟨h1, h2⟩ := nearsB_ok h he k _ e
      exact hq.trans _ _ _ (by omega) h1 hd h2 (hq.symm _ _ hd h1 (gk_sig hpf d _))
theorem oneB_ok (h : Inv l b) (he : l.length % 2 = 0) {k : Nat} (e : oneB l k = true) : ∀ d, d < l.length → part l 0 d := fun d hd => by
  unfold oneB at e
  rw [List.all_eq_true] at e
  exact (nearsB_ok h he k d (e d (by simpa using hd))).2
theorem num_even (n : Nat) : num (fun d => d % 2 = 0) (2 * n) = n := by
  induction n with
  | zero => rfl
  | succ n ih =>
    rw [show 2 * (n + 1) = 2 * n + 1 + 1 by omega, (num_next _ (2 * n + 1)).2 (by omega), (num_next _ (2 * n)).1 (by omega), ih]
/-- A map of one part. -/
theorem one_part (h : Inv l b) (he : l.length % 2 = 0) (h0 : 0 < l.length) (H : ∀ d, d < l.length → part l 0 d) :
    pN l = 1 ∧ metB l + metB (phiL l) + 2 * genusN l = l.length / 2 + 2 := by
  have hq := part_eqv h he
  have hp := phi_inv h he
  have h1 : pN l = 1 := by
    unfold pN pn
    exact cls_one hq h0 fun i hi => ⟨fun _ => H i hi, fun _ => trivial⟩
  refine ⟨h1, ?_⟩
  have hpq : ∀ d, d < l.length → pq l d = 0 := fun d hd => by
    have := pq_lt h he hd hd
    have := pq_lt h he hd (show d < d + 1 by omega)
    have := pn_mono (part l) (show d + 1 ≤ l.length by omega)
    have : pn (part l) l.length = 1 := h1
    omega
  obtain ⟨G, hG, hE⟩ := pG_is h he hp (j := 0) (by rw [h1]; omega)
  have eV : pV l 0 l.length = metB l := by
    rw [← num_leads h]
    exact num_congr fun d hd => ⟨fun x => x.2, fun x => ⟨hpq d hd, x⟩⟩
  have eB : pB l 0 l.length = metB (phiL l) := by
    rw [← num_leads hp, phiL_len]
    exact num_congr fun d hd => ⟨fun x => x.2, fun x => ⟨hpq d hd, x⟩⟩
  have eE : pE l 0 l.length = l.length / 2 := by
    have : pE l 0 l.length = num (fun d => d % 2 = 0) l.length := num_congr fun d hd => ⟨fun x => x.2, fun x => ⟨hpq d hd, x⟩⟩
    rw [this]
    have := num_even (l.length / 2)
    rwa [show 2 * (l.length / 2) = l.length by omega] at this
  have eg : genusN l = G := by
    unfold genusN
    rw [h1]
    unfold genusTo pgen
    simp [h1, hG]
  rw [eV, eB, eE] at hE
  rw [eg]; exact hE
end
end Go.Proofs.Ytoncollcefanjaa
namespace Go.Proofs.Ytoncollcefanjaa
set_option maxRecDepth 20000
open Go.RowKit
set_option linter.unusedVariables false
noncomputable def sumN (f : Nat → Nat) (p : Nat) : Nat := ((List.range p).map f).sum
theorem sumN_next (f : Nat → Nat) (p : Nat) : sumN f (p + 1) = sumN f p + f p := by unfold sumN; rw [List.range_succ, List.map_append, List.sum_append]; simp
theorem sumN_congr {f g : Nat → Nat} : ∀ {p : Nat}, (∀ j, j < p → f j = g j) → sumN f p = sumN g p
  | 0, _ => rfl
  | p + 1, h => by rw [sumN_next, sumN_next, sumN_congr fun j hj => h j (by omega), h p (by omega)]
theorem sumN_inc {f g : Nat → Nat} {q : Nat} (hq : g q = f q + 1) (h : ∀ j, j ≠ q → g j = f j) : ∀ p, q < p → sumN g p = sumN f p + 1
  | 0, hp => absurd hp (by omega)
  | p + 1, hp => by
    rw [sumN_next, sumN_next]
    by_cases e : q = p
    · subst e
      rw [hq, sumN_congr (g := f) fun j hj => h j (by omega)]; omega
    · rw [sumN_inc hq h p (by omega), h p (fun c => e c.symm)]; omega
theorem sumN_zero (p : Nat) : sumN (fun _ => 0) p = 0 := by
  induction p with
  | zero => rfl
  | succ p ih => rw [sumN_next, ih]
theorem sum_parts {l : List Nat} {p n : Nat} (hp : ∀ d, d < n → pq l d < p) (S : Nat → Prop) : ∀ k, k ≤ n → sumN (fun j => num (fun d => pq l d = j ∧ S d) k) p = num S k
  | 0, _ => by
    have : ∀ Q : Nat → Prop, num Q 0 = 0 := fun Q => rfl
    rw [this]
    exact (sumN_congr fun j _ => this _).trans (sumN_zero p)
  | k + 1, hk => by
    have ih := sum_parts hp S k (by omega)
    by_cases s : S k
    · rw [(num_next S k).1 s, ← ih]
      exact sumN_inc (q := pq l k) ((num_next _ k).1 ⟨rfl, s⟩) (fun j hj => (num_next _ k).2 fun x => hj x.1.symm) p (hp k (by omega))
    · rw [(num_next S k).2 s, ← ih]
      exact sumN_congr fun j _ => (num_next _ k).2 fun x => s x.2
noncomputable def vcell (l : List Nat) (j : Nat) : Nat := if j < pN l then pV l j l.length else 1
noncomputable def ecell (l : List Nat) (j : Nat) : Nat := if j < pN l then pE l j l.length else 0
noncomputable def bcell (l : List Nat) (j : Nat) : Nat := if j < pN l then pB l j l.length else 1
theorem cell_1 (l : List Nat) (j : Nat) : pcL l (5 * j + 1) = vcell l j := by
  unfold pcL vcell
  rw [show (5 * j + 1) / 5 = j by omega, pc_1, if_neg (show ¬ (5 * j + 1) % 5 = 0 by omega), if_pos (show (5 * j + 1) % 5 = 1 by omega)]
  split <;> rfl
theorem cell_2 (l : List Nat) (j : Nat) : pcL l (5 * j + 2) = ecell l j := by
  unfold pcL ecell
  rw [show (5 * j + 2) / 5 = j by omega, pc_2, if_neg (show ¬ (5 * j + 2) % 5 = 0 by omega), if_neg (show ¬ (5 * j + 2) % 5 = 1 by omega), if_neg (show ¬ (5 * j + 2) % 5 = 3 by omega)]
  split <;> rfl
theorem cell_3 (l : List Nat) (j : Nat) : pcL l (5 * j + 3) = bcell l j := by
  unfold pcL bcell
  rw [show (5 * j + 3) / 5 = j by omega, pc_3, if_neg (show ¬ (5 * j + 3) % 5 = 0 by omega), if_neg (show ¬ (5 * j + 3) % 5 = 1 by omega), if_pos (show (5 * j + 3) % 5 = 3 by omega)]
  split <;> rfl
section
variable {l b : List Nat}
theorem cell_euler (h : Inv l b) (he : l.length % 2 = 0) (j : Nat) : vcell l j + bcell l j + 2 * pgen l j = ecell l j + 2 ∧ vcell l j ≤ l.length + 1 ∧ bcell l j ≤ l.length + 1 ∧ ecell l j ≤ l.length := by
  unfold vcell bcell ecell pgen
  by_cases hj : j < pN l
  · rw [if_pos hj, if_pos hj, if_pos hj, if_pos hj]
    obtain ⟨G, hG, hE⟩ := pG_is h he (phi_inv h he) hj
    rw [hG]
    have := pV_le l j l.length
    have := pE_le l j l.length
    have := pB_le l j l.length
    exact ⟨by simpa using hE, by omega, by omega, by omega⟩
  · rw [if_neg hj, if_neg hj, if_neg hj, if_neg hj]
    exact ⟨rfl, by omega, by omega, by omega⟩
theorem sum_lone {f : Nat → Nat} {p q : Nat} (h : ∀ j, p ≤ j → f j = q) : ∀ c, sumN f (p + c) = sumN f p + q * c
  | 0 => by simp
  | c + 1 => by rw [← Nat.add_assoc, sumN_next, sum_lone h c, h _ (by omega), Nat.mul_add]; omega
theorem sum_v (h : Inv l b) (he : l.length % 2 = 0) (c : Nat) : sumN (vcell l) (pN l + c) = (sizes l).length + c := by
  rw [sum_lone (q := 1) (fun j hj => by unfold vcell; rw [if_neg (by omega)]), Nat.one_mul]
  congr 1
  rw [sumN_congr (g := fun j => num (fun d => pq l d = j ∧ Leads l d) l.length) (fun j hj => by unfold vcell; rw [if_pos hj]; rfl), sum_parts (p := pN l) (n := l.length) (fun d hd => pq_lt h he hd hd) _ _ (Nat.le_refl _), num_leads h, sizes_is h]
theorem sum_b (h : Inv l b) (he : l.length % 2 = 0) (c : Nat) : sumN (bcell l) (pN l + c) = (sizes (phiL l)).length + c := by
  have hp := phi_inv h he
  rw [sum_lone (q := 1) (fun j hj => by unfold bcell; rw [if_neg (by omega)]), Nat.one_mul]
  congr 1
  have e := num_leads hp
  rw [phiL_len] at e
  rw [sumN_congr (g := fun j => num (fun d => pq l d = j ∧ Leads (phiL l) d) l.length) (fun j hj => by unfold bcell; rw [if_pos hj]; rfl), sum_parts (p := pN l) (n := l.length) (fun d hd => pq_lt h he hd hd) _ _ (Nat.le_refl _), e, sizes_is hp]
theorem sum_e (h : Inv l b) (he : l.length % 2 = 0) (c : Nat) : sumN (ecell l) (pN l + c) = l.length / 2 := by
  rw [sum_lone (q := 0) (fun j hj => by unfold ecell; rw [if_neg (by omega)]), Nat.zero_mul, Nat.add_zero]
  rw [sumN_congr (g := fun j => num (fun d => pq l d = j ∧ d % 2 = 0) l.length) (fun j hj => by unfold ecell; rw [if_pos hj]; rfl), sum_parts (p := pN l) (n := l.length) (fun d hd => pq_lt h he hd hd) _ _ (Nat.le_refl _)]
  have := num_even (l.length / 2)
  rwa [show 2 * (l.length / 2) = l.length by omega] at this
end
theorem sumN_le {f : Nat → Nat} {m : Nat} (h : ∀ j, f j ≤ m) : ∀ p, sumN f p ≤ p * m
  | 0 => by simp [sumN]
  | p + 1 => by rw [sumN_next, Nat.add_mul, Nat.one_mul]; have := sumN_le h p; have := h p; omega
end Go.Proofs.Ytoncollcefanjaa
namespace Go.Proofs.Ytoncollcefanjaa
set_option maxRecDepth 20000
open Go.RowKit Go.Maps
set_option linter.unusedVariables false
/-- How many of the first k edges are between a and c. -/
noncomputable def prN (l : List Nat) (a c k : Nat) : Nat := num (fun e => lowE l e = a ∧ highE l e = c) k
/-- How many of the first k edges, that are no loops, have one between the same two ahead. -/
noncomputable def dblN (l : List Nat) (k : Nat) : Nat := num (fun e => lowE l e ≠ highE l e ∧ 0 < prN l (lowE l e) (highE l e) e) k
def kP (a c : Nat) : Lit := .string (keyBytes [.int .i64 (a : Int), .int .i64 (c : Int)])
theorem wf_small (a : Nat) (h : a ≤ 1000000) : (Lit.int .i64 (a : Int)).wf = true := by simp [Lit.wf, IntKind.min, IntKind.max, IntKind.bits, IntKind.signed]; omega
theorem icells : Try.prog.cellsOf 3 = 1 := by kernel_rfl
theorem psize : ∃ m, Try.prog.types.size = m + 1 := ⟨Try.prog.types.size - 1, by kernel_rfl⟩
theorem plaid : laidOutB Try.prog = true := by kernel_rfl
theorem pzero (w : World) : (zeroValue 3).run Try.prog w = .ok (.int .i64 0) w := by kernel_rfl
structure PM (D : DataW Unit) (l : List Nat) (k : Nat) : Prop where
  isMap : Maps.IsMap D
  at_ : ∀ a c : Nat, a ≤ 1000000 → c ≤ 1000000 → a ≠ c → D.atKey (kP a c) (.lit (.int .i64 0)) = .lit (.int .i64 (prN l a c k : Nat))
theorem PM.zero (l : List Nat) : PM (.map []) l 0 := ⟨isMap_empty, fun a c _ _ _ => by simp [DataW.atKey, prN, num]⟩
theorem PM.loop {D : DataW Unit} {l : List Nat} {k : Nat} (h : PM D l k) (e : lowE l k = highE l k) : PM D l (k + 1) :=
  ⟨h.isMap, fun a c ha hc hne => by
    rw [h.at_ a c ha hc hne]
    unfold prN
    rw [(num_next _ k).2 (fun x => hne (by rw [← x.1, ← x.2, e]))]⟩
theorem pown_below {H : Type} {P : Program} {k : TypeId} {R : Value → Option (DataW H × List MemPlace)} {w w' : World} {b n : Nat} {D : DataW H} (h : w.ownsMap P k R b n D) (m : Below w.heap.size w w') : w'.ownsMap P k R b n D := by
  have hlt := h.lt
  obtain ⟨es, clock, hb, F, hs, hD⟩ := h
  exact ⟨es, clock, (m.block b hlt).trans hb, F, hs, hD⟩
theorem set_twice (w : World) (b : Nat) (o1 o2 : Obj) : ChangeMaps.setBlock (ChangeMaps.setBlock w b o1) b o2 = ChangeMaps.setBlock w b o2 := by
  unfold ChangeMaps.setBlock
  simp
theorem set_self (w : World) (b : Nat) (o : Obj) (h : w.heap[b]? = some o) : ChangeMaps.setBlock w b o = w := by
  obtain ⟨hlt, he⟩ := Array.getElem?_eq_some_iff.1 h
  have : w.heap.setIfInBounds b o = w.heap := by
    apply Array.ext
    · simp
    · intro i h1 h2
      rw [Array.getElem_setIfInBounds h2]
      split
      · subst_vars; rfl
      · rfl
  unfold ChangeMaps.setBlock
  rw [this]
theorem entry_look {H : Type} {P : Program} {k e t : TypeId} {w w1 : World} {R : Value → Option (DataW H × List MemPlace)} {b : Nat} {es : Array MapEntry} {clock : Nat} (K : WideMaps.KeyLaw P k) (ht : P.underlying t = some (.map k e)) {z : Value} (hz : ∀ u : World, (zeroValue e).run P u = .ok z u) (hb : w.heap[b]? = some (.map es clock)) (F : WideElems.Fit P k R es clock)
    {key : Value} {kl : Lit} (hkey : keyOf P k key = some kl) {v v' : Value} (hrun : (Instr.mapEntry t (.map (some b)) key).run P w = .ok v' w1) (hl : (Instr.lookup t (.map (some b)) key false).run P w = .ok v w) :
    (Instr.lookup t (.map (some b)) key false).run P w1 = .ok v w1 := by
  rcases K.find w hkey es.toList F.keys with ⟨h1, h2⟩ | ⟨j, e0, h1, h2, h3⟩
  · have r1 : (Instr.mapEntry t (.map (some b)) key).run P w = .ok (.tuple #[z, goInt clock]) (ChangeMaps.setBlock w b (.map (es.push ⟨key, z, clock⟩) (clock + 1))) := by
      simp [Instr.mapEntry, run_underlying ht, MapKept.run_getObj_map hb, K.check w false hkey, h1, hz, MapKept.run_setObj_map _ hb, Result.andThen, ChangeMaps.setBlock]
    have r2 : (Instr.lookup t (.map (some b)) key false).run P w = .ok z w := by
      simp [Instr.lookup, run_underlying ht, MapKept.run_getObj_map hb, K.check w _ hkey, h1, hz, Result.andThen]
    rw [r1] at hrun
    rw [r2] at hl
    simp only [Result.ok.injEq] at hrun hl
    obtain ⟨_, rfl⟩ := hrun
    obtain ⟨rfl, _⟩ := hl
    have hb1 := ChangeMaps.heap_setBlock_same hb (.map (es.push ⟨key, z, clock⟩) (clock + 1))
    rcases K.find (ChangeMaps.setBlock w b (.map (es.push ⟨key, z, clock⟩) (clock + 1))) hkey (es.push ⟨key, z, clock⟩).toList (fun x hx => by
      simp only [Array.toList_push, List.mem_append, List.mem_singleton] at hx
      rcases hx with hx | rfl
      · exact F.keys x hx
      · exact ⟨kl, hkey⟩) with ⟨f1, f2⟩ | ⟨j, e0, f1, f2, f3⟩
    · exact absurd rfl (f2 ⟨key, z, clock⟩ (by simp))
    · have hm := List.mem_of_getElem? f2
      simp only [Array.toList_push, List.mem_append, List.mem_singleton] at hm
      rcases hm with hm | rfl
      · exact absurd f3 (h2 e0 hm)
      · rw [Array.toList_push] at f1
        simp [Instr.lookup, run_underlying ht, MapKept.run_getObj_map hb1, K.check _ _ hkey, f1, Result.andThen]
  · have hj : es[j]? = some e0 := by simpa using h2
    have hsame : es.modify j (fun e => { e with key := key }) = es := by
      apply Array.ext'
      rw [Array.toList_modify, ChangeMaps.modify_eq_set _ _ _ _ h2]
      have : ({ e0 with key := key } : MapEntry) = e0 := by rw [← h3]
      rw [this]
      exact WideElems.set_self _ _ _ h2
    have r1 : (Instr.mapEntry t (.map (some b)) key).run P w = .ok (.tuple #[e0.val, goInt e0.born]) (ChangeMaps.setBlock w b (.map es clock)) := by
      simp [Instr.mapEntry, run_underlying ht, MapKept.run_getObj_map hb, K.check w false hkey, h1, hj, h3, K.stays w hkey, hsame, MapKept.run_setObj_map _ hb, Result.andThen, ChangeMaps.setBlock]
    rw [r1, set_self w b _ hb] at hrun
    simp only [Result.ok.injEq] at hrun
    obtain ⟨_, rfl⟩ := hrun
    exact hl
end Go.Proofs.Ytoncollcefanjaa
namespace Go.Proofs.Ytoncollcefanjaa
set_option maxRecDepth 20000
open Go.RowKit Go.Maps
set_option linter.unusedVariables false
theorem prN_le (l : List Nat) (a c k : Nat) : prN l a c k ≤ k := num_le _ _
/-- Is a map a triangulation. -/
def TriangN (l : List Nat) (lone : Nat) : Prop := pN l + lone = 1 ∧ 3 ≤ (sizes l).length + lone ∧ (∀ d, d < l.length → Tri l d) ∧ genusN l = 0 ∧ loopsN l (l.length / 2) = 0 ∧ dblN l (l.length / 2) = 0
def BoolPost (P : Prop) (w : World) (e : Ending) (w' : World) : Prop := ∃ r : Bool, e = .returned (.bool r) ∧ (r = true ↔ P) ∧ Below w.heap.size w w'
theorem BoolPost.yes {P : Prop} {w w' : World} {e : Ending} (he : e = .returned (.bool true)) (h : P) (hb : Below w.heap.size w w') : BoolPost P w e w' := ⟨true, he, ⟨fun _ => h, fun _ => rfl⟩, hb⟩
theorem BoolPost.no {P : Prop} {w w' : World} {e : Ending} (he : e = .returned (.bool false)) (h : ¬ P) (hb : Below w.heap.size w w') : BoolPost P w e w' := ⟨false, he, ⟨fun c => (by cases c), fun c => absurd c h⟩, hb⟩
/-! ### of nil -/
theorem parts_nil (w : World) : Calls Try.prog 44 #[.pointer none] w fun e w' => e = .returned (.slice none 0 0) ∧ Below w.heap.size w w' := by
  have EN := Lib.hid (enames_nil w)
  have LN := Lib.hid (fun W => lone_nil W)
  go_enter Try.func44, Try.ntmps44
  go_wp2_with fail
  refine EN.out.mono ?_
  rintro e w1 ⟨An, cn, rfl, hcn, hmn, hownn, hb1⟩
  have B1 := Lib.hid hb1
  clear hownn hb1
  go_wp2_with fail
  go_loopw [3, 4, 5, 14] (fun s3 s4 s5 i wr => s3 = .slice none 0 0 ∧ s4 = .int .i64 0 ∧ s5 = .int .i64 0 ∧ i = .int .i64 0 ∧ wr = w1) (fun _ _ _ _ _ => 0)
  case atStart => exact ⟨rfl, rfl, rfl, rfl, rfl⟩
  case round =>
    obtain ⟨rfl, rfl, rfl, rfl, rfl⟩ := hrel
    go_wp2_with fail
    go_loopw [74] (fun i wx => i = .int .i64 0 ∧ wx = wr) (fun _ _ => 0)
    case atStart => exact ⟨rfl, rfl⟩
    case round =>
      obtain ⟨rfl, rfl⟩ := hrel
      go_wp2_with (go_at_call 19; refine (LN.out _).mono ?_; rintro e w2 ⟨rfl, rfl⟩)
      go_loopw [3, 96] (fun s3 i wx => s3 = .slice none 0 0 ∧ i = .int .i64 0 ∧ wx = wr) (fun _ _ _ => 0)
      case atStart => exact ⟨rfl, rfl, rfl⟩
      case round =>
        obtain ⟨rfl, rfl, rfl⟩ := hrel
        go_wp2_with fail
        go_ret
        exact ⟨rfl, B1.out⟩
end Go.Proofs.Ytoncollcefanjaa
namespace Go.Proofs.Ytoncollcefanjaa
set_option maxRecDepth 20000
open Go.RowKit
set_option linter.unusedVariables false
/-! ### edges that are neither loops nor doubles -/
section
variable {l b : List Nat}
theorem leads_cls (h : Inv l b) : cls (Orb (sgL l)) (fun _ => True) l.length = metB l := by
  rw [← num_leads h]
  unfold cls num
  congr 1
  apply List.filter_congr
  intro d hd
  have hd : d < l.length := by simpa using hd
  rw [decide_eq_decide]
  have e := leads_least h (show d ≤ l.length by omega)
  exact ⟨fun x => e.2 x.2, fun x => ⟨trivial, e.1 x⟩⟩
theorem name_orb (h : Inv l b) {i j : Nat} (hi : i < l.length) (hj : j < l.length) (e : nameOf l i = nameOf l j) : Orb (sgL l) i j := by
  have hq := (sgL_pf h).eqv
  have key : ∀ x, x < l.length → Orb (sgL l) (lead l x) x := fun x hx => by
    obtain ⟨h1, h2, h3⟩ := lead_is h hx
    obtain ⟨t, et⟩ := (mem_orb h (by omega)).1 h3
    exact ⟨t, by rw [sgL_it]; exact et⟩
  have hl : lead l i = lead l j := by
    unfold nameOf at e
    obtain ⟨a1, a2, _⟩ := lead_is h hi
    obtain ⟨b1, b2, _⟩ := lead_is h hj
    rcases Nat.lt_trichotomy (lead l i) (lead l j) with c | c | c
    · have := leads_lt l _ _ a2 c; omega
    · exact c
    · have := leads_lt l _ _ b2 c; omega
  have li := (lead_is h hi).1
  have h1 := key i hi
  have h2 := key j hj
  rw [← hl] at h2
  exact hq.trans _ _ _ hi (by omega) hj (hq.symm _ _ (by omega) hi h1) h2
/-- Good edges: no loops, and none ahead between the same two. -/
def GoodE (l : List Nat) (e : Nat) : Prop := lowE l e ≠ highE l e ∧ ¬ 0 < prN l (lowE l e) (highE l e) e
theorem num_has {Q : Nat → Prop} : ∀ {k : Nat}, 0 < num Q k → ∃ e, e < k ∧ Q e
  | 0, h => by simp [num] at h
  | k + 1, h => by
    by_cases q : Q k
    · exact ⟨k, by omega, q⟩
    · rw [(num_next Q k).2 q] at h
      obtain ⟨e, h1, h2⟩ := num_has h
      exact ⟨e, by omega, h2⟩
theorem good_join (h : Inv l b) (he : l.length % 2 = 0) {e : Nat} (hE : e < l.length / 2) (hg : ¬ GoodE l e) : gk (sgL l) e (2 * e) (2 * e + 1) := by
  have hpf := sgL_pf h
  have hn : l.length = 2 * (l.length / 2) := by omega
  have hq := gk_eqv hpf hn e (by omega)
  have lift : ∀ i j, i < l.length → j < l.length → nameOf l i = nameOf l j → gk (sgL l) e i j := fun i j hi hj c => gk_mono _ (Nat.zero_le e) (show gk (sgL l) 0 i j from name_orb h hi hj c)
  by_cases c : lowE l e = highE l e
  · refine lift _ _ (by omega) (by omega) ?_
    unfold lowE highE at c
    omega
  · have c2 : 0 < prN l (lowE l e) (highE l e) e := Classical.byContradiction fun x => hg ⟨c, x⟩
    obtain ⟨f, hf, h1, h2⟩ := num_has c2
    have hj := gk_edge hpf f e hf
    unfold lowE at h1
    unfold highE at h2
    have hc : (nameOf l (2 * f) = nameOf l (2 * e) ∧ nameOf l (2 * f + 1) = nameOf l (2 * e + 1)) ∨ (nameOf l (2 * f) = nameOf l (2 * e + 1) ∧ nameOf l (2 * f + 1) = nameOf l (2 * e)) := by omega
    rcases hc with ⟨a1, a2⟩ | ⟨a1, a2⟩
    · exact hq.trans _ (2 * f + 1) _ (by omega) (by omega) (by omega) (hq.trans _ (2 * f) _ (by omega) (by omega) (by omega) (lift _ _ (by omega) (by omega) a1.symm) hj) (lift _ _ (by omega) (by omega) a2)
    · exact hq.trans _ (2 * f) _ (by omega) (by omega) (by omega) (hq.trans _ (2 * f + 1) _ (by omega) (by omega) (by omega) (lift _ _ (by omega) (by omega) a2.symm) (hq.symm _ _ (by omega) (by omega) hj)) (lift _ _ (by omega) (by omega) a1)
theorem edges_are (l : List Nat) : ∀ k, num (GoodE l) k + loopsN l k + dblN l k = k
  | 0 => rfl
  | k + 1 => by
    have ih := edges_are l k
    by_cases c : lowE l k = highE l k
    · have e1 := (loopsN_next l k).1 c
      have e2 : dblN l (k + 1) = dblN l k := (num_next _ k).2 fun x => x.1 c
      have e3 : num (GoodE l) (k + 1) = num (GoodE l) k := (num_next _ k).2 fun x => x.1 c
      omega
    · have e1 := (loopsN_next l k).2 c
      by_cases d : 0 < prN l (lowE l k) (highE l k) k
      · have e2 : dblN l (k + 1) = dblN l k + 1 := (num_next _ k).1 ⟨c, d⟩
        have e3 : num (GoodE l) (k + 1) = num (GoodE l) k := (num_next _ k).2 fun x => x.2 d
        omega
      · have e2 : dblN l (k + 1) = dblN l k := (num_next _ k).2 fun x => d x.2
        have e3 : num (GoodE l) (k + 1) = num (GoodE l) k + 1 := (num_next _ k).1 ⟨c, d⟩
        omega
/-- Of one part there are at most as many loops and doubles as edges more than a tree has. -/
theorem few_bad (h : Inv l b) (he : l.length % 2 = 0) : metB l + loopsN l (l.length / 2) + dblN l (l.length / 2) ≤ pN l + l.length / 2 := by
  have hpf := sgL_pf h
  have hn : l.length = 2 * (l.length / 2) := by omega
  have h1 := good_edges hpf hn (GoodE l) (fun e hE hg => good_join h he hE hg) (l.length / 2) (Nat.le_refl _)
  rw [leads_cls h] at h1
  have h2 := edges_are l (l.length / 2)
  have h3 : cls (gk (sgL l) (l.length / 2)) (fun _ => True) l.length = pN l := rfl
  omega
end
end Go.Proofs.Ytoncollcefanjaa
