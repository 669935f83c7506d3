/- The vertices' degrees, those without darts too; no program in sight. Counting by a Go map: what its datum is when the first k numbers' names have been counted; no walk. The document's Loops and Doubles. A triangulation of numbers is one by its counts: mathematics. A flip, four times: mathematics. -/
import Derived.Test.YthdmkcnclmgdlaaZg8
import Derived.Maps.OwnSet
import Derived.Test.YthdmkcnclmgdlaaZEGenR
import Derived.BigQuiet
import Derived.Test.YthdmkcnclmgdlaaZg5
import Derived.Test.YthdmkcnclmgdlaaZg3
import Derived.Test.YthdmkcnclmgdlaaZGOps2
namespace Go.Proofs.Ythdmkcnclmgdlaa
set_option maxRecDepth 20000
set_option linter.unusedVariables false

theorem sum_bump (f : Nat → Nat) (p m : Nat) : ((List.range m).map fun j => f j + (if p = j then 1 else 0)).sum = ((List.range m).map f).sum + (if p < m then 1 else 0) := by
  induction m with
  | zero => simp
  | succ m ih =>
    rw [List.range_succ, List.map_append, List.map_append, List.sum_append, List.sum_append, ih]
    simp only [List.map_cons, List.map_nil, List.sum_cons, List.sum_nil]
    by_cases h1 : p < m
    · rw [if_pos h1, if_neg (by omega), if_pos (by omega)]; omega
    · by_cases h2 : p = m
      · rw [if_neg h1, if_pos h2, if_pos (by omega)]; omega
      · rw [if_neg h1, if_neg h2, if_neg (by omega)]; omega
theorem degs_sum {l b : List Nat} (h : Inv l b) (M : Nat) (hM : (sizes l).length ≤ M) (k : Nat) (hk : k ≤ l.length) : (sizesTo l M k).sum = k := by
  induction k with
  | zero =>
    unfold sizesTo
    have : (List.range M).map (cntN l 0) = (List.range M).map fun _ => 0 := List.map_congr_left fun i _ => by simp [cntN]
    rw [this]
    have z : ∀ L : List Nat, (L.map fun _ => 0).sum = 0 := fun L => by
      induction L with
      | nil => rfl
      | cons a L ih => rw [List.map_cons, List.sum_cons, ih]
    exact z _
  | succ k ih =>
    have ih := ih (by omega)
    have e : sizesTo l (M) (k + 1) = (List.range M).map fun j => cntN l k j + (if nameOf l k = j then 1 else 0) := by
      unfold sizesTo
      exact List.map_congr_left fun i _ => cntN_next l k i
    rw [e, sum_bump]
    have h1 : nameOf l k < (sizes l).length := by rw [sizes_len]; exact name_lt h (by omega)
    rw [if_pos (by omega)]
    unfold sizesTo at ih
    rw [ih]
theorem degs_zero (l : List Nat) (M : Nat) : sizesTo l M 0 = List.replicate M 0 := by
  unfold sizesTo
  apply List.ext_getElem (by simp)
  intro i h1 h2
  simp [cntN]
theorem cnt_out {l b : List Nat} (h : Inv l b) (j : Nat) (hj : (sizes l).length ≤ j) : cntN l l.length j = 0 := by
  unfold cntN
  rw [List.length_eq_zero_iff, List.filter_eq_nil_iff]
  intro i hi
  rw [List.mem_range] at hi
  have := name_lt h hi
  rw [sizes_len] at hj
  simp; omega
theorem degs_get {l b : List Nat} (h : Inv l b) (q j : Nat) (hj : j < (sizes l).length + q) : (((sizesTo l ((sizes l).length + q) l.length).getD j 0 : Nat) : Int) = degOf l q j := by
  rw [sizesTo_get _ _ _ _ hj]
  unfold degOf
  rw [if_neg (by omega)]
  by_cases h1 : ((sizes l).length : Int) ≤ (j : Int)
  · rw [if_pos h1, cnt_out h j (by omega)]; rfl
  · rw [if_neg h1, Int.toNat_natCast]
    have hz : (sizes l).length = met l l.length := by unfold sizes; rw [sizesTo_len]
    unfold sizes
    rw [sizesTo_get _ _ _ _ (by omega)]
theorem sum_take (L : List Nat) (i : Nat) (h : i < L.length) : (L.take (i + 1)).sum = (L.take i).sum + L.getD i 0 := by
  rw [← List.take_append_getElem h, List.sum_append, List.getD_eq_getElem?_getD, List.getElem?_eq_getElem h]
  simp
theorem sum_take_le (L : List Nat) (i : Nat) : (L.take i).sum ≤ L.sum := by
  have h := congrArg List.sum (List.take_append_drop i L)
  rw [List.sum_append] at h
  omega
end Go.Proofs.Ythdmkcnclmgdlaa
namespace Go.Proofs.Ythdmkcnclmgdlaa
set_option maxRecDepth 20000
open Go.RowKit Go.Maps
set_option linter.unusedVariables false

theorem name_inj {l b : List Nat} (h : Inv l b) {x y : Nat} (hx : x < l.length) (hy : y < l.length) (e : nameOf l x = nameOf l y) : lead l x = lead l y := by
  have h1 := (lead_is h hx).2.1
  have h2 := (lead_is h hy).2.1
  rcases Nat.lt_trichotomy (lead l x) (lead l y) with hlt | heq | hgt
  · have := leads_lt l _ _ h1 hlt
    unfold nameOf at e; omega
  · exact heq
  · have := leads_lt l _ _ h2 hgt
    unfold nameOf at e; omega
theorem cnt_orb {l b : List Nat} (h : Inv l b) {d : Nat} (hd : d < l.length) : cntN l l.length (nameOf l d) = (orb l d).length := by
  unfold cntN
  apply List.Perm.length_eq
  refine (List.perm_ext_iff_of_nodup (List.Pairwise.filter _ List.nodup_range) (orb_nodup h hd)).2 fun x => ?_
  rw [List.mem_filter, List.mem_range, decide_eq_true_iff]
  constructor
  · rintro ⟨h1, h2⟩
    exact mem_of_lead h h1 hd (name_inj h h1 hd h2)
  · intro hx
    refine ⟨orb_lt h hd hx, ?_⟩
    unfold nameOf
    rw [lead_of_mem h hd hx]

def kI (j : Nat) : Lit := .int .i64 (j : Int)
theorem kI_ne {i j : Nat} (h : i ≠ j) : kI i ≠ kI j := by
  intro e
  unfold kI at e
  simp only [Lit.int.injEq, true_and] at e
  omega
theorem kI_key (j : Nat) : WideAt.IsKeyLit (kI j) := by
  unfold kI; simp [WideAt.IsKeyLit]
/-- The datum of a map that has counted the names of the first k numbers. -/
structure MC {H : Type} (D : DataW H) (l : List Nat) (k : Nat) : Prop where
  tidy : Tidy D
  has_ : ∀ j : Nat, Maps.has D (kI j) = decide (j < met l k)
  size_ : Maps.size D = met l k
  at_ : ∀ j : Nat, D.atKey (kI j) (.lit (.int .i64 0)) = .lit (.int .i64 ((cntN l k j : Nat) : Int))
theorem MC.zero {H : Type} (l : List Nat) : MC (H := H) (.map []) l 0 where
  tidy := tidy_empty
  has_ := fun j => by rw [met_zero]; simp [Maps.has]
  size_ := by rw [met_zero]; rfl
  at_ := fun j => by simp [DataW.atKey, cntN]
theorem MC.step {H : Type} {D : DataW H} {l b : List Nat} (hi : Inv l b) {k : Nat} (hk : k < l.length) (h : MC D l k) :
    MC (D.put (kI (nameOf l k)) (.lit (.int .i64 ((cntN l k (nameOf l k) : Nat) + 1 : Int)))) l (k + 1) where
  tidy := h.tidy.put (kI_key _) _
  has_ := fun j => by
    by_cases hj : j = nameOf l k
    · subst hj
      rw [has_put_same h.tidy.isMap (kI_key _)]
      exact (decide_eq_true (name_met hi hk (Nat.lt_succ_self k))).symm
    · rw [has_put_other (kI_ne hj), h.has_]
      rw [decide_eq_decide]
      by_cases hl : Leads l k
      · have := name_lead hi hk hl
        rw [met_lead l k hl]; omega
      · rw [met_not l k hl]
  size_ := by
    rw [size_put h.tidy, h.has_, h.size_]
    by_cases hl : Leads l k
    · have := name_lead hi hk hl
      rw [met_lead l k hl, if_neg (by simp; omega)]
    · have := name_not hi hk hl
      rw [met_not l k hl, if_pos (by simpa using this)]
  at_ := fun j => by
    by_cases hj : j = nameOf l k
    · subst hj
      rw [atKey_put_same h.tidy.isMap (kI_key _), cntN_next, if_pos rfl]; rfl
    · rw [atKey_put_other (kI_ne hj), h.at_, cntN_next, if_neg (fun e => hj e.symm)]; rfl
theorem own_map_below {H : Type} {P : Program} {k : TypeId} {R : Value → Option (DataW H × List MemPlace)} {w w' : World} {b n : Nat} {D : DataW H} (h : w.ownsMap P k R b n D) (m : Below w.heap.size w w') : w'.ownsMap P k R b n D := by
  have hlt := h.lt
  obtain ⟨es, clock, hb, F, hs, hD⟩ := h
  exact ⟨es, clock, (m.block b hlt).trans hb, F, hs, hD⟩
theorem mlaw : Keyed Try.prog 3 := int_keyed Try.underlying3
theorem mzero (w : World) : (zeroValue 3).run Try.prog w = .ok (.int .i64 0) w := by kernel_rfl
theorem mkey (j : Nat) (hj : j ≤ 1000000) : keyOf Try.prog 3 (.int .i64 (j : Int)) = some (kI j) := keyOf_int_mk Try.underlying3 (by simp [Lit.wf, IntKind.min, IntKind.max, IntKind.bits, IntKind.signed]; omega)
abbrev OwnM (w : World) (g n : Nat) (D : DataW Unit) : Prop := w.ownsMap Try.prog 3 (plainElem Try.prog 3) g n D
end Go.Proofs.Ythdmkcnclmgdlaa
namespace Go.Proofs.Ythdmkcnclmgdlaa
set_option maxRecDepth 20000
open Go.RowKit
set_option linter.unusedVariables false
section
variable {l b : List Nat}
/-- Does a dart ahead of k lie as d does. -/
def LikeD (l : List Nat) (d y : Nat) : Prop := nameOf l y = nameOf l d ∧ nameOf l (mateN y) = nameOf l (d + 1)
theorem like_iff (l : List Nat) (e : Nat) : (∃ y, y < 2 * e ∧ LikeD l (2 * e) y) ↔ 0 < prN l (lowE l e) (highE l e) e := by
  constructor
  · rintro ⟨y, hy, h1, h2⟩
    have hf : y / 2 < e := by omega
    refine Classical.byContradiction fun hn => ?_
    have h0 : prN l (lowE l e) (highE l e) e = 0 := by omega
    have key : ∀ k, k ≤ e → y / 2 < k → 0 < prN l (lowE l e) (highE l e) k := fun k => by
      induction k with
      | zero => intro _ h; omega
      | succ k ih =>
        intro hk hyk
        by_cases c : y / 2 = k
        · have : prN l (lowE l e) (highE l e) (k + 1) = prN l (lowE l e) (highE l e) k + 1 := by
            refine (num_next _ k).1 ?_
            unfold lowE highE
            rw [mateN_eq] at h2
            by_cases p : y % 2 = 0
            · rw [if_pos p] at h2
              have e1 : 2 * k = y := by omega
              have e2 : 2 * k + 1 = y + 1 := by omega
              rw [e1, h1, h2]
              exact ⟨rfl, rfl⟩
            · rw [if_neg p] at h2
              have e1 : 2 * k = y - 1 := by omega
              have e2 : y - 1 + 1 = y := by omega
              rw [e1, e2, h1, h2]
              exact ⟨Nat.min_comm _ _, Nat.max_comm _ _⟩
          omega
        · have := ih (by omega) (by omega)
          by_cases q : lowE l k = lowE l e ∧ highE l k = highE l e
          · have : prN l (lowE l e) (highE l e) (k + 1) = prN l (lowE l e) (highE l e) k + 1 := (num_next _ k).1 q
            omega
          · have : prN l (lowE l e) (highE l e) (k + 1) = prN l (lowE l e) (highE l e) k := (num_next _ k).2 q
            omega
    have := key e (Nat.le_refl _) hf
    omega
  · intro h
    obtain ⟨f, hf, h1, h2⟩ := num_has h
    unfold lowE at h1
    unfold highE at h2
    have hc : (nameOf l (2 * f) = nameOf l (2 * e) ∧ nameOf l (2 * f + 1) = nameOf l (2 * e + 1)) ∨ (nameOf l (2 * f) = nameOf l (2 * e + 1) ∧ nameOf l (2 * f + 1) = nameOf l (2 * e)) := by omega
    rcases hc with ⟨a1, a2⟩ | ⟨a1, a2⟩
    · refine ⟨2 * f, by omega, a1, ?_⟩
      rw [mateN_eq, if_pos (by omega)]; exact a2
    · refine ⟨2 * f + 1, by omega, a2, ?_⟩
      rw [mateN_eq, if_neg (by omega)]; exact a1
theorem loop_iff (l : List Nat) (e : Nat) : lowE l e = highE l e ↔ nameOf l (2 * e) = nameOf l (2 * e + 1) := by unfold lowE highE; omega
end
end Go.Proofs.Ythdmkcnclmgdlaa
namespace Go.Proofs.Ythdmkcnclmgdlaa
set_option maxRecDepth 20000
open Go.RowKit
set_option linter.unusedVariables false
set_option linter.unusedSimpArgs false
theorem sum3 : ∀ L : List Nat, (∀ x ∈ L, x = 3) → L.sum = 3 * L.length
  | [], _ => rfl
  | x :: L, h => by
    rw [List.sum_cons, List.length_cons, sum3 L (fun y hy => h y (List.mem_cons_of_mem _ hy)), h x (List.mem_cons_self ..)]
    omega
theorem num_ltG (V : Nat) : ∀ n, V ≤ n → num (fun k => k < V) n = V
  | 0, h => by have : V = 0 := by omega
               subst this; rfl
  | n + 1, h => by
    by_cases c : V ≤ n
    · rw [(num_next _ n).2 (by omega), num_ltG V n c]
    · have : V = n + 1 := by omega
      subst this
      rw [num_congr (S := fun _ => True) fun d hd => ⟨fun _ => trivial, fun _ => hd⟩]
      exact num_allG (n + 1)
where num_allG : ∀ k, num (fun _ => True) k = k
  | 0 => rfl
  | k + 1 => by rw [(num_next _ k).1 trivial, num_allG k]
section
variable {l b : List Nat} {v : Nat → Nat} {V : Nat}
theorem tg_verts (T : TG l.length (sgL l) v V) (h : Inv l b) : metB l = V := by
  have hpos := T.pos
  have hcnt := T.cnt
  have hVn : V ≤ l.length := by omega
  rw [← num_leads h]
  refine Nat.le_antisymm ?_ ?_
  · have := num_inj (A := fun d => Leads l d) (B := fun k => k < V) (n := l.length) v (fun x hx _ => ⟨by have := T.lab x hx; omega, T.lab x hx⟩) (fun x y hx hy hA hB e => by
      have := name_inj h hx hy ((T.name h hx hy).2 e)
      rwa [(leads_iff h hx).1 hA, (leads_iff h hy).1 hB] at this)
    rwa [num_ltG V _ hVn] at this
  · obtain ⟨f, hf⟩ : ∃ f : Nat → Nat, ∀ k, k < V → f k < l.length ∧ v (f k) = k := by
      refine ⟨fun k => if c : k < V then (T.sur k c).choose else 0, fun k hk => ?_⟩
      simp only [dif_pos hk]
      exact (T.sur k hk).choose_spec
    have hv : ∀ x, x < l.length → v (lead l x) = v x := fun x hx => by
      have h1 := lead_is h hx
      have hlx : lead l x < l.length := by omega
      refine (T.name h hlx hx).1 ?_
      have e : lead l (lead l x) = lead l x := (leads_iff h hlx).1 h1.2.1
      unfold nameOf
      rw [e]
    have := num_inj (A := fun k => k < V) (B := fun d => Leads l d) (n := l.length) (fun k => lead l (f k)) (fun x hx hA => by
      have h1 := lead_is h (hf x hA).1
      have h2 := (hf x hA).1
      exact ⟨by show lead l (f x) < _; omega, h1.2.1⟩) (fun x y hx hy hA hB e => by
      have e' : lead l (f x) = lead l (f y) := e
      have h1 := hv _ (hf x hA).1
      have h2 := hv _ (hf y hB).1
      rw [e', h2, (hf y hB).2, (hf x hA).2] at h1
      exact h1.symm)
    rwa [num_ltG V _ hVn] at this
theorem tg_faces (T : TG l.length (sgL l) v V) (h : Inv l b) : 3 * metB (phiL l) = l.length := by
  have hp := phi_inv h T.ev
  have hs := degs_sum hp (sizes (phiL l)).length (Nat.le_refl _) (phiL l).length (Nat.le_refl _)
  have e : sizesTo (phiL l) (sizes (phiL l)).length (phiL l).length = sizes (phiL l) := by
    have : (sizes (phiL l)).length = met (phiL l) (phiL l).length := by unfold sizes; rw [sizesTo_len]
    rw [this]; rfl
  rw [e, sum3 _ fun x hx => ?_, phiL_len] at hs
  · rw [← sizes_is hp]; exact hs
  · unfold sizes sizesTo at hx
    obtain ⟨j, hj, rfl⟩ := List.mem_map.1 hx
    rw [List.mem_range] at hj
    have hj' : j < (leads (phiL l) (phiL l).length).length := hj
    obtain ⟨d, hd⟩ : ∃ d, d = (leads (phiL l) (phiL l).length).getD j 0 := ⟨_, rfl⟩
    have hm : d ∈ leads (phiL l) (phiL l).length := by
      rw [hd, List.getD_eq_getElem?_getD, List.getElem?_eq_getElem hj']
      exact List.getElem_mem _
    unfold leads at hm
    rw [List.mem_filter, List.mem_range, decide_eq_true_iff] at hm
    have hn : nameOf (phiL l) d = j := by
      unfold nameOf
      rw [(leads_iff hp hm.1).1 hm.2, hd]
      exact leads_place _ _ _ hj'
    rw [← hn, cnt_orb hp hm.1]
    exact (tg_orb3 T h (by have := hm.1; rwa [phiL_len] at this)).1
theorem tg_part (T : TG l.length (sgL l) v V) (h : Inv l b) : ∀ d, d < l.length → part l 0 d := by
  have hq := part_eqv h T.ev
  refine fun x hx => T.conn (fun d => d < l.length → part l 0 d) (fun i hi s _ => ?_) (fun i hi s _ => ?_) (fun _ => hq.refl 0 T.pos) x hx hx
  · exact hq.trans _ _ _ T.pos hi (h.lt i hi) (s hi) (gk_sig (sgL_pf h) i _)
  · exact hq.trans _ _ _ T.pos hi (mt_ltn T.ev hi) (s hi) (gk_mt (sgL_pf h) (by have := T.ev; omega) i hi)
theorem tg_triang (T : TG l.length (sgL l) v V) (h : Inv l b) : TriangN l 0 := by
  obtain ⟨h1, h2⟩ := one_part h T.ev T.pos (tg_part T h)
  have hV := tg_verts T h
  have hF := tg_faces T h
  have hcnt := T.cnt
  have hpos := T.pos
  have hev := T.ev
  have nm : ∀ x y, x < l.length → y < l.length → (nameOf l x = nameOf l y ↔ v x = v y) := fun x y hx hy => T.name h hx hy
  refine ⟨by rw [h1], by rw [sizes_is h, hV]; omega, fun d hd => ?_, by omega, ?_, ?_⟩
  · have F := T.face hd
    have p1 : (phiL l).getD d 0 = sgL l (mt d) := phi_at l hd
    refine ⟨fun c => ?_, ?_⟩
    · rw [p1] at c
      exact F.d01 (congrArg v c.symm)
    · rw [p1]
      have p2 : (phiL l).getD (sgL l (mt d)) 0 = sgL l (mt (sgL l (mt d))) := phi_at l F.l1
      rw [p2]
      have p3 : (phiL l).getD (sgL l (mt (sgL l (mt d)))) 0 = sgL l (mt (sgL l (mt (sgL l (mt d))))) := phi_at l F.l2
      rw [p3]
      exact T.tri d hd
  · have : loopsN l (l.length / 2) = 0 := by
      unfold loopsN
      rw [List.length_eq_zero_iff, List.filter_eq_nil_iff]
      intro e he
      rw [List.mem_range] at he
      rw [decide_eq_true_iff, loop_iff]
      intro c
      have h3 := (nm _ _ (by omega) (by omega)).1 c
      refine T.noloop (2 * e) (by omega) ?_
      have : mt (2 * e) = 2 * e + 1 := by unfold mt; rw [if_pos (by omega)]
      rw [this]; exact h3.symm
    exact this
  · unfold dblN
    refine Nat.eq_zero_of_le_zero ?_
    have key : num (fun e => lowE l e ≠ highE l e ∧ 0 < prN l (lowE l e) (highE l e) e) (l.length / 2) = num (fun _ => False) (l.length / 2) := num_congr fun e he => ⟨fun ⟨_, c⟩ => by
      obtain ⟨y, hy, q1, q2⟩ := (like_iff l e).2 c
      have hyl : y < l.length := by omega
      have hm : mateN y < l.length := by rw [mt_mateN]; exact mt_ltn T.ev hyl
      have a1 := (nm _ _ hyl (by omega)).1 q1
      have a2 := (nm _ _ hm (by omega)).1 q2
      rw [mt_mateN] at a2
      have m2 : mt (2 * e) = 2 * e + 1 := by unfold mt; rw [if_pos (by omega)]
      have := T.simple y (2 * e) hyl (by omega) a1 (by rw [m2]; exact a2)
      omega, fun c => c.elim⟩
    rw [key]
    have : ∀ k, num (fun _ => False) k = 0 := fun k => by
      induction k with
      | zero => rfl
      | succ k ih => rw [(num_next _ k).2 (fun c => c), ih]
    rw [this]
    exact Nat.le_refl _
end
end Go.Proofs.Ythdmkcnclmgdlaa
namespace Go.Proofs.Ythdmkcnclmgdlaa
set_option maxRecDepth 20000
open Go.RowKit
set_option linter.unusedVariables false
set_option linter.unusedSimpArgs false
/-- The six turns about d's edge: the faces of d and of its mate are d, p, q and e, r, s. -/
structure Rot (l : List Nat) (d e p q r s : Nat) : Prop where
  ep : sgL l e = p
  pq : sgL l (mt p) = q
  qd : sgL l (mt q) = d
  dr : sgL l d = r
  rs : sgL l (mt r) = s
  se : sgL l (mt s) = e
/-- No two of the six are one. -/
structure Six (n d e p q r s : Nat) : Prop where
  me : e = mt d
  ln : d < n ∧ e < n ∧ p < n ∧ q < n ∧ r < n ∧ s < n
  de : d ≠ e
  dp : d ≠ p
  dq : d ≠ q
  dr : d ≠ r
  ds : d ≠ s
  ep : e ≠ p
  eq : e ≠ q
  er : e ≠ r
  es : e ≠ s
  pq : p ≠ q
  pr : p ≠ r
  ps : p ≠ s
  qr : q ≠ r
  qs : q ≠ s
  rs : r ≠ s
theorem Six.turn {n d e p q r s : Nat} (h : Six n d e p q r s) : Six n d e s p q r :=
  ⟨h.me, ⟨h.ln.1, h.ln.2.1, h.ln.2.2.2.2.2, h.ln.2.2.1, h.ln.2.2.2.1, h.ln.2.2.2.2.1⟩, h.de, h.ds, h.dp, h.dq, h.dr, h.es, h.ep, h.eq, h.er, h.ps.symm, h.qs.symm, h.rs.symm, h.pq, h.pr, h.qr⟩
section
variable {l b : List Nat} {d e p q r s : Nat}
theorem mt_injG {a c : Nat} (h : a ≠ c) : mt a ≠ mt c := fun k => h (by have := congrArg mt k; rwa [mt_mt, mt_mt] at this)
theorem mt_ltG {n a : Nat} (hn : n % 2 = 0) (ha : a < n) : mt a < n := by unfold mt; split <;> omega
/-- One flip turns the four others by one. -/
theorem flip_rot (h : Inv l b) (he : l.length % 2 = 0) (x : Six l.length d e p q r s) (R : Rot l d e p q r s) :
    Rot (flipL l b d) d e s p q r ∧ (flipL l b d).length = l.length ∧ Inv (flipL l b d) (flipB l b d) ∧ ∀ i, i ≠ d → i ≠ e → i ≠ mt p → i ≠ mt q → i ≠ mt r → i ≠ mt s → sgL (flipL l b d) i = sgL l i := by
  obtain ⟨hd, hel, hp, hq, hr, hs⟩ := x.ln
  have hme : mateN d = e := by rw [mt_mateN, x.me]
  have hmd : mt e = d := by rw [x.me, mt_mt]
  have lp := mt_ltG he hp
  have lq := mt_ltG he hq
  have lr := mt_ltG he hr
  have ls := mt_ltG he hs
  -- no mate is d or e
  have np : mt p ≠ d ∧ mt p ≠ e := ⟨fun k => x.ep (by rw [x.me, ← k, mt_mt]), fun k => x.dp (by rw [← hmd, ← k, mt_mt])⟩
  have nq : mt q ≠ d ∧ mt q ≠ e := ⟨fun k => x.eq (by rw [x.me, ← k, mt_mt]), fun k => x.dq (by rw [← hmd, ← k, mt_mt])⟩
  have nr : mt r ≠ d ∧ mt r ≠ e := ⟨fun k => x.er (by rw [x.me, ← k, mt_mt]), fun k => x.dr (by rw [← hmd, ← k, mt_mt])⟩
  have ns : mt s ≠ d ∧ mt s ≠ e := ⟨fun k => x.es (by rw [x.me, ← k, mt_mt]), fun k => x.ds (by rw [← hmd, ← k, mt_mt])⟩
  have mpq := mt_injG x.pq
  have mpr := mt_injG x.pr
  have mps := mt_injG x.ps
  have mqr := mt_injG x.qr
  have mqs := mt_injG x.qs
  have mrs := mt_injG x.rs
  have back : ∀ i j, i < l.length → sgL l i = j → sgL b j = i := fun i j hi k => by rw [← k]; exact h.lb i hi
  have bd := back _ _ lq R.qd
  have be := back _ _ ls R.se
  have bq := back _ _ lp R.pq
  have bs := back _ _ lr R.rs
  have ph : ∀ i, i < l.length → (phiL l).getD i 0 = sgL l (mt i) := fun i hi => phi_at l hi
  have o1 : oppN l d = q := by
    unfold oppN
    rw [ph d hd, ← x.me, R.ep, ph p hp, R.pq]
  have o2 : oppN l e = s := by
    unfold oppN
    rw [ph e hel, hmd, R.dr, ph r hr, R.rs]
  have f1 : flp l b d = mt p := by unfold flp; rw [o1]; exact bq
  have f2 : flp l b e = mt r := by unfold flp; rw [o2]; exact bs
  -- the first is taken out
  have g1 := fun i => tak_get h hd i
  have i1 := tak_inv h hd
  have n1 := tak_len l b d
  have gb1 := fun {i} (hi : i < l.length) => takB_get h hd hi
  rw [bd] at g1
  have bE : sgL (takB l b d) e = mt s := by
    rw [gb1 hel, be, bd]; unfold swp; rw [if_neg ns.1, if_neg mqs.symm]
  have g2 := fun i => tak_get (l := takL l b d) (b := takB l b d) i1 (d := e) (by rw [n1]; exact hel) i
  have i2 := tak_inv (l := takL l b d) (b := takB l b d) i1 (d := e) (by rw [n1]; exact hel)
  have n2 := tak_len (takL l b d) (takB l b d) e
  rw [bE] at g2
  rw [n1] at n2
  have d2 : sgL (takL (takL l b d) (takB l b d) e) d = d := by
    rw [g2]; unfold swp; rw [if_neg x.de, if_neg ns.1.symm, g1]; unfold swp; rw [if_pos rfl]; exact R.qd
  have e2 : sgL (takL (takL l b d) (takB l b d) e) e = e := tak_one (l := takL l b d) (b := takB l b d) i1 (by rw [n1]; exact hel)
  have g3 := fun i => put_get (l := takL (takL l b d) (takB l b d) e) (b := takB (takL l b d) (takB l b d) e) i2 (d := d) (a := mt p) (by rw [n2]; exact hd) (by rw [n2]; exact lp) d2 i
  have i3 := put_inv (l := takL (takL l b d) (takB l b d) e) (b := takB (takL l b d) (takB l b d) e) i2 (d := d) (a := mt p) (by rw [n2]; exact hd) (by rw [n2]; exact lp) d2
  have n3 := put_len (takL (takL l b d) (takB l b d) e) d (mt p)
  rw [n2] at n3
  have e3 : sgL (putL (takL (takL l b d) (takB l b d) e) d (mt p)) e = e := by
    rw [g3]; unfold swp; rw [if_neg x.de.symm, if_neg np.2.symm]; exact e2
  have g4 := fun i => put_get i3 (d := e) (a := mt r) (by rw [n3]; exact hel) (by rw [n3]; exact lr) e3 i
  have i4 := put_inv i3 (d := e) (a := mt r) (by rw [n3]; exact hel) (by rw [n3]; exact lr) e3
  have n4 := put_len (putL (takL (takL l b d) (takB l b d) e) d (mt p)) e (mt r)
  rw [n3] at n4
  have hF : flipL l b d = putL (putL (takL (takL l b d) (takB l b d) e) d (mt p)) e (mt r) := by
    unfold flipL fl3 fl2 fl1 fl1B
    rw [hme, f1, f2]
  have hG : flipB l b d = putB (putL (takL (takL l b d) (takB l b d) e) d (mt p)) (putB (takL (takL l b d) (takB l b d) e) (takB (takL l b d) (takB l b d) e) d (mt p)) e (mt r) := by
    unfold flipB fl3 fl3B fl2 fl2B fl1 fl1B
    rw [hme, f1, f2]
  rw [hF, hG]
  have all : ∀ i, sgL (putL (putL (takL (takL l b d) (takB l b d) e) d (mt p)) e (mt r)) i = sgL l (swp d (mt q) (swp e (mt s) (swp d (mt p) (swp e (mt r) i)))) := fun i => by rw [g4, g3, g2, g1]
  refine ⟨⟨?_, ?_, ?_, ?_, ?_, ?_⟩, n4, i4, fun i k1 k2 k3 k4 k5 k6 => ?_⟩
  · rw [all]
    have a1 : swp e (mt r) e = mt r := by unfold swp; rw [if_pos rfl]
    have a2 : swp d (mt p) (mt r) = mt r := by unfold swp; rw [if_neg nr.1, if_neg mpr.symm]
    have a3 : swp e (mt s) (mt r) = mt r := by unfold swp; rw [if_neg nr.2, if_neg mrs]
    have a4 : swp d (mt q) (mt r) = mt r := by unfold swp; rw [if_neg nr.1, if_neg mqr.symm]
    rw [a1, a2, a3, a4]; exact R.rs
  · rw [all]
    have a1 : swp e (mt r) (mt s) = mt s := by unfold swp; rw [if_neg ns.2, if_neg mrs.symm]
    have a2 : swp d (mt p) (mt s) = mt s := by unfold swp; rw [if_neg ns.1, if_neg mps.symm]
    have a3 : swp e (mt s) (mt s) = e := by unfold swp; rw [if_neg ns.2, if_pos rfl]
    have a4 : swp d (mt q) e = e := by unfold swp; rw [if_neg x.de.symm, if_neg nq.2.symm]
    rw [a1, a2, a3, a4]; exact R.ep
  · rw [all]
    have a1 : swp e (mt r) (mt p) = mt p := by unfold swp; rw [if_neg np.2, if_neg mpr]
    have a2 : swp d (mt p) (mt p) = d := by unfold swp; rw [if_neg np.1, if_pos rfl]
    have a3 : swp e (mt s) d = d := by unfold swp; rw [if_neg x.de, if_neg ns.1.symm]
    have a4 : swp d (mt q) d = mt q := by unfold swp; rw [if_pos rfl]
    rw [a1, a2, a3, a4]; exact R.qd
  · rw [all]
    have a1 : swp e (mt r) d = d := by unfold swp; rw [if_neg x.de, if_neg nr.1.symm]
    have a2 : swp d (mt p) d = mt p := by unfold swp; rw [if_pos rfl]
    have a3 : swp e (mt s) (mt p) = mt p := by unfold swp; rw [if_neg np.2, if_neg mps]
    have a4 : swp d (mt q) (mt p) = mt p := by unfold swp; rw [if_neg np.1, if_neg mpq]
    rw [a1, a2, a3, a4]; exact R.pq
  · rw [all]
    have a1 : swp e (mt r) (mt q) = mt q := by unfold swp; rw [if_neg nq.2, if_neg mqr]
    have a2 : swp d (mt p) (mt q) = mt q := by unfold swp; rw [if_neg nq.1, if_neg mpq.symm]
    have a3 : swp e (mt s) (mt q) = mt q := by unfold swp; rw [if_neg nq.2, if_neg mqs]
    have a4 : swp d (mt q) (mt q) = d := by unfold swp; rw [if_neg nq.1, if_pos rfl]
    rw [a1, a2, a3, a4]; exact R.dr
  · rw [all]
    have a1 : swp e (mt r) (mt r) = e := by unfold swp; rw [if_neg nr.2, if_pos rfl]
    have a2 : swp d (mt p) e = e := by unfold swp; rw [if_neg x.de.symm, if_neg np.2.symm]
    have a3 : swp e (mt s) e = mt s := by unfold swp; rw [if_pos rfl]
    have a4 : swp d (mt q) (mt s) = mt s := by unfold swp; rw [if_neg ns.1, if_neg mqs.symm]
    rw [a1, a2, a3, a4]; exact R.se
  · rw [all]
    unfold swp
    simp only [if_neg k1, if_neg k2, if_neg k3, if_neg k4, if_neg k5, if_neg k6]
/-- What can be flipped has two triangles, apart. -/
theorem flips_six (h : Inv l b) (he : l.length % 2 = 0) (hd : d < l.length) (hf : Flips l d) : ∃ p q r s, Six l.length d (mt d) p q r s ∧ Rot l d (mt d) p q r s := by
  obtain ⟨t1, t2, hne⟩ := hf
  have hp := phi_inv h he
  have hlen := phiL_len l
  have hm := mt_ltG he hd
  rw [mt_mateN] at t2 hne
  have tri : ∀ a, a < l.length → TriD l a → ∃ p q, p < l.length ∧ q < l.length ∧ sgL l (mt a) = p ∧ sgL l (mt p) = q ∧ sgL l (mt q) = a ∧ a ≠ p ∧ p ≠ q ∧ a ≠ q ∧ nameOf (phiL l) p = nameOf (phiL l) a ∧ nameOf (phiL l) q = nameOf (phiL l) a := fun a ha ht => by
    have h3 : per (phiL l) a = 3 := by
      have : (orb (phiL l) a).length = per (phiL l) a := by unfold orb; exact way_len _ _ _
      unfold TriD at ht; omega
    have hap : a < (phiL l).length := by rw [hlen]; exact ha
    obtain ⟨p1, p2, p3⟩ := per_is hp hap
    have l1 := it_lt hp hap 1
    have l2 := it_lt hp hap 2
    rw [hlen] at l1 l2
    have i1 : it (phiL l) 1 a = sgL l (mt a) := phi_at l ha
    have i2 : it (phiL l) 2 a = sgL l (mt (sgL l (mt a))) := by
      show (phiL l).getD (it (phiL l) 1 a) 0 = _
      rw [i1]; rw [i1] at l1; exact phi_at l l1
    have i3 : it (phiL l) 3 a = sgL l (mt (sgL l (mt (sgL l (mt a))))) := by
      show (phiL l).getD (it (phiL l) 2 a) 0 = _
      rw [i2]; rw [i2] at l2; exact phi_at l l2
    have a1 := p3 1 (by omega)
    have a2 := p3 2 (by omega)
    rw [h3] at p2
    have hn : ∀ k, nameOf (phiL l) (it (phiL l) k a) = nameOf (phiL l) a := fun k => by
      have hk := it_lt hp hap k
      have : it (phiL l) k a ∈ orb (phiL l) a := (mem_orb hp hap).2 ⟨k, rfl⟩
      unfold nameOf
      rw [lead_of_mem hp hap this]
    refine ⟨it (phiL l) 1 a, it (phiL l) 2 a, l1, l2, i1.symm, by rw [i1, i2], ?_, fun k => a1 (by omega) k.symm, fun k => ?_, fun k => a2 (by omega) k.symm, hn 1, hn 2⟩
    · rw [i2, ← i3]; exact p2
    · have : it (phiL l) 3 a = it (phiL l) 2 a := by
        show (phiL l).getD (it (phiL l) 2 a) 0 = (phiL l).getD (it (phiL l) 1 a) 0
        rw [← k]
      rw [p2] at this
      exact a2 (by omega) this.symm
  obtain ⟨p, q, lp, lq, e1, e2, e3, n1, n2, n3, m1, m2⟩ := tri d hd t1
  obtain ⟨r, s, lr, ls, f1, f2, f3, k1, k2, k3, j1, j2⟩ := tri (mt d) hm t2
  rw [mt_mt] at f1
  have dif : ∀ a c, nameOf (phiL l) a = nameOf (phiL l) d → nameOf (phiL l) c = nameOf (phiL l) (mt d) → a ≠ c := fun a c x y k => hne (by rw [← x, k, y])
  exact ⟨p, q, r, s, ⟨rfl, ⟨hd, hm, lp, lq, lr, ls⟩, dif _ _ rfl rfl, n1, n3, dif _ _ rfl j1, dif _ _ rfl j2, (dif _ _ m1 rfl).symm, (dif _ _ m2 rfl).symm, k1, k3, n2, dif _ _ m1 j1, dif _ _ m1 j2, dif _ _ m2 j1, dif _ _ m2 j2, k2⟩, ⟨e1, e2, e3, f1, f2, f3⟩⟩
/-- Four flips are none. -/
theorem flip_four (h : Inv l b) (he : l.length % 2 = 0) (x : Six l.length d e p q r s) (R : Rot l d e p q r s) :
    ∃ l1 b1 l2 b2 l3 b3, l1 = flipL l b d ∧ b1 = flipB l b d ∧ l2 = flipL l1 b1 d ∧ b2 = flipB l1 b1 d ∧ l3 = flipL l2 b2 d ∧ b3 = flipB l2 b2 d ∧ Inv l1 b1 ∧ Inv l2 b2 ∧ Inv l3 b3 ∧ l1.length = l.length ∧ l2.length = l.length ∧ l3.length = l.length ∧ flipL l3 b3 d = l := by
  obtain ⟨R1, n1, i1, o1⟩ := flip_rot h he x R
  obtain ⟨R2, n2, i2, o2⟩ := flip_rot i1 (by rw [n1]; exact he) (by rw [n1]; exact x.turn) R1
  obtain ⟨R3, n3, i3, o3⟩ := flip_rot i2 (by rw [n2, n1]; exact he) (by rw [n2, n1]; exact x.turn.turn) R2
  obtain ⟨R4, n4, i4, o4⟩ := flip_rot i3 (by rw [n3, n2, n1]; exact he) (by rw [n3, n2, n1]; exact x.turn.turn.turn) R3
  refine ⟨_, _, _, _, _, _, rfl, rfl, rfl, rfl, rfl, rfl, i1, i2, i3, n1, by rw [n2, n1], by rw [n3, n2, n1], ?_⟩
  refine getD_ext (by rw [n4, n3, n2, n1]) fun i hi => ?_
  show sgL _ i = sgL l i
  by_cases k1 : i = d
  · rw [k1, R4.dr, R.dr]
  by_cases k2 : i = e
  · rw [k2, R4.ep, R.ep]
  by_cases k3 : i = mt p
  · rw [k3, R4.pq, R.pq]
  by_cases k4 : i = mt q
  · rw [k4, R4.qd, R.qd]
  by_cases k5 : i = mt r
  · rw [k5, R4.rs, R.rs]
  by_cases k6 : i = mt s
  · rw [k6, R4.se, R.se]
  rw [o4 i k1 k2 k4 k5 k6 k3, o3 i k1 k2 k5 k6 k3 k4, o2 i k1 k2 k6 k3 k4 k5, o1 i k1 k2 k3 k4 k5 k6]
end
end Go.Proofs.Ythdmkcnclmgdlaa
