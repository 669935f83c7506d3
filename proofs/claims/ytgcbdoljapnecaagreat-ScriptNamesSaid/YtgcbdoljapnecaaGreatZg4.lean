/- Darts put behind one another, and taken out: mathematics. How darts turn while a map grows: next, edge, link, put, take. -/
import Derived.Test.YtgcbdoljapnecaaGreatZg3
import Derived.Test.YtgcbdoljapnecaaGreatZDMap2
import Derived.BigQuiet
namespace Go.Proofs.YtgcbdoljapnecaaGreat
set_option maxRecDepth 20000
open Go.RowKit
set_option linter.unusedVariables false
theorem getDN_set' (y : List Nat) (k j : Nat) (v : Nat) (hk : k < y.length) : (y.set k v).getD j 0 = if j = k then v else y.getD j 0 := by
  by_cases e : j = k
  · subst e; simp [List.getD_eq_getElem?_getD, hk]
  · rw [if_neg e]; simp [List.getD_eq_getElem?_getD, Ne.symm e]
def edgL (l : List Nat) : List Nat := l ++ [l.length, l.length + 1]
def putL (l : List Nat) (d a : Nat) : List Nat := (l.set a d).set d (l.getD a 0)
def putB (l b : List Nat) (d a : Nat) : List Nat := (b.set d a).set (l.getD a 0) d
def takL (l b : List Nat) (d : Nat) : List Nat := (l.set (b.getD d 0) (l.getD d 0)).set d d
def takB (l b : List Nat) (d : Nat) : List Nat := (b.set (l.getD d 0) (b.getD d 0)).set d d
theorem edg_len (l : List Nat) : (edgL l).length = l.length + 2 := by simp [edgL]
theorem put_len (l : List Nat) (d a : Nat) : (putL l d a).length = l.length := by simp [putL]
theorem putB_len (l b : List Nat) (d a : Nat) : (putB l b d a).length = b.length := by simp [putB]
theorem tak_len (l b : List Nat) (d : Nat) : (takL l b d).length = l.length := by simp [takL]
theorem takB_len (l b : List Nat) (d : Nat) : (takB l b d).length = b.length := by simp [takB]
theorem edg_old (l : List Nat) {i : Nat} (hi : i < l.length) : sgL (edgL l) i = sgL l i := by
  show (edgL l).getD i 0 = l.getD i 0
  unfold edgL; simp [List.getD_eq_getElem?_getD, List.getElem?_append_left hi]
theorem edg_new (l : List Nat) {i : Nat} (h1 : l.length ≤ i) (h2 : i < l.length + 2) : sgL (edgL l) i = i := by
  show (edgL l).getD i 0 = i
  unfold edgL
  rw [List.getD_eq_getElem?_getD, List.getElem?_append_right h1]
  have : i = l.length ∨ i = l.length + 1 := by omega
  rcases this with rfl | rfl
  · simp
  · rw [show l.length + 1 - l.length = 1 by omega]; simp
section
variable {l b : List Nat}
theorem put_get (h : Inv l b) {d a : Nat} (hd : d < l.length) (ha : a < l.length) (al : sgL l d = d) (i : Nat) : sgL (putL l d a) i = sgL l (swp d a i) := by
  show (putL l d a).getD i 0 = _
  unfold putL
  rw [getDN_set' _ _ _ _ (by simpa using hd), getDN_set' _ _ _ _ ha]
  unfold swp
  by_cases c : i = d
  · rw [if_pos c, if_pos c]; rfl
  · rw [if_neg c, if_neg c]
    by_cases c2 : i = a
    · rw [if_pos c2, if_pos c2, al]
    · rw [if_neg c2, if_neg c2]; rfl
theorem putB_get (h : Inv l b) {d a : Nat} (hd : d < l.length) (ha : a < l.length) (al : sgL l d = d) {i : Nat} (hi : i < l.length) : sgL (putB l b d a) i = swp d a (sgL b i) := by
  show (putB l b d a).getD i 0 = _
  have hla := h.lt a ha
  have hbd : sgL b d = d := by have := h.lb d hd; rw [show l.getD d 0 = d from al] at this; exact this
  unfold putB
  rw [getDN_set' _ _ _ _ (by simp [h.len]; exact hla), getDN_set' _ _ _ _ (by rw [h.len]; exact hd)]
  unfold swp
  by_cases c : i = l.getD a 0
  · have : sgL b i = a := by rw [c]; exact h.lb a ha
    rw [if_pos c, this]
    by_cases c2 : a = d
    · rw [if_pos c2, c2]
    · rw [if_neg c2, if_pos rfl]
  · rw [if_neg c]
    by_cases c2 : i = d
    · rw [if_pos c2, c2, hbd, if_pos rfl]
    · have n1 : sgL b i ≠ d := fun q => c2 (by have := h.bl i hi; rw [show b.getD i 0 = d from q] at this; rw [← this]; exact al)
      have n2 : sgL b i ≠ a := fun q => c (by have := h.bl i hi; rw [show b.getD i 0 = a from q] at this; exact this.symm)
      rw [if_neg c2, if_neg n1, if_neg n2]; rfl
theorem put_inv (h : Inv l b) {d a : Nat} (hd : d < l.length) (ha : a < l.length) (al : sgL l d = d) : Inv (putL l d a) (putB l b d a) := by
  have g := put_get h hd ha al
  have gb := fun {i} (hi : i < l.length) => putB_get h hd ha al hi
  have hl := put_len l d a
  have sl := h.lt
  have sb := h.lt'
  refine ⟨by rw [putB_len, hl, h.len], fun i hi => ?_, fun i hi => ?_, fun i hi => ?_, fun i hi => ?_⟩
  all_goals rw [hl] at hi
  · show sgL _ i < _
    rw [g, hl]; exact sl _ (swp_lt hd ha hi)
  · show sgL _ i < _
    rw [gb hi, hl]; exact swp_lt hd ha (sb i hi)
  · show sgL _ (sgL _ i) = i
    have h1 := swp_lt hd ha hi
    have h2 : sgL l (swp d a i) < l.length := sl _ h1
    rw [g, gb h2]
    show swp d a (b.getD (l.getD _ 0) 0) = i
    rw [h.lb _ h1, swp_swp]
  · show sgL _ (sgL _ i) = i
    rw [g, gb hi, swp_swp]
    exact h.bl i hi
theorem tak_get (h : Inv l b) {d : Nat} (hd : d < l.length) (i : Nat) : sgL (takL l b d) i = sgL l (swp d (sgL b d) i) := by
  show (takL l b d).getD i 0 = _
  have hbl := h.lt' d hd
  unfold takL
  rw [getDN_set' _ _ _ _ (by simpa using hd), getDN_set' _ _ _ _ hbl]
  unfold swp
  by_cases c : i = d
  · rw [if_pos c, if_pos c]; exact (h.bl d hd).symm
  · rw [if_neg c, if_neg c]
    by_cases c2 : i = b.getD d 0
    · rw [if_pos c2, if_pos (show i = sgL b d from c2)]; rfl
    · rw [if_neg c2, if_neg (show ¬ i = sgL b d from c2)]; rfl
theorem takB_get (h : Inv l b) {d : Nat} (hd : d < l.length) {i : Nat} (hi : i < l.length) : sgL (takB l b d) i = swp d (sgL b d) (sgL b i) := by
  show (takB l b d).getD i 0 = _
  have hll := h.lt d hd
  unfold takB
  rw [getDN_set' _ _ _ _ (by simp [h.len]; exact hd), getDN_set' _ _ _ _ (by rw [h.len]; exact hll)]
  unfold swp
  by_cases c : i = d
  · rw [if_pos c, c]
    by_cases c2 : sgL b d = d
    · rw [if_pos c2, c2]
    · rw [if_neg c2, if_pos rfl]
  · rw [if_neg c]
    by_cases c2 : i = l.getD d 0
    · have : sgL b i = d := by rw [c2]; exact h.lb d hd
      rw [if_pos c2, this, if_pos rfl]; rfl
    · have n1 : sgL b i ≠ d := fun q => c2 (by have := h.bl i hi; rw [show b.getD i 0 = d from q] at this; exact this.symm)
      have n2 : sgL b i ≠ sgL b d := fun q => c (by
        have h1 := h.bl i hi
        have h2 := h.bl d hd
        rw [show b.getD i 0 = b.getD d 0 from q] at h1
        omega)
      rw [if_neg c2, if_neg n1, if_neg n2]; rfl
theorem tak_inv (h : Inv l b) {d : Nat} (hd : d < l.length) : Inv (takL l b d) (takB l b d) := by
  have g := tak_get h hd
  have gb := fun {i} (hi : i < l.length) => takB_get h hd hi
  have hl := tak_len l b d
  have sl := h.lt
  have sb := h.lt'
  have ha := sb d hd
  refine ⟨by rw [takB_len, hl, h.len], fun i hi => ?_, fun i hi => ?_, fun i hi => ?_, fun i hi => ?_⟩
  all_goals rw [hl] at hi
  · show sgL _ i < _
    rw [g, hl]; exact sl _ (swp_lt hd ha hi)
  · show sgL _ i < _
    rw [gb hi, hl]; exact swp_lt hd ha (sb i hi)
  · show sgL _ (sgL _ i) = i
    have h1 : swp d (sgL b d) i < l.length := swp_lt hd ha hi
    have h2 : sgL l (swp d (sgL b d) i) < l.length := sl _ h1
    rw [g, gb h2]
    show swp d _ (b.getD (l.getD _ 0) 0) = i
    rw [h.lb _ h1, swp_swp]
  · show sgL _ (sgL _ i) = i
    rw [g, gb hi, swp_swp]
    exact h.bl i hi
theorem tak_one (h : Inv l b) {d : Nat} (hd : d < l.length) : sgL (takL l b d) d = d := by
  rw [tak_get h hd]
  have : swp d (sgL b d) d = sgL b d := by unfold swp; rw [if_pos rfl]
  rw [this]; exact h.bl d hd
theorem edg_inv (h : Inv l b) : Inv (edgL l) (edgL b) := by
  have hl := edg_len l
  have hbl : b.length = l.length := h.len
  have gl : ∀ i, i < l.length + 2 → sgL (edgL l) i < l.length + 2 := fun i hi => by
    by_cases c : i < l.length
    · rw [edg_old l c]; have := h.lt i c; show l.getD i 0 < _; omega
    · rw [edg_new l (by omega) hi]; exact hi
  refine ⟨by rw [edg_len, edg_len, hbl], fun i hi => ?_, fun i hi => ?_, fun i hi => ?_, fun i hi => ?_⟩
  all_goals rw [hl] at hi
  · rw [hl]; exact gl i hi
  · rw [hl]
    show sgL (edgL b) i < _
    by_cases c : i < b.length
    · rw [edg_old b c]; have := h.lt' i (by omega); show b.getD i 0 < _; omega
    · rw [edg_new b (by omega) (by omega)]; exact hi
  · show sgL (edgL b) (sgL (edgL l) i) = i
    by_cases c : i < l.length
    · rw [edg_old l c, edg_old b (by have := h.lt i c; show l.getD i 0 < _; omega)]; exact h.lb i c
    · rw [edg_new l (by omega) hi, edg_new b (by omega) (by omega)]
  · show sgL (edgL l) (sgL (edgL b) i) = i
    by_cases c : i < b.length
    · rw [edg_old b c, edg_old l (by have := h.lt' i (by omega); show b.getD i 0 < _; omega)]; exact h.bl i (by omega)
    · rw [edg_new b (by omega) (by omega), edg_new l (by omega) hi]
/-- One that stands alone stays so when another is put elsewhere. -/
theorem put_other (h : Inv l b) {d a i : Nat} (hd : d < l.length) (ha : a < l.length) (al : sgL l d = d) (h1 : i ≠ d) (h2 : i ≠ a) : sgL (putL l d a) i = sgL l i := by
  rw [put_get h hd ha al]
  unfold swp
  rw [if_neg h1, if_neg h2]
theorem tak_other (h : Inv l b) {d i : Nat} (hd : d < l.length) (h1 : i ≠ d) (h2 : i ≠ sgL b d) : sgL (takL l b d) i = sgL l i := by
  rw [tak_get h hd]
  unfold swp
  rw [if_neg h1, if_neg h2]
end
end Go.Proofs.YtgcbdoljapnecaaGreat
namespace Go.Proofs.YtgcbdoljapnecaaGreat
set_option maxRecDepth 100000
open Go.RowKit
set_option linter.unusedVariables false
/-- Append by the run's equation. -/
theorem wpList_append_runG {P : Program} {w : World} {ops : Array Oper} {rest : List Oper} {o : Oper} {a : Act} {Q : Exit → Act → World → Prop} (hw : Region.wanted o (yielded ops a.tmps) = true) (s x : Operand) (t : TypeId)
    (ho : o.op = .call { callee := .builtin .append, args := #[s, x], argTypes := #[t, t] }) (v u v' : Value) (w' : World) (hs : a.eval s = v) (hx : a.eval x = u)
    (hr : (Builtin.append_ #[t, t] o.type #[v, u]).run P w = .ok v' w') (h : wpList P ops Q rest (a.put o.dst v') w') : wpList P ops Q (o :: rest) a w :=
  wpList_wanted hw fun K hK => by
    unfold Oper.wp execOp
    simp only [ho, resolve, invoke, builtin, Sem.run_bind, Sem.run_pure, Result.andThen_ok, List.map_toArray, List.map_cons, List.map_nil, hs, hx, hr]
    exact hK _ _ h
/-- At gx lie the turns l, and back b, in memory that is free (Fr). -/
def TurnsF (w : World) (Fr : Nat → Prop) (gx : Nat) (l b : List Nat) : Prop :=
  b.length = l.length ∧ Fr gx ∧ ∃ A c A' c', Blk w gx 139 #[.slice A l.length c, .slice A' l.length c'] ∧
    w.ownsRow 0 3 1 (.slice A l.length c) l.length (I64 (ofN l)) ∧ w.ownsRow 0 3 1 (.slice A' l.length c') l.length (I64 (ofN b)) ∧
    (∀ k, (Value.slice A l.length c).ownBlock = some k → (Value.slice A' l.length c').ownBlock ≠ some k) ∧
    (∀ k, (Value.slice A l.length c).ownBlock = some k → Fr k) ∧ (∀ k, (Value.slice A' l.length c').ownBlock = some k → Fr k)
def TurnsAt (w : World) (base gx : Nat) (l b : List Nat) : Prop := TurnsF w (fun k => base ≤ k) gx l b
theorem TurnsF.below {w w' : World} {Fr : Nat → Prop} {gx : Nat} {l b : List Nat} (h : TurnsF w Fr gx l b) (m : Below w.heap.size w w') : TurnsF w' Fr gx l b := by
  obtain ⟨h1, h2, A, c, A', c', hb, o1, o2, dj, d1, d2⟩ := h
  exact ⟨h1, h2, A, c, A', c', hb.below m, own_below o1 m, own_below o2 m, dj, d1, d2⟩
theorem TurnsF.drewN {w : World} {Fr : Nat → Prop} {gx : Nat} {l b : List Nat} (h : TurnsF w Fr gx l b) (n : Nat) : TurnsF (w.drewN n) Fr gx l b := h.below (below_draws (Below.refl _ _) n)
theorem TurnsAt.below {w w' : World} {base gx : Nat} {l b : List Nat} (h : TurnsAt w base gx l b) (m : Below w.heap.size w w') : TurnsAt w' base gx l b := TurnsF.below h m
/-- What is free may be less. -/
theorem TurnsF.mono {w : World} {Fr Fr' : Nat → Prop} {gx : Nat} {l b : List Nat} (h : TurnsF w Fr gx l b) (hs : ∀ k, k < w.heap.size → Fr k → Fr' k) : TurnsF w Fr' gx l b := by
  obtain ⟨h1, h2, A, c, A', c', hb, o1, o2, dj, d1, d2⟩ := h
  exact ⟨h1, hs _ hb.lt h2, A, c, A', c', hb, o1, o2, dj, fun k hk => hs _ (o1.lt k hk).2 (d1 k hk), fun k hk => hs _ (o2.lt k hk).2 (d2 k hk)⟩
theorem mod_self {S : Nat → Prop} {w w1 w2 : World} (h : Mod S w w1) (k : Mod S w1 w2) : Mod S w w2 := h.trans k fun _ _ q => q
theorem mod_drawsG {S : Nat → Prop} {w w1 : World} (h : Mod S w w1) (n : Nat) : Mod S w (w1.drewN n) := h.drewN n
theorem ofN_setG (l : List Nat) (k v : Nat) : ofN (l.set k v) = (ofN l).set k (v : Int) := by simp [ofN]
set_option maxHeartbeats 4000000 in
theorem gnextF_p (Fr : Nat → Prop) (gx : Nat) (l b : List Nat) (w : World) (h : TurnsF w Fr gx l b) :
    Calls Tryz.prog 103 #[.pointer (some ⟨gx, 0, none⟩)] w fun e w' => e = .returned (.int .i64 (l.length : Int)) ∧ w = w' := by
  obtain ⟨h1, h2, A, c, A', c', hb, o1, o2, dj, d1, d2⟩ := h
  have r0 := hb.cell 0
  simp at r0
  clear o1 o2 dj hb h1 h2 d1 d2
  go_enter Tryz.func103, Tryz.ntmps103
  go_wp2_with fail
  go_ret
  exact ⟨rfl, rfl⟩
set_option maxHeartbeats 4000000 in
theorem glinkF_p (Fr : Nat → Prop) (gx : Nat) (l b : List Nat) (f t : Nat) (w : World) (h : TurnsF w Fr gx l b) (hf : f < l.length) (ht : t < l.length) (hn : l.length ≤ 1000000) :
    Calls Tryz.prog 126 #[.pointer (some ⟨gx, 0, none⟩), .int .i64 (f : Int), .int .i64 (t : Int)] w fun e w' => e = .returned (.tuple #[]) ∧ TurnsF w' Fr gx (l.set f t) (b.set t f) ∧ Mod Fr w w' := by
  obtain ⟨h1, h2, A, c, A', c', hb, o1, o2, dj, d1, d2⟩ := h
  have r0 := hb.cell 0
  have r1 := hb.cell 1
  simp at r0 r1
  obtain ⟨gA, rfl, hgA, hgAw⟩ := own_some o1 (by omega)
  obtain ⟨gB, rfl, hgB, hgBw⟩ := own_some o2 (by omega)
  have hFA := d1 gA (by simp [Value.ownBlock])
  have hFB := d2 gB (by simp [Value.ownBlock])
  have nAB : gA ≠ gB := fun e => dj gA (by simp [Value.ownBlock]) (by simp [Value.ownBlock, e])
  have nAx : gA ≠ gx := fun e => own_ne o1 hb (by decide) (by simp [Value.ownBlock, e])
  have nBx : gB ≠ gx := fun e => own_ne o2 hb (by decide) (by simp [Value.ownBlock, e])
  have cA := own_cellI o1 f hf
  have cB := own_cellI o2 t ht
  have fA := o1.frozenAt f
  have fB := o2.frozenAt t
  have MA : Mod (fun i => i = gA) w (w.setCell ⟨gA, f, none⟩ (.int .i64 (t : Int))) := Mod.setCell (p := ⟨gA, f, none⟩) (Mod.refl (fun i => i = gA) w) (fun _ => rfl) _
  have cB' : (w.setCell ⟨gA, f, none⟩ (.int .i64 (t : Int))).cell? ⟨gB, t, none⟩ = some (.int .i64 ((ofN b).getD t 0)) := (MA.cell hgBw (Ne.symm nAB) t).trans cB
  have fB' : (w.setCell ⟨gA, f, none⟩ (.int .i64 (t : Int))).frozen? ⟨gB, t, none⟩ = false := (MA.frozen hgBw (Ne.symm nAB) t).trans fB
  have hgx := hb.lt
  have r1' : (w.setCell ⟨gA, f, none⟩ (.int .i64 (t : Int))).cell? ⟨gx, 1, none⟩ = some (.slice (some ⟨gB, 0, none⟩) l.length c') := (MA.cell hgx (Ne.symm nAx) 1).trans r1
  have FIN : Hid (TurnsF ((w.setCell ⟨gA, f, none⟩ (.int .i64 (t : Int))).setCell ⟨gB, t, none⟩ (.int .i64 (f : Int))) Fr gx (l.set f t) (b.set t f) ∧ Mod Fr w ((w.setCell ⟨gA, f, none⟩ (.int .i64 (t : Int))).setCell ⟨gB, t, none⟩ (.int .i64 (f : Int)))) := by
    have MB : Mod (fun i => i = gB) (w.setCell ⟨gA, f, none⟩ (.int .i64 (t : Int))) ((w.setCell ⟨gA, f, none⟩ (.int .i64 (t : Int))).setCell ⟨gB, t, none⟩ (.int .i64 (f : Int))) := Mod.setCell (p := ⟨gB, t, none⟩) (Mod.refl (fun i => i = gB) _) (fun _ => rfl) _
    refine ⟨⟨by simp [h1], h2, some ⟨gA, 0, none⟩, c, some ⟨gB, 0, none⟩, c', ?_, ?_, ?_, ?_, ?_, ?_⟩, ?_⟩
    · rw [List.length_set]
      exact (hb.mod MA (Ne.symm nAx)).mod MB (Ne.symm nBx)
    · rw [List.length_set, ofN_setG]
      exact own_mod (own_setI o1 f (t : Int)) MB (fun k hk e => by simp [Value.ownBlock] at hk; omega)
    · rw [List.length_set, ofN_setG]
      exact own_setI (own_mod o2 MA (fun k hk e => by simp [Value.ownBlock] at hk; omega)) t (f : Int)
    · rw [List.length_set]; exact dj
    · rw [List.length_set]; exact d1
    · rw [List.length_set]; exact d2
    · exact ((Mod.refl Fr w).setCell (p := ⟨gA, f, none⟩) (fun _ => hFA) _).setCell (p := ⟨gB, t, none⟩) (fun _ => hFB) _
  have hfi : (f : Int) < (l.length : Int) := by omega
  have hti : (t : Int) < (l.length : Int) := by omega
  clear o1 o2 dj hb h1 MA cB fB d1 d2
  go_enter Tryz.func126, Tryz.ntmps126
  go_wp2_with fail
  go_region
  all_goals (go_wp2_with fail)
  all_goals (
    refine bodyPost_end (results_none rfl _ _ _) rfl ?_
    exact ⟨rfl, FIN.out.1.drewN 1, mod_drawsG FIN.out.2 1⟩)
set_option maxHeartbeats 4000000 in
theorem gputF_p (Fr : Nat → Prop) (gx : Nat) (l b : List Nat) (d a : Nat) (w : World) (h : TurnsF w Fr gx l b) (hi : Inv l b) (hd : d < l.length) (ha : a < l.length) (hn : l.length ≤ 1000000) :
    Calls Tryz.prog 99 #[.pointer (some ⟨gx, 0, none⟩), .int .i64 (d : Int), .int .i64 (a : Int)] w fun e w' => e = .returned (.tuple #[]) ∧ TurnsF w' Fr gx (putL l d a) (putB l b d a) ∧ Mod Fr w w' := by
  have L1 := Lib.hid (glinkF_p Fr gx l b a d w h ha hd hn)
  have L2 : Hid (∀ W, TurnsF W Fr gx (l.set a d) (b.set d a) → Calls Tryz.prog 126 #[.pointer (some ⟨gx, 0, none⟩), .int .i64 (d : Int), .int .i64 ((l.getD a 0 : Nat) : Int)] W fun e w' => e = .returned (.tuple #[]) ∧ TurnsF w' Fr gx (putL l d a) (putB l b d a) ∧ Mod Fr W w') := fun W hW => by
    have := glinkF_p Fr gx (l.set a d) (b.set d a) d (l.getD a 0) W hW (by simpa using hd) (by simpa using hi.lt a ha) (by simpa using hn)
    exact this
  obtain ⟨h1, h2, A, c, A', c', hb, o1, o2, dj, d1, d2⟩ := h
  have r0 := hb.cell 0
  simp at r0
  obtain ⟨gA, rfl, hgA, hgAw⟩ := own_some o1 (by omega)
  have cA := own_cellI o1 a ha
  rw [ofN_get] at cA
  have hai : (a : Int) < (l.length : Int) := by omega
  clear o1 o2 dj hb h1 h2 hi d1 d2
  generalize l.getD a 0 = la at *
  go_enter Tryz.func99, Tryz.ntmps99
  go_wp2_with fail
  refine L1.out.mono ?_
  rintro e w1 ⟨rfl, t1, b1⟩
  have L3 := Lib.hid (L2.out w1 t1)
  have B1 := Lib.hid b1
  clear t1 b1 L1 L2
  go_wp2_with fail
  refine L3.out.mono ?_
  rintro e w2 ⟨rfl, t2, b2⟩
  have F := Lib.hid (And.intro t2 (mod_self B1.out b2))
  clear t2 b2 L3
  go_wp2_with fail
  refine bodyPost_end (results_none rfl _ _ _) rfl ?_
  exact ⟨rfl, F.out.1, F.out.2⟩
set_option maxHeartbeats 4000000 in
theorem gtakeF_p (Fr : Nat → Prop) (gx : Nat) (l b : List Nat) (d : Nat) (w : World) (h : TurnsF w Fr gx l b) (hi : Inv l b) (hd : d < l.length) (hn : l.length ≤ 1000000) :
    Calls Tryz.prog 102 #[.pointer (some ⟨gx, 0, none⟩), .int .i64 (d : Int)] w fun e w' => e = .returned (.tuple #[]) ∧ TurnsF w' Fr gx (takL l b d) (takB l b d) ∧ Mod Fr w w' := by
  have hlt := hi.lt d hd
  have hbt := hi.lt' d hd
  have L1 : Hid (Calls Tryz.prog 126 #[.pointer (some ⟨gx, 0, none⟩), .int .i64 ((b.getD d 0 : Nat) : Int), .int .i64 ((l.getD d 0 : Nat) : Int)] w.drew fun e w' => e = .returned (.tuple #[]) ∧ TurnsF w' Fr gx (l.set (b.getD d 0) (l.getD d 0)) (b.set (l.getD d 0) (b.getD d 0)) ∧ Mod Fr w.drew w') := glinkF_p Fr gx l b (b.getD d 0) (l.getD d 0) w.drew (h.drewN 1) hbt hlt hn
  have L2 : Hid (∀ W, TurnsF W Fr gx (l.set (b.getD d 0) (l.getD d 0)) (b.set (l.getD d 0) (b.getD d 0)) → Calls Tryz.prog 126 #[.pointer (some ⟨gx, 0, none⟩), .int .i64 (d : Int), .int .i64 (d : Int)] W fun e w' => e = .returned (.tuple #[]) ∧ TurnsF w' Fr gx (takL l b d) (takB l b d) ∧ Mod Fr W w') := fun W hW => by
    have := glinkF_p Fr gx _ _ d d W hW (by simpa using hd) (by simpa using hd) (by simpa using hn)
    exact this
  have HB : Hid (Mod Fr w w.drew) := (Mod.refl Fr w).drew
  obtain ⟨h1, h2, A, c, A', c', hb, o1, o2, dj, d1, d2⟩ := h
  have r0 := hb.cell 0
  have r1 := hb.cell 1
  simp at r0 r1
  obtain ⟨gA, rfl, hgA, hgAw⟩ := own_some o1 (by omega)
  obtain ⟨gB, rfl, hgB, hgBw⟩ := own_some o2 (by omega)
  have cA := own_cellI o1 d hd
  have cB := own_cellI o2 d hd
  rw [ofN_get] at cA cB
  have hdi : (d : Int) < (l.length : Int) := by omega
  clear o1 o2 dj hb h1 h2 hi d1 d2
  generalize l.getD d 0 = la at *
  generalize b.getD d 0 = ba at *
  go_enter Tryz.func102, Tryz.ntmps102
  go_wp2_with fail
  go_region_with (first
    | (go_at_call 126; (with_reducible refine L1.out.mono ?_); rintro e w1 ⟨rfl, t1, b1⟩; have L3 := Lib.hid (L2.out w1 t1); have B1 := Lib.hid (mod_self HB.out b1); clear t1 b1))
  all_goals (
    go_wp2_with fail
    refine L3.out.mono ?_
    rintro e w2 ⟨rfl, t2, b2⟩
    have F := Lib.hid (And.intro t2 (mod_self B1.out b2))
    clear t2 b2 L3
    go_wp2_with fail
    refine bodyPost_end (results_none rfl _ _ _) rfl ?_
    exact ⟨rfl, F.out.1, F.out.2⟩)
set_option maxHeartbeats 4000000 in
theorem gedgeF_p (Fr : Nat → Prop) (gx : Nat) (l b : List Nat) (w : World) (h : TurnsF w Fr gx l b) (hn : l.length ≤ 1000000) (hbw : ∀ k, w.heap.size ≤ k → Fr k) :
    Calls Tryz.prog 98 #[.pointer (some ⟨gx, 0, none⟩)] w fun e w' => e = .returned (.tuple #[.int .i64 (l.length : Int), .int .i64 ((l.length + 1 : Nat) : Int)]) ∧ TurnsF w' Fr gx (edgL l) (edgL b) ∧ Mod Fr w w' := by
  have NX := Lib.hid (gnextF_p Fr gx l b w h)
  obtain ⟨i0, hi0, hz0, hz1, hz2⟩ := info_parts info_int
  obtain ⟨h1, h2, A, c, A', c', hb, o1, o2, dj, d1, d2⟩ := h
  obtain ⟨n, hnl⟩ : ∃ n, n = l.length := ⟨_, rfl⟩
  obtain ⟨n1, hn1⟩ : ∃ n1, n1 = n + 1 := ⟨_, rfl⟩
  have e1 : (n : Int) + 1 = (n1 : Int) := by omega
  have we1 : IntKind.i64.wrap (n1 : Int) = (n1 : Int) := by simp [IntKind.wrap, IntKind.signed, IntKind.bits]; omega
  have HL : Hid (edgL l = l ++ [n, n1]) := by show _ = _; rw [hn1, hnl]; rfl
  have HLB : Hid (edgL b = b ++ [n, n1]) := by show _ = _; rw [hn1, hnl, ← h1]; rfl
  rw [← hnl] at NX o1 o2 hb dj d1 d2 hn
  have r0 := hb.cell 0
  have f0 := hb.frozen 0
  simp at r0
  have hI : I64 (ofN [n, n1]) = [.int .i64 (n : Int), .int .i64 (n1 : Int)] := by simp [I64, ofN]
  have hb1 := hb.alloc (.cells #[.int .i64 (n : Int), .int .i64 (n1 : Int)] 3)
  have hal : Below w.heap.size w (w.alloc (.cells #[.int .i64 (n : Int), .int .i64 (n1 : Int)] 3)) := (Below.refl _ _).alloc (Nat.le_refl _) _
  have hown1 := own_below o1 hal
  have rd := (Rd.new w 3 #[.int .i64 (n : Int), .int .i64 (n1 : Int)] 2 (I64 (ofN [n, n1])) (by rw [hI]) (by simp))
  obtain ⟨v', w1, hrun, hnew, hgr, hob⟩ := run_append_rd (P := Tryz.prog) (w.alloc (.cells #[.int .i64 (n : Int), .int .i64 (n1 : Int)] 3)) 0 29 29 3 i0 (.int .i64 0) 8 Tryz.underlying29 hi0 hz0 hz1 hz2 rfl _ n _ hown1 (w.heap.size + 1) (some ⟨w.heap.size, 0, none⟩) 2 2 (I64 (ofN [n, n1])) rd (I64_one _) (by simp only [maxLen]; omega) (by omega) (Nat.zero_le _)
  obtain ⟨A1, c1, ev, hc1, hm1⟩ := own_form hnew
  subst ev
  have MG := Mod.ofGrown hgr
  have hbx1 : Blk w1 gx 139 #[.slice A n c, .slice A' n c'] := hb1.mod MG (fun e => own_ne hown1 hb1 (by decide) e.symm)
  have o21 := own_mod (own_below o2 hal) MG (fun k hk e => dj k e.symm hk)
  have hbw1 : Mod Fr w w1 := mod_self ((Mod.refl Fr w).alloc _) (MG.mono (fun i _ q => d1 i q.symm))
  have dA1 : ∀ k, (Value.slice A1 (n + 2) c1).ownBlock = some k → Fr k := fun k hk => by
    rcases hob with q | q
    · exact d1 k (by rw [← q]; exact hk)
    · rw [hk] at q
      have := Option.some.inj q
      simp at this
      exact hbw k (by omega)
  -- the world behind the first store
  have MX : Mod (fun i => i = gx) w1 (w1.setCell ⟨gx, 0, none⟩ (.slice A1 (n + 2) c1)) := Mod.setCell (p := ⟨gx, 0, none⟩) (Mod.refl (fun i => i = gx) w1) (fun _ => rfl) _
  have hbx2 : Blk (w1.setCell ⟨gx, 0, none⟩ (.slice A1 (n + 2) c1)) gx 139 #[.slice A1 (n + 2) c1, .slice A' n c'] := by
    have := hbx1.set_ 0 (.slice A1 (n + 2) c1)
    simpa using this
  have o12 := own_mod hnew MX (fun k hk e => own_ne hnew hbx1 (by decide) (by rw [hk]; exact congrArg some e))
  have o22 := own_mod o21 MX (fun k hk e => own_ne o21 hbx1 (by decide) (by rw [hk]; exact congrArg some e))
  have hbw2 : Mod Fr w (w1.setCell ⟨gx, 0, none⟩ (.slice A1 (n + 2) c1)) := hbw1.setCell (p := ⟨gx, 0, none⟩) (fun _ => h2) _
  have f01 := hbx1.frozen 0
  have r01 := hbx1.cell 0
  simp at r01
  generalize hw2 : w1.setCell ⟨gx, 0, none⟩ (.slice A1 (n + 2) c1) = w2 at hbx2 o12 o22 hbw2
  have r12 := hbx2.cell 1
  simp at r12
  have hal2 : Below w2.heap.size w2 (w2.alloc (.cells #[.int .i64 (n : Int), .int .i64 (n1 : Int)] 3)) := (Below.refl _ _).alloc (Nat.le_refl _) _
  have hown2 := own_below o22 hal2
  have hb2 := hbx2.alloc (.cells #[.int .i64 (n : Int), .int .i64 (n1 : Int)] 3)
  have rd2 := (Rd.new w2 3 #[.int .i64 (n : Int), .int .i64 (n1 : Int)] 2 (I64 (ofN [n, n1])) (by rw [hI]) (by simp))
  have hs2 : w.heap.size ≤ w2.heap.size := hbw2.size
  obtain ⟨v2, w3, hrun2, hnew2, hgr2, hob2⟩ := run_append_rd (P := Tryz.prog) (w2.alloc (.cells #[.int .i64 (n : Int), .int .i64 (n1 : Int)] 3)) 0 29 29 3 i0 (.int .i64 0) 8 Tryz.underlying29 hi0 hz0 hz1 hz2 rfl _ n _ hown2 (w2.heap.size + 1) (some ⟨w2.heap.size, 0, none⟩) 2 2 (I64 (ofN [n, n1])) rd2 (I64_one _) (by simp only [maxLen]; omega) (by omega) (Nat.zero_le _)
  obtain ⟨A2, c2, ev2, hc2, hm2⟩ := own_form hnew2
  subst ev2
  have MG2 := Mod.ofGrown hgr2
  have hbx3 : Blk w3 gx 139 #[.slice A1 (n + 2) c1, .slice A' n c'] := hb2.mod MG2 (fun e => own_ne hown2 hb2 (by decide) e.symm)
  have dj1 : ∀ k, (Value.slice A1 (n + 2) c1).ownBlock = some k → (Value.slice A' n c').ownBlock ≠ some k := fun k hk hk2 => by
    rcases hob with q | q
    · exact dj k (by rw [← q]; exact hk) hk2
    · rw [hk] at q
      have := (o2.lt k hk2).2
      have := Option.some.inj q
      simp at this
      omega
  have o13 := own_mod (own_below o12 hal2) MG2 (fun k hk e => dj1 k hk e.symm)
  have hbw3 : Mod Fr w w3 := mod_self (hbw2.alloc _) (MG2.mono (fun i _ q => d2 i q.symm))
  have dA2 : ∀ k, (Value.slice A2 (n + 2) c2).ownBlock = some k → Fr k := fun k hk => by
    rcases hob2 with q | q
    · exact d2 k (by rw [← q]; exact hk)
    · rw [hk] at q
      have := Option.some.inj q
      simp at this
      exact hbw k (by omega)
  have MX3 : Mod (fun i => i = gx) w3 (w3.setCell ⟨gx, 1, none⟩ (.slice A2 (n + 2) c2)) := Mod.setCell (p := ⟨gx, 1, none⟩) (Mod.refl (fun i => i = gx) w3) (fun _ => rfl) _
  have hbx4 : Blk (w3.setCell ⟨gx, 1, none⟩ (.slice A2 (n + 2) c2)) gx 139 #[.slice A1 (n + 2) c1, .slice A2 (n + 2) c2] := by
    have := hbx3.set_ 1 (.slice A2 (n + 2) c2)
    simpa using this
  have o14 := own_mod o13 MX3 (fun k hk e => own_ne o13 hbx3 (by decide) (by rw [hk]; exact congrArg some e))
  have o24 := own_mod hnew2 MX3 (fun k hk e => own_ne hnew2 hbx3 (by decide) (by rw [hk]; exact congrArg some e))
  have hbw4 : Mod Fr w (w3.setCell ⟨gx, 1, none⟩ (.slice A2 (n + 2) c2)) := hbw3.setCell (p := ⟨gx, 1, none⟩) (fun _ => h2) _
  have dj4 : ∀ k, (Value.slice A1 (n + 2) c1).ownBlock = some k → (Value.slice A2 (n + 2) c2).ownBlock ≠ some k := fun k hk hk2 => by
    rcases hob2 with q | q
    · exact dj1 k hk (by rw [← q]; exact hk2)
    · rw [hk2] at q
      have := (o12.lt k hk).2
      have := Option.some.inj q
      simp at this
      omega
  have f13 := hbx3.frozen 1
  have r13 := hbx3.cell 1
  simp at r13
  have FIN : Hid (TurnsF (w3.setCell ⟨gx, 1, none⟩ (.slice A2 (n + 2) c2)) Fr gx (edgL l) (edgL b) ∧ Mod Fr w (w3.setCell ⟨gx, 1, none⟩ (.slice A2 (n + 2) c2))) := by
    have hle : (edgL l).length = n + 2 := by rw [edg_len, ← hnl]
    refine ⟨⟨by rw [edg_len, edg_len, h1], h2, A1, c1, A2, c2, ?_, ?_, ?_, ?_, ?_, ?_⟩, hbw4⟩
    · rw [hle]; exact hbx4
    · rw [hle, HL.out, ofN_append, I64_append]; exact o14
    · rw [hle, HLB.out, ofN_append, I64_append]; exact o24
    · rw [hle]; exact dj4
    · rw [hle]; exact dA1
    · rw [hle]; exact dA2
  have HE : Hid (((l.length + 1 : Nat) : Int) = (n1 : Int) ∧ (l.length : Int) = (n : Int)) := by constructor <;> omega
  clear d1 d2 dA1 dA2 hb hb1 hal hown1 rd hnew hgr hob MG hbx1 o21 hbw1 MX hbx2 o12 o22 hbw2 hal2 hown2 hb2 rd2 hs2 hnew2 hgr2 hob2 MG2 hbx3 dj1 o13 hbw3 MX3 hbx4 o14 o24 hbw4 dj4 o1 o2 dj hI hnl hn1 h1 HL HLB
  rw [HE.out.1, HE.out.2]
  clear HE
  go_enter Tryz.func98, Tryz.ntmps98
  go_wp2_with fail
  refine NX.out.mono ?_
  rintro e wx ⟨rfl, rfl⟩
  go_upto_region 4 with (first
    | (at_builtin; go_must (refine wpList_append_runG rfl _ _ _ rfl _ _ _ _ rfl rfl hrun ?_)))
  go_wp2_with (first
    | (at_builtin; go_must (refine wpList_append_runG rfl _ _ _ rfl _ _ _ _ rfl rfl hrun2 ?_)))
  go_ret2
  exact ⟨rfl, FIN.out.1, FIN.out.2⟩
theorem mod_belowG {base : Nat} {w w' : World} (h : Mod (fun k => base ≤ k) w w') (hb : base ≤ w.heap.size) : Below base w w' := h.belowB hb fun i hi q => by omega
theorem gnext_p (base gx : Nat) (l b : List Nat) (w : World) (h : TurnsAt w base gx l b) :
    Calls Tryz.prog 103 #[.pointer (some ⟨gx, 0, none⟩)] w fun e w' => e = .returned (.int .i64 (l.length : Int)) ∧ w = w' := gnextF_p _ gx l b w h
theorem gput_p (base gx : Nat) (l b : List Nat) (d a : Nat) (w : World) (h : TurnsAt w base gx l b) (hi : Inv l b) (hd : d < l.length) (ha : a < l.length) (hn : l.length ≤ 1000000) (hbw : base ≤ w.heap.size) :
    Calls Tryz.prog 99 #[.pointer (some ⟨gx, 0, none⟩), .int .i64 (d : Int), .int .i64 (a : Int)] w fun e w' => e = .returned (.tuple #[]) ∧ TurnsAt w' base gx (putL l d a) (putB l b d a) ∧ Below base w w' :=
  (gputF_p _ gx l b d a w h hi hd ha hn).mono fun e w' ⟨q1, q2, q3⟩ => ⟨q1, q2, mod_belowG q3 hbw⟩
theorem gtake_p (base gx : Nat) (l b : List Nat) (d : Nat) (w : World) (h : TurnsAt w base gx l b) (hi : Inv l b) (hd : d < l.length) (hn : l.length ≤ 1000000) (hbw : base ≤ w.heap.size) :
    Calls Tryz.prog 102 #[.pointer (some ⟨gx, 0, none⟩), .int .i64 (d : Int)] w fun e w' => e = .returned (.tuple #[]) ∧ TurnsAt w' base gx (takL l b d) (takB l b d) ∧ Below base w w' :=
  (gtakeF_p _ gx l b d w h hi hd hn).mono fun e w' ⟨q1, q2, q3⟩ => ⟨q1, q2, mod_belowG q3 hbw⟩
theorem gedge_p (base gx : Nat) (l b : List Nat) (w : World) (h : TurnsAt w base gx l b) (hn : l.length ≤ 1000000) (hbw : base ≤ w.heap.size) :
    Calls Tryz.prog 98 #[.pointer (some ⟨gx, 0, none⟩)] w fun e w' => e = .returned (.tuple #[.int .i64 (l.length : Int), .int .i64 ((l.length + 1 : Nat) : Int)]) ∧ TurnsAt w' base gx (edgL l) (edgL b) ∧ Below base w w' :=
  (gedgeF_p _ gx l b w h hn (fun k hk => Nat.le_trans hbw hk)).mono fun e w' ⟨q1, q2, q3⟩ => ⟨q1, q2, mod_belowG q3 hbw⟩
end Go.Proofs.YtgcbdoljapnecaaGreat
