/- A struct in a block of its own, some of whose fields are rows of its own, no two in one block. The library's Delete and Insert of parts, in place. -/
import Derived.Test.YtgcbdoljapnecaaGreatZg1
import Derived.Test.YtgcbdoljapnecaaGreatZPMake
import Derived.BigQuiet
import Derived.Lib.Overlaps
import Derived.Laws.CopyRow
import Derived.Laws.AppendOwn
import Derived.Lib.SliceRun
import Derived.BigRegion
import Derived.Deep.RegionWith
import Derived.Deep.RegionLaw
namespace Go.Proofs.YtgcbdoljapnecaaGreat
set_option maxRecDepth 100000
open Go.RowKit
set_option linter.unusedVariables false
set_option linter.unusedSimpArgs false
theorem wpList_append_runR {P : Program} {w : World} {ops : Array Oper} {rest : List Oper} {o : Oper} {a : Act} {Q : Exit → Act → World → Prop} (hw : Region.wanted o (yielded ops a.tmps) = true) (s x : Operand) (t : TypeId)
    (ho : o.op = .call { callee := .builtin .append, args := #[s, x], argTypes := #[t, t] }) (v u v' : Value) (w' : World) (hs : a.eval s = v) (hx : a.eval x = u)
    (hr : (Builtin.append_ #[t, t] o.type #[v, u]).run P w = .ok v' w') (h : wpList P ops Q rest (a.put o.dst v') w') : wpList P ops Q (o :: rest) a w :=
  wpList_wanted hw fun K hK => by
    unfold Oper.wp execOp
    simp only [ho, resolve, invoke, builtin, Sem.run_bind, Sem.run_pure, Result.andThen_ok, List.map_toArray, List.map_cons, List.map_nil, hs, hx, hr]
    exact hK _ _ h
abbrev RowX := Option (TypeId × List Value)
/-- At g lies a struct of the cells vs; where xs tells a row, that cell is a slice of a row of its own. -/
structure RowsR (w : World) (Fr : Nat → Prop) (g : Nat) (T : TypeId) (vs : List Value) (xs : List RowX) : Prop where
  bx : Blk w g T vs.toArray
  own : ∀ i t x, xs.getD i none = some (t, x) → w.ownsRow 0 t 1 (vs.getD i (.bool false)) x.length x
  ap : ∀ i j, i ≠ j → xs.getD i none ≠ none → xs.getD j none ≠ none → ∀ k, (vs.getD i (.bool false)).ownBlock = some k → (vs.getD j (.bool false)).ownBlock ≠ some k
  ng : ∀ i, xs.getD i none ≠ none → (vs.getD i (.bool false)).ownBlock ≠ some g
  frg : Fr g
  fr : ∀ i k, xs.getD i none ≠ none → (vs.getD i (.bool false)).ownBlock = some k → Fr k
theorem getD_setR {α : Type} (l : List α) (i j : Nat) (x d : α) (hi : i < l.length) : (l.set i x).getD j d = if j = i then x else l.getD j d := by
  rw [List.getD_eq_getElem?_getD, List.getD_eq_getElem?_getD, List.getElem?_set]
  by_cases h : i = j
  · subst h; simp [hi]
  · simp [h, Ne.symm h]
theorem getD_ltR {l : List RowX} {i : Nat} {v : TypeId × List Value} (h : l.getD i none = some v) : i < l.length := by
  rcases Nat.lt_or_ge i l.length with h1 | h1
  · exact h1
  · rw [List.getD_eq_getElem?_getD, List.getElem?_eq_none h1] at h; cases h
section
variable {w w' : World} {Fr Fr' : Nat → Prop} {g : Nat} {T : TypeId} {vs : List Value} {xs : List RowX}
theorem RowsR.ownLt (h : RowsR w Fr g T vs xs) {i k : Nat} (hx : xs.getD i none ≠ none) (hk : (vs.getD i (.bool false)).ownBlock = some k) : k < w.heap.size := by
  cases e : xs.getD i none with
  | none => exact absurd e hx
  | some p => exact ((h.own i p.1 p.2 e).lt k hk).2
theorem RowsR.mod {S : Nat → Prop} (h : RowsR w Fr g T vs xs) (m : Mod S w w') (hS : ∀ k, S k → ¬ Fr k) : RowsR w' Fr g T vs xs :=
  ⟨h.bx.mod m (fun c => hS _ c h.frg), fun i t x e => own_mod (h.own i t x e) m fun k hk c => hS _ c (h.fr i k (by rw [e]; simp) hk), h.ap, h.ng, h.frg, h.fr⟩
theorem RowsR.below (h : RowsR w Fr g T vs xs) (m : Below w.heap.size w w') : RowsR w' Fr g T vs xs :=
  ⟨h.bx.below m, fun i t x e => own_below (h.own i t x e) m, h.ap, h.ng, h.frg, h.fr⟩
theorem RowsR.drewN (h : RowsR w Fr g T vs xs) (n : Nat) : RowsR (w.drewN n) Fr g T vs xs := h.below (below_draws (Below.refl _ _) n)
theorem RowsR.mono (h : RowsR w Fr g T vs xs) (hs : ∀ k, k < w.heap.size → Fr k → Fr' k) : RowsR w Fr' g T vs xs :=
  ⟨h.bx, h.own, h.ap, h.ng, hs _ h.bx.lt h.frg, fun i k hx hk => hs _ (h.ownLt hx hk) (h.fr i k hx hk)⟩
/-- A cell of a row is set. -/
theorem RowsR.put (h : RowsR w Fr g T vs xs) (i : Nat) {t : TypeId} {x : List Value} {b n c : Nat} (hx : xs.getD i none = some (t, x)) (hv : vs.getD i (.bool false) = .slice (some ⟨b, 0, none⟩) n c) (hn : x.length = n) (j : Nat) (u : Value) :
    RowsR (w.setCell ⟨b, j, none⟩ u) Fr g T vs (xs.set i (some (t, x.set j u))) ∧ Mod (fun k => k = b) w (w.setCell ⟨b, j, none⟩ u) ∧ Mod Fr w (w.setCell ⟨b, j, none⟩ u) := by
  have hil := getD_ltR hx
  have hob : (vs.getD i (.bool false)).ownBlock = some b := by rw [hv]; simp [Value.ownBlock]
  have hne : xs.getD i none ≠ none := by rw [hx]; simp
  have M : Mod (fun k => k = b) w (w.setCell ⟨b, j, none⟩ u) := Mod.setCell (p := ⟨b, j, none⟩) (Mod.refl (fun k => k = b) w) (fun _ => rfl) u
  have same : ∀ j', (xs.set i (some (t, x.set j u))).getD j' none ≠ none → xs.getD j' none ≠ none := fun j' hj' => by
    rw [getD_setR _ _ _ _ _ hil] at hj'
    by_cases e : j' = i
    · rw [e]; exact hne
    · rwa [if_neg e] at hj'
  refine ⟨⟨h.bx.mod M (fun c => h.ng i hne (by rw [hob, c])), fun i' t' x' e => ?_, fun i' j' hij h1 h2 => h.ap i' j' hij (same i' h1) (same j' h2), fun i' h1 => h.ng i' (same i' h1), h.frg, fun i' k h1 => h.fr i' k (same i' h1)⟩, M, M.mono fun k _ c => by rw [c]; exact h.fr i b hne hob⟩
  rw [getD_setR _ _ _ _ _ hil] at e
  by_cases ei : i' = i
  · rw [if_pos ei] at e
    simp only [Option.some.injEq, Prod.mk.injEq] at e
    obtain ⟨rfl, rfl⟩ := e
    have o := h.own i _ _ hx
    rw [hv] at o
    rw [ei, hv, List.length_set, hn]
    rw [hn] at o
    exact (o.stored j u).1
  · rw [if_neg ei] at e
    exact own_mod (h.own i' t' x' e) M fun k hk c => h.ap i i' (Ne.symm ei) hne (by rw [e]; simp) b hob (by rw [hk, c])
/-- A field that is no row is set. -/
theorem RowsR.fld (h : RowsR w Fr g T vs xs) (i : Nat) (hx : xs.getD i none = none) (u : Value) : RowsR (w.setCell ⟨g, i, none⟩ u) Fr g T (vs.set i u) xs ∧ Mod Fr w (w.setCell ⟨g, i, none⟩ u) := by
  have M : Mod (fun k => k = g) w (w.setCell ⟨g, i, none⟩ u) := Mod.setCell (p := ⟨g, i, none⟩) (Mod.refl (fun k => k = g) w) (fun _ => rfl) u
  have same : ∀ j, xs.getD j none ≠ none → (vs.set i u).getD j (.bool false) = vs.getD j (.bool false) := fun j hj => by
    have : j ≠ i := fun c => hj (by rw [c]; exact hx)
    rw [List.getD_eq_getElem?_getD, List.getD_eq_getElem?_getD, List.getElem?_set_ne (Ne.symm this)]
  refine ⟨⟨?_, fun i' t' x' e => ?_, fun i' j' hij h1 h2 => ?_, fun i' h1 => ?_, h.frg, fun i' k h1 => ?_⟩, M.mono fun k _ c => by rw [c]; exact h.frg⟩
  · have := h.bx.set_ i u
    rwa [List.setIfInBounds_toArray] at this
  · rw [same i' (by rw [e]; simp)]
    exact own_mod (h.own i' t' x' e) M fun k hk c => h.ng i' (by rw [e]; simp) (by rw [hk, c])
  · rw [same i' h1, same j' h2]; exact h.ap i' j' hij h1 h2
  · rw [same i' h1]; exact h.ng i' h1
  · rw [same i' h1]; exact h.fr i' k h1
/-- A row has grown, in its own block or in a new one, and its field is set. -/
theorem RowsR.app (h : RowsR w Fr g T vs xs) (i : Nat) {t : TypeId} {x y : List Value} (hx : xs.getD i none = some (t, x)) (hiv : i < vs.length) {w1 w2 : World} {v' : Value} (hb : Below w.heap.size w w1)
    (ho : w2.ownsRow 0 t 1 v' y.length y) (hg : w1.grownBy w2 (vs.getD i (.bool false)).ownBlock) (hat : v'.ownBlock = (vs.getD i (.bool false)).ownBlock ∨ v'.ownBlock = some w1.heap.size) (hFr : ∀ k, w.heap.size ≤ k → Fr k) :
    Blk w2 g T vs.toArray ∧ RowsR (w2.setCell ⟨g, i, none⟩ v') Fr g T (vs.set i v') (xs.set i (some (t, y))) ∧ Mod Fr w (w2.setCell ⟨g, i, none⟩ v') := by
  have hil := getD_ltR hx
  have hne : xs.getD i none ≠ none := by rw [hx]; simp
  have h1 := h.below hb
  have MG := Mod.ofGrown hg
  have hgw := h.bx.lt
  have bx2 : Blk w2 g T vs.toArray := h1.bx.mod MG (fun c => h.ng i hne c.symm)
  have MX : Mod (fun k => k = g) w2 (w2.setCell ⟨g, i, none⟩ v') := Mod.setCell (p := ⟨g, i, none⟩) (Mod.refl (fun k => k = g) w2) (fun _ => rfl) v'
  have new : ∀ k, v'.ownBlock = some k → (vs.getD i (.bool false)).ownBlock = some k ∨ w.heap.size ≤ k := fun k hk => by
    rcases hat with q | q
    · exact .inl (by rw [← q]; exact hk)
    · rw [hk] at q
      have := Option.some.inj q
      exact .inr (by have := hb.size; omega)
  have gv : ∀ j, (vs.set i v').getD j (.bool false) = if j = i then v' else vs.getD j (.bool false) := fun j => getD_setR _ _ _ _ _ hiv
  have same : ∀ j, (xs.set i (some (t, y))).getD j none ≠ none → xs.getD j none ≠ none := fun j hj => by
    rw [getD_setR _ _ _ _ _ hil] at hj
    by_cases e : j = i
    · rw [e]; exact hne
    · rwa [if_neg e] at hj
  have nv : v'.ownBlock ≠ some g := fun c => by
    rcases new g c with q | q
    · exact h.ng i hne q
    · omega
  have apn : ∀ j, j ≠ i → xs.getD j none ≠ none → ∀ k, v'.ownBlock = some k → (vs.getD j (.bool false)).ownBlock ≠ some k := fun j hj hjx k hk c => by
    rcases new k hk with q | q
    · exact h.ap i j (Ne.symm hj) hne hjx k q c
    · have := h.ownLt hjx c; omega
  refine ⟨bx2, ⟨?_, fun i' t' x' e => ?_, fun i' j' hij q1 q2 k hk => ?_, fun i' q1 => ?_, h.frg, fun i' k q1 hk => ?_⟩, ?_⟩
  · have := bx2.set_ i v'
    rwa [List.setIfInBounds_toArray] at this
  · rw [getD_setR _ _ _ _ _ hil] at e
    rw [gv]
    by_cases ei : i' = i
    · rw [if_pos ei] at e
      simp only [Option.some.injEq, Prod.mk.injEq] at e
      obtain ⟨rfl, rfl⟩ := e
      rw [if_pos ei]
      exact own_mod ho MX fun k hk c => nv (by rw [hk, c])
    · rw [if_neg ei] at e
      rw [if_neg ei]
      have hx' : xs.getD i' none ≠ none := by rw [e]; simp
      exact own_mod (own_mod (h1.own i' t' x' e) MG fun k hk c => h.ap i i' (Ne.symm ei) hne hx' k c.symm hk) MX fun k hk c => h.ng i' hx' (by rw [hk, c])
  · rw [gv] at hk
    rw [gv]
    by_cases e1 : i' = i
    · rw [if_pos e1] at hk
      rw [if_neg (fun c => hij (e1.trans c.symm))]
      exact apn j' (fun c => hij (e1.trans c.symm)) (same j' q2) k hk
    · rw [if_neg e1] at hk
      by_cases e2 : j' = i
      · rw [if_pos e2]
        exact fun c => apn i' e1 (same i' q1) k c hk
      · rw [if_neg e2]; exact h.ap i' j' hij (same i' q1) (same j' q2) k hk
  · rw [gv]
    by_cases e1 : i' = i
    · rw [if_pos e1]; exact nv
    · rw [if_neg e1]; exact h.ng i' (same i' q1)
  · rw [gv] at hk
    by_cases e1 : i' = i
    · rw [if_pos e1] at hk
      rcases new k hk with q | q
      · exact h.fr i k hne q
      · exact hFr k q
    · rw [if_neg e1] at hk; exact h.fr i' k (same i' q1) hk
  · refine Mod.setCell (p := ⟨g, i, none⟩) ?_ (fun _ => h.frg) v'
    exact (Mod.mono (Mod.none_ hb (fun _ => False)) (fun _ _ c => c.elim)).trans (MG.mono fun k _ c => h.fr i k hne c.symm) fun _ _ q => q
theorem ofN_snocR (L : List Nat) (x : Nat) : I64 (ofN (L ++ [x])) = I64 (ofN L) ++ [.int .i64 (x : Int)] := by simp [I64, ofN]
theorem lenR (L : List Nat) : (I64 (ofN L)).length = L.length := by simp [I64, ofN]
/-- A number is put behind a row of ints: the append's run, and what is then. -/
theorem RowsR.push (h : RowsR w Fr g T vs xs) (i : Nat) {L : List Nat} (hx : xs.getD i none = some (3, I64 (ofN L))) (hiv : i < vs.length) {A : Option Addr} {c : Nat} (hv : vs.getD i (.bool false) = .slice A L.length c) (x : Nat) (hL : L.length ≤ 1000000) (hFr : ∀ k, w.heap.size ≤ k → Fr k) :
    ∃ A1 c1 w1, (Builtin.append_ #[29, 29] 29 #[.slice A L.length c, .slice (some ⟨w.heap.size, 0, none⟩) 1 1]).run Tryz.prog (w.alloc (.cells #[.int .i64 (x : Int)] 3)) = .ok (.slice A1 (L.length + 1) c1) w1 ∧
      Blk w1 g T vs.toArray ∧ RowsR (w1.setCell ⟨g, i, none⟩ (.slice A1 (L.length + 1) c1)) Fr g T (vs.set i (.slice A1 (L.length + 1) c1)) (xs.set i (some (3, I64 (ofN (L ++ [x]))))) ∧ Mod Fr w (w1.setCell ⟨g, i, none⟩ (.slice A1 (L.length + 1) c1)) := by
  obtain ⟨i0, hi0, hz0, hz1, hz2⟩ := info_parts info_int
  have hal : Below w.heap.size w (w.alloc (.cells #[.int .i64 (x : Int)] 3)) := (Below.refl _ _).alloc (Nat.le_refl _) _
  have ho := h.own i _ _ hx
  rw [lenR, hv] at ho
  have ho1 := own_below ho hal
  have rd := Rd.new w 3 #[.int .i64 (x : Int)] 1 [.int .i64 (x : Int)] rfl rfl
  obtain ⟨v', w1, hrun, hnew, hgr, hob⟩ := run_append_rd (P := Tryz.prog) (w.alloc (.cells #[.int .i64 (x : Int)] 3)) 0 29 29 3 i0 (.int .i64 0) 8 Tryz.underlying29 hi0 hz0 hz1 hz2 rfl _ L.length _ ho1 (w.heap.size + 1) (some ⟨w.heap.size, 0, none⟩) 1 1 _ rd (by simp [Value.oneCell']) (by simp only [maxLen]; omega) (by omega) (Nat.zero_le _)
  obtain ⟨A1, c1, rfl, hc1, hm1⟩ := own_form hnew
  have hnew' : w1.ownsRow 0 3 1 (.slice A1 (L.length + 1) c1) (I64 (ofN (L ++ [x]))).length (I64 (ofN (L ++ [x]))) := by
    rw [ofN_snocR, List.length_append, lenR]; exact hnew
  have := h.app i hx hiv hal hnew' (by rw [hv]; exact hgr) (by rw [hv]; exact hob) hFr
  exact ⟨A1, c1, w1, hrun, this.1, this.2.1, this.2.2⟩
theorem RowsR.rd (h : RowsR w Fr g T vs xs) (i : Nat) {t : TypeId} {x : List Value} {A : Option Addr} {n c : Nat} (hx : xs.getD i none = some (t, x)) (hv : vs.getD i (.bool false) = .slice A n c) (hn : x.length = n) : Rd w w.heap.size A n x := by
  have o := h.own i _ _ hx
  rw [hv, hn] at o
  exact Rd.ofOwn o
end
end Go.Proofs.YtgcbdoljapnecaaGreat
namespace Go.Proofs.YtgcbdoljapnecaaGreat
set_option maxRecDepth 100000
open Go.RowKit
set_option linter.unusedVariables false
set_option linter.unusedSimpArgs false
theorem info_cpart : (Tryz.prog.info? 150).map (fun i => (i.zero, i.size, i.bytes)) = some (some (.agg #[.int .i64 0, .slice none 0 0]), 2, 32) := by kernel_rfl
theorem run_copy2 {P : Program} (w : World) (dT sT ty elem : TypeId) (g o dLen dCap : Nat) (a : Addr) (sLen sCap : Nat) (cur : Array Value) (t : TypeId) (cs : List Value) (size : Nat) (i : TypeInfo)
    (hu : P.underlying dT = some (.slice elem)) (hq : P.info? elem = some i) (hi : i.size = size)
    (hg : w.heap[g]? = some (.cells cur t (0, 0))) (hn : cs.length = Nat.min sLen dLen * size)
    (hsrc : ∀ j v, cs[j]? = some v → w.cell? (a.add j) = some v) (hfit : o + cs.length ≤ cur.size) (h1 : ∀ v ∈ cs, v.oneCell' = true) :
    (Builtin.copy_ #[dT, sT] ty #[.slice (some ⟨g, o, none⟩) dLen dCap, .slice (some a) sLen sCap]).run P w =
      .ok (goInt (Nat.min sLen dLen)) (w.setRow g (cur.toList.take o ++ cs ++ cur.toList.drop (o + cs.length)).toArray) := by
  have hf := run_firstCells_some (P := P) w size (Nat.min sLen dLen) a sLen sCap cs hn hsrc
  have hst := run_storeCells_at P g o t cs 0 cur w hg (by simpa using hfit) h1
  simp only [Nat.add_zero] at hst
  simp [Builtin.copy_, run_underlying hu, Builtin.lenOf, sizeOf, typeInfo, hq, hi, hf, hst]
theorem run_clear2 {P : Program} (w : World) (t e ty : TypeId) (z0 z1 : Value) (ht : P.underlying t = some (.slice e)) (hv : ∀ w, (zeroValue e).run P w = .ok (.agg #[z0, z1]) w) (h0 : z0.oneCell' = true) (h1 : z1.oneCell' = true) (hz : (Value.agg #[z0, z1]).cells = #[z0, z1]) (g o c : Nat) (cur : Array Value) (te : TypeId)
    (hg : w.heap[g]? = some (.cells cur te (0, 0))) (hfit : o + 2 ≤ cur.size) :
    (Builtin.clear_ #[t] ty #[.slice (some ⟨g, o, none⟩) 1 c]).run P w = .ok (.tuple #[]) (w.setRow g (cur.toList.take o ++ [z0, z1] ++ cur.toList.drop (o + 2)).toArray) := by
  have hst := run_storeCells_at P g o te [z0, z1] 0 cur w hg (by simpa using hfit) (by intro v hv'; simp at hv'; rcases hv' with rfl | rfl; exact h0; exact h1)
  simp only [Nat.add_zero] at hst
  have hzc : (Builtin.zeroCells #[z0, z1] 1).toList = [z0, z1] := by simp [Builtin.zeroCells]; rfl
  simp [Builtin.clear_, run_underlying ht, hv, hz, hzc, hst]
theorem own_open {w : World} {base : Nat} {e : TypeId} {size g n c : Nat} {xs : List Value} (h : w.ownsRow base e size (.slice (some ⟨g, 0, none⟩) n c) n xs) : ∃ cur, base ≤ g ∧ w.heap[g]? = some (.cells cur e (0, 0)) ∧ n ≤ c ∧ c ≤ maxLen ∧ cur.size = c * size ∧ cur.toList.take (n * size) = xs := by
  rcases h.2 with ⟨hx, _⟩ | ⟨g', cap, cur, hv, h1, h2, h3, h4, h5, h6⟩
  · cases hx
  · simp only [Value.slice.injEq, Option.some.injEq, Addr.mk.injEq, and_true, true_and] at hv
    obtain ⟨rfl, rfl⟩ := hv
    exact ⟨cur, h1, h2, h3, h4, h5, h6⟩
theorem own_close {w : World} {base : Nat} {e : TypeId} {size g n c : Nat} {xs : List Value} {cur : Array Value} (h1 : base ≤ g) (h2 : w.heap[g]? = some (.cells cur e (0, 0))) (h3 : n ≤ c) (h4 : c ≤ maxLen) (h5 : cur.size = c * size) (h6 : cur.toList.take (n * size) = xs) (h7 : xs.length = n * size) :
    w.ownsRow base e size (.slice (some ⟨g, 0, none⟩) n c) n xs := ⟨h7, .inr ⟨g, c, cur, rfl, h1, h2, h3, h4, h5, h6⟩⟩
theorem setRow_mod (w : World) (g : Nat) (cs : Array Value) : Mod (fun k => k = g) w (w.setRow g cs) :=
  ⟨rfl, rfl, rfl, by simp [World.setRow], fun k hk hn => by simp [World.setRow, Array.getElem?_modify, Ne.symm hn]⟩
theorem seg_take {l m : List Value} {o : Nat} (h : o + m.length ≤ l.length) : ((l.take o ++ m ++ l.drop (o + m.length)).take (o + m.length)) = l.take o ++ m := by
  have e : (l.take o ++ m).length = o + m.length := by rw [List.length_append, List.length_take]; omega
  rw [List.take_append_of_le_length (by omega), List.take_of_length_le (by omega)]
theorem seg_len {l m : List Value} {o : Nat} (h : o + m.length ≤ l.length) : (l.take o ++ m ++ l.drop (o + m.length)).length = l.length := by
  rw [List.length_append, List.length_append, List.length_take, List.length_drop]; omega
theorem zero_cpart (w : World) : (zeroValue 150).run Tryz.prog w = .ok (.agg #[.int .i64 0, .slice none 0 0]) w := by kernel_rfl
abbrev zpC : List Value := [Value.int .i64 0, Value.slice none 0 0]
theorem step_append_runC {P : Program} (w : World) {ops : Array Oper} {o : Oper} {a : Act} {K : Act → World → Prop} {Q : Exit → Act → World → Prop} {E : Prop} (hw : Region.wanted o (yielded ops a.tmps) = true) (s x : Operand) (t : TypeId)
    (ho : o.op = .call { callee := .builtin .append, args := #[s, x], argTypes := #[t, t] }) (v u v' : Value) (w' : World) (hs : a.eval s = v) (hx : a.eval x = u)
    (hr : (Builtin.append_ #[t, t] o.type #[v, u]).run P w = .ok v' w') (h : K (a.put o.dst v') w') :
    if Region.wanted o (yielded ops a.tmps) = true then Oper.wp P o a w K Q else E := by
  rw [if_pos hw]
  unfold Oper.wp execOp
  simp only [ho, resolve, invoke, builtin, Sem.run_bind, Sem.run_pure, Result.andThen_ok, List.map_toArray, List.map_cons, List.map_nil, hs, hx, hr]
  exact h
def DelPost (w : World) (base g K c : Nat) (ys : List Value) (e : Ending) (w' : World) : Prop :=
  e = .returned (.slice (some ⟨g, 0, none⟩) K c) ∧ w'.ownsRow base 150 2 (.slice (some ⟨g, 0, none⟩) K c) K ys ∧ Mod (fun k => k = g) w w'
set_option maxHeartbeats 8000000 in
theorem cdelete_p (w : World) (base g K c i : Nat) (xs : List Value) (h : w.ownsRow base 150 2 (.slice (some ⟨g, 0, none⟩) (K + 1) c) (K + 1) xs) (hi : i ≤ K) (h1 : ∀ v ∈ xs, v.oneCell' = true) (hK : K ≤ 1000000) :
    Calls Tryz.prog 141 #[.slice (some ⟨g, 0, none⟩) (K + 1) c, .int .i64 (i : Int), .int .i64 ((i + 1 : Nat) : Int)] w (DelPost w base g K c (xs.take (2 * i) ++ xs.drop (2 * i + 2))) := by
  obtain ⟨cur, a1, a2, a3, a4, a5, a6⟩ := own_open h
  obtain ⟨i0, hi0, hz0, hz1, hz2⟩ := info_parts info_cpart
  have hxl : xs.length = (K + 1) * 2 := h.1
  have hcl : cur.toList.length = c * 2 := by simpa using a5
  have hx : ∀ j, j < xs.length → cur.toList[j]? = xs[j]? := fun j hj => by rw [← a6, List.getElem?_take_of_lt (by omega)]
  -- the append
  have hns : (xs.drop (2 * i + 2)).length = (K - i) * 2 := by rw [List.length_drop, hxl]; omega
  have AP : ∀ (W : World) (a : Addr) (cc : Nat), W.heap[g]? = some (.cells cur 150 (0, 0)) → (i < K → a = ⟨g, 2 * i + 2, none⟩) → (Builtin.append_ #[147, 147] 147 #[.slice (some ⟨g, 0, none⟩) i c, .slice (some a) (K - i) cc]).run Tryz.prog W = .ok (.slice (some ⟨g, 0, none⟩) K c) (W.setRow g (cur.toList.take (2 * i) ++ xs.drop (2 * i + 2) ++ cur.toList.drop (2 * i + (xs.drop (2 * i + 2)).length)).toArray) := fun W a cc hW ha => by
    have := run_append_room (P := Tryz.prog) W 147 147 150 i0 Tryz.underlying147 hi0 g i c cur hW a (K - i) cc (xs.drop (2 * i + 2)) (by rw [hns, hz1]) (fun j u hu => by
      obtain ⟨hj, _⟩ := List.getElem?_eq_some_iff.1 hu
      rw [hns] at hj
      rw [ha (by omega), Addr.add_lit]
      rw [List.getElem?_drop] at hu
      rw [cell_of_row W g _ cur _ _ hW, ← Array.getElem?_toList, hx _ (by rw [hxl]; omega)]
      exact hu) (fun v hv => h1 v (List.mem_of_mem_drop hv)) (by omega) (by rw [hz1, hns]; omega)
    rw [hz1, Nat.mul_comm i 2] at this
    rw [this, show i + (K - i) = K by omega]
  obtain ⟨cu2, hcu2⟩ : ∃ x, x = (cur.toList.take (2 * i) ++ xs.drop (2 * i + 2) ++ cur.toList.drop (2 * i + (xs.drop (2 * i + 2)).length)).toArray := ⟨_, rfl⟩
  rw [← hcu2] at AP
  have hc2l : cu2.toList.length = c * 2 := by rw [hcu2, List.toList_toArray, seg_len (by rw [hcl, hns]; omega), hcl]
  have hc2t : cu2.toList.take (2 * K) = xs.take (2 * i) ++ xs.drop (2 * i + 2) := by
    rw [hcu2, List.toList_toArray]
    have := seg_take (l := cur.toList) (m := xs.drop (2 * i + 2)) (o := 2 * i) (by rw [hcl, hns]; omega)
    rw [hns, show 2 * i + (K - i) * 2 = 2 * K by omega] at this
    rw [hns, show 2 * i + (K - i) * 2 = 2 * K by omega, this, ← a6, List.take_take, show min (2 * i) ((K + 1) * 2) = 2 * i by omega]
  obtain ⟨cu3, hcu3⟩ : ∃ x, x = (cu2.toList.take (2 * K) ++ zpC ++ cu2.toList.drop (2 * K + 2)).toArray := ⟨_, rfl⟩
  have CLR : ∀ (W : World) (cc : Nat), W.heap[g]? = some (.cells cu2 150 (0, 0)) → ∀ ty, (Builtin.clear_ #[147] ty #[.slice (some ⟨g, 2 * K, none⟩) 1 cc]).run Tryz.prog W = .ok (.tuple #[]) (W.setRow g cu3) := fun W cc hW ty => by
    rw [hcu3]
    exact run_clear2 W 147 150 ty (.int .i64 0) (.slice none 0 0) Tryz.underlying147 zero_cpart rfl rfl rfl g (2 * K) cc cu2 _ hW (by have : cu2.size = c * 2 := (by simpa using hc2l); omega)
  have FIN : Hid (∀ W1 W2 : World, W1.heap[g]? = some (.cells cur 150 (0, 0)) → Mod (fun k => k = g) w W1 → W2 = ((W1.setRow g cu2).setRow g cu3) → DelPost w base g K c (xs.take (2 * i) ++ xs.drop (2 * i + 2)) (.returned (.slice (some ⟨g, 0, none⟩) K c)) W2) := fun W1 W2 hW hM hE => by
    subst hE
    have e1 := setRow_heap W1 g cur cu2 _ _ hW
    have e2 := setRow_heap (W1.setRow g cu2) g cu2 cu3 _ _ e1
    have l2 : (cu2.toList.take (2 * K) ++ zpC ++ cu2.toList.drop (2 * K + 2)).length = c * 2 := by
      have := seg_len (l := cu2.toList) (m := zpC) (o := 2 * K) (by rw [hc2l]; simp; omega)
      rw [hc2l] at this; exact this
    refine ⟨rfl, own_close a1 e2 (by omega) a4 (by rw [hcu3]; simpa using l2) ?_ ?_, (hM.trans (setRow_mod _ _ _) fun _ _ q => q).trans (setRow_mod _ _ _) fun _ _ q => q⟩
    · rw [hcu3, List.toList_toArray, List.append_assoc, List.take_append_of_le_length (by rw [List.length_take, hc2l]; omega), List.take_take, show min (K * 2) (2 * K) = 2 * K by omega, hc2t]
    · rw [List.length_append, List.length_take, List.length_drop, hxl]; omega
  have hne : ((i : Int) == ((i + 1 : Nat) : Int)) = false := by rw [beq_eq_false_iff_ne]; omega
  have hii : (i : Int) < (K : Int) + 1 := by omega
  have hrun := AP w.drew
  clear h a5 a6 hxl hcl hx hns AP a1 hi0 hz0 hz1 hz2 h1 hcu2 hc2l hc2t hcu3
  by_cases hic : i + 1 = c
  · obtain rfl : i = K := by omega
    subst hic
    have hc3 : (i : Int) ≤ (i : Int) + 1 := by omega
    have hc8 : (0 : Int) ≤ (i : Int) := by omega
    have hc4 : (i : Int) ≤ (i : Int) := by omega
    have ht1 : ((i : Int) + 1).toNat = i + 1 := by omega
    have hc5 : (0 : Int) ≤ (i : Int) + 1 := by omega
    have hrun2 := hrun ⟨g, 0, none⟩ 0 a2 (fun h => absurd h (by omega))
    rw [Nat.sub_self] at hrun2
    have clr := CLR ((w.drew).setRow g cu2) (i + 1 - i) (setRow_heap w.drew g cur cu2 _ _ a2)
    rw [show 2 * i = i * 2 by omega, show i + 1 - i = 1 by omega] at clr
    have hk1 : i + 1 - i = 1 := by omega
    have hc7 : i ≤ i + 1 := by omega
    have FN := Lib.hid (FIN.out w.drew _ a2 (Mod.refl _ _).drew rfl)
    clear FIN CLR hrun
    go_enter Tryz.func141, Tryz.ntmps141
    go_wp2_with fail
    go_region_law (refine step_append_runC _ (by rfl) _ _ _ (by rfl) _ _ _ _ (by rfl) (by rfl) hrun2 ?_)
    all_goals (go_wp2_with fail)
    all_goals go_ret
    all_goals exact FN.out
  · have hc1 : ¬ c = i + 1 := fun e => hic e.symm
    have hc2 : ¬ c = K := by omega
    have hc3 : i ≤ c := by omega
    have hc4 : (i : Int) ≤ (K : Int) := by omega
    have ht1 : ((i : Int) + 1).toNat = i + 1 := by omega
    have hc5 : (0 : Int) ≤ (i : Int) + 1 := by omega
    have hrun2 := hrun ⟨g, (i + 1) * 2, none⟩ (c - (i + 1)) a2 (fun _ => by rw [show (i + 1) * 2 = 2 * i + 2 by omega])
    have clr := CLR ((w.drew).setRow g cu2) (c - K) (setRow_heap w.drew g cur cu2 _ _ a2)
    rw [show 2 * K = K * 2 by omega] at clr
    have hc6 : ¬ K = c := by omega
    have hk1 : K + 1 - K = 1 := by omega
    have hc7 : K ≤ c := by omega
    have FN := Lib.hid (FIN.out w.drew _ a2 (Mod.refl _ _).drew rfl)
    clear FIN CLR hrun
    go_enter Tryz.func141, Tryz.ntmps141
    go_wp2_with fail
    go_region_law (refine step_append_runC _ (by rfl) _ _ _ (by rfl) _ _ _ _ (by rfl) (by rfl) hrun2 ?_)
    all_goals (go_wp2_with fail)
    all_goals go_ret
    all_goals exact FN.out
end Go.Proofs.YtgcbdoljapnecaaGreat
