/- Doubles of euler: edges between the same two vertices. -/
import Derived.Test.YthbhbcakiaaapaaENil
import Derived.Maps.OwnOps
import Derived.Maps.Views
import Derived.Maps.Keyed
import Derived.WideKeyEntry
import Derived.DeepKeys4
namespace Go.Proofs.Ythbhbcakiaaapaa
set_option maxRecDepth 20000
open Go.RowKit Go.Maps
set_option linter.unusedVariables false
/-- How many of the first k edges are between a and c. -/
noncomputable def prN (l : List Nat) (a c k : Nat) : Nat := num (fun e => lowE l e = a ∧ highE l e = c) k
/-- How many of the first k edges, that are no loops, have one between the same two ahead. -/
noncomputable def dblN (l : List Nat) (k : Nat) : Nat := num (fun e => lowE l e ≠ highE l e ∧ 0 < prN l (lowE l e) (highE l e) e) k
def kP (a c : Nat) : Lit := .string (keyBytes [.int .i64 (a : Int), .int .i64 (c : Int)])
theorem wf_small (a : Nat) (h : a ≤ 1000000) : (Lit.int .i64 (a : Int)).wf = true := by simp [Lit.wf, IntKind.min, IntKind.max, IntKind.bits, IntKind.signed]; omega
theorem pdeep : Try.prog.keyType 75 = true := by kernel_rfl
theorem pcells : Try.prog.cellsOf 75 = 2 := by kernel_rfl
theorem icells : Try.prog.cellsOf 3 = 1 := by kernel_rfl
theorem psize : ∃ m, Try.prog.types.size = m + 1 := ⟨Try.prog.types.size - 1, by kernel_rfl⟩
theorem pkey (a c : Nat) (ha : a ≤ 1000000) (hc : c ≤ 1000000) : keyOf Try.prog 75 (.agg #[.int .i64 (a : Int), .int .i64 (c : Int)]) = some (kP a c) := by
  have hd := pdeep
  obtain ⟨m, hm⟩ := psize
  unfold keyOf
  simp only [Try.underlying75]
  rw [if_pos (by simp [hd, Value.formed, Try.underlying75, pcells]), hm]
  unfold Program.keyLits
  simp only [Try.underlying75, Value.cells]
  rw [if_pos (by rw [pcells]; exact ⟨rfl, by simp⟩)]
  simp [Program.keyLits, icells, Try.underlying3, wf_small a ha, wf_small c hc, kP]
theorem prow : (75 : TypeId) < Try.prog.types.size := of_decide_eq_true (by kernel_rfl)
theorem pwide : (match Try.prog.underlying 75 with | some (.array _ _) | some (.struct _) => true | _ => false) = true := by rw [Try.underlying75]
theorem plaid : laidOutB Try.prog = true := by kernel_rfl
theorem pklaw : WideMaps.KeyLaw Try.prog 75 := deep_law_laid plaid (m := 3) (by omega) prow (by kernel_rfl) pwide
theorem plaw : Keyed Try.prog 75 := Keyed.of_law pklaw
theorem pzero (w : World) : (zeroValue 3).run Try.prog w = .ok (.int .i64 0) w := by kernel_rfl
theorem kP_inj {a c a' c' : Nat} (ha : a ≤ 1000000) (hc : c ≤ 1000000) (ha' : a' ≤ 1000000) (hc' : c' ≤ 1000000) (e : kP a c = kP a' c') : a = a' ∧ c = c' := by
  have := plaw.inj (pkey a c ha hc) (by rw [e]; exact pkey a' c' ha' hc')
  simp at this
  omega
theorem kP_key (a c : Nat) (ha : a ≤ 1000000) (hc : c ≤ 1000000) : WideAt.IsKeyLit (kP a c) := plaw.key (pkey a c ha hc)
structure PM (D : DataW Unit) (l : List Nat) (k : Nat) : Prop where
  isMap : Maps.IsMap D
  at_ : ∀ a c : Nat, a ≤ 1000000 → c ≤ 1000000 → a ≠ c → D.atKey (kP a c) (.lit (.int .i64 0)) = .lit (.int .i64 (prN l a c k : Nat))
theorem PM.zero (l : List Nat) : PM (.map []) l 0 := ⟨isMap_empty, fun a c _ _ _ => by simp [DataW.atKey, prN, num]⟩
theorem PM.loop {D : DataW Unit} {l : List Nat} {k : Nat} (h : PM D l k) (e : lowE l k = highE l k) : PM D l (k + 1) :=
  ⟨h.isMap, fun a c ha hc hne => by
    rw [h.at_ a c ha hc hne]
    unfold prN
    rw [(num_next _ k).2 (fun x => hne (by rw [← x.1, ← x.2, e]))]⟩
theorem PM.step {D : DataW Unit} {l : List Nat} {k x y q : Nat} (h : PM D l k) (hx : x = lowE l k) (hy : y = highE l k) (hxl : x ≤ 1000000) (hyl : y ≤ 1000000) (hq : q = prN l x y k) : PM (D.put (kP x y) (.lit (.int .i64 ((q : Int) + 1)))) l (k + 1) :=
  ⟨h.isMap.put _ _, fun a c ha hc hne => by
    by_cases e : a = x ∧ c = y
    · obtain ⟨rfl, rfl⟩ := e
      rw [atKey_put_same h.isMap (kP_key _ _ hxl hyl)]
      have : prN l a c (k + 1) = prN l a c k + 1 := (num_next _ k).1 ⟨hx.symm, hy.symm⟩
      rw [this, hq]; rfl
    · rw [atKey_put_other (fun c' => e (kP_inj ha hc hxl hyl c')), h.at_ a c ha hc hne]
      have : prN l a c (k + 1) = prN l a c k := (num_next _ k).2 fun z => e ⟨by rw [hx, z.1], by rw [hy, z.2]⟩
      rw [this]⟩
theorem pown_below {H : Type} {P : Program} {k : TypeId} {R : Value → Option (DataW H × List MemPlace)} {w w' : World} {b n : Nat} {D : DataW H} (h : w.ownsMap P k R b n D) (m : Below w.heap.size w w') : w'.ownsMap P k R b n D := by
  have hlt := h.lt
  obtain ⟨es, clock, hb, F, hs, hD⟩ := h
  exact ⟨es, clock, (m.block b hlt).trans hb, F, hs, hD⟩
abbrev OwnP (w : World) (g n : Nat) (D : DataW Unit) : Prop := w.ownsMap Try.prog 75 (plainElem Try.prog 3) g n D
theorem look_p {w : World} {g n k x y : Nat} {D : DataW Unit} {l : List Nat} (h : OwnP w g n D) (hm : PM D l k) (hx : x ≤ 1000000) (hy : y ≤ 1000000) (hne : x ≠ y) :
    (Instr.lookup 73 (.map (some g)) (.agg #[.int .i64 (x : Int), .int .i64 (y : Int)]) false).run Try.prog w = .ok (.int .i64 ((prN l x y k : Nat) : Int)) w := by
  obtain ⟨c, hrun, hat, _⟩ := World.ownsMap.lookup_int h plaw Try.underlying73 Try.underlying3 (pzero _) (pkey x y hx hy)
  rw [hm.at_ x y hx hy hne] at hat
  simp only [DataW.lit.injEq, Lit.int.injEq, true_and] at hat
  rw [hat]; exact hrun
theorem set_twice (w : World) (b : Nat) (o1 o2 : Obj) : ChangeMaps.setBlock (ChangeMaps.setBlock w b o1) b o2 = ChangeMaps.setBlock w b o2 := by
  unfold ChangeMaps.setBlock
  simp
theorem set_self (w : World) (b : Nat) (o : Obj) (h : w.heap[b]? = some o) : ChangeMaps.setBlock w b o = w := by
  obtain ⟨hlt, he⟩ := Array.getElem?_eq_some_iff.1 h
  have : w.heap.setIfInBounds b o = w.heap := by
    apply Array.ext
    · simp
    · intro i h1 h2
      rw [Array.getElem_setIfInBounds h2]
      split
      · subst_vars; rfl
      · rfl
  unfold ChangeMaps.setBlock
  rw [this]
theorem entry_look {H : Type} {P : Program} {k e t : TypeId} {w w1 : World} {R : Value → Option (DataW H × List MemPlace)} {b : Nat} {es : Array MapEntry} {clock : Nat} (K : WideMaps.KeyLaw P k) (ht : P.underlying t = some (.map k e)) {z : Value} (hz : ∀ u : World, (zeroValue e).run P u = .ok z u) (hb : w.heap[b]? = some (.map es clock)) (F : WideElems.Fit P k R es clock)
    {key : Value} {kl : Lit} (hkey : keyOf P k key = some kl) {v v' : Value} (hrun : (Instr.mapEntry t (.map (some b)) key).run P w = .ok v' w1) (hl : (Instr.lookup t (.map (some b)) key false).run P w = .ok v w) :
    (Instr.lookup t (.map (some b)) key false).run P w1 = .ok v w1 := by
  rcases K.find w hkey es.toList F.keys with ⟨h1, h2⟩ | ⟨j, e0, h1, h2, h3⟩
  · have r1 : (Instr.mapEntry t (.map (some b)) key).run P w = .ok (.tuple #[z, goInt clock]) (ChangeMaps.setBlock w b (.map (es.push ⟨key, z, clock⟩) (clock + 1))) := by
      simp [Instr.mapEntry, run_underlying ht, MapKept.run_getObj_map hb, K.check w false hkey, h1, hz, MapKept.run_setObj_map _ hb, Result.andThen, ChangeMaps.setBlock]
    have r2 : (Instr.lookup t (.map (some b)) key false).run P w = .ok z w := by
      simp [Instr.lookup, run_underlying ht, MapKept.run_getObj_map hb, K.check w _ hkey, h1, hz, Result.andThen]
    rw [r1] at hrun
    rw [r2] at hl
    simp only [Result.ok.injEq] at hrun hl
    obtain ⟨_, rfl⟩ := hrun
    obtain ⟨rfl, _⟩ := hl
    have hb1 := ChangeMaps.heap_setBlock_same hb (.map (es.push ⟨key, z, clock⟩) (clock + 1))
    rcases K.find (ChangeMaps.setBlock w b (.map (es.push ⟨key, z, clock⟩) (clock + 1))) hkey (es.push ⟨key, z, clock⟩).toList (fun x hx => by
      simp only [Array.toList_push, List.mem_append, List.mem_singleton] at hx
      rcases hx with hx | rfl
      · exact F.keys x hx
      · exact ⟨kl, hkey⟩) with ⟨f1, f2⟩ | ⟨j, e0, f1, f2, f3⟩
    · exact absurd rfl (f2 ⟨key, z, clock⟩ (by simp))
    · have hm := List.mem_of_getElem? f2
      simp only [Array.toList_push, List.mem_append, List.mem_singleton] at hm
      rcases hm with hm | rfl
      · exact absurd f3 (h2 e0 hm)
      · rw [Array.toList_push] at f1
        simp [Instr.lookup, run_underlying ht, MapKept.run_getObj_map hb1, K.check _ _ hkey, f1, Result.andThen]
  · have hj : es[j]? = some e0 := by simpa using h2
    have hsame : es.modify j (fun e => { e with key := key }) = es := by
      apply Array.ext'
      rw [Array.toList_modify, ChangeMaps.modify_eq_set _ _ _ _ h2]
      have : ({ e0 with key := key } : MapEntry) = e0 := by rw [← h3]
      rw [this]
      exact WideElems.set_self _ _ _ h2
    have r1 : (Instr.mapEntry t (.map (some b)) key).run P w = .ok (.tuple #[e0.val, goInt e0.born]) (ChangeMaps.setBlock w b (.map es clock)) := by
      simp [Instr.mapEntry, run_underlying ht, MapKept.run_getObj_map hb, K.check w false hkey, h1, hj, h3, K.stays w hkey, hsame, MapKept.run_setObj_map _ hb, Result.andThen, ChangeMaps.setBlock]
    rw [r1, set_self w b _ hb] at hrun
    simp only [Result.ok.injEq] at hrun
    obtain ⟨_, rfl⟩ := hrun
    exact hl
theorem own_entry {w : World} {g n : Nat} {D : DataW Unit} (h : OwnP w g n D) (hn : n < maxLen) {key : Value} {kl : Lit} (hkey : keyOf Try.prog 75 key = some kl) {v val : Value} (hl : (Instr.lookup 73 (.map (some g)) key false).run Try.prog w = .ok v w) {d : DataW Unit} {ps : List MemPlace} (hv : plainElem Try.prog 3 val = some (d, ps)) :
    ∃ (v0 : Value) (st : Nat) (w1 w2 : World), (Instr.mapEntry 73 (.map (some g)) key).run Try.prog w = .ok (.tuple #[v0, goInt st]) w1 ∧ (Instr.lookup 73 (.map (some g)) key false).run Try.prog w1 = .ok v w1 ∧ (Instr.entryStore 73 (.map (some g)) (goInt st) val).run Try.prog w1 = .ok () w2 ∧ OwnP w2 g (n + 1) (D.put kl d) ∧ w.grownBy w2 (some g) ∧ w.grownBy w1 (some g) := by
  obtain ⟨w', hrun, h1, h2⟩ := World.ownsMap.update h plaw Try.underlying73 hn hkey hv
  obtain ⟨es, clock, hb, F, hs, rfl⟩ := h
  obtain ⟨v0, st, es1, clock1, run1, _, H2⟩ := WideElems.entry_then_store pklaw Try.underlying73 pzero hb F hkey
  obtain ⟨es', clock', run2, run3⟩ := H2 _ val (ChangeMaps.heap_setBlock_same hb _)
  rw [hrun] at run3
  simp only [Result.ok.injEq, true_and] at run3
  rw [set_twice] at run2
  rw [← run3] at run2
  exact ⟨v0, st, _, _, run1, entry_look pklaw Try.underlying73 pzero hb F hkey run1 hl, run2, h1, h2, ⟨rfl, rfl, rfl, by simp [ChangeMaps.setBlock], fun i _ hi => ChangeMaps.heap_setBlock_other hb _ (fun e => hi (by rw [e]))⟩⟩
end Go.Proofs.Ythbhbcakiaaapaa
