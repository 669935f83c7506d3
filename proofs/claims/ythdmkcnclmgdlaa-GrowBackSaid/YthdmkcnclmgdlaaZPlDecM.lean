/- Decode of the document: the rows around vertices and the stack while the letters are read. -/
import Derived.Test.YthdmkcnclmgdlaaZPlNames
import Derived.Test.YthdmkcnclmgdlaaZg11
namespace Go.Proofs.Ythdmkcnclmgdlaa
set_option maxRecDepth 100000
open Go.RowKit
set_option linter.unusedVariables false
set_option linter.unusedSimpArgs false
structure DSt (w0 w : World) (B : Nat) (A : Option Addr) (c : Nat) (ps : List GEl) (As : Option Addr) (cs : Nat) (st : List Nat) : Prop where
  g : GRow w B A c ps
  s : w.ownsRow B 3 1 (.slice As st.length cs) st.length (I64 (ofN st))
  dj : ∀ j, j < ps.length → ∀ k, (ps.getD j gE0).1.ownBlock = some k → (Value.slice As st.length cs).ownBlock ≠ some k
  bel : Below B w0 w
theorem GRow.modG {w w' : World} {base c : Nat} {A : Option Addr} {ps : List GEl} {S : Nat → Prop} (h : GRow w base A c ps) (m : Mod S w w') (h1 : ∀ k, (Value.slice A ps.length c).ownBlock = some k → ¬ S k) (h2 : ∀ j, j < ps.length → ∀ k, (ps.getD j gE0).1.ownBlock = some k → ¬ S k) : GRow w' base A c ps :=
  ⟨own_mod h.own m h1, fun j hj => ⟨(h.inn j hj).1, own_mod (h.inn j hj).2 m (h2 j hj)⟩, h.dj⟩
section
variable {w0 w w' : World} {B c cs : Nat} {A As : Option Addr} {ps : List GEl} {st : List Nat}
theorem DSt.below (h : DSt w0 w B A c ps As cs st) (hb : B ≤ w.heap.size) (m : Below w.heap.size w w') : DSt w0 w' B A c ps As cs st :=
  ⟨h.g.below m, own_below h.s m, h.dj, h.bel.trans (m.mono hb)⟩
theorem DSt.grow {g : Nat} (h : DSt w0 w B (some ⟨g, 0, none⟩) c ps As cs st) (hb : B ≤ w.heap.size) {j d : Nat} (hj : j < ps.length) (hn : (ps.getD j gE0).2.length ≤ 1000000) :
    ∃ A1 cj A2 c2 w2, (ps.getD j gE0).1 = .slice A1 (ps.getD j gE0).2.length cj ∧ (Builtin.append_ #[25, 25] 25 #[.slice A1 (ps.getD j gE0).2.length cj, .slice (some ⟨w.heap.size, 0, none⟩) 1 1]).run Try.prog (w.alloc (.cells #[.int .i64 (d : Int)] 3)) = .ok (.slice A2 ((ps.getD j gE0).2.length + 1) c2) w2 ∧
      w2.cell? ⟨g, j, none⟩ = some (.slice A1 (ps.getD j gE0).2.length cj) ∧ w2.frozen? ⟨g, j, none⟩ = false ∧
      DSt w0 (w2.setCell ⟨g, j, none⟩ (.slice A2 ((ps.getD j gE0).2.length + 1) c2)) B (some ⟨g, 0, none⟩) c (ps.set j (.slice A2 ((ps.getD j gE0).2.length + 1) c2, (ps.getD j gE0).2 ++ [d])) As cs st := by
  obtain ⟨A1, cj, A2, c2, w2, e1, hrun, hc, hf, hg, hbl, hm, hnew⟩ := h.g.grow hb (d := d) hj hn
  refine ⟨A1, cj, A2, c2, w2, e1, hrun, hc, hf, hg, own_mod h.s hm (fun k hk q => ?_), fun i hi k hk => ?_, h.bel.trans hbl⟩
  · rcases q with q | q
    · exact own_own_neG h.s h.g.own (by decide) hk (by rw [q]; simp [Value.ownBlock])
    · exact h.dj j hj k q.symm hk
  · rw [List.length_set] at hi
    rw [getD_setR _ _ _ _ _ hj] at hk
    by_cases e : i = j
    · rw [if_pos e] at hk
      rcases hnew k hk with n1 | n1
      · exact h.dj j hj k n1
      · intro c; have := (h.s.lt k c).2; omega
    · rw [if_neg e] at hk; exact h.dj i hi k hk
theorem DSt.push (h : DSt w0 w B A c ps As cs st) (hb : B ≤ w.heap.size) (x : Nat) (hn : st.length ≤ 1000000) :
    ∃ A2 c2 w2, (Builtin.append_ #[25, 25] 25 #[.slice As st.length cs, .slice (some ⟨w.heap.size, 0, none⟩) 1 1]).run Try.prog (w.alloc (.cells #[.int .i64 (x : Int)] 3)) = .ok (.slice A2 (st.length + 1) c2) w2 ∧
      DSt w0 w2 B A c ps A2 c2 (st ++ [x]) := by
  obtain ⟨i0, hi0, hz0, hz1, hz2⟩ := info_parts info_int
  have hal : Below w.heap.size w (w.alloc (.cells #[.int .i64 (x : Int)] 3)) := (Below.refl _ _).alloc (Nat.le_refl _) _
  have h1 := h.below hb hal
  have rd := Rd.new w 3 #[.int .i64 (x : Int)] 1 [.int .i64 (x : Int)] rfl rfl
  obtain ⟨v', w2, hrun, hnew, hgr, hob⟩ := run_append_rd (P := Try.prog) (w.alloc (.cells #[.int .i64 (x : Int)] 3)) B 25 25 3 i0 (.int .i64 0) 8 Try.underlying25 hi0 hz0 hz1 hz2 rfl _ _ _ h1.s (w.heap.size + 1) (some ⟨w.heap.size, 0, none⟩) 1 1 _ rd (by simp [Value.oneCell']) (by simp only [maxLen]; omega) (by omega) (by simp; omega)
  obtain ⟨A2, c2, rfl, _, _⟩ := own_form hnew
  have MG := Mod.ofGrown hgr
  have hl : (st ++ [x]).length = st.length + 1 := by simp
  refine ⟨A2, c2, w2, hrun, h1.g.modG MG (fun k hk q => own_own_neG h1.s h1.g.own (by decide) q.symm hk) (fun j hj k hk q => h.dj j hj k hk q.symm), ?_, fun j hj k hk => ?_, ?_⟩
  · rw [hl, ofN_snocR]; exact hnew
  · rw [hl]
    rcases hob with q | q
    · rw [q]; exact h.dj j hj k hk
    · rw [q]
      intro c
      have := Option.some.inj c
      have := ((h.g.inn j hj).2.lt k hk).2
      simp at *; omega
  · exact (h.bel.alloc hb _).trans (Below.appended h1.s hgr (by simp; omega))
theorem DSt.snoc (h : DSt w0 w B A c ps As cs st) (hb : B ≤ w.heap.size) (hn : ps.length ≤ 1000000) :
    ∃ A1 c1 w2, (Builtin.append_ #[63, 63] 63 #[.slice A ps.length c, .slice (some ⟨w.heap.size, 0, none⟩) 1 1]).run Try.prog (w.alloc (.cells #[.slice none 0 0] 25)) = .ok (.slice A1 (ps.length + 1) c1) w2 ∧
      DSt w0 w2 B A1 c1 (ps ++ [(.slice none 0 0, [])]) As cs st := by
  obtain ⟨A1, c1, w2, hrun, hg, hbl, hm⟩ : ∃ A1 c1 w2, (Builtin.append_ #[63, 63] 63 #[.slice A ps.length c, .slice (some ⟨w.heap.size, 0, none⟩) 1 1]).run Try.prog (w.alloc (.cells #[.slice none 0 0] 25)) = .ok (.slice A1 (ps.length + 1) c1) w2 ∧
      GRow w2 B A1 c1 (ps ++ [(.slice none 0 0, [])]) ∧ Below B w w2 ∧ Mod (fun q => some q = (Value.slice A ps.length c).ownBlock) w w2 := h.g.snocM hb hn
  refine ⟨A1, c1, w2, hrun, hg, own_mod h.s hm (fun k hk q => own_own_neG h.s h.g.own (by decide) hk q.symm), fun j hj k hk => ?_, h.bel.trans hbl⟩
  rw [List.length_append] at hj
  by_cases e : j < ps.length
  · rw [List.getD_eq_getElem?_getD, List.getElem?_append_left e, ← List.getD_eq_getElem?_getD] at hk
    exact h.dj j e k hk
  · obtain rfl : j = ps.length := by simp at hj; omega
    simp [List.getD_eq_getElem?_getD, Value.ownBlock] at hk
theorem DSt.pop (h : DSt w0 w B A c ps As cs st) {k : Nat} (hk : st.length = k + 1) : DSt w0 w B A c ps As cs (st.take k) := by
  have oc := own_cut h.s (show k ≤ st.length by omega) (by omega)
  have hl : (st.take k).length = k := by rw [List.length_take]; omega
  have hI : (I64 (ofN st)).take k = I64 (ofN (st.take k)) := by simp [I64, ofN, List.map_take]
  rw [hI] at oc
  refine ⟨h.g, by rw [hl]; exact oc, fun j hj q hq => ?_, h.bel⟩
  have := h.dj j hj q hq
  rw [hl]
  intro e
  refine this ?_
  cases As with
  | none => simp [Value.ownBlock] at e
  | some a =>
    rcases h.s.2 with ⟨e1, _⟩ | ⟨g, cap, cur, e1, _⟩
    · simp at e1
    · simp only [Value.slice.injEq, Option.some.injEq] at e1
      obtain ⟨rfl, _, _⟩ := e1
      simpa [Value.ownBlock] using e
end
theorem nodup_leP {n : Nat} {Q : List Nat} (nd : Q.Nodup) (lt : ∀ x ∈ Q, x < n) : Q.length ≤ n := by
  have := List.Nodup.length_le_of_subset nd (l₂ := List.range n) fun x hx => List.mem_range.2 (lt x hx)
  rwa [List.length_range] at this
/-- What the rows and the stack tell. -/
structure DMt (ks : List Nat) (tw : Nat → Nat) (i : Nat) (ps : List GEl) (st : List Nat) : Prop where
  fl : ((ps.map (·.2)).flatten).Perm ((List.range i).map (nmF ks tw))
  stk : ∀ x, x ∈ st → x < ps.length
  os : ∃ S, OStk ks i S ∧ st.length = S.length + 1
  pl : ps.length ≤ i + 1
  sl : st.length ≤ i + 1
  rl : ∀ j, j < ps.length → (ps.getD j gE0).2.length ≤ i
section
variable {ks : List Nat} {tw : Nat → Nat} {i : Nat} {ps : List GEl} {st : List Nat}
theorem DMt.nil (ks : List Nat) (tw : Nat → Nat) : DMt ks tw 0 [(.slice none 0 0, [])] [0] := by
  refine ⟨by simp, by simp, ⟨[], OStk.nil ks, rfl⟩, by simp, by simp, fun j hj => ?_⟩
  obtain rfl : j = 0 := by simp at hj; omega
  exact Nat.le_refl _
theorem snd_getD (ps : List GEl) (j : Nat) (h : j < ps.length) : (ps.map (·.2)).getD j [] = (ps.getD j gE0).2 := by
  rw [List.getD_eq_getElem?_getD, List.getElem?_map, List.getD_eq_getElem?_getD, List.getElem?_eq_getElem h]; rfl
theorem DMt.put (h : DMt ks tw i ps st) {v : Nat} (hv : v < ps.length) (x : Value) :
    (((ps.set v (x, (ps.getD v gE0).2 ++ [nmF ks tw i])).map (·.2)).flatten).Perm ((List.range (i + 1)).map (nmF ks tw)) ∧
    ∀ j, j < ps.length → ((ps.set v (x, (ps.getD v gE0).2 ++ [nmF ks tw i])).getD j gE0).2.length ≤ i + 1 := by
  refine ⟨?_, fun j hj => ?_⟩
  · have e : (ps.set v (x, (ps.getD v gE0).2 ++ [nmF ks tw i])).map (·.2) = (ps.map (·.2)).set v ((ps.map (·.2)).getD v [] ++ [nmF ks tw i]) := by
      rw [List.map_set, snd_getD ps v hv]
    rw [e, List.range_succ, List.map_append]
    exact (flat_set _ v _ (by simpa using hv)).trans (h.fl.append_right _)
  · rw [getD_setR _ _ _ _ _ hv]
    by_cases e : j = v
    · rw [if_pos e]
      have := h.rl v hv
      show ((ps.getD v gE0).2 ++ [nmF ks tw i]).length ≤ _
      rw [List.length_append]
      have h1 : [nmF ks tw i].length = 1 := rfl
      omega
    · rw [if_neg e]; have := h.rl j hj; omega
theorem DMt.opn (h : DMt ks tw i ps st) (hi : i < ks.length) (hk : ks.getD i 0 = 0) {v : Nat} (hv : v < ps.length) (x : Value) :
    DMt ks tw (i + 1) (ps.set v (x, (ps.getD v gE0).2 ++ [nmF ks tw i]) ++ [(.slice none 0 0, [])]) (st ++ [ps.length]) := by
  obtain ⟨h1, h2⟩ := h.put hv x
  have hl : (ps.set v (x, (ps.getD v gE0).2 ++ [nmF ks tw i])).length = ps.length := by simp
  refine ⟨?_, fun y hy => ?_, ?_, ?_, by rw [List.length_append]; have := h.sl; simp; omega, fun j hj => ?_⟩
  · rw [List.map_append]
    show ((_ ++ [[]]).flatten).Perm _
    rw [flat_snoc]; exact h1
  · rw [List.length_append, hl]
    rcases List.mem_append.1 hy with q | q
    · have := h.stk y q; simp; omega
    · simp at q; simp; omega
  · obtain ⟨S, hS, hSl⟩ := h.os
    exact ⟨_, hS.push hi hk, by simp [hSl]⟩
  · rw [List.length_append, hl]; have := h.pl; simp; omega
  · rw [List.length_append, hl] at hj
    by_cases e : j < ps.length
    · rw [List.getD_eq_getElem?_getD, List.getElem?_append_left (by rw [hl]; exact e), ← List.getD_eq_getElem?_getD]; exact h2 j e
    · obtain rfl : j = ps.length := by simp at hj; omega
      rw [List.getD_eq_getElem?_getD, List.getElem?_append_right (by rw [hl]; exact Nat.le_refl _), hl]; simp
theorem DMt.shut (h : DMt ks tw i ps st) (hB : Bal (exc (val (ownL 0 ks))) (ownL 0 ks).length) (hi : i < ks.length) (hk : ks.getD i 0 = 1) {v : Nat} (hv : v < ps.length) (x : Value) {k : Nat} (hst : st.length = k + 1) :
    DMt ks tw (i + 1) (ps.set v (x, (ps.getD v gE0).2 ++ [nmF ks tw i])) (st.take k) := by
  obtain ⟨h1, h2⟩ := h.put hv x
  obtain ⟨S, hS, hSl⟩ := h.os
  obtain ⟨q1, q2⟩ := hS.pop hB hi hk
  exact ⟨h1, fun y hy => by rw [List.length_set]; exact h.stk y (List.mem_of_mem_take hy), ⟨_, q2, by simp; omega⟩, by rw [List.length_set]; have := h.pl; omega, by have := h.sl; first | omega | (rw [List.length_take]; omega), fun j hj => h2 j (by simpa using hj)⟩
theorem DMt.skip (h : DMt ks tw i ps st) (hi : i < ks.length) (hk : ks.getD i 0 / 2 ≠ 0) {v : Nat} (hv : v < ps.length) (x : Value) :
    DMt ks tw (i + 1) (ps.set v (x, (ps.getD v gE0).2 ++ [nmF ks tw i])) st := by
  obtain ⟨h1, h2⟩ := h.put hv x
  obtain ⟨S, hS, hSl⟩ := h.os
  exact ⟨h1, fun y hy => by rw [List.length_set]; exact h.stk y hy, ⟨_, hS.skip hi hk, hSl⟩, by rw [List.length_set]; have := h.pl; omega, by have := h.sl; first | omega | (rw [List.length_take]; omega), fun j hj => h2 j (by simpa using hj)⟩
theorem DMt.done (h : DMt ks tw ks.length ps st) (P : Prg ks tw) : ((ps.map (·.2)).flatten).Nodup ∧ ∀ x, x ∈ (ps.map (·.2)).flatten ↔ x < ks.length := by
  have nd : ((List.range ks.length).map (nmF ks tw)).Nodup := by
    rw [List.nodup_iff_pairwise_ne] 
    rw [List.pairwise_map]
    refine List.Pairwise.imp_of_mem ?_ List.nodup_range
    intro a b ha hb hab e
    exact hab (nm_inj P (List.mem_range.1 ha) (List.mem_range.1 hb) e)
  refine ⟨h.fl.nodup_iff.2 nd, fun x => ?_⟩
  rw [h.fl.mem_iff]
  constructor
  · intro hx
    obtain ⟨j, hj, rfl⟩ := List.mem_map.1 hx
    exact nm_lt P (List.mem_range.1 hj)
  · intro hx
    -- as many names as places: each is one
    have hsub := nd
    by_cases q : x ∈ (List.range ks.length).map (nmF ks tw)
    · exact q
    · exfalso
      have h1 : (x :: (List.range ks.length).map (nmF ks tw)).Nodup := List.nodup_cons.2 ⟨q, nd⟩
      have h2 := nodup_leP (n := ks.length) h1 fun y hy => by
        rcases List.mem_cons.1 hy with e | e
        · rw [e]; exact hx
        · obtain ⟨j, hj, rfl⟩ := List.mem_map.1 e
          exact nm_lt P (List.mem_range.1 hj)
      simp at h2
      omega
end
/-- The turns that are told: of the first r rows, and of the next one's first j. -/
def Told (os : List (List Nat)) (y : List Int) (r j : Nat) : Prop :=
  (∀ r' i', r' < r → r' < os.length → i' < (os.getD r' []).length → y.getD ((os.getD r' []).getD i' 0) 0 = ((zR os ((os.getD r' []).getD i' 0) : Nat) : Int)) ∧
  ∀ i', i' < j → i' < (os.getD r []).length → y.getD ((os.getD r []).getD i' 0) 0 = ((zR os ((os.getD r []).getD i' 0) : Nat) : Int)
theorem told_put {os : List (List Nat)} {y : List Int} {r j x z : Nat} (h : Told os y r j) (hx : (os.getD r []).getD j 0 = x) (hxy : x < y.length) (hz : zR os x = z) : Told os (y.set x (z : Int)) r (j + 1) := by
  have gs : ∀ (b : Nat), (y.set x (z : Int)).getD b 0 = if b = x then (z : Int) else y.getD b 0 := fun b => by
    rw [List.getD_eq_getElem?_getD, List.getElem?_set]
    by_cases e : x = b
    · subst e; simp [hxy]
    · rw [if_neg e, if_neg (Ne.symm e), ← List.getD_eq_getElem?_getD]
  refine ⟨fun r' i' h1 h2 h3 => ?_, fun i' h1 h2 => ?_⟩
  · rw [gs]
    by_cases e : (os.getD r' []).getD i' 0 = x
    · rw [if_pos e, e, hz]
    · rw [if_neg e]; exact h.1 r' i' h1 h2 h3
  · rw [gs]
    by_cases e : (os.getD r []).getD i' 0 = x
    · rw [if_pos e, e, hz]
    · rw [if_neg e]
      by_cases c : i' = j
      · subst c; exact absurd hx e
      · exact h.2 i' (by omega) h2
theorem told_row {os : List (List Nat)} {y : List Int} {r : Nat} (h : Told os y r (os.getD r []).length) : Told os y (r + 1) 0 :=
  ⟨fun r' i' h1 h2 h3 => by
    by_cases e : r' = r
    · subst e; exact h.2 i' h3 h3
    · exact h.1 r' i' (by omega) h2 h3, fun i' h1 => absurd h1 (by omega)⟩
theorem told_all {os : List (List Nat)} {y : List Int} {n : Nat} (h : Told os y os.length 0) (hy : y.length = n) (hm : ∀ x, x ∈ os.flatten ↔ x < n) : y = ofN (zL os n) := by
  apply List.ext_getElem
  · rw [ofN_len, zL_len, hy]
  · intro i h1 h2
    have hi : i < n := by omega
    have e1 : y[i] = y.getD i 0 := by rw [List.getD_eq_getElem?_getD, List.getElem?_eq_getElem h1]; rfl
    have e2 : (ofN (zL os n))[i] = (((zL os n).getD i 0 : Nat) : Int) := by rw [← ofN_get, List.getD_eq_getElem?_getD, List.getElem?_eq_getElem h2]; rfl
    rw [e1, e2, zL_get os hi]
    obtain ⟨r, k, hr, hk, e⟩ := mem_rows ((hm i).2 hi)
    rw [← e]
    exact h.1 r k hr hr hk
end Go.Proofs.Ythdmkcnclmgdlaa
