/- The library's Insert of a part ahead of others, in place. The parts of a map, side by side: memory and mathematics. A turn, followed from dart to dart: mathematics. -/
import Derived.Test.YtgcbdoljapnecaaGreatZg9
import Derived.Laws.Externs
import Derived.Test.YtgcbdoljapnecaaGreatZg8
import Derived.Test.YtgcbdoljapnecaaGreatZg7
namespace Go.Proofs.YtgcbdoljapnecaaGreat
set_option maxRecDepth 100000
open Go.RowKit
set_option linter.unusedVariables false
set_option linter.unusedSimpArgs false
set_option maxHeartbeats 8000000 in
theorem cinsert_p (w : World) (base g K c vb : Nat) (xs : List Value) (z0 z1 : Value) (h : w.ownsRow base 150 2 (.slice (some ⟨g, 0, none⟩) K c) K xs) (hKc : K + 1 ≤ c) (h1 : ∀ v ∈ xs, v.oneCell' = true) (hK : K ≤ 1000000)
    (hv : Blk w vb 150 #[z0, z1]) (hz0' : z0.oneCell' = true) (hz1' : z1.oneCell' = true) (hne : vb ≠ g) :
    Calls Tryz.prog 140 #[.slice (some ⟨g, 0, none⟩) K c, .int .i64 0, .slice (some ⟨vb, 0, none⟩) 1 1] w (DelPost w base g (K + 1) c ([z0, z1] ++ xs)) := by
  obtain ⟨cur, a1, a2, a3, a4, a5, a6⟩ := own_open h
  obtain ⟨i0, hi0, hq0, hq1, hq2⟩ := info_parts info_cpart
  have hxl : xs.length = K * 2 := h.1
  have hcl : cur.toList.length = c * 2 := by simpa using a5
  have hx : ∀ j, j < xs.length → cur.toList[j]? = xs[j]? := fun j hj => by rw [← a6, List.getElem?_take_of_lt (by omega)]
  have vcell : ∀ (W : World), W.heap[vb]? = w.heap[vb]? → ∀ j u, [z0, z1][j]? = some u → W.cell? ((⟨vb, 0, none⟩ : Addr).add j) = some u := fun W hW j u hu => by
    rw [Addr.add_lit, Nat.zero_add, cell_of_row W vb _ #[z0, z1] _ _ (hW.trans hv)]
    simpa using hu
  have v1c : ∀ v ∈ [z0, z1], v.oneCell' = true := fun v hv' => by
    simp at hv'
    rcases hv' with rfl | rfl
    · exact hz0'
    · exact hz1'
  have hoth : ∀ (W : World) (cs : Array Value), (W.setRow g cs).heap[vb]? = W.heap[vb]? := fun W cs => by simp [World.setRow, Array.getElem?_modify, Ne.symm hne]
  by_cases hK0 : K = 0
  · subst hK0
    obtain rfl : xs = [] := List.eq_nil_of_length_eq_zero (by omega)
    obtain ⟨cu2, hcu2⟩ : ∃ x, x = (cur.toList.take 0 ++ [z0, z1] ++ cur.toList.drop (0 + 2)).toArray := ⟨_, rfl⟩
    have hrun : (Builtin.append_ #[147, 147] 147 #[.slice (some ⟨g, 0, none⟩) 0 c, .slice (some ⟨vb, 0, none⟩) 1 1]).run Tryz.prog w = .ok (.slice (some ⟨g, 0, none⟩) 1 c) (w.setRow g cu2) := by
      have := run_append_room (P := Tryz.prog) w 147 147 150 i0 Tryz.underlying147 hi0 g 0 c cur a2 ⟨vb, 0, none⟩ 1 1 [z0, z1] (by rw [hq1]; rfl) (vcell w rfl) v1c (by omega) (by rw [hq1]; simp; omega)
      rw [hq1] at this
      rw [hcu2]
      simpa using this
    have FIN : Hid (DelPost w base g (0 + 1) c ([z0, z1] ++ []) (.returned (.slice (some ⟨g, 0, none⟩) 1 c)) (w.setRow g cu2)) := by
      have e1 := setRow_heap w g cur cu2 _ _ a2
      refine ⟨rfl, own_close a1 e1 (by omega) a4 ?_ ?_ (by simp), setRow_mod _ _ _⟩
      · have := seg_len (l := cur.toList) (m := [z0, z1]) (o := 0) (by rw [hcl]; simp; omega)
        rw [hcl] at this
        rw [hcu2]; simpa using this
      · rw [hcu2]; simp
    clear h a5 a6 hxl hcl hx a1 hi0 hq0 hq1 hq2 h1 hcu2 vcell v1c hoth hv a2
    go_enter Tryz.func140, Tryz.ntmps140
    go_wp2_with (first
      | (at_builtin; go_must (refine wpList_append_runR rfl _ _ _ rfl _ _ _ _ rfl rfl hrun ?_)))
    go_ret
    exact FIN.out
  · have hKz : ((0 : Int) == (K : Int)) = false := by rw [beq_eq_false_iff_ne]; omega
    -- what stood is moved by one
    have hfit : 2 + xs.length ≤ cur.toList.length := by rw [hcl, hxl]; omega
    obtain ⟨cu2, hcu2⟩ : ∃ x, x = (cur.toList.take 2 ++ xs ++ cur.toList.drop (2 + xs.length)).toArray := ⟨_, rfl⟩
    have hc2l : cu2.toList.length = c * 2 := by rw [hcu2, List.toList_toArray, seg_len hfit, hcl]
    obtain ⟨cu3, hcu3⟩ : ∃ x, x = (cu2.toList.take 0 ++ [z0, z1] ++ cu2.toList.drop (0 + 2)).toArray := ⟨_, rfl⟩
    have CP1 : ∀ (dc sc : Nat) (ty : TypeId), (Builtin.copy_ #[147, 147] ty #[.slice (some ⟨g, 2, none⟩) K dc, .slice (some ⟨g, 0, none⟩) (K + 1) sc]).run Tryz.prog w.drew = .ok (.int .i64 (K : Int)) (w.drew.setRow g cu2) := fun dc sc ty => by
      have := run_copy2 (P := Tryz.prog) w.drew 147 147 ty 150 g 2 K dc ⟨g, 0, none⟩ (K + 1) sc cur 150 xs 2 i0 Tryz.underlying147 hi0 hq1 a2 (by rw [show Nat.min (K + 1) K = K by simp]; exact hxl) (fun j u hu => by
        obtain ⟨hj, _⟩ := List.getElem?_eq_some_iff.1 hu
        rw [Addr.add_lit, Nat.zero_add, cell_of_row w.drew g _ cur _ _ a2, ← Array.getElem?_toList, hx _ hj]
        exact hu) (by simpa using hfit) h1
      rw [this, hcu2, show Nat.min (K + 1) K = K by simp]
      rfl
    have CP2 : ∀ (dc : Nat) (ty : TypeId), (Builtin.copy_ #[147, 147] ty #[.slice (some ⟨g, 0, none⟩) (K + 1) dc, .slice (some ⟨vb, 0, none⟩) 1 1]).run Tryz.prog (w.drew.setRow g cu2) = .ok (.int .i64 1) ((w.drew.setRow g cu2).setRow g cu3) := fun dc ty => by
      have := run_copy2 (P := Tryz.prog) (w.drew.setRow g cu2) 147 147 ty 150 g 0 (K + 1) dc ⟨vb, 0, none⟩ 1 1 cu2 150 [z0, z1] 2 i0 Tryz.underlying147 hi0 hq1 (setRow_heap w.drew g cur cu2 _ _ a2) (by rw [show Nat.min 1 (K + 1) = 1 by simp]; rfl) (vcell _ (hoth _ _)) (by have : cu2.size = c * 2 := (by simpa using hc2l); simp; omega) v1c
      rw [this, hcu3, show Nat.min 1 (K + 1) = 1 by simp]
      rfl
    have FIN : Hid (DelPost w base g (K + 1) c ([z0, z1] ++ xs) (.returned (.slice (some ⟨g, 0, none⟩) (K + 1) c)) ((w.drew.setRow g cu2).setRow g cu3)) := by
      have e1 := setRow_heap w.drew g cur cu2 _ _ a2
      have e2 := setRow_heap (w.drew.setRow g cu2) g cu2 cu3 _ _ e1
      have hf2 : 0 + [z0, z1].length ≤ cu2.toList.length := by rw [hc2l]; simp; omega
      refine ⟨rfl, own_close a1 e2 hKc a4 ?_ ?_ ?_, (((Mod.refl _ w).drew).trans (setRow_mod _ _ _) fun _ _ q => q).trans (setRow_mod _ _ _) fun _ _ q => q⟩
      · have := seg_len hf2
        rw [hc2l] at this
        rw [hcu3]; simpa using this
      · rw [hcu3, List.toList_toArray, hcu2, List.toList_toArray]
        have l2 : (cur.toList.take 2).length = 0 + 2 := by rw [List.length_take, hcl]; omega
        rw [List.append_assoc (cur.toList.take 2), List.drop_left' l2, List.take_zero, List.nil_append, ← List.append_assoc, List.take_left' (by rw [List.length_append, hxl]; simp; omega)]
      · rw [List.length_append, hxl]; simp; omega
    have hov : ∀ lb cb, (callFunc 143 #[.slice (some ⟨vb, 0, none⟩) 1 1, .slice (some ⟨g, 2, none⟩) lb cb]).run Tryz.prog w = .ok (.value (.bool false)) w := fun lb cb => by
      rw [run_callFunc_extern Tryz.func143 (by kernel_rfl) (by kernel_rfl) (by kernel_rfl) (e := Extern.SlicesOverlaps.overlaps #[147, 147] #[4]) (by kernel_rfl),
        Lib.run_overlaps_apart w 147 4 150 Tryz.underlying147 2 (fun W => by simp [sizeOf, typeInfo, hi0, hq1]) ⟨vb, 0, none⟩ ⟨g, 2, none⟩ 1 1 lb cb hne 150 150 2 cur.size (by unfold Blk at hv; simp [World.shape?, hv]) (by simp [World.shape?, a2]) (by rw [a5]; omega) (hv.frozen 0) (hv.frozen 2)]
      rfl
    have hK1 : (K : Int) + 1 ≤ (c : Int) := by omega
    have hK2 : ¬ (c : Int) < (K : Int) + 1 := by omega
    have hc0 : ¬ c = 0 := by omega
    have hc1 : ¬ c = 1 := by omega
    have hc3 : (1 : Int) ≤ (K : Int) + 1 := by omega
    have hk1 : K + 1 - 1 = K := by omega
    have hw1 : IntKind.i64.wrap 1 = 1 := by rfl
    have hw0 : (0 : Int) ≤ (K : Int) + 1 := by omega
    have hm1 : c ≤ 9223372036854775807 := by simp only [maxLen] at a4; omega
    clear h a5 a6 hxl hcl hx a1 hi0 hq0 hq1 hq2 h1 hcu2 vcell v1c hoth hv a2 hc2l hcu3 hfit
    go_enter Tryz.func140, Tryz.ntmps140
    go_wp2_with (simp only [hov])
    go_region_law (fail)
    all_goals (go_wp2_with fail)
    all_goals go_ret
    all_goals exact FIN.out
end Go.Proofs.YtgcbdoljapnecaaGreat
namespace Go.Proofs.YtgcbdoljapnecaaGreat
set_option maxRecDepth 100000
open Go.RowKit
set_option linter.unusedVariables false
set_option linter.unusedSimpArgs false
abbrev PEl := Nat × Value × List Nat
abbrev pE0 : PEl := (0, Value.bool false, [])
def pcs : List PEl → List Value
  | [] => []
  | p :: ps => .int .i64 (p.1 : Int) :: p.2.1 :: pcs ps
theorem pcs_app : ∀ ps qs : List PEl, pcs (ps ++ qs) = pcs ps ++ pcs qs
  | [], qs => rfl
  | p :: ps, qs => by simp only [pcs, List.cons_append, pcs_app ps qs]
theorem pcs_get : ∀ (ps : List PEl) (j : Nat), j < ps.length → (pcs ps)[j * 2]? = some (.int .i64 ((ps.getD j pE0).1 : Int)) ∧ (pcs ps)[j * 2 + 1]? = some (ps.getD j pE0).2.1
  | [], j, h => absurd h (by simp)
  | p :: ps, 0, h => ⟨rfl, rfl⟩
  | p :: ps, j + 1, h => by
    have := pcs_get ps j (by simpa using h)
    rw [show (j + 1) * 2 = j * 2 + 1 + 1 by omega]
    simpa [pcs] using this
theorem pcs_set : ∀ (ps : List PEl) (j : Nat) (v : Value) (D : List Nat), j < ps.length → (pcs ps).set (j * 2 + 1) v = pcs (ps.set j ((ps.getD j pE0).1, v, D))
  | [], j, _, _, h => absurd h (by simp)
  | p :: ps, 0, v, D, h => rfl
  | p :: ps, j + 1, v, D, h => by
    have := pcs_set ps j v D (by simpa using h)
    rw [show (j + 1) * 2 + 1 = j * 2 + 1 + 1 + 1 by omega]
    simpa [pcs] using this
theorem pcs_take : ∀ (ps : List PEl) (i : Nat), (pcs ps).take (2 * i) = pcs (ps.take i)
  | [], i => by simp [pcs]
  | p :: ps, 0 => rfl
  | p :: ps, i + 1 => by
    rw [show 2 * (i + 1) = 2 * i + 1 + 1 by omega]
    simp only [pcs, List.take_succ_cons, pcs_take ps i]
theorem pcs_drop : ∀ (ps : List PEl) (i : Nat), (pcs ps).drop (2 * i) = pcs (ps.drop i)
  | [], i => by simp [pcs]
  | p :: ps, 0 => rfl
  | p :: ps, i + 1 => by
    rw [show 2 * (i + 1) = 2 * i + 1 + 1 by omega]
    simp only [pcs, List.drop_succ_cons, pcs_drop ps i]
theorem own_own_neP {w : World} {b b' : Nat} {e e' : TypeId} {s s' n n' : Nat} {v v' : Value} {xs xs' : List Value} (h : w.ownsRow b e s v n xs) (h' : w.ownsRow b' e' s' v' n' xs') (hne : e ≠ e') {q : Nat} (hq : v.ownBlock = some q) (hq' : v'.ownBlock = some q) : False := by
  rcases h.2 with ⟨rfl, _⟩ | ⟨g, c, cur, rfl, _, hg, _⟩
  · simp [Value.ownBlock] at hq
  · rcases h'.2 with ⟨rfl, _⟩ | ⟨g', c', cur', rfl, _, hg', _⟩
    · simp [Value.ownBlock] at hq'
    · simp [Value.ownBlock] at hq hq'
      subst hq; subst hq'
      rw [hg] at hg'
      simp at hg'
      exact hne hg'.2
/-- The parts so far, in memory of the call's own. -/
structure PRow (w : World) (base : Nat) (A : Option Addr) (c : Nat) (ps : List PEl) : Prop where
  own : w.ownsRow base 150 2 (.slice A ps.length c) ps.length (pcs ps)
  inn : ∀ j, j < ps.length → (∃ A' c', (ps.getD j pE0).2.1 = .slice A' (ps.getD j pE0).2.2.length c') ∧ w.ownsRow base 3 1 (ps.getD j pE0).2.1 (ps.getD j pE0).2.2.length (I64 (ofN (ps.getD j pE0).2.2))
  dj : ∀ i j, i < ps.length → j < ps.length → i ≠ j → ∀ k, (ps.getD i pE0).2.1.ownBlock = some k → (ps.getD j pE0).2.1.ownBlock ≠ some k
section
variable {w w' : World} {base c : Nat} {A : Option Addr} {ps : List PEl}
theorem PRow.below (h : PRow w base A c ps) (m : Below w.heap.size w w') : PRow w' base A c ps :=
  ⟨own_below h.own m, fun j hj => ⟨(h.inn j hj).1, own_below (h.inn j hj).2 m⟩, h.dj⟩
theorem PRow.one (h : PRow w base A c ps) : ∀ v ∈ pcs ps, v.oneCell' = true := by
  have : ∀ qs : List PEl, (∀ j, j < qs.length → ∃ A' c', (qs.getD j pE0).2.1 = .slice A' (qs.getD j pE0).2.2.length c') → ∀ v ∈ pcs qs, v.oneCell' = true := by
    intro qs
    induction qs with
    | nil => intro _ v hv; simp [pcs] at hv
    | cons q qs ih =>
      intro hq v hv
      simp only [pcs, List.mem_cons] at hv
      rcases hv with rfl | rfl | hv
      · rfl
      · obtain ⟨A', c', e⟩ := hq 0 (by simp)
        have e' : q.2.1 = .slice A' q.2.2.length c' := e
        rw [e']; rfl
      · exact ih (fun j hj => by have := hq (j + 1) (by simpa using hj); simpa using this) v hv
  exact this ps fun j hj => (h.inn j hj).1
/-- A part more, without darts yet. -/
theorem PRow.snoc (h : PRow w base A c ps) {d : Nat} {A' : Option Addr} {c' : Nat} {w1 : World} (hb : Below w.heap.size w w1) (ho : w'.ownsRow base 150 2 (.slice A' (ps.length + 1) c') (ps.length + 1) (pcs ps ++ [.int .i64 (d : Int), .slice none 0 0])) (hg : w1.grownBy w' (Value.slice A ps.length c).ownBlock) :
    PRow w' base A' c' (ps ++ [(d, .slice none 0 0, [])]) := by
  have MG := Mod.ofGrown hg
  have hl : (ps ++ [((d, .slice none 0 0, []) : PEl)]).length = ps.length + 1 := by simp
  have gl : ∀ j, j < ps.length → (ps ++ [((d, .slice none 0 0, []) : PEl)]).getD j pE0 = ps.getD j pE0 := fun j hj => by rw [List.getD_eq_getElem?_getD, List.getElem?_append_left hj, ← List.getD_eq_getElem?_getD]
  have gr : (ps ++ [((d, .slice none 0 0, []) : PEl)]).getD ps.length pE0 = (d, .slice none 0 0, []) := by simp [List.getD_eq_getElem?_getD]
  refine ⟨by rw [hl, pcs_app]; exact ho, fun j hj => ?_, fun i j hi hj hij k hk => ?_⟩
  · rw [hl] at hj
    by_cases e : j < ps.length
    · rw [gl j e]
      exact ⟨(h.inn j e).1, own_mod (own_below (h.inn j e).2 hb) MG fun k hk q => own_own_neP (own_below (h.inn j e).2 hb) (own_below h.own hb) (by decide) hk q.symm⟩
    · obtain rfl : j = ps.length := by omega
      rw [gr]
      exact ⟨⟨none, 0, rfl⟩, World.ownsRow_nil _ _ _ _⟩
  · rw [hl] at hi hj
    by_cases e1 : i < ps.length
    · rw [gl i e1] at hk
      by_cases e2 : j < ps.length
      · rw [gl j e2]; exact h.dj i j e1 e2 hij k hk
      · obtain rfl : j = ps.length := by omega
        rw [gr]; simp [Value.ownBlock]
    · obtain rfl : i = ps.length := by omega
      rw [gr] at hk
      simp [Value.ownBlock] at hk
/-- A dart is put to a part. -/
theorem PRow.grow {g : Nat} (h : PRow w base (some ⟨g, 0, none⟩) c ps) (hbase : base ≤ w.heap.size) {j d : Nat} (hj : j < ps.length) (hn : (ps.getD j pE0).2.2.length ≤ 1000000) :
    ∃ A1 cj A2 c2 w2, (ps.getD j pE0).2.1 = .slice A1 (ps.getD j pE0).2.2.length cj ∧ (Builtin.append_ #[29, 29] 29 #[.slice A1 (ps.getD j pE0).2.2.length cj, .slice (some ⟨w.heap.size, 0, none⟩) 1 1]).run Tryz.prog (w.alloc (.cells #[.int .i64 (d : Int)] 3)) = .ok (.slice A2 ((ps.getD j pE0).2.2.length + 1) c2) w2 ∧
      w2.cell? ⟨g, j * 2 + 1, none⟩ = some (.slice A1 (ps.getD j pE0).2.2.length cj) ∧ w2.frozen? ⟨g, j * 2 + 1, none⟩ = false ∧
      PRow (w2.setCell ⟨g, j * 2 + 1, none⟩ (.slice A2 ((ps.getD j pE0).2.2.length + 1) c2)) base (some ⟨g, 0, none⟩) c (ps.set j ((ps.getD j pE0).1, .slice A2 ((ps.getD j pE0).2.2.length + 1) c2, (ps.getD j pE0).2.2 ++ [d])) ∧
      Below base w (w2.setCell ⟨g, j * 2 + 1, none⟩ (.slice A2 ((ps.getD j pE0).2.2.length + 1) c2)) ∧ Mod (fun q => q = g ∨ some q = (ps.getD j pE0).2.1.ownBlock) w (w2.setCell ⟨g, j * 2 + 1, none⟩ (.slice A2 ((ps.getD j pE0).2.2.length + 1) c2)) ∧
      (∀ q, (Value.slice A2 ((ps.getD j pE0).2.2.length + 1) c2).ownBlock = some q → (ps.getD j pE0).2.1.ownBlock = some q ∨ w.heap.size ≤ q) := by
  obtain ⟨i0, hi0, hz0, hz1, hz2⟩ := info_parts info_int
  obtain ⟨⟨A1, cj, e1⟩, oj⟩ := h.inn j hj
  have hal : Below w.heap.size w (w.alloc (.cells #[.int .i64 (d : Int)] 3)) := (Below.refl _ _).alloc (Nat.le_refl _) _
  have h1 := h.below hal
  have oj1 := own_below oj hal
  rw [e1] at oj1
  have rd := Rd.new w 3 #[.int .i64 (d : Int)] 1 [.int .i64 (d : Int)] rfl rfl
  obtain ⟨v', w2, hrun, hnew, hgr, hob⟩ := run_append_rd (P := Tryz.prog) (w.alloc (.cells #[.int .i64 (d : Int)] 3)) base 29 29 3 i0 (.int .i64 0) 8 Tryz.underlying29 hi0 hz0 hz1 hz2 rfl _ _ _ oj1 (w.heap.size + 1) (some ⟨w.heap.size, 0, none⟩) 1 1 _ rd (by simp [Value.oneCell']) (by simp only [maxLen]; omega) (by omega) (by simp; omega)
  obtain ⟨A2, c2, rfl, _, _⟩ := own_form hnew
  have MG := Mod.ofGrown hgr
  have ow1 := h1.own
  have ow2 := own_mod ow1 MG fun k hk q => own_own_neP oj1 ow1 (by decide) q.symm hk
  have hgw := (own_block h.own)
  have hcell := ow2.cellAt (j * 2 + 1) (by omega)
  rw [(pcs_get ps j hj).2, e1] at hcell
  have hfz := ow2.frozenAt (j * 2 + 1)
  have MX : Mod (fun k => k = g) w2 (w2.setCell ⟨g, j * 2 + 1, none⟩ (.slice A2 ((ps.getD j pE0).2.2.length + 1) c2)) := Mod.setCell (p := ⟨g, j * 2 + 1, none⟩) (Mod.refl (fun k => k = g) w2) (fun _ => rfl) _
  have new : ∀ k, (Value.slice A2 ((ps.getD j pE0).2.2.length + 1) c2).ownBlock = some k → (ps.getD j pE0).2.1.ownBlock = some k ∨ w.heap.size ≤ k := fun k hk => by
    rcases hob with q | q
    · exact .inl (by rw [e1, ← q]; exact hk)
    · rw [hk] at q
      have := Option.some.inj q
      exact .inr (by simp at this; omega)
  have gs : ∀ i, (ps.set j ((ps.getD j pE0).1, .slice A2 ((ps.getD j pE0).2.2.length + 1) c2, (ps.getD j pE0).2.2 ++ [d])).getD i pE0 = if i = j then ((ps.getD j pE0).1, .slice A2 ((ps.getD j pE0).2.2.length + 1) c2, (ps.getD j pE0).2.2 ++ [d]) else ps.getD i pE0 := fun i => getD_setR _ _ _ _ _ hj
  have ilt : ∀ i, i < ps.length → ∀ k, (ps.getD i pE0).2.1.ownBlock = some k → k < w.heap.size := fun i hi k hk => ((h.inn i hi).2.lt k hk).2
  refine ⟨A1, cj, A2, c2, w2, e1, hrun, hcell, hfz, ⟨?_, fun i hi => ?_, fun i k hi hk hik q hq => ?_⟩, ?_⟩
  · rw [List.length_set]
    have := (ow2.stored (j * 2 + 1) (.slice A2 ((ps.getD j pE0).2.2.length + 1) c2)).1
    rw [pcs_set ps j _ ((ps.getD j pE0).2.2 ++ [d]) hj] at this
    exact this
  · rw [List.length_set] at hi
    rw [gs]
    by_cases e : i = j
    · rw [if_pos e]
      refine ⟨⟨A2, c2, by simp⟩, ?_⟩
      have hl : ((ps.getD j pE0).2.2 ++ [d]).length = (ps.getD j pE0).2.2.length + 1 := by simp
      show World.ownsRow _ _ _ _ _ _ _
      rw [hl, ofN_snocR]
      exact own_mod hnew MX fun k hk q => own_own_neP hnew ow2 (by decide) hk (by rw [q]; simp [Value.ownBlock])
    · rw [if_neg e]
      have oi := (h1.inn i hi).2
      have oi2 := own_mod oi MG fun k hk q => h.dj i j hi hj e k hk (by rw [e1]; exact q.symm)
      exact ⟨(h.inn i hi).1, own_mod oi2 MX fun k hk q => own_own_neP oi2 ow2 (by decide) hk (by rw [q]; simp [Value.ownBlock])⟩
  · rw [List.length_set] at hi hk
    rw [gs] at hq ⊢
    by_cases e1' : i = j
    · rw [if_pos e1'] at hq
      rw [if_neg (fun c => hik (e1'.trans c.symm))]
      rcases new q hq with n1 | n1
      · exact h.dj j k hj hk (fun c => hik (e1'.trans c)) q n1
      · intro c; have := ilt k hk q c; omega
    · rw [if_neg e1'] at hq
      by_cases e2' : k = j
      · rw [if_pos e2']
        intro c
        rcases new q c with n1 | n1
        · exact h.dj i j hi hj e1' q hq n1
        · have := ilt i hi q hq; omega
      · rw [if_neg e2']; exact h.dj i k hi hk hik q hq
  · refine ⟨?_, Mod.setCell (p := ⟨g, j * 2 + 1, none⟩) ((Mod.none_ hal (fun q => q = g ∨ some q = (ps.getD j pE0).2.1.ownBlock)).trans MG fun q _ hq => .inr (by rw [e1]; exact hq)) (fun _ => .inl rfl) _, new⟩
    have b1 : Below base w (w.alloc (.cells #[.int .i64 (d : Int)] 3)) := (Below.refl _ _).alloc hbase _
    exact (b1.trans (Below.appended oj1 hgr (by simp; omega))).setCell (p := ⟨g, j * 2 + 1, none⟩) hgw.1 _
end
end Go.Proofs.YtgcbdoljapnecaaGreat
namespace Go.Proofs.YtgcbdoljapnecaaGreat
set_option maxRecDepth 20000
open Go.RowKit
set_option linter.unusedVariables false
set_option linter.unusedSimpArgs false
section
variable {l b l' : List Nat} {f : Nat → Nat}
/-- And each turn is one. -/
theorem Trn.map {p q : List Nat} {r r' : Nat} (t : Trn l l' r r' p q) : ∀ d, d < l.length → sgL p (sgL l d) = sgL l' (sgL p d) ∧ sgL p (mt d) = mt (sgL p d) := fun d hd => by
  have k := cj_at t.nam hd
  rw [t.img] at k
  exact ⟨k.symm, t.nam.mt d hd⟩
/-- What follows turns and mates from the root on is the turn, as far as it goes. -/
theorem Trn.agree {p q : List Nat} {r r' : Nat} (hl : Inv l b) (t : Trn l l' r r' p q) {S : Nat → Prop} (hS : ∀ d, S d → d < l.length) {f : Nat → Nat} (h : ∀ d, S d → f d = sgL p d) {d : Nat} (hd : S d) :
    sgL p (sgL l d) = sgL l' (f d) ∧ sgL p (mt d) = mt (f d) := by
  rw [h d hd]
  exact t.map d (hS d hd)
end
end Go.Proofs.YtgcbdoljapnecaaGreat
