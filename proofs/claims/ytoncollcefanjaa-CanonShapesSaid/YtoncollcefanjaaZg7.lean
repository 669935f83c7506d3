/- The parts of a map, side by side: memory and mathematics. A turn, followed from dart to dart: mathematics. Sorts of darts, parted finer and finer: mathematics. -/
import Derived.Test.YtoncollcefanjaaZg6
import Derived.Test.YtoncollcefanjaaZg5
import Derived.Test.YtoncollcefanjaaZg4
namespace Go.Proofs.Ytoncollcefanjaa
set_option maxRecDepth 100000
open Go.RowKit
set_option linter.unusedVariables false
set_option linter.unusedSimpArgs false
abbrev PEl := Nat × Value × List Nat
abbrev pE0 : PEl := (0, Value.bool false, [])
def pcs : List PEl → List Value
  | [] => []
  | p :: ps => .int .i64 (p.1 : Int) :: p.2.1 :: pcs ps
theorem pcs_len : ∀ ps : List PEl, (pcs ps).length = ps.length * 2
  | [] => rfl
  | p :: ps => by simp only [pcs, List.length_cons, pcs_len ps]; omega
theorem pcs_app : ∀ ps qs : List PEl, pcs (ps ++ qs) = pcs ps ++ pcs qs
  | [], qs => rfl
  | p :: ps, qs => by simp only [pcs, List.cons_append, pcs_app ps qs]
theorem pcs_get : ∀ (ps : List PEl) (j : Nat), j < ps.length → (pcs ps)[j * 2]? = some (.int .i64 ((ps.getD j pE0).1 : Int)) ∧ (pcs ps)[j * 2 + 1]? = some (ps.getD j pE0).2.1
  | [], j, h => absurd h (by simp)
  | p :: ps, 0, h => ⟨rfl, rfl⟩
  | p :: ps, j + 1, h => by
    have := pcs_get ps j (by simpa using h)
    rw [show (j + 1) * 2 = j * 2 + 1 + 1 by omega]
    simpa [pcs] using this
theorem pcs_set : ∀ (ps : List PEl) (j : Nat) (v : Value) (D : List Nat), j < ps.length → (pcs ps).set (j * 2 + 1) v = pcs (ps.set j ((ps.getD j pE0).1, v, D))
  | [], j, _, _, h => absurd h (by simp)
  | p :: ps, 0, v, D, h => rfl
  | p :: ps, j + 1, v, D, h => by
    have := pcs_set ps j v D (by simpa using h)
    rw [show (j + 1) * 2 + 1 = j * 2 + 1 + 1 + 1 by omega]
    simpa [pcs] using this
theorem pcs_take : ∀ (ps : List PEl) (i : Nat), (pcs ps).take (2 * i) = pcs (ps.take i)
  | [], i => by simp [pcs]
  | p :: ps, 0 => rfl
  | p :: ps, i + 1 => by
    rw [show 2 * (i + 1) = 2 * i + 1 + 1 by omega]
    simp only [pcs, List.take_succ_cons, pcs_take ps i]
theorem pcs_drop : ∀ (ps : List PEl) (i : Nat), (pcs ps).drop (2 * i) = pcs (ps.drop i)
  | [], i => by simp [pcs]
  | p :: ps, 0 => rfl
  | p :: ps, i + 1 => by
    rw [show 2 * (i + 1) = 2 * i + 1 + 1 by omega]
    simp only [pcs, List.drop_succ_cons, pcs_drop ps i]
theorem own_own_neP {w : World} {b b' : Nat} {e e' : TypeId} {s s' n n' : Nat} {v v' : Value} {xs xs' : List Value} (h : w.ownsRow b e s v n xs) (h' : w.ownsRow b' e' s' v' n' xs') (hne : e ≠ e') {q : Nat} (hq : v.ownBlock = some q) (hq' : v'.ownBlock = some q) : False := by
  rcases h.2 with ⟨rfl, _⟩ | ⟨g, c, cur, rfl, _, hg, _⟩
  · simp [Value.ownBlock] at hq
  · rcases h'.2 with ⟨rfl, _⟩ | ⟨g', c', cur', rfl, _, hg', _⟩
    · simp [Value.ownBlock] at hq'
    · simp [Value.ownBlock] at hq hq'
      subst hq; subst hq'
      rw [hg] at hg'
      simp at hg'
      exact hne hg'.2
/-- The parts so far, in memory of the call's own. -/
structure PRow (w : World) (base : Nat) (A : Option Addr) (c : Nat) (ps : List PEl) : Prop where
  own : w.ownsRow base 105 2 (.slice A ps.length c) ps.length (pcs ps)
  inn : ∀ j, j < ps.length → (∃ A' c', (ps.getD j pE0).2.1 = .slice A' (ps.getD j pE0).2.2.length c') ∧ w.ownsRow base 3 1 (ps.getD j pE0).2.1 (ps.getD j pE0).2.2.length (I64 (ofN (ps.getD j pE0).2.2))
  dj : ∀ i j, i < ps.length → j < ps.length → i ≠ j → ∀ k, (ps.getD i pE0).2.1.ownBlock = some k → (ps.getD j pE0).2.1.ownBlock ≠ some k
section
variable {w w' : World} {base c : Nat} {A : Option Addr} {ps : List PEl}
theorem PRow.below (h : PRow w base A c ps) (m : Below w.heap.size w w') : PRow w' base A c ps :=
  ⟨own_below h.own m, fun j hj => ⟨(h.inn j hj).1, own_below (h.inn j hj).2 m⟩, h.dj⟩
theorem PRow.one (h : PRow w base A c ps) : ∀ v ∈ pcs ps, v.oneCell' = true := by
  have : ∀ qs : List PEl, (∀ j, j < qs.length → ∃ A' c', (qs.getD j pE0).2.1 = .slice A' (qs.getD j pE0).2.2.length c') → ∀ v ∈ pcs qs, v.oneCell' = true := by
    intro qs
    induction qs with
    | nil => intro _ v hv; simp [pcs] at hv
    | cons q qs ih =>
      intro hq v hv
      simp only [pcs, List.mem_cons] at hv
      rcases hv with rfl | rfl | hv
      · rfl
      · obtain ⟨A', c', e⟩ := hq 0 (by simp)
        have e' : q.2.1 = .slice A' q.2.2.length c' := e
        rw [e']; rfl
      · exact ih (fun j hj => by have := hq (j + 1) (by simpa using hj); simpa using this) v hv
  exact this ps fun j hj => (h.inn j hj).1
/-- A part more, without darts yet. -/
theorem PRow.snoc (h : PRow w base A c ps) {d : Nat} {A' : Option Addr} {c' : Nat} {w1 : World} (hb : Below w.heap.size w w1) (ho : w'.ownsRow base 105 2 (.slice A' (ps.length + 1) c') (ps.length + 1) (pcs ps ++ [.int .i64 (d : Int), .slice none 0 0])) (hg : w1.grownBy w' (Value.slice A ps.length c).ownBlock) :
    PRow w' base A' c' (ps ++ [(d, .slice none 0 0, [])]) := by
  have MG := Mod.ofGrown hg
  have hl : (ps ++ [((d, .slice none 0 0, []) : PEl)]).length = ps.length + 1 := by simp
  have gl : ∀ j, j < ps.length → (ps ++ [((d, .slice none 0 0, []) : PEl)]).getD j pE0 = ps.getD j pE0 := fun j hj => by rw [List.getD_eq_getElem?_getD, List.getElem?_append_left hj, ← List.getD_eq_getElem?_getD]
  have gr : (ps ++ [((d, .slice none 0 0, []) : PEl)]).getD ps.length pE0 = (d, .slice none 0 0, []) := by simp [List.getD_eq_getElem?_getD]
  refine ⟨by rw [hl, pcs_app]; exact ho, fun j hj => ?_, fun i j hi hj hij k hk => ?_⟩
  · rw [hl] at hj
    by_cases e : j < ps.length
    · rw [gl j e]
      exact ⟨(h.inn j e).1, own_mod (own_below (h.inn j e).2 hb) MG fun k hk q => own_own_neP (own_below (h.inn j e).2 hb) (own_below h.own hb) (by decide) hk q.symm⟩
    · obtain rfl : j = ps.length := by omega
      rw [gr]
      exact ⟨⟨none, 0, rfl⟩, World.ownsRow_nil _ _ _ _⟩
  · rw [hl] at hi hj
    by_cases e1 : i < ps.length
    · rw [gl i e1] at hk
      by_cases e2 : j < ps.length
      · rw [gl j e2]; exact h.dj i j e1 e2 hij k hk
      · obtain rfl : j = ps.length := by omega
        rw [gr]; simp [Value.ownBlock]
    · obtain rfl : i = ps.length := by omega
      rw [gr] at hk
      simp [Value.ownBlock] at hk
/-- A dart is put to a part. -/
theorem PRow.grow {g : Nat} (h : PRow w base (some ⟨g, 0, none⟩) c ps) (hbase : base ≤ w.heap.size) {j d : Nat} (hj : j < ps.length) (hn : (ps.getD j pE0).2.2.length ≤ 1000000) :
    ∃ A1 cj A2 c2 w2, (ps.getD j pE0).2.1 = .slice A1 (ps.getD j pE0).2.2.length cj ∧ (Builtin.append_ #[24, 24] 24 #[.slice A1 (ps.getD j pE0).2.2.length cj, .slice (some ⟨w.heap.size, 0, none⟩) 1 1]).run Try.prog (w.alloc (.cells #[.int .i64 (d : Int)] 3)) = .ok (.slice A2 ((ps.getD j pE0).2.2.length + 1) c2) w2 ∧
      w2.cell? ⟨g, j * 2 + 1, none⟩ = some (.slice A1 (ps.getD j pE0).2.2.length cj) ∧ w2.frozen? ⟨g, j * 2 + 1, none⟩ = false ∧
      PRow (w2.setCell ⟨g, j * 2 + 1, none⟩ (.slice A2 ((ps.getD j pE0).2.2.length + 1) c2)) base (some ⟨g, 0, none⟩) c (ps.set j ((ps.getD j pE0).1, .slice A2 ((ps.getD j pE0).2.2.length + 1) c2, (ps.getD j pE0).2.2 ++ [d])) ∧
      Below base w (w2.setCell ⟨g, j * 2 + 1, none⟩ (.slice A2 ((ps.getD j pE0).2.2.length + 1) c2)) ∧ Mod (fun q => q = g ∨ some q = (ps.getD j pE0).2.1.ownBlock) w (w2.setCell ⟨g, j * 2 + 1, none⟩ (.slice A2 ((ps.getD j pE0).2.2.length + 1) c2)) ∧
      (∀ q, (Value.slice A2 ((ps.getD j pE0).2.2.length + 1) c2).ownBlock = some q → (ps.getD j pE0).2.1.ownBlock = some q ∨ w.heap.size ≤ q) := by
  obtain ⟨i0, hi0, hz0, hz1, hz2⟩ := info_parts info_int
  obtain ⟨⟨A1, cj, e1⟩, oj⟩ := h.inn j hj
  have hal : Below w.heap.size w (w.alloc (.cells #[.int .i64 (d : Int)] 3)) := (Below.refl _ _).alloc (Nat.le_refl _) _
  have h1 := h.below hal
  have oj1 := own_below oj hal
  rw [e1] at oj1
  have rd := Rd.new w 3 #[.int .i64 (d : Int)] 1 [.int .i64 (d : Int)] rfl rfl
  obtain ⟨v', w2, hrun, hnew, hgr, hob⟩ := run_append_rd (P := Try.prog) (w.alloc (.cells #[.int .i64 (d : Int)] 3)) base 24 24 3 i0 (.int .i64 0) 8 Try.underlying24 hi0 hz0 hz1 hz2 rfl _ _ _ oj1 (w.heap.size + 1) (some ⟨w.heap.size, 0, none⟩) 1 1 _ rd (by simp [Value.oneCell']) (by simp only [maxLen]; omega) (by omega) (by simp; omega)
  obtain ⟨A2, c2, rfl, _, _⟩ := own_form hnew
  have MG := Mod.ofGrown hgr
  have ow1 := h1.own
  have ow2 := own_mod ow1 MG fun k hk q => own_own_neP oj1 ow1 (by decide) q.symm hk
  have hgw := (own_block h.own)
  have hcell := ow2.cellAt (j * 2 + 1) (by omega)
  rw [(pcs_get ps j hj).2, e1] at hcell
  have hfz := ow2.frozenAt (j * 2 + 1)
  have MX : Mod (fun k => k = g) w2 (w2.setCell ⟨g, j * 2 + 1, none⟩ (.slice A2 ((ps.getD j pE0).2.2.length + 1) c2)) := Mod.setCell (p := ⟨g, j * 2 + 1, none⟩) (Mod.refl (fun k => k = g) w2) (fun _ => rfl) _
  have new : ∀ k, (Value.slice A2 ((ps.getD j pE0).2.2.length + 1) c2).ownBlock = some k → (ps.getD j pE0).2.1.ownBlock = some k ∨ w.heap.size ≤ k := fun k hk => by
    rcases hob with q | q
    · exact .inl (by rw [e1, ← q]; exact hk)
    · rw [hk] at q
      have := Option.some.inj q
      exact .inr (by simp at this; omega)
  have gs : ∀ i, (ps.set j ((ps.getD j pE0).1, .slice A2 ((ps.getD j pE0).2.2.length + 1) c2, (ps.getD j pE0).2.2 ++ [d])).getD i pE0 = if i = j then ((ps.getD j pE0).1, .slice A2 ((ps.getD j pE0).2.2.length + 1) c2, (ps.getD j pE0).2.2 ++ [d]) else ps.getD i pE0 := fun i => getD_setR _ _ _ _ _ hj
  have ilt : ∀ i, i < ps.length → ∀ k, (ps.getD i pE0).2.1.ownBlock = some k → k < w.heap.size := fun i hi k hk => ((h.inn i hi).2.lt k hk).2
  refine ⟨A1, cj, A2, c2, w2, e1, hrun, hcell, hfz, ⟨?_, fun i hi => ?_, fun i k hi hk hik q hq => ?_⟩, ?_⟩
  · rw [List.length_set]
    have := (ow2.stored (j * 2 + 1) (.slice A2 ((ps.getD j pE0).2.2.length + 1) c2)).1
    rw [pcs_set ps j _ ((ps.getD j pE0).2.2 ++ [d]) hj] at this
    exact this
  · rw [List.length_set] at hi
    rw [gs]
    by_cases e : i = j
    · rw [if_pos e]
      refine ⟨⟨A2, c2, by simp⟩, ?_⟩
      have hl : ((ps.getD j pE0).2.2 ++ [d]).length = (ps.getD j pE0).2.2.length + 1 := by simp
      show World.ownsRow _ _ _ _ _ _ _
      rw [hl, ofN_snocR]
      exact own_mod hnew MX fun k hk q => own_own_neP hnew ow2 (by decide) hk (by rw [q]; simp [Value.ownBlock])
    · rw [if_neg e]
      have oi := (h1.inn i hi).2
      have oi2 := own_mod oi MG fun k hk q => h.dj i j hi hj e k hk (by rw [e1]; exact q.symm)
      exact ⟨(h.inn i hi).1, own_mod oi2 MX fun k hk q => own_own_neP oi2 ow2 (by decide) hk (by rw [q]; simp [Value.ownBlock])⟩
  · rw [List.length_set] at hi hk
    rw [gs] at hq ⊢
    by_cases e1' : i = j
    · rw [if_pos e1'] at hq
      rw [if_neg (fun c => hik (e1'.trans c.symm))]
      rcases new q hq with n1 | n1
      · exact h.dj j k hj hk (fun c => hik (e1'.trans c)) q n1
      · intro c; have := ilt k hk q c; omega
    · rw [if_neg e1'] at hq
      by_cases e2' : k = j
      · rw [if_pos e2']
        intro c
        rcases new q c with n1 | n1
        · exact h.dj i j hi hj e1' q hq n1
        · have := ilt i hi q hq; omega
      · rw [if_neg e2']; exact h.dj i k hi hk hik q hq
  · refine ⟨?_, Mod.setCell (p := ⟨g, j * 2 + 1, none⟩) ((Mod.none_ hal (fun q => q = g ∨ some q = (ps.getD j pE0).2.1.ownBlock)).trans MG fun q _ hq => .inr (by rw [e1]; exact hq)) (fun _ => .inl rfl) _, new⟩
    have b1 : Below base w (w.alloc (.cells #[.int .i64 (d : Int)] 3)) := (Below.refl _ _).alloc hbase _
    exact (b1.trans (Below.appended oj1 hgr (by simp; omega))).setCell (p := ⟨g, j * 2 + 1, none⟩) hgw.1 _
end
end Go.Proofs.Ytoncollcefanjaa
namespace Go.Proofs.Ytoncollcefanjaa
set_option maxRecDepth 20000
open Go.RowKit
set_option linter.unusedVariables false
set_option linter.unusedSimpArgs false
section
variable {l b l' : List Nat} {f : Nat → Nat}
open Classical in
/-- What takes each dart to one, turns to turns and mates to mates, none twice, is a turn. -/
theorem Trn.ofMap (hl : Inv l b) (he : l.length % 2 = 0) (hlen : l'.length = l.length) (hf : ∀ d, d < l.length → f d < l.length) (hi : ∀ d e, d < l.length → e < l.length → f d = f e → d = e)
    (hs : ∀ d, d < l.length → f (sgL l d) = sgL l' (f d)) (hm : ∀ d, d < l.length → f (mt d) = mt (f d)) {r : Nat} (hr : r < l.length) : ∃ p q, Trn l l' r (f r) p q ∧ ∀ d, d < l.length → sgL p d = f d := by
  have hsu := inj_surj l.length f hf hi
  obtain ⟨g, hg⟩ : ∃ g : Nat → Nat, ∀ v, v < l.length → g v < l.length ∧ f (g v) = v := ⟨fun v => if h : v < l.length then (hsu v h).choose else 0, fun v hv => by
    simp only [dif_pos hv]
    exact (hsu v hv).choose_spec⟩
  have P : ∀ d, d < l.length → ((List.range l.length).map f).getD d 0 = f d := fun d hd => by simp [List.getD_eq_getElem?_getD, hd]
  have Q : ∀ d, d < l.length → ((List.range l.length).map g).getD d 0 = g d := fun d hd => by simp [List.getD_eq_getElem?_getD, hd]
  have hN : Nam l.length ((List.range l.length).map f) ((List.range l.length).map g) := by
    refine ⟨⟨by simp, fun i h => ?_, fun i h => ?_, fun i h => ?_, fun i h => ?_⟩, by simp, he, fun d hd => ?_⟩
    · simp only [List.length_map, List.length_range] at h ⊢; rw [P i h]; exact hf i h
    · simp only [List.length_map, List.length_range] at h ⊢; rw [Q i h]; exact (hg i h).1
    · simp only [List.length_map, List.length_range] at h
      rw [P i h, Q _ (hf i h)]
      exact hi _ _ (hg _ (hf i h)).1 h (hg _ (hf i h)).2
    · simp only [List.length_map, List.length_range] at h
      rw [Q i h, P _ (hg i h).1]
      exact (hg i h).2
    · show ((List.range l.length).map f).getD _ 0 = mt (((List.range l.length).map f).getD d 0)
      rw [P _ (mt_in he hd), P d hd, hm d hd]
  refine ⟨_, _, ⟨hN, getDN_extC (by rw [cjL_len, hlen]) fun i h => ?_, P r hr⟩, P⟩
  rw [cjL_len] at h
  have e1 := cjL_get ((List.range l.length).map f) ((List.range l.length).map g) l h
  have e2 : sgL ((List.range l.length).map g) i = g i := Q i h
  have e3 : sgL ((List.range l.length).map f) (sgL l (g i)) = f (sgL l (g i)) := P _ (hl.lt _ (hg i h).1)
  show sgL (cjL _ _ l) i = sgL l' i
  rw [e1, e2, e3, hs _ (hg i h).1, (hg i h).2]
/-- And each turn is one. -/
theorem Trn.map {p q : List Nat} {r r' : Nat} (t : Trn l l' r r' p q) : ∀ d, d < l.length → sgL p (sgL l d) = sgL l' (sgL p d) ∧ sgL p (mt d) = mt (sgL p d) := fun d hd => by
  have k := cj_at t.nam hd
  rw [t.img] at k
  exact ⟨k.symm, t.nam.mt d hd⟩
/-- What follows turns and mates from the root on is the turn, as far as it goes. -/
theorem Trn.agree {p q : List Nat} {r r' : Nat} (hl : Inv l b) (t : Trn l l' r r' p q) {S : Nat → Prop} (hS : ∀ d, S d → d < l.length) {f : Nat → Nat} (h : ∀ d, S d → f d = sgL p d) {d : Nat} (hd : S d) :
    sgL p (sgL l d) = sgL l' (f d) ∧ sgL p (mt d) = mt (f d) := by
  rw [h d hd]
  exact t.map d (hS d hd)
/-- What is closed under turns and mates, and has the root, is all of a map of one part. -/
theorem one_closed (hl : Inv l b) (he : l.length % 2 = 0) {r : Nat} (hr : r < l.length) (hp : ∀ j, j < l.length → part l r j) {S : Nat → Prop} (h0 : S r) (hs : ∀ d, d < l.length → S d → S (sgL l d)) (hm : ∀ d, d < l.length → S d → S (mt d)) : ∀ d, d < l.length → S d := fun d hd =>
  (part_closed (S := S) (sgL_pf hl) (m := l.length / 2) (by omega) hs hm r d hr hd (hp d hd)).1 h0
end
end Go.Proofs.Ytoncollcefanjaa
namespace Go.Proofs.Ytoncollcefanjaa
set_option maxRecDepth 20000
open Go.RowKit
set_option linter.unusedVariables false
set_option linter.unusedSimpArgs false
/-- D: the darts sort by sort; P: where each stands; O: the sort of each; F: where each sort begins; Z: how many it has. -/
structure Srt (n : Nat) (D P O F Z : List Nat) : Prop where
  inv : Inv D P
  dl : D.length = n
  ol : O.length = n
  zl : Z.length = F.length
  olt : ∀ d, d < n → O.getD d 0 < F.length
  fz : ∀ s, s < F.length → F.getD s 0 + Z.getD s 0 ≤ n
  pos : ∀ s, s < F.length → 0 < Z.getD s 0
  ins : ∀ p s, p < n → s < F.length → (O.getD (D.getD p 0) 0 = s ↔ F.getD s 0 ≤ p ∧ p < F.getD s 0 + Z.getD s 0)
/-- Of each sort the first ones, C, are chosen: the darts X. -/
structure Cho (n : Nat) (P O F Z C : List Nat) (X : Nat → Prop) : Prop where
  len : C.length = F.length
  le : ∀ s, s < F.length → C.getD s 0 ≤ Z.getD s 0
  is : ∀ d, d < n → (P.getD d 0 < F.getD (O.getD d 0) 0 + C.getD (O.getD d 0) 0 ↔ X d)
section
variable {n : Nat} {D P O F Z C : List Nat} {X : Nat → Prop}
theorem Srt.pl (S : Srt n D P O F Z) : P.length = n := by rw [S.inv.len, S.dl]
theorem Srt.plt (S : Srt n D P O F Z) {d : Nat} (hd : d < n) : P.getD d 0 < n := by have := S.inv.lt' d (by rw [S.dl]; exact hd); rwa [S.dl] at this
theorem Srt.dlt (S : Srt n D P O F Z) {p : Nat} (hp : p < n) : D.getD p 0 < n := by have := S.inv.lt p (by rw [S.dl]; exact hp); rwa [S.dl] at this
theorem Srt.dp (S : Srt n D P O F Z) {d : Nat} (hd : d < n) : D.getD (P.getD d 0) 0 = d := S.inv.bl d (by rw [S.dl]; exact hd)
theorem Srt.pd (S : Srt n D P O F Z) {p : Nat} (hp : p < n) : P.getD (D.getD p 0) 0 = p := S.inv.lb p (by rw [S.dl]; exact hp)
/-- Where a dart stands. -/
theorem Srt.at_ (S : Srt n D P O F Z) {d s : Nat} (hd : d < n) (hs : s < F.length) : O.getD d 0 = s ↔ F.getD s 0 ≤ P.getD d 0 ∧ P.getD d 0 < F.getD s 0 + Z.getD s 0 := by
  have := S.ins (P.getD d 0) s (S.plt hd) hs
  rwa [S.dp hd] at this
/-- There are no more sorts than darts. -/
theorem Srt.few (S : Srt n D P O F Z) : F.length ≤ n := by
  rcases Nat.lt_or_ge n F.length with h | h
  · have f1 : ∀ s, s < F.length → F.getD s 0 < n := fun s hs => by have := S.fz s hs; have := S.pos s hs; omega
    have inj : ∀ i j, i < F.length → j < F.length → F.getD i 0 = F.getD j 0 → i = j := fun i j hi hj e => by
      have h1 := (S.ins (F.getD i 0) i (f1 i hi) hi).2 ⟨Nat.le_refl _, by have := S.pos i hi; omega⟩
      have h2 := (S.ins (F.getD i 0) j (f1 i hi) hj).2 ⟨by omega, by have := S.pos j hj; omega⟩
      exact h1.symm.trans h2
    obtain ⟨i, hi, e⟩ := inj_surj n (fun i => F.getD i 0) (fun i hi => f1 i (by omega)) (fun i j hi hj e => inj i j (by omega) (by omega) e) (F.getD n 0) (f1 n h)
    have := inj i n (by omega) h e
    omega
  · exact h
theorem swp_getD (L : List Nat) (p q a c i : Nat) (hp : p < L.length) (hq : q < L.length) : ((L.set p a).set q c).getD i 0 = if i = q then c else if i = p then a else L.getD i 0 := by
  rw [getDN_set _ _ _ _ (by rw [List.length_set]; exact hq), getDN_set _ _ _ _ hp]
/-- A dart that isn't chosen is let stand behind the chosen ones. -/
theorem Srt.choose (S : Srt n D P O F Z) (H : Cho n P O F Z C X) {d : Nat} (hd : d < n) (hx : ¬ X d) {s q e p : Nat} (hs : s = O.getD d 0) (hq : q = F.getD s 0 + C.getD s 0) (hp : p = P.getD d 0) (he : e = D.getD q 0) :
    s < F.length ∧ q < n ∧ e < n ∧ Srt n ((D.set p e).set q d) ((P.set e p).set d q) O F Z ∧ Cho n ((P.set e p).set d q) O F Z (C.set s (C.getD s 0 + 1)) (fun x => X x ∨ x = d) := by
  have hsl : s < F.length := by rw [hs]; exact S.olt d hd
  have hqp : q ≤ p := by
    have : ¬ p < F.getD s 0 + C.getD s 0 := fun c => hx ((H.is d hd).1 (by rw [← hs, ← hp]; exact c))
    omega
  have hpz := (S.at_ hd hsl).1 hs.symm
  rw [← hp] at hpz
  have hpn : p < n := by rw [hp]; exact S.plt hd
  have hqn : q < n := by omega
  have hen : e < n := by rw [he]; exact S.dlt hqn
  have hDp : D.getD p 0 = d := by rw [hp]; exact S.dp hd
  have hPe : P.getD e 0 = q := by rw [he]; exact S.pd hqn
  have hOe : O.getD e 0 = s := by rw [he]; exact (S.ins q s hqn hsl).2 ⟨by omega, by omega⟩
  have gD : ∀ i, ((D.set p e).set q d).getD i 0 = if i = q then d else if i = p then e else D.getD i 0 := fun i => swp_getD D p q e d i (by rw [S.dl]; exact hpn) (by rw [S.dl]; exact hqn)
  have gP : ∀ i, ((P.set e p).set d q).getD i 0 = if i = d then q else if i = e then p else P.getD i 0 := fun i => swp_getD P e d p q i (by rw [S.pl]; exact hen) (by rw [S.pl]; exact hd)
  have hCl : C.length = F.length := H.len
  have gC : ∀ i, (C.set s (C.getD s 0 + 1)).getD i 0 = if i = s then C.getD s 0 + 1 else C.getD i 0 := fun i => getDN_set _ _ _ _ (by rw [hCl]; exact hsl)
  have ed : e = d ↔ p = q := ⟨fun c => by rw [← hPe, c, hp], fun c => by rw [he, ← c, hDp]⟩
  refine ⟨hsl, hqn, hen, ⟨⟨by simp [S.pl, S.dl], ?_, ?_, ?_, ?_⟩, by simp [S.dl], S.ol, S.zl, S.olt, S.fz, S.pos, ?_⟩, by simpa using hCl, ?_, ?_⟩
  · intro i hi
    simp only [List.length_set, S.dl] at hi ⊢
    rw [gD]; split
    · exact hd
    · split
      · exact hen
      · exact S.dlt hi
  · intro i hi
    simp only [List.length_set, S.dl] at hi ⊢
    rw [gP]; split
    · exact hqn
    · split
      · exact hpn
      · exact S.plt hi
  · intro i hi
    simp only [List.length_set, S.dl] at hi
    rw [gD, gP]
    by_cases h1 : i = q
    · rw [if_pos h1, if_pos rfl]; exact h1.symm
    · rw [if_neg h1]
      by_cases h2 : i = p
      · rw [if_pos h2]
        have : e ≠ d := fun c => h1 (h2.trans (ed.1 c))
        rw [if_neg this, if_pos rfl]; exact h2.symm
      · rw [if_neg h2]
        have a1 : D.getD i 0 ≠ d := fun c => h2 (by rw [← S.pd hi, c, hp])
        have a2 : D.getD i 0 ≠ e := fun c => h1 (by rw [← S.pd hi, c, hPe])
        rw [if_neg a1, if_neg a2, S.pd hi]
  · intro i hi
    simp only [List.length_set, S.dl] at hi
    rw [gP, gD]
    by_cases h1 : i = d
    · rw [if_pos h1, if_pos rfl]; exact h1.symm
    · rw [if_neg h1]
      by_cases h2 : i = e
      · rw [if_pos h2]
        have : p ≠ q := fun c => h1 (h2.trans (ed.2 c))
        rw [if_neg this, if_pos rfl]; exact h2.symm
      · rw [if_neg h2]
        have a1 : P.getD i 0 ≠ q := fun c => h2 (by rw [← S.dp hi, c, he])
        have a2 : P.getD i 0 ≠ p := fun c => h1 (by rw [← S.dp hi, c, hDp])
        rw [if_neg a1, if_neg a2, S.dp hi]
  · intro i t hi ht
    rw [gD]
    by_cases h1 : i = q
    · rw [if_pos h1, ← hs]
      have := S.ins q t hqn ht
      rw [← he, hOe] at this
      rw [h1]; exact this
    · rw [if_neg h1]
      by_cases h2 : i = p
      · rw [if_pos h2, hOe]
        have := S.ins p t hpn ht
        rw [hDp, ← hs] at this
        rw [h2]; exact this
      · rw [if_neg h2]; exact S.ins i t hi ht
  · intro t ht
    rw [gC]; split
    · rename_i h; rw [h]; have := H.le s hsl; omega
    · exact H.le t ht
  · intro x hx'
    rw [gP, gC]
    by_cases h1 : x = d
    · rw [if_pos h1, h1, ← hs, if_pos rfl]
      exact ⟨fun _ => .inr rfl, fun _ => by omega⟩
    · rw [if_neg h1]
      by_cases h2 : x = e
      · have hne : p ≠ q := fun c => h1 (h2.trans (ed.2 c))
        rw [if_pos h2, h2, hOe, if_pos rfl]
        have := H.is e hen
        rw [hPe, hOe] at this
        exact ⟨fun c => by omega, fun c => by
          rcases c with c | c
          · have := this.2 c; omega
          · exact absurd (h2.trans c) h1⟩
      · rw [if_neg h2]
        have hi := H.is x hx'
        have hor : (X x ∨ x = d) ↔ X x := ⟨fun c => c.elim id fun c => absurd c h1, .inl⟩
        rw [hor]
        by_cases h3 : O.getD x 0 = s
        · rw [h3, if_pos rfl]
          rw [h3] at hi
          have a1 : P.getD x 0 ≠ q := fun c => h2 (by rw [← S.dp hx', c, he])
          exact ⟨fun c => hi.1 (by omega), fun c => by have := hi.2 c; omega⟩
        · rw [if_neg h3]; exact hi
/-- Of a sort of which all are chosen nothing is parted. -/
theorem Srt.keep (S : Srt n D P O F Z) (H : Cho n P O F Z C X) {s : Nat} (hs : s < F.length) : Cho n P O F Z (C.set s 0) (fun x => X x ∧ O.getD x 0 ≠ s) := by
  have gC : ∀ i, (C.set s 0).getD i 0 = if i = s then 0 else C.getD i 0 := fun i => getDN_set _ _ _ _ (by rw [H.len]; exact hs)
  refine ⟨by simpa using H.len, fun t ht => ?_, fun x hx => ?_⟩
  · rw [gC]; split
    · exact Nat.zero_le _
    · exact H.le t ht
  · rw [gC]
    by_cases h : O.getD x 0 = s
    · rw [if_pos h]
      have := (S.at_ hx hs).1 h
      rw [h]
      exact ⟨fun c => by omega, fun c => absurd rfl c.2⟩
    · rw [if_neg h]
      exact ⟨fun c => ⟨(H.is x hx).1 c, h⟩, fun c => (H.is x hx).2 c.1⟩
theorem getD_snoc (L : List Nat) (x i : Nat) : (L ++ [x]).getD i 0 = if i = L.length then x else L.getD i 0 := by
  by_cases h : i < L.length
  · rw [if_neg (by omega), List.getD_eq_getElem?_getD, List.getElem?_append_left h, List.getD_eq_getElem?_getD]
  · by_cases h2 : i = L.length
    · subst h2; simp
    · rw [if_neg h2, List.getD_eq_getElem?_getD, List.getD_eq_getElem?_getD, List.getElem?_eq_none (by simp; omega), List.getElem?_eq_none (by omega)]
/-- A sort is parted: the new one has the places from f on, as many as z. -/
theorem Srt.halve (S : Srt n D P O F Z) (H : Cho n P O F Z C X) {s f z f0 : Nat} (hs : s < F.length) (hz : 0 < z) (hzz : z < Z.getD s 0)
    (hf : f = F.getD s 0 ∧ f0 = F.getD s 0 + z ∨ f = F.getD s 0 + (Z.getD s 0 - z) ∧ f0 = F.getD s 0) {O' : List Nat} (hO : O'.length = n)
    (hO' : ∀ x, x < n → O'.getD x 0 = if f ≤ P.getD x 0 ∧ P.getD x 0 < f + z then F.length else O.getD x 0) :
    Srt n D P O' (F.set s f0 ++ [f]) (Z.set s (Z.getD s 0 - z) ++ [z]) ∧ Cho n P O' (F.set s f0 ++ [f]) (Z.set s (Z.getD s 0 - z) ++ [z]) (C.set s 0 ++ [0]) (fun x => X x ∧ O.getD x 0 ≠ s) := by
  have gF : ∀ i, (F.set s f0 ++ [f]).getD i 0 = if i = F.length then f else if i = s then f0 else F.getD i 0 := fun i => by
    rw [getD_snoc, List.length_set, getDN_set _ _ _ _ hs]
  have gZ : ∀ i, (Z.set s (Z.getD s 0 - z) ++ [z]).getD i 0 = if i = F.length then z else if i = s then Z.getD s 0 - z else Z.getD i 0 := fun i => by
    rw [getD_snoc, List.length_set, getDN_set _ _ _ _ (by rw [S.zl]; exact hs), S.zl]
  have gC : ∀ i, (C.set s 0 ++ [0]).getD i 0 = if i = F.length then 0 else if i = s then 0 else C.getD i 0 := fun i => by
    rw [getD_snoc, List.length_set, getDN_set _ _ _ _ (by rw [H.len]; exact hs), H.len]
  have hlen : (F.set s f0 ++ [f]).length = F.length + 1 := by simp
  have hfz := S.fz s hs
  have SR : Srt n D P O' (F.set s f0 ++ [f]) (Z.set s (Z.getD s 0 - z) ++ [z]) := by
    refine ⟨S.inv, S.dl, hO, by simp [S.zl], fun x hx => ?_, fun t ht => ?_, fun t ht => ?_, fun i t hi ht => ?_⟩
    · rw [hO' x hx, hlen]; split
      · omega
      · have := S.olt x hx; omega
    · rw [hlen] at ht
      rw [gF, gZ]
      by_cases h1 : t = F.length
      · rw [if_pos h1, if_pos h1]; omega
      · rw [if_neg h1, if_neg h1]
        by_cases h2 : t = s
        · rw [if_pos h2, if_pos h2]; omega
        · rw [if_neg h2, if_neg h2]; exact S.fz t (by omega)
    · rw [hlen] at ht
      rw [gZ]
      by_cases h1 : t = F.length
      · rw [if_pos h1]; exact hz
      · rw [if_neg h1]
        by_cases h2 : t = s
        · rw [if_pos h2]; omega
        · rw [if_neg h2]; exact S.pos t (by omega)
    · rw [hlen] at ht
      rw [hO' _ (S.dlt hi), S.pd hi, gF, gZ]
      have hb := S.ins i s hi hs
      by_cases h1 : t = F.length
      · rw [if_pos h1, if_pos h1]
        by_cases h : f ≤ i ∧ i < f + z
        · rw [if_pos h]; exact ⟨fun _ => h, fun _ => h1.symm⟩
        · rw [if_neg h]
          have := S.olt _ (S.dlt hi)
          exact ⟨fun c => by omega, fun c => absurd c h⟩
      · rw [if_neg h1, if_neg h1]
        by_cases h2 : t = s
        · rw [if_pos h2, if_pos h2]
          by_cases h : f ≤ i ∧ i < f + z
          · rw [if_pos h]; exact ⟨fun c => absurd c.symm h1, fun c => by omega⟩
          · rw [if_neg h, h2, hb]
            exact ⟨fun c => by omega, fun c => by omega⟩
        · rw [if_neg h2, if_neg h2]
          by_cases h : f ≤ i ∧ i < f + z
          · rw [if_pos h]
            have h3 := hb.2 ⟨by omega, by omega⟩
            have h4 := S.ins i t hi (by omega)
            exact ⟨fun c => absurd c.symm h1, fun c => absurd (h3.symm.trans (h4.2 c)) (fun e => h2 e.symm)⟩
          · rw [if_neg h]; exact S.ins i t hi (by omega)
  refine ⟨SR, by simp [H.len], fun t ht => ?_, fun x hx => ?_⟩
  · rw [hlen] at ht
    rw [gC, gZ]
    by_cases h1 : t = F.length
    · rw [if_pos h1]; exact Nat.zero_le _
    · rw [if_neg h1, if_neg h1]
      by_cases h2 : t = s
      · rw [if_pos h2]; exact Nat.zero_le _
      · rw [if_neg h2, if_neg h2]; exact H.le t (by omega)
  · have hin := (SR.at_ hx (SR.olt x hx)).1 rfl
    have hol := S.olt x hx
    have hso : f ≤ P.getD x 0 ∧ P.getD x 0 < f + z → O.getD x 0 = s := fun h => (S.at_ hx hs).2 ⟨by omega, by omega⟩
    rw [gC]
    by_cases h : f ≤ P.getD x 0 ∧ P.getD x 0 < f + z
    · have e : O'.getD x 0 = F.length := by rw [hO' x hx, if_pos h]
      rw [if_pos e]
      exact ⟨fun c => by omega, fun c => absurd (hso h) c.2⟩
    · have e : O'.getD x 0 = O.getD x 0 := by rw [hO' x hx, if_neg h]
      rw [e] at hin ⊢
      rw [if_neg (show ¬ O.getD x 0 = F.length by omega)]
      by_cases h2 : O.getD x 0 = s
      · rw [if_pos h2]
        exact ⟨fun c => by omega, fun c => absurd h2 c.2⟩
      · rw [if_neg h2, gF, if_neg (show ¬ O.getD x 0 = F.length by omega), if_neg h2]
        exact ⟨fun c => ⟨(H.is x hx).1 c, h2⟩, fun c => (H.is x hx).2 c.1⟩
end
end Go.Proofs.Ytoncollcefanjaa
