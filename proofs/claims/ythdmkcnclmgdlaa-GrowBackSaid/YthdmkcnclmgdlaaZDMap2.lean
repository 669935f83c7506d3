/- What maps answer. The document's examples of maps. What New refuses, and what the document says of it. Rows of integers that come in to a statement. DartMakes: of any list, root and count there is a map, or it is refused. What maps that are answer of a dart. -/
import Derived.Test.YthdmkcnclmgdlaaZDFld
import Derived.Test.YthdmkcnclmgdlaaZPRef2
import Derived.Test.YthdmkcnclmgdlaaZg1
namespace Go.Proofs.Ythdmkcnclmgdlaa
set_option maxRecDepth 20000
open Go.RowKit
set_option linter.unusedVariables false

theorem info_names : (Try.prog.info? 71).map (·.size) = some 3 := by kernel_rfl
/-- What vertices and faces answer. -/
def VPost (w : World) (l b : List Nat) (e : Ending) (w' : World) : Prop :=
  ∃ p A c S d, e = .returned (.agg #[.pointer (some ⟨p, 0, none⟩), .slice A l.length c, .slice S (sizes l).length d]) ∧ PermAt w' p l b ∧ Rd w' w'.heap.size A l.length (I64 (ofN (names l))) ∧ Rd w' w'.heap.size S (sizes l).length (I64 (ofN (sizes l))) ∧ Below w.heap.size w w'
set_option maxHeartbeats 1000000 in
theorem verts_p (g : Nat) (l b : List Nat) (root lone : Int) (w : World) (h : MapAt w g l b root lone) :
    Calls Try.prog 48 #[.pointer (some ⟨g, 0, none⟩)] w (VPost w l b) := by
  obtain ⟨h1, h2, p, A, c, S, d, q, A', c', S', d', hb, hp, hq, r1, r2, r3, r4⟩ := h
  have n0 := hb.cell 0
  have n1 := hb.cell 1
  have n2 := hb.cell 2
  have hgl := hb.lt
  simp at n0 n1 n2
  have HP := Lib.hid hp
  have HQ := Lib.hid hq
  have R1 := Lib.hid r1
  have R2 := Lib.hid r2
  have R3 := Lib.hid r3
  have R4 := Lib.hid r4
  have HINF := Lib.hid info_names
  clear hb hp hq r1 r2 r3 r4
  go_enter Try.func48, Try.ntmps48
  go_wp2_with fail
  have hb2 := (Below.refl w.heap.size w).alloc (Nat.le_refl _) (.cells #[.pointer (some ⟨p, 0, none⟩), .slice A l.length c, .slice S (sizes l).length d] 71)
  refine bodyPost_ret (results_cell_row rfl _ _ w.heap.size 71 _ (0, 0) _ rfl (Blk.new w _ _) Try.underlying71 rfl HINF.out) rfl ?_
  exact ⟨p, A, c, S, d, rfl, HP.out.below hb2, R1.out.more hb2, R2.out.more hb2, hb2⟩
theorem verts_nil (w : World) :
    Calls Try.prog 48 #[.pointer none] w fun e w' => e = .returned (.agg #[.pointer none, .slice none 0 0, .slice none 0 0]) ∧ Below w.heap.size w w' := by
  have HINF := Lib.hid info_names
  go_enter Try.func48, Try.ntmps48
  go_wp2_with fail
  refine bodyPost_ret (results_cell_row rfl _ _ w.heap.size 71 _ (0, 0) _ rfl (Blk.new w _ _) Try.underlying71 rfl HINF.out) rfl ?_
  exact ⟨rfl, (Below.refl _ _).alloc (Nat.le_refl _) _⟩
set_option maxHeartbeats 1000000 in
theorem faces_p (g : Nat) (l b : List Nat) (root lone : Int) (w : World) (h : MapAt w g l b root lone) :
    Calls Try.prog 53 #[.pointer (some ⟨g, 0, none⟩)] w (VPost w (phiL l) (phiB l b)) := by
  obtain ⟨h1, h2, p, A, c, S, d, q, A', c', S', d', hb, hp, hq, r1, r2, r3, r4⟩ := h
  have n0 := hb.cell 3
  have n1 := hb.cell 4
  have n2 := hb.cell 5
  have hgl := hb.lt
  simp at n0 n1 n2
  have HP := Lib.hid hp
  have HQ := Lib.hid hq
  have R1 := Lib.hid r1
  have R2 := Lib.hid r2
  have R3 := Lib.hid r3
  have R4 := Lib.hid r4
  have HINF := Lib.hid info_names
  clear hb hp hq r1 r2 r3 r4
  go_enter Try.func53, Try.ntmps53
  go_wp2_with fail
  have hb2 := (Below.refl w.heap.size w).alloc (Nat.le_refl _) (.cells #[.pointer (some ⟨q, 0, none⟩), .slice A' l.length c', .slice S' (sizes (phiL l)).length d'] 71)
  refine bodyPost_ret (results_cell_row rfl _ _ w.heap.size 71 _ (0, 0) _ rfl (Blk.new w _ _) Try.underlying71 rfl HINF.out) rfl ?_
  exact ⟨q, A', c', S', d', by rw [phiL_len], HQ.out.below hb2, by rw [phiL_len]; exact R3.out.more hb2, R4.out.more hb2, hb2⟩
theorem faces_nil (w : World) :
    Calls Try.prog 53 #[.pointer none] w fun e w' => e = .returned (.agg #[.pointer none, .slice none 0 0, .slice none 0 0]) ∧ Below w.heap.size w w' := by
  have HINF := Lib.hid info_names
  go_enter Try.func53, Try.ntmps53
  go_wp2_with fail
  refine bodyPost_ret (results_cell_row rfl _ _ w.heap.size 71 _ (0, 0) _ rfl (Blk.new w _ _) Try.underlying71 rfl HINF.out) rfl ?_
  exact ⟨rfl, (Below.refl _ _).alloc (Nat.le_refl _) _⟩
theorem root_p (g : Nat) (l b : List Nat) (root lone : Int) (w : World) (h : MapAt w g l b root lone) :
    Calls Try.prog 13 #[.pointer (some ⟨g, 0, none⟩)] w fun e w' => e = .returned (.int .i64 root) ∧ w = w' := by
  obtain ⟨h1, h2, p, A, c, S, d, q, A', c', S', d', hb, _⟩ := h
  have n0 := hb.cell 6
  simp at n0
  clear hb
  go_enter Try.func13, Try.ntmps13
  go_wp2_with fail
  go_ret
  exact ⟨rfl, rfl⟩
theorem root_nil (w : World) :
    Calls Try.prog 13 #[.pointer none] w fun e w' => e = .returned (.int .i64 (-1)) ∧ w = w' := by
  go_enter Try.func13, Try.ntmps13
  go_wp2_with fail
  go_ret
  exact ⟨rfl, rfl⟩
theorem lone_p (g : Nat) (l b : List Nat) (root lone : Int) (w : World) (h : MapAt w g l b root lone) :
    Calls Try.prog 14 #[.pointer (some ⟨g, 0, none⟩)] w fun e w' => e = .returned (.int .i64 lone) ∧ w = w' := by
  obtain ⟨h1, h2, p, A, c, S, d, q, A', c', S', d', hb, _⟩ := h
  have n0 := hb.cell 7
  simp at n0
  clear hb
  go_enter Try.func14, Try.ntmps14
  go_wp2_with fail
  go_ret
  exact ⟨rfl, rfl⟩
theorem lone_nil (w : World) :
    Calls Try.prog 14 #[.pointer none] w fun e w' => e = .returned (.int .i64 0) ∧ w = w' := by
  go_enter Try.func14, Try.ntmps14
  go_wp2_with fail
  go_ret
  exact ⟨rfl, rfl⟩
theorem darts_p (g : Nat) (l b : List Nat) (root lone : Int) (w : World) (h : MapAt w g l b root lone) :
    Calls Try.prog 17 #[.pointer (some ⟨g, 0, none⟩)] w fun e w' => e = .returned (.int .i64 (l.length : Int)) ∧ Below w.heap.size w w' := by
  have VS := Lib.hid (verts_p g l b root lone w h)
  have F0 := fld0
  have F2 := fld2
  have H := Lib.hid h
  clear h
  go_enter Try.func17, Try.ntmps17
  go_wp2_with fail
  refine VS.out.mono ?_
  rintro e w1 ⟨p, A, c, S, d, rfl, hp, r1, r2, b1⟩
  have LN := Lib.hid (len_p p _ _ w1 hp)
  clear hp r1 r2
  go_wp2_with fail
  refine LN.out.mono ?_
  rintro e w2 ⟨rfl, rfl⟩
  go_wp2_with fail
  go_ret
  exact ⟨rfl, b1⟩
theorem darts_nil (w : World) :
    Calls Try.prog 17 #[.pointer none] w fun e w' => e = .returned (.int .i64 0) ∧ Below w.heap.size w w' := by
  have VS := Lib.hid (verts_nil w)
  have F0 := fld0
  go_enter Try.func17, Try.ntmps17
  go_wp2_with fail
  refine VS.out.mono ?_
  rintro e w1 ⟨rfl, b1⟩
  go_wp2_with fail
  refine (len_pnil w1).mono ?_
  rintro e w2 ⟨rfl, rfl⟩
  go_wp2_with fail
  go_ret
  exact ⟨rfl, b1⟩
theorem edges_p (g : Nat) (l b : List Nat) (root lone : Int) (w : World) (h : MapAt w g l b root lone) :
    Calls Try.prog 21 #[.pointer (some ⟨g, 0, none⟩)] w fun e w' => e = .returned (.int .i64 ((l.length / 2 : Nat) : Int)) ∧ Below w.heap.size w w' := by
  have DS := Lib.hid (darts_p g l b root lone w h)
  have hn := h.2.1
  obtain ⟨x, hx⟩ : ∃ x, x = l.length / 2 := ⟨_, rfl⟩
  have hx2 : (l.length : Int) / 2 = (x : Int) := by omega
  have hx3 : x ≤ 1000000 := by omega
  rw [← hx]
  clear h hx
  go_enter Try.func21, Try.ntmps21
  go_wp2_with fail
  refine DS.out.mono ?_
  rintro e w1 ⟨rfl, b1⟩
  go_wp2_with fail
  go_ret
  exact ⟨rfl, b1⟩
theorem edges_nil (w : World) :
    Calls Try.prog 21 #[.pointer none] w fun e w' => e = .returned (.int .i64 0) ∧ Below w.heap.size w w' := by
  have DS := Lib.hid (darts_nil w)
  go_enter Try.func21, Try.ntmps21
  go_wp2_with fail
  refine DS.out.mono ?_
  rintro e w1 ⟨rfl, b1⟩
  go_wp2_with fail
  go_ret
  exact ⟨rfl, b1⟩
theorem sizes_le (l : List Nat) : (sizes l).length ≤ l.length := by unfold sizes; rw [sizesTo_len]; exact met_le l l.length
theorem vertices_p (g : Nat) (l b : List Nat) (root lone : Int) (w : World) (h : MapAt w g l b root lone) :
    Calls Try.prog 19 #[.pointer (some ⟨g, 0, none⟩)] w fun e w' => e = .returned (.int .i64 (((sizes l).length : Int) + lone)) ∧ Below w.heap.size w w' := by
  have VS := Lib.hid (verts_p g l b root lone w h)
  have F0 := fld0
  have F2 := fld2
  have H := Lib.hid h
  have hz := sizes_le l
  have hn := h.2.1
  have hl1 := h.1.2.1
  have hl2 := h.1.2.2
  clear h
  go_enter Try.func19, Try.ntmps19
  go_wp2_with fail
  refine VS.out.mono ?_
  rintro e w1 ⟨p, A, c, S, d, rfl, hp, r1, r2, b1⟩
  have LO := Lib.hid (lone_p g l b root lone w1 (H.out.below b1))
  clear hp r1 r2
  go_wp2_with fail
  refine LO.out.mono ?_
  rintro e w2 ⟨rfl, rfl⟩
  go_wp2_with fail
  go_ret
  exact ⟨rfl, b1⟩
theorem borders_p (g : Nat) (l b : List Nat) (root lone : Int) (w : World) (h : MapAt w g l b root lone) :
    Calls Try.prog 20 #[.pointer (some ⟨g, 0, none⟩)] w fun e w' => e = .returned (.int .i64 ((sizes (phiL l)).length : Int)) ∧ Below w.heap.size w w' := by
  have VS := Lib.hid (faces_p g l b root lone w h)
  have F0 := fld0
  have F2 := fld2
  have H := Lib.hid h
  clear h
  go_enter Try.func20, Try.ntmps20
  go_wp2_with fail
  refine VS.out.mono ?_
  rintro e w1 ⟨p, A, c, S, d, rfl, hp, r1, r2, b1⟩
  clear hp r1 r2
  go_wp2_with fail
  go_ret
  exact ⟨rfl, b1⟩
theorem vertices_nil (w : World) :
    Calls Try.prog 19 #[.pointer none] w fun e w' => e = .returned (.int .i64 0) ∧ Below w.heap.size w w' := by
  have VS := Lib.hid (verts_nil w)
  have F0 := fld0
  have F2 := fld2
  go_enter Try.func19, Try.ntmps19
  go_wp2_with fail
  refine VS.out.mono ?_
  rintro e w1 ⟨rfl, b1⟩
  go_wp2_with fail
  refine (lone_nil w1).mono ?_
  rintro e w2 ⟨rfl, rfl⟩
  go_wp2_with fail
  go_ret
  exact ⟨rfl, b1⟩
theorem borders_nil (w : World) :
    Calls Try.prog 20 #[.pointer none] w fun e w' => e = .returned (.int .i64 0) ∧ Below w.heap.size w w' := by
  have VS := Lib.hid (faces_nil w)
  have F0 := fld0
  have F2 := fld2
  go_enter Try.func20, Try.ntmps20
  go_wp2_with fail
  refine VS.out.mono ?_
  rintro e w1 ⟨rfl, b1⟩

  go_wp2_with fail
  go_ret
  exact ⟨rfl, b1⟩
theorem list_nil (w : World) :
    Calls Try.prog 12 #[.pointer none] w fun e w' => e = .returned (.slice none 0 0) ∧ Below w.heap.size w w' := by
  have VS := Lib.hid (verts_nil w)
  have F0 := fld0
  have F2 := fld2
  go_enter Try.func12, Try.ntmps12
  go_wp2_with fail
  refine VS.out.mono ?_
  rintro e w1 ⟨rfl, b1⟩
  go_wp2_with fail
  refine (list_pnil w1).mono ?_
  rintro e w2 ⟨rfl, rfl⟩
  go_wp2_with fail
  go_ret
  exact ⟨rfl, b1⟩
theorem sigma_nil (i : Int) (w : World) :
    Calls Try.prog 78 #[.pointer none, .int .i64 i] w fun e w' => e = .returned (.int .i64 (-1)) ∧ Below w.heap.size w w' := by
  have VS := Lib.hid (verts_nil w)
  have F0 := fld0
  have F2 := fld2
  go_enter Try.func78, Try.ntmps78
  go_wp2_with fail
  refine VS.out.mono ?_
  rintro e w1 ⟨rfl, b1⟩
  go_wp2_with fail
  refine (at_nil i w1).mono ?_
  rintro e w2 ⟨rfl, rfl⟩
  go_wp2_with fail
  go_ret
  exact ⟨rfl, b1⟩
theorem mback_nil (i : Int) (w : World) :
    Calls Try.prog 64 #[.pointer none, .int .i64 i] w fun e w' => e = .returned (.int .i64 (-1)) ∧ Below w.heap.size w w' := by
  have VS := Lib.hid (verts_nil w)
  have F0 := fld0
  have F2 := fld2
  go_enter Try.func64, Try.ntmps64
  go_wp2_with fail
  refine VS.out.mono ?_
  rintro e w1 ⟨rfl, b1⟩
  go_wp2_with fail
  refine (back_nil i w1).mono ?_
  rintro e w2 ⟨rfl, rfl⟩
  go_wp2_with fail
  go_ret
  exact ⟨rfl, b1⟩
theorem phi_nil (i : Int) (w : World) :
    Calls Try.prog 77 #[.pointer none, .int .i64 i] w fun e w' => e = .returned (.int .i64 (-1)) ∧ Below w.heap.size w w' := by
  have VS := Lib.hid (faces_nil w)
  have F0 := fld0
  have F2 := fld2
  go_enter Try.func77, Try.ntmps77
  go_wp2_with fail
  refine VS.out.mono ?_
  rintro e w1 ⟨rfl, b1⟩
  go_wp2_with fail
  refine (at_nil i w1).mono ?_
  rintro e w2 ⟨rfl, rfl⟩
  go_wp2_with fail
  go_ret
  exact ⟨rfl, b1⟩
theorem border_nil (i : Int) (w : World) :
    Calls Try.prog 18 #[.pointer none, .int .i64 i] w fun e w' => e = .returned (.slice none 0 0) ∧ Below w.heap.size w w' := by
  have VS := Lib.hid (faces_nil w)
  have F0 := fld0
  have F2 := fld2
  go_enter Try.func18, Try.ntmps18
  go_wp2_with fail
  refine VS.out.mono ?_
  rintro e w1 ⟨rfl, b1⟩
  go_wp2_with fail
  refine (orbit_nil i w1).mono ?_
  rintro e w2 ⟨rfl, rfl⟩
  go_wp2_with fail
  go_ret
  exact ⟨rfl, b1⟩
end Go.Proofs.Ythdmkcnclmgdlaa
namespace Go.Proofs.Ythdmkcnclmgdlaa
set_option maxRecDepth 20000
open Go.RowKit
set_option linter.unusedVariables false

def idL : List Nat := [0, 1]
def swL : List Nat := [1, 0]
theorem idL_inv : Inv idL idL := by
  refine ⟨rfl, ?_, ?_, ?_, ?_⟩ <;> (intro i hi; match i, hi with
    | 0, _ => decide
    | 1, _ => decide)
theorem swL_inv : Inv swL swL := by
  refine ⟨rfl, ?_, ?_, ?_, ?_⟩ <;> (intro i hi; match i, hi with
    | 0, _ => decide
    | 1, _ => decide)
theorem phi_id : phiL idL = swL := by decide
theorem phi_sw : phiL swL = idL := by decide
theorem it_id (k : Nat) : it idL k 0 = 0 := by
  induction k with
  | zero => rfl
  | succ k ih => rw [it, ih]; rfl
theorem sizes_id : (sizes idL).length = 2 := by
  unfold sizes
  rw [sizesTo_len, show idL.length = 2 from rfl, met_lead idL 1, met_lead idL 0, met_zero]
  · intro j hj; omega
  · intro j hj
    obtain rfl : j = 0 := by omega
    rw [mem_orb idL_inv (by decide)]
    rintro ⟨k, hk⟩
    rw [it_id] at hk
    omega
theorem sizes_sw : (sizes swL).length = 1 := by
  unfold sizes
  rw [sizesTo_len, show swL.length = 2 from rfl, met_not swL 1, met_lead swL 0, met_zero]
  · intro j hj; omega
  · intro h
    exact h 0 (by omega) ((mem_orb swL_inv (by decide)).2 ⟨1, rfl⟩)
end Go.Proofs.Ythdmkcnclmgdlaa
namespace Go.Proofs.Ythdmkcnclmgdlaa
set_option maxRecDepth 20000
open Go.RowKit
set_option linter.unusedVariables false

/-- What there can't be, by the document's numbers. -/
def ErrIs (z : List Int) (root lone : Int) (n : Nat) (E : Int) : Prop :=
  (E = 4 ∧ (¬ Good z ∨ n % 2 = 1)) ∨ (E = 5 ∧ Good z ∧ n % 2 = 0 ∧ (lone < 0 ∨ ¬ RootOk root n)) ∨
  (E = 6 ∧ Good z ∧ n % 2 = 0 ∧ 0 ≤ lone ∧ RootOk root n ∧ 65536 < lone) ∨ (E = 0 ∧ Good z ∧ n % 2 = 0 ∧ 0 ≤ lone ∧ RootOk root n ∧ lone ≤ 65536)
theorem errIs_some (z : List Int) (root lone : Int) (n : Nat) : ∃ E, ErrIs z root lone n E := by
  unfold ErrIs
  by_cases h1 : Good z
  · by_cases h2 : n % 2 = 0
    · by_cases h3 : lone < 0 ∨ ¬ RootOk root n
      · exact ⟨5, .inr (.inl ⟨rfl, h1, h2, h3⟩)⟩
      · have h4 : 0 ≤ lone := by
          rcases Int.lt_or_le lone 0 with h | h
          · exact absurd (.inl h) h3
          · exact h
        have h5 : RootOk root n := Decidable.byContradiction fun h => h3 (.inr h)
        by_cases h6 : 65536 < lone
        · exact ⟨6, .inr (.inr (.inl ⟨rfl, h1, h2, h4, h5, h6⟩))⟩
        · exact ⟨0, .inr (.inr (.inr ⟨rfl, h1, h2, h4, h5, by omega⟩))⟩
    · exact ⟨4, .inl ⟨rfl, .inr (by omega)⟩⟩
  · exact ⟨4, .inl ⟨rfl, .inl h1⟩⟩
set_option maxHeartbeats 2000000 in
theorem new_no (A : Option Addr) (n c : Nat) (z : List Int) (root lone E : Int) (w : World) (h : Rd w w.heap.size A n (I64 z)) (hn : n ≤ 131072) (hE : ErrIs z root lone n E) (hne : E ≠ 0) :
    Calls Try.prog 36 #[.slice A n c, .int .i64 root, .int .i64 lone] w fun e w' => e = .returned (.tuple #[.pointer none, .int .i64 E]) ∧ Below w.heap.size w w' := by
  have OF := Lib.hid (of_p A n c _ z w h (by omega))
  have IR : Hid (∀ w', Calls Try.prog 86 #[.int .i64 root, .int .i64 (n : Int)] w' fun e w'' => e = .returned (.bool (decide (RootOk root n))) ∧ w' = w'') := fun w' => isRoot_p root n w' (by omega)
  have HE := Lib.hid hE
  have hn2 : ¬ (65536 : Int) < (n : Int) / 2 := by omega
  clear h hE
  go_enter Try.func36, Try.ntmps36
  go_wp2_with fail
  refine OF.out.mono ?_
  rintro e w1 ⟨hc, b1⟩
  have B1 := Lib.hid b1
  clear b1 OF
  rcases hc with ⟨gp, l', b', hl', rfl, hp, _⟩ | ⟨hng, rfl⟩
  · have hg : Good z := by rw [hl']; exact hp.1.good
    have HG := Lib.hid hg
    clear hl' hp hg
    rcases HE.out with ⟨rfl, h1⟩ | ⟨rfl, _, h2, h3⟩ | ⟨rfl, _, h2, h4, h5, h6⟩ | ⟨rfl, _⟩
    · have h2 : n % 2 = 1 := h1.resolve_left fun h => h HG.out
      have h2' : (n : Int) % 2 = 1 := by omega
      clear h1 h2
      go_wp2_with fail
      go_ret2
      exact ⟨rfl, B1.out⟩
    · have h2' : (n : Int) % 2 = 0 := by omega
      clear h2
      by_cases h5 : RootOk root n
      · have h6 : lone < 0 := h3.resolve_right fun h => h h5
        rw [decide_eq_true h5] at IR
        clear h3 h5
        go_wp2_with fail
        refine (IR.out _).mono ?_
        rintro e w2 ⟨rfl, rfl⟩
        go_wp2_with fail
        go_ret2
        exact ⟨rfl, B1.out⟩
      · rw [decide_eq_false h5] at IR
        clear h3 h5
        go_wp2_with fail
        refine (IR.out _).mono ?_
        rintro e w2 ⟨rfl, rfl⟩
        go_wp2_with fail
        go_ret2
        exact ⟨rfl, B1.out⟩
    · have h2' : (n : Int) % 2 = 0 := by omega
      have h4' : ¬ lone < 0 := by omega
      rw [decide_eq_true h5] at IR
      clear h2 h5
      go_wp2_with fail
      refine (IR.out _).mono ?_
      rintro e w2 ⟨rfl, rfl⟩
      go_wp2_with fail
      go_ret2
      exact ⟨rfl, B1.out⟩
    · exact absurd rfl hne
  · have h4 : E = 4 := by
      rcases HE.out with ⟨h, _⟩ | ⟨_, h, _⟩ | ⟨_, h, _⟩ | ⟨_, h, _⟩
      · exact h
      · exact absurd h hng
      · exact absurd h hng
      · exact absurd h hng
    subst h4
    clear hng
    go_wp2_with fail
    go_ret2
    exact ⟨rfl, B1.out⟩
end Go.Proofs.Ythdmkcnclmgdlaa
namespace Go.Proofs.Ythdmkcnclmgdlaa
set_option maxRecDepth 20000
open Go.RowKit

def Z8 (l : List Int) : List Value := l.map fun (x : Int) => Value.int .u8 x
theorem row_k (k : IntKind) {w : World} {a : Option Addr} {len cap : Nat} {zs : List Int}
    (h : (a = none ∧ len = 0 ∧ cap = 0 ∧ zs = []) ∨
      ∃ x, a = some x ∧ len ≤ cap ∧ cap ≤ maxLen ∧ zs.length = cap ∧ (∀ i, i < zs.length → w.cell? (x.add i) = some (.int k (zs.getD i 0))) ∧ ∀ n ∈ zs, (Lit.int k n).wf = true) :
    len ≤ cap ∧ cap ≤ maxLen ∧ Rd w w.heap.size a len ((zs.take len).map (Value.int k)) ∧ ∀ x ∈ zs.take len, (Lit.int k x).wf = true := by
  rcases h with ⟨rfl, rfl, rfl, rfl⟩ | ⟨x, rfl, hl, hm, hz, hc, hw⟩
  · exact ⟨Nat.le_refl _, Nat.zero_le _, Rd.nil _ _ _, by simp⟩
  · refine ⟨hl, hm, ⟨by simp; omega, fun h0 => ?_⟩, fun x hx => hw x (List.mem_of_mem_take hx)⟩
    obtain ⟨b, o, sp⟩ := x
    obtain rfl : sp = none := by simpa [Addr.add] using World.cell?_spot (hc 0 (by omega))
    refine ⟨b, o, rfl, World.block_lt_of_cell? _ _ (hc 0 (by omega)), fun j hj => ?_⟩
    have hj' : j < len := by simp at hj; omega
    have := hc j (by omega)
    have e : (⟨b, o, none⟩ : Addr).add j = ⟨b, o + j, none⟩ := by unfold Addr.add; split <;> simp_all
    rw [e] at this
    rw [this]
    have hjz : j < zs.length := by omega
    simp [List.getD_eq_getElem?_getD, List.getElem?_eq_getElem hjz]
theorem row_i64 {w : World} {a : Option Addr} {len cap : Nat} {zs : List Int}
    (h : (a = none ∧ len = 0 ∧ cap = 0 ∧ zs = []) ∨
      ∃ x, a = some x ∧ len ≤ cap ∧ cap ≤ maxLen ∧ zs.length = cap ∧ (∀ i, i < zs.length → w.cell? (x.add i) = some (.int .i64 (zs.getD i 0))) ∧ ∀ n ∈ zs, (Lit.int .i64 n).wf = true) :
    len ≤ cap ∧ cap ≤ maxLen ∧ Rd w w.heap.size a len (I64 (zs.take len)) :=
  let ⟨a, b, c, _⟩ := row_k .i64 h
  ⟨a, b, c⟩
theorem row_z8 {w : World} {a : Option Addr} {len cap : Nat} {zs : List Int}
    (h : (a = none ∧ len = 0 ∧ cap = 0 ∧ zs = []) ∨
      ∃ x, a = some x ∧ len ≤ cap ∧ cap ≤ maxLen ∧ zs.length = cap ∧ (∀ i, i < zs.length → w.cell? (x.add i) = some (.int .u8 (zs.getD i 0))) ∧ ∀ n ∈ zs, (Lit.int .u8 n).wf = true) :
    len ≤ cap ∧ cap ≤ maxLen ∧ ∃ x : List Int, Rd w w.heap.size a len (Z8 x) ∧ ∀ b ∈ x, 0 ≤ b ∧ b < 256 :=
  let ⟨a, b, c, d⟩ := row_k .u8 h
  ⟨a, b, zs.take len, c, fun b hb => by
    have := d b hb
    simp [Lit.wf, IntKind.min, IntKind.max, IntKind.bits, IntKind.signed] at this
    omega⟩
theorem wf_u8 {x : Int} (h : (Lit.int .u8 x).wf = true) : ∃ n : Nat, x = (n : Int) ∧ n < 256 := by
  simp [Lit.wf, IntKind.min, IntKind.max, IntKind.bits, IntKind.signed] at h
  exact ⟨x.toNat, by omega, by omega⟩
end Go.Proofs.Ythdmkcnclmgdlaa
namespace Go.Proofs.Ythdmkcnclmgdlaa
set_option maxRecDepth 20000
open Go.RowKit
set_option linter.unusedVariables false

theorem mlist_p (g : Nat) (l b : List Nat) (root lone : Int) (w : World) (h : MapAt w g l b root lone) :
    Calls Try.prog 12 #[.pointer (some ⟨g, 0, none⟩)] w (NewI64 w (ofN l)) := by
  have VS := Lib.hid (verts_p g l b root lone w h)
  have F0 := fld0
  clear h
  go_enter Try.func12, Try.ntmps12
  go_wp2_with fail
  refine VS.out.mono ?_
  rintro e w1 ⟨p, A, c, S, d, rfl, hp, r1, r2, b1⟩
  have LS := Lib.hid (list_p p l b w1 hp)
  clear hp r1 r2
  go_wp2_with fail
  refine LS.out.mono ?_
  rintro e w2 ⟨A2, c2, rfl, hc2, hm2, hown, b2⟩
  go_wp2_with fail
  go_ret
  exact ⟨A2, c2, rfl, hc2, hm2, hown.base_le' b1.size, b1.trans (b2.mono b1.size)⟩
theorem good_ofN {z : List Int} (h : Good z) : ∃ l b : List Nat, z = ofN l ∧ Inv l b := by
  have e : z = ofN (z.map Int.toNat) := by
    refine getDI_ext (by simp [ofN]) fun i hi => ?_
    have h1 := (h i hi).1
    rw [ofN_get]
    have : (z.map Int.toNat).getD i 0 = (z.getD i 0).toNat := by
      simp [List.getD_eq_getElem?_getD, List.getElem?_eq_getElem hi]
    rw [this]; omega
  rw [e] at h
  obtain ⟨b, hb⟩ := good_inv h
  exact ⟨_, b, e, hb⟩
/-- What New answers. -/
def NewRes (w : World) (z : List Int) (root lone E : Int) (e : Ending) (w' : World) : Prop :=
  ∃ vp, e = .returned (.tuple #[.pointer vp, .int .i64 E]) ∧ Below w.heap.size w w' ∧ (E ≠ 0 → vp = none) ∧
    (E = 0 → ∃ g l b, vp = some ⟨g, 0, none⟩ ∧ z = ofN l ∧ MapAt w' g l b root lone ∧ MapLo w.heap.size w' g)
theorem new_p (A : Option Addr) (n c : Nat) (z : List Int) (root lone E : Int) (w : World) (h : Rd w w.heap.size A n (I64 z)) (hn : n ≤ 131072) (hE : ErrIs z root lone n E) :
    Calls Try.prog 36 #[.slice A n c, .int .i64 root, .int .i64 lone] w (NewRes w z root lone E) := by
  by_cases h0 : E = 0
  · obtain ⟨hg, he, h4, h5, h6⟩ : Good z ∧ n % 2 = 0 ∧ 0 ≤ lone ∧ RootOk root n ∧ lone ≤ 65536 := by
      rcases hE with ⟨h, _⟩ | ⟨h, _⟩ | ⟨h, _⟩ | ⟨_, h⟩
      · omega
      · omega
      · omega
      · exact h
    obtain ⟨l, b, rfl, hi⟩ := good_ofN hg
    subst h0
    exact (new_ok A n c l b root lone w h hi he hn h5 h4 h6).mono fun e w' ⟨g, he, hm, hb, hlo⟩ => ⟨_, he, hb, fun h => absurd rfl h, fun _ => ⟨g, l, b, rfl, rfl, hm, hlo⟩⟩
  · exact (new_no A n c z root lone E w h hn hE h0).mono fun e w' ⟨he, hb⟩ => ⟨none, he, hb, fun _ => rfl, fun h => absurd h h0⟩
end Go.Proofs.Ythdmkcnclmgdlaa
namespace Go.Proofs.Ythdmkcnclmgdlaa
set_option maxRecDepth 20000
open Go.RowKit
set_option linter.unusedVariables false

theorem sigma_in (g : Nat) (l b : List Nat) (root lone : Int) (i : Nat) (w : World) (h : MapAt w g l b root lone) (hi : i < l.length) :
    Calls Try.prog 78 #[.pointer (some ⟨g, 0, none⟩), .int .i64 (i : Int)] w fun e w' => e = .returned (.int .i64 ((l.getD i 0 : Nat) : Int)) ∧ Below w.heap.size w w' := by
  have VS := Lib.hid (verts_p g l b root lone w h)
  have F0 := fld0
  have HP1 := Lib.hid h.1
  have hlen := phiL_len l
  have HI := Lib.hid hi
  have HLN := Lib.hid hlen
  clear h hlen hi
  go_enter Try.func78, Try.ntmps78
  go_wp2_with fail
  refine VS.out.mono ?_
  rintro e w1 ⟨p, A, c, S, d, rfl, hp, r1, r2, b1⟩
  have CC := Lib.hid (at_in p _ _ i w1 hp HI.out)
  clear hp r1 r2
  go_wp2_with fail
  refine CC.out.mono ?_
  rintro e w2 ⟨rfl, rfl⟩
  go_wp2_with fail
  go_ret
  exact ⟨rfl, b1⟩
theorem sigma_out (g : Nat) (l b : List Nat) (root lone : Int) (i : Int) (w : World) (h : MapAt w g l b root lone) (hi : i < 0 ∨ (l.length : Int) ≤ i) :
    Calls Try.prog 78 #[.pointer (some ⟨g, 0, none⟩), .int .i64 i] w fun e w' => e = .returned (.int .i64 (-1)) ∧ Below w.heap.size w w' := by
  have VS := Lib.hid (verts_p g l b root lone w h)
  have F0 := fld0
  have HP1 := Lib.hid h.1
  have hlen := phiL_len l
  have HI := Lib.hid hi
  have HLN := Lib.hid hlen
  clear h hlen hi
  go_enter Try.func78, Try.ntmps78
  go_wp2_with fail
  refine VS.out.mono ?_
  rintro e w1 ⟨p, A, c, S, d, rfl, hp, r1, r2, b1⟩
  have CC := Lib.hid (at_out p _ _ i w1 hp HI.out)
  clear hp r1 r2
  go_wp2_with fail
  refine CC.out.mono ?_
  rintro e w2 ⟨rfl, rfl⟩
  go_wp2_with fail
  go_ret
  exact ⟨rfl, b1⟩
theorem phi_in (g : Nat) (l b : List Nat) (root lone : Int) (i : Nat) (w : World) (h : MapAt w g l b root lone) (hi : i < l.length) :
    Calls Try.prog 77 #[.pointer (some ⟨g, 0, none⟩), .int .i64 (i : Int)] w fun e w' => e = .returned (.int .i64 (((phiL l).getD i 0 : Nat) : Int)) ∧ Below w.heap.size w w' := by
  have VS := Lib.hid (faces_p g l b root lone w h)
  have F0 := fld0
  have HP1 := Lib.hid h.1
  have hlen := phiL_len l
  have HI := Lib.hid hi
  have HLN := Lib.hid hlen
  clear h hlen hi
  go_enter Try.func77, Try.ntmps77
  go_wp2_with fail
  refine VS.out.mono ?_
  rintro e w1 ⟨p, A, c, S, d, rfl, hp, r1, r2, b1⟩
  have CC := Lib.hid (at_in p _ _ i w1 hp (by rw [HLN.out]; exact HI.out))
  clear hp r1 r2
  go_wp2_with fail
  refine CC.out.mono ?_
  rintro e w2 ⟨rfl, rfl⟩
  go_wp2_with fail
  go_ret
  exact ⟨rfl, b1⟩
theorem phi_out (g : Nat) (l b : List Nat) (root lone : Int) (i : Int) (w : World) (h : MapAt w g l b root lone) (hi : i < 0 ∨ (l.length : Int) ≤ i) :
    Calls Try.prog 77 #[.pointer (some ⟨g, 0, none⟩), .int .i64 i] w fun e w' => e = .returned (.int .i64 (-1)) ∧ Below w.heap.size w w' := by
  have VS := Lib.hid (faces_p g l b root lone w h)
  have F0 := fld0
  have HP1 := Lib.hid h.1
  have hlen := phiL_len l
  have HI := Lib.hid hi
  have HLN := Lib.hid hlen
  clear h hlen hi
  go_enter Try.func77, Try.ntmps77
  go_wp2_with fail
  refine VS.out.mono ?_
  rintro e w1 ⟨p, A, c, S, d, rfl, hp, r1, r2, b1⟩
  have CC := Lib.hid (at_out p _ _ i w1 hp (by rw [HLN.out]; exact HI.out))
  clear hp r1 r2
  go_wp2_with fail
  refine CC.out.mono ?_
  rintro e w2 ⟨rfl, rfl⟩
  go_wp2_with fail
  go_ret
  exact ⟨rfl, b1⟩
theorem mback_in (g : Nat) (l b : List Nat) (root lone : Int) (i : Nat) (w : World) (h : MapAt w g l b root lone) (hi : i < l.length) :
    Calls Try.prog 64 #[.pointer (some ⟨g, 0, none⟩), .int .i64 (i : Int)] w fun e w' => e = .returned (.int .i64 ((b.getD i 0 : Nat) : Int)) ∧ Below w.heap.size w w' := by
  have VS := Lib.hid (verts_p g l b root lone w h)
  have F0 := fld0
  have HP1 := Lib.hid h.1
  have hlen := phiL_len l
  have HI := Lib.hid hi
  have HLN := Lib.hid hlen
  clear h hlen hi
  go_enter Try.func64, Try.ntmps64
  go_wp2_with fail
  refine VS.out.mono ?_
  rintro e w1 ⟨p, A, c, S, d, rfl, hp, r1, r2, b1⟩
  have CC := Lib.hid (back_in p _ _ i w1 hp HI.out)
  clear hp r1 r2
  go_wp2_with fail
  refine CC.out.mono ?_
  rintro e w2 ⟨rfl, rfl⟩
  go_wp2_with fail
  go_ret
  exact ⟨rfl, b1⟩
theorem mback_out (g : Nat) (l b : List Nat) (root lone : Int) (i : Int) (w : World) (h : MapAt w g l b root lone) (hi : i < 0 ∨ (l.length : Int) ≤ i) :
    Calls Try.prog 64 #[.pointer (some ⟨g, 0, none⟩), .int .i64 i] w fun e w' => e = .returned (.int .i64 (-1)) ∧ Below w.heap.size w w' := by
  have VS := Lib.hid (verts_p g l b root lone w h)
  have F0 := fld0
  have HP1 := Lib.hid h.1
  have hlen := phiL_len l
  have HI := Lib.hid hi
  have HLN := Lib.hid hlen
  clear h hlen hi
  go_enter Try.func64, Try.ntmps64
  go_wp2_with fail
  refine VS.out.mono ?_
  rintro e w1 ⟨p, A, c, S, d, rfl, hp, r1, r2, b1⟩
  have CC := Lib.hid (back_out p _ _ i w1 hp HI.out)
  clear hp r1 r2
  go_wp2_with fail
  refine CC.out.mono ?_
  rintro e w2 ⟨rfl, rfl⟩
  go_wp2_with fail
  go_ret
  exact ⟨rfl, b1⟩
theorem border_in (g : Nat) (l b : List Nat) (root lone : Int) (i : Nat) (w : World) (h : MapAt w g l b root lone) (hi : i < l.length) :
    Calls Try.prog 18 #[.pointer (some ⟨g, 0, none⟩), .int .i64 (i : Int)] w (NewI64 w (ofN (orb (phiL l) i))) := by
  have VS := Lib.hid (faces_p g l b root lone w h)
  have F0 := fld0
  have HP1 := Lib.hid h.1
  have hlen := phiL_len l
  have HI := Lib.hid hi
  have HLN := Lib.hid hlen
  clear h hlen hi
  go_enter Try.func18, Try.ntmps18
  go_wp2_with fail
  refine VS.out.mono ?_
  rintro e w1 ⟨p, A, c, S, d, rfl, hp, r1, r2, b1⟩
  have CC := Lib.hid (orbit_p p _ _ i w1 hp (by rw [HLN.out]; exact HI.out))
  clear hp r1 r2
  go_wp2_with fail
  refine CC.out.mono ?_
  rintro e w2 ⟨A2, c2, rfl, hc2, hm2, hown, b2⟩
  go_wp2_with fail
  go_ret
  exact ⟨A2, c2, rfl, hc2, hm2, hown.base_le' b1.size, b1.trans (b2.mono b1.size)⟩
theorem border_out (g : Nat) (l b : List Nat) (root lone : Int) (i : Int) (w : World) (h : MapAt w g l b root lone) (hi : i < 0 ∨ (l.length : Int) ≤ i) :
    Calls Try.prog 18 #[.pointer (some ⟨g, 0, none⟩), .int .i64 i] w fun e w' => e = .returned (.slice none 0 0) ∧ Below w.heap.size w w' := by
  have VS := Lib.hid (faces_p g l b root lone w h)
  have F0 := fld0
  have HP1 := Lib.hid h.1
  have hlen := phiL_len l
  have HI := Lib.hid hi
  have HLN := Lib.hid hlen
  clear h hlen hi
  go_enter Try.func18, Try.ntmps18
  go_wp2_with fail
  refine VS.out.mono ?_
  rintro e w1 ⟨p, A, c, S, d, rfl, hp, r1, r2, b1⟩
  have CC := Lib.hid (orbit_out p _ _ i w1 hp (by rw [HLN.out]; exact HI.out))
  clear hp r1 r2
  go_wp2_with fail
  refine CC.out.mono ?_
  rintro e w2 ⟨rfl, rfl⟩
  go_wp2_with fail
  go_ret
  exact ⟨rfl, b1⟩
end Go.Proofs.Ythdmkcnclmgdlaa
