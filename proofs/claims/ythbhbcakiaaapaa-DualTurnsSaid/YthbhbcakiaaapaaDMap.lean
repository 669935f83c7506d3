/- What maps answer. -/
import Derived.Test.YthbhbcakiaaapaaDFld
namespace Go.Proofs.Ythbhbcakiaaapaa
set_option maxRecDepth 20000
open Go.RowKit
set_option linter.unusedVariables false

theorem info_names : (Try.prog.info? 62).map (·.size) = some 3 := by kernel_rfl
/-- What vertices and faces answer. -/
def VPost (w : World) (l b : List Nat) (e : Ending) (w' : World) : Prop :=
  ∃ p A c S d, e = .returned (.agg #[.pointer (some ⟨p, 0, none⟩), .slice A l.length c, .slice S (sizes l).length d]) ∧ PermAt w' p l b ∧ Rd w' w'.heap.size A l.length (I64 (ofN (names l))) ∧ Rd w' w'.heap.size S (sizes l).length (I64 (ofN (sizes l))) ∧ Below w.heap.size w w'
set_option maxHeartbeats 1000000 in
theorem verts_p (g : Nat) (l b : List Nat) (root lone : Int) (w : World) (h : MapAt w g l b root lone) :
    Calls Try.prog 50 #[.pointer (some ⟨g, 0, none⟩)] w (VPost w l b) := by
  obtain ⟨h1, h2, p, A, c, S, d, q, A', c', S', d', hb, hp, hq, r1, r2, r3, r4⟩ := h
  have n0 := hb.cell 0
  have n1 := hb.cell 1
  have n2 := hb.cell 2
  have hgl := hb.lt
  simp at n0 n1 n2
  have HP := Lib.hid hp
  have HQ := Lib.hid hq
  have R1 := Lib.hid r1
  have R2 := Lib.hid r2
  have R3 := Lib.hid r3
  have R4 := Lib.hid r4
  have HINF := Lib.hid info_names
  clear hb hp hq r1 r2 r3 r4
  go_enter Try.func50, Try.ntmps50
  go_wp2_with fail
  have hb2 := (Below.refl w.heap.size w).alloc (Nat.le_refl _) (.cells #[.pointer (some ⟨p, 0, none⟩), .slice A l.length c, .slice S (sizes l).length d] 62)
  refine bodyPost_ret (results_cell_row rfl _ _ w.heap.size 62 _ (0, 0) _ rfl (Blk.new w _ _) Try.underlying62 rfl HINF.out) rfl ?_
  exact ⟨p, A, c, S, d, rfl, HP.out.below hb2, R1.out.more hb2, R2.out.more hb2, hb2⟩
theorem verts_nil (w : World) :
    Calls Try.prog 50 #[.pointer none] w fun e w' => e = .returned (.agg #[.pointer none, .slice none 0 0, .slice none 0 0]) ∧ Below w.heap.size w w' := by
  have HINF := Lib.hid info_names
  go_enter Try.func50, Try.ntmps50
  go_wp2_with fail
  refine bodyPost_ret (results_cell_row rfl _ _ w.heap.size 62 _ (0, 0) _ rfl (Blk.new w _ _) Try.underlying62 rfl HINF.out) rfl ?_
  exact ⟨rfl, (Below.refl _ _).alloc (Nat.le_refl _) _⟩
set_option maxHeartbeats 1000000 in
theorem faces_p (g : Nat) (l b : List Nat) (root lone : Int) (w : World) (h : MapAt w g l b root lone) :
    Calls Try.prog 53 #[.pointer (some ⟨g, 0, none⟩)] w (VPost w (phiL l) (phiB l b)) := by
  obtain ⟨h1, h2, p, A, c, S, d, q, A', c', S', d', hb, hp, hq, r1, r2, r3, r4⟩ := h
  have n0 := hb.cell 3
  have n1 := hb.cell 4
  have n2 := hb.cell 5
  have hgl := hb.lt
  simp at n0 n1 n2
  have HP := Lib.hid hp
  have HQ := Lib.hid hq
  have R1 := Lib.hid r1
  have R2 := Lib.hid r2
  have R3 := Lib.hid r3
  have R4 := Lib.hid r4
  have HINF := Lib.hid info_names
  clear hb hp hq r1 r2 r3 r4
  go_enter Try.func53, Try.ntmps53
  go_wp2_with fail
  have hb2 := (Below.refl w.heap.size w).alloc (Nat.le_refl _) (.cells #[.pointer (some ⟨q, 0, none⟩), .slice A' l.length c', .slice S' (sizes (phiL l)).length d'] 62)
  refine bodyPost_ret (results_cell_row rfl _ _ w.heap.size 62 _ (0, 0) _ rfl (Blk.new w _ _) Try.underlying62 rfl HINF.out) rfl ?_
  exact ⟨q, A', c', S', d', by rw [phiL_len], HQ.out.below hb2, by rw [phiL_len]; exact R3.out.more hb2, R4.out.more hb2, hb2⟩
theorem faces_nil (w : World) :
    Calls Try.prog 53 #[.pointer none] w fun e w' => e = .returned (.agg #[.pointer none, .slice none 0 0, .slice none 0 0]) ∧ Below w.heap.size w w' := by
  have HINF := Lib.hid info_names
  go_enter Try.func53, Try.ntmps53
  go_wp2_with fail
  refine bodyPost_ret (results_cell_row rfl _ _ w.heap.size 62 _ (0, 0) _ rfl (Blk.new w _ _) Try.underlying62 rfl HINF.out) rfl ?_
  exact ⟨rfl, (Below.refl _ _).alloc (Nat.le_refl _) _⟩
theorem root_p (g : Nat) (l b : List Nat) (root lone : Int) (w : World) (h : MapAt w g l b root lone) :
    Calls Try.prog 29 #[.pointer (some ⟨g, 0, none⟩)] w fun e w' => e = .returned (.int .i64 root) ∧ w = w' := by
  obtain ⟨h1, h2, p, A, c, S, d, q, A', c', S', d', hb, _⟩ := h
  have n0 := hb.cell 6
  simp at n0
  clear hb
  go_enter Try.func29, Try.ntmps29
  go_wp2_with fail
  go_ret
  exact ⟨rfl, rfl⟩
theorem root_nil (w : World) :
    Calls Try.prog 29 #[.pointer none] w fun e w' => e = .returned (.int .i64 (-1)) ∧ w = w' := by
  go_enter Try.func29, Try.ntmps29
  go_wp2_with fail
  go_ret
  exact ⟨rfl, rfl⟩
theorem lone_p (g : Nat) (l b : List Nat) (root lone : Int) (w : World) (h : MapAt w g l b root lone) :
    Calls Try.prog 22 #[.pointer (some ⟨g, 0, none⟩)] w fun e w' => e = .returned (.int .i64 lone) ∧ w = w' := by
  obtain ⟨h1, h2, p, A, c, S, d, q, A', c', S', d', hb, _⟩ := h
  have n0 := hb.cell 7
  simp at n0
  clear hb
  go_enter Try.func22, Try.ntmps22
  go_wp2_with fail
  go_ret
  exact ⟨rfl, rfl⟩
theorem lone_nil (w : World) :
    Calls Try.prog 22 #[.pointer none] w fun e w' => e = .returned (.int .i64 0) ∧ w = w' := by
  go_enter Try.func22, Try.ntmps22
  go_wp2_with fail
  go_ret
  exact ⟨rfl, rfl⟩
theorem darts_p (g : Nat) (l b : List Nat) (root lone : Int) (w : World) (h : MapAt w g l b root lone) :
    Calls Try.prog 17 #[.pointer (some ⟨g, 0, none⟩)] w fun e w' => e = .returned (.int .i64 (l.length : Int)) ∧ Below w.heap.size w w' := by
  have VS := Lib.hid (verts_p g l b root lone w h)
  have F0 := fld0
  have F2 := fld2
  have H := Lib.hid h
  clear h
  go_enter Try.func17, Try.ntmps17
  go_wp2_with fail
  refine VS.out.mono ?_
  rintro e w1 ⟨p, A, c, S, d, rfl, hp, r1, r2, b1⟩
  have LN := Lib.hid (len_p p _ _ w1 hp)
  clear hp r1 r2
  go_wp2_with fail
  refine LN.out.mono ?_
  rintro e w2 ⟨rfl, rfl⟩
  go_wp2_with fail
  go_ret
  exact ⟨rfl, b1⟩
theorem darts_nil (w : World) :
    Calls Try.prog 17 #[.pointer none] w fun e w' => e = .returned (.int .i64 0) ∧ Below w.heap.size w w' := by
  have VS := Lib.hid (verts_nil w)
  have F0 := fld0
  go_enter Try.func17, Try.ntmps17
  go_wp2_with fail
  refine VS.out.mono ?_
  rintro e w1 ⟨rfl, b1⟩
  go_wp2_with fail
  refine (len_pnil w1).mono ?_
  rintro e w2 ⟨rfl, rfl⟩
  go_wp2_with fail
  go_ret
  exact ⟨rfl, b1⟩
theorem edges_p (g : Nat) (l b : List Nat) (root lone : Int) (w : World) (h : MapAt w g l b root lone) :
    Calls Try.prog 25 #[.pointer (some ⟨g, 0, none⟩)] w fun e w' => e = .returned (.int .i64 ((l.length / 2 : Nat) : Int)) ∧ Below w.heap.size w w' := by
  have DS := Lib.hid (darts_p g l b root lone w h)
  have hn := h.2.1
  obtain ⟨x, hx⟩ : ∃ x, x = l.length / 2 := ⟨_, rfl⟩
  have hx2 : (l.length : Int) / 2 = (x : Int) := by omega
  have hx3 : x ≤ 1000000 := by omega
  rw [← hx]
  clear h hx
  go_enter Try.func25, Try.ntmps25
  go_wp2_with fail
  refine DS.out.mono ?_
  rintro e w1 ⟨rfl, b1⟩
  go_wp2_with fail
  go_ret
  exact ⟨rfl, b1⟩
theorem edges_nil (w : World) :
    Calls Try.prog 25 #[.pointer none] w fun e w' => e = .returned (.int .i64 0) ∧ Below w.heap.size w w' := by
  have DS := Lib.hid (darts_nil w)
  go_enter Try.func25, Try.ntmps25
  go_wp2_with fail
  refine DS.out.mono ?_
  rintro e w1 ⟨rfl, b1⟩
  go_wp2_with fail
  go_ret
  exact ⟨rfl, b1⟩
theorem sizes_le (l : List Nat) : (sizes l).length ≤ l.length := by unfold sizes; rw [sizesTo_len]; exact met_le l l.length
theorem vertices_p (g : Nat) (l b : List Nat) (root lone : Int) (w : World) (h : MapAt w g l b root lone) :
    Calls Try.prog 21 #[.pointer (some ⟨g, 0, none⟩)] w fun e w' => e = .returned (.int .i64 (((sizes l).length : Int) + lone)) ∧ Below w.heap.size w w' := by
  have VS := Lib.hid (verts_p g l b root lone w h)
  have F0 := fld0
  have F2 := fld2
  have H := Lib.hid h
  have hz := sizes_le l
  have hn := h.2.1
  have hl1 := h.1.2.1
  have hl2 := h.1.2.2
  clear h
  go_enter Try.func21, Try.ntmps21
  go_wp2_with fail
  refine VS.out.mono ?_
  rintro e w1 ⟨p, A, c, S, d, rfl, hp, r1, r2, b1⟩
  have LO := Lib.hid (lone_p g l b root lone w1 (H.out.below b1))
  clear hp r1 r2
  go_wp2_with fail
  refine LO.out.mono ?_
  rintro e w2 ⟨rfl, rfl⟩
  go_wp2_with fail
  go_ret
  exact ⟨rfl, b1⟩
theorem borders_p (g : Nat) (l b : List Nat) (root lone : Int) (w : World) (h : MapAt w g l b root lone) :
    Calls Try.prog 23 #[.pointer (some ⟨g, 0, none⟩)] w fun e w' => e = .returned (.int .i64 ((sizes (phiL l)).length : Int)) ∧ Below w.heap.size w w' := by
  have VS := Lib.hid (faces_p g l b root lone w h)
  have F0 := fld0
  have F2 := fld2
  have H := Lib.hid h
  clear h
  go_enter Try.func23, Try.ntmps23
  go_wp2_with fail
  refine VS.out.mono ?_
  rintro e w1 ⟨p, A, c, S, d, rfl, hp, r1, r2, b1⟩
  clear hp r1 r2
  go_wp2_with fail
  go_ret
  exact ⟨rfl, b1⟩
theorem vertices_nil (w : World) :
    Calls Try.prog 21 #[.pointer none] w fun e w' => e = .returned (.int .i64 0) ∧ Below w.heap.size w w' := by
  have VS := Lib.hid (verts_nil w)
  have F0 := fld0
  have F2 := fld2
  go_enter Try.func21, Try.ntmps21
  go_wp2_with fail
  refine VS.out.mono ?_
  rintro e w1 ⟨rfl, b1⟩
  go_wp2_with fail
  refine (lone_nil w1).mono ?_
  rintro e w2 ⟨rfl, rfl⟩
  go_wp2_with fail
  go_ret
  exact ⟨rfl, b1⟩
theorem borders_nil (w : World) :
    Calls Try.prog 23 #[.pointer none] w fun e w' => e = .returned (.int .i64 0) ∧ Below w.heap.size w w' := by
  have VS := Lib.hid (faces_nil w)
  have F0 := fld0
  have F2 := fld2
  go_enter Try.func23, Try.ntmps23
  go_wp2_with fail
  refine VS.out.mono ?_
  rintro e w1 ⟨rfl, b1⟩

  go_wp2_with fail
  go_ret
  exact ⟨rfl, b1⟩
theorem list_nil (w : World) :
    Calls Try.prog 42 #[.pointer none] w fun e w' => e = .returned (.slice none 0 0) ∧ Below w.heap.size w w' := by
  have VS := Lib.hid (verts_nil w)
  have F0 := fld0
  have F2 := fld2
  go_enter Try.func42, Try.ntmps42
  go_wp2_with fail
  refine VS.out.mono ?_
  rintro e w1 ⟨rfl, b1⟩
  go_wp2_with fail
  refine (list_pnil w1).mono ?_
  rintro e w2 ⟨rfl, rfl⟩
  go_wp2_with fail
  go_ret
  exact ⟨rfl, b1⟩
theorem sigma_nil (i : Int) (w : World) :
    Calls Try.prog 31 #[.pointer none, .int .i64 i] w fun e w' => e = .returned (.int .i64 (-1)) ∧ Below w.heap.size w w' := by
  have VS := Lib.hid (verts_nil w)
  have F0 := fld0
  have F2 := fld2
  go_enter Try.func31, Try.ntmps31
  go_wp2_with fail
  refine VS.out.mono ?_
  rintro e w1 ⟨rfl, b1⟩
  go_wp2_with fail
  refine (at_nil i w1).mono ?_
  rintro e w2 ⟨rfl, rfl⟩
  go_wp2_with fail
  go_ret
  exact ⟨rfl, b1⟩
theorem mback_nil (i : Int) (w : World) :
    Calls Try.prog 46 #[.pointer none, .int .i64 i] w fun e w' => e = .returned (.int .i64 (-1)) ∧ Below w.heap.size w w' := by
  have VS := Lib.hid (verts_nil w)
  have F0 := fld0
  have F2 := fld2
  go_enter Try.func46, Try.ntmps46
  go_wp2_with fail
  refine VS.out.mono ?_
  rintro e w1 ⟨rfl, b1⟩
  go_wp2_with fail
  refine (back_nil i w1).mono ?_
  rintro e w2 ⟨rfl, rfl⟩
  go_wp2_with fail
  go_ret
  exact ⟨rfl, b1⟩
theorem phi_nil (i : Int) (w : World) :
    Calls Try.prog 32 #[.pointer none, .int .i64 i] w fun e w' => e = .returned (.int .i64 (-1)) ∧ Below w.heap.size w w' := by
  have VS := Lib.hid (faces_nil w)
  have F0 := fld0
  have F2 := fld2
  go_enter Try.func32, Try.ntmps32
  go_wp2_with fail
  refine VS.out.mono ?_
  rintro e w1 ⟨rfl, b1⟩
  go_wp2_with fail
  refine (at_nil i w1).mono ?_
  rintro e w2 ⟨rfl, rfl⟩
  go_wp2_with fail
  go_ret
  exact ⟨rfl, b1⟩
end Go.Proofs.Ythbhbcakiaaapaa
