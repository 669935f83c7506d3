/- What maps answer. The document's examples of maps. What New refuses, and what the document says of it. Rows of integers that come in to a statement. DartMakes: of any list, root and count there is a map, or it is refused. What maps that are answer of a dart. -/
import Derived.Test.YtgcbdoljapnecaaGreatZDFld
import Derived.Test.YtgcbdoljapnecaaGreatZPRef2
import Derived.Test.YtgcbdoljapnecaaGreatZg1
namespace Go.Proofs.YtgcbdoljapnecaaGreat
set_option maxRecDepth 20000
open Go.RowKit
set_option linter.unusedVariables false

theorem info_names : (Tryz.prog.info? 62).map (·.size) = some 3 := by kernel_rfl
/-- What vertices and faces answer. -/
def VPost (w : World) (l b : List Nat) (e : Ending) (w' : World) : Prop :=
  ∃ p A c S d, e = .returned (.agg #[.pointer (some ⟨p, 0, none⟩), .slice A l.length c, .slice S (sizes l).length d]) ∧ PermAt w' p l b ∧ Rd w' w'.heap.size A l.length (I64 (ofN (names l))) ∧ Rd w' w'.heap.size S (sizes l).length (I64 (ofN (sizes l))) ∧ Below w.heap.size w w'
set_option maxHeartbeats 1000000 in
theorem verts_p (g : Nat) (l b : List Nat) (root lone : Int) (w : World) (h : MapAt w g l b root lone) :
    Calls Tryz.prog 33 #[.pointer (some ⟨g, 0, none⟩)] w (VPost w l b) := by
  obtain ⟨h1, h2, p, A, c, S, d, q, A', c', S', d', hb, hp, hq, r1, r2, r3, r4⟩ := h
  have n0 := hb.cell 0
  have n1 := hb.cell 1
  have n2 := hb.cell 2
  have hgl := hb.lt
  simp at n0 n1 n2
  have HP := Lib.hid hp
  have HQ := Lib.hid hq
  have R1 := Lib.hid r1
  have R2 := Lib.hid r2
  have R3 := Lib.hid r3
  have R4 := Lib.hid r4
  have HINF := Lib.hid info_names
  clear hb hp hq r1 r2 r3 r4
  go_enter Tryz.func33, Tryz.ntmps33
  go_wp2_with fail
  have hb2 := (Below.refl w.heap.size w).alloc (Nat.le_refl _) (.cells #[.pointer (some ⟨p, 0, none⟩), .slice A l.length c, .slice S (sizes l).length d] 62)
  refine bodyPost_ret (results_cell_row rfl _ _ w.heap.size 62 _ (0, 0) _ rfl (Blk.new w _ _) Tryz.underlying62 rfl HINF.out) rfl ?_
  exact ⟨p, A, c, S, d, rfl, HP.out.below hb2, R1.out.more hb2, R2.out.more hb2, hb2⟩
set_option maxHeartbeats 1000000 in
theorem faces_p (g : Nat) (l b : List Nat) (root lone : Int) (w : World) (h : MapAt w g l b root lone) :
    Calls Tryz.prog 59 #[.pointer (some ⟨g, 0, none⟩)] w (VPost w (phiL l) (phiB l b)) := by
  obtain ⟨h1, h2, p, A, c, S, d, q, A', c', S', d', hb, hp, hq, r1, r2, r3, r4⟩ := h
  have n0 := hb.cell 3
  have n1 := hb.cell 4
  have n2 := hb.cell 5
  have hgl := hb.lt
  simp at n0 n1 n2
  have HP := Lib.hid hp
  have HQ := Lib.hid hq
  have R1 := Lib.hid r1
  have R2 := Lib.hid r2
  have R3 := Lib.hid r3
  have R4 := Lib.hid r4
  have HINF := Lib.hid info_names
  clear hb hp hq r1 r2 r3 r4
  go_enter Tryz.func59, Tryz.ntmps59
  go_wp2_with fail
  have hb2 := (Below.refl w.heap.size w).alloc (Nat.le_refl _) (.cells #[.pointer (some ⟨q, 0, none⟩), .slice A' l.length c', .slice S' (sizes (phiL l)).length d'] 62)
  refine bodyPost_ret (results_cell_row rfl _ _ w.heap.size 62 _ (0, 0) _ rfl (Blk.new w _ _) Tryz.underlying62 rfl HINF.out) rfl ?_
  exact ⟨q, A', c', S', d', by rw [phiL_len], HQ.out.below hb2, by rw [phiL_len]; exact R3.out.more hb2, R4.out.more hb2, hb2⟩
theorem root_p (g : Nat) (l b : List Nat) (root lone : Int) (w : World) (h : MapAt w g l b root lone) :
    Calls Tryz.prog 14 #[.pointer (some ⟨g, 0, none⟩)] w fun e w' => e = .returned (.int .i64 root) ∧ w = w' := by
  obtain ⟨h1, h2, p, A, c, S, d, q, A', c', S', d', hb, _⟩ := h
  have n0 := hb.cell 6
  simp at n0
  clear hb
  go_enter Tryz.func14, Tryz.ntmps14
  go_wp2_with fail
  go_ret
  exact ⟨rfl, rfl⟩
theorem lone_p (g : Nat) (l b : List Nat) (root lone : Int) (w : World) (h : MapAt w g l b root lone) :
    Calls Tryz.prog 15 #[.pointer (some ⟨g, 0, none⟩)] w fun e w' => e = .returned (.int .i64 lone) ∧ w = w' := by
  obtain ⟨h1, h2, p, A, c, S, d, q, A', c', S', d', hb, _⟩ := h
  have n0 := hb.cell 7
  simp at n0
  clear hb
  go_enter Tryz.func15, Tryz.ntmps15
  go_wp2_with fail
  go_ret
  exact ⟨rfl, rfl⟩
theorem darts_p (g : Nat) (l b : List Nat) (root lone : Int) (w : World) (h : MapAt w g l b root lone) :
    Calls Tryz.prog 24 #[.pointer (some ⟨g, 0, none⟩)] w fun e w' => e = .returned (.int .i64 (l.length : Int)) ∧ Below w.heap.size w w' := by
  have VS := Lib.hid (verts_p g l b root lone w h)
  have F0 := fld0
  have F2 := fld2
  have H := Lib.hid h
  clear h
  go_enter Tryz.func24, Tryz.ntmps24
  go_wp2_with fail
  refine VS.out.mono ?_
  rintro e w1 ⟨p, A, c, S, d, rfl, hp, r1, r2, b1⟩
  have LN := Lib.hid (len_p p _ _ w1 hp)
  clear hp r1 r2
  go_wp2_with fail
  refine LN.out.mono ?_
  rintro e w2 ⟨rfl, rfl⟩
  go_wp2_with fail
  go_ret
  exact ⟨rfl, b1⟩
theorem edges_p (g : Nat) (l b : List Nat) (root lone : Int) (w : World) (h : MapAt w g l b root lone) :
    Calls Tryz.prog 31 #[.pointer (some ⟨g, 0, none⟩)] w fun e w' => e = .returned (.int .i64 ((l.length / 2 : Nat) : Int)) ∧ Below w.heap.size w w' := by
  have DS := Lib.hid (darts_p g l b root lone w h)
  have hn := h.2.1
  obtain ⟨x, hx⟩ : ∃ x, x = l.length / 2 := ⟨_, rfl⟩
  have hx2 : (l.length : Int) / 2 = (x : Int) := by omega
  have hx3 : x ≤ 1000000 := by omega
  rw [← hx]
  clear h hx
  go_enter Tryz.func31, Tryz.ntmps31
  go_wp2_with fail
  refine DS.out.mono ?_
  rintro e w1 ⟨rfl, b1⟩
  go_wp2_with fail
  go_ret
  exact ⟨rfl, b1⟩
theorem sizes_le (l : List Nat) : (sizes l).length ≤ l.length := by unfold sizes; rw [sizesTo_len]; exact met_le l l.length
theorem vertices_p (g : Nat) (l b : List Nat) (root lone : Int) (w : World) (h : MapAt w g l b root lone) :
    Calls Tryz.prog 29 #[.pointer (some ⟨g, 0, none⟩)] w fun e w' => e = .returned (.int .i64 (((sizes l).length : Int) + lone)) ∧ Below w.heap.size w w' := by
  have VS := Lib.hid (verts_p g l b root lone w h)
  have F0 := fld0
  have F2 := fld2
  have H := Lib.hid h
  have hz := sizes_le l
  have hn := h.2.1
  have hl1 := h.1.2.1
  have hl2 := h.1.2.2
  clear h
  go_enter Tryz.func29, Tryz.ntmps29
  go_wp2_with fail
  refine VS.out.mono ?_
  rintro e w1 ⟨p, A, c, S, d, rfl, hp, r1, r2, b1⟩
  have LO := Lib.hid (lone_p g l b root lone w1 (H.out.below b1))
  clear hp r1 r2
  go_wp2_with fail
  refine LO.out.mono ?_
  rintro e w2 ⟨rfl, rfl⟩
  go_wp2_with fail
  go_ret
  exact ⟨rfl, b1⟩
end Go.Proofs.YtgcbdoljapnecaaGreat
namespace Go.Proofs.YtgcbdoljapnecaaGreat
set_option maxRecDepth 20000
open Go.RowKit
set_option linter.unusedVariables false

end Go.Proofs.YtgcbdoljapnecaaGreat
namespace Go.Proofs.YtgcbdoljapnecaaGreat
set_option maxRecDepth 20000
open Go.RowKit
set_option linter.unusedVariables false

end Go.Proofs.YtgcbdoljapnecaaGreat
namespace Go.Proofs.YtgcbdoljapnecaaGreat
set_option maxRecDepth 20000
open Go.RowKit

def Z8 (l : List Int) : List Value := l.map fun (x : Int) => Value.int .u8 x
end Go.Proofs.YtgcbdoljapnecaaGreat
namespace Go.Proofs.YtgcbdoljapnecaaGreat
set_option maxRecDepth 20000
open Go.RowKit
set_option linter.unusedVariables false

theorem mlist_p (g : Nat) (l b : List Nat) (root lone : Int) (w : World) (h : MapAt w g l b root lone) :
    Calls Tryz.prog 13 #[.pointer (some ⟨g, 0, none⟩)] w (NewI64 w (ofN l)) := by
  have VS := Lib.hid (verts_p g l b root lone w h)
  have F0 := fld0
  clear h
  go_enter Tryz.func13, Tryz.ntmps13
  go_wp2_with fail
  refine VS.out.mono ?_
  rintro e w1 ⟨p, A, c, S, d, rfl, hp, r1, r2, b1⟩
  have LS := Lib.hid (list_p p l b w1 hp)
  clear hp r1 r2
  go_wp2_with fail
  refine LS.out.mono ?_
  rintro e w2 ⟨A2, c2, rfl, hc2, hm2, hown, b2⟩
  go_wp2_with fail
  go_ret
  exact ⟨A2, c2, rfl, hc2, hm2, hown.base_le' b1.size, b1.trans (b2.mono b1.size)⟩
end Go.Proofs.YtgcbdoljapnecaaGreat
namespace Go.Proofs.YtgcbdoljapnecaaGreat
set_option maxRecDepth 20000
open Go.RowKit
set_option linter.unusedVariables false

theorem sigma_in (g : Nat) (l b : List Nat) (root lone : Int) (i : Nat) (w : World) (h : MapAt w g l b root lone) (hi : i < l.length) :
    Calls Tryz.prog 116 #[.pointer (some ⟨g, 0, none⟩), .int .i64 (i : Int)] w fun e w' => e = .returned (.int .i64 ((l.getD i 0 : Nat) : Int)) ∧ Below w.heap.size w w' := by
  have VS := Lib.hid (verts_p g l b root lone w h)
  have F0 := fld0
  have HP1 := Lib.hid h.1
  have hlen := phiL_len l
  have HI := Lib.hid hi
  have HLN := Lib.hid hlen
  clear h hlen hi
  go_enter Tryz.func116, Tryz.ntmps116
  go_wp2_with fail
  refine VS.out.mono ?_
  rintro e w1 ⟨p, A, c, S, d, rfl, hp, r1, r2, b1⟩
  have CC := Lib.hid (at_in p _ _ i w1 hp HI.out)
  clear hp r1 r2
  go_wp2_with fail
  refine CC.out.mono ?_
  rintro e w2 ⟨rfl, rfl⟩
  go_wp2_with fail
  go_ret
  exact ⟨rfl, b1⟩
theorem phi_in (g : Nat) (l b : List Nat) (root lone : Int) (i : Nat) (w : World) (h : MapAt w g l b root lone) (hi : i < l.length) :
    Calls Tryz.prog 110 #[.pointer (some ⟨g, 0, none⟩), .int .i64 (i : Int)] w fun e w' => e = .returned (.int .i64 (((phiL l).getD i 0 : Nat) : Int)) ∧ Below w.heap.size w w' := by
  have VS := Lib.hid (faces_p g l b root lone w h)
  have F0 := fld0
  have HP1 := Lib.hid h.1
  have hlen := phiL_len l
  have HI := Lib.hid hi
  have HLN := Lib.hid hlen
  clear h hlen hi
  go_enter Tryz.func110, Tryz.ntmps110
  go_wp2_with fail
  refine VS.out.mono ?_
  rintro e w1 ⟨p, A, c, S, d, rfl, hp, r1, r2, b1⟩
  have CC := Lib.hid (at_in p _ _ i w1 hp (by rw [HLN.out]; exact HI.out))
  clear hp r1 r2
  go_wp2_with fail
  refine CC.out.mono ?_
  rintro e w2 ⟨rfl, rfl⟩
  go_wp2_with fail
  go_ret
  exact ⟨rfl, b1⟩
theorem mback_in (g : Nat) (l b : List Nat) (root lone : Int) (i : Nat) (w : World) (h : MapAt w g l b root lone) (hi : i < l.length) :
    Calls Tryz.prog 105 #[.pointer (some ⟨g, 0, none⟩), .int .i64 (i : Int)] w fun e w' => e = .returned (.int .i64 ((b.getD i 0 : Nat) : Int)) ∧ Below w.heap.size w w' := by
  have VS := Lib.hid (verts_p g l b root lone w h)
  have F0 := fld0
  have HP1 := Lib.hid h.1
  have hlen := phiL_len l
  have HI := Lib.hid hi
  have HLN := Lib.hid hlen
  clear h hlen hi
  go_enter Tryz.func105, Tryz.ntmps105
  go_wp2_with fail
  refine VS.out.mono ?_
  rintro e w1 ⟨p, A, c, S, d, rfl, hp, r1, r2, b1⟩
  have CC := Lib.hid (back_in p _ _ i w1 hp HI.out)
  clear hp r1 r2
  go_wp2_with fail
  refine CC.out.mono ?_
  rintro e w2 ⟨rfl, rfl⟩
  go_wp2_with fail
  go_ret
  exact ⟨rfl, b1⟩
theorem border_in (g : Nat) (l b : List Nat) (root lone : Int) (i : Nat) (w : World) (h : MapAt w g l b root lone) (hi : i < l.length) :
    Calls Tryz.prog 104 #[.pointer (some ⟨g, 0, none⟩), .int .i64 (i : Int)] w (NewI64 w (ofN (orb (phiL l) i))) := by
  have VS := Lib.hid (faces_p g l b root lone w h)
  have F0 := fld0
  have HP1 := Lib.hid h.1
  have hlen := phiL_len l
  have HI := Lib.hid hi
  have HLN := Lib.hid hlen
  clear h hlen hi
  go_enter Tryz.func104, Tryz.ntmps104
  go_wp2_with fail
  refine VS.out.mono ?_
  rintro e w1 ⟨p, A, c, S, d, rfl, hp, r1, r2, b1⟩
  have CC := Lib.hid (orbit_p p _ _ i w1 hp (by rw [HLN.out]; exact HI.out))
  clear hp r1 r2
  go_wp2_with fail
  refine CC.out.mono ?_
  rintro e w2 ⟨A2, c2, rfl, hc2, hm2, hown, b2⟩
  go_wp2_with fail
  go_ret
  exact ⟨A2, c2, rfl, hc2, hm2, hown.base_le' b1.size, b1.trans (b2.mono b1.size)⟩
end Go.Proofs.YtgcbdoljapnecaaGreat
