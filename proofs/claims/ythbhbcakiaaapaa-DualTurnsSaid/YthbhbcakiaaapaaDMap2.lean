/- What maps that are answer of a dart. -/
import Derived.Test.YthbhbcakiaaapaaDMakes
namespace Go.Proofs.Ythbhbcakiaaapaa
set_option maxRecDepth 20000
open Go.RowKit
set_option linter.unusedVariables false

theorem sigma_in (g : Nat) (l b : List Nat) (root lone : Int) (i : Nat) (w : World) (h : MapAt w g l b root lone) (hi : i < l.length) :
    Calls Try.prog 31 #[.pointer (some ⟨g, 0, none⟩), .int .i64 (i : Int)] w fun e w' => e = .returned (.int .i64 ((l.getD i 0 : Nat) : Int)) ∧ Below w.heap.size w w' := by
  have VS := Lib.hid (verts_p g l b root lone w h)
  have F0 := fld0
  have HP1 := Lib.hid h.1
  have hlen := phiL_len l
  have HI := Lib.hid hi
  have HLN := Lib.hid hlen
  clear h hlen hi
  go_enter Try.func31, Try.ntmps31
  go_wp2_with fail
  refine VS.out.mono ?_
  rintro e w1 ⟨p, A, c, S, d, rfl, hp, r1, r2, b1⟩
  have CC := Lib.hid (at_in p _ _ i w1 hp HI.out)
  clear hp r1 r2
  go_wp2_with fail
  refine CC.out.mono ?_
  rintro e w2 ⟨rfl, rfl⟩
  go_wp2_with fail
  go_ret
  exact ⟨rfl, b1⟩
theorem sigma_out (g : Nat) (l b : List Nat) (root lone : Int) (i : Int) (w : World) (h : MapAt w g l b root lone) (hi : i < 0 ∨ (l.length : Int) ≤ i) :
    Calls Try.prog 31 #[.pointer (some ⟨g, 0, none⟩), .int .i64 i] w fun e w' => e = .returned (.int .i64 (-1)) ∧ Below w.heap.size w w' := by
  have VS := Lib.hid (verts_p g l b root lone w h)
  have F0 := fld0
  have HP1 := Lib.hid h.1
  have hlen := phiL_len l
  have HI := Lib.hid hi
  have HLN := Lib.hid hlen
  clear h hlen hi
  go_enter Try.func31, Try.ntmps31
  go_wp2_with fail
  refine VS.out.mono ?_
  rintro e w1 ⟨p, A, c, S, d, rfl, hp, r1, r2, b1⟩
  have CC := Lib.hid (at_out p _ _ i w1 hp HI.out)
  clear hp r1 r2
  go_wp2_with fail
  refine CC.out.mono ?_
  rintro e w2 ⟨rfl, rfl⟩
  go_wp2_with fail
  go_ret
  exact ⟨rfl, b1⟩
theorem phi_in (g : Nat) (l b : List Nat) (root lone : Int) (i : Nat) (w : World) (h : MapAt w g l b root lone) (hi : i < l.length) :
    Calls Try.prog 32 #[.pointer (some ⟨g, 0, none⟩), .int .i64 (i : Int)] w fun e w' => e = .returned (.int .i64 (((phiL l).getD i 0 : Nat) : Int)) ∧ Below w.heap.size w w' := by
  have VS := Lib.hid (faces_p g l b root lone w h)
  have F0 := fld0
  have HP1 := Lib.hid h.1
  have hlen := phiL_len l
  have HI := Lib.hid hi
  have HLN := Lib.hid hlen
  clear h hlen hi
  go_enter Try.func32, Try.ntmps32
  go_wp2_with fail
  refine VS.out.mono ?_
  rintro e w1 ⟨p, A, c, S, d, rfl, hp, r1, r2, b1⟩
  have CC := Lib.hid (at_in p _ _ i w1 hp (by rw [HLN.out]; exact HI.out))
  clear hp r1 r2
  go_wp2_with fail
  refine CC.out.mono ?_
  rintro e w2 ⟨rfl, rfl⟩
  go_wp2_with fail
  go_ret
  exact ⟨rfl, b1⟩
theorem phi_out (g : Nat) (l b : List Nat) (root lone : Int) (i : Int) (w : World) (h : MapAt w g l b root lone) (hi : i < 0 ∨ (l.length : Int) ≤ i) :
    Calls Try.prog 32 #[.pointer (some ⟨g, 0, none⟩), .int .i64 i] w fun e w' => e = .returned (.int .i64 (-1)) ∧ Below w.heap.size w w' := by
  have VS := Lib.hid (faces_p g l b root lone w h)
  have F0 := fld0
  have HP1 := Lib.hid h.1
  have hlen := phiL_len l
  have HI := Lib.hid hi
  have HLN := Lib.hid hlen
  clear h hlen hi
  go_enter Try.func32, Try.ntmps32
  go_wp2_with fail
  refine VS.out.mono ?_
  rintro e w1 ⟨p, A, c, S, d, rfl, hp, r1, r2, b1⟩
  have CC := Lib.hid (at_out p _ _ i w1 hp (by rw [HLN.out]; exact HI.out))
  clear hp r1 r2
  go_wp2_with fail
  refine CC.out.mono ?_
  rintro e w2 ⟨rfl, rfl⟩
  go_wp2_with fail
  go_ret
  exact ⟨rfl, b1⟩
theorem mback_in (g : Nat) (l b : List Nat) (root lone : Int) (i : Nat) (w : World) (h : MapAt w g l b root lone) (hi : i < l.length) :
    Calls Try.prog 46 #[.pointer (some ⟨g, 0, none⟩), .int .i64 (i : Int)] w fun e w' => e = .returned (.int .i64 ((b.getD i 0 : Nat) : Int)) ∧ Below w.heap.size w w' := by
  have VS := Lib.hid (verts_p g l b root lone w h)
  have F0 := fld0
  have HP1 := Lib.hid h.1
  have hlen := phiL_len l
  have HI := Lib.hid hi
  have HLN := Lib.hid hlen
  clear h hlen hi
  go_enter Try.func46, Try.ntmps46
  go_wp2_with fail
  refine VS.out.mono ?_
  rintro e w1 ⟨p, A, c, S, d, rfl, hp, r1, r2, b1⟩
  have CC := Lib.hid (back_in p _ _ i w1 hp HI.out)
  clear hp r1 r2
  go_wp2_with fail
  refine CC.out.mono ?_
  rintro e w2 ⟨rfl, rfl⟩
  go_wp2_with fail
  go_ret
  exact ⟨rfl, b1⟩
theorem mback_out (g : Nat) (l b : List Nat) (root lone : Int) (i : Int) (w : World) (h : MapAt w g l b root lone) (hi : i < 0 ∨ (l.length : Int) ≤ i) :
    Calls Try.prog 46 #[.pointer (some ⟨g, 0, none⟩), .int .i64 i] w fun e w' => e = .returned (.int .i64 (-1)) ∧ Below w.heap.size w w' := by
  have VS := Lib.hid (verts_p g l b root lone w h)
  have F0 := fld0
  have HP1 := Lib.hid h.1
  have hlen := phiL_len l
  have HI := Lib.hid hi
  have HLN := Lib.hid hlen
  clear h hlen hi
  go_enter Try.func46, Try.ntmps46
  go_wp2_with fail
  refine VS.out.mono ?_
  rintro e w1 ⟨p, A, c, S, d, rfl, hp, r1, r2, b1⟩
  have CC := Lib.hid (back_out p _ _ i w1 hp HI.out)
  clear hp r1 r2
  go_wp2_with fail
  refine CC.out.mono ?_
  rintro e w2 ⟨rfl, rfl⟩
  go_wp2_with fail
  go_ret
  exact ⟨rfl, b1⟩
end Go.Proofs.Ythbhbcakiaaapaa
