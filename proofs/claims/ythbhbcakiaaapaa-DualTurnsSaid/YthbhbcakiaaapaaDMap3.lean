/- What maps that are answer: Vertex, Face, Mate, Degree, Rooted; the document's Mate and Phi. -/
import Derived.Test.YthbhbcakiaaapaaDMade2
import Derived.Test.YthbhbcakiaaapaaDMap2
namespace Go.Proofs.Ythbhbcakiaaapaa
set_option maxRecDepth 20000
open Go.RowKit
set_option linter.unusedVariables false

theorem name_in (p : Nat) (l b : List Nat) (A S : Option Addr) (c k d i : Nat) (w : World) (hp : PermAt w p l b) (hr : Rd w w.heap.size A l.length (I64 (ofN (names l)))) (hi : i < l.length) :
    Calls Try.prog 52 #[.agg #[.pointer (some ⟨p, 0, none⟩), .slice A l.length c, .slice S k d], .int .i64 (i : Int)] w fun e w' => e = .returned (.int .i64 ((nameOf l i : Nat) : Int)) ∧ Below w.heap.size w w' := by
  have hb := (Below.refl w.heap.size w).alloc (Nat.le_refl _) (.cells #[.pointer (some ⟨p, 0, none⟩), .slice A l.length c, .slice S k d] 62)
  have LN := Lib.hid (len_p p l b _ (hp.below hb))
  obtain ⟨b', o, rfl, _, k1⟩ := (hr.more hb).i64 (by omega)
  have t1 := k1 i hi
  rw [ofN_get, names_get _ _ hi] at t1
  have hlt : ¬ (l.length : Int) ≤ (i : Int) := by omega
  have hl9 := hp.2.1
  clear hp hr k1
  generalize nameOf l i = x at *
  go_enter Try.func52, Try.ntmps52
  go_wp2_with fail
  refine LN.out.mono ?_
  rintro e w2 ⟨rfl, rfl⟩
  go_wp2_with fail
  go_ret
  exact ⟨rfl, hb⟩
theorem name_out (p : Nat) (l b : List Nat) (A S : Option Addr) (n c k d : Nat) (i : Int) (w : World) (hp : PermAt w p l b) (hi : i < 0 ∨ (l.length : Int) ≤ i) :
    Calls Try.prog 52 #[.agg #[.pointer (some ⟨p, 0, none⟩), .slice A n c, .slice S k d], .int .i64 i] w fun e w' => e = .returned (.int .i64 (-1)) ∧ Below w.heap.size w w' := by
  have hb := (Below.refl w.heap.size w).alloc (Nat.le_refl _) (.cells #[.pointer (some ⟨p, 0, none⟩), .slice A n c, .slice S k d] 62)
  have LN := Lib.hid (len_p p l b _ (hp.below hb))
  clear hp
  by_cases h0 : i < 0
  · go_enter Try.func52, Try.ntmps52
    go_wp2_with fail
    go_ret
    exact ⟨rfl, hb⟩
  · have h1 : (l.length : Int) ≤ i := by omega
    clear hi
    go_enter Try.func52, Try.ntmps52
    go_wp2_with fail
    refine LN.out.mono ?_
    rintro e w2 ⟨rfl, rfl⟩
    go_wp2_with fail
    go_ret
    exact ⟨rfl, hb⟩
theorem vertex_in (g : Nat) (l b : List Nat) (root lone : Int) (i : Nat) (w : World) (h : MapAt w g l b root lone) (hi : i < l.length) :
    Calls Try.prog 18 #[.pointer (some ⟨g, 0, none⟩), .int .i64 (i : Int)] w fun e w' => e = .returned (.int .i64 ((nameOf l i : Nat) : Int)) ∧ Below w.heap.size w w' := by
  have VS := Lib.hid (verts_p g l b root lone w h)
  have HLN := Lib.hid (phiL_len l)
  have HI := Lib.hid hi
  clear h hi
  go_enter Try.func18, Try.ntmps18
  go_wp2_with fail
  refine VS.out.mono ?_
  rintro e w1 ⟨p, A, c, S, d, rfl, hp, r1, r2, b1⟩
  have CC := Lib.hid (name_in p l _ A S c (sizes l).length d i w1 hp r1 HI.out)
  clear hp r1 r2
  go_wp2_with fail
  refine CC.out.mono ?_
  rintro e w2 ⟨rfl, b2⟩
  go_wp2_with fail
  go_ret
  exact ⟨rfl, b1.trans (b2.mono b1.size)⟩
theorem vertex_out (g : Nat) (l b : List Nat) (root lone : Int) (i : Int) (w : World) (h : MapAt w g l b root lone) (hi : i < 0 ∨ (l.length : Int) ≤ i) :
    Calls Try.prog 18 #[.pointer (some ⟨g, 0, none⟩), .int .i64 i] w fun e w' => e = .returned (.int .i64 (-1)) ∧ Below w.heap.size w w' := by
  have VS := Lib.hid (verts_p g l b root lone w h)
  have HLN := Lib.hid (phiL_len l)
  have HI := Lib.hid hi
  clear h hi
  go_enter Try.func18, Try.ntmps18
  go_wp2_with fail
  refine VS.out.mono ?_
  rintro e w1 ⟨p, A, c, S, d, rfl, hp, r1, r2, b1⟩
  have CC := Lib.hid (name_out p l _ A S l.length c (sizes l).length d i w1 hp HI.out)
  clear hp r1 r2
  go_wp2_with fail
  refine CC.out.mono ?_
  rintro e w2 ⟨rfl, b2⟩
  go_wp2_with fail
  go_ret
  exact ⟨rfl, b1.trans (b2.mono b1.size)⟩
theorem face_in (g : Nat) (l b : List Nat) (root lone : Int) (i : Nat) (w : World) (h : MapAt w g l b root lone) (hi : i < l.length) :
    Calls Try.prog 19 #[.pointer (some ⟨g, 0, none⟩), .int .i64 (i : Int)] w fun e w' => e = .returned (.int .i64 ((nameOf (phiL l) i : Nat) : Int)) ∧ Below w.heap.size w w' := by
  have VS := Lib.hid (faces_p g l b root lone w h)
  have HLN := Lib.hid (phiL_len l)
  have HI := Lib.hid hi
  clear h hi
  go_enter Try.func19, Try.ntmps19
  go_wp2_with fail
  refine VS.out.mono ?_
  rintro e w1 ⟨p, A, c, S, d, rfl, hp, r1, r2, b1⟩
  have CC := Lib.hid (name_in p (phiL l) _ A S c (sizes (phiL l)).length d i w1 hp r1 (by rw [HLN.out]; exact HI.out))
  clear hp r1 r2
  go_wp2_with fail
  refine CC.out.mono ?_
  rintro e w2 ⟨rfl, b2⟩
  go_wp2_with fail
  go_ret
  exact ⟨rfl, b1.trans (b2.mono b1.size)⟩
theorem face_out (g : Nat) (l b : List Nat) (root lone : Int) (i : Int) (w : World) (h : MapAt w g l b root lone) (hi : i < 0 ∨ (l.length : Int) ≤ i) :
    Calls Try.prog 19 #[.pointer (some ⟨g, 0, none⟩), .int .i64 i] w fun e w' => e = .returned (.int .i64 (-1)) ∧ Below w.heap.size w w' := by
  have VS := Lib.hid (faces_p g l b root lone w h)
  have HLN := Lib.hid (phiL_len l)
  have HI := Lib.hid hi
  clear h hi
  go_enter Try.func19, Try.ntmps19
  go_wp2_with fail
  refine VS.out.mono ?_
  rintro e w1 ⟨p, A, c, S, d, rfl, hp, r1, r2, b1⟩
  have CC := Lib.hid (name_out p (phiL l) _ A S (phiL l).length c (sizes (phiL l)).length d i w1 hp (by rw [HLN.out]; exact HI.out))
  clear hp r1 r2
  go_wp2_with fail
  refine CC.out.mono ?_
  rintro e w2 ⟨rfl, b2⟩
  go_wp2_with fail
  go_ret
  exact ⟨rfl, b1.trans (b2.mono b1.size)⟩
theorem mate_in (g : Nat) (l b : List Nat) (root lone : Int) (i : Nat) (w : World) (h : MapAt w g l b root lone) (hi : i < l.length) :
    Calls Try.prog 56 #[.pointer (some ⟨g, 0, none⟩), .int .i64 (i : Int)] w fun e w' => e = .returned (.int .i64 ((mateN i : Nat) : Int)) ∧ Below w.heap.size w w' := by
  have DS := Lib.hid (darts_p g l b root lone w h)
  have MT := Lib.hid (fun w' => mate_p i w' (by have := h.2.1; omega))
  have hlt : ¬ (l.length : Int) ≤ (i : Int) := by omega
  clear h hi
  generalize mateN i = x at *
  go_enter Try.func56, Try.ntmps56
  go_wp2_with fail
  refine DS.out.mono ?_
  rintro e w1 ⟨rfl, b1⟩
  go_wp2_with fail
  refine (MT.out _).mono ?_
  rintro e w2 ⟨rfl, rfl⟩
  go_wp2_with fail
  go_ret
  exact ⟨rfl, b1⟩
theorem mate_out (g : Nat) (l b : List Nat) (root lone : Int) (i : Int) (w : World) (h : MapAt w g l b root lone) (hi : i < 0 ∨ (l.length : Int) ≤ i) :
    Calls Try.prog 56 #[.pointer (some ⟨g, 0, none⟩), .int .i64 i] w fun e w' => e = .returned (.int .i64 (-1)) ∧ Below w.heap.size w w' := by
  have DS := Lib.hid (darts_p g l b root lone w h)
  clear h
  by_cases h0 : i < 0
  · go_enter Try.func56, Try.ntmps56
    go_wp2_with fail
    go_ret
    exact ⟨rfl, Below.refl _ _⟩
  · have h1 : (l.length : Int) ≤ i := by omega
    clear hi
    go_enter Try.func56, Try.ntmps56
    go_wp2_with fail
    refine DS.out.mono ?_
    rintro e w1 ⟨rfl, b1⟩
    go_wp2_with fail
    go_ret
    exact ⟨rfl, b1⟩
theorem rmate_p (i : Nat) (w : World) (hi : i ≤ 1000000) :
    Calls Try.prog 72 #[.int .i64 (i : Int)] w fun e w' => e = .returned (.int .i64 ((mateN i : Nat) : Int)) ∧ w = w' := by
  rw [mateN_eq]
  by_cases h : i % 2 = 0
  · rw [if_pos h]
    have h1 : (i : Int) % 2 = 0 := by omega
    clear h
    go_enter Try.func72, Try.ntmps72
    go_wp2
    go_ret
    exact ⟨by simp, rfl⟩
  · rw [if_neg h]
    have h1 : (i : Int) % 2 = 1 := by omega
    have h2 : ((i - 1 : Nat) : Int) = (i : Int) - 1 := by omega
    rw [h2]
    clear h h2
    go_enter Try.func72, Try.ntmps72
    go_wp2
    go_ret
    exact ⟨rfl, rfl⟩
end Go.Proofs.Ythbhbcakiaaapaa
