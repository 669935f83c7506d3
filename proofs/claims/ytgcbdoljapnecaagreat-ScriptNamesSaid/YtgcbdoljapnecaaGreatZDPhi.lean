/- A map of numbers, and the document's. made: a map of numbers, and the document's. What maps that are answer: Vertex, Face, Mate, Degree, Rooted; the document's Mate and Phi. The document's Phi. -/
import Derived.Test.YtgcbdoljapnecaaGreatZDMap2
import Derived.Laws.ResultCell
import Derived.Deep.RegionLaw
import Derived.Deep.AppendLies
namespace Go.Proofs.YtgcbdoljapnecaaGreat
set_option maxRecDepth 20000
open Go.RowKit
set_option linter.unusedVariables false

/-- The document's map, as a value. -/
def RMap (lo : Nat) (w : World) (l b : List Nat) (root lone : Int) (v : Value) : Prop :=
  Inv l b ∧ ∃ A c, inLo lo A ∧ v = .agg #[.slice A l.length c, .int .i64 root, .int .i64 lone] ∧ l.length ≤ c ∧ c ≤ maxLen ∧ Rd w w.heap.size A l.length (I64 (ofN l))
theorem RMap.below {lo : Nat} {w w' : World} {l b : List Nat} {root lone : Int} {v : Value} (h : RMap lo w l b root lone v) (m : Below w.heap.size w w') : RMap lo w' l b root lone v := by
  obtain ⟨hi, A, c, hlo, e, h1, h2, r⟩ := h
  exact ⟨hi, A, c, hlo, e, h1, h2, r.more m⟩
end Go.Proofs.YtgcbdoljapnecaaGreat
namespace Go.Proofs.YtgcbdoljapnecaaGreat
set_option maxRecDepth 20000
open Go.RowKit
set_option linter.unusedVariables false

end Go.Proofs.YtgcbdoljapnecaaGreat
namespace Go.Proofs.YtgcbdoljapnecaaGreat
set_option maxRecDepth 20000
open Go.RowKit
set_option linter.unusedVariables false

theorem name_in (p : Nat) (l b : List Nat) (A S : Option Addr) (c k d i : Nat) (w : World) (hp : PermAt w p l b) (hr : Rd w w.heap.size A l.length (I64 (ofN (names l)))) (hi : i < l.length) :
    Calls Tryz.prog 92 #[.agg #[.pointer (some ⟨p, 0, none⟩), .slice A l.length c, .slice S k d], .int .i64 (i : Int)] w fun e w' => e = .returned (.int .i64 ((nameOf l i : Nat) : Int)) ∧ Below w.heap.size w w' := by
  have hb := (Below.refl w.heap.size w).alloc (Nat.le_refl _) (.cells #[.pointer (some ⟨p, 0, none⟩), .slice A l.length c, .slice S k d] 62)
  have LN := Lib.hid (len_p p l b _ (hp.below hb))
  obtain ⟨b', o, rfl, _, k1⟩ := (hr.more hb).i64 (by omega)
  have t1 := k1 i hi
  rw [ofN_get, names_get _ _ hi] at t1
  have hlt : ¬ (l.length : Int) ≤ (i : Int) := by omega
  have hl9 := hp.2.1
  clear hp hr k1
  generalize nameOf l i = x at *
  go_enter Tryz.func92, Tryz.ntmps92
  go_wp2_with fail
  refine LN.out.mono ?_
  rintro e w2 ⟨rfl, rfl⟩
  go_wp2_with fail
  go_ret
  exact ⟨rfl, hb⟩
theorem vertex_in (g : Nat) (l b : List Nat) (root lone : Int) (i : Nat) (w : World) (h : MapAt w g l b root lone) (hi : i < l.length) :
    Calls Tryz.prog 56 #[.pointer (some ⟨g, 0, none⟩), .int .i64 (i : Int)] w fun e w' => e = .returned (.int .i64 ((nameOf l i : Nat) : Int)) ∧ Below w.heap.size w w' := by
  have VS := Lib.hid (verts_p g l b root lone w h)
  have HLN := Lib.hid (phiL_len l)
  have HI := Lib.hid hi
  clear h hi
  go_enter Tryz.func56, Tryz.ntmps56
  go_wp2_with fail
  refine VS.out.mono ?_
  rintro e w1 ⟨p, A, c, S, d, rfl, hp, r1, r2, b1⟩
  have CC := Lib.hid (name_in p l _ A S c (sizes l).length d i w1 hp r1 HI.out)
  clear hp r1 r2
  go_wp2_with fail
  refine CC.out.mono ?_
  rintro e w2 ⟨rfl, b2⟩
  go_wp2_with fail
  go_ret
  exact ⟨rfl, b1.trans (b2.mono b1.size)⟩
theorem face_in (g : Nat) (l b : List Nat) (root lone : Int) (i : Nat) (w : World) (h : MapAt w g l b root lone) (hi : i < l.length) :
    Calls Tryz.prog 57 #[.pointer (some ⟨g, 0, none⟩), .int .i64 (i : Int)] w fun e w' => e = .returned (.int .i64 ((nameOf (phiL l) i : Nat) : Int)) ∧ Below w.heap.size w w' := by
  have VS := Lib.hid (faces_p g l b root lone w h)
  have HLN := Lib.hid (phiL_len l)
  have HI := Lib.hid hi
  clear h hi
  go_enter Tryz.func57, Tryz.ntmps57
  go_wp2_with fail
  refine VS.out.mono ?_
  rintro e w1 ⟨p, A, c, S, d, rfl, hp, r1, r2, b1⟩
  have CC := Lib.hid (name_in p (phiL l) _ A S c (sizes (phiL l)).length d i w1 hp r1 (by rw [HLN.out]; exact HI.out))
  clear hp r1 r2
  go_wp2_with fail
  refine CC.out.mono ?_
  rintro e w2 ⟨rfl, b2⟩
  go_wp2_with fail
  go_ret
  exact ⟨rfl, b1.trans (b2.mono b1.size)⟩
theorem mate_in (g : Nat) (l b : List Nat) (root lone : Int) (i : Nat) (w : World) (h : MapAt w g l b root lone) (hi : i < l.length) :
    Calls Tryz.prog 58 #[.pointer (some ⟨g, 0, none⟩), .int .i64 (i : Int)] w fun e w' => e = .returned (.int .i64 ((mateN i : Nat) : Int)) ∧ Below w.heap.size w w' := by
  have DS := Lib.hid (darts_p g l b root lone w h)
  have MT := Lib.hid (fun w' => mate_p i w' (by have := h.2.1; omega))
  have hlt : ¬ (l.length : Int) ≤ (i : Int) := by omega
  clear h hi
  generalize mateN i = x at *
  go_enter Tryz.func58, Tryz.ntmps58
  go_wp2_with fail
  refine DS.out.mono ?_
  rintro e w1 ⟨rfl, b1⟩
  go_wp2_with fail
  refine (MT.out _).mono ?_
  rintro e w2 ⟨rfl, rfl⟩
  go_wp2_with fail
  go_ret
  exact ⟨rfl, b1⟩
end Go.Proofs.YtgcbdoljapnecaaGreat
namespace Go.Proofs.YtgcbdoljapnecaaGreat
set_option maxRecDepth 20000
open Go.RowKit
set_option linter.unusedVariables false

theorem phiL_get (l : List Nat) (k : Nat) (hk : k < l.length) : (phiL l).getD k 0 = l.getD (mateN k) 0 := by
  unfold phiL
  rw [comp_get _ _ _ (by rw [mateL_len]; exact hk), mateL_get _ _ hk]
end Go.Proofs.YtgcbdoljapnecaaGreat
