/- What maps that are answer: Degree, Rooted, Same; the document's Vertices and Borders. -/
import Derived.Test.YtnnjjhjohjajnaaZDPhi
import Derived.Test.YtnnjjhjohjajnaaZRegion
import Derived.BigQuiet
namespace Go.Proofs.Ytnnjjhjohjajnaa
open Go.RowKit
set_option linter.unusedVariables false

/-- How many darts the vertex v has, or -1. -/
noncomputable def degOf (l : List Nat) (lone v : Int) : Int :=
  if v < 0 ∨ ((sizes l).length : Int) + lone ≤ v then -1 else if ((sizes l).length : Int) ≤ v then 0 else ((sizes l).getD v.toNat 0 : Nat)
theorem degree_p (g : Nat) (l b : List Nat) (root lone v : Int) (w : World) (h : MapAt w g l b root lone) :
    Calls Try.prog 44 #[.pointer (some ⟨g, 0, none⟩), .int .i64 v] w fun e w' => e = .returned (.int .i64 (degOf l lone v)) ∧ Below w.heap.size w w' := by
  have VT := Lib.hid (vertices_p g l b root lone w h)
  have HZ := sizes_le l
  have hl1 := h.1.2.1
  have hl2 := h.1.2.2
  have hl3 := h.2.1
  have H := Lib.hid h
  have F2 := fld2
  clear h
  by_cases h0 : v < 0
  · have HD : Hid (degOf l lone v = -1) := by show _ = _; unfold degOf; rw [if_pos (.inl h0)]
    go_enter Try.func44, Try.ntmps44
    go_wp2_with fail
    go_ret
    exact ⟨by rw [HD.out]; rfl, Below.refl _ _⟩
  · by_cases h1 : ((sizes l).length : Int) + lone ≤ v
    · have HD : Hid (degOf l lone v = -1) := by show _ = _; unfold degOf; rw [if_pos (.inr h1)]
      go_enter Try.func44, Try.ntmps44
      go_wp2_with fail
      refine VT.out.mono ?_
      rintro e w1 ⟨rfl, b1⟩
      go_wp2_with fail
      go_ret
      exact ⟨by rw [HD.out]; rfl, b1⟩
    · obtain ⟨n, rfl⟩ : ∃ n : Nat, v = (n : Int) := ⟨v.toNat, by omega⟩
      by_cases h2 : ((sizes l).length : Int) ≤ (n : Int)
      · have HD : Hid (degOf l lone n = 0) := by show _ = _; unfold degOf; rw [if_neg (by omega), if_pos h2]
        go_enter Try.func44, Try.ntmps44
        go_wp2_with fail
        refine VT.out.mono ?_
        rintro e w1 ⟨rfl, b1⟩
        have VS := Lib.hid (verts_p g l b root lone w1 (H.out.below b1))
        go_wp2_with fail
        refine VS.out.mono ?_
        rintro e w2 ⟨p, A, c, S, d, rfl, hp, r1, r2, b2⟩
        clear hp r1 r2
        go_wp2_with fail
        go_ret
        exact ⟨by rw [HD.out]; rfl, b1.trans (b2.mono b1.size)⟩
      · have HD : Hid (degOf l lone n = ((sizes l).getD n 0 : Nat)) := by show _ = _; unfold degOf; rw [if_neg (by omega), if_neg h2, Int.toNat_natCast]
        rw [HD.out]
        generalize hx : (sizes l).getD n 0 = x
        have HX := Lib.hid hx
        clear HD hx
        go_enter Try.func44, Try.ntmps44
        go_wp2_with fail
        refine VT.out.mono ?_
        rintro e w1 ⟨rfl, b1⟩
        have VS := Lib.hid (verts_p g l b root lone w1 (H.out.below b1))
        go_wp2_with fail
        refine VS.out.mono ?_
        rintro e w2 ⟨p, A, c, S, d, rfl, hp, r1, r2, b2⟩
        have HB : Hid (Below w.heap.size w w2) := b1.trans (b2.mono b1.size)
        obtain ⟨bs, os, rfl, _, k2⟩ := r2.i64 (by omega)
        have t2 := k2 n (by omega)
        rw [ofN_get, HX.out] at t2
        clear hp r1 r2 k2 b1 b2
        go_wp2_with fail
        go_ret
        exact ⟨rfl, HB.out⟩

/-! ### The document's Vertices and Borders -/
end Go.Proofs.Ytnnjjhjohjajnaa
