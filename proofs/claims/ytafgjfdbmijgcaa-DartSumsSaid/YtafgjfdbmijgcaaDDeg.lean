/- What maps that are answer: Degree, Rooted, Same; the document's Vertices and Borders. -/
import Derived.Test.YtafgjfdbmijgcaaDPhi
import Derived.Test.YtafgjfdbmijgcaaRegion
import Derived.BigQuiet
namespace Go.Proofs.Ytafgjfdbmijgcaa
open Go.RowKit
set_option linter.unusedVariables false

/-- How many darts the vertex v has, or -1. -/
noncomputable def degOf (l : List Nat) (lone v : Int) : Int :=
  if v < 0 ∨ ((sizes l).length : Int) + lone ≤ v then -1 else if ((sizes l).length : Int) ≤ v then 0 else ((sizes l).getD v.toNat 0 : Nat)
theorem degree_p (g : Nat) (l b : List Nat) (root lone v : Int) (w : World) (h : MapAt w g l b root lone) :
    Calls Try.prog 34 #[.pointer (some ⟨g, 0, none⟩), .int .i64 v] w fun e w' => e = .returned (.int .i64 (degOf l lone v)) ∧ Below w.heap.size w w' := by
  have VT := Lib.hid (vertices_p g l b root lone w h)
  have HZ := sizes_le l
  have hl1 := h.1.2.1
  have hl2 := h.1.2.2
  have hl3 := h.2.1
  have H := Lib.hid h
  have F2 := fld2
  clear h
  by_cases h0 : v < 0
  · have HD : Hid (degOf l lone v = -1) := by show _ = _; unfold degOf; rw [if_pos (.inl h0)]
    go_enter Try.func34, Try.ntmps34
    go_wp2_with fail
    go_ret
    exact ⟨by rw [HD.out]; rfl, Below.refl _ _⟩
  · by_cases h1 : ((sizes l).length : Int) + lone ≤ v
    · have HD : Hid (degOf l lone v = -1) := by show _ = _; unfold degOf; rw [if_pos (.inr h1)]
      go_enter Try.func34, Try.ntmps34
      go_wp2_with fail
      refine VT.out.mono ?_
      rintro e w1 ⟨rfl, b1⟩
      go_wp2_with fail
      go_ret
      exact ⟨by rw [HD.out]; rfl, b1⟩
    · obtain ⟨n, rfl⟩ : ∃ n : Nat, v = (n : Int) := ⟨v.toNat, by omega⟩
      by_cases h2 : ((sizes l).length : Int) ≤ (n : Int)
      · have HD : Hid (degOf l lone n = 0) := by show _ = _; unfold degOf; rw [if_neg (by omega), if_pos h2]
        go_enter Try.func34, Try.ntmps34
        go_wp2_with fail
        refine VT.out.mono ?_
        rintro e w1 ⟨rfl, b1⟩
        have VS := Lib.hid (verts_p g l b root lone w1 (H.out.below b1))
        go_wp2_with fail
        refine VS.out.mono ?_
        rintro e w2 ⟨p, A, c, S, d, rfl, hp, r1, r2, b2⟩
        clear hp r1 r2
        go_wp2_with fail
        go_ret
        exact ⟨by rw [HD.out]; rfl, b1.trans (b2.mono b1.size)⟩
      · have HD : Hid (degOf l lone n = ((sizes l).getD n 0 : Nat)) := by show _ = _; unfold degOf; rw [if_neg (by omega), if_neg h2, Int.toNat_natCast]
        rw [HD.out]
        generalize hx : (sizes l).getD n 0 = x
        have HX := Lib.hid hx
        clear HD hx
        go_enter Try.func34, Try.ntmps34
        go_wp2_with fail
        refine VT.out.mono ?_
        rintro e w1 ⟨rfl, b1⟩
        have VS := Lib.hid (verts_p g l b root lone w1 (H.out.below b1))
        go_wp2_with fail
        refine VS.out.mono ?_
        rintro e w2 ⟨p, A, c, S, d, rfl, hp, r1, r2, b2⟩
        have HB : Hid (Below w.heap.size w w2) := b1.trans (b2.mono b1.size)
        obtain ⟨bs, os, rfl, _, k2⟩ := r2.i64 (by omega)
        have t2 := k2 n (by omega)
        rw [ofN_get, HX.out] at t2
        clear hp r1 r2 k2 b1 b2
        go_wp2_with fail
        go_ret
        exact ⟨rfl, HB.out⟩

/-! ### The document's Vertices and Borders -/
set_option maxRecDepth 20000 in
set_option maxHeartbeats 2000000 in
theorem rverts_p (A : Option Addr) (c : Nat) (l b : List Nat) (root lone : Int) (w : World) (h : Rd w w.heap.size A l.length (I64 (ofN l))) (hi : Inv l b) (hn : l.length ≤ 100000) (h0 : 0 ≤ lone) (h1 : lone ≤ 65536) :
    Calls Try.prog 33 #[.agg #[.slice A l.length c, .int .i64 root, .int .i64 lone]] w fun e w' => e = .returned (.int .i64 (((sizes l).length : Int) + lone)) ∧ Below w.heap.size w w' := by
  have hb0 := (Below.refl w.heap.size w).alloc (Nat.le_refl _) (.cells #[.slice A l.length c, .int .i64 root, .int .i64 lone] 36)
  have HBX := Blk.new w 36 #[.slice A l.length c, .int .i64 root, .int .i64 lone]
  have H0 := Lib.hid (h.more hb0)
  generalize hw1 : w.alloc (.cells #[.slice A l.length c, .int .i64 root, .int .i64 lone] 36) = w1 at *
  have hs1 : w.heap.size < w1.heap.size := by rw [← hw1]; simp
  have HZ := sizes_le l
  have HS := Lib.hid (sizes_len l)
  have CT : Hid (∀ w', Below w1.heap.size w1 w' → Calls Try.prog 56 #[.slice A l.length c] w' fun e w'' => e = .returned (.int .i64 ((sizes l).length : Int)) ∧ Below w1.heap.size w1 w'') := fun w' hb => by
    have := rcount_p A c _ l b w' (H0.out.more hb) hi (by omega)
    rw [← HS.out] at this
    exact this.mono fun e w'' ⟨he, h2⟩ => ⟨he, hb.trans (h2.mono hb.size)⟩
  have y0 : w1.cell? ⟨w.heap.size, 0, none⟩ = some (.slice A l.length c) := HBX.cell 0
  have y2 : w1.cell? ⟨w.heap.size, 2, none⟩ = some (.int .i64 lone) := HBX.cell 2
  have L0 : Hid (∀ w', Below w1.heap.size w1 w' → w'.cell? ⟨w.heap.size, 0, none⟩ = some (.slice A l.length c)) := fun w' hb => (hb.cell (p := ⟨w.heap.size, 0, none⟩) hs1).trans y0
  have L2 : Hid (∀ w', Below w1.heap.size w1 w' → w'.cell? ⟨w.heap.size, 2, none⟩ = some (.int .i64 lone)) := fun w' hb => (hb.cell (p := ⟨w.heap.size, 2, none⟩) hs1).trans y2
  have HB0 := Lib.hid hb0
  have HW1 := Lib.hid hw1
  clear h hi hb0 HS H0 HBX y0 y2 hw1
  generalize (sizes l).length = m at *
  go_enter Try.func33, Try.ntmps33
  go_wp2_with fail
  rw [HW1.out]
  refine region_class (Below w1.heap.size w1) (by kernel_rfl) (by kernel_rfl) (Below.refl _ _).drew ?_
  repeat (
    first
      | go_big_quiet_skip
      | (go_big_quiet_want; go_big_quiet_op
         first
           | go_big_quiet_on
           | ((with_reducible refine ⟨_, CT.out, ?_⟩); go_big_quiet_on)
           | (refine ⟨_, fun _ _ => rfl, ?_⟩; go_big_quiet_on)
           | (refine ⟨_, fun w' hw' => by rw [L0.out w' hw']; exact ⟨rfl, rfl⟩, ?_⟩; go_big_quiet_on)
           | (refine ⟨_, fun w' hw' => by rw [L2.out w' hw']; exact ⟨rfl, rfl⟩, ?_⟩; go_big_quiet_on)
           | (trace_state; fail)))
  refine wpQuiet_nil ?_
  intro w8 hb8
  go_wp2_with fail
  go_ret
  exact ⟨rfl, HB0.out.trans (hb8.mono HB0.out.size)⟩
theorem rborders_p (A : Option Addr) (c : Nat) (l b : List Nat) (root lone : Int) (w : World) (h : Rd w w.heap.size A l.length (I64 (ofN l))) (hi : Inv l b) (he : l.length % 2 = 0) (hn : l.length ≤ 100000) :
    Calls Try.prog 37 #[.agg #[.slice A l.length c, .int .i64 root, .int .i64 lone]] w fun e w' => e = .returned (.int .i64 ((sizes (phiL l)).length : Int)) ∧ Below w.heap.size w w' := by
  have hb0 := (Below.refl w.heap.size w).alloc (Nat.le_refl _) (.cells #[.slice A l.length c, .int .i64 root, .int .i64 lone] 36)
  have PH := Lib.hid (rphi_p A c l root lone _ (h.more hb0) he hn)
  have HZ := sizes_le (phiL l)
  have HS := Lib.hid (sizes_len (phiL l))
  have HP := Lib.hid (phi_inv hi he)
  have HPL := Lib.hid (phiL_len l)
  have HB0 := Lib.hid hb0
  clear h hi hb0
  go_enter Try.func37, Try.ntmps37
  go_wp2_with fail
  refine PH.out.mono ?_
  rintro e w2 ⟨A2, c2, rfl, hc2, hm2, hown, b2⟩
  have CT := Lib.hid (rcount_p A2 c2 _ (phiL l) _ w2 (by have := Rd.ofOwn hown; rwa [ofN_len] at this) HP.out (by rw [HPL.out]; omega))
  rw [← HS.out] at CT
  rw [ofN_len]
  have HB2 : Hid (Below w.heap.size w w2) := HB0.out.trans (b2.mono HB0.out.size)
  clear hown b2 hc2 hm2 PH HS
  go_wp2_with fail
  refine CT.out.mono ?_
  rintro e w3 ⟨rfl, b3⟩
  go_wp2_with fail
  go_ret
  exact ⟨rfl, HB2.out.trans (b3.mono HB2.out.size)⟩
end Go.Proofs.Ytafgjfdbmijgcaa
