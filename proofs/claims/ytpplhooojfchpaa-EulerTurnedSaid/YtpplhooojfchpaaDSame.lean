/- What maps that are answer: Rooted, Same. -/
import Derived.Test.YtpplhooojfchpaaDPhi
namespace Go.Proofs.Ytpplhooojfchpaa
set_option maxRecDepth 20000
open Go.RowKit
set_option linter.unusedVariables false

theorem rooted_out (g : Nat) (l b : List Nat) (root lone d : Int) (w : World) (h : MapAt w g l b root lone) (hd : d < 0 ∨ (l.length : Int) ≤ d) :
    Calls Try.prog 33 #[.pointer (some ⟨g, 0, none⟩), .int .i64 d] w fun e w' => e = .returned (.tuple #[.pointer none, .int .i64 5]) ∧ Below w.heap.size w w' := by
  have DS := Lib.hid (darts_p g l b root lone w h)
  clear h
  by_cases h0 : d < 0
  · go_enter Try.func33, Try.ntmps33
    go_wp2_with fail
    go_ret2
    exact ⟨rfl, Below.refl _ _⟩
  · have h1 : (l.length : Int) ≤ d := by omega
    clear hd
    go_enter Try.func33, Try.ntmps33
    go_wp2_with fail
    refine DS.out.mono ?_
    rintro e w1 ⟨rfl, b1⟩
    go_wp2_with fail
    go_ret2
    exact ⟨rfl, b1⟩
set_option maxHeartbeats 1000000 in
theorem rooted_in (g : Nat) (l b : List Nat) (root lone : Int) (d : Nat) (w : World) (h : MapAt w g l b root lone) (hd : d < l.length) :
    Calls Try.prog 33 #[.pointer (some ⟨g, 0, none⟩), .int .i64 (d : Int)] w fun e w' => ∃ g', e = .returned (.tuple #[.pointer (some ⟨g', 0, none⟩), .int .i64 0]) ∧ MapAt w' g' l b (d : Int) lone ∧ Below w.heap.size w w' := by
  have DS := Lib.hid (darts_p g l b root lone w h)
  have H := Lib.hid h
  have hlt : ¬ (l.length : Int) ≤ (d : Int) := by omega
  clear h
  go_enter Try.func33, Try.ntmps33
  go_wp2_with fail
  refine DS.out.mono ?_
  rintro e w1 ⟨rfl, b1⟩
  obtain ⟨h1, h2, p, A, c, S, k, q, A', c', S', k', hb, hp, hq, r1, r2, r3, r4⟩ := H.out.below b1
  have n0 := hb.cell 0
  have n1 := hb.cell 1
  have n2 := hb.cell 2
  have n3 := hb.cell 3
  have n4 := hb.cell 4
  have n5 := hb.cell 5
  have n6 := hb.cell 6
  have n7 := hb.cell 7
  have hgl := hb.lt
  simp at n0 n1 n2 n3 n4 n5 n6 n7
  have HP := Lib.hid hp
  have HQ := Lib.hid hq
  have R1 := Lib.hid r1
  have R2 := Lib.hid r2
  have R3 := Lib.hid r3
  have R4 := Lib.hid r4
  have H12 := Lib.hid (And.intro h1 h2)
  clear hb hp hq r1 r2 r3 r4 h1 h2
  go_wp2_with fail
  go_region
  all_goals go_wp2_with fail
  go_ret2
  have hb := (Below.refl w1.heap.size w1).alloc (Nat.le_refl _) (.cells #[.pointer (some ⟨p, 0, none⟩), .slice A l.length c, .slice S (sizes l).length k, .pointer (some ⟨q, 0, none⟩), .slice A' l.length c', .slice S' (sizes (phiL l)).length k', .int .i64 (d : Int), .int .i64 lone] 64)
  have hb2 := hb.drew
  exact ⟨w1.heap.size, rfl, ⟨H12.out.1, H12.out.2, p, A, c, S, k, q, A', c', S', k', (Blk.new w1 _ _).drewN 1, HP.out.below hb2, HQ.out.below hb2, R1.out.more hb2, R2.out.more hb2, R3.out.more hb2, R4.out.more hb2⟩, b1.trans (hb2.mono b1.size)⟩
end Go.Proofs.Ytpplhooojfchpaa
