/- Star and Seed of the program. GrowNil: the walk. What grows, and is shrunk or cut away again: contracts. -/
import Derived.Test.YthdmkcnclmgdlaaZg15
import Derived.Test.YthdmkcnclmgdlaaZEGenR
import Derived.Test.YthdmkcnclmgdlaaZg18
namespace Go.Proofs.Ythdmkcnclmgdlaa
set_option maxRecDepth 100000
open Go.RowKit
set_option linter.unusedVariables false
def sdL : List Nat := [0, 1]
theorem sd_inv : Inv sdL sdL := by
  refine ⟨rfl, ?_, ?_, ?_, ?_⟩ <;> (intro i hi; have : i = 0 ∨ i = 1 := by (simp [sdL] at hi; omega)); all_goals (rcases this with rfl | rfl <;> decide)
set_option maxHeartbeats 4000000 in
theorem seed_p (w : World) : Calls Try.prog 32 #[] w fun en w' => ∃ g', en = .returned (.pointer (some ⟨g', 0, none⟩)) ∧ MapAt w' g' sdL sdL 0 0 ∧ Below w.heap.size w w' := by
  have r1 : Rd (w.alloc (.cells #[.int .i64 0, .int .i64 1] 3)) (w.alloc (.cells #[.int .i64 0, .int .i64 1] 3)).heap.size (some ⟨w.heap.size, 0, none⟩) 2 (I64 (ofN sdL)) := (Rd.new w 3 #[.int .i64 0, .int .i64 1] 2 _ (by simp [I64, ofN, sdL]) (by simp)).up (by simp)
  have N1 := Lib.hid (new_ok _ 2 2 sdL sdL 0 0 _ r1 sd_inv (by decide) (by omega) (.inr (by omega)) (by omega) (by omega))
  have HB := Lib.hid ((Below.refl w.heap.size w).alloc (Nat.le_refl _) (.cells #[.int .i64 0, .int .i64 1] 3))
  clear r1
  go_enter Try.func32, Try.ntmps32
  go_wp2_with fail
  refine N1.out.mono ?_
  rintro e w1 ⟨g9, rfl, m9, b9, lo9⟩
  have F := Lib.hid (And.intro m9 (HB.out.trans (b9.mono HB.out.size)))
  clear m9 b9 lo9
  go_wp2_with fail
  go_ret
  exact ⟨g9, rfl, F.out.1, F.out.2⟩
end Go.Proofs.Ythdmkcnclmgdlaa
namespace Go.Proofs.Ythdmkcnclmgdlaa
set_option maxRecDepth 100000
open Go.RowKit
set_option linter.unusedVariables false
theorem met_sizesG {l b : List Nat} (h : Inv l b) : (sizes l).length = metB l := by rw [← met_is h]; simp [sizes, sizesTo]
set_option maxHeartbeats 4000000 in
theorem awake23_p (w : World) : Calls Try.prog 7 #[] w fun e w' => e = .returned (.bool true) ∧ Below w.heap.size w w' := by
  have SP := Lib.hid (seed_p w)
  have li := leaf_inv sd_inv (show 0 < sdL.length by decide)
  have HE : Hid ((leafL sdL 0).length / 2 = 2) := by show _ = _; rw [li.2]; rfl
  have HV : Hid ((sizes (leafL sdL 0)).length = 3) := by show _ = _; rw [met_sizesG li.1]; decide
  clear li
  go_enter Try.func7, Try.ntmps7
  go_wp2_with fail
  refine SP.out.mono ?_
  rintro e w1 ⟨g, rfl, m1, b1⟩
  have LP := Lib.hid (leaf_in g sdL sdL 0 0 0 w1 m1 sd_inv (.inr (by decide)) (by decide) (by decide))
  have B1 := Lib.hid b1
  clear m1 b1
  go_wp2_with fail
  refine LP.out.mono ?_
  rintro e w2 ⟨g2, rfl, m2, b2⟩
  have M2 := Lib.hid m2
  have B2 := Lib.hid (B1.out.trans (b2.mono B1.out.size))
  have EP : Hid (Calls Try.prog 21 #[.pointer (some ⟨g2, 0, none⟩)] w2 fun e w' => e = .returned (.int .i64 2) ∧ Below w2.heap.size w2 w') := by
    have := edges_p g2 _ _ _ _ w2 m2
    rwa [HE.out] at this
  have VP : Hid (∀ W, Below w2.heap.size w2 W → Calls Try.prog 19 #[.pointer (some ⟨g2, 0, none⟩)] W fun e w' => e = .returned (.int .i64 3) ∧ Below W.heap.size W w') := fun W m => by
    have := vertices_p g2 _ _ _ _ W (M2.out.below m)
    rw [HV.out] at this
    exact this
  clear m2 b2
  go_wp2_with fail
  refine EP.out.mono ?_
  rintro e w3 ⟨rfl, b3⟩
  have B3 := Lib.hid b3
  clear b3
  go_wp2_with fail
  refine (VP.out _ B3.out).mono ?_
  rintro e w4 ⟨rfl, b4⟩
  have F := Lib.hid (B2.out.trans ((B3.out.trans (b4.mono B3.out.size)).mono B2.out.size))
  clear b4
  go_wp2_with fail
  go_ret
  exact ⟨rfl, F.out⟩
set_option maxHeartbeats 4000000 in
theorem do_leaf (v : Option Addr) (d e : Int) (w : World) (Q : Option Addr → Int → World → Prop) (h : Calls Try.prog 31 #[.pointer v, .int .i64 d] w fun en w' => ∃ p x, en = .returned (.tuple #[.pointer p, .int .i64 x]) ∧ Q p x w') :
    Calls Try.prog 9 #[.pointer v, .int .i64 0, .int .i64 d, .int .i64 e] w fun en w' => ∃ p x, en = .returned (.tuple #[.pointer p, .int .i64 x]) ∧ Q p x w' := by
  have H := Lib.hid h
  clear h
  go_enter Try.func9, Try.ntmps9
  go_wp2_with fail
  refine H.out.mono ?_
  rintro en w1 ⟨p, x, rfl, q⟩
  have HQ := Lib.hid q
  clear q
  go_wp2_with fail
  go_ret2
  exact ⟨p, x, rfl, HQ.out⟩
set_option maxHeartbeats 4000000 in
theorem do_chord (v : Option Addr) (d e : Int) (w : World) (Q : Option Addr → Int → World → Prop) (h : Calls Try.prog 37 #[.pointer v, .int .i64 d, .int .i64 e] w fun en w' => ∃ p x, en = .returned (.tuple #[.pointer p, .int .i64 x]) ∧ Q p x w') :
    Calls Try.prog 9 #[.pointer v, .int .i64 1, .int .i64 d, .int .i64 e] w fun en w' => ∃ p x, en = .returned (.tuple #[.pointer p, .int .i64 x]) ∧ Q p x w' := by
  have H := Lib.hid h
  clear h
  go_enter Try.func9, Try.ntmps9
  go_wp2_with fail
  refine H.out.mono ?_
  rintro en w1 ⟨p, x, rfl, q⟩
  have HQ := Lib.hid q
  clear q
  go_wp2_with fail
  go_ret2
  exact ⟨p, x, rfl, HQ.out⟩
set_option maxHeartbeats 4000000 in
theorem do_split (v : Option Addr) (d e : Int) (w : World) (Q : Option Addr → Int → World → Prop) (h : Calls Try.prog 38 #[.pointer v, .int .i64 d] w fun en w' => ∃ p x, en = .returned (.tuple #[.pointer p, .int .i64 x]) ∧ Q p x w') :
    Calls Try.prog 9 #[.pointer v, .int .i64 2, .int .i64 d, .int .i64 e] w fun en w' => ∃ p x, en = .returned (.tuple #[.pointer p, .int .i64 x]) ∧ Q p x w' := by
  have H := Lib.hid h
  clear h
  go_enter Try.func9, Try.ntmps9
  go_wp2_with fail
  refine H.out.mono ?_
  rintro en w1 ⟨p, x, rfl, q⟩
  have HQ := Lib.hid q
  clear q
  go_wp2_with fail
  go_ret2
  exact ⟨p, x, rfl, HQ.out⟩
end Go.Proofs.Ythdmkcnclmgdlaa
namespace Go.Proofs.Ythdmkcnclmgdlaa
set_option maxRecDepth 100000
open Go.RowKit
set_option linter.unusedVariables false
/-- The map o grew of l. -/
structure GB (k : Nat) (l o ob : List Nat) : Prop where
  inv : Inv o ob
  len : o.length = l.length + 2
  shr : k ≠ 1 → woN o (phiL o) (l.length / 2) = l ∧ nameOf o l.length ≠ nameOf o (l.length + 1) ∧ ¬ bothA o (l.length / 2)
  cut : k = 1 → woN o o (l.length / 2) = l ∧ ∀ lone : Int, 0 ≤ lone → zerTo (besN o lone (l.length / 2)) (besN o lone (l.length / 2)).length = 0
def GrowP (k : Nat) (l : List Nat) (root lone : Int) (w : World) (en : Ending) (w' : World) : Prop :=
  (∃ g' o ob, en = .returned (.tuple #[.pointer (some ⟨g', 0, none⟩), .int .i64 0]) ∧ MapAt w' g' o ob root lone ∧ GB k l o ob ∧ Below w.heap.size w w') ∨ (k = 1 ∧ en = .returned (.tuple #[.pointer none, .int .i64 8]) ∧ Below w.heap.size w w')
theorem grow_do (k g : Nat) (l b : List Nat) (root lone : Int) (d e : Nat) (w : World) (h : MapAt w g l b root lone) (hi : Inv l b) (hr : RootOk root l.length) (hk : k < 3) (hd : d < l.length) (he : e < l.length) (hn : l.length ≤ 60000) :
    Calls Try.prog 9 #[.pointer (some ⟨g, 0, none⟩), .int .i64 (k : Int), .int .i64 (d : Int), .int .i64 (e : Int)] w (GrowP k l root lone w) := by
  have hev := h.1.1
  have fin : ∀ en w', (∃ p x, en = .returned (.tuple #[.pointer p, .int .i64 x]) ∧ ((∃ g' o ob, p = some ⟨g', 0, none⟩ ∧ x = 0 ∧ MapAt w' g' o ob root lone ∧ GB k l o ob ∧ Below w.heap.size w w') ∨ (k = 1 ∧ p = none ∧ x = 8 ∧ Below w.heap.size w w'))) → GrowP k l root lone w en w' := by
    rintro en w' ⟨p, x, rfl, ⟨g', o, ob, rfl, rfl, h1, h2, h3⟩ | ⟨h0, rfl, rfl, h3⟩⟩
    · exact .inl ⟨g', o, ob, rfl, h1, h2, h3⟩
    · exact .inr ⟨h0, rfl, h3⟩
  have hk3 : k = 0 ∨ k = 1 ∨ k = 2 := by omega
  rcases hk3 with rfl | rfl | rfl
  · refine (do_leaf _ _ _ _ (fun p x w' => (∃ g' o ob, p = some ⟨g', 0, none⟩ ∧ x = 0 ∧ MapAt w' g' o ob root lone ∧ GB 0 l o ob ∧ Below w.heap.size w w') ∨ (0 = 1 ∧ p = none ∧ x = 8 ∧ Below w.heap.size w w')) ?_).mono fin
    refine (leaf_in g l b root lone d w h hi hr hd hn).mono ?_
    rintro en w' ⟨g', rfl, q2, q3⟩
    obtain ⟨i1, i2⟩ := leaf_inv hi hd
    exact ⟨_, _, rfl, .inl ⟨g', _, _, rfl, rfl, q2, ⟨i1, i2, fun _ => leaf_back hi hev hd, fun c => by omega⟩, q3⟩⟩
  · refine (do_chord _ _ _ _ (fun p x w' => (∃ g' o ob, p = some ⟨g', 0, none⟩ ∧ x = 0 ∧ MapAt w' g' o ob root lone ∧ GB 1 l o ob ∧ Below w.heap.size w w') ∨ (1 = 1 ∧ p = none ∧ x = 8 ∧ Below w.heap.size w w')) ?_).mono fin
    by_cases c : nameOf (phiL l) (l.getD d 0) = nameOf (phiL l) (l.getD e 0)
    · refine (chord_in g l b root lone d e w h hi hr hd he hn c).mono ?_
      rintro en w' ⟨g', rfl, q2, q3⟩
      obtain ⟨i1, i2⟩ := chord_inv hi hd he
      exact ⟨_, _, rfl, .inl ⟨g', _, _, rfl, rfl, q2, ⟨i1, i2, fun c => absurd rfl c, fun _ => ⟨chord_back hi hev hd he, fun lone hl => chord_zer hi hev hd he lone hl⟩⟩, q3⟩⟩
    · refine (chord_two g l b root lone d e w h hi hr hd he hn c).mono ?_
      rintro en w' ⟨rfl, q3⟩
      exact ⟨_, _, rfl, .inr ⟨rfl, rfl, rfl, q3⟩⟩
  · refine (do_split _ _ _ _ (fun p x w' => (∃ g' o ob, p = some ⟨g', 0, none⟩ ∧ x = 0 ∧ MapAt w' g' o ob root lone ∧ GB 2 l o ob ∧ Below w.heap.size w w') ∨ (2 = 1 ∧ p = none ∧ x = 8 ∧ Below w.heap.size w w')) ?_).mono fin
    refine (split_in g l b root lone d w h hi hr hd hn).mono ?_
    rintro en w' ⟨g', rfl, q2, q3⟩
    obtain ⟨i1, i2⟩ := split_inv hi hev hd
    exact ⟨_, _, rfl, .inl ⟨g', _, _, rfl, rfl, q2, ⟨i1, i2, fun _ => split_back hi hev hd, fun c => by omega⟩, q3⟩⟩
theorem shrink_k (k g r : Nat) (l o ob : List Nat) (lone : Int) (w : World) (G : GB k l o ob) (h : MapAt w g o ob (r : Int) lone) (hr : r < l.length) (hev : l.length % 2 = 0) (hl0 : 0 ≤ lone) (hl1 : lone ≤ 60000) :
    Calls Try.prog 29 #[.pointer (some ⟨g, 0, none⟩), .int .i64 ((l.length / 2 : Nat) : Int)] w fun en w' => ∃ p x, en = .returned (.tuple #[.pointer p, .int .i64 x]) ∧ (k ≠ 1 → x = 0 ∧ ∃ g' b', p = some ⟨g', 0, none⟩ ∧ MapAt w' g' l b' (r : Int) lone) ∧ Below w.heap.size w w' := by
  have e2 : 2 * (l.length / 2) = l.length := by omega
  have hlen := G.len
  by_cases c : nameOf o (2 * (l.length / 2)) = nameOf o (2 * (l.length / 2) + 1)
  · refine (shrink_loop g o ob r lone (l.length / 2) w h (by omega) c).mono ?_
    rintro en w' ⟨rfl, q⟩
    refine ⟨_, _, rfl, fun hk => ?_, q⟩
    have := (G.shr hk).2.1
    rw [e2] at c
    exact absurd c this
  · refine (shrink_p g o ob r (l.length / 2) lone w h G.inv (by omega) (by omega) hl0 hl1 c).mono ?_
    rintro en w' ⟨b', hb', g', rfl, q1, q2, _⟩
    refine ⟨_, _, rfl, fun hk => ⟨rfl, g', b', rfl, ?_⟩, q2⟩
    obtain ⟨z1, z2, z3⟩ := G.shr hk
    rw [z1, heir_last hev hr, if_neg (fun q => z3 ((both_deg G.inv lone hl0 (by omega)).1 q)), Int.add_zero] at q1
    exact q1
theorem cut_k (g r : Nat) (l o ob : List Nat) (lone : Int) (w : World) (G : GB 1 l o ob) (h : MapAt w g o ob (r : Int) lone) (hr : r < l.length) (hev : l.length % 2 = 0) (hl0 : 0 ≤ lone) (hl1 : lone ≤ 60000) :
    Calls Try.prog 30 #[.pointer (some ⟨g, 0, none⟩), .int .i64 ((l.length / 2 : Nat) : Int)] w fun en w' => ∃ g' b', en = .returned (.tuple #[.pointer (some ⟨g', 0, none⟩), .int .i64 0]) ∧ MapAt w' g' l b' (r : Int) lone ∧ Below w.heap.size w w' := by
  have hlen := G.len
  refine (cut_p g o ob r (l.length / 2) lone w h G.inv (by omega) (by omega) hl0 hl1).mono ?_
  rintro en w' ⟨b', hb', g', rfl, q1, q2, _⟩
  obtain ⟨z1, z2⟩ := G.cut rfl
  refine ⟨g', b', rfl, ?_, q2⟩
  rw [z1, heir_last hev hr, z2 lone hl0] at q1
  simpa using q1
end Go.Proofs.Ythdmkcnclmgdlaa
