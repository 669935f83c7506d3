/- A star in a triangulation is a triangulation: mathematics. GrowNil: the walk. What maps that are answer: Rooted, Same. -/
import Derived.Test.YthdmkcnclmgdlaaZg8
import Derived.Test.YthdmkcnclmgdlaaZg11
import Derived.Test.YthdmkcnclmgdlaaZg12
import Derived.Test.YthdmkcnclmgdlaaZEGenR
import Derived.Test.YthdmkcnclmgdlaaZg2
namespace Go.Proofs.Ythdmkcnclmgdlaa
set_option maxRecDepth 20000
open Go.RowKit
set_option linter.unusedVariables false
section
variable {l b : List Nat} {v : Nat → Nat} {V : Nat}
theorem star_three (l b P : List Nat) : (starS l b P 3).1 = chordL (chordL (leafL l (P.getD 0 0)) (P.getD 1 0) (l.length + 1)) (P.getD 2 0) (l.length + 1) ∨
    P.getD 1 0 = l.length + 1 ∨ P.getD 2 0 = l.length + 1 := by
  by_cases c1 : P.getD 1 0 = l.length + 1
  · exact .inr (.inl c1)
  by_cases c2 : P.getD 2 0 = l.length + 1
  · exact .inr (.inr c2)
  left
  unfold chordL
  rw [if_neg c1, if_neg c2]
  rfl
theorem star_pts {n p q t x0 x1 x2 : Nat} {sg f1 f2 f3 : Nat → Nat} (hp : p < n) (hq : q < n) (ht : t < n) (n01 : q ≠ t) (n12 : t ≠ p) (n20 : p ≠ q) (s0 : sg p = x0) (s1 : sg q = x1) (s2 : sg t = x2)
    (a1 : f1 p = n) (a2 : f1 n = sg p) (a3 : f1 (n + 1) = n + 1) (a4 : ∀ i, i < n → i ≠ p → f1 i = sg i)
    (b1 : f2 q = n + 2) (b5 : f2 (n + 2) = f1 q) (b6 : f2 (n + 1) = n + 2 + 1) (b7 : f2 (n + 2 + 1) = f1 (n + 1)) (b4 : ∀ i, i < n + 2 → i ≠ q → i ≠ n + 1 → f2 i = f1 i)
    (c1 : f3 t = n + 2 + 2) (c5 : f3 (n + 2 + 2) = f2 t) (c6 : f3 (n + 1) = n + 2 + 2 + 1) (c7 : f3 (n + 2 + 2 + 1) = f2 (n + 1)) (c4 : ∀ i, i < n + 2 + 2 → i ≠ t → i ≠ n + 1 → f3 i = f2 i) (i : Nat) (hi : i < n + 6) :
    f3 i = if i = p then n else if i = q then n + 2 else if i = t then n + 4 else if i = n then x0 else if i = n + 2 then x1 else if i = n + 4 then x2
      else if i = n + 1 then n + 5 else if i = n + 3 then n + 1 else if i = n + 5 then n + 3 else sg i := by
  by_cases k1 : i = p
  · rw [if_pos k1, k1, c4 p (by omega) (by omega) (by omega), b4 p (by omega) (by omega) (by omega), a1]
  rw [if_neg k1]
  by_cases k2 : i = q
  · rw [if_pos k2, k2, c4 q (by omega) (by omega) (by omega), b1]
  rw [if_neg k2]
  by_cases k3 : i = t
  · rw [if_pos k3, k3, c1]
  rw [if_neg k3]
  by_cases k4 : i = n
  · rw [if_pos k4, k4, c4 n (by omega) (by omega) (by omega), b4 n (by omega) (by omega) (by omega), a2, s0]
  rw [if_neg k4]
  by_cases k5 : i = n + 2
  · rw [if_pos k5, k5, c4 (n + 2) (by omega) (by omega) (by omega), b5, a4 q hq (by omega), s1]
  rw [if_neg k5]
  by_cases k6 : i = n + 4
  · rw [if_pos k6, k6]
    show f3 (n + 2 + 2) = x2
    rw [c5, b4 t (by omega) (by omega) (by omega), a4 t ht (by omega), s2]
  rw [if_neg k6]
  by_cases k7 : i = n + 1
  · rw [if_pos k7, k7, c6]
  rw [if_neg k7]
  by_cases k8 : i = n + 3
  · rw [if_pos k8, k8, c4 (n + 3) (by omega) (by omega) (by omega)]
    show f2 (n + 2 + 1) = n + 1
    rw [b7, a3]
  rw [if_neg k8]
  by_cases k9 : i = n + 5
  · rw [if_pos k9, k9]
    show f3 (n + 2 + 2 + 1) = n + 3
    rw [c7, b6]
  have hin : i < n := by omega
  rw [if_neg k9, c4 i (by omega) k3 k7, b4 i (by omega) k2 k7, a4 i hin k1]
set_option maxHeartbeats 4000000 in
theorem star_put (T : TG l.length (sgL l) v V) (h : Inv l b) {d : Nat} (hd : d < l.length) :
    (starL l b d).length = l.length + 6 ∧ ∀ i, i < l.length + 6 → sgL (starL l b d) i = putS l.length (sgL l) d (sgL l (mt d)) (sgL l (mt (sgL l (mt d)))) i := by
  obtain ⟨o0, o1, o2, o3⟩ := tg_orb3 T h hd
  have F := T.face hd
  have A := (ahead_lt h T.ev hd).2.1
  have hP : (aheadN l b d).length = 3 := by unfold aheadN; rw [List.length_map, o0]
  have m0 := mt_ltn T.ev F.l0
  have m1 := mt_ltn T.ev F.l1
  have m2 := mt_ltn T.ev F.l2
  have hb : ∀ x y, x < l.length → sgL l x = y → b.getD y 0 = x := fun x y hx e => by rw [← e]; exact h.lb x hx
  have gP : ∀ j x, j < 3 → (orb (phiL l) d).getD j 0 = x → (aheadN l b d).getD j 0 = b.getD x 0 := fun j x hj e => by
    unfold aheadN
    rw [← e, List.getD_eq_getElem?_getD, List.getElem?_map, List.getD_eq_getElem?_getD (l := orb (phiL l) d), List.getElem?_eq_getElem (by omega)]
    rfl
  generalize hx1 : sgL l (mt d) = x1 at *
  generalize hx2 : sgL l (mt x1) = x2 at *
  have p0 : (aheadN l b d).getD 0 0 = mt x2 := (gP 0 _ (by omega) o1).trans (hb _ _ m2 (by rw [← hx2, ← hx1]; exact T.tri d hd))
  have p1 : (aheadN l b d).getD 1 0 = mt d := (gP 1 _ (by omega) o2).trans (hb _ _ m0 hx1)
  have p2 : (aheadN l b d).getD 2 0 = mt x1 := (gP 2 _ (by omega) o3).trans (hb _ _ m1 hx2)
  have n01 : mt d ≠ mt x1 := mt_injG (fun c => F.d01 (congrArg v c))
  have n12 : mt x1 ≠ mt x2 := mt_injG (fun c => F.d12 (congrArg v c))
  have n20 : mt x2 ≠ mt d := mt_injG (fun c => F.d20 (congrArg v c))
  have hs2 : sgL l (mt x2) = d := by rw [← hx2, ← hx1]; exact T.tri d hd
  have hS : starL l b d = chordL (chordL (leafL l (mt x2)) (mt d) (l.length + 1)) (mt x1) (l.length + 1) := by
    unfold starL
    rw [hP]
    rcases star_three l b (aheadN l b d) with e | e | e
    · rw [e, p0, p1, p2]
    · rw [p1] at e; omega
    · rw [p2] at e; omega
  obtain ⟨i1, l1⟩ := leaf_inv h m2
  obtain ⟨a1, a2, a3, a4⟩ := leaf_at h m2
  obtain ⟨i2, l2⟩ := chord_inv i1 (d := mt d) (e := l.length + 1) (by omega) (by omega)
  obtain ⟨b1, _, b3, b4⟩ := chord_at i1 (d := mt d) (e := l.length + 1) (by omega) (by omega)
  obtain ⟨b5, b6, b7⟩ := b3 (by omega)
  obtain ⟨_, l3⟩ := chord_inv i2 (d := mt x1) (e := l.length + 1) (by omega) (by omega)
  obtain ⟨c1, _, c3, c4⟩ := chord_at i2 (d := mt x1) (e := l.length + 1) (by omega) (by omega)
  obtain ⟨c5, c6, c7⟩ := c3 (by omega)
  rw [l1] at b1 b5 b6 b7 b4 l2
  rw [l2] at c1 c5 c6 c7 c4 l3
  rw [hS]
  exact ⟨l3, fun i hi => star_pts m2 m0 m1 n01 n12 n20 hs2 hx1 hx2 a1 a2 a3 a4 b1 b5 b6 b7 b4 c1 c5 c6 c7 c4 i hi⟩
theorem star_tg (T : TG l.length (sgL l) v V) (h : Inv l b) {d : Nat} (hd : d < l.length) :
    (starL l b d).length = l.length + 6 ∧ Inv (starL l b d) (starB l b d) ∧ ∃ v', TG (starL l b d).length (sgL (starL l b d)) v' (V + 1) := by
  obtain ⟨h1, h2⟩ := star_put T h hd
  have F := T.face hd
  have G := (T.put F).congr h2
  have I := (star_inv h (ahead_lt h T.ev hd).2.1 (aheadN l b d).length (Nat.le_refl _)).1
  exact ⟨h1, I, _, by rw [h1]; exact G⟩
/-- The last vertex has darts. -/
theorem deg_last (h : Inv l b) (hp : 0 < l.length) (hv : metB l = V + 1) : degOf l 0 (((V : Nat) : Int)) ≠ 0 := by
  have hs : (sizes l).length = V + 1 := by rw [sizes_is h, hv]
  have hz : (sizes l).length = met l l.length := by unfold sizes; rw [sizesTo_len]
  have hj' : V < (leads l l.length).length := by
    have : met l l.length = (leads l l.length).length := rfl
    omega
  obtain ⟨d, hd⟩ : ∃ d, d = (leads l l.length).getD V 0 := ⟨_, rfl⟩
  have hm : d ∈ leads l l.length := by
    rw [hd, List.getD_eq_getElem?_getD, List.getElem?_eq_getElem hj']
    exact List.getElem_mem _
  unfold leads at hm
  rw [List.mem_filter, List.mem_range, decide_eq_true_iff] at hm
  have hn : nameOf l d = V := by
    unfold nameOf
    rw [(leads_iff h hm.1).1 hm.2, hd]
    exact leads_place _ _ _ hj'
  have hc := cnt_orb h hm.1
  have h1 : (orb l d).length = per l d := by unfold orb; exact way_len _ _ _
  have h2 := (per_is h hm.1).1
  unfold degOf
  rw [if_neg (by rw [hs]; omega), if_neg (by rw [hs]; omega)]
  have e : (sizes l).getD V 0 = cntN l l.length V := by unfold sizes; exact sizesTo_get _ _ _ _ (by omega)
  show (((sizes l).getD (((V : Nat) : Int)).toNat 0 : Nat) : Int) ≠ 0
  rw [show (((V : Nat) : Int)).toNat = V from rfl, e, ← hn, hc]
  omega
end
end Go.Proofs.Ythdmkcnclmgdlaa
namespace Go.Proofs.Ythdmkcnclmgdlaa
set_option maxRecDepth 100000
open Go.RowKit
set_option linter.unusedVariables false
theorem met_sizesG {l b : List Nat} (h : Inv l b) : (sizes l).length = metB l := by rw [← met_is h]; simp [sizes, sizesTo]
set_option maxHeartbeats 4000000 in
theorem awake23_p (w : World) : Calls Try.prog 7 #[] w fun e w' => e = .returned (.bool true) ∧ Below w.heap.size w w' := by
  have SP := Lib.hid (seed_p w)
  have li := leaf_inv sd_inv (show 0 < sdL.length by decide)
  have HE : Hid ((leafL sdL 0).length / 2 = 2) := by show _ = _; rw [li.2]; rfl
  have HV : Hid ((sizes (leafL sdL 0)).length = 3) := by show _ = _; rw [met_sizesG li.1]; decide
  clear li
  go_enter Try.func7, Try.ntmps7
  go_wp2_with fail
  refine SP.out.mono ?_
  rintro e w1 ⟨g, rfl, m1, b1⟩
  have LP := Lib.hid (leaf_in g sdL sdL 0 0 0 w1 m1 sd_inv (.inr (by decide)) (by decide) (by decide))
  have B1 := Lib.hid b1
  clear m1 b1
  go_wp2_with fail
  refine LP.out.mono ?_
  rintro e w2 ⟨g2, rfl, m2, b2⟩
  have M2 := Lib.hid m2
  have B2 := Lib.hid (B1.out.trans (b2.mono B1.out.size))
  have EP : Hid (Calls Try.prog 21 #[.pointer (some ⟨g2, 0, none⟩)] w2 fun e w' => e = .returned (.int .i64 2) ∧ Below w2.heap.size w2 w') := by
    have := edges_p g2 _ _ _ _ w2 m2
    rwa [HE.out] at this
  have VP : Hid (∀ W, Below w2.heap.size w2 W → Calls Try.prog 19 #[.pointer (some ⟨g2, 0, none⟩)] W fun e w' => e = .returned (.int .i64 3) ∧ Below W.heap.size W w') := fun W m => by
    have := vertices_p g2 _ _ _ _ W (M2.out.below m)
    rw [HV.out] at this
    exact this
  clear m2 b2
  go_wp2_with fail
  refine EP.out.mono ?_
  rintro e w3 ⟨rfl, b3⟩
  have B3 := Lib.hid b3
  clear b3
  go_wp2_with fail
  refine (VP.out _ B3.out).mono ?_
  rintro e w4 ⟨rfl, b4⟩
  have F := Lib.hid (B2.out.trans ((B3.out.trans (b4.mono B3.out.size)).mono B2.out.size))
  clear b4
  go_wp2_with fail
  go_ret
  exact ⟨rfl, F.out⟩
set_option maxHeartbeats 4000000 in
theorem do_leaf (v : Option Addr) (d e : Int) (w : World) (Q : Option Addr → Int → World → Prop) (h : Calls Try.prog 31 #[.pointer v, .int .i64 d] w fun en w' => ∃ p x, en = .returned (.tuple #[.pointer p, .int .i64 x]) ∧ Q p x w') :
    Calls Try.prog 9 #[.pointer v, .int .i64 0, .int .i64 d, .int .i64 e] w fun en w' => ∃ p x, en = .returned (.tuple #[.pointer p, .int .i64 x]) ∧ Q p x w' := by
  have H := Lib.hid h
  clear h
  go_enter Try.func9, Try.ntmps9
  go_wp2_with fail
  refine H.out.mono ?_
  rintro en w1 ⟨p, x, rfl, q⟩
  have HQ := Lib.hid q
  clear q
  go_wp2_with fail
  go_ret2
  exact ⟨p, x, rfl, HQ.out⟩
set_option maxHeartbeats 4000000 in
theorem do_chord (v : Option Addr) (d e : Int) (w : World) (Q : Option Addr → Int → World → Prop) (h : Calls Try.prog 37 #[.pointer v, .int .i64 d, .int .i64 e] w fun en w' => ∃ p x, en = .returned (.tuple #[.pointer p, .int .i64 x]) ∧ Q p x w') :
    Calls Try.prog 9 #[.pointer v, .int .i64 1, .int .i64 d, .int .i64 e] w fun en w' => ∃ p x, en = .returned (.tuple #[.pointer p, .int .i64 x]) ∧ Q p x w' := by
  have H := Lib.hid h
  clear h
  go_enter Try.func9, Try.ntmps9
  go_wp2_with fail
  refine H.out.mono ?_
  rintro en w1 ⟨p, x, rfl, q⟩
  have HQ := Lib.hid q
  clear q
  go_wp2_with fail
  go_ret2
  exact ⟨p, x, rfl, HQ.out⟩
set_option maxHeartbeats 4000000 in
theorem do_split (v : Option Addr) (d e : Int) (w : World) (Q : Option Addr → Int → World → Prop) (h : Calls Try.prog 38 #[.pointer v, .int .i64 d] w fun en w' => ∃ p x, en = .returned (.tuple #[.pointer p, .int .i64 x]) ∧ Q p x w') :
    Calls Try.prog 9 #[.pointer v, .int .i64 2, .int .i64 d, .int .i64 e] w fun en w' => ∃ p x, en = .returned (.tuple #[.pointer p, .int .i64 x]) ∧ Q p x w' := by
  have H := Lib.hid h
  clear h
  go_enter Try.func9, Try.ntmps9
  go_wp2_with fail
  refine H.out.mono ?_
  rintro en w1 ⟨p, x, rfl, q⟩
  have HQ := Lib.hid q
  clear q
  go_wp2_with fail
  go_ret2
  exact ⟨p, x, rfl, HQ.out⟩
set_option maxHeartbeats 4000000 in
theorem do_star (v : Option Addr) (d e : Int) (w : World) (Q : Option Addr → Int → World → Prop) (h : Calls Try.prog 24 #[.pointer v, .int .i64 d] w fun en w' => ∃ p x, en = .returned (.tuple #[.pointer p, .int .i64 x]) ∧ Q p x w') :
    Calls Try.prog 9 #[.pointer v, .int .i64 3, .int .i64 d, .int .i64 e] w fun en w' => ∃ p x, en = .returned (.tuple #[.pointer p, .int .i64 x]) ∧ Q p x w' := by
  have H := Lib.hid h
  clear h
  go_enter Try.func9, Try.ntmps9
  go_wp2_with fail
  refine H.out.mono ?_
  rintro en w1 ⟨p, x, rfl, q⟩
  have HQ := Lib.hid q
  clear q
  go_wp2_with fail
  go_ret2
  exact ⟨p, x, rfl, HQ.out⟩
set_option maxHeartbeats 4000000 in
theorem do_flip (v : Option Addr) (d e : Int) (w : World) (Q : Option Addr → Int → World → Prop) (h : Calls Try.prog 27 #[.pointer v, .int .i64 d] w fun en w' => ∃ p x, en = .returned (.tuple #[.pointer p, .int .i64 x]) ∧ Q p x w') :
    Calls Try.prog 9 #[.pointer v, .int .i64 4, .int .i64 d, .int .i64 e] w fun en w' => ∃ p x, en = .returned (.tuple #[.pointer p, .int .i64 x]) ∧ Q p x w' := by
  have H := Lib.hid h
  clear h
  go_enter Try.func9, Try.ntmps9
  go_wp2_with fail
  refine H.out.mono ?_
  rintro en w1 ⟨p, x, rfl, q⟩
  have HQ := Lib.hid q
  clear q
  go_wp2_with fail
  go_ret2
  exact ⟨p, x, rfl, HQ.out⟩
theorem do_seed (g k : Nat) (d : Int) (w : World) (h : MapAt w g sdL sdL 0 0) (hk : k < 5) :
    Calls Try.prog 9 #[.pointer (some ⟨g, 0, none⟩), .int .i64 (k : Int), .int .i64 d, .int .i64 0] w fun en w' => ∃ p x, en = .returned (.tuple #[.pointer p, .int .i64 x]) ∧ ((x = 1 ↔ (d < 0 ∨ 1 < d)) ∧ Below w.heap.size w w') := by
  have hl : sdL.length = 2 := rfl
  have hr : RootOk 0 sdL.length := .inr (by decide)
  have hn : sdL.length ≤ 30000 := by decide
  have hn6 : sdL.length ≤ 60000 := by decide
  by_cases o : d < 0 ∨ 1 < d
  · have o2 : d < 0 ∨ (sdL.length : Int) ≤ d := by rw [hl]; omega
    have fin : ∀ (en : Ending) (w' : World), (en = .returned (.tuple #[.pointer none, .int .i64 1]) ∧ Below w.heap.size w w') → ∃ p x, en = .returned (.tuple #[.pointer p, .int .i64 x]) ∧ ((x = 1 ↔ (d < 0 ∨ 1 < d)) ∧ Below w.heap.size w w') := fun en w' ⟨q1, q2⟩ => ⟨none, 1, q1, ⟨fun _ => o, fun _ => rfl⟩, q2⟩
    have hk5 : k = 0 ∨ k = 1 ∨ k = 2 ∨ k = 3 ∨ k = 4 := by omega
    rcases hk5 with rfl | rfl | rfl | rfl | rfl
    · exact do_leaf _ _ _ _ _ ((leaf_out g sdL sdL 0 0 d w h o2).mono fun en w' q => fin en w' q)
    · exact do_chord _ _ _ _ _ ((chord_out g sdL sdL 0 0 d 0 w h (.inl o2)).mono fun en w' q => fin en w' q)
    · exact do_split _ _ _ _ _ ((split_out g sdL sdL 0 0 d w h o2).mono fun en w' q => fin en w' q)
    · exact do_star _ _ _ _ _ ((star_out g sdL sdL 0 0 d w h o2).mono fun en w' q => fin en w' q)
    · exact do_flip _ _ _ _ _ ((flip_out g sdL sdL 0 0 d w h o2).mono fun en w' q => fin en w' q)
  · obtain ⟨dn, rfl⟩ : ∃ dn : Nat, d = (dn : Int) := ⟨d.toNat, by omega⟩
    have hd : dn < sdL.length := by rw [hl]; omega
    have fin : ∀ (en : Ending) (w' : World), (∀ x : Int, x = 0 ∨ x = 8 → (∃ p, en = .returned (.tuple #[.pointer p, .int .i64 x])) → Below w.heap.size w w' → ∃ p x, en = .returned (.tuple #[.pointer p, .int .i64 x]) ∧ ((x = 1 ↔ ((dn : Int) < 0 ∨ 1 < (dn : Int))) ∧ Below w.heap.size w w')) := fun en w' x hx ⟨p, q1⟩ q2 => ⟨p, x, q1, ⟨fun c => by omega, fun c => absurd c o⟩, q2⟩
    have hk5 : k = 0 ∨ k = 1 ∨ k = 2 ∨ k = 3 ∨ k = 4 := by omega
    rcases hk5 with rfl | rfl | rfl | rfl | rfl
    · exact do_leaf _ _ _ _ _ ((leaf_in g sdL sdL 0 0 dn w h sd_inv hr hd hn6).mono fun en w' ⟨g', q1, q2, q3⟩ => fin en w' 0 (.inl rfl) ⟨_, q1⟩ q3)
    · by_cases c : nameOf (phiL sdL) (sdL.getD dn 0) = nameOf (phiL sdL) (sdL.getD 0 0)
      · exact do_chord _ _ _ _ _ ((chord_in g sdL sdL 0 0 dn 0 w h sd_inv hr hd (by decide) hn6 c).mono fun en w' ⟨g', q1, q2, q3⟩ => fin en w' 0 (.inl rfl) ⟨_, q1⟩ q3)
      · exact do_chord _ _ _ _ _ ((chord_two g sdL sdL 0 0 dn 0 w h sd_inv hr hd (by decide) hn6 c).mono fun en w' ⟨q1, q3⟩ => fin en w' 8 (.inr rfl) ⟨_, q1⟩ q3)
    · exact do_split _ _ _ _ _ ((split_in g sdL sdL 0 0 dn w h sd_inv hr hd hn6).mono fun en w' ⟨g', q1, q2, q3⟩ => fin en w' 0 (.inl rfl) ⟨_, q1⟩ q3)
    · exact do_star _ _ _ _ _ ((star_in g sdL sdL 0 0 dn w h sd_inv hr hd hn).mono fun en w' ⟨g', q1, q2, q3⟩ => fin en w' 0 (.inl rfl) ⟨_, q1⟩ q3)
    · by_cases c : Flips sdL dn
      · exact do_flip _ _ _ _ _ ((flip_in g sdL sdL 0 0 dn w h sd_inv hr hd hn6 c).mono fun en w' ⟨g', q1, q2, q3⟩ => fin en w' 0 (.inl rfl) ⟨_, q1⟩ q3)
      · exact do_flip _ _ _ _ _ ((flip_no g sdL sdL 0 0 dn w h hd c).mono fun en w' ⟨q1, q3⟩ => fin en w' 8 (.inr rfl) ⟨_, q1⟩ q3)
theorem do_nil (k : Nat) (w : World) (hk : k < 5) :
    Calls Try.prog 9 #[.pointer none, .int .i64 (k : Int), .int .i64 0, .int .i64 0] w fun en w' => ∃ p x, en = .returned (.tuple #[.pointer p, .int .i64 x]) ∧ (x = 2 ∧ Below w.heap.size w w') := by
  have fin : ∀ (en : Ending) (w' : World), (en = .returned (.tuple #[.pointer none, .int .i64 2]) ∧ Below w.heap.size w w') → ∃ p x, en = .returned (.tuple #[.pointer p, .int .i64 x]) ∧ (x = 2 ∧ Below w.heap.size w w') := fun en w' ⟨q1, q2⟩ => ⟨none, 2, q1, rfl, q2⟩
  have hk5 : k = 0 ∨ k = 1 ∨ k = 2 ∨ k = 3 ∨ k = 4 := by omega
  rcases hk5 with rfl | rfl | rfl | rfl | rfl
  · exact do_leaf _ _ _ _ _ ((leaf_nil 0 w).mono fun en w' q => fin en w' q)
  · exact do_chord _ _ _ _ _ ((chord_nil 0 0 w).mono fun en w' q => fin en w' q)
  · exact do_split _ _ _ _ _ ((split_nil 0 w).mono fun en w' q => fin en w' q)
  · exact do_star _ _ _ _ _ ((star_nil 0 w).mono fun en w' q => fin en w' q)
  · exact do_flip _ _ _ _ _ ((flip_nil 0 w).mono fun en w' q => fin en w' q)
end Go.Proofs.Ythdmkcnclmgdlaa
namespace Go.Proofs.Ythdmkcnclmgdlaa
set_option maxRecDepth 20000
open Go.RowKit
set_option linter.unusedVariables false

set_option maxHeartbeats 1000000 in
theorem dsame_p (g g' : Nat) (l b l' b' : List Nat) (root lone root' lone' : Int) (w : World) (h : MapAt w g l b root lone) (k : MapAt w g' l' b' root' lone') :
    Calls Try.prog 28 #[.pointer (some ⟨g, 0, none⟩), .pointer (some ⟨g', 0, none⟩)] w fun e w' => e = .returned (.bool (decide (root = root' ∧ lone = lone' ∧ l = l'))) ∧ Below w.heap.size w w' := by
  obtain ⟨_, _, p, A, c, S, d, q, A', c', S', d', hb, hp, _⟩ := h
  obtain ⟨_, _, p2, A2, c2, S2, d2, q2, A2', c2', S2', d2', hb2, hp2, _⟩ := k
  have SM : Hid (∀ j, Calls Try.prog 73 #[.pointer (some ⟨p, 0, none⟩), .pointer (some ⟨p2, 0, none⟩)] (w.drewN j) fun e w' => e = .returned (.bool (decide (l = l'))) ∧ ∃ m, w' = (w.drewN j).drewN m) := fun j =>
    same_pp p p2 l b l' b' _ (hp.drewN j) (hp2.drewN j)
  have n0 := hb.cell 0
  have n6 := hb.cell 6
  have n7 := hb.cell 7
  have m0 := hb2.cell 0
  have m6 := hb2.cell 6
  have m7 := hb2.cell 7
  simp at n0 n6 n7 m0 m6 m7
  clear hb hb2 hp hp2
  have DN : Hid (∀ j, Below w.heap.size w (w.drewN j)) := fun j => below_draws (Below.refl _ _) j
  by_cases hr : root = root'
  · subst hr
    by_cases hl : lone = lone'
    · subst hl
      have HD : Hid (decide (root = root ∧ lone = lone ∧ l = l') = decide (l = l')) := by show _ = _; simp
      rw [HD.out]
      clear HD
      generalize decide (l = l') = res at *
      go_enter Try.func28, Try.ntmps28
      go_wp2_with fail
      go_quiet ((go_at_call 73; exact Calls.quiet_of (SM.out _)))
      go_wp2
      go_ret
      exact ⟨rfl, DN.out _⟩
    · have HD : Hid (decide (root = root ∧ lone = lone' ∧ l = l') = false) := by show _ = _; simp [hl]
      rw [HD.out]
      have h1 : (lone == lone') = false := by rw [beq_eq_false_iff_ne]; exact hl
      clear HD hl SM
      go_enter Try.func28, Try.ntmps28
      go_wp2_with fail
      go_quiet (fail)
      go_wp2
      go_ret
      exact ⟨rfl, DN.out _⟩
  · have HD : Hid (decide (root = root' ∧ lone = lone' ∧ l = l') = false) := by show _ = _; simp [hr]
    rw [HD.out]
    have h1 : (root == root') = false := by rw [beq_eq_false_iff_ne]; exact hr
    clear HD hr SM
    go_enter Try.func28, Try.ntmps28
    go_wp2_with fail
    go_quiet (fail)
    go_wp2
    go_ret
    exact ⟨rfl, DN.out _⟩
theorem dsame_nil1 (g : Nat) (l b : List Nat) (root lone : Int) (w : World) :
    Calls Try.prog 28 #[.pointer (some ⟨g, 0, none⟩), .pointer none] w fun e w' => e = .returned (.bool false) ∧ Below w.heap.size w w' := by
  go_enter Try.func28, Try.ntmps28
  go_wp2
  go_ret
  exact ⟨rfl, Below.refl _ _⟩
theorem dsame_nil (w : World) :
    Calls Try.prog 28 #[.pointer none, .pointer none] w fun e w' => e = .returned (.bool true) ∧ Below w.heap.size w w' := by
  go_enter Try.func28, Try.ntmps28
  go_wp2
  go_ret
  exact ⟨rfl, Below.refl _ _⟩
end Go.Proofs.Ythdmkcnclmgdlaa
