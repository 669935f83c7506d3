/- A map without an edge: what stands beside it, the root's heir. -/
import Derived.Test.YthbhbcakiaaapaaUAwake
namespace Go.Proofs.Ythbhbcakiaaapaa
set_option maxRecDepth 20000
open Go.RowKit
set_option linter.unusedVariables false
theorem isOf_t (d e : Nat) (w : World) (h : d / 2 = e) (hd : d ≤ 1000000) :
    Calls Try.prog 76 #[.int .i64 (d : Int), .int .i64 (e : Int)] w fun en w' => en = .returned (.bool true) ∧ w = w' := by
  have h2 : (d : Int) / 2 = (e : Int) := by omega
  go_enter Try.func76, Try.ntmps76
  go_wp2_with fail
  go_ret
  exact ⟨rfl, rfl⟩
theorem isOf_f (d e : Nat) (w : World) (h : d / 2 ≠ e) (hd : d ≤ 1000000) :
    Calls Try.prog 76 #[.int .i64 (d : Int), .int .i64 (e : Int)] w fun en w' => en = .returned (.bool false) ∧ w = w' := by
  obtain ⟨x, hx⟩ : ∃ x, x = d / 2 := ⟨_, rfl⟩
  have h2 : (d : Int) / 2 = (x : Int) := by omega
  have h3 : ((x : Int) == (e : Int)) = false := by rw [beq_eq_false_iff_ne]; omega
  have h4 : ¬ x = e := by omega
  have h5 : (x == e) = false := by rw [beq_eq_false_iff_ne]; exact h4
  clear h hx
  go_enter Try.func76, Try.ntmps76
  go_wp2_with fail
  go_ret
  exact ⟨rfl, rfl⟩
/-- What a dart is called without the edge e. -/
def calN (e d : Nat) : Nat := if e < d / 2 then d - 2 else d
theorem called_p (d e : Nat) (w : World) (hd : d ≤ 1000000) :
    Calls Try.prog 77 #[.int .i64 (d : Int), .int .i64 (e : Int)] w fun en w' => en = .returned (.int .i64 ((calN e d : Nat) : Int)) ∧ w = w' := by
  obtain ⟨x, hx⟩ : ∃ x, x = d / 2 := ⟨_, rfl⟩
  have h2 : (d : Int) / 2 = (x : Int) := by omega
  by_cases h : e < x
  · have HC : Hid (((calN e d : Nat) : Int) = (d : Int) - 2) := by show _ = _; unfold calN; rw [← hx, if_pos h]; omega
    have h3 : (e : Int) < (x : Int) := by omega
    have h4 : IntKind.i64.wrap ((d : Int) - 2) = (d : Int) - 2 := by simp [IntKind.wrap, IntKind.signed, IntKind.bits]; omega
    clear hx
    go_enter Try.func77, Try.ntmps77
    go_wp2_with fail
    go_ret
    exact ⟨by rw [HC.out]; rfl, rfl⟩
  · have HC : Hid (((calN e d : Nat) : Int) = (d : Int)) := by show _ = _; unfold calN; rw [← hx, if_neg h]
    have h3 : ¬ (e : Int) < (x : Int) := by omega
    have h4 : decide (e < x) = false := by simpa using h
    clear hx
    go_enter Try.func77, Try.ntmps77
    go_wp2_with fail
    go_ret
    exact ⟨by rw [HC.out]; rfl, rfl⟩
def lastN (n : Nat) : Int := if n / 2 = 1 then -1 else 0
/-- The root without the edge e. -/
def heirN (l b : List Nat) (r e : Nat) : Int :=
  if r / 2 ≠ e then ((calN e r : Nat) : Int)
  else if b.getD r 0 = r then lastN l.length
  else if b.getD r 0 / 2 ≠ e then ((calN e (b.getD r 0) : Nat) : Int)
  else if b.getD (b.getD r 0) 0 = r then lastN l.length
  else ((calN e (b.getD (b.getD r 0) 0) : Nat) : Int)
set_option maxHeartbeats 4000000 in
theorem heir_p (g : Nat) (l b : List Nat) (r e : Nat) (lone : Int) (w : World) (h : MapAt w g l b (r : Int) lone) (hi : Inv l b) (hr : r < l.length) (he : e < l.length / 2) :
    Calls Try.prog 78 #[.pointer (some ⟨g, 0, none⟩), .int .i64 (e : Int)] w fun en w' => en = .returned (.int .i64 (heirN l b r e)) ∧ Below w.heap.size w w' := by
  have hln := h.2.1
  have R0 : Hid (∀ W, Below w.heap.size w W → Calls Try.prog 29 #[.pointer (some ⟨g, 0, none⟩)] W fun e w' => e = .returned (.int .i64 (r : Int)) ∧ W = w') := fun W m => root_p g l b r lone W (h.below m)
  have K0 : Hid (∀ k, k < l.length → ∀ W, Below w.heap.size w W → Calls Try.prog 46 #[.pointer (some ⟨g, 0, none⟩), .int .i64 (k : Int)] W fun e w' => e = .returned (.int .i64 ((b.getD k 0 : Nat) : Int)) ∧ Below W.heap.size W w') := fun k hk W m => mback_in g l b r lone k W (h.below m) hk
  have E0 : Hid (∀ W, Below w.heap.size w W → Calls Try.prog 25 #[.pointer (some ⟨g, 0, none⟩)] W fun e w' => e = .returned (.int .i64 ((l.length / 2 : Nat) : Int)) ∧ Below W.heap.size W w') := fun W m => edges_p g l b r lone W (h.below m)
  have IT : Hid (∀ (d : Nat) (W : World), d / 2 = e → d ≤ 1000000 → Calls Try.prog 76 #[.int .i64 (d : Int), .int .i64 (e : Int)] W fun en w' => en = .returned (.bool true) ∧ W = w') := fun d W h1 h2 => isOf_t d e W h1 h2
  have IF : Hid (∀ (d : Nat) (W : World), d / 2 ≠ e → d ≤ 1000000 → Calls Try.prog 76 #[.int .i64 (d : Int), .int .i64 (e : Int)] W fun en w' => en = .returned (.bool false) ∧ W = w') := fun d W h1 h2 => isOf_f d e W h1 h2
  have CP : Hid (∀ (d : Nat) (W : World), d ≤ 1000000 → Calls Try.prog 77 #[.int .i64 (d : Int), .int .i64 (e : Int)] W fun en w' => en = .returned (.int .i64 ((calN e d : Nat) : Int)) ∧ W = w') := fun d W h2 => called_p d e W h2
  have Z0 := Below.refl w.heap.size w
  obtain ⟨x, hx⟩ : ∃ x, x = b.getD r 0 := ⟨_, rfl⟩
  obtain ⟨y, hy⟩ : ∃ y, y = b.getD x 0 := ⟨_, rfl⟩
  have hxl : x < l.length := by rw [hx]; have := hi.symm.lt r (by rw [hi.len]; exact hr); rwa [hi.len] at this
  have hyl : y < l.length := by rw [hy]; have := hi.symm.lt x (by rw [hi.len]; exact hxl); rwa [hi.len] at this
  have hyx : x ≠ r → y ≠ x := fun c q => c (hi.symm.inj x r (by rw [hi.len]; exact hxl) (by rw [hi.len]; exact hr) (by rw [← hy, ← hx]; exact q))
  have HX := Lib.hid hx
  have HY := Lib.hid hy
  obtain ⟨m, hm⟩ : ∃ m, m = l.length / 2 := ⟨_, rfl⟩
  have HMM := Lib.hid hm
  rw [← hm] at E0
  have HN : Hid (heirN l b r e = if r / 2 ≠ e then ((calN e r : Nat) : Int) else if x = r then lastN l.length else if x / 2 ≠ e then ((calN e x : Nat) : Int) else if y = r then lastN l.length else ((calN e y : Nat) : Int)) := by
    show _ = _; unfold heirN; rw [← hx, ← hy]
  have HL : Hid (lastN l.length = if m = 1 then -1 else 0) := by show _ = _; unfold lastN; rw [hm]
  have hm1 : m ≤ 1000000 := by omega
  clear h hi hx hy hm
  generalize heirN l b r e = RES at *
  go_enter Try.func78, Try.ntmps78
  go_wp2_with fail
  refine (R0.out _ Z0).mono ?_
  rintro en w' ⟨rfl, rfl⟩
  go_wp2_with fail
  go_loopw [5] (fun s wr => ∃ d : Nat, s = .int .i64 (d : Int) ∧ d < l.length ∧ (d = r ∨ (d = x ∧ x ≠ r ∧ r / 2 = e) ∨ (d = y ∧ y ≠ r ∧ x ≠ r ∧ r / 2 = e ∧ x / 2 = e)) ∧ Hid (Below w.heap.size w wr)) (fun s _ => if intOf s = (r : Int) then 2 else if intOf s = (x : Int) then 1 else 0)
  case atStart => exact ⟨r, rfl, hr, .inl rfl, Z0⟩
  case round =>
    clear Z0
    obtain ⟨d, rfl, hd, hst, HB⟩ := hrel
    by_cases hde : d / 2 = e
    · have hbd : ∃ t, Hid (t = b.getD d 0) ∧ t < l.length ∧ ((t = r ∧ RES = lastN l.length) ∨ (t ≠ r ∧ ((t = x ∧ d = r ∧ x ≠ r ∧ r / 2 = e) ∨ (t = y ∧ d = x ∧ y ≠ r ∧ x ≠ r ∧ r / 2 = e ∧ x / 2 = e)))) := by
        rcases hst with rfl | ⟨rfl, h1, h2⟩ | ⟨rfl, h1, h2, h3, h4⟩
        · refine ⟨x, HX.out, hxl, ?_⟩
          by_cases c : x = d
          · exact .inl ⟨c, by rw [HN.out, if_neg (by omega), if_pos c]⟩
          · exact .inr ⟨c, .inl ⟨rfl, rfl, c, hde⟩⟩
        · refine ⟨y, HY.out, hyl, ?_⟩
          by_cases c : y = r
          · exact .inl ⟨c, by rw [HN.out, if_neg (by omega), if_neg h1, if_neg (by omega), if_pos c]⟩
          · exact .inr ⟨c, .inr ⟨rfl, rfl, c, h1, h2, hde⟩⟩
        · have := hyx h2
          omega
      obtain ⟨t, ht, htl, hc⟩ := hbd
      have KB : Hid (∀ W, Below w.heap.size w W → Calls Try.prog 46 #[.pointer (some ⟨g, 0, none⟩), .int .i64 (d : Int)] W fun e w' => e = .returned (.int .i64 (t : Int)) ∧ Below W.heap.size W w') := fun W m => by rw [ht.out]; exact K0.out d hd W m
      rcases hc with ⟨htr, hres⟩ | ⟨htr, hc⟩
      · subst htr
        have hd1 := Lib.hid hres
        clear hres hst ht
        by_cases h1 : m = 1
        · subst h1
          go_wp2_with fail
          refine (IT.out d _ hde (by omega)).mono ?_
          rintro en w' ⟨rfl, rfl⟩
          go_wp2_with fail
          refine (KB.out _ HB.out).mono ?_
          rintro en w1 ⟨rfl, z⟩
          have Z1 := HB.out.trans (z.mono HB.out.size)
          clear z
          go_wp2_with fail
          refine (R0.out _ Z1).mono ?_
          rintro en w' ⟨rfl, rfl⟩
          go_wp2_with fail
          refine (E0.out _ Z1).mono ?_
          rintro en w2 ⟨rfl, z⟩
          have Z2 := Z1.trans (z.mono Z1.size)
          clear z
          go_wp2_with fail
          go_ret
          exact ⟨by rw [hd1.out, HL.out]; rfl, Z2⟩
        · have hmb : ((m : Int) == 1) = false := by rw [beq_eq_false_iff_ne]; omega
          have hmn : ¬ (m : Int) = 1 := by omega
          go_wp2_with fail
          refine (IT.out d _ hde (by omega)).mono ?_
          rintro en w' ⟨rfl, rfl⟩
          go_wp2_with fail
          refine (KB.out _ HB.out).mono ?_
          rintro en w1 ⟨rfl, z⟩
          have Z1 := HB.out.trans (z.mono HB.out.size)
          clear z
          go_wp2_with fail
          refine (R0.out _ Z1).mono ?_
          rintro en w' ⟨rfl, rfl⟩
          go_wp2_with fail
          refine (E0.out _ Z1).mono ?_
          rintro en w2 ⟨rfl, z⟩
          have Z2 := Z1.trans (z.mono Z1.size)
          clear z
          go_wp2_with fail
          go_ret
          exact ⟨by rw [hd1.out, HL.out, if_neg h1]; rfl, Z2⟩
      · have hnb : ((t : Int) == (r : Int)) = false := by rw [beq_eq_false_iff_ne]; omega
        have hnb2 : (t == r) = false := by rw [beq_eq_false_iff_ne]; exact htr
        have HC := Lib.hid hc
        clear hc hst ht
        go_wp2_with fail
        refine (IT.out d _ hde (by omega)).mono ?_
        rintro en w' ⟨rfl, rfl⟩
        go_wp2_with fail
        refine (KB.out _ HB.out).mono ?_
        rintro en w1 ⟨rfl, z⟩
        have Z1 := HB.out.trans (z.mono HB.out.size)
        clear z
        go_wp2_with fail
        refine (R0.out _ Z1).mono ?_
        rintro en w' ⟨rfl, rfl⟩
        go_wp2_with fail
        go_roundw
        case rel =>
          refine ⟨t, rfl, htl, ?_, Z1⟩
          rcases HC.out with ⟨h1, h2, h3, h4⟩ | ⟨h1, h2, h3, h4, h5, h6⟩
          · exact .inr (.inl ⟨h1, h3, h4⟩)
          · exact .inr (.inr ⟨h1, h3, h4, h5, h6⟩)
        case measure =>
          show (if (t : Int) = (r : Int) then 2 else if (t : Int) = (x : Int) then 1 else 0) < (if (d : Int) = (r : Int) then 2 else if (d : Int) = (x : Int) then 1 else 0)
          rcases HC.out with ⟨h1, h2, h3, h4⟩ | ⟨h1, h2, h3, h4, h5, h6⟩
          · rw [if_neg (by omega), if_pos (by omega), if_pos (by omega)]; omega
          · have := hyx h4
            rw [if_neg (by omega), if_neg (by omega), if_neg (by omega), if_pos (by omega)]; omega
    · have HRES : Hid (RES = ((calN e d : Nat) : Int)) := by
        show _ = _
        rw [HN.out]
        rcases hst with rfl | ⟨rfl, h1, h2⟩ | ⟨rfl, h1, h2, h3, h4⟩
        · rw [if_pos hde]
        · rw [if_neg (by omega), if_neg h1, if_pos hde]
        · rw [if_neg (by omega), if_neg h2, if_neg (by omega), if_neg h1]
      clear hst
      go_wp2_with fail
      refine (IF.out d _ hde (by omega)).mono ?_
      rintro en w' ⟨rfl, rfl⟩
      go_wp2_with fail
      refine (CP.out d _ (by omega)).mono ?_
      rintro en w' ⟨rfl, rfl⟩
      go_wp2_with fail
      go_ret
      exact ⟨by rw [HRES.out]; rfl, HB.out⟩
theorem deg_le (l : List Nat) (lone v : Int) : -1 ≤ degOf l lone v ∧ degOf l lone v ≤ (l.length : Int) := by
  unfold degOf
  split
  · omega
  · split
    · omega
    · have : (sizes l).getD v.toNat 0 ≤ l.length := by
        rcases Nat.lt_or_ge v.toNat (met l l.length) with c | c
        · unfold sizes; rw [sizesTo_get _ _ _ _ c]; exact cntN_le _ _ _
        · have e : (sizes l).getD v.toNat 0 = 0 := by
            rw [List.getD_eq_getElem?_getD, List.getElem?_eq_none (by unfold sizes; rw [sizesTo_len]; exact c)]; rfl
          omega
      omega
/-- Of each vertex of the edge e, how many darts of other edges it has. -/
noncomputable def besN (l : List Nat) (lone : Int) (e : Nat) : List Int :=
  if nameOf l (2 * e) = nameOf l (2 * e + 1) then [degOf l lone (nameOf l (2 * e) : Nat) - 2]
  else [degOf l lone (nameOf l (2 * e) : Nat) - 1, degOf l lone (nameOf l (2 * e + 1) : Nat) - 1]
set_option maxHeartbeats 4000000 in
theorem besides_p (g : Nat) (l b : List Nat) (root lone : Int) (e : Nat) (w : World) (h : MapAt w g l b root lone) (he : e < l.length / 2) :
    Calls Try.prog 60 #[.pointer (some ⟨g, 0, none⟩), .int .i64 (e : Int)] w fun en w' => ∃ A c, en = .returned (.slice A (besN l lone e).length c) ∧ Rd w' w'.heap.size A (besN l lone e).length (I64 (besN l lone e)) ∧ Below w.heap.size w w' := by
  have hln := h.2.1
  obtain ⟨a, ha⟩ : ∃ a, a = 2 * e := ⟨_, rfl⟩
  obtain ⟨a1, ha1⟩ : ∃ a1, a1 = 2 * e + 1 := ⟨_, rfl⟩
  have e1 : 2 * (e : Int) = (a : Int) := by omega
  have e2 : (a : Int) + 1 = (a1 : Int) := by omega
  have VP : Hid (∀ k, k < l.length → ∀ W, Below w.heap.size w W → Calls Try.prog 18 #[.pointer (some ⟨g, 0, none⟩), .int .i64 (k : Int)] W fun e w' => e = .returned (.int .i64 ((nameOf l k : Nat) : Int)) ∧ Below W.heap.size W w') := fun k hk W m => vertex_in g l b root lone k W (h.below m) hk
  have DP : Hid (∀ v : Int, ∀ W, Below w.heap.size w W → Calls Try.prog 75 #[.pointer (some ⟨g, 0, none⟩), .int .i64 v] W fun e w' => e = .returned (.int .i64 (degOf l lone v)) ∧ Below W.heap.size W w') := fun v W m => degree_p g l b root lone v W (h.below m)
  have V0 : Hid (∀ W, Below w.heap.size w W → Calls Try.prog 18 #[.pointer (some ⟨g, 0, none⟩), .int .i64 (a : Int)] W fun e w' => e = .returned (.int .i64 ((nameOf l a : Nat) : Int)) ∧ Below W.heap.size W w') := VP.out a (by omega)
  have V1 : Hid (∀ W, Below w.heap.size w W → Calls Try.prog 18 #[.pointer (some ⟨g, 0, none⟩), .int .i64 (a1 : Int)] W fun e w' => e = .returned (.int .i64 ((nameOf l a1 : Nat) : Int)) ∧ Below W.heap.size W w') := VP.out a1 (by omega)
  have HB : Hid (besN l lone e = if nameOf l a = nameOf l a1 then [degOf l lone (nameOf l a : Nat) - 2] else [degOf l lone (nameOf l a : Nat) - 1, degOf l lone (nameOf l a1 : Nat) - 1]) := by
    show _ = _; rw [ha, ha1]; rfl
  have w1 : IntKind.i64.wrap (2 * (e : Int)) = (a : Int) := by rw [e1]; simp [IntKind.wrap, IntKind.signed, IntKind.bits]; omega
  have w2 : IntKind.i64.wrap (a1 : Int) = (a1 : Int) := by simp [IntKind.wrap, IntKind.signed, IntKind.bits]; omega
  obtain ⟨d0, hd0⟩ : ∃ d0, d0 = degOf l lone (nameOf l a : Nat) := ⟨_, rfl⟩
  obtain ⟨d1, hd1⟩ : ∃ d1, d1 = degOf l lone (nameOf l a1 : Nat) := ⟨_, rfl⟩
  have b0 := deg_le l lone (nameOf l a : Nat)
  have b1 := deg_le l lone (nameOf l a1 : Nat)
  rw [← hd0] at b0
  rw [← hd1] at b1
  have D0 := Lib.hid (DP.out (nameOf l a : Nat))
  have D1 := Lib.hid (DP.out (nameOf l a1 : Nat))
  rw [← hd0] at D0
  rw [← hd1] at D1
  rw [← hd0, ← hd1] at HB
  have w3 : IntKind.i64.wrap (d0 - 2) = d0 - 2 := by simp [IntKind.wrap, IntKind.signed, IntKind.bits]; omega
  have w4 : IntKind.i64.wrap (d0 - 1) = d0 - 1 := by simp [IntKind.wrap, IntKind.signed, IntKind.bits]; omega
  have w5 : IntKind.i64.wrap (d1 - 1) = d1 - 1 := by simp [IntKind.wrap, IntKind.signed, IntKind.bits]; omega
  have Z0 := Below.refl w.heap.size w
  clear h hd0 hd1 ha ha1 VP DP
  generalize besN l lone e = RES at *
  generalize nameOf l a = N0 at *
  generalize nameOf l a1 = N1 at *
  go_enter Try.func60, Try.ntmps60
  go_wp2_with fail
  refine (V0.out _ Z0).mono ?_
  rintro en v1 ⟨rfl, z⟩
  have Z1 := Z0.trans (z.mono Z0.size)
  clear z
  go_wp2_with fail
  refine (V1.out _ Z1).mono ?_
  rintro en v2 ⟨rfl, z⟩
  have Z2 := Z1.trans (z.mono Z1.size)
  clear z
  by_cases c : N0 = N1
  · subst c
    go_wp2_with fail
    refine (D0.out _ Z2).mono ?_
    rintro en v3 ⟨rfl, z⟩
    have Z3 := Lib.hid (Z2.trans (z.mono Z2.size))
    clear z Z0 Z1 Z2
    go_wp2_with fail
    go_ret
    have hres : RES = [d0 - 2] := by have := HB.out; simpa using this
    rw [hres]
    exact ⟨_, _, rfl, (Rd.new v3 3 #[.int .i64 (d0 - 2)] 1 _ (by simp [I64]) (by simp)).up (by simp), Z3.out.alloc Z3.out.size _⟩
  · have c1 : ((N0 : Int) == (N1 : Int)) = false := by rw [beq_eq_false_iff_ne]; omega
    have c2 : (N0 == N1) = false := by rw [beq_eq_false_iff_ne]; exact c
    go_wp2_with fail
    refine (D0.out _ Z2).mono ?_
    rintro en v3 ⟨rfl, z⟩
    have Z3 := Z2.trans (z.mono Z2.size)
    clear z
    go_wp2_with fail
    refine (D1.out _ Z3).mono ?_
    rintro en v4 ⟨rfl, z⟩
    have Z4 := Lib.hid (Z3.trans (z.mono Z3.size))
    clear z Z0 Z1 Z2 Z3
    go_wp2_with fail
    go_ret
    have hres : RES = [d0 - 1, d1 - 1] := by have := HB.out; rwa [if_neg c] at this
    rw [hres]
    exact ⟨_, _, rfl, (Rd.new v4 3 #[.int .i64 (d0 - 1), .int .i64 (d1 - 1)] 2 _ (by simp [I64]) (by simp)).up (by simp), Z4.out.alloc Z4.out.size _⟩
end Go.Proofs.Ythbhbcakiaaapaa
