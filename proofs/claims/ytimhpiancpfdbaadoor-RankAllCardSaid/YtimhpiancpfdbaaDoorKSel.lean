/- Select. -/
import Derived.Test.YtimhpiancpfdbaaDoorKFind
namespace Go.Proofs.YtimhpiancpfdbaaDoor
open Go.RowKit
set_option linter.unusedVariables false

/-- The world with Select's three parameters in boxes of their own. -/
abbrev boxed (w : World) (g : Nat) (k bit : Int) : World :=
  ((w.alloc (.cells #[.pointer (some ⟨g, 0, none⟩)] 25)).alloc (.cells #[.int .i64 bit] 3)).alloc (.cells #[.int .i64 k] 3)
theorem boxed_caps (w : World) (g : Nat) (k bit : Int) : Caps (boxed w g k bit) g k w.heap.size bit := by
  have b0 := ((Blk.new w 25 #[.pointer (some ⟨g, 0, none⟩)]).alloc (.cells #[.int .i64 bit] 3)).alloc (.cells #[.int .i64 k] 3)
  have b1 := (Blk.new (w.alloc (.cells #[.pointer (some ⟨g, 0, none⟩)] 25)) 3 #[.int .i64 bit]).alloc (.cells #[.int .i64 k] 3)
  have b2 := Blk.new ((w.alloc (.cells #[.pointer (some ⟨g, 0, none⟩)] 25)).alloc (.cells #[.int .i64 bit] 3)) 3 #[.int .i64 k]
  exact ⟨b0.cell 0, by simpa using b1.cell 0, by simpa using b2.cell 0⟩
theorem boxed_mod (w : World) (g : Nat) (k bit : Int) : Mod (fun i => i = g) w (boxed w g k bit) := (((Mod.refl _ w).alloc _).alloc _).alloc _
theorem boxed_idx {w : World} {g V n q : Nat} {d : Bool} (h : IdxAt w g V n d q) (k bit : Int) : IdxAt (boxed w g k bit) g V n d q :=
  h.below ((((Below.refl w.heap.size w).alloc (Nat.le_refl _) _).alloc (by simp) _).alloc (by simp; omega) _)
theorem boxed_size (w : World) (g : Nat) (k bit : Int) : (boxed w g k bit).heap.size = w.heap.size + 3 := by simp
theorem Caps.mod {w w' : World} {g b : Nat} {k bit : Int} (h : Caps w g k b bit) (m : Mod (fun i => i = g) w w') (hg : g < b) (hb : b + 3 ≤ w.heap.size) : Caps w' g k b bit :=
  ⟨(m.cell (b := b) (by omega) (by omega) 0).trans h.c0, (m.cell (b := b + 1) (by omega) (by omega) 0).trans h.c1, (m.cell (b := b + 2) (by omega) (by omega) 0).trans h.c2⟩
theorem sel_nil (bit k : Int) (w : World) :
    Calls Tryd.prog 15 #[.pointer none, .int .i64 bit, .int .i64 k] w fun e w' => e = .returned (.tuple #[.int .i64 0, .int .i64 2]) ∧ Below w.heap.size w w' := by
  have B0 := Lib.hid ((((Below.refl w.heap.size w).alloc (Nat.le_refl _) (.cells #[.pointer none] 25)).alloc (by simp) (.cells #[.int .i64 bit] 3)).alloc (by simp; omega) (.cells #[.int .i64 k] 3))
  go_enter Tryd.func15, Tryd.ntmps15
  go_wp2_with fail
  go_ret2
  exact ⟨rfl, B0.out⟩
theorem sel_no (g V n q : Nat) (d : Bool) (bit k : Int) (w : World) (h : IdxAt w g V n d q) (hq : q ≤ 1000000) (hno : ¬ (bit = 0 ∨ bit = 1) ∨ k < 0 ∨ ((cb bit V n : Nat) : Int) ≤ k) :
    Calls Tryd.prog 15 #[.pointer (some ⟨g, 0, none⟩), .int .i64 bit, .int .i64 k] w fun e w' => e = .returned (.tuple #[.int .i64 0, .int .i64 1]) ∧ IdxAt w' g V n d (q + 1) ∧ Mod (fun i => i = g) w w' := by
  have AK := Lib.hid (ask_p g V n q d _ (boxed_idx h k bit) hq)
  have M0 := Lib.hid (boxed_mod w g k bit)
  have C0 := Lib.hid (boxed_caps w g k bit)
  have Z0 := Lib.hid (boxed_size w g k bit)
  have GL := Lib.hid h.lt
  obtain ⟨c0, c1, c2⟩ := boxed_caps w g k bit
  have IB := Lib.hid (fun w' => isBit_p bit w')
  have CQ := Lib.hid (fun w' h' => count_q g V n (q + 1) d bit w' h')
  have hcl := cb_le bit V n
  have hn := h.2.1
  clear h
  generalize cb bit V n = s at *
  have hs9 : s ≤ 1000000 := by omega
  clear hcl
  by_cases hb : bit = 0 ∨ bit = 1
  · rw [decide_eq_true hb] at IB
    by_cases h0 : k < 0
    · clear hno hb
      go_enter Tryd.func15, Tryd.ntmps15
      go_wp2_with fail
      refine AK.out.mono ?_
      rintro e w1 ⟨rfl, h1, m1⟩
      obtain ⟨c0', c1', c2'⟩ := C0.out.mod m1 GL.out (by have := Z0.out; omega)
      have H1 := Lib.hid (And.intro h1 (M0.out.trans m1 fun _ _ h => h))
      clear h1 m1 c0 c1 c2
      go_wp2_with fail
      go_quiet ((first
        | (go_at_call 26; exact Calls.quiet_of_same ((IB.out _).mono fun e w' ⟨he, hw⟩ => ⟨he, hw.symm⟩))
        | (go_at_call 29; exact Calls.quiet_of (CQ.out _ (H1.out.1.drewN _)))))
      go_wp2
      go_ret2
      exact ⟨rfl, H1.out.1.drewN _, H1.out.2.drewN _⟩
    · have hk : (s : Int) ≤ k := by
        rcases hno with h1 | h1 | h1
        · exact absurd hb h1
        · exact absurd h1 h0
        · exact h1
      clear hno hb
      go_enter Tryd.func15, Tryd.ntmps15
      go_wp2_with fail
      refine AK.out.mono ?_
      rintro e w1 ⟨rfl, h1, m1⟩
      obtain ⟨c0', c1', c2'⟩ := C0.out.mod m1 GL.out (by have := Z0.out; omega)
      have H1 := Lib.hid (And.intro h1 (M0.out.trans m1 fun _ _ h => h))
      clear h1 m1 c0 c1 c2
      go_wp2_with fail
      go_quiet ((first
        | (go_at_call 26; exact Calls.quiet_of_same ((IB.out _).mono fun e w' ⟨he, hw⟩ => ⟨he, hw.symm⟩))
        | (go_at_call 29; exact Calls.quiet_of (CQ.out _ (H1.out.1.drewN _)))))
      go_wp2
      go_ret2
      exact ⟨rfl, H1.out.1.drewN _, H1.out.2.drewN _⟩
  · rw [decide_eq_false hb] at IB
    clear hno hb
    go_enter Tryd.func15, Tryd.ntmps15
    go_wp2_with fail
    refine AK.out.mono ?_
    rintro e w1 ⟨rfl, h1, m1⟩
    obtain ⟨c0', c1', c2'⟩ := C0.out.mod m1 GL.out (by have := Z0.out; omega)
    have H1 := Lib.hid (And.intro h1 (M0.out.trans m1 fun _ _ h => h))
    clear h1 m1 c0 c1 c2
    go_wp2_with fail
    go_quiet ((first
      | (go_at_call 26; exact Calls.quiet_of_same ((IB.out _).mono fun e w' ⟨he, hw⟩ => ⟨he, hw.symm⟩))
      | (go_at_call 29; exact Calls.quiet_of (CQ.out _ (H1.out.1.drewN _)))))
    go_wp2
    go_ret2
    exact ⟨rfl, H1.out.1.drewN _, H1.out.2.drewN _⟩
theorem cb_stay {bit : Int} {V p : Nat} (h : ¬ IsB bit V p) : cb bit V (p + 1) = cb bit V p := by
  unfold IsB at h
  have h3 := pop_le V p
  unfold cb
  by_cases hb : bit = 0
  · have h2 : pop V (p + 1) = pop V p + 1 := pop_bit1 (by simpa [hb] using h)
    simp only [if_pos hb]
    omega
  · simp only [if_neg hb]
    rw [pop_next]
    rw [Nat.testBit_eq_decide_div_mod_eq] at h
    simp [hb] at h
    omega
theorem cb_zero (bit : Int) (V : Nat) : cb bit V 0 = 0 := by have := cb_le bit V 0; omega
/-- Where k of them are ahead there is a place. -/
theorem cb_find (bit : Int) (V k : Nat) : ∀ n, k < cb bit V n → ∃ p, p < n ∧ IsB bit V p ∧ cb bit V p = k := by
  intro n
  induction n with
  | zero => intro h; rw [cb_zero] at h; omega
  | succ n ih =>
    intro h
    by_cases h1 : k < cb bit V n
    · obtain ⟨p, h2, h3⟩ := ih h1
      exact ⟨p, by omega, h3⟩
    · by_cases hI : IsB bit V n
      · rw [cb_next hI] at h
        exact ⟨n, by omega, hI, by omega⟩
      · rw [cb_stay hI] at h
        omega
/-- The block that the search finds. -/
theorem found_blk {bit : Int} {V n k r : Nat} (hk : k < cb bit V n) (hr : r ≤ blk n) (hlo : ∀ x, x < r → Pst bit V n k x = false) : r < blk n ∧ min (512 * r) n = 512 * r ∧ cb bit V (512 * r) ≤ k := by
  have hn : 0 < n := by
    rcases Nat.eq_zero_or_pos n with h0 | h0
    · subst h0
      rw [cb_zero] at hk; omega
    · exact h0
  have hb : 0 < blk n := by unfold blk; omega
  have h1 : r < blk n := by
    rcases Nat.lt_or_ge r (blk n) with h1 | h1
    · exact h1
    · have := hlo (blk n - 1) (by omega)
      unfold Pst at this
      rw [show min (512 * (blk n - 1 + 1)) n = n by unfold blk; omega, decide_eq_true hk] at this
      cases this
  have h2 : min (512 * r) n = 512 * r := by unfold blk at h1; omega
  refine ⟨h1, h2, ?_⟩
  rcases Nat.eq_zero_or_pos r with h0 | h0
  · subst h0
    rw [Nat.mul_zero, cb_zero]; omega
  · have := hlo (r - 1) (by omega)
    unfold Pst at this
    rw [show r - 1 + 1 = r by omega, h2] at this
    exact Nat.le_of_not_lt (of_decide_eq_false this)
theorem Tab.mod {w w' : World} {S : Nat → Prop} (h : Tab w) (m : Mod S w w') (hs : ¬ S 0) (hl : 0 < w.heap.size) : Tab w' :=
  ⟨fun j hj => (m.cell (b := 0) hl hs j).trans (h.at_ j hj)⟩
theorem Tab.drewN {w : World} (h : Tab w) (m : Nat) : Tab (w.drewN m) := ⟨h.at_⟩
theorem sel_yes (g V n q k : Nat) (d : Bool) (bit : Int) (w : World) (h : IdxAt w g V n d q) (hT : Tab w) (hq : q ≤ 1000000) (hb : bit = 0 ∨ bit = 1) (hk : k < cb bit V n) (hg : 0 < g) :
    Calls Tryd.prog 15 #[.pointer (some ⟨g, 0, none⟩), .int .i64 bit, .int .i64 (k : Int)] w fun e w' => ∃ p : Nat, e = .returned (.tuple #[.int .i64 (p : Int), .int .i64 0]) ∧ p < n ∧ IsB bit V p ∧ cb bit V p = k ∧ IdxAt w' g V n true (q + 1) ∧ Mod (fun i => i = g) w w' := by
  have AK := Lib.hid (ask_p g V n q d _ (boxed_idx h k bit) hq)
  have M0 := Lib.hid (boxed_mod w g k bit)
  have C0 := Lib.hid (boxed_caps w g k bit)
  have Z0 := Lib.hid (boxed_size w g k bit)
  have GL := Lib.hid h.lt
  obtain ⟨c0, c1, c2⟩ := boxed_caps w g k bit
  have IB := Lib.hid (fun w' => isBit_p bit w')
  rw [decide_eq_true hb] at IB
  have CQ := Lib.hid (fun w' h' => count_q g V n (q + 1) d bit w' h')
  have BP := Lib.hid (fun w' h' => build_p g V n (q + 1) d w' h')
  have XB := Lib.hid (fun w' h' => xblocks_p g V n (q + 1) true w' h')
  have SP := Lib.hid (fun w' h' hc => search_p g V n (q + 1) k w.heap.size bit w' h' hc)
  have hmf : ∀ (fn : Fn) (first cap : Array Value) (w : World), (Instr.makeFunc fn first cap).run Tryd.prog w = .ok (.func fn first cap) w := fun _ _ _ _ => rfl
  have hn := h.2.1
  have hcl := cb_le bit V n
  have HT := Lib.hid hT
  have HB := Lib.hid hb
  have HK := Lib.hid hk
  clear h hT
  have hk9 : k ≤ 1000000 := by omega
  obtain ⟨s, hs⟩ : ∃ s, s = cb bit V n := ⟨_, rfl⟩
  rw [← hs] at CQ
  have hks : k < s := by omega
  have hs9 : s ≤ 1000000 := by omega
  clear hcl hs hk hb
  go_enter Tryd.func15, Tryd.ntmps15
  go_wp2_with fail
  refine AK.out.mono ?_
  rintro e w1 ⟨rfl, h1, m1⟩
  obtain ⟨c0', c1', c2'⟩ := C0.out.mod m1 GL.out (by have := Z0.out; omega)
  have H1 := Lib.hid (And.intro h1 (M0.out.trans m1 fun _ _ h => h))
  have C1 := Lib.hid (C0.out.mod m1 GL.out (by have := Z0.out; omega))
  have Z1 : Hid (w.heap.size + 3 ≤ w1.heap.size) := by show _ ≤ _; have := Z0.out; have := m1.size; omega
  clear h1 m1 c0 c1 c2
  go_wp2_with fail
  go_quiet ((first
    | (go_at_call 26; exact Calls.quiet_of_same ((IB.out _).mono fun e w' ⟨he, hw⟩ => ⟨he, hw.symm⟩))
    | (go_at_call 29; exact Calls.quiet_of (CQ.out _ (H1.out.1.drewN _)))))
  go_wp2_with fail
  refine (BP.out _ (H1.out.1.drewN _)).mono ?_
  rintro e w2 ⟨rfl, h2, m2⟩
  have hgs : g < w.heap.size := GL.out
  have hz1 : w.heap.size + 3 ≤ w1.heap.size := Z1.out
  have CC := C1.out.drewN nq |>.mod m2 (by omega) (by show _ ≤ w1.heap.size; omega)
  have C2 := Lib.hid CC
  obtain ⟨c0, c1, c2⟩ := CC
  have H2 := Lib.hid h2
  have M2 : Hid (Mod (fun i => i = g) w w2) := (H1.out.2.drewN nq).trans m2 fun _ _ h => h
  clear h2 m2 c0' c1' c2' hgs hz1
  go_wp2_with fail
  refine (XB.out _ H2.out).mono ?_
  rintro e w' ⟨rfl, rfl⟩
  go_wp2_with fail
  refine (SP.out _ H2.out C2.out).mono ?_
  rintro e w' ⟨r, m, rfl, hr, hlo, hhi, rfl⟩
  have d0 : (w2.drewN m).cell? ⟨w.heap.size, 0, none⟩ = some (.pointer (some ⟨g, 0, none⟩)) := c0
  have d1 : (w2.drewN m).cell? ⟨w.heap.size + 1, 0, none⟩ = some (.int .i64 bit) := c1
  have d2 : (w2.drewN m).cell? ⟨w.heap.size + 2, 0, none⟩ = some (.int .i64 (k : Int)) := c2
  have H3 := Lib.hid (And.intro (H2.out.drewN m) (And.intro (M2.out.drewN m) (show Tab (w2.drewN m) from (HT.out.mod M2.out (by omega) (by have := GL.out; omega)).drewN m)))
  clear c0 c1 c2
  generalize w2.drewN m = w3 at *
  obtain ⟨hrb, hmin, hcr⟩ := found_blk HK.out hr hlo
  have AO := Lib.hid (fun x => aheadOf_p g V n (q + 1) r bit (w3.drewN x) (H3.out.1.drewN x) hr)
  rw [hmin] at AO
  obtain ⟨p, hpn, hpI, hpk⟩ := cb_find bit V k n HK.out
  have hr9 : r ≤ 1000000 := by unfold blk at hrb; omega
  obtain ⟨z, hz⟩ : ∃ z, z = cb bit V (512 * r) := ⟨_, rfl⟩
  rw [← hz] at AO hcr
  have PL := Lib.hid (fun x => place_p g V n (q + 1) (r * 8) (k - z) k p true bit (w3.drewN x) (H3.out.1.drewN x) (H3.out.2.2.drewN x) HB.out (by rw [show 64 * (r * 8) = 512 * r by omega, ← hz]; omega) HK.out hpI hpk)
  have FIN := Lib.hid (And.intro hpn (And.intro hpI hpk))
  have e1 : ((r * 8 : Nat) : Int) = (r : Int) * 8 := by omega
  have e2 : ((k - z : Nat) : Int) = (k : Int) - (z : Int) := by omega
  rw [e1, e2] at PL
  have hz9 : z ≤ 1000000 := by omega
  clear hlo hhi hpn hpI hpk hz e1 e2 hmin hr
  go_wp2_with fail
  go_quiet ((first
    | (go_at_call 33; exact Calls.quiet_of_same ((AO.out _).mono fun e w' ⟨he, hw⟩ => ⟨he, hw.symm⟩))
    | (go_at_call 34; exact Calls.quiet_of_same ((PL.out _).mono fun e w' ⟨he, hw⟩ => ⟨he, hw.symm⟩))))
  go_wp2
  go_ret2
  exact ⟨p, rfl, FIN.out.1, FIN.out.2.1, FIN.out.2.2, H3.out.1.drewN _, H3.out.2.1.drewN _⟩
end Go.Proofs.YtimhpiancpfdbaaDoor
