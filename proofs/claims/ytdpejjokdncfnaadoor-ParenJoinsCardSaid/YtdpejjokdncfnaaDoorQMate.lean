/- Mate, Round. -/
import Derived.Test.YtdpejjokdncfnaaDoorQLeap
namespace Go.Proofs.YtdpejjokdncfnaaDoor
open Go.RowKit
set_option linter.unusedVariables false
set_option maxRecDepth 20000
/-- What may turn: the index, and the parentheses. -/
def Two2 (g p : Nat) (i : Nat) : Prop := i = g ∨ i = p
theorem mod_g {w w' : World} {g p : Nat} (h : Mod (fun i => i = g) w w') : Mod (Two2 g p) w w' := h.mono fun _ _ h => .inl h
theorem mod_p {w w' : World} {g p : Nat} (h : Mod (fun i => i = p) w w') : Mod (Two2 g p) w w' := h.mono fun _ _ h => .inr h
theorem Mod.two {w w1 w2 : World} {g p : Nat} (h : Mod (Two2 g p) w w1) (k : Mod (Two2 g p) w1 w2) : Mod (Two2 g p) w w2 := h.trans k fun _ _ h => h
/-- An answer y with no error, that P is true of; and what became of the parentheses. -/
def AskP (w : World) (p g V n q : Nat) (P : Int → Prop) (e : Ending) (w' : World) : Prop :=
  PAt w' p g V n true q ∧ Mod (Two2 g p) w w' ∧ ∃ y : Int, e = .returned (.tuple #[.int .i64 y, .int .i64 0]) ∧ P y ∧ -1000000 ≤ y ∧ y ≤ 1000000
theorem plen_nil (w : World) : Calls Tryd.prog 15 #[.pointer none] w fun e w' => e = .returned (.int .i64 0) ∧ w = w' := by
  go_enter Tryd.func15, Tryd.ntmps15
  go_wp2
  go_ret
  exact ⟨rfl, rfl⟩
theorem pexc_nil (i : Int) (w : World) : Calls Tryd.prog 21 #[.pointer none, .int .i64 i] w fun e w' => e = .returned (.tuple #[.int .i64 0, .int .i64 2]) ∧ w = w' := by
  go_enter Tryd.func21, Tryd.ntmps21
  go_wp2
  go_ret2
  exact ⟨rfl, rfl⟩
theorem popen_nil (i : Int) (w : World) : Calls Tryd.prog 14 #[.pointer none, .int .i64 i] w fun e w' => e = .returned (.bool false) ∧ w = w' := by
  go_enter Tryd.func14, Tryd.ntmps14
  go_wp2
  go_ret
  exact ⟨rfl, rfl⟩
theorem mate_nil (i : Int) (hi : -9223372036854775808 ≤ i ∧ i ≤ 9223372036854775807) (w : World) : Calls Tryd.prog 19 #[.pointer none, .int .i64 i] w fun e w' => e = .returned (.tuple #[.int .i64 0, .int .i64 2]) ∧ w = w' := by
  have LN := Lib.hid fun w' => plen_nil w'
  have RN := Lib.hid fun w' => ready_nil i i (-1) w'
  go_enter Tryd.func19, Tryd.ntmps19
  go_wp2_with (first
    | (go_at_call 15; refine (LN.out _).mono ?_; rintro e w' ⟨rfl, rfl⟩)
    | (go_at_call 31; refine (RN.out _).mono ?_; rintro e w' ⟨rfl, rfl⟩))
  go_ret2
  exact ⟨rfl, rfl⟩
theorem round_nil (i : Int) (hi : -9223372036854775808 ≤ i ∧ i ≤ 9223372036854775807) (w : World) : Calls Tryd.prog 20 #[.pointer none, .int .i64 i] w fun e w' => e = .returned (.tuple #[.int .i64 0, .int .i64 2]) ∧ w = w' := by
  have LN := Lib.hid fun w' => plen_nil w'
  have RN := Lib.hid fun w' => ready_nil i i (-1) w'
  go_enter Tryd.func20, Tryd.ntmps20
  go_wp2_with (first
    | (go_at_call 15; refine (LN.out _).mono ?_; rintro e w' ⟨rfl, rfl⟩)
    | (go_at_call 31; refine (RN.out _).mono ?_; rintro e w' ⟨rfl, rfl⟩))
  go_ret2
  exact ⟨rfl, rfl⟩
section
variable (p g V n q : Nat) (d : Bool) (w : World)
theorem mate_no (i : Int) (h : PAt w p g V n d q) (hi : i < 0 ∨ (n : Int) ≤ i) :
    Calls Tryd.prog 19 #[.pointer (some ⟨p, 0, none⟩), .int .i64 i] w fun e w' => e = .returned (.tuple #[.int .i64 0, .int .i64 1]) ∧ w = w' := by
  have hn := h.n9
  have LN := Lib.hid (plen_p p g V n q w h.ix)
  have RN := Lib.hid (ready_no p i i ((n : Int) - 1) w (by omega))
  clear h
  go_enter Tryd.func19, Tryd.ntmps19
  go_wp2_with (first
    | (go_at_call 15; refine LN.out.mono ?_; rintro e w' ⟨rfl, rfl⟩)
    | (go_at_call 31; refine RN.out.mono ?_; rintro e w' ⟨rfl, rfl⟩))
  go_ret2
  exact ⟨rfl, rfl⟩
theorem round_no (i : Int) (h : PAt w p g V n d q) (hi : i < 0 ∨ (n : Int) ≤ i) :
    Calls Tryd.prog 20 #[.pointer (some ⟨p, 0, none⟩), .int .i64 i] w fun e w' => e = .returned (.tuple #[.int .i64 0, .int .i64 1]) ∧ w = w' := by
  have hn := h.n9
  have LN := Lib.hid (plen_p p g V n q w h.ix)
  have RN := Lib.hid (ready_no p i i ((n : Int) - 1) w (by omega))
  clear h
  go_enter Tryd.func20, Tryd.ntmps20
  go_wp2_with (first
    | (go_at_call 15; refine LN.out.mono ?_; rintro e w' ⟨rfl, rfl⟩)
    | (go_at_call 31; refine RN.out.mono ?_; rintro e w' ⟨rfl, rfl⟩))
  go_ret2
  exact ⟨rfl, rfl⟩
set_option maxHeartbeats 4000000 in
theorem mate_yes (i : Nat) (hN : Nul w) (hpn : p ≠ 0) (h : PAt w p g V n d q) (hB : Bal (exc V) n) (hi : i < n) (hq : q ≤ 990000) :
    Calls Tryd.prog 19 #[.pointer (some ⟨p, 0, none⟩), .int .i64 (i : Int)] w (AskP w p g V n (q + 4) (MateOK (exc V) i)) := by
  have hn := h.n9
  have LN := Lib.hid (plen_p p g V n q w h.ix)
  have RO := Lib.hid (ready_ok p g V n q d (i : Int) (i : Int) ((n : Int) - 1) w hN h hpn (by omega) (by omega) (by omega))
  have HB := Lib.hid hB
  have HE := Lib.hid (exc_Exc V)
  have hx := exc_next V i
  have hbit : V / 2 ^ i % 2 = 0 ∨ V / 2 ^ i % 2 = 1 := by omega
  clear h hB hN
  go_enter Tryd.func19, Tryd.ntmps19
  go_wp2_with (go_at_call 15; refine LN.out.mono ?_; rintro e w' ⟨rfl, rfl⟩)
  refine RO.out.mono ?_
  rintro e w2 ⟨rfl, h2, m2⟩
  have H2 := Lib.hid h2
  have M2 : Hid (Mod (Two2 g p) w w2) := mod_p m2
  have OP := Lib.hid (popen_in p g V n q w2 i h2.ix hi)
  clear h2 m2 RO LN
  rcases hbit with hb | hb
  · rw [hb] at OP hx
    have e1 : exc V (i + 1) = exc V i - 1 := by omega
    have EX := Lib.hid (excess_p p g V n q true w2 (i + 1) H2.out (by omega) (by omega))
    rw [show ((i + 1 : Nat) : Int) = (i : Int) + 1 by omega] at EX
    have hm0 := HB.out.1 (i + 1) (by omega)
    obtain ⟨y, hy⟩ : ∃ y, exc V (i + 1) = y := ⟨_, rfl⟩
    rw [hy] at EX hm0
    have HY := Lib.hid hy
    have E1 := Lib.hid e1
    clear hx hy e1 hb
    go_wp2_with (first
      | (go_at_call 14; refine OP.out.mono ?_; rintro e w' ⟨rfl, rfl⟩))
    refine EX.out.mono ?_
    rintro e w3 ⟨rfl, h3, m3⟩
    have SK := Lib.hid (seek_b p g V n (q + 1) w3 (i + 1) y h3 (by omega) (by omega) hm0 (by omega))
    rw [show ((i + 1 : Nat) : Int) = (i : Int) + 1 by omega] at SK
    have M3 : Hid (Mod (Two2 g p) w w3) := M2.out.two (mod_g m3)
    clear h3 m3 M2 EX
    go_wp2_with fail
    refine SK.out.mono ?_
    rintro e w4 ⟨h4, m4, j, rfl, hj⟩
    have H4 := Lib.hid h4
    have M4 : Hid (Mod (Two2 g p) w w4) := M3.out.two (mod_g m4)
    have hjl := hj.lt
    have OK : Hid (MateOK (exc V) i (j : Int)) := ⟨j, rfl, .inr (Bwd.pair HE.out E1.out (by rw [HY.out]; exact hj))⟩
    clear h4 m4 hj SK
    go_wp2_with fail
    go_ret2
    exact ⟨H4.out, M4.out, j, rfl, OK.out, by omega, by omega⟩
  · rw [hb] at OP hx
    have e1 : exc V (i + 1) = exc V i + 1 := by omega
    have EX := Lib.hid (excess_p p g V n q true w2 i H2.out (by omega) (by omega))
    have hm0 := HB.out.1 i (by omega)
    obtain ⟨y, hy⟩ : ∃ y, exc V i = y := ⟨_, rfl⟩
    rw [hy] at EX hm0
    have HY := Lib.hid hy
    have E1 := Lib.hid e1
    clear hx hy e1 hb
    go_wp2_with (first
      | (go_at_call 14; refine OP.out.mono ?_; rintro e w' ⟨rfl, rfl⟩))
    refine EX.out.mono ?_
    rintro e w3 ⟨rfl, h3, m3⟩
    have SK := Lib.hid (seek_f p g V n (q + 1) w3 i y h3 HB.out hi hm0 (by omega))
    have M3 : Hid (Mod (Two2 g p) w w3) := M2.out.two (mod_g m3)
    clear h3 m3 M2 EX
    go_wp2_with fail
    refine SK.out.mono ?_
    rintro e w4 ⟨h4, m4, j, rfl, hj⟩
    have H4 := Lib.hid h4
    have M4 : Hid (Mod (Two2 g p) w w4) := M3.out.two (mod_g m4)
    have hjl := hj.lt
    have hjn := hj.le
    have OK : Hid (MateOK (exc V) i ((j : Int) - 1)) := ⟨j - 1, by omega, .inl (Fwd.pair HE.out E1.out (by rw [HY.out]; exact hj))⟩
    clear h4 m4 hj SK
    go_wp2_with fail
    go_ret2
    exact ⟨H4.out, M4.out, (j : Int) - 1, rfl, OK.out, by omega, by omega⟩
set_option maxHeartbeats 4000000 in
theorem round_yes (i : Nat) (hN : Nul w) (hpn : p ≠ 0) (h : PAt w p g V n d q) (hB : Bal (exc V) n) (hi : i < n) (hq : q ≤ 990000) :
    Calls Tryd.prog 20 #[.pointer (some ⟨p, 0, none⟩), .int .i64 (i : Int)] w (AskP w p g V n (q + 4) (RoundOK (exc V) i)) := by
  have hn := h.n9
  have LN := Lib.hid (plen_p p g V n q w h.ix)
  have RO := Lib.hid (ready_ok p g V n q d (i : Int) (i : Int) ((n : Int) - 1) w hN h hpn (by omega) (by omega) (by omega))
  have HB := Lib.hid hB
  have HE := Lib.hid (exc_Exc V)
  have hx := exc_next V i
  have hbit : V / 2 ^ i % 2 = 0 ∨ V / 2 ^ i % 2 = 1 := by omega
  clear h hB hN
  go_enter Tryd.func20, Tryd.ntmps20
  go_wp2_with (go_at_call 15; refine LN.out.mono ?_; rintro e w' ⟨rfl, rfl⟩)
  refine RO.out.mono ?_
  rintro e w2 ⟨rfl, h2, m2⟩
  have H2 := Lib.hid h2
  have M2 : Hid (Mod (Two2 g p) w w2) := mod_p m2
  have OP := Lib.hid (popen_in p g V n q w2 i h2.ix hi)
  clear h2 m2 RO LN
  rcases hbit with hb | hb
  · rw [hb] at OP hx
    have e1 : exc V (i + 1) = exc V i - 1 := by omega
    have EX := Lib.hid (excess_p p g V n q true w2 (i + 1) H2.out (by omega) (by omega))
    rw [show ((i + 1 : Nat) : Int) = (i : Int) + 1 by omega] at EX
    have hm0 := HB.out.1 (i + 1) (by omega)
    obtain ⟨y, hy⟩ : ∃ y, exc V (i + 1) = y := ⟨_, rfl⟩
    rw [hy] at EX hm0
    have HY := Lib.hid hy
    have E1 := Lib.hid e1
    clear hx hy e1 hb
    go_wp2_with (first
      | (go_at_call 14; refine OP.out.mono ?_; rintro e w' ⟨rfl, rfl⟩))
    refine EX.out.mono ?_
    rintro e w3 ⟨rfl, h3, m3⟩
    have H3 := Lib.hid h3
    have M3 : Hid (Mod (Two2 g p) w w3) := M2.out.two (mod_g m3)
    clear h3 m3 M2 EX
    by_cases hy0 : y = 0
    · have OK : Hid (RoundOK (exc V) i (-1)) := fun a ha => by
        obtain rfl : a = i + 1 := by have := E1.out; rcases ha with x | x <;> omega
        rw [if_pos (by rw [HY.out]; exact hy0)]
      subst hy0
      go_wp2_with fail
      go_ret2
      exact ⟨H3.out.le (by omega), M3.out, -1, rfl, OK.out, by omega, by omega⟩
    · have g0 : (y == 0) = false := by rw [beq_eq_false_iff_ne]; exact hy0
      have SK := Lib.hid (seek_b p g V n (q + 1) w3 (i + 1) (y - 1) H3.out (by omega) (by omega) (by omega) (by omega))
      rw [show ((i + 1 : Nat) : Int) = (i : Int) + 1 by omega] at SK
      have hyb := HE.out.bound (i + 1)
      rw [HY.out] at hyb
      have HY0 := Lib.hid hy0
      clear hy0
      go_wp2_with fail
      refine SK.out.mono ?_
      rintro e w4 ⟨h4, m4, j, rfl, hj⟩
      have H4 := Lib.hid h4
      have M4 : Hid (Mod (Two2 g p) w w4) := M3.out.two (mod_g m4)
      have hjl := hj.lt
      have OK : Hid (RoundOK (exc V) i (j : Int)) := fun a ha => by
        obtain rfl : a = i + 1 := by have := E1.out; rcases ha with x | x <;> omega
        rw [if_neg (by rw [HY.out]; exact HY0.out), HY.out]
        exact ⟨j, rfl, hj⟩
      clear h4 m4 hj SK
      go_wp2_with fail
      go_ret2
      exact ⟨H4.out, M4.out, j, rfl, OK.out, by omega, by omega⟩
  · rw [hb] at OP hx
    have e1 : exc V (i + 1) = exc V i + 1 := by omega
    have EX := Lib.hid (excess_p p g V n q true w2 i H2.out (by omega) (by omega))
    have hm0 := HB.out.1 i (by omega)
    obtain ⟨y, hy⟩ : ∃ y, exc V i = y := ⟨_, rfl⟩
    rw [hy] at EX hm0
    have HY := Lib.hid hy
    have E1 := Lib.hid e1
    clear hx hy e1 hb
    go_wp2_with (first
      | (go_at_call 14; refine OP.out.mono ?_; rintro e w' ⟨rfl, rfl⟩))
    refine EX.out.mono ?_
    rintro e w3 ⟨rfl, h3, m3⟩
    have H3 := Lib.hid h3
    have M3 : Hid (Mod (Two2 g p) w w3) := M2.out.two (mod_g m3)
    clear h3 m3 M2 EX
    by_cases hy0 : y = 0
    · have OK : Hid (RoundOK (exc V) i (-1)) := fun a ha => by
        obtain rfl : a = i := by have := E1.out; rcases ha with x | x <;> omega
        rw [if_pos (by rw [HY.out]; exact hy0)]
      subst hy0
      go_wp2_with fail
      go_ret2
      exact ⟨H3.out.le (by omega), M3.out, -1, rfl, OK.out, by omega, by omega⟩
    · have g0 : (y == 0) = false := by rw [beq_eq_false_iff_ne]; exact hy0
      have hi0 : 0 < i := by
        rcases Nat.eq_zero_or_pos i with x | x
        · exfalso; subst x; have := HE.out.zero; rw [HY.out] at this; exact hy0 this
        · exact x
      have SK := Lib.hid (seek_b p g V n (q + 1) w3 i (y - 1) H3.out (by omega) (by omega) (by omega) (by omega))
      have hyb := HE.out.bound i
      rw [HY.out] at hyb
      have HY0 := Lib.hid hy0
      clear hy0
      go_wp2_with fail
      refine SK.out.mono ?_
      rintro e w4 ⟨h4, m4, j, rfl, hj⟩
      have H4 := Lib.hid h4
      have M4 : Hid (Mod (Two2 g p) w w4) := M3.out.two (mod_g m4)
      have hjl := hj.lt
      have OK : Hid (RoundOK (exc V) i (j : Int)) := fun a ha => by
        obtain rfl : a = i := by have := E1.out; rcases ha with x | x <;> omega
        rw [if_neg (by rw [HY.out]; exact HY0.out), HY.out]
        exact ⟨j, rfl, hj⟩
      clear h4 m4 hj SK
      go_wp2_with fail
      go_ret2
      exact ⟨H4.out, M4.out, j, rfl, OK.out, by omega, by omega⟩
end
end Go.Proofs.YtdpejjokdncfnaaDoor
