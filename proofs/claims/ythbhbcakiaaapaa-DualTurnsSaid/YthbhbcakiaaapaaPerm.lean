/- The calls of permutations: what each answers. Nothing that was there is written. -/
import Derived.Test.YthbhbcakiaaapaaCloneI
import Derived.Test.YthbhbcakiaaapaaEqualI
import Derived.Test.YthbhbcakiaaapaaPMath
namespace Go.Proofs.Ythbhbcakiaaapaa
set_option maxRecDepth 20000
open Go.RowKit
set_option linter.unusedVariables false

/-- Block g is the permutation that l tells, with its way back b. -/
def PermAt (w : World) (g : Nat) (l b : List Nat) : Prop := Inv l b ∧ l.length ≤ 1000000 ∧ ∃ A c A' c', Blk w g 72 #[.slice A l.length c, .slice A' l.length c'] ∧ Rd w w.heap.size A l.length (I64 (ofN l)) ∧ Rd w w.heap.size A' l.length (I64 (ofN b))

theorem Rd.more {w w' : World} {n : Nat} {A : Option Addr} {xs : List Value} (h : Rd w w.heap.size A n xs) (m : Below w.heap.size w w') : Rd w' w'.heap.size A n xs := (h.below m).up m.size
theorem PermAt.below {w w' : World} {g : Nat} {l b : List Nat} (h : PermAt w g l b) (m : Below w.heap.size w w') : PermAt w' g l b := by
  obtain ⟨hi, hl, A, c, A', c', hb, h1, h2⟩ := h
  exact ⟨hi, hl, A, c, A', c', hb.below m, h1.more m, h2.more m⟩
theorem PermAt.lt {w : World} {g : Nat} {l b : List Nat} (h : PermAt w g l b) : g < w.heap.size := by
  obtain ⟨hi, hl, A, c, A', c', hb, h1, h2⟩ := h
  exact hb.lt

theorem len_p (g : Nat) (l b : List Nat) (w : World) (h : PermAt w g l b) :
    Calls Try.prog 51 #[.pointer (some ⟨g, 0, none⟩)] w fun e w' => e = .returned (.int .i64 (l.length : Int)) ∧ w = w' := by
  obtain ⟨hi, hl, A, c, A', c', hb, h1, h2⟩ := h
  have c0 : w.cell? ⟨g, 0, none⟩ = some (.slice A l.length c) := hb.cell 0
  go_enter Try.func51, Try.ntmps51
  go_wp2
  go_ret
  exact ⟨rfl, rfl⟩
theorem len_pnil (w : World) :
    Calls Try.prog 51 #[.pointer none] w fun e w' => e = .returned (.int .i64 0) ∧ w = w' := by
  go_enter Try.func51, Try.ntmps51
  go_wp2
  go_ret
  exact ⟨rfl, rfl⟩

theorem at_in (g : Nat) (l b : List Nat) (i : Nat) (w : World) (h : PermAt w g l b) (hi : i < l.length) :
    Calls Try.prog 30 #[.pointer (some ⟨g, 0, none⟩), .int .i64 (i : Int)] w fun e w' => e = .returned (.int .i64 ((l.getD i 0 : Nat) : Int)) ∧ w = w' := by
  have hlen := len_p g l b w h
  obtain ⟨hinv, hl, A, c, A', c', hb, h1, h2⟩ := h
  have c0 : w.cell? ⟨g, 0, none⟩ = some (.slice A l.length c) := hb.cell 0
  obtain ⟨ba, o, rfl, _, hc⟩ := h1.i64 (by omega)
  have hci := hc i hi
  rw [ofN_get] at hci
  have HL := Lib.hid hlen
  clear h1 h2 hb hinv
  generalize l.getD i 0 = x at *
  clear hc hlen
  go_enter Try.func30, Try.ntmps30
  go_wp2_with (go_at_call 51; refine HL.out.mono ?_; rintro e w' ⟨rfl, rfl⟩)
  go_ret
  exact ⟨rfl, rfl⟩
theorem back_in (g : Nat) (l b : List Nat) (i : Nat) (w : World) (h : PermAt w g l b) (hi : i < l.length) :
    Calls Try.prog 71 #[.pointer (some ⟨g, 0, none⟩), .int .i64 (i : Int)] w fun e w' => e = .returned (.int .i64 ((b.getD i 0 : Nat) : Int)) ∧ w = w' := by
  have hlen := len_p g l b w h
  obtain ⟨hinv, hl, A, c, A', c', hb, h1, h2⟩ := h
  have c1 : w.cell? ⟨g, 1, none⟩ = some (.slice A' l.length c') := hb.cell 1
  obtain ⟨ba, o, rfl, _, hc⟩ := h2.i64 (by omega)
  have hci := hc i hi
  rw [ofN_get] at hci
  have HL := Lib.hid hlen
  clear h1 h2 hb hinv
  generalize b.getD i 0 = x at *
  clear hc hlen
  go_enter Try.func71, Try.ntmps71
  go_wp2_with (go_at_call 51; refine HL.out.mono ?_; rintro e w' ⟨rfl, rfl⟩)
  go_ret
  exact ⟨rfl, rfl⟩
theorem at_out (g : Nat) (l b : List Nat) (i : Int) (w : World) (h : PermAt w g l b) (hi : i < 0 ∨ (l.length : Int) ≤ i) :
    Calls Try.prog 30 #[.pointer (some ⟨g, 0, none⟩), .int .i64 i] w fun e w' => e = .returned (.int .i64 (-1)) ∧ w = w' := by
  have hlen := len_p g l b w h
  have HL := Lib.hid hlen
  clear hlen h
  rcases hi with hi | hi
  · go_enter Try.func30, Try.ntmps30
    go_wp2_with fail
    go_ret
    exact ⟨rfl, rfl⟩
  · have hi2 : ¬ i < 0 := by omega
    go_enter Try.func30, Try.ntmps30
    go_wp2_with (go_at_call 51; refine HL.out.mono ?_; rintro e w' ⟨rfl, rfl⟩)
    go_ret
    exact ⟨rfl, rfl⟩
theorem back_out (g : Nat) (l b : List Nat) (i : Int) (w : World) (h : PermAt w g l b) (hi : i < 0 ∨ (l.length : Int) ≤ i) :
    Calls Try.prog 71 #[.pointer (some ⟨g, 0, none⟩), .int .i64 i] w fun e w' => e = .returned (.int .i64 (-1)) ∧ w = w' := by
  have hlen := len_p g l b w h
  have HL := Lib.hid hlen
  clear hlen h
  rcases hi with hi | hi
  · go_enter Try.func71, Try.ntmps71
    go_wp2_with fail
    go_ret
    exact ⟨rfl, rfl⟩
  · have hi2 : ¬ i < 0 := by omega
    go_enter Try.func71, Try.ntmps71
    go_wp2_with (go_at_call 51; refine HL.out.mono ?_; rintro e w' ⟨rfl, rfl⟩)
    go_ret
    exact ⟨rfl, rfl⟩
theorem at_nil (i : Int) (w : World) :
    Calls Try.prog 30 #[.pointer none, .int .i64 i] w fun e w' => e = .returned (.int .i64 (-1)) ∧ w = w' := by
  by_cases hi : i < 0
  · go_enter Try.func30, Try.ntmps30
    go_wp2_with fail
    go_ret
    exact ⟨rfl, rfl⟩
  · go_enter Try.func30, Try.ntmps30
    go_wp2_with (go_at_call 51; refine (len_pnil _).mono ?_; rintro e w' ⟨rfl, rfl⟩)
    go_ret
    exact ⟨rfl, rfl⟩
theorem back_nil (i : Int) (w : World) :
    Calls Try.prog 71 #[.pointer none, .int .i64 i] w fun e w' => e = .returned (.int .i64 (-1)) ∧ w = w' := by
  by_cases hi : i < 0
  · go_enter Try.func71, Try.ntmps71
    go_wp2_with fail
    go_ret
    exact ⟨rfl, rfl⟩
  · go_enter Try.func71, Try.ntmps71
    go_wp2_with (go_at_call 51; refine (len_pnil _).mono ?_; rintro e w' ⟨rfl, rfl⟩)
    go_ret
    exact ⟨rfl, rfl⟩

theorem list_p (g : Nat) (l b : List Nat) (w : World) (h : PermAt w g l b) :
    Calls Try.prog 66 #[.pointer (some ⟨g, 0, none⟩)] w (NewI64 w (ofN l)) := by
  obtain ⟨hinv, hl, A, c, A', c', hb, h1, h2⟩ := h
  have c0 : w.cell? ⟨g, 0, none⟩ = some (.slice A l.length c) := hb.cell 0
  go_enter Try.func66, Try.ntmps66
  go_wp2_with fail
  refine (cloneI_any A _ _ _ (ofN l) _ h1 (by omega)).mono ?_
  rintro e w2 ⟨A2, k2, rfl, hk2, hm2, hown2, hb2⟩
  go_wp2
  go_ret
  exact ⟨A2, k2, rfl, hk2, hm2, hown2, hb2⟩
theorem list_pnil (w : World) :
    Calls Try.prog 66 #[.pointer none] w fun e w' => e = .returned (.slice none 0 0) ∧ w = w' := by
  go_enter Try.func66, Try.ntmps66
  go_wp2
  go_ret
  exact ⟨rfl, rfl⟩

/-- An answer that is a new permutation. -/
def NewP (w : World) (l b : List Nat) (e : Ending) (w' : World) : Prop :=
  ∃ g, e = .returned (.pointer (some ⟨g, 0, none⟩)) ∧ PermAt w' g l b ∧ Below w.heap.size w w'

end Go.Proofs.Ythbhbcakiaaapaa
