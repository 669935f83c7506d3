/- One orbit, as the program and as the document tell it. -/
import Derived.Test.YthbhbcakiaaapaaPMake
import Derived.Test.YthbhbcakiaaapaaPOrb
namespace Go.Proofs.Ythbhbcakiaaapaa
set_option maxRecDepth 20000
open Go.RowKit
set_option linter.unusedVariables false

def lenOf : Value → Nat | .slice _ n _ => n | _ => 0
theorem ofN_append (l m : List Nat) : ofN (l ++ m) = ofN l ++ ofN m := by simp [ofN]

set_option maxHeartbeats 1000000 in
theorem orbit_p (g : Nat) (l b : List Nat) (i : Nat) (w : World) (h : PermAt w g l b) (hi : i < l.length) :
    Calls Try.prog 86 #[.pointer (some ⟨g, 0, none⟩), .int .i64 (i : Int)] w (NewI64 w (ofN (orb l i))) := by
  have LP := Lib.hid (len_p g l b w h)
  obtain ⟨hinv, hl, A, c, A', c', hb, h1, h2⟩ := h
  obtain ⟨i0, hi0, hz0, hz1, hz2⟩ := info_parts info_int
  have s0 : w.cell? ⟨g, 0, none⟩ = some (.slice A l.length c) := hb.cell 0
  obtain ⟨ba, o, rfl, hba, hc⟩ := h1.i64 (by omega)
  have hci := hc i hi
  rw [ofN_get] at hci
  have hgl := hb.lt
  have PER := Lib.hid (per_is hinv hi)
  have hper := per_le hinv hi
  have hper1 := (per_is hinv hi).1
  have hown : (w.alloc (.cells #[.int .i64 (i : Int)] 3)).ownsRow w.heap.size 3 1 (.slice (some ⟨w.heap.size, 0, none⟩) 1 1) 1 (I64 (ofN (way l i 1))) := by
    have := World.ownsRow_lit (base := w.heap.size) (e := 3) (size := 1) w #[.int .i64 (i : Int)] 1 (Nat.le_refl _) (by simp [maxLen]) (by simp)
    simpa [way, ofN, I64, it] using this
  have HX : Hid (l.getD i 0 = it l 1 i) := rfl
  have hx1 := hinv.lt i hi
  have HINV := Lib.hid hinv
  have HC := Lib.hid hc
  have HO : Hid (orb l i = way l i (per l i)) := rfl
  clear hc h1 h2 hb hinv
  generalize l.getD i 0 = x1 at *
  generalize per l i = P at *
  have hdec : decide (l.length ≤ i) = false := decide_eq_false (by omega)
  go_enter Try.func86, Try.ntmps86
  go_wp2_with (go_at_call 51; refine LP.out.mono ?_; rintro e w' ⟨rfl, rfl⟩)
  go_loopw [5, 6] (fun v x wr => ∃ (k y : Nat) (Av : Option Addr) (cv : Nat), 1 ≤ k ∧ k ≤ P ∧ y = it l k i ∧ x = .int .i64 (y : Int) ∧ v = .slice Av k cv ∧ wr.ownsRow w.heap.size 3 1 (.slice Av k cv) k (I64 (ofN (way l i k))) ∧ Below w.heap.size w wr) (fun v _ _ => P - lenOf v)
  case atStart => exact ⟨1, x1, some ⟨w.heap.size, 0, none⟩, 1, by omega, hper1, HX.out, rfl, rfl, hown, (Below.refl _ _).alloc (Nat.le_refl _) _⟩
  case round =>
    clear hown hci
    obtain ⟨k, y, Av, cv, hk1, hk2, hy, rfl, rfl, hown, hbl⟩ := hrel
    have hyl : y < l.length := by rw [hy]; exact it_lt HINV.out hi k
    by_cases hend : k = P
    · have hyi : y = i := by rw [hy, hend]; exact PER.out.2.1
      have hne : ((y : Int) != (i : Int)) = false := by rw [hyi]; simp
      have HY := Lib.hid hend
      clear hyi hend hy
      go_wp2
      go_ret
      rw [HO.out, ← HY.out]
      refine .mk rfl ?_ hbl
      rw [ofN_len, way_len]
      exact hown
    · have hyi : y ≠ i := by rw [hy]; exact PER.out.2.2 k hk1 (by omega)
      have hne : ((y : Int) != (i : Int)) = true := by rw [bne_iff_ne]; omega
      have hcy := HC.out y hyl
      rw [ofN_get] at hcy
      have hcy' := (hbl.cell (p := ⟨ba, o + y, none⟩) hba).trans hcy
      have hg' := (hbl.cell (p := ⟨g, 0, none⟩) hgl).trans s0
      have NX : Hid (l.getD y 0 = it l (k + 1) i) := by show _ = _; rw [hy]; rfl
      have hxl := HINV.out.lt y hyl
      have hown3' := hown.alloc (.cells #[.int .i64 (y : Int)] 3)
      have r3 := Rd.new wr 3 #[.int .i64 (y : Int)] 1 (I64 [(y : Int)]) (by simp [I64]) (by simp)
      have t1 : k + 1 ≤ maxLen := by simp only [maxLen]; omega
      have t2 : (k + 1) * 8 ≤ 140737488355328 := by omega
      have t3 : w.heap.size ≤ (wr.alloc (.cells #[.int .i64 (y : Int)] 3)).heap.size := by have := hbl.size; simp; omega
      have hgw : g < wr.heap.size := Nat.lt_of_lt_of_le hgl hbl.size
      have hbw : ba < wr.heap.size := Nat.lt_of_lt_of_le hba hbl.size
      have WY : Hid (I64 (ofN (way l i k)) ++ I64 [(y : Int)] = I64 (ofN (way l i (k + 1)))) := by
        show _ = _
        rw [way_next, ofN_append, I64_append, ← hy]; rfl
      clear hcy hyi hy
      generalize l.getD y 0 = x2 at *
      go_wp2_with (first
        | (at_builtin; go_must (refine wpList_append_rd _ rfl _ _ 25 rfl w.heap.size 3 i0 (.int .i64 0) 8 Try.underlying25 hi0 hz0 hz1 hz2 rfl (.slice Av k cv) k (I64 (ofN (way l i k))) rfl hown3' (wr.heap.size + 1) (some ⟨wr.heap.size, 0, none⟩) 1 1 (I64 [(y : Int)]) rfl r3 (I64_one _) t1 t2 t3 ?_)))
      intro A6 c6 w6 hc6 hm6 hown6 hg6 _
      have hb6 : Below w.heap.size wr w6 := ((Below.refl w.heap.size wr).alloc hbl.size _).trans (Below.appended hown3' hg6 t3)
      have hg6' := (hb6.cell (p := ⟨g, 0, none⟩) hgl).trans hg'
      have hcy6 := (hb6.cell (p := ⟨ba, o + y, none⟩) hba).trans hcy'
      rw [WY.out] at hown6
      clear hg' hcy'
      go_wp2
      go_roundw
      case rel => exact ⟨k + 1, x2, A6, c6, by omega, by omega, NX.out, rfl, rfl, hown6, hbl.trans hb6⟩
      case measure => simp [lenOf]; omega
theorem orbit_out (g : Nat) (l b : List Nat) (i : Int) (w : World) (h : PermAt w g l b) (hi : i < 0 ∨ (l.length : Int) ≤ i) :
    Calls Try.prog 86 #[.pointer (some ⟨g, 0, none⟩), .int .i64 i] w fun e w' => e = .returned (.slice none 0 0) ∧ w = w' := by
  have HL := Lib.hid (len_p g l b w h)
  clear h
  rcases hi with hi | hi
  · go_enter Try.func86, Try.ntmps86
    go_wp2_with fail
    go_ret
    exact ⟨rfl, rfl⟩
  · have hi2 : ¬ i < 0 := by omega
    go_enter Try.func86, Try.ntmps86
    go_wp2_with (go_at_call 51; refine HL.out.mono ?_; rintro e w' ⟨rfl, rfl⟩)
    go_ret
    exact ⟨rfl, rfl⟩
theorem orbit_nil (i : Int) (w : World) :
    Calls Try.prog 86 #[.pointer none, .int .i64 i] w fun e w' => e = .returned (.slice none 0 0) ∧ w = w' := by
  by_cases hi : i < 0
  · go_enter Try.func86, Try.ntmps86
    go_wp2_with fail
    go_ret
    exact ⟨rfl, rfl⟩
  · go_enter Try.func86, Try.ntmps86
    go_wp2_with (go_at_call 51; refine (len_pnil _).mono ?_; rintro e w' ⟨rfl, rfl⟩)
    go_ret
    exact ⟨rfl, rfl⟩

set_option maxHeartbeats 1000000 in
theorem rorbit_p (A : Option Addr) (c B : Nat) (l b : List Nat) (i : Nat) (w : World) (h1 : Rd w B A l.length (I64 (ofN l))) (hinv : Inv l b) (hl : l.length ≤ 1000000) (hi : i < l.length) :
    Calls Try.prog 65 #[.slice A l.length c, .int .i64 (i : Int)] w (NewI64 w (ofN (orb l i))) := by
  obtain ⟨i0, hi0, hz0, hz1, hz2⟩ := info_parts info_int
  obtain ⟨ba, o, rfl, hbaB, hc⟩ := h1.lt.i64 (by omega)
  have hba := hbaB
  have hci := hc i hi
  rw [ofN_get] at hci
  have PER := Lib.hid (per_is hinv hi)
  have hper := per_le hinv hi
  have hper1 := (per_is hinv hi).1
  have hown : (w.alloc (.cells #[.int .i64 (i : Int)] 3)).ownsRow w.heap.size 3 1 (.slice (some ⟨w.heap.size, 0, none⟩) 1 1) 1 (I64 (ofN (way l i 1))) := by
    have := World.ownsRow_lit (base := w.heap.size) (e := 3) (size := 1) w #[.int .i64 (i : Int)] 1 (Nat.le_refl _) (by simp [maxLen]) (by simp)
    simpa [way, ofN, I64, it] using this
  have HX : Hid (l.getD i 0 = it l 1 i) := rfl
  have hx1 := hinv.lt i hi
  have HINV := Lib.hid hinv
  have HC := Lib.hid hc
  have HO : Hid (orb l i = way l i (per l i)) := rfl
  clear hc h1 hinv
  generalize l.getD i 0 = x1 at *
  generalize per l i = P at *
  go_enter Try.func65, Try.ntmps65
  go_wp2
  go_loopw [5, 6] (fun v x wr => ∃ (k y : Nat) (Av : Option Addr) (cv : Nat), 1 ≤ k ∧ k ≤ P ∧ y = it l k i ∧ x = .int .i64 (y : Int) ∧ v = .slice Av k cv ∧ wr.ownsRow w.heap.size 3 1 (.slice Av k cv) k (I64 (ofN (way l i k))) ∧ Below w.heap.size w wr) (fun v _ _ => P - lenOf v)
  case atStart => exact ⟨1, x1, some ⟨w.heap.size, 0, none⟩, 1, by omega, hper1, HX.out, rfl, rfl, hown, (Below.refl _ _).alloc (Nat.le_refl _) _⟩
  case round =>
    clear hown hci
    obtain ⟨k, y, Av, cv, hk1, hk2, hy, rfl, rfl, hown, hbl⟩ := hrel
    have hyl : y < l.length := by rw [hy]; exact it_lt HINV.out hi k
    by_cases hend : k = P
    · have hyi : y = i := by rw [hy, hend]; exact PER.out.2.1
      have hne : ((y : Int) != (i : Int)) = false := by rw [hyi]; simp
      have HY := Lib.hid hend
      clear hyi hend hy
      go_wp2
      go_ret
      rw [HO.out, ← HY.out]
      refine .mk rfl ?_ hbl
      rw [ofN_len, way_len]
      exact hown
    · have hyi : y ≠ i := by rw [hy]; exact PER.out.2.2 k hk1 (by omega)
      have hne : ((y : Int) != (i : Int)) = true := by rw [bne_iff_ne]; omega
      have hcy := HC.out y hyl
      rw [ofN_get] at hcy
      have hcy' := (hbl.cell (p := ⟨ba, o + y, none⟩) hba).trans hcy
      have NX : Hid (l.getD y 0 = it l (k + 1) i) := by show _ = _; rw [hy]; rfl
      have hxl := HINV.out.lt y hyl
      have hown3' := hown.alloc (.cells #[.int .i64 (y : Int)] 3)
      have r3 := Rd.new wr 3 #[.int .i64 (y : Int)] 1 (I64 [(y : Int)]) (by simp [I64]) (by simp)
      have t1 : k + 1 ≤ maxLen := by simp only [maxLen]; omega
      have t2 : (k + 1) * 8 ≤ 140737488355328 := by omega
      have t3 : w.heap.size ≤ (wr.alloc (.cells #[.int .i64 (y : Int)] 3)).heap.size := by have := hbl.size; simp; omega
      have hbw : ba < wr.heap.size := Nat.lt_of_lt_of_le hba hbl.size
      have WY : Hid (I64 (ofN (way l i k)) ++ I64 [(y : Int)] = I64 (ofN (way l i (k + 1)))) := by
        show _ = _
        rw [way_next, ofN_append, I64_append, ← hy]; rfl
      clear hcy hyi hy
      generalize l.getD y 0 = x2 at *
      go_wp2_with (first
        | (at_builtin; go_must (refine wpList_append_rd _ rfl _ _ 25 rfl w.heap.size 3 i0 (.int .i64 0) 8 Try.underlying25 hi0 hz0 hz1 hz2 rfl (.slice Av k cv) k (I64 (ofN (way l i k))) rfl hown3' (wr.heap.size + 1) (some ⟨wr.heap.size, 0, none⟩) 1 1 (I64 [(y : Int)]) rfl r3 (I64_one _) t1 t2 t3 ?_)))
      intro A6 c6 w6 hc6 hm6 hown6 hg6 _
      have hb6 : Below w.heap.size wr w6 := ((Below.refl w.heap.size wr).alloc hbl.size _).trans (Below.appended hown3' hg6 t3)
      have hcy6 := (hb6.cell (p := ⟨ba, o + y, none⟩) hba).trans hcy'
      rw [WY.out] at hown6
      clear hcy'
      go_wp2
      go_roundw
      case rel => exact ⟨k + 1, x2, A6, c6, by omega, by omega, NX.out, rfl, rfl, hown6, hbl.trans hb6⟩
      case measure => simp [lenOf]; omega
end Go.Proofs.Ythbhbcakiaaapaa
