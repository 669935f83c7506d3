/- Is a number among ints (slices.Index, slices.Contains)? May these be a line's numbers? -/
import Derived.Test.YtohlkhffljjodaaDoorZRNum
namespace Go.Proofs.YtohlkhffljjodaaDoor
open Go.RowKit
set_option linter.unusedVariables false
set_option maxRecDepth 20000
set_option linter.unusedVariables false
set_option maxHeartbeats 4000000 in
theorem indexI_p (A : Option Addr) (n c B : Nat) (K : List Int) (v : Int) (w : World) (h : Rd w B A n (I64 K)) (hn : n ≤ 2000000) :
    Calls Tryd.prog 67 #[.slice A n c, .int .i64 v] w fun e w' => ∃ z : Int, e = .returned (.int .i64 z) ∧ (0 ≤ z ↔ v ∈ K) ∧ w = w' := by
  have HR := Lib.hid h
  have hKl : Hid (K.length = n) := by show _ = _; rw [← h.len, I64_len]
  clear h
  go_enter Tryd.func67, Tryd.ntmps67
  go_wp2_with fail
  go_loopw [8] (fun i wr => ∃ k : Nat, k ≤ n ∧ i = .int .i64 (k : Int) ∧ Hid (∀ j, j < k → K.getD j 0 ≠ v) ∧ w = wr) (fun i _ => n - (intOf i).toNat)
  case atStart => exact ⟨0, by omega, rfl, fun j hj => absurd hj (by omega), by first | rfl | trivial⟩
  case round =>
    obtain ⟨k, hk, rfl, hno, rfl⟩ := hrel
    by_cases hlt : k < n
    · obtain ⟨b, o, rfl, _, kk⟩ := HR.out.i64 (by omega)
      have t1 := kk k hlt
      obtain ⟨x, hx⟩ : ∃ x, x = K.getD k 0 := ⟨_, rfl⟩
      rw [← hx] at t1
      have HX := Lib.hid hx
      clear kk hx
      by_cases hv : v = x
      · subst hv
        have hm : Hid (v ∈ K) := by
          show _ ∈ _
          rw [HX.out, List.getD_eq_getElem?_getD, List.getElem?_eq_getElem (by rw [hKl.out]; exact hlt)]
          exact List.getElem_mem _
        go_wp2_with fail
        go_ret
        exact ⟨k, rfl, ⟨fun _ => hm.out, fun _ => by omega⟩, rfl⟩
      · have hb : (v == x) = false := by rw [beq_eq_false_iff_ne]; exact hv
        go_wp2_with fail
        go_roundw
        case rel =>
          refine ⟨k + 1, by omega, by go_num, fun j hj => ?_, by first | rfl | trivial⟩
          by_cases e : j = k
          · subst e; rw [← HX.out]; exact fun q => hv q.symm
          · exact hno.out j (by omega)
        case measure => simp [intOf]; omega
    · obtain rfl : k = n := by omega
      have hm : Hid (¬ v ∈ K) := by
        show ¬ _
        intro q
        obtain ⟨j, hj, e⟩ := List.getElem_of_mem q
        refine hno.out j (by have := hKl.out; omega) ?_
        rw [List.getD_eq_getElem?_getD, List.getElem?_eq_getElem hj]; exact e
      go_wp2_with fail
      go_ret
      exact ⟨-1, rfl, ⟨fun q => absurd q (by omega), fun q => absurd q hm.out⟩, rfl⟩
set_option maxHeartbeats 4000000 in
theorem containsI_p (A : Option Addr) (n c B : Nat) (K : List Int) (v : Int) (w : World) (h : Rd w B A n (I64 K)) (hn : n ≤ 2000000) :
    Calls Tryd.prog 57 #[.slice A n c, .int .i64 v] w fun e w' => e = .returned (.bool (decide (v ∈ K))) ∧ w = w' := by
  have IP := Lib.hid (indexI_p A n c B K v w h hn)
  clear h
  go_enter Tryd.func57, Tryd.ntmps57
  go_wp2_with fail
  refine IP.out.mono ?_
  rintro e w1 ⟨z, rfl, hz, rfl⟩
  have hd : decide (0 ≤ z) = decide (v ∈ K) := decide_eq_decide.2 hz
  have HD := Lib.hid hd
  clear hz hd IP
  go_wp2_with fail
  go_ret
  exact ⟨by first | (rw [← HD.out]; done) | (rw [← HD.out]; rfl) | (rw [← HD.out]; simp), rfl⟩
/-- May these be the numbers of the first line, or of another? -/
def fitsR (r : List Int) (first : Bool) : Bool :=
  if first then decide (r.length = 3) && decide (r.getD 0 0 ≠ -1) && decide (r.getD 2 0 ≠ -1) else !decide ((-1 : Int) ∈ r)
set_option maxHeartbeats 1000000 in
theorem fits_first (A : Option Addr) (n c B : Nat) (r : List Int) (w : World) (h : Rd w B A n (I64 r)) (hn : n ≤ 2000000) :
    Calls Tryd.prog 47 #[.slice A n c, .bool true] w fun e w' => e = .returned (.bool (fitsR r true)) ∧ w = w' := by
  have hl : r.length = n := by rw [← h.len, I64_len]
  by_cases h3 : n = 3
  · obtain ⟨b, o, rfl, _, kk⟩ := h.i64 (by omega)
    have t0 := kk 0 (by omega)
    have t2 := kk 2 (by omega)
    rw [Nat.add_zero] at t0
    have HR : Hid (fitsR r true = (decide (r.getD 0 0 ≠ -1) && decide (r.getD 2 0 ≠ -1))) := by
      show _ = _
      unfold fitsR
      rw [if_pos rfl, hl, h3]
      simp
    clear kk h hl
    subst h3
    generalize r.getD 0 0 = x at *
    generalize r.getD 2 0 = y at *
    by_cases hx : x = -1
    · subst hx
      go_enter Tryd.func47, Tryd.ntmps47
      go_wp2_with fail
      go_ret
      exact ⟨by rw [HR.out]; rfl, rfl⟩
    · have hx' : (x != -1) = true := bne_iff_ne.2 hx
      by_cases hy : y = -1
      · subst hy
        go_enter Tryd.func47, Tryd.ntmps47
        go_wp2_with fail
        go_ret
        exact ⟨by rw [HR.out]; simp, rfl⟩
      · have hy' : (y != -1) = true := bne_iff_ne.2 hy
        go_enter Tryd.func47, Tryd.ntmps47
        go_wp2_with fail
        go_ret
        exact ⟨by rw [HR.out]; simp [hx, hy], rfl⟩
  · have HR : Hid (fitsR r true = false) := by
      show _ = _
      unfold fitsR
      rw [if_pos rfl, hl]
      simp [h3]
    have h3e : ((n : Int) == 3) = false := beq_eq_false_iff_ne.2 (by omega)
    clear h hl
    go_enter Tryd.func47, Tryd.ntmps47
    go_wp2_with fail
    go_ret
    exact ⟨by rw [HR.out]; rfl, rfl⟩
theorem fits_other (A : Option Addr) (n c B : Nat) (r : List Int) (w : World) (h : Rd w B A n (I64 r)) (hn : n ≤ 2000000) :
    Calls Tryd.prog 47 #[.slice A n c, .bool false] w fun e w' => e = .returned (.bool (fitsR r false)) ∧ w = w' := by
  have CP := Lib.hid (containsI_p A n c B r (-1) w h hn)
  clear h
  go_enter Tryd.func47, Tryd.ntmps47
  go_wp2_with fail
  refine CP.out.mono ?_
  rintro e w1 ⟨rfl, rfl⟩
  go_wp2_with fail
  go_ret
  exact ⟨rfl, rfl⟩
theorem fits_p (A : Option Addr) (n c B : Nat) (r : List Int) (f : Bool) (w : World) (h : Rd w B A n (I64 r)) (hn : n ≤ 2000000) :
    Calls Tryd.prog 47 #[.slice A n c, .bool f] w fun e w' => e = .returned (.bool (fitsR r f)) ∧ w = w' := by
  cases f
  · exact fits_other A n c B r w h hn
  · exact fits_first A n c B r w h hn
end Go.Proofs.YtohlkhffljjodaaDoor
