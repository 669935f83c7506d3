/- The document's digits, and its text of a map. -/
import Derived.Test.YtohlkhffljjodaaDoorZRPrint2
import Derived.Laws.Concat
import Derived.Laws.Slices
import Derived.Shelf.Spec.RuneCount
namespace Go.Proofs.YtohlkhffljjodaaDoor
open Go.RowKit
set_option linter.unusedVariables false
set_option maxRecDepth 20000
theorem str_append (l m : List Int) : strOfNums (l ++ m) = strOfNums l ++ strOfNums m := by
  apply ByteArray.ext
  rw [ByteArray.data_append]
  simp [strOfNums]
theorem str_itoa (x : Int) : strOfNums (decB x) = ⟨(Lib.itoa x).toArray⟩ := by
  apply ByteArray.ext
  unfold strOfNums decB
  simp only [List.map_map]
  congr 1
  conv => rhs; rw [← List.map_id (Lib.itoa x)]
  apply List.map_congr_left
  intro b _
  simp
theorem digs_str (r : Nat) (hr : r < 10) (W : World) : (Instr.slice 9 (.string ⟨#[48, 49, 50, 51, 52, 53, 54, 55, 56, 57]⟩) (some (.int .i64 (r : Int))) (some (.int .i64 ((r : Int) + 1))) none).run Tryd.prog W = .ok (.string ⟨#[UInt8.ofNat (48 + r)]⟩) W := by
  have h := run_slice_string (P := Tryd.prog) W 9 ⟨#[48, 49, 50, 51, 52, 53, 54, 55, 56, 57]⟩ .i64 .i64 (r : Int) ((r : Int) + 1) Tryd.underlying9 (by omega) (by omega) (by show (r : Int) + 1 ≤ ((10 : Nat) : Int); omega)
  rw [h]
  have : r = 0 ∨ r = 1 ∨ r = 2 ∨ r = 3 ∨ r = 4 ∨ r = 5 ∨ r = 6 ∨ r = 7 ∨ r = 8 ∨ r = 9 := by omega
  rcases this with rfl | rfl | rfl | rfl | rfl | rfl | rfl | rfl | rfl | rfl <;> rfl
theorem dec_small (n : Nat) (h : n < 10) : strOfNums (decB (n : Int)) = ⟨#[UInt8.ofNat (48 + n)]⟩ := by
  rw [str_itoa]
  unfold Lib.itoa
  rw [if_neg (by omega), Int.toNat_natCast, Lib.decDigits_one h]
theorem dec_big (n : Nat) (h : ¬ n < 10) : strOfNums (decB (n : Int)) = strOfNums (decB ((n / 10 : Nat) : Int)) ++ ⟨#[UInt8.ofNat (48 + n % 10)]⟩ := by
  rw [str_itoa, str_itoa]
  unfold Lib.itoa
  rw [if_neg (by omega), if_neg (by omega), Int.toNat_natCast, Int.toNat_natCast]
  conv => lhs; rw [Lib.decDigits, dif_neg h]
  apply ByteArray.ext
  rw [ByteArray.data_append]
  simp
set_option maxHeartbeats 1000000 in
theorem dec_nat (k : Nat) : ∀ (n : Nat) (w : World), n ≤ k → n ≤ 1000000000000 →
    Calls Tryd.prog 30 #[.int .i64 (n : Int)] w fun e w' => e = .returned (.string (strOfNums (decB (n : Int)))) ∧ w = w' := by
  induction k with
  | zero =>
    intro n w hk _
    obtain rfl : n = 0 := by omega
    have SL' : ∀ W, (Instr.slice 9 (.string ⟨#[48, 49, 50, 51, 52, 53, 54, 55, 56, 57]⟩) (some (.int .i64 0)) (some (.int .i64 1)) none).run Tryd.prog W = .ok (.string ⟨#[48]⟩) W := fun W => digs_str 0 (by omega) W
    go_enter Tryd.func30, Tryd.ntmps30
    go_wp2_with fail
    go_ret
    exact ⟨by rw [dec_small 0 (by omega)]; rfl, rfl⟩
  | succ k ih =>
    intro n w hk hn
    obtain ⟨r, hr⟩ : ∃ r, r = n % 10 := ⟨_, rfl⟩
    obtain ⟨q, hq⟩ : ∃ q, q = n / 10 := ⟨_, rfl⟩
    have hrI : (n : Int) % 10 = (r : Int) := by omega
    have hqI : (n : Int) / 10 = (q : Int) := by omega
    have hr10 : r < 10 := by omega
    obtain ⟨c, hc⟩ : ∃ c : UInt8, c = UInt8.ofNat (48 + r) := ⟨_, rfl⟩
    have SL := digs_str r hr10
    rw [← hc] at SL
    have HR := Lib.hid hr
    have HQ := Lib.hid hq
    by_cases hs : n < 10
    · have D := Lib.hid (dec_small n hs)
      rw [show n = r by omega, ← hc] at D
      have HRN : Hid (r = n) := show r = n by omega
      clear hr hq hqI ih hc
      go_enter Tryd.func30, Tryd.ntmps30
      go_wp2_with fail
      go_ret
      exact ⟨by rw [← HRN.out, D.out]; rfl, rfl⟩
    · have D := Lib.hid (dec_big n hs)
      rw [← hq, ← hr, ← hc] at D
      have IH := Lib.hid (fun W => ih q W (by omega) (by omega))
      have hsz : (strOfNums (decB (q : Int))).size ≤ 21 := by rw [strOfNums_size]; exact decB_len _ (by omega) (by omega)
      obtain ⟨S, hS⟩ : ∃ S, S = strOfNums (decB (q : Int)) := ⟨_, rfl⟩
      rw [← hS] at IH D hsz
      have hcat : ∀ W, (Op.stringOp .add S ⟨#[c]⟩).run Tryd.prog W = .ok (.string (S ++ ⟨#[c]⟩)) W := fun W => run_string_add W _ _ (by omega) (by have : (⟨#[c]⟩ : ByteArray).size = 1 := rfl; omega)
      have hsI : ¬ ((n : Int) < 10) := by omega
      clear hr hq ih hS hc
      go_enter Tryd.func30, Tryd.ntmps30
      go_wp2_with fail
      refine (IH.out _).mono ?_
      rintro e w' ⟨rfl, rfl⟩
      go_wp2_with fail
      go_ret
      exact ⟨by rw [D.out]; rfl, rfl⟩
theorem dec_p (x : Int) (w : World) (h0 : -1 ≤ x) (h1 : x ≤ 1000000000000) : Calls Tryd.prog 30 #[.int .i64 x] w fun e w' => e = .returned (.string (strOfNums (decB x))) ∧ w = w' := by
  by_cases hx : 0 ≤ x
  · have := dec_nat x.toNat x.toNat w (Nat.le_refl _) (by omega)
    rw [Int.toNat_of_nonneg hx] at this
    exact this
  · obtain rfl : x = -1 := by omega
    have D := Lib.hid (dec_nat 1 1 w (by omega) (by omega))
    have e1 : strOfNums (decB ((1 : Nat) : Int)) = ⟨#[49]⟩ := dec_small 1 (by omega)
    rw [e1] at D
    have e2 : strOfNums (decB (-1)) = ⟨#[45]⟩ ++ ⟨#[49]⟩ := by
      rw [str_itoa]
      have : Lib.itoa (-1) = [45, 49] := by
        unfold Lib.itoa
        rw [if_pos (by omega), show (-1 : Int).natAbs = 1 from rfl, Lib.decDigits_one (by omega)]; rfl
      rw [this]; rfl
    have E2 := Lib.hid e2
    have hcat : ∀ W, (Op.stringOp .add ⟨#[45]⟩ ⟨#[49]⟩).run Tryd.prog W = .ok (.string (⟨#[45]⟩ ++ ⟨#[49]⟩)) W := fun W => run_string_add W _ _ (by decide) (by decide)
    clear e1 e2
    go_enter Tryd.func30, Tryd.ntmps30
    go_wp2_with fail
    refine D.out.mono ?_
    rintro e w' ⟨rfl, rfl⟩
    go_wp2_with fail
    go_ret
    exact ⟨by rw [E2.out]; rfl, rfl⟩
end Go.Proofs.YtohlkhffljjodaaDoor
