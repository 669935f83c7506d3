/- math/bits.Len64 off the shelf, laid at this program. The number that bytes begin with: the program's GetNum. -/
import Derived.Test.YtcefohjddbjcjaaProg
import Derived.Test.YtcefohjddbjcjaaZg2
import Derived.Shelf.Strconv.Itoa0
import Derived.Test.YtcefohjddbjcjaaZPkRNum
namespace Go.Proofs.Ytcefohjddbjcjaa
open Go.Shelf
open Go.RowKit
set_option linter.unusedVariables false
def pln_ren : Go.Shelf.Ren := ⟨fun | 129 => 24 | n => n, fun | 3 => 3 | 4 => 4 | 5 => 5 | 9 => 9 | 46 => 52 | 53 => 22 | n => n, fun | n => n⟩
theorem pln129 : Lays.n129 Try.prog pln_ren := {
  mixed := by kernel_rfl
  f129 := Try.func24.trans (congrArg some (by kernel_rfl))
  t3 := Try.underlying3
  a3 := Try.isAgg3
  z3 := Try.sizeOf3
  v3 := Try.zeroValue3
  t4 := Try.underlying4
  a4 := Try.isAgg4
  z4 := Try.sizeOf4
  v4 := Try.zeroValue4
  t5 := Try.underlying5
  a5 := Try.isAgg5
  z5 := Try.sizeOf5
  v5 := Try.zeroValue5
  t9 := Try.underlying9
  a9 := Try.isAgg9
  z9 := Try.sizeOf9
  v9 := Try.zeroValue9
  t46 := Try.underlying52
  a46 := Try.isAgg52
  z46 := Try.sizeOf52
  v46 := Try.zeroValue52
  t53 := Try.underlying22
  a53 := Try.isAgg22
  z53 := Try.sizeOf22
  v53 := Try.zeroValue22 }
theorem len64_p (x : Int) (w : World) (h0 : 0 ≤ x) (h1 : x ≤ 18446744073709551615) :
    Calls Try.prog 24 #[.int .u64 x] w fun e w' => e = .returned (.int .i64 (Lib.bitLen x.toNat)) ∧ w' = w :=
  Any.bits_Len64 pln129 x w h0 h1
end Go.Proofs.Ytcefohjddbjcjaa
namespace Go.Proofs.Ytcefohjddbjcjaa
set_option maxRecDepth 20000
open Go.RowKit
set_option linter.unusedVariables false
theorem or_add {y d s : Nat} (h : y < 2 ^ s) (h64 : d * 2 ^ s + y < 2 ^ 64) : bits .or .u64 (y : Int) (IntKind.u64.wrap ((d : Int) * 2 ^ s)) = ((y + d * 2 ^ s : Nat) : Int) := by
  have hw : IntKind.u64.wrap ((d : Int) * 2 ^ s) = ((d * 2 ^ s : Nat) : Int) := by
    rw [wrap_u64, Nat.mod_eq_of_lt (by omega)]
  rw [hw, u64_or_nat _ _ (by omega) (by omega)]
  congr 1
  have := Nat.two_pow_add_eq_or_of_lt h d
  rw [Nat.or_comm, Nat.mul_comm d, ← this]; omega
theorem v128_next {bs : List Nat} {i : Nat} (hi : i < bs.length) : v128 (bs.take (i + 1)) = v128 (bs.take i) + bs.getD i 0 % 128 * 2 ^ (7 * i) := by
  have ht : bs.take (i + 1) = bs.take i ++ [bs.getD i 0] := by
    rw [List.take_add_one, List.getD_eq_getElem?_getD, List.getElem?_eq_getElem hi]; rfl
  rw [ht, v128_append, List.length_take, Nat.min_eq_left (by omega)]
  have h7 : (128 : Nat) ^ i = 2 ^ (7 * i) := by rw [Nat.pow_mul]
  rw [h7]
  simp [v128]
  rw [Nat.mul_comm]
theorem v128_take_lt (bs : List Nat) {i : Nat} (hi : i ≤ bs.length) : v128 (bs.take i) < 2 ^ (7 * i) := by
  have := v128_lt (bs.take i)
  rw [List.length_take, Nat.min_eq_left hi] at this
  rwa [Nat.pow_mul]
theorem fits {d i : Nat} (hd : d < 128) (h : Lib.bitLen d + 7 * i ≤ 64) {y : Nat} (hy : y < 2 ^ (7 * i)) : d * 2 ^ (7 * i) + y < 2 ^ 64 := by
  by_cases h0 : d = 0
  · subst h0
    have := Nat.pow_le_pow_right (show 0 < 2 by decide) (show 7 * i ≤ 64 by omega)
    omega
  · obtain ⟨g1, g2, g3⟩ := Lib.bitLenAux_bounds 64 d (by omega) h0
    have hlt : d < 2 ^ Lib.bitLen d := g3
    have h1 : (d + 1) * 2 ^ (7 * i) ≤ 2 ^ Lib.bitLen d * 2 ^ (7 * i) := Nat.mul_le_mul_right _ hlt
    rw [← Nat.pow_add] at h1
    have := Nat.pow_le_pow_right (show 0 < 2 by decide) h
    rw [Nat.add_mul, Nat.one_mul] at h1
    omega
/-- What GetNum comes to. -/
def GetPost (w : World) (bs : List Nat) (e : Ending) (w' : World) : Prop :=
  ((∃ x, Begins bs x ∧ e = .returned (.tuple #[.int .u64 (x : Int), .int .i64 ((numB x).length : Int), .int .i64 0])) ∨
   ((∀ x, ¬ Begins bs x) ∧ e = .returned (.tuple #[.int .u64 0, .int .i64 0, .int .i64 3]))) ∧ w = w'
set_option maxHeartbeats 2000000 in
theorem pkGet_p (A : Option Addr) (n c B : Nat) (bs : List Nat) (w : World) (h : Rd w B A n (U8 bs)) (hb : ∀ b ∈ bs, b < 256) (hn : n ≤ 1000000) :
    Calls Try.prog 12 #[.slice A n c] w (GetPost w bs) := by
  have hl : bs.length = n := by rw [← h.len, U8_len]
  have HL := Lib.hid hl
  have H := Lib.hid h
  have HB := Lib.hid hb
  clear h hl hb
  go_enter Try.func12, Try.ntmps12
  go_wp2_with fail
  go_loopw [5, 12] (fun v u wr => ∃ i y : Nat, v = .int .u64 (y : Int) ∧ u = .int .i64 (i : Int) ∧ i ≤ n ∧ i ≤ 10 ∧ Hid (y = v128 (bs.take i)) ∧ Hid (∀ j, j < i → 128 ≤ bs.getD j 0) ∧ wr = w) (fun _ u _ => n - (intOf u).toNat)
  case atStart => exact ⟨0, 0, rfl, rfl, by omega, by omega, by show _ = _; simp [v128], fun j hj => by omega, rfl⟩
  case round =>
    obtain ⟨i, y, rfl, rfl, hin, hi10, hy, hge, rfl⟩ := hrel
    by_cases hlt : i < n
    · obtain ⟨b0, o, rfl, hbB, hc⟩ := H.out.u8 (by omega)
      have ci := hc i hlt
      have hbb : bs.getD i 0 < 256 := by
        have hil : i < bs.length := by rw [HL.out]; exact hlt
        rw [List.getD_eq_getElem?_getD, List.getElem?_eq_getElem hil]
        exact HB.out _ (List.getElem_mem hil)
      have hil : i < bs.length := by rw [HL.out]; exact hlt
      have HIL := Lib.hid hil
      obtain ⟨s, hs⟩ : ∃ s, s = 7 * i := ⟨_, rfl⟩
      have hsi : (i : Int) * 7 = (s : Int) := by omega
      have hsb : s ≤ 70 := by omega
      obtain ⟨b, hbd⟩ : ∃ b, b = bs.getD i 0 := ⟨_, rfl⟩
      obtain ⟨d, hdd⟩ : ∃ d, d = b % 128 := ⟨_, rfl⟩
      have LN := Lib.hid (fun W => len64_p (d : Int) W (by omega) (by omega))
      rw [Int.toNat_natCast] at LN
      obtain ⟨q, hq⟩ : ∃ q, q = Lib.bitLen d := ⟨_, rfl⟩
      have hqb : q ≤ 8 := by rw [hq]; have := Lib.bitLen_le8 ⟨d, by omega⟩; exact this
      rw [← hq] at LN
      have hd128 : d < 128 := by omega
      have e1 : (b : Int) % 128 = (d : Int) := by omega
      have e1t : (b : Int).tmod 128 = (d : Int) := by rw [Int.tmod_eq_emod_of_nonneg (by omega)]; omega
      have HBD := Lib.hid hbd
      have HDD := Lib.hid hdd
      have HQ := Lib.hid hq
      have HS := Lib.hid hs
      rw [← hbd] at ci hbb
      clear hc hbd hdd hq hs hil
      by_cases hov : 64 < q + s
      · have NO : Hid (∀ x, ¬ Begins bs x) := fun x => begins_over hge.out HIL.out (by rw [← HBD.out, ← HDD.out, ← HQ.out, ← HS.out]; exact hov)
        have hovi : (64 : Int) < (q : Int) + (s : Int) := by omega
        go_wp2_with fail
        refine (LN.out _).mono ?_
        rintro e w1 ⟨rfl, rfl⟩
        go_wp2_with fail
        refine bodyPost_ret (results_tmp3 rfl _ _ _) rfl ?_
        exact ⟨.inr ⟨NO.out, rfl⟩, by first | rfl | trivial⟩
      · have hovi : ¬ (64 : Int) < (q : Int) + (s : Int) := by omega
        have hylt : y < 2 ^ (7 * i) := by rw [hy.out]; exact v128_take_lt bs (by have := HIL.out; omega)
        have hft : d * 2 ^ (7 * i) + y < 2 ^ 64 := fits hd128 (by rw [← HQ.out, ← HS.out]; omega) hylt
        have HOR : Hid (bits .or .u64 (y : Int) (IntKind.u64.wrap ((d : Int) * 2 ^ s)) = ((y + d * 2 ^ s : Nat) : Int)) := by
          show _ = _
          have h1 := HS.out
          subst h1
          exact or_add hylt hft
        have HY2 : Hid (y + d * 2 ^ s = v128 (bs.take (i + 1))) := by
          show _ = _
          rw [v128_next HIL.out, ← hy.out, ← HBD.out, ← HDD.out, HS.out]
        have hy64 : y + d * 2 ^ s < 18446744073709551616 := by rw [HS.out]; omega
        have HY64 := Lib.hid hy64
        have hs64 : s ≤ 64 := by omega
        clear hylt hft hy64
        by_cases hbig : 128 ≤ b
        · have hbi : (128 : Int) ≤ (b : Int) := by omega
          have HGE : Hid (∀ j, j < i + 1 → 128 ≤ bs.getD j 0) := fun j hj => by
            by_cases c : j = i
            · subst c; rw [← HBD.out]; exact hbig
            · exact hge.out j (by omega)
          have hi9 : i + 1 ≤ 10 := by have := HS.out; omega
          go_wp2_with fail
          refine (LN.out _).mono ?_
          rintro e w1 ⟨rfl, rfl⟩
          go_wp2_with fail
          go_roundw
          case rel => exact ⟨i + 1, y + d * 2 ^ s, by first | rfl | (rw [HOR.out]) | (exact congrArg (Value.int .u64) HOR.out), by go_num, by omega, hi9, HY2, HGE.out, by first | rfl | trivial⟩
          case measure => simp [intOf]; omega
        · have hbi : ¬ (128 : Int) ≤ (b : Int) := by omega
          by_cases hz : b = 0 ∧ 0 < i
          · obtain ⟨hz, hi0⟩ := hz
            have NO : Hid (∀ x, ¬ Begins bs x) := fun x => begins_zero hge.out HIL.out (by rw [← HBD.out]; exact hz) hi0
            have hbz : ((b : Int) == 0) = true := by rw [hz]; rfl
            have hbz2 : decide ((b : Int) = 0) = true := by rw [hz]; rfl
            have hbz3 : decide (b = 0) = true := by rw [hz]; rfl
            have hbz4 : (b == 0) = true := by rw [hz]; rfl
            have hii : (0 : Int) < (i : Int) := by omega
            clear hz
            go_wp2_with fail
            refine (LN.out _).mono ?_
            rintro e w1 ⟨rfl, rfl⟩
            go_wp2_with fail
            refine bodyPost_ret (results_tmp3 rfl _ _ _) rfl ?_
            exact ⟨.inr ⟨NO.out, rfl⟩, by first | rfl | trivial⟩
          · have HNB : Hid (numB (v128 (bs.take (i + 1))) = bs.take (i + 1)) := begins_yes HB.out hge.out HIL.out (by rw [← HBD.out]; omega) (by rw [← HBD.out]; omega)
            have YES : Hid (Begins bs (y + d * 2 ^ s) ∧ (numB (y + d * 2 ^ s)).length = i + 1) := by
              show _ ∧ _
              rw [HY2.out]
              refine ⟨⟨by rw [← HY2.out]; exact HY64.out, bs.drop (i + 1), by rw [HNB.out, List.take_append_drop]⟩, by rw [HNB.out, List.length_take]; have := HIL.out; omega⟩
            by_cases hb0 : b = 0
            · have hi0 : i = 0 := by omega
              have hii : ¬ (0 : Int) < (i : Int) := by omega
              have hbz : ((b : Int) == 0) = true := by rw [hb0]; rfl
              have hbz2 : decide ((b : Int) = 0) = true := by rw [hb0]; rfl
              have hbz3 : decide (b = 0) = true := by rw [hb0]; rfl
              have hbz4 : (b == 0) = true := by rw [hb0]; rfl
              clear hi0 hb0 hz
              go_wp2_with fail
              refine (LN.out _).mono ?_
              rintro e w1 ⟨rfl, rfl⟩
              go_wp2_with fail
              refine bodyPost_ret (results_tmp3 rfl _ _ _) rfl ?_
              exact ⟨.inl ⟨_, YES.out.1, by rw [YES.out.2, ← HOR.out]; rfl⟩, by first | rfl | trivial⟩
            · have hbz : ((b : Int) == 0) = false := by simp [hb0]
              have hbz2 : decide ((b : Int) = 0) = false := by simp [hb0]
              have hbz3 : decide (b = 0) = false := by simp [hb0]
              have hbz4 : (b == 0) = false := by simp [hb0]
              clear hz
              go_wp2_with fail
              refine (LN.out _).mono ?_
              rintro e w1 ⟨rfl, rfl⟩
              go_wp2_with fail
              refine bodyPost_ret (results_tmp3 rfl _ _ _) rfl ?_
              exact ⟨.inl ⟨_, YES.out.1, by rw [YES.out.2, ← HOR.out]; rfl⟩, by first | rfl | trivial⟩
    · obtain rfl : i = n := by omega
      have NO : Hid (∀ x, ¬ Begins bs x) := fun x => begins_no (fun j hj => hge.out j (by rw [HL.out] at hj; exact hj))
      go_wp2_with fail
      refine bodyPost_ret (results_tmp3 rfl _ _ _) rfl ?_
      exact ⟨.inr ⟨NO.out, rfl⟩, by first | rfl | trivial⟩
end Go.Proofs.Ytcefohjddbjcjaa
