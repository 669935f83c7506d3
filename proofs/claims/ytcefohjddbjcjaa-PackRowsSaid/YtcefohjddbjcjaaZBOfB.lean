/- bits.Of: a vector of bytes. -/
import Derived.Test.YtcefohjddbjcjaaZBLike
namespace Go.Proofs.Ytcefohjddbjcjaa
open Go.RowKit
set_option linter.unusedVariables false

theorem numL_take (b s : Nat) (hs : s ≤ 8) : (numL b 8).take s = numL b s := by
  simp only [numL, ← List.map_take, List.take_range, Nat.min_eq_left hs]
theorem flat_cut (bs : List Nat) (k s : Nat) (hk : k < bs.length) (hs : s ≤ 8) : (bs.flatMap fun b => numL b 8).take (8 * k + s) = ((bs.take k).flatMap fun b => numL b 8) ++ numL (bs.getD k 0) s := by
  have e : bs = bs.take k ++ (bs.getD k 0 :: bs.drop (k + 1)) := by
    rw [List.getD_eq_getElem?_getD, List.getElem?_eq_getElem hk, Option.getD_some, ← List.drop_eq_getElem_cons hk, List.take_append_drop]
  have hl : ((bs.take k).flatMap fun b => numL b 8).length = 8 * k := by rw [flat_len, List.length_take, Nat.min_eq_left (by omega)]
  conv => lhs; rw [e, List.flatMap_append, List.flatMap_cons]
  rw [← hl, List.take_length_add_append, List.take_append_of_le_length (by rw [numL_len]; exact hs), numL_take _ _ hs]
theorem few_cut (bs : List Nat) (n k : Nat) (hk : k < bs.length) (hn : 8 * k < n) : (few bs n).take (8 * (k + 1)) = (few bs n).take (8 * k) ++ numL (bs.getD k 0) (min 8 (n - 8 * k)) := by
  have h1 : (few bs n).take (8 * (k + 1)) = (bs.flatMap fun b => numL b 8).take (8 * k + min 8 (n - 8 * k)) := by
    rw [few, List.take_take]; congr 1; omega
  have h2 : (few bs n).take (8 * k) = ((bs.take k).flatMap fun b => numL b 8) := by
    have := flat_cut bs k 0 hk (by omega)
    rw [few, List.take_take, Nat.min_eq_left (by omega), ← Nat.add_zero (8 * k), this]
    simp [numL]
  rw [h1, h2, flat_cut bs k _ hk (by omega)]
theorem min_8 (n i : Nat) (hi : 8 * i < n) (hn : n ≤ 1000000) : ∃ s : Nat, Hid (s = min 8 (n - 8 * i)) ∧ 1 ≤ s ∧ s ≤ 8 ∧ ∀ w, (Builtin.min_ #[3, 3] 3 #[.int .i64 8, .int .i64 ((n : Int) - (i : Int) * 8)]).run Try.prog w = .ok (.int .i64 (s : Int)) w := by
  refine ⟨min 8 (n - 8 * i), rfl, by omega, by omega, fun w => ?_⟩
  simp [Builtin.min_, Builtin.min2]
  repeat' split
  all_goals omega
theorem bof_neg (A : Option Addr) (m c : Nat) (n : Int) (w : World) (hn : n < 0) :
    Calls Try.prog 44 #[.slice A m c, .int .i64 n] w fun e w' => e = .returned (.tuple #[.pointer none, .int .i64 1]) ∧ w = w' := by
  go_enter Try.func44, Try.ntmps44
  go_wp2_with fail
  go_ret2
  exact ⟨rfl, rfl⟩
theorem bof_len (A : Option Addr) (m c n : Nat) (w : World) (hn : n ≤ 9223372036854775807) (hm : m ≠ (n + 7) / 8) :
    Calls Try.prog 44 #[.slice A m c, .int .i64 (n : Int)] w fun e w' => e = .returned (.tuple #[.pointer none, .int .i64 1]) ∧ w = w' := by
  have BF := Lib.hid (bytesFor_p n w hn)
  have hne : ((m : Int) != (((n + 7) / 8 : Nat) : Int)) = true := by rw [bne_iff_ne]; omega
  generalize (n + 7) / 8 = q at *
  clear hm
  go_enter Try.func44, Try.ntmps44
  go_wp2_with fail
  refine BF.out.mono ?_
  rintro e w' ⟨rfl, rfl⟩
  go_wp2_with fail
  go_ret2
  exact ⟨rfl, rfl⟩
set_option maxHeartbeats 1000000 in
theorem bof_form (A : Option Addr) (m c n r B : Nat) (bs : List Nat) (w : World) (h : Rd w B A m (U8 bs)) (hn : n ≤ 1000000) (hm : m = (n + 7) / 8) (hr : r = n % 8) (hr0 : r ≠ 0) (hx : bs.getD (m - 1) 0 / 2 ^ r ≠ 0) :
    Calls Try.prog 44 #[.slice A m c, .int .i64 (n : Int)] w fun e w' => e = .returned (.tuple #[.pointer none, .int .i64 3]) ∧ w = w' := by
  have BF := bytesFor_p n w (by omega)
  rw [← hm] at BF
  have BFH := Lib.hid BF
  obtain ⟨q, hq⟩ : ∃ q, m = q + 1 := ⟨m - 1, by omega⟩
  subst hq
  rw [Nat.add_sub_cancel] at hx
  obtain ⟨b, o, rfl, _, k1⟩ := h.u8 (by omega)
  have t1 := k1 q (by omega)
  have hr8 : r < 8 := by omega
  have hr1 : (n : Int) % 8 = (r : Int) := by omega
  have hr2 : ((r : Int) != 0) = true := by rw [bne_iff_ne]; omega
  have hq9 : q ≤ 1000000 := by omega
  obtain ⟨y, hy⟩ : ∃ y, y = bs.getD q 0 / 2 ^ r := ⟨_, rfl⟩
  have hy1 : ((bs.getD q 0 : Nat) : Int) / 2 ^ r = (y : Int) := by rw [hy]; simp
  have hy2 : ((y : Int) != 0) = true := by rw [bne_iff_ne, hy]; omega
  clear BF h k1 hx hm hr hr0 hy
  generalize bs.getD q 0 = x at *
  go_enter Try.func44, Try.ntmps44
  go_wp2_with fail
  refine BFH.out.mono ?_
  rintro e w' ⟨rfl, rfl⟩
  go_wp2_with fail
  go_ret2
  exact ⟨rfl, rfl⟩
set_option maxHeartbeats 4000000 in
theorem bof_ok (A : Option Addr) (m c n B : Nat) (bs : List Nat) (w : World) (h : Rd w B A m (U8 bs)) (hB : B ≤ w.heap.size) (hbs : ∀ b ∈ bs, b < 256) (hn : n + 64 ≤ 1000000) (hm : m = (n + 7) / 8) (hx : n % 8 = 0 ∨ bs.getD (m - 1) 0 / 2 ^ (n % 8) = 0) :
    Calls Try.prog 44 #[.slice A m c, .int .i64 (n : Int)] w fun e w' => ∃ g A', e = .returned (.tuple #[.pointer (some ⟨g, 0, none⟩), .int .i64 0]) ∧ VecAt w' g (val (few bs n)) n A' ∧ w.heap.size ≤ g ∧ Below w.heap.size w w' := by
  have hl : bs.length = m := by rw [← h.len, U8_len]
  have BF := bytesFor_p n w (by omega)
  rw [← hm] at BF
  have BFH := Lib.hid BF
  have HL := Lib.hid hl
  have HM := Lib.hid hm
  have hlen : (few bs n).length = n := by rw [few_len]; omega
  have HLN := Lib.hid hlen
  have HBS : Hid (∀ k, bs.getD k 0 < 256) := fun k => by
    by_cases hk : k < bs.length
    · rw [List.getD_eq_getElem?_getD, List.getElem?_eq_getElem hk]; exact hbs _ (List.getElem_mem hk)
    · rw [List.getD_eq_getElem?_getD, List.getElem?_eq_none (by omega)]; decide
  have H := Lib.hid h
  have NW := Lib.hid (bnew_p w)
  obtain ⟨r, hr⟩ : ∃ r, r = n % 8 := ⟨_, rfl⟩
  rw [← hr] at hx
  have hr8 : r < 8 := by omega
  have hr1 : (n : Int) % 8 = (r : Int) := by omega
  have hm9 : m ≤ 1000000 := by omega
  have hn9 : n ≤ 1000000 := by omega
  have hbit : (r = 0 ∧ ((r : Int) != 0) = false) ∨ (((r : Int) != 0) = true ∧ 0 < m ∧ bs.getD (m - 1) 0 / 2 ^ r = 0) := by
    rcases Nat.eq_zero_or_pos r with h0 | h0
    · exact .inl ⟨h0, by rw [h0]; rfl⟩
    · exact .inr ⟨by rw [bne_iff_ne]; omega, by omega, hx.resolve_left (by omega)⟩
  clear BF h hx hm hr hl hlen hbs
  rcases hbit with ⟨rfl, hr2⟩ | ⟨hr2, hm0, hx⟩
  focus (
    go_enter Try.func44, Try.ntmps44
    go_wp2_with fail
    refine BFH.out.mono ?_
    rintro e w' ⟨rfl, rfl⟩
    go_wp2_with fail)
  rotate_left
  focus (
    obtain ⟨q, hq⟩ : ∃ q, m = q + 1 := ⟨m - 1, by omega⟩
    subst hq
    rw [Nat.add_sub_cancel] at hx
    obtain ⟨b, o, rfl, _, k1⟩ := H.out.u8 (by omega)
    have t1 := k1 q (by omega)
    have hy1 : ((bs.getD q 0 : Nat) : Int) / 2 ^ r = 0 := by
      have : ((bs.getD q 0 : Nat) : Int) / 2 ^ r = ((bs.getD q 0 / 2 ^ r : Nat) : Int) := by simp
      rw [this, hx]; rfl
    clear k1 hx
    generalize hgx : bs.getD q 0 = x at *
    clear hgx
    go_enter Try.func44, Try.ntmps44
    go_wp2_with fail
    refine BFH.out.mono ?_
    rintro e w' ⟨rfl, rfl⟩
    go_wp2_with fail
    clear t1 hy1
    generalize hqm : q + 1 = m at *
    clear hqm)
  all_goals (
    refine NW.out.mono ?_
    rintro e w1 ⟨rfl, hv1, hb1⟩
    have HV1 := Lib.hid hv1
    have HB1 := Lib.hid hb1
    clear hv1 hb1
    clear BFH NW hr8 hr1 hr2
    go_wp2_with fail
    go_loopw [36] (fun i wr => ∃ (k : Nat) (Ak : Option Addr), k ≤ m ∧ i = .int .i64 (k : Int) ∧ Hid (VecAt wr w.heap.size (val ((few bs n).take (8 * k))) ((few bs n).take (8 * k)).length Ak) ∧ Hid (Below w.heap.size w wr)) (fun i _ => m - (intOf i).toNat)
    case atStart => exact ⟨0, none, by omega, rfl, by show VecAt _ _ _ _ _; have := HV1.out; simpa [val] using this, HB1.out⟩
    case round =>
      obtain ⟨k, Ak, hk, rfl, hvk, hbl⟩ := hrel
      by_cases hlt : k < m
      · have hr := H.out.below (hbl.out.mono hB)
        obtain ⟨b, o, hA, _, k1⟩ := hr.u8 (by omega)
        cases hA
        have t1 := k1 k hlt
        have h8k : 8 * k < n := by have := HM.out; omega
        obtain ⟨s, hs, hs1, hs8, hmin⟩ := min_8 n k h8k hn9
        have hb0 := HBS.out k
        have hcut := few_cut bs n k (by rw [HL.out]; exact hlt) h8k
        rw [← hs.out] at hcut
        have hll : ((few bs n).take (8 * k)).length + 64 ≤ 1000000 := by rw [List.length_take]; omega
        have NM := num_p w.heap.size (val ((few bs n).take (8 * k))) ((few bs n).take (8 * k)).length (bs.getD k 0) (s : Int) Ak wr hvk.out (by omega) (by omega) hll
        rw [cnt64_nat (by omega), put_numL, ← hcut] at NM
        have hl2 : ((few bs n).take (8 * k)).length + s = ((few bs n).take (8 * (k + 1))).length := by rw [hcut, List.length_append, numL_len]
        rw [hl2] at NM
        have NMH := Lib.hid NM
        have hk9 : k ≤ 1000000 := by omega
        clear hr k1 NM hcut hll hl2
        generalize bs.getD k 0 = x at *
        have hx64 : (x : Int) % 18446744073709551616 = (x : Int) := by omega
        go_wp2_with fail
        refine NMH.out.mono ?_
        rintro e w2 hp
        have hb2 := hp.below hvk.out
        obtain ⟨rfl, A2, hv2, _, _⟩ := hp
        have hb3 : Below w.heap.size w w2 := hbl.out.trans hb2
        go_wp2_with fail
        go_roundw
        case rel => exact ⟨k + 1, A2, by omega, by go_num, hv2, hb3⟩
        case measure => simp [intOf]; omega
      · obtain rfl : k = m := by omega
        have e1 : (few bs n).take (8 * k) = few bs n := List.take_of_length_le (by rw [HLN.out]; have := HM.out; omega)
        rw [e1, HLN.out] at hvk
        clear e1
        go_wp2_with fail
        go_ret2
        exact ⟨_, Ak, rfl, hvk.out, Nat.le_refl _, hbl.out⟩)
end Go.Proofs.Ytcefohjddbjcjaa
