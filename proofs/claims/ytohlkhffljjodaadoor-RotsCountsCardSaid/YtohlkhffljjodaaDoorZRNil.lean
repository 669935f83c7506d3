/- A nil map has no text; no bytes are no map; how often a line ends. -/
import Derived.Test.YtohlkhffljjodaaDoorZRClone
namespace Go.Proofs.YtohlkhffljjodaaDoor
open Go.RowKit
set_option linter.unusedVariables false
set_option maxRecDepth 20000
theorem print_nil (w : World) : Calls Tryd.prog 10 #[.pointer none] w fun e w' => e = .returned (.tuple #[.slice none 0 0, .int .i64 2]) ∧ w = w' := by
  go_enter Tryd.func10, Tryd.ntmps10
  go_wp2_with fail
  go_ret2
  exact ⟨rfl, rfl⟩
set_option maxHeartbeats 4000000 in
theorem rotsNil_walk (A : Option Addr) (n c : Nat) (l : List Int) (m : Int) (w : World) (h : Rd w w.heap.size A n (Z8 l)) (hl8 : Byt l) (hnc : n ≤ c) (hc : c ≤ maxLen)
    (hm : w.cell? ⟨0, 0, none⟩ = some (.int .i64 m)) :
    Calls Tryd.prog 5 #[.slice A n c] w fun e w' => e = .returned (.bool true) ∧ Below w.heap.size w w' := by
  unfold maxLen at hc
  have AW := Lib.hid (awake7_p m w hm)
  have hmlt := World.block_lt_of_cell? _ _ hm
  have HM := Lib.hid hm
  obtain ⟨k, hk1, hk2, hmin⟩ : ∃ k : Nat, k ≤ n ∧ k ≤ 100 ∧ ∀ w, (Builtin.min_ #[3, 3] 3 #[.int .i64 (n : Int), .int .i64 100]).run Tryd.prog w = .ok (.int .i64 (k : Int)) w := by
    refine ⟨min n 100, by omega, by omega, fun w => ?_⟩
    simp [Builtin.min_, Builtin.min2]
    repeat' split
    all_goals omega
  obtain ⟨bs, hbs, hbl, hcut⟩ : ∃ bs : List Int, Byt bs ∧ bs.length = k ∧ Rd w w.heap.size A k (Z8 bs) := by
    refine ⟨l.take k, fun b hb => hl8 b (List.mem_of_mem_take hb), ?_, ?_⟩
    · have := h.len; rw [Z8_len] at this; rw [List.length_take]; omega
    · have := h.take k hk1; rwa [← Z8_take] at this
  have HCUT := Lib.hid hcut
  have HBS := Lib.hid hbs
  have HBL := Lib.hid hbl
  have hkc : (k : Int) ≤ (c : Int) := by omega
  clear h hl8 hbs hbl hcut hm
  go_enter Tryd.func5, Tryd.ntmps5
  go_wp2_with fail
  refine AW.out.mono ?_
  rintro e w1 ⟨rfl, b1⟩
  have C1 := Lib.hid (fun c' => clone8 A k c' _ bs w1 (HCUT.out.below b1) (by omega))
  have B1 := Lib.hid b1
  clear b1 AW
  go_wp2_with fail
  refine (C1.out _).mono ?_
  rintro e w2 ⟨A1, c1, rfl, hc1, hm1', hA1, hown1, b2⟩
  rw [HBL.out] at hown1 hc1 ⊢
  have B2 : Hid (Below w.heap.size w w2) := B1.out.trans (b2.mono B1.out.size)
  have R2 := Lib.hid (Rd.ofOwn hown1)
  have hA1' := Lib.hid hA1
  clear hown1 b2 B1 C1 HCUT hA1 hkc hmin
  have PN := Lib.hid (print_nil w2)
  have HM2 := (B2.out.cell (p := ⟨0, 0, none⟩) hmlt).trans HM.out
  have PP := Lib.hid (parse_p none 0 0 0 [] m w2 (Rd.nil w2 0 none) (by intro b hb; cases hb) (by omega) (by simp [maxLen]) (fun _ => rfl) (by omega) (by omega) HM2)
  clear HM2
  go_wp2_with fail
  refine PN.out.mono ?_
  rintro e w3 ⟨rfl, rfl⟩
  go_wp2_with fail
  refine PP.out.mono ?_
  rintro e w3 ⟨b3, hv⟩
  rw [nil_lines] at hv
  simp only at hv
  unfold NoMap at hv
  subst hv
  have B3 : Hid (Below w.heap.size w w3) := B2.out.trans (b3.mono B2.out.size)
  have R3 : Hid (Rd w3 w2.heap.size A1 k (Z8 bs)) := R2.out.below b3
  clear b3 PN PP R2
  have LP := Lib.hid (lines_p A1 k c1 _ bs w3 R3.out HBS.out hA1'.out)
  have LC := Lib.hid (fun j (hj : j ≤ bs.length) => List.Sublist.count_le (10 : Int) (List.take_sublist j bs))
  have CN := Lib.hid (fun j (hj : j < k) => show (bs.take (j + 1)).count (10 : Int) = (bs.take j).count 10 + if bs.getD j 0 = 10 then 1 else 0 by
    rw [List.take_succ_eq_append_getElem (by rw [HBL.out]; exact hj), List.count_append, List.getD_eq_getElem?_getD, List.getElem?_eq_getElem (by rw [HBL.out]; exact hj)]
    simp [List.count_cons, List.count_nil])
  have CL := Lib.hid (fun j => Nat.le_trans (List.count_le_length (a := (10 : Int)) (l := bs.take j)) (List.length_take_le j bs))
  go_wp2_with fail
  go_loop [8, 30] (fun x i => ∃ j : Nat, j ≤ k ∧ i = .int .i64 (j : Int) ∧ ∃ q : Nat, x = .int .i64 (q : Int) ∧ Hid (q = (bs.take j).count (10 : Int)) ∧ q ≤ j) (fun _ i => k - (intOf i).toNat)
  case atStart => exact ⟨0, Nat.zero_le _, rfl, 0, rfl, by show _ = _; simp, by omega⟩
  case round =>
    obtain ⟨j, hj, rfl, q, rfl, hq, hqj⟩ := hrel
    by_cases hlt : j < k
    · have hltI : (j : Int) < (k : Int) := by omega
      obtain ⟨b, o, rfl, hb, hcell⟩ := R3.out.z8 (by omega)
      have c0 := hcell j hlt
      have cn := CN.out j hlt
      have HCN := Lib.hid cn
      clear hcell cn
      by_cases h10 : bs.getD j 0 = 10
      · have HC := Lib.hid h10
        rw [h10] at c0
        clear h10
        go_wp2_with fail
        go_round
        case rel => exact ⟨j + 1, by omega, by go_num, q + 1, by go_num, by show _ = _; rw [HCN.out, if_pos HC.out, hq.out], by omega⟩
        case measure => simp [intOf]; omega
      · have hne : (bs.getD j 0 == 10) = false := beq_eq_false_iff_ne.2 h10
        have HC := Lib.hid h10
        clear h10
        generalize bs.getD j 0 = x at *
        go_wp2_with fail
        go_round
        case rel => exact ⟨j + 1, by omega, by go_num, q, rfl, by show _ = _; rw [HCN.out, if_neg HC.out, hq.out]; rfl, by omega⟩
        case measure => simp [intOf]; omega
    · obtain rfl : j = k := by omega
      have hqe : q = bs.count (10 : Int) := by rw [hq.out, List.take_of_length_le (by rw [HBL.out]; omega)]
      rw [← hqe] at LP
      clear hqe hq LC CN CL hlt
      go_wp2_with fail
      refine LP.out.mono ?_
      rintro e w4 ⟨rfl, b4⟩
      go_wp2_with fail
      go_ret
      exact ⟨rfl, B3.out.trans (b4.mono B3.out.size)⟩
end Go.Proofs.YtohlkhffljjodaaDoor
