/- RotsCounts: the walk. -/
import Derived.Test.YtohlkhffljjodaaDoorZRCntN
namespace Go.Proofs.YtohlkhffljjodaaDoor
open Go.RowKit
set_option linter.unusedVariables false
set_option maxRecDepth 20000
theorem three_is (f : List Int) (h : f.length = 3) : f = [f.getD 0 0, f.getD 1 0, f.getD 2 0] := by
  match f, h with
  | [a, b, c], _ => rfl
/-- What a text that is a map's is like. -/
theorem text_facts {T : List Int} {rs : List (List Int)} {l b : List Nat} (h : Inv l b) (he : l.length % 2 = 0) (hl : l.length < 1000000000) (hL : lineF 0 (splitL 10 T) = .ok rs) (ht : turnsR (rs.drop 1) ((rs.getD 0 []).getD 0 0) = some (ofN l)) :
    T.getD 0 0 ≠ 10 ∧ (∀ p, cntW true p T = 1 + l.length) ∧ (rs.length = (sizes l).length + 1) ∧ (textL l ((rs.getD 0 []).getD 1 0) ((rs.getD 0 []).getD 2 0)).length = T.length := by
  obtain ⟨k1, k2, k3, k4, k5, k6, k7⟩ := lines_are hL
  obtain ⟨b1, b2, b3⟩ := lines_back hL
  obtain ⟨f, rest, rfl⟩ : ∃ f rest, rs = f :: rest := by
    cases rs with
    | nil => exact absurd rfl k2
    | cons a c => exact ⟨a, c, rfl⟩
  simp only [List.drop_succ_cons, List.drop_zero, List.getD_cons_zero] at ht k3 k4 k5 ⊢
  have hf : f ≠ [] ∧ ∀ x ∈ f, -1 ≤ x := ⟨(b2 f (by simp)).1, fun x hx => ((b2 f (by simp)).2 x hx).1⟩
  have hrest : ∀ r ∈ rest, r ≠ [] ∧ ∀ x ∈ r, -1 ≤ x := fun r hr => ⟨(b2 r (by simp [hr])).1, fun x hx => ((b2 r (by simp [hr])).2 x hx).1⟩
  have hne : ∀ k, k < rest.length → rest.getD k [] ≠ [] := fun k hk => by
    rw [List.getD_eq_getElem?_getD, List.getElem?_eq_getElem hk]; exact (hrest _ (List.getElem_mem hk)).1
  have hpos : ∀ k, k < rest.length → ∀ i, i < (rest.getD k []).length → 0 ≤ (rest.getD k []).getD i 0 := fun k hk i hi => by
    have := k7 (k + 1) (by omega) (by simp; omega)
    rw [List.getD_cons_succ] at this
    exact (this _ (by rw [List.getD_eq_getElem?_getD (l := rest.getD k []), List.getElem?_eq_getElem hi]; exact List.getElem_mem _)).1
  obtain ⟨R, hE⟩ := turns_back h hpos ht
  obtain ⟨D, RD, eD, lD⟩ := rows_reps h R hne
  have hsum : (rest.map List.length).sum = l.length := by
    have := R.sum
    rwa [sumTo_sum _ _ (Nat.le_refl _), List.take_length] at this
  have eT : T = textD l D (f.getD 1 0) (f.getD 2 0) := by
    rw [b1, three_is f k3, eD]
    unfold textD
    congr 2
    rw [show f.getD 0 0 = ((l.length / 2 : Nat) : Int) by omega]; rfl
  refine ⟨by rw [b1]; exact lines_head hf, fun p => by rw [b1, cntW_all p hf hrest, hsum], ?_, ?_⟩
  · rw [List.length_cons, ← lD, reps_len h RD, sizes_len]; simp [orbits]
  · rw [textD_leads, textD_length h (Reps.leads h) hl, eT, textD_length h RD hl]
set_option maxHeartbeats 8000000 in
theorem rotsCounts_walk (A : Option Addr) (n c : Nat) (l0 : List Int) (mx : Int) (w : World) (h : Rd w w.heap.size A n (Z8 l0)) (hl8 : Byt l0) (hnc : n ≤ c) (hc : c ≤ maxLen)
    (hm : w.cell? ⟨0, 0, none⟩ = some (.int .i64 mx)) (htab : Lib.TabIs Tryd.prog w "internal/strconv.uint64pow10" .u64 Lib.pow10Tab) :
    Calls Tryd.prog 6 #[.slice A n c] w fun e w' => e = .returned (.bool true) ∧ Below w.heap.size w w' := by
  unfold maxLen at hc
  have AW := Lib.hid (awake7_p mx w hm)
  have hmlt := World.block_lt_of_cell? _ _ hm
  have HM := Lib.hid hm
  have HTB := Lib.hid (Lib.tabBelow_of_tabIs htab)
  obtain ⟨k, hk1, hk2, hmin⟩ : ∃ k : Nat, k ≤ n ∧ k ≤ 300 ∧ ∀ w, (Builtin.min_ #[3, 3] 3 #[.int .i64 (n : Int), .int .i64 300]).run Tryd.prog w = .ok (.int .i64 (k : Int)) w := by
    refine ⟨min n 300, by omega, by omega, fun w => ?_⟩
    simp [Builtin.min_, Builtin.min2]
    repeat' split
    all_goals omega
  obtain ⟨bs, hbs, hbl, hcut⟩ : ∃ bs : List Int, Byt bs ∧ bs.length = k ∧ Rd w w.heap.size A k (Z8 bs) := by
    refine ⟨l0.take k, fun b hb => hl8 b (List.mem_of_mem_take hb), ?_, ?_⟩
    · have := h.len; rw [Z8_len] at this; rw [List.length_take]; omega
    · have := h.take k hk1; rwa [← Z8_take] at this
  have HCUT := Lib.hid hcut
  have HBS := Lib.hid hbs
  have HBL := Lib.hid hbl
  have hkc : (k : Int) ≤ (c : Int) := by omega
  clear h hl8 hbs hbl hcut hm htab
  go_enter Tryd.func6, Tryd.ntmps6
  go_wp2_with fail
  refine AW.out.mono ?_
  rintro e w1 ⟨rfl, b1⟩
  have C1 := Lib.hid (fun c' => clone8 A k c' _ bs w1 (HCUT.out.below b1) (by omega))
  have B1 := Lib.hid b1
  clear b1 AW
  go_wp2_with fail
  refine (C1.out _).mono ?_
  rintro e w2 ⟨A1, c1, rfl, hc1, hm1', hA1, hown1, b2⟩
  rw [HBL.out] at hown1 hc1 ⊢
  have B2 : Hid (Below w.heap.size w w2) := B1.out.trans (b2.mono B1.out.size)
  have R2 := Lib.hid (Rd.ofOwn hown1)
  have HM2 := (B2.out.cell (p := ⟨0, 0, none⟩) hmlt).trans HM.out
  have PP := Lib.hid (parse_p A1 k c1 w2.heap.size bs mx w2 R2.out HBS.out hc1 hm1' hA1 (by omega) (Nat.le_refl _) HM2)
  clear hown1 b2 B1 C1 HCUT hA1 hkc hmin HM2
  go_wp2_with fail
  refine PP.out.mono ?_
  rintro e w3 ⟨b3, hv⟩
  have B3 : Hid (Below w.heap.size w w3) := B2.out.trans (b3.mono B2.out.size)
  have R3 := Lib.hid (R2.out.below b3)
  clear b3 PP R2
  have bad : ∀ E : Int, E ≠ 0 → (E != 0) = true := fun E h => bne_iff_ne.2 h
  cases hf : lineF 0 (splitL 10 bs) with
  | error q =>
    rw [hf] at hv
    simp only at hv
    unfold NoMap at hv
    subst hv
    clear hf bad
    go_wp2_with fail
    go_ret
    exact ⟨rfl, B3.out⟩
  | ok rs =>
    rw [hf] at hv
    simp only at hv
    cases ht : turnsR (rs.drop 1) ((rs.getD 0 []).getD 0 0) with
    | none =>
      rw [ht] at hv
      simp only at hv
      unfold NoMap at hv
      subst hv
      clear hf ht bad
      go_wp2_with fail
      go_ret
      exact ⟨rfl, B3.out⟩
    | some z =>
      rw [ht] at hv
      simp only at hv
      obtain ⟨E, hE, hn, hy⟩ := hv
      by_cases hE0 : E = 0
      · subst hE0
        obtain ⟨g, l, b, rfl, hz, hmp, hlo⟩ := hy rfl
        subst hz
        have hinv : Inv l b := by obtain ⟨_, _, p, A', c', S, d, q, A'', c'', S', d', hb', hp, _⟩ := hmp; exact hp.1
        have hlb := hmp.1
        have hl9 := hmp.2.1
        obtain ⟨t1, t2, t3, t4⟩ := text_facts hinv hlb.1 (by omega) hf ht
        have hrb : -1 ≤ (rs.getD 0 []).getD 1 0 ∧ (rs.getD 0 []).getD 1 0 < 1000000000 := by
          obtain ⟨_, b2', _⟩ := lines_back hf
          obtain ⟨_, k2', k3', _⟩ := lines_are hf
          cases rs with
          | nil => exact absurd rfl k2'
          | cons f rest =>
            simp only [List.getD_cons_zero] at k3' ⊢
            exact (b2' f (by simp)).2 _ (by rw [List.getD_eq_getElem?_getD, List.getElem?_eq_getElem (by omega)]; exact List.getElem_mem _)
        generalize (rs.getD 0 []).getD 1 0 = root at *
        generalize (rs.getD 0 []).getD 2 0 = lone at *
        obtain ⟨d, hd⟩ : ∃ d, d = (sizes l).length := ⟨_, rfl⟩
        have hdl : d ≤ 131072 := by rw [hd]; exact Nat.le_trans (sizes_le l) hl9
        rw [← hd] at t3
        rw [t3]
        have HD := Lib.hid hd
        have HMP := Lib.hid hmp
        have HT2 := Lib.hid t2
        have HT1 := Lib.hid t1
        have HT4 := Lib.hid t4
        have hlone := hlb.2
        clear hE hn hy hf ht hmp hlo hinv t1 t2 t4 t3 hd bad
        go_wp2_with fail
        go_loopw [6, 7, 32] (fun x y i wr => ∃ (j q : Nat) (fl : Bool), i = .int .i64 (j : Int) ∧ j ≤ k ∧ x = .int .i64 (q : Int) ∧ y = .bool fl ∧ q ≤ j ∧ Hid (q + cntW fl (bs.getD (j - 1) 0) (bs.drop j) = 1 + l.length) ∧ wr = w3) (fun _ _ i _ => k - (intOf i).toNat)
        case atStart => exact ⟨0, 0, true, rfl, by omega, rfl, rfl, by omega, by show _ = _; rw [List.drop_zero, HT2.out]; omega, rfl⟩
        case round =>
          obtain ⟨j, q, fl, rfl, hj, rfl, rfl, hqj, hq, rfl⟩ := hrel
          by_cases hlt : j < k
          · have hltI : (j : Int) < (k : Int) := by omega
            obtain ⟨b9, o9, rfl, hb9, k9⟩ := R3.out.z8 (by omega)
            have c9 := k9 j hlt
            have hdrop : bs.drop j = bs.getD j 0 :: bs.drop (j + 1) := by
              rw [List.getD_eq_getElem?_getD, List.getElem?_eq_getElem (by rw [HBL.out]; exact hlt)]
              exact List.drop_eq_getElem_cons (by rw [HBL.out]; exact hlt)
            have hq' := hq.out
            rw [hdrop] at hq'
            unfold cntW at hq'
            have hj1 : bs.getD j 0 = 10 → 1 ≤ j := fun e => by
              rcases Nat.eq_zero_or_pos j with c0 | c0
              · subst c0; exact absurd e HT1.out
              · exact c0
            by_cases h10 : bs.getD j 0 = 10
            · have hjp := hj1 h10
              have c8 := k9 (j - 1) (by omega)
              have hji : ((j : Int) - 1).toNat = j - 1 := by omega
              have hj0 : (1 : Int) ≤ (j : Int) := by omega
              rw [h10] at c9 hq'
              by_cases hp10 : bs.getD (j - 1) 0 = 10
              · rw [hp10] at c8
                have HN : Hid (q + cntW false (bs.getD (j + 1 - 1) 0) (bs.drop (j + 1)) = 1 + l.length) := by
                  show _ = _
                  rw [Nat.add_sub_cancel, h10, ← hq', if_neg (fun h => h.2.elim (fun e => absurd e (by decide)) (fun e => e.2 hp10)), Nat.zero_add]
                  cases fl <;> rfl
                clear hq' hq hdrop hj1 k9 h10 hp10
                cases fl
                all_goals (
                  go_wp2_with fail
                  go_roundw
                  case rel => exact ⟨j + 1, q, false, by go_num, by omega, rfl, rfl, by omega, HN.out, trivial⟩
                  case measure => simp [intOf]; omega)
              · have hne : (bs.getD (j - 1) 0 != 10) = true := bne_iff_ne.2 hp10
                have HN : Hid (q + 1 + cntW false (bs.getD (j + 1 - 1) 0) (bs.drop (j + 1)) = 1 + l.length) := by
                  show _ = _
                  rw [Nat.add_sub_cancel, h10, ← hq', if_pos (show ((fl && (10 : Int) != 10) = false) ∧ ((10 : Int) = 32 ∨ (10 : Int) = 10 ∧ _) from ⟨by cases fl <;> rfl, .inr ⟨rfl, hp10⟩⟩), Nat.add_assoc]
                  cases fl <;> rfl
                clear hq' hq hdrop hj1 k9 h10 hp10
                generalize bs.getD (j - 1) 0 = pv at *
                cases fl
                all_goals (
                  go_wp2_with fail
                  go_roundw
                  case rel => exact ⟨j + 1, q + 1, false, by go_num, by omega, by go_num, rfl, by omega, HN.out, trivial⟩
                  case measure => simp [intOf]; omega)
            · have hne10 : (bs.getD j 0 != 10) = true := bne_iff_ne.2 h10
              have hne10' : (bs.getD j 0 == 10) = false := beq_eq_false_iff_ne.2 h10
              have hpv : bs.getD (j + 1 - 1) 0 = bs.getD j 0 := by rw [Nat.add_sub_cancel]
              cases fl
              · by_cases h32 : bs.getD j 0 = 32
                · have HN : Hid (q + 1 + cntW false (bs.getD (j + 1 - 1) 0) (bs.drop (j + 1)) = 1 + l.length) := by
                    show _ = _
                    rw [hpv, ← hq', if_pos ⟨rfl, .inl h32⟩, Nat.add_assoc]; rfl
                  rw [h32] at c9
                  clear hq' hq hdrop hj1 k9 h10 hne10 hne10' hpv h32
                  go_wp2_with fail
                  go_roundw
                  case rel => exact ⟨j + 1, q + 1, false, by go_num, by omega, by go_num, rfl, by omega, HN.out, trivial⟩
                  case measure => simp [intOf]; omega
                · have hne32 : (bs.getD j 0 == 32) = false := beq_eq_false_iff_ne.2 h32
                  have HN : Hid (q + cntW false (bs.getD (j + 1 - 1) 0) (bs.drop (j + 1)) = 1 + l.length) := by
                    show _ = _
                    rw [hpv, ← hq', if_neg (fun h => h.2.elim (fun e => h32 e) (fun e => h10 e.1)), Nat.zero_add]; rfl
                  clear hq' hq hdrop hj1 k9 h10 hpv h32
                  generalize bs.getD j 0 = bv at *
                  go_wp2_with fail
                  go_roundw
                  case rel => exact ⟨j + 1, q, false, by go_num, by omega, rfl, rfl, by omega, HN.out, trivial⟩
                  case measure => simp [intOf]; omega
              · have HN : Hid (q + cntW true (bs.getD (j + 1 - 1) 0) (bs.drop (j + 1)) = 1 + l.length) := by
                  show _ = _
                  have ef : (true && bs.getD j 0 != 10) = true := by rw [hne10]; rfl
                  rw [ef] at hq'
                  rw [hpv, ← hq', if_neg (by rintro ⟨e, _⟩; cases e), Nat.zero_add]
                clear hq' hq hdrop hj1 k9 h10 hpv
                generalize bs.getD j 0 = bv at *
                go_wp2_with fail
                go_roundw
                case rel => exact ⟨j + 1, q, true, by go_num, by omega, rfl, rfl, by omega, HN.out, trivial⟩
                case measure => simp [intOf]; omega
          · obtain rfl : j = k := by omega
            have hqe : q = 1 + l.length := by
              have := hq.out
              rw [List.drop_of_length_le (by rw [HBL.out]; omega)] at this
              exact this
            have PR := Lib.hid (print_p g l b root lone wr HMP.out (by omega) (HTB.out wr B3.out))
            clear hq HT1 HT2 hlt
            go_wp2_with fail
            refine PR.out.mono ?_
            rintro e w5 ⟨A5, c5, rfl, _, _, _, b5⟩
            rw [HT4.out, HBL.out]
            have B5 : Hid (Below w.heap.size w w5) := B3.out.trans (b5.mono B3.out.size)
            have VP := Lib.hid (vertices_p g l b root lone w5 (HMP.out.below b5))
            rw [← HD.out] at VP
            have HM5 := Lib.hid (HMP.out.below b5)
            have hqI : (q : Int) = (l.length : Int) + 1 := by omega
            clear b5 PR hqe
            go_wp2_with fail
            refine VP.out.mono ?_
            rintro e w6 ⟨rfl, b6⟩
            have B6 : Hid (Below w.heap.size w w6) := B5.out.trans (b6.mono B5.out.size)
            have HM6 := Lib.hid (HM5.out.below b6)
            have LP := Lib.hid (lone_p g l b root lone w6 HM6.out)
            have DP := Lib.hid (darts_p g l b root lone w6 HM6.out)
            clear b6 VP
            go_wp2_with fail
            refine LP.out.mono ?_
            rintro e w' ⟨rfl, rfl⟩
            go_wp2_with fail
            refine DP.out.mono ?_
            rintro e w7 ⟨rfl, b7⟩
            go_wp2_with fail
            go_ret
            exact ⟨rfl, B6.out.trans (b7.mono B6.out.size)⟩
      · obtain rfl := hn hE0
        have hEb := bad E hE0
        clear hE hy hn hf ht bad hE0
        go_wp2_with fail
        go_ret
        exact ⟨rfl, B3.out⟩
end Go.Proofs.YtohlkhffljjodaaDoor
