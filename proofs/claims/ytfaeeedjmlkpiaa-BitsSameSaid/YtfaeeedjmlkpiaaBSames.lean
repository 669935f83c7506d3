/- BitsSame: vectors are the same just if their bits are. -/
import Derived.Test.YtfaeeedjmlkpiaaBNil
import Derived.Test.YtfaeeedjmlkpiaaEqualI
namespace Go.Proofs.Ytfaeeedjmlkpiaa
open Go.RowKit
set_option linter.unusedVariables false

theorem take7 (L : List Nat) (i : Nat) : L.take (i + 7) = L.take i ++ (L.drop i).take 7 := List.take_add
theorem ofN_cut (L : List Nat) (i k : Nat) : ((I64 (ofN L)).drop i).take k = I64 (ofN ((L.drop i).take k)) := by
  simp [I64, ofN, List.map_drop, List.map_take]
set_option maxHeartbeats 4000000 in
theorem bitsSame_walk (A1 A2 : Option Addr) (n1 c1 n2 c2 k1 k2 : Nat) (p q : List Nat) (w : World)
    (h1 : Rd w w.heap.size A1 n1 (U8 p)) (hb1 : ∀ b ∈ p, b < 256) (hn1 : n1 ≤ c1) (hc1 : c1 ≤ maxLen)
    (h2 : Rd w w.heap.size A2 n2 (U8 q)) (hb2 : ∀ b ∈ q, b < 256) (hn2 : n2 ≤ c2) (hc2 : c2 ≤ maxLen) (hk1 : k1 < 256) (hk2 : k2 < 256) :
    Calls Try.prog 7 #[.slice A1 n1 c1, .slice A2 n2 c2, .int .u8 (k1 : Int), .int .u8 (k2 : Int)] w fun e w' => e = .returned (.bool true) ∧ Below w.heap.size w w' := by
  unfold maxLen at hc1 hc2
  have AW := Lib.hid (awake_p w)
  have H1 := Lib.hid h1
  have H2 := Lib.hid h2
  have HP := Lib.hid hb1
  have HQ := Lib.hid hb2
  clear h1 h2 hb1 hb2
  go_enter Try.func7, Try.ntmps7
  go_wp2_with (go_at_call 9; refine AW.out.mono ?_)
  rintro e w1 ⟨rfl, b1⟩
  have F1 := Lib.hid (few_p A1 n1 c1 _ k1 p w1 (H1.out.below b1) HP.out b1.size (by omega) (by omega))
  have F2 : Hid (∀ w', Below w1.heap.size w1 w' → Calls Try.prog 18 #[.slice A2 n2 c2, .int .i64 (k2 : Int)] w' (NewI64 w' (ofN (few q k2)))) := fun w' hb =>
    few_p A2 n2 c2 _ k2 q w' (H2.out.below (b1.trans (hb.mono b1.size))) HQ.out (Nat.le_trans b1.size hb.size) (by omega) (by omega)
  have B1 := Lib.hid b1
  have LK := Lib.hid (few_len p k1)
  have LL := Lib.hid (few_len q k2)
  have BK := Lib.hid (few_bin p k1)
  have BL := Lib.hid (few_bin q k2)
  generalize few p k1 = K at *
  generalize few q k2 = L at *
  obtain ⟨N, hN⟩ : ∃ N, N = K.length := ⟨_, rfl⟩
  obtain ⟨M, hM⟩ : ∃ M, M = L.length := ⟨_, rfl⟩
  have hN3 : N ≤ 255 := by have := LK.out; omega
  have hM3 : M ≤ 255 := by have := LL.out; omega
  have HN := Lib.hid hN
  have HM := Lib.hid hM
  clear b1 AW LK LL hN hM
  go_wp2_with fail
  refine F1.out.mono ?_
  rintro e w2 ⟨A, c, rfl, hc, hm, hown, b2⟩
  rw [ofN_len, ← HN.out] at hown hc ⊢
  have R2 := Lib.hid (Rd.ofOwn hown)
  have HX2 := Lib.hid b2
  clear hown b2 F1
  go_wp2_with fail
  refine (F2.out _ HX2.out).mono ?_
  rintro e w3 ⟨C, d, rfl, hd, hm', hown, b3⟩
  rw [ofN_len, ← HM.out] at hown hd ⊢
  have S3 := Lib.hid (Rd.ofOwn hown)
  have R3 : Hid (Rd w3 w3.heap.size A N (I64 (ofN K))) := (R2.out.below b3).up b3.size
  have B3 : Hid (Below w.heap.size w w3) := (B1.out.trans (HX2.out.mono B1.out.size)).trans (b3.mono (Nat.le_trans B1.out.size HX2.out.size))
  have hC : 0 < M → ∃ q, C = some ⟨q, 0, none⟩ := fun h0 => by
    rcases hown.2 with ⟨h2, e0⟩ | ⟨g', cap, cur, hv, _⟩
    · omega
    · simp only [Value.slice.injEq] at hv; exact ⟨g', hv.1⟩
  have HC := Lib.hid hC
  unfold maxLen at hm'
  clear hown b3 HX2 R2 B1 F2 hC hm
  have OF := Lib.hid (of_p A N c K w3 R3.out BK.out (by omega))
  go_wp2_with fail
  refine OF.out.mono ?_
  rintro e w4 ⟨g, Av, rfl, hv, hg, b4⟩
  have NW := Lib.hid (bnew_p w4)
  have HV := Lib.hid hv
  have HB4 := Lib.hid b4
  clear hv b4 OF
  go_wp2_with fail
  refine NW.out.mono ?_
  rintro e w5 ⟨rfl, hu, b5⟩
  have TW5 : Hid (Two w5 w3.heap.size g (val K) K.length Av w4.heap.size 0 0 none) :=
    ⟨VecB.below HV.out b5, hu, Sep.new HV.out _ (Nat.le_refl _), hg, HB4.out.size⟩
  have BB5 : Hid (Below w3.heap.size w3 w5) := HB4.out.trans (b5.mono HB4.out.size)
  clear hu b5 NW HV HB4
  generalize w4.heap.size = h at *
  go_wp2_with fail
  go_loopw [13] (fun x wr => ∃ (i : Nat) (Ck : Option Addr), i ≤ M + 7 ∧ x = .int .i64 (i : Int) ∧ Hid (Two wr w3.heap.size g (val K) K.length Av h (val (L.take i)) (L.take i).length Ck) ∧ Hid (Below w3.heap.size w3 wr)) (fun x _ => M + 7 - (intOf x).toNat)
  case atStart => exact ⟨0, none, by omega, rfl, TW5.out, BB5.out⟩
  case round =>
    clear TW5 BB5
    obtain ⟨i, Ck, hi, rfl, htw, hbl⟩ := hrel
    by_cases hlt : i < M
    · obtain ⟨qq, rfl⟩ := HC.out (by omega)
      obtain ⟨j, hj, hij, hjM, hmin⟩ : ∃ j : Nat, Hid (j = min M (i + 7)) ∧ i < j ∧ j ≤ M ∧ ∀ w, (Builtin.min_ #[3, 3] 3 #[.int .i64 (M : Int), .int .i64 ((i : Int) + 7)]).run Try.prog w = .ok (.int .i64 (j : Int)) w := by
        refine ⟨min M (i + 7), rfl, by omega, by omega, fun w => ?_⟩
        simp [Builtin.min_, Builtin.min2]
        repeat' split
        all_goals omega
      have hji : j - i ≤ 7 := by have := hj.out; omega
      have sw := S3.out.below hbl.out
      have rr := (sw.drop i).take (j - i) (by omega)
      rw [ofN_cut, Nat.zero_add] at rr
      have hch : (L.drop i).take (j - i) = (L.drop i).take 7 := by
        by_cases h7 : j = i + 7
        · rw [show j - i = 7 by omega]
        · rw [List.take_of_length_le (by rw [List.length_drop, ← HM.out]; have := hj.out; omega), List.take_of_length_le (by rw [List.length_drop, ← HM.out]; have := hj.out; omega)]
      rw [hch] at rr
      have hbc := (BL.out.drop i).take 7
      have hlc : ((L.drop i).take 7).length = j - i := by rw [← hch, List.length_take, List.length_drop, ← HM.out]; omega
      have VP := Lib.hid (fun c' => value_p (some ⟨qq, i, none⟩) (j - i) c' _ _ wr rr hbc (by omega))
      have hvl := val_lt hbc
      have hv64 : val ((L.drop i).take 7) < 2 ^ 64 := Nat.lt_of_lt_of_le hvl (Nat.pow_le_pow_right (n := 2) (j := 64) (by omega) (by omega))
      have hc7 : cnt64 (((j - i : Nat) : Int)) = ((L.drop i).take 7).length := by rw [cnt64_nat (by omega), hlc]
      have NM := num_p h (val (L.take i)) (L.take i).length (val ((L.drop i).take 7)) ((j - i : Nat) : Int) Ck wr htw.out.2.1 hv64 (by omega) (by rw [List.length_take, ← HM.out]; omega)
      rw [hc7, put_val hbc, ← take7 L i, show (L.take i).length + ((L.drop i).take 7).length = (L.take (i + 7)).length by rw [take7 L i, List.length_append]] at NM
      have NMH := Lib.hid NM
      have hli : ¬ d = i := by omega
      have hjd : j ≤ d := by omega
      clear NM hc7 hvl hlc hbc hch rr sw hv64
      generalize val ((L.drop i).take 7) = y at *
      go_wp2_with fail
      refine (VP.out _).mono ?_
      rintro e w7 ⟨rfl, rfl⟩
      go_wp2_with fail
      refine NMH.out.mono ?_
      rintro e w7 hp
      obtain ⟨rfl, hb7, Ck', tw7⟩ := htw.out.right hp
      have hbl7 : Below w3.heap.size w3 w7 := hbl.out.trans hb7
      go_wp2_with fail
      go_roundw
      case rel => exact ⟨i + 7, Ck', by omega, by go_num, tw7, hbl7⟩
      case measure => simp [intOf]; omega
    · have e1 : L.take i = L := List.take_of_length_le (by rw [← HM.out]; omega)
      rw [e1, ← HM.out, ← HN.out] at htw
      have HTW := htw
      have HBL := hbl
      have hnlt : ¬ (i : Int) < (M : Int) := by omega
      have ra : Rd (wr.alloc (.cells #[.int .i64 1] 3)) (wr.alloc (.cells #[.int .i64 1] 3)).heap.size (some ⟨wr.heap.size, 0, none⟩) 1 (I64 [1]) := (Rd.new wr 3 #[.int .i64 1] 1 (I64 [1]) (by simp [I64]) (by simp)).up (by simp)
      have AN := Lib.hid (add_nil wr.heap.size 1 1 [1] _ ra (by omega))
      clear e1 htw hbl ra
      go_wp2_with fail
      refine AN.out.mono ?_
      rintro e w6 ⟨rfl, rfl⟩
      have hb6 := (Below.refl wr.heap.size wr).alloc (Nat.le_refl _) (.cells #[.int .i64 1] 3)
      have TW : Hid (Two (wr.alloc (.cells #[.int .i64 1] 3)) w3.heap.size g (val K) N Av h (val L) M Ck) := HTW.out.below hb6
      have HBA : Hid (Below w3.heap.size w3 (wr.alloc (.cells #[.int .i64 1] 3))) := HBL.out.alloc HBL.out.size _
      clear hb6 HTW HBL AN
      generalize wr.alloc (.cells #[.int .i64 1] 3) = wx at *
      have N32 := Lib.hid (num_nil 3 2 wx (by omega))
      have JN := Lib.hid (join_nil g (val K) N _ Av wx TW.out.1)
      have CN := Lib.hid (cut_nil 0 0 wx)
      have RN := Lib.hid (read_nil wx)
      have NN := Lib.hid (rnum_nil 3 wx)
      go_wp2_with fail
      refine N32.out.mono ?_
      rintro e w6 ⟨rfl, rfl⟩
      go_wp2_with fail
      refine JN.out.mono ?_
      rintro e w6 ⟨rfl, rfl⟩
      go_wp2_with fail
      refine CN.out.mono ?_
      rintro e w6 ⟨rfl, rfl⟩
      go_wp2_with fail
      refine RN.out.mono ?_
      rintro e w6 ⟨rfl, rfl⟩
      go_wp2_with fail
      refine NN.out.mono ?_
      rintro e w6 ⟨rfl, rfl⟩
      obtain ⟨res, hres⟩ : ∃ res, res = decide (ofN K = ofN L) := ⟨_, rfl⟩
      have hr2 : decide (N = M ∧ val K = val L) = res := by
        rw [hres, decide_eq_decide]
        constructor
        · rintro ⟨e1, e2⟩; rw [val_inj BK.out BL.out (by rw [← HN.out, ← HM.out]; exact e1) e2]
        · intro e1
          have := ofN_inj e1
          subst this
          exact ⟨by rw [HN.out, HM.out], rfl⟩
      have hr3 : decide (M = N ∧ val L = val K) = res := by
        rw [← hr2, decide_eq_decide]
        exact ⟨fun ⟨a, b⟩ => ⟨a.symm, b.symm⟩, fun ⟨a, b⟩ => ⟨a.symm, b.symm⟩⟩
      have SM1 : Hid (∀ w', Below wx.heap.size wx w' → Calls Try.prog 30 #[.pointer (some ⟨g, 0, none⟩), .pointer (some ⟨h, 0, none⟩)] w' fun e w'' => e = .returned (.bool res) ∧ Below wx.heap.size wx w'') := fun w' hb => by
        rw [← hr2]
        exact (same_vv g h _ _ N M _ _ Av Ck w' (VecB.below TW.out.1 hb) (VecB.below TW.out.2.1 hb)).mono fun e w'' ⟨he, j, hw⟩ => ⟨he, by rw [hw]; exact below_draws hb j⟩
      have SM2 : Hid (∀ w', Below wx.heap.size wx w' → Calls Try.prog 30 #[.pointer (some ⟨h, 0, none⟩), .pointer (some ⟨g, 0, none⟩)] w' fun e w'' => e = .returned (.bool res) ∧ Below wx.heap.size wx w'') := fun w' hb => by
        rw [← hr3]
        exact (same_vv h g _ _ M N _ _ Ck Av w' (VecB.below TW.out.2.1 hb) (VecB.below TW.out.1 hb)).mono fun e w'' ⟨he, j, hw⟩ => ⟨he, by rw [hw]; exact below_draws hb j⟩
      obtain ⟨r0, hr0⟩ : ∃ r0, r0 = decide (0 = N) := ⟨_, rfl⟩
      have hz0 : ((N : Int) == 0) = r0 := by
        rw [hr0, Bool.eq_iff_iff, beq_iff_eq, decide_eq_true_iff]; omega
      have SM3 : Hid (∀ w', Below wx.heap.size wx w' → Calls Try.prog 30 #[.pointer none, .pointer (some ⟨g, 0, none⟩)] w' fun e w'' => e = .returned (.bool r0) ∧ Below wx.heap.size wx w'') := fun w' hb => by
        rw [hr0]
        exact (same_nilv g _ N _ Av w' (VecB.below TW.out.1 hb)).mono fun e w'' ⟨he, j, hw⟩ => ⟨he, by rw [hw]; exact below_draws hb j⟩
      have EQ : Hid (∀ w', Below wx.heap.size wx w' → Calls Try.prog 31 #[.slice A N c, .slice C M d] w' fun e w'' => e = .returned (.bool res) ∧ Below wx.heap.size wx w'') := fun w' hb => by
        rw [hres]
        have hb3 : Below w3.heap.size w3 w' := HBA.out.trans (hb.mono HBA.out.size)
        exact (equalI_any A C N c M d _ _ (ofN K) (ofN L) w' (R3.out.below hb3) (S3.out.below hb3) (by omega) (by omega)).mono fun e w'' ⟨he, j, hw⟩ => ⟨he, by rw [hw]; exact below_draws hb j⟩
      have hz0' := Lib.hid hz0
      have HBX : Hid (Below w.heap.size w wx) := B3.out.trans (HBA.out.mono B3.out.size)
      clear hres hr2 hr3 hr0 N32 JN CN RN NN
      go_wp2_with fail
      refine (SM1.out _ (Below.refl _ _)).mono ?_
      rintro e v1 ⟨rfl, q1⟩
      go_wp2_with fail
      refine (EQ.out _ q1).mono ?_
      rintro e v2 ⟨rfl, q2⟩
      go_wp2_with fail
      refine (SM2.out _ q2).mono ?_
      rintro e v3 ⟨rfl, q3⟩
      go_wp2_with fail
      refine (EQ.out _ q3).mono ?_
      rintro e v4 ⟨rfl, q4⟩
      go_wp2_with fail
      refine (SM3.out _ q4).mono ?_
      rintro e v5 ⟨rfl, q5⟩
      go_wp2_with fail
      refine (blen_nil _).mono ?_
      rintro e v6 ⟨rfl, rfl⟩
      go_wp2_with fail
      refine (ones_nil _).mono ?_
      rintro e v6 ⟨rfl, rfl⟩
      go_wp2_with fail
      refine (bytes_nil _).mono ?_
      rintro e v6 ⟨Ab, cb, rfl, q6⟩
      go_wp2_with fail
      refine (text_nil _).mono ?_
      rintro e v7 ⟨rfl, q7⟩
      go_wp2_with fail
      refine (read_nil _).mono ?_
      rintro e v8 ⟨rfl, rfl⟩
      go_wp2_with fail
      refine (left_nil _).mono ?_
      rintro e v8 ⟨rfl, rfl⟩
      go_wp2_with fail
      refine (at_nil _).mono ?_
      rintro e v8 ⟨rfl, rfl⟩
      go_wp2_with fail
      go_ret
      have q8 : Below wx.heap.size wx v7 := (q5.trans (q6.mono q5.size)).trans (q7.mono (Nat.le_trans q5.size q6.size))
      exact ⟨rfl, HBX.out.trans (q8.mono HBX.out.size)⟩
end Go.Proofs.Ytfaeeedjmlkpiaa
