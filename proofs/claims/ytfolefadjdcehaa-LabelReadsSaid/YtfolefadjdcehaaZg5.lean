/- The document's Width and Mates. The document's numbers of bits: Size, Num, Value. The document's Encode. The document's Decode. -/
import Derived.Test.YtfolefadjdcehaaZLWid
import Derived.Test.YtfolefadjdcehaaZPRef2
import Derived.Test.YtfolefadjdcehaaZDPhi
import Derived.BigQuiet
import Derived.Deep.QuietTactic
import Derived.Test.YtfolefadjdcehaaZBSeq
import Derived.Test.YtfolefadjdcehaaZg2
import Derived.Test.YtfolefadjdcehaaZg4
import Derived.Deep.RegionHeld3
import Derived.Deep.RegionWith
namespace Go.Proofs.Ytfolefadjdcehaa
set_option maxRecDepth 20000
open Go.RowKit
set_option linter.unusedVariables false
set_option maxHeartbeats 1000000 in
theorem rwidth_p (m : Nat) (w : World) (h : m ≤ 65536) :
    Calls Try.prog 21 #[.int .i64 (m : Int)] w fun e w' => e = .returned (.int .i64 (lw m : Int)) ∧ w = w' := by
  go_enter Try.func21, Try.ntmps21
  go_wp2_with fail
  go_loopw [3, 4] (fun a b wr => ∃ k x : Nat, a = .int .i64 (k : Int) ∧ b = .int .i64 (x : Int) ∧ x ≤ 131072 ∧ k ≤ 17 ∧ Hid (x = 2 ^ k) ∧ Hid (k = 0 ∨ 2 ^ (k - 1) < m) ∧ wr = w) (fun a _ _ => 17 - (intOf a).toNat)
  case atStart => exact ⟨0, 1, rfl, rfl, by omega, by omega, rfl, .inl rfl, rfl⟩
  case round =>
    obtain ⟨k, x, rfl, rfl, hx, hk, hxk, hkm, rfl⟩ := hrel
    by_cases hlt : x < m
    · have HK : Hid (k < 16) := by
        show _ < _
        rcases Nat.lt_or_ge k 16 with c | c
        · exact c
        · have := Nat.pow_le_pow_right (show 0 < 2 by decide) c
          have := hxk.out
          omega
      have hx2 : x ≤ 65536 := by omega
      go_wp2_with fail
      go_roundw
      case rel => exact ⟨k + 1, x * 2, by go_num, by go_num, by omega, by have := HK.out; omega, by show _ = _; rw [Nat.pow_succ, hxk.out], .inr (by show 2 ^ k < m; rw [← hxk.out]; exact hlt), by first | rfl | trivial⟩
      case measure => have := HK.out; simp [intOf]; omega
    · have e1 : Hid (k = lw m) := lw_uniq (by omega) (by rw [← hxk.out]; omega) hkm.out
      go_wp2_with fail
      go_ret
      exact ⟨by rw [← e1.out]; rfl, by first | rfl | trivial⟩
set_option maxHeartbeats 1000000 in
theorem rmates_no (A : Option Addr) (n c B : Nat) (z : List Int) (w : World) (h : Rd w B A n (I64 z)) (hn : n ≤ 1000000) (hg : ¬ Good z) :
    Calls Try.prog 31 #[.slice A n c] w fun e w' => e = .returned (.bool false) ∧ w = w' := by
  have IS := Lib.hid ((is_p A n c B z w h hn).mono fun e w' (hh : (e = .returned (.bool true) ∧ Good z ∨ e = .returned (.bool false) ∧ ¬ Good z) ∧ w = w') => (show e = .returned (.bool false) ∧ w = w' from by
    rcases hh.1 with c | c
    · exact absurd c.2 hg
    · exact ⟨c.1, hh.2⟩))
  clear h hg
  go_enter Try.func31, Try.ntmps31
  go_wp2_with fail
  refine IS.out.mono ?_
  rintro e w1 ⟨rfl, rfl⟩
  go_wp2_with fail
  go_ret
  exact ⟨rfl, rfl⟩
set_option maxHeartbeats 1000000 in
theorem rmates_p (A : Option Addr) (n c B : Nat) (l b : List Nat) (w : World) (h : Rd w B A n (I64 (ofN l))) (hi : Inv l b) (hn : n ≤ 1000) :
    Calls Try.prog 31 #[.slice A n c] w fun e w' => (e = .returned (.bool true) ∧ Kp l ∨ e = .returned (.bool false) ∧ ¬ Kp l) ∧ ∃ j, w' = w.drewN j := by
  have hl : l.length = n := by rw [← ofN_len, ← I64_len, h.len]
  have IS := Lib.hid ((is_p A n c B (ofN l) w h (by omega)).mono fun e w' (hh : (e = .returned (.bool true) ∧ Good (ofN l) ∨ e = .returned (.bool false) ∧ ¬ Good (ofN l)) ∧ w = w') => (show e = .returned (.bool true) ∧ w = w' from by
    rcases hh.1 with c | c
    · exact ⟨c.1, hh.2⟩
    · exact absurd hi.good c.2))
  have HLT : Hid (∀ i, i < n → l.getD i 0 < n) := by have := hi.lt; rwa [hl] at this
  have HN := Lib.hid hl
  have H := Lib.hid h
  clear h hi hl
  go_enter Try.func31, Try.ntmps31
  go_wp2_with fail
  refine IS.out.mono ?_
  rintro e w1 ⟨rfl, rfl⟩
  by_cases ho : n % 2 = 0
  · have ho2 : (n : Int) % 2 = 0 := by omega
    have ho3 : (n : Int).tmod 2 = 0 := by rw [Int.tmod_eq_emod_of_nonneg (by omega)]; omega
    go_wp2_with fail
    go_loopw [15] (fun i wr => ∃ k : Nat, k ≤ n ∧ i = .int .i64 (k : Int) ∧ Hid (∃ j, wr = w.drewN j) ∧ Hid (∀ e, e < k → l.getD (mateN e) 0 = mateN (l.getD e 0))) (fun i _ => n - (intOf i).toNat)
    case atStart => exact ⟨0, by omega, rfl, ⟨0, rfl⟩, fun e he => absurd he (by omega)⟩
    case round =>
      obtain ⟨k, hk, rfl, hw, hm⟩ := hrel
      by_cases hlt : k < n
      · obtain ⟨j0, hj0⟩ := hw.out
        have hbl : Below w.heap.size w wr := by rw [hj0]; exact below_draws (Below.refl _ _) j0
        obtain ⟨ba, o, rfl, hbB, hc⟩ := H.out.i64 (by omega)
        have HW := hw
        have hmk := mateN_lt (n := n) ho hlt
        have c1 : wr.cell? ⟨ba, o + k, none⟩ = some (.int .i64 ((l.getD k 0 : Nat) : Int)) := by
          have := hc k hlt; rw [ofN_get] at this
          rw [hj0]; exact this
        have c2 : wr.cell? ⟨ba, o + mateN k, none⟩ = some (.int .i64 ((l.getD (mateN k) 0 : Nat) : Int)) := by
          have := hc (mateN k) hmk; rw [ofN_get] at this
          rw [hj0]; exact this
        have hxb := HLT.out k hlt
        have hyb := HLT.out (mateN k) hmk
        have hzb : mateN (l.getD k 0) ≤ 1000 := by have := mateN_lt (n := n) ho hxb; omega
        obtain ⟨M, hM⟩ : ∃ M : Nat → Nat, M = mateN := ⟨_, rfl⟩
        have RM : Hid (∀ (d : Nat) (W : World), d ≤ 1000000 → Calls Try.prog 42 #[.int .i64 (d : Int)] W fun e w' => e = .returned (.int .i64 ((M d : Nat) : Int)) ∧ W = w') := fun d W hd => by rw [hM]; exact rmate_p d W hd
        rw [← hM] at c2 hyb hmk hzb
        have HMM := Lib.hid hM
        have hmki : ((M k : Nat) : Int) < (n : Int) := by omega
        have HX : Hid (l.getD k 0 = l.getD k 0) := rfl
        obtain ⟨x, hx⟩ : ∃ x, x = l.getD k 0 := ⟨_, rfl⟩
        obtain ⟨y, hy⟩ : ∃ y, y = l.getD (M k) 0 := ⟨_, rfl⟩
        have HX := Lib.hid hx
        have HY := Lib.hid hy
        rw [← hx] at c1 hxb hzb
        rw [← hy] at c2 hyb
        clear hx hy hc hj0 hw IS hbl hM
        by_cases hc : y = M x
        · have hb : ((y : Int) != ((M x : Nat) : Int)) = false := by rw [hc]; simp
          have NX : Hid (∀ e, e < k + 1 → l.getD (mateN e) 0 = mateN (l.getD e 0)) := fun e he => by
            by_cases q : e = k
            · subst q
              have h1 := HY.out
              rw [HMM.out] at h1 hc
              rw [← h1, ← HX.out]; exact hc
            · exact hm.out e (by omega)
          clear hc
          go_wp2_with fail
          go_quiet ((go_at_call 42; exact Calls.quiet_of_same ((RM.out _ _ (by omega)).mono fun e w' ⟨he, hw⟩ => ⟨he, hw.symm⟩)))
          go_wp2_with fail
          go_roundw
          case rel => exact ⟨k + 1, by omega, by go_num, by
            obtain ⟨j, hj⟩ := HW.out
            exact ⟨j + nq, by rw [hj]; simp only [World.drewN, Nat.add_assoc]⟩, NX.out⟩
          case measure => simp [intOf]; omega
        · have hb : ((y : Int) != ((M x : Nat) : Int)) = true := by rw [bne_iff_ne]; omega
          have NO : Hid (¬ Kp l) := fun K => hc (by
            have := K.all (d := k) (by rw [HN.out]; exact hlt)
            have h1 := HY.out
            rw [HMM.out] at h1 ⊢
            rw [h1, HX.out]; exact this)
          clear hc
          go_wp2_with fail
          go_quiet ((go_at_call 42; exact Calls.quiet_of_same ((RM.out _ _ (by omega)).mono fun e w' ⟨he, hw⟩ => ⟨he, hw.symm⟩)))
          go_wp2_with fail
          go_ret
          refine ⟨.inr ⟨rfl, NO.out⟩, ?_⟩
          obtain ⟨j, hj⟩ := HW.out
          exact ⟨j + nq, by rw [hj]; simp only [World.drewN, Nat.add_assoc]⟩
      · have YES : Hid (Kp l) := Kp.of (by rw [HN.out]; exact ho) fun d hd => hm.out d (by rw [HN.out] at hd; omega)
        go_wp2_with fail
        go_ret
        exact ⟨.inl ⟨rfl, YES.out⟩, hw.out⟩
  · have ho2 : (n : Int) % 2 = 1 := by omega
    have ho3 : (n : Int).tmod 2 = 1 := by rw [Int.tmod_eq_emod_of_nonneg (by omega)]; omega
    have NO : Hid (¬ Kp l) := fun K => ho (by rw [← HN.out]; exact K.1)
    go_wp2_with fail
    go_ret
    exact ⟨.inr ⟨rfl, NO.out⟩, 0, rfl⟩
end Go.Proofs.Ytfolefadjdcehaa
namespace Go.Proofs.Ytfolefadjdcehaa
open Go.RowKit
set_option linter.unusedVariables false

theorem size_p (k : Int) (w : World) (hk : -9223372036854775808 ≤ k ∧ k ≤ 9223372036854775807) :
    Calls Try.prog 64 #[.int .i64 k] w fun e w' => e = .returned (.int .i64 ((cnt64 k : Nat) : Int)) ∧ w = w' := by
  by_cases h0 : k < 0
  · have hc : cnt64 k = 0 := by unfold cnt64; rw [if_pos (by omega)]
    rw [hc]
    go_enter Try.func64, Try.ntmps64
    go_wp2
    go_ret
    exact ⟨rfl, rfl⟩
  · by_cases h1 : 64 < k
    · have hc : ((cnt64 k : Nat) : Int) = 64 := by unfold cnt64; split <;> (try split) <;> omega
      rw [hc]
      go_enter Try.func64, Try.ntmps64
      go_wp2
      go_ret
      exact ⟨rfl, rfl⟩
    · have hc : ((cnt64 k : Nat) : Int) = k := by unfold cnt64; split <;> (try split) <;> omega
      rw [hc]
      go_enter Try.func64, Try.ntmps64
      go_wp2
      go_ret
      exact ⟨rfl, rfl⟩
set_option maxHeartbeats 1000000 in
theorem rnumL_p (x : Nat) (k : Int) (w : World) (hx : x < 2 ^ 64) (hk : -9223372036854775808 ≤ k ∧ k ≤ 9223372036854775807) :
    Calls Try.prog 47 #[.int .u64 (x : Int), .int .i64 k] w (NewI64 w (ofNB (numL x (cnt64 k)))) := by
  obtain ⟨i0, hi0, hz0, hz1, hz2⟩ := info_parts info_int
  have SZ : Hid (∀ w' : World, Calls Try.prog 64 #[.int .i64 k] w' fun e w'' => e = .returned (.int .i64 ((cnt64 k : Nat) : Int)) ∧ w' = w'') := fun w' => size_p k w' hk
  have hk64 : cnt64 k ≤ 64 := by unfold cnt64; split <;> (try split) <;> omega
  have HK := Lib.hid hk
  generalize cnt64 k = kk at *
  clear hk
  have HX := Lib.hid hx
  go_enter Try.func47, Try.ntmps47
  go_wp2
  go_loopw [0, 5, 6] (fun xv v i wr => ∃ (j y : Nat) (Av : Option Addr) (cv : Nat), j ≤ kk ∧ y = x / 2 ^ j ∧ xv = .int .u64 (y : Int) ∧ i = .int .i64 (j : Int) ∧ v = .slice Av j cv ∧ wr.ownsRow w.heap.size 3 1 (.slice Av j cv) j (I64 (ofNB (numL x j))) ∧ Below w.heap.size w wr) (fun _ _ i _ => (kk : Int).toNat - (intOf i).toNat)
  case atStart => exact ⟨0, x, none, 0, by omega, by simp, rfl, rfl, rfl, World.ownsRow_nil _ _ _ _, Below.refl _ _⟩
  case round =>
    obtain ⟨j, y, Av, cv, hj, hy, rfl, rfl, rfl, hown, hbl⟩ := hrel
    have hy64 : y < 18446744073709551616 := by rw [hy]; exact Nat.lt_of_le_of_lt (Nat.div_le_self _ _) HX.out
    have HY := Lib.hid hy
    by_cases hlt : j < kk
    · have hown3' := hown.alloc (.cells #[.int .i64 ((y : Int) % 2)] 3)
      have r3 := Rd.new wr 3 #[.int .i64 ((y : Int) % 2)] 1 (I64 [((y : Int) % 2)]) (by simp [I64]) (by simp)
      have t1 : j + 1 ≤ maxLen := by simp only [maxLen]; omega
      have t2 : (j + 1) * 8 ≤ 140737488355328 := by omega
      have t3 : w.heap.size ≤ (wr.alloc (.cells #[.int .i64 ((y : Int) % 2)] 3)).heap.size := by have := hbl.size; simp; omega
      have WY : Hid (I64 (ofNB (numL x j)) ++ I64 [((y : Int) % 2)] = I64 (ofNB (numL x (j + 1)))) := by
        show _ = _
        rw [numL_next, ofN_appendB, I64_append, hy]
        simp [ofNB]
      clear hy
      go_wp2_with fail
      refine (SZ.out _).mono ?_
      rintro e w' ⟨rfl, rfl⟩
      go_wp2_with (first
        | (at_builtin; go_must (refine wpList_append_rd _ rfl _ _ 25 rfl w.heap.size 3 i0 (.int .i64 0) 8 Try.underlying25 hi0 hz0 hz1 hz2 rfl (.slice Av j cv) j (I64 (ofNB (numL x j))) rfl hown3' (wr.heap.size + 1) (some ⟨wr.heap.size, 0, none⟩) 1 1 (I64 [((y : Int) % 2)]) rfl r3 (I64_one _) t1 t2 t3 ?_)))
      intro A6 c6 w6 hc6 hm6 hown6 hg6 _
      have hb6 : Below w.heap.size wr w6 := ((Below.refl w.heap.size wr).alloc hbl.size _).trans (Below.appended hown3' hg6 t3)
      rw [WY.out] at hown6
      go_wp2
      go_roundw
      case rel => exact ⟨j + 1, y / 2, A6, c6, by omega, by rw [HY.out, Nat.pow_succ, Nat.div_div_eq_div_mul], by go_num, by go_num, rfl, hown6, hbl.trans hb6⟩
      case measure => simp [intOf]; omega
    · obtain rfl : j = kk := by omega
      go_wp2_with fail
      refine (SZ.out _).mono ?_
      rintro e w' ⟨rfl, rfl⟩
      go_wp2_with fail
      go_ret
      refine .mk rfl ?_ hbl
      rw [ofN_lenB, numL_len]
      exact hown
set_option maxHeartbeats 1000000 in
theorem value_p (A : Option Addr) (n c B : Nat) (l : List Nat) (w : World) (h : Rd w B A n (I64 (ofNB l))) (hb : Bin l) (hn : n ≤ 64) :
    Calls Try.prog 50 #[.slice A n c] w fun e w' => e = .returned (.int .u64 ((val l : Nat) : Int)) ∧ w = w' := by
  have hl : l.length = n := by rw [← ofN_lenB, ← I64_len, h.len]
  have HL := Lib.hid hl
  have HBN := Lib.hid hb
  have hn1 : (n : Int) ≤ 64 := by omega
  clear hl hb
  go_enter Try.func50, Try.ntmps50
  go_wp2
  go_loopw [3, 4] (fun xv i wr => ∃ j : Nat, j ≤ n ∧ xv = .int .u64 ((val (l.drop j) : Nat) : Int) ∧ i = .int .i64 ((j : Int) - 1) ∧ wr = w) (fun _ i _ => (intOf i + 1).toNat)
  case atStart => exact ⟨n, by omega, by rw [List.drop_of_length_le (by rw [HL.out]; omega)]; rfl, rfl, rfl⟩
  case round =>
    obtain ⟨j, hj, rfl, rfl, rfl⟩ := hrel
    cases j with
    | zero =>
      rw [List.drop_zero]
      generalize hxv : val l = x at *
      have HXV := Lib.hid hxv
      clear hxv
      go_wp2
      go_ret
      exact ⟨by rw [HXV.out]; rfl, rfl⟩
    | succ j =>
      obtain ⟨b, o, rfl, _, k1⟩ := h.i64 (by omega)
      have t1 := k1 j (by omega)
      rw [ofN_getB] at t1
      have hlt : j < l.length := by have := HL.out; omega
      have e : val (l.drop j) = l.getD j 0 + 2 * val (l.drop (j + 1)) := by
        rw [List.drop_eq_getElem_cons hlt, List.getD_eq_getElem?_getD, List.getElem?_eq_getElem hlt]
        rfl
      have hv : val (l.drop j) < 18446744073709551616 := by
        have h1 := val_lt (HBN.out.drop j)
        rw [List.length_drop] at h1
        exact Nat.lt_of_lt_of_le h1 (Nat.pow_le_pow_right (n := 2) (j := 64) (by omega) (by have := HL.out; omega))
      have E := Lib.hid e
      have hbit := HBN.out.getD j
      rw [e] at hv
      clear e k1 hlt
      generalize val (l.drop (j + 1)) = y at *
      generalize l.getD j 0 = b at *
      go_wp2
      go_roundw
      case rel => exact ⟨j, by omega, by rw [E.out]; go_num, by go_num, trivial⟩
      case measure => simp [intOf] <;> omega
end Go.Proofs.Ytfolefadjdcehaa
namespace Go.Proofs.Ytfolefadjdcehaa
set_option maxRecDepth 20000
open Go.RowKit
set_option linter.unusedVariables false
theorem step_append_rdW {P : Program} (w : World) {ops : Array Oper} {o : Oper} {a : Act} {K : Act → World → Prop} {Q : Exit → Act → World → Prop} {E : Prop} (hw : Region.wanted o (yielded ops a.tmps) = true) (s x : Operand) (t : TypeId)
    (ho : o.op = .call { callee := .builtin .append, args := #[s, x], argTypes := #[t, t] })
    (base : Nat) (e : TypeId) (i : TypeInfo) (z : Value) (bytes : Nat) (ht : P.underlying t = some (.slice e)) (hi : P.info? e = some i) (hz : i.zero = some z)
    (hsize : i.size = 1) (hby : i.bytes = bytes) (hzs : z.cells.size = 1)
    (v : Value) (n : Nat) (xs : List Value) (hs : a.eval s = v) (hown : w.ownsRow base e 1 v n xs)
    (B : Nat) (A : Option Addr) (m c : Nat) (news : List Value) (hx : a.eval x = .slice A m c) (hr : Rd w B A m news) (h1 : ∀ u ∈ news, u.oneCell' = true)
    (h63 : n + m ≤ maxLen) (hbytes : (n + m) * bytes ≤ 140737488355328) (hbase : base ≤ w.heap.size)
    (h : ∀ A' c' w', n + m ≤ c' → c' ≤ maxLen → w'.ownsRow base e 1 (.slice A' (n + m) c') (n + m) (xs ++ news) → w.grownBy w' v.ownBlock → K (a.put o.dst (.slice A' (n + m) c')) w') :
    if Region.wanted o (yielded ops a.tmps) = true then Oper.wp P o a w K Q else E := by
  rw [if_pos hw]
  exact wp_append_rd w s x t ho base e i z bytes ht hi hz hsize hby hzs v n xs hs hown B A m c news hx hr h1 h63 hbytes hbase fun A' c' w' h2 h3 h4 h5 _ => h A' c' w' h2 h3 h4 h5
set_option maxHeartbeats 4000000 in
theorem lrefEnc_p (A : Option Addr) (n c : Nat) (l : List Nat) (w : World) (h : Rd w w.heap.size A n (I64 (ofN l))) (hn : n ≤ 1000) (he : n % 2 = 0) (hb : ∀ i, i < n → l.getD i 0 < n) :
    Calls Try.prog 15 #[.slice A n c] w (NewI64 w (ofN (lbl (lw (l.length / 2)) l (l.length / 2)))) := by
  obtain ⟨i0, hi0, hz0, hz1, hz2⟩ := info_parts info_int
  have hl : l.length = n := by rw [← ofN_len, ← I64_len, h.len]
  obtain ⟨m, hm⟩ : ∃ m, m = n / 2 := ⟨_, rfl⟩
  have hnm : n = 2 * m := by omega
  rw [hl, ← hm]
  have RW := Lib.hid (fun W => rwidth_p m W (by omega))
  have CL := Lib.hid (cnt_lw (m := m) (by omega))
  have h16 := lw_16 (m := m) (by omega)
  have HN := Lib.hid hnm
  have HB := Lib.hid hb
  have H := Lib.hid h
  have hnd : (n : Int) / 2 = (m : Int) := by omega
  have hnd2 : (n : Int).tdiv 2 = (m : Int) := by rw [Int.tdiv_eq_ediv_of_nonneg (by omega)]; omega
  generalize lw m = k at *
  clear hm hnm hb h hl he
  go_enter Try.func15, Try.ntmps15
  go_wp2_with fail
  go_loopw [3, 4] (fun s i wr => ∃ (q p cv : Nat) (Av : Option Addr), q ≤ m ∧ i = .int .i64 (q : Int) ∧ s = .slice Av p cv ∧ p ≤ 10000 ∧ Hid (p = q * (k + 1)) ∧ Hid (wr.ownsRow w.heap.size 3 1 (.slice Av p cv) p (I64 (ofN (lbl k l q)))) ∧ Hid (Below w.heap.size w wr)) (fun _ i _ => m - (intOf i).toNat)
  case atStart => exact ⟨0, 0, 0, none, by omega, rfl, rfl, by omega, by show _ = _; simp, World.ownsRow_nil _ _ _ _, Below.refl _ _⟩
  case round =>
    obtain ⟨q, p, cv, Av, hq, rfl, rfl, hp, hpq, ho, hbq⟩ := hrel
    by_cases hlt : q < m
    · obtain ⟨q2, hq2⟩ : ∃ q2, q2 = 2 * q := ⟨_, rfl⟩
      have hq2i : 2 * (q : Int) = (q2 : Int) := by omega
      have hq2w : IntKind.i64.wrap (2 * (q : Int)) = (q2 : Int) := by rw [hq2i]; simp [IntKind.wrap, IntKind.signed, IntKind.bits]; omega
      have hq2w2 : IntKind.i64.wrap (q2 : Int) = (q2 : Int) := by simp [IntKind.wrap, IntKind.signed, IntKind.bits]; omega
      have hq2n : q2 < n := by have := HN.out; omega
      have hq2ni : (q2 : Int) < (n : Int) := by omega
      obtain ⟨ba, o, rfl, hbB, hc⟩ := H.out.i64 (by omega)
      have cx := hc q2 hq2n
      rw [ofN_get] at cx
      have hx := HB.out q2 hq2n
      have NXT : Hid (lbl k l (q + 1) = lbl k l q ++ (numL (l.getD q2 0 / 2) k ++ [l.getD q2 0 % 2])) := by show _ = _; rw [hq2]; rfl
      generalize l.getD q2 0 = x at *
      have SK : Hid (∀ W, Below w.heap.size w W → Below w.heap.size w W ∧ W.cell? ⟨ba, o + q2, none⟩ = some (.int .i64 (x : Int))) := fun W mm => ⟨mm, (mm.cell (p := ⟨ba, o + q2, none⟩) hbB).trans cx⟩
      have OW : Hid (∀ W, Below wr.heap.size wr W → W.ownsRow w.heap.size 3 1 (.slice Av p cv) p (I64 (ofN (lbl k l q)))) := fun W mm => own_below ho.out mm
      obtain ⟨y, hy⟩ : ∃ y, y = x / 2 := ⟨_, rfl⟩
      obtain ⟨z, hz⟩ : ∃ z, z = x % 2 := ⟨_, rfl⟩
      rw [← hy, ← hz] at NXT
      have hxy : (x : Int) / 2 = (y : Int) := by omega
      have hxy2 : (x : Int).tdiv 2 = (y : Int) := by rw [Int.tdiv_eq_ediv_of_nonneg (by omega)]; omega
      have hxz : (x : Int) % 2 = (z : Int) := by omega
      have hxz2 : (x : Int).tmod 2 = (z : Int) := by rw [Int.tmod_eq_emod_of_nonneg (by omega)]; omega
      have hyb : y ≤ 1000 := by omega
      have RN : Hid (∀ W, Calls Try.prog 47 #[.int .u64 (y : Int), .int .i64 (k : Int)] W (NewI64 W (ofNB (numL y k)))) := fun W => by
        have := rnumL_p y (k : Int) W (by omega) (by omega)
        rwa [CL.out] at this
      have hnl : (ofNB (numL y k)).length = k := by rw [ofN_lenB, numL_len]
      have HNL := Lib.hid hnl
      have t1 : p + k ≤ maxLen := by simp only [maxLen]; omega
      have t2 : (p + k) * 8 ≤ 140737488355328 := by omega
      have wm : IntKind.i64.wrap (m : Int) = (m : Int) := by simp [IntKind.wrap, IntKind.signed, IntKind.bits]; omega
      have wy : IntKind.i64.wrap (y : Int) = (y : Int) := by simp [IntKind.wrap, IntKind.signed, IntKind.bits]; omega
      have wyu : IntKind.u64.wrap (y : Int) = (y : Int) := by simp [IntKind.wrap, IntKind.signed, IntKind.bits]; omega
      have hbz0 := Below.refl wr.heap.size wr
      have hba0 : Below w.heap.size w wr := hbq.out
      have hba1 := hba0.drew
      have HWB := hbq.out.size
      obtain ⟨_, c0⟩ := SK.out _ hba0
      obtain ⟨_, c1⟩ := SK.out _ hba1
      clear hy hz hc cx ho hq2 hnl
      go_upto_region 5 with fail
      go_cut [3] from 12 to 26 (fun s wx => ∃ A3 c3, s = .slice A3 (p + k) c3 ∧ Hid (wx.ownsRow w.heap.size 3 1 (.slice A3 (p + k) c3) (p + k) (I64 (ofN (lbl k l q)) ++ I64 (ofNB (numL y k)))) ∧ Hid (Below w.heap.size w wx))
      case first =>
        go_region_held3 (fun W => Below w.heap.size w W ∧ W.cell? ⟨ba, o + q2, none⟩ = some (.int .i64 (x : Int)))
          (exact SK.out _ (by assumption))
          (first
          | (go_at_call 21; (with_reducible refine (RW.out _).mono ?_); rintro e wa ⟨rfl, rfl⟩)
          | (go_at_call 47; (with_reducible refine (RN.out _).mono ?_); rintro e w5 ⟨A5, c5, rfl, hc5, hm5, own5, hb5⟩; rw [HNL.out] at own5 ⊢; have hbz := hbz0.drew.trans (hb5.mono hbz0.drew.size); have hba := hba0.trans (hbz.mono HWB); have rd5 := Rd.ofOwn own5; have ow5 := OW.out _ hbz)
          | (refine step_append_rdW _ (by rfl) _ _ 25 (by rfl) w.heap.size 3 i0 (.int .i64 0) 8 Try.underlying25 hi0 hz0 hz1 hz2 rfl (.slice Av p cv) p (I64 (ofN (lbl k l q))) (by rfl) ow5 _ A5 k c5 (I64 (ofNB (numL y k))) (by rfl) rd5 (I64_one _) t1 t2 hba.size ?_; intro A6 c6 w6 hc6 hm6 hown6 hg6; have hba6 := hba.trans (Below.appended ow5 hg6 hba.size)))
        all_goals (
          go_wp2_with fail
          go_meet
          exact ⟨_, _, rfl, hown6, hba6⟩)
      case rest =>
        obtain ⟨A3, c3, rfl, ho3, hb3⟩ := hcut
        have HO3 : Hid (wc.ownsRow w.heap.size 3 1 (.slice A3 (p + k) c3) (p + k) (I64 (ofN (lbl k l q ++ numL y k)))) := by
          show World.ownsRow _ _ _ _ _ _ _
          rw [ofN_append, I64_append]; exact ho3.out
        have BC : Hid (Below w.heap.size w wc) := hb3.out
        obtain ⟨_, cw⟩ := SK.out _ hb3.out
        obtain ⟨p2, hp2⟩ : ∃ p2, p2 = p + k := ⟨_, rfl⟩
        rw [← hp2] at HO3 ⊢
        have HP2 := Lib.hid hp2
        have hownA := HO3.out.alloc (.cells #[.int .i64 (z : Int)] 3)
        have r3 := Rd.new wc 3 #[.int .i64 (z : Int)] 1 (I64 [(z : Int)]) (by simp [I64]) (by simp)
        have t3 : p2 + 1 ≤ maxLen := by simp only [maxLen]; omega
        have t4 : (p2 + 1) * 8 ≤ 140737488355328 := by omega
        have hws := BC.out.size
        have t5 : w.heap.size ≤ (wc.alloc (.cells #[.int .i64 (z : Int)] 3)).heap.size := by simp; omega
        clear SK OW RN ho3 hb3 hp2 c0 c1 hba0 hba1 hbz0
        go_wp2_with (first
          | (at_builtin; go_must (refine wpList_append_rd _ rfl _ _ 25 rfl w.heap.size 3 i0 (.int .i64 0) 8 Try.underlying25 hi0 hz0 hz1 hz2 rfl (.slice A3 p2 c3) p2 (I64 (ofN (lbl k l q ++ numL y k))) rfl hownA (wc.heap.size + 1) (some ⟨wc.heap.size, 0, none⟩) 1 1 (I64 [(z : Int)]) rfl r3 (I64_one _) t3 t4 t5 ?_)))
        intro A6 c6 w6 hc6 hm6 hown6 hg6 _
        have hb6 : Hid (Below w.heap.size w w6) := (BC.out.alloc hws _).trans (Below.appended hownA hg6 t5)
        have hR : I64 (ofN (lbl k l q ++ numL y k)) ++ I64 [(z : Int)] = I64 (ofN (lbl k l (q + 1))) := by
          rw [NXT.out, ← List.append_assoc, ofN_append _ [z], I64_append]; rfl
        rw [hR] at hown6
        have HO6 := Lib.hid hown6
        clear hR hownA r3 hg6 hown6 HO3 BC
        go_wp2_with fail
        go_roundw
        case rel => exact ⟨q + 1, p2 + 1, c6, A6, by omega, by go_num, rfl, by have := HP2.out; have := hpq.out; have hqk : q * (k + 1) ≤ 500 * 17 := Nat.mul_le_mul (by omega) (by omega); omega, by show _ = _; rw [Nat.succ_mul, ← hpq.out, HP2.out]; omega, HO6.out, hb6.out⟩
        case measure => simp [intOf]; omega
    · obtain rfl : q = m := by omega
      have hge : ¬ 2 * (q : Int) < (n : Int) := by have := HN.out; omega
      have hq2w : IntKind.i64.wrap (2 * (q : Int)) = 2 * (q : Int) := by simp [IntKind.wrap, IntKind.signed, IntKind.bits]; omega
      have HLN : Hid ((ofN (lbl k l q)).length = p) := by show _ = _; rw [ofN_len, lbl_len, hpq.out]
      go_wp2_with fail
      go_ret
      refine NewI64.mk rfl ?_ hbq.out
      rw [HLN.out]
      exact ho.out
end Go.Proofs.Ytfolefadjdcehaa
namespace Go.Proofs.Ytfolefadjdcehaa
set_option maxRecDepth 20000
open Go.RowKit
set_option linter.unusedVariables false
theorem ldrop_I (l : List Nat) (k : Nat) : (I64 (ofNB l)).drop k = I64 (ofNB (l.drop k)) := by rw [ofN_dropB]; simp [I64, List.map_drop]
theorem ltake_I (l : List Nat) (k : Nat) : (I64 (ofNB l)).take k = I64 (ofNB (l.take k)) := by rw [ofN_takeB, I64_take]
def LRefDPost (w : World) (k V m : Nat) (e : Ending) (w' : World) : Prop :=
  ∃ A' c' ok, e = .returned (.tuple #[.slice A' (2 * m) c', .bool ok]) ∧ w'.ownsRow w.heap.size 3 1 (.slice A' (2 * m) c') (2 * m) (I64 (ofN (decL k V m))) ∧ (ok = true ↔ Good (ofN (decL k V m))) ∧ Below w.heap.size w w'
set_option maxHeartbeats 4000000 in
theorem lrefDec_p (A : Option Addr) (n c m : Nat) (L : List Nat) (w : World) (h : Rd w w.heap.size A n (I64 (ofNB L))) (hb : Bin L) (hm : m ≤ 500) (hn : n = m * (lw m + 1)) (hnc : n ≤ c) (hc63 : c ≤ 9223372036854775807) (hA : A = none ∨ ∃ q o, A = some ⟨q, o, none⟩) :
    Calls Try.prog 24 #[.slice A n c, .int .i64 (m : Int)] w (LRefDPost w (lw m) (val L) m) := by
  obtain ⟨i0, hi0, hz0, hz1, hz2⟩ := info_parts info_int
  have hl : L.length = n := by rw [← ofN_lenB, ← I64_len, h.len]
  have RW := Lib.hid (fun W => rwidth_p m W (by omega))
  have h16 := lw_16 (m := m) (by omega)
  have H := Lib.hid h
  have HB := Lib.hid hb
  have HA := Lib.hid hA
  generalize lw m = k at *
  have HN := Lib.hid hn
  have HL := Lib.hid hl
  have hn9 : n ≤ 8500 := by rw [hn]; exact Nat.le_trans (Nat.mul_le_mul hm (show k + 1 ≤ 17 by omega)) (by decide)
  clear h hb hA hn hl
  go_enter Try.func24, Try.ntmps24
  go_wp2_with fail
  refine (RW.out _).mono ?_
  rintro e w1 ⟨rfl, rfl⟩
  go_wp2_with fail
  go_loopw [0, 6, 8] (fun v s i wr => ∃ (q s0 mp cp p cv : Nat) (Ap Av : Option Addr), q ≤ m ∧ i = .int .i64 (q : Int) ∧ Hid (s0 = q * (k + 1)) ∧ Hid (mp + s0 = n) ∧ v = .slice Ap mp cp ∧ mp ≤ cp ∧ cp ≤ 9223372036854775807 ∧ Hid (Ap = none ∨ ∃ q o, Ap = some ⟨q, o, none⟩) ∧ Hid (Rd wr w.heap.size Ap mp (I64 (ofNB (L.drop s0)))) ∧
    s = .slice Av p cv ∧ p ≤ 1000 ∧ Hid (p = 2 * q) ∧ Hid (wr.ownsRow w.heap.size 3 1 (.slice Av p cv) p (I64 (ofN (decL k (val L) q)))) ∧ Hid (Below w.heap.size w wr)) (fun _ _ i _ => m - (intOf i).toNat)
  case atStart => exact ⟨0, 0, n, c, 0, 0, A, none, by omega, rfl, by show _ = _; simp, by show _ = _; omega, rfl, hnc, hc63, HA.out, by show Rd _ _ _ _ _; rw [List.drop_zero]; exact H.out, rfl, by omega, rfl, World.ownsRow_nil _ _ _ _, Below.refl _ _⟩
  case round =>
    obtain ⟨q, s0, mp, cp, p, cv, Ap, Av, hq, rfl, hs0, hmp, rfl, hmc, hcp, hAp, hrd, rfl, hp, hpq, ho, hbq⟩ := hrel
    clear H HA
    by_cases hlt : q < m
    · have hsm : s0 + (k + 1) ≤ n := by
        rw [hs0.out, HN.out, ← Nat.succ_mul]
        exact Nat.mul_le_mul_right _ hlt
      have hmk : k + 1 ≤ mp := by have := hmp.out; omega
      have hHL := HL.out
      have HX : Hid (val ((L.drop s0).take k) = val L / 2 ^ s0 % 2 ^ k) := by show _ = _; rw [val_take (HB.out.drop s0), val_drop HB.out]
      have HY : Hid ((L.drop s0).getD k 0 = val L / 2 ^ (s0 + k) % 2) := by
        show _ = _
        rw [val_bit HB.out]
        simp [List.getD_eq_getElem?_getD, List.getElem?_drop]
      have HDE : Hid (de k (val L) q = 2 * val ((L.drop s0).take k) + (L.drop s0).getD k 0) := by show _ = _; rw [HX.out, HY.out, hs0.out]; rfl
      have NXT : Hid (decL k (val L) (q + 1) = decL k (val L) q ++ [de k (val L) q, mateN (de k (val L) q)]) := rfl
      have hxb : val ((L.drop s0).take k) < 65536 := by
        rw [HX.out]
        exact Nat.lt_of_lt_of_le (Nat.mod_lt _ (Nat.two_pow_pos k)) (Nat.pow_le_pow_right (show 0 < 2 by decide) h16)
      have hyb : (L.drop s0).getD k 0 < 2 := (HB.out.drop s0).getD k
      obtain ⟨bq, oq, rfl⟩ : ∃ bq oq, Ap = some ⟨bq, oq, none⟩ := by
        rcases hAp.out with e | ⟨bq, oq, e⟩
        · have r := hrd.out; rw [e] at r; have := r.none_; omega
        · exact ⟨bq, oq, e⟩
      obtain ⟨b2, o2, he2, hbB, hc⟩ := hrd.out.i64 (by omega)
      cases he2
      have cy := hc k (by omega)
      rw [ofN_getB] at cy
      have VL : Hid (∀ c', Calls Try.prog 50 #[.slice (some ⟨bq, oq, none⟩) k c'] wr fun e w' => e = .returned (.int .u64 ((val ((L.drop s0).take k) : Nat) : Int)) ∧ wr = w') := fun c' => by
        have r := hrd.out.take k (by omega)
        rw [ltake_I] at r
        exact value_p _ k c' _ _ _ r ((HB.out.drop s0).take k) (by omega)
      generalize val ((L.drop s0).take k) = x at *
      generalize (L.drop s0).getD k 0 = y at *
      obtain ⟨d, hd⟩ : ∃ d, d = 2 * x + y := ⟨_, rfl⟩
      have hde : Hid (de k (val L) q = d) := by show _ = _; rw [HDE.out, hd]
      rw [hde.out] at NXT
      have hdb : d < 131072 := by omega
      have hdi : 2 * (x : Int) + (y : Int) = (d : Int) := by omega
      have MT := Lib.hid (fun W => rmate_p d W (by omega))
      have hmb2 : mateN d < 131073 := by rw [mateN_eq]; split <;> omega
      generalize mateN d = dm at *
      have hownA := ho.out.alloc (.cells #[.int .i64 (d : Int), .int .i64 (dm : Int)] 3)
      have r3 := Rd.new wr 3 #[.int .i64 (d : Int), .int .i64 (dm : Int)] 2 (I64 [(d : Int), (dm : Int)]) (by simp [I64]) (by simp)
      have t1 : p + 2 ≤ maxLen := by simp only [maxLen]; omega
      have t2 : (p + 2) * 8 ≤ 140737488355328 := by omega
      have hws := hbq.out.size
      have t3 : w.heap.size ≤ (wr.alloc (.cells #[.int .i64 (d : Int), .int .i64 (dm : Int)] 3)).heap.size := by simp; omega
      have HXB := Lib.hid hxb
      clear hd HDE HX HY hc hHL ho
      have hki : (k : Int) ≤ (cp : Int) := by omega
      go_wp2_with fail
      refine (VL.out _).mono ?_
      rintro e w2 ⟨rfl, rfl⟩
      have FIN : ∀ (A6 : Option Addr) (c6 : Nat) (w6 : World), w6.ownsRow w.heap.size 3 1 (.slice A6 (p + 2) c6) (p + 2) (I64 (ofN (decL k (val L) q)) ++ I64 [(d : Int), (dm : Int)]) → (wr.alloc (.cells #[.int .i64 (d : Int), .int .i64 (dm : Int)] 3)).grownBy w6 (Value.slice Av p cv).ownBlock →
          Hid (w6.ownsRow w.heap.size 3 1 (.slice A6 (p + 2) c6) (p + 2) (I64 (ofN (decL k (val L) (q + 1))))) ∧ Hid (Below w.heap.size w w6) ∧ Below w.heap.size wr w6 := fun A6 c6 w6 hown6 hg6 => by
        have hR : I64 (ofN (decL k (val L) q)) ++ I64 [(d : Int), (dm : Int)] = I64 (ofN (decL k (val L) (q + 1))) := by rw [NXT.out, ofN_append, I64_append]; rfl
        rw [hR] at hown6
        have hbA : Below w.heap.size wr w6 := ((Below.refl w.heap.size wr).alloc hws _).trans (Below.appended hownA hg6 t3)
        exact ⟨hown6, hbq.out.trans hbA, hbA⟩
      have HFIN := Lib.hid FIN
      have HRN : Hid (∀ w6, Below w.heap.size wr w6 → Rd w6 w.heap.size (some ⟨bq, oq + (k + 1), none⟩) (mp - (k + 1)) (I64 (ofNB (L.drop (s0 + (k + 1)))))) := fun w6 m6 => by
        have := (hrd.out.below m6).drop (k + 1)
        rw [ldrop_I, List.drop_drop] at this
        exact this
      have HS2 : Hid (s0 + (k + 1) = (q + 1) * (k + 1)) := by show _ = _; rw [Nat.succ_mul, hs0.out]
      have HM2 : Hid (mp - (k + 1) + (s0 + (k + 1)) = n) := by show _ = _; have := hmp.out; omega
      clear FIN hrd hbq NXT hs0 hmp VL
      go_wp2_with (first
        | (go_at_call 42; refine (MT.out _).mono ?_; rintro e w2 ⟨rfl, rfl⟩)
        | (at_builtin; go_must (refine wpList_append_rd _ rfl _ _ 25 rfl w.heap.size 3 i0 (.int .i64 0) 8 Try.underlying25 hi0 hz0 hz1 hz2 rfl (.slice Av p cv) p (I64 (ofN (decL k (val L) q))) rfl hownA (wr.heap.size + 1) (some ⟨wr.heap.size, 0, none⟩) 2 2 (I64 [(d : Int), (dm : Int)]) rfl r3 (I64_one _) t1 t2 t3 ?_)))
      · intro A6 c6 w6 hc6 hm6 hown6 hg6 _
        obtain ⟨HO6, HB6, HA6⟩ := HFIN.out A6 c6 w6 hown6 hg6
        have RDN : Hid (Rd w6 w.heap.size (some ⟨bq, oq, none⟩) (mp - (k + 1)) (I64 (ofNB (L.drop (s0 + (k + 1)))))) := by
          have e0 : mp - (k + 1) = 0 := by omega
          have e1 : L.drop (s0 + (k + 1)) = [] := List.drop_of_length_le (by have := HM2.out; have := HL.out; omega)
          rw [e1, e0]
          exact Rd.nil _ _ _
        clear HFIN HRN hown6 hg6 hownA r3 HA6
        go_wp2_with fail
        go_roundw
        case rel => exact ⟨q + 1, s0 + (k + 1), mp - (k + 1), 0, p + 2, c6, some ⟨bq, oq, none⟩, A6, by omega, by go_num, HS2, HM2, by first | rfl | (congr 1 <;> omega), by omega, by omega, .inr ⟨_, _, rfl⟩, RDN.out, rfl, by have := hpq.out; omega, by show _ = _; have := hpq.out; omega, HO6.out, HB6.out⟩
        case measure => simp [intOf]; omega
      · intro A6 c6 w6 hc6 hm6 hown6 hg6 _
        obtain ⟨HO6, HB6, HA6⟩ := HFIN.out A6 c6 w6 hown6 hg6
        have RDN : Hid (Rd w6 w.heap.size (some ⟨bq, oq + (k + 1), none⟩) (mp - (k + 1)) (I64 (ofNB (L.drop (s0 + (k + 1)))))) := HRN.out w6 HA6
        clear HFIN HRN hown6 hg6 hownA r3 HA6
        go_wp2_with fail
        go_roundw
        case rel => exact ⟨q + 1, s0 + (k + 1), mp - (k + 1), cp - (k + 1), p + 2, c6, some ⟨bq, oq + (k + 1), none⟩, A6, by omega, by go_num, HS2, HM2, by first | rfl | (congr 1 <;> omega), by omega, by omega, .inr ⟨_, _, rfl⟩, RDN.out, rfl, by have := hpq.out; omega, by show _ = _; have := hpq.out; omega, HO6.out, HB6.out⟩
        case measure => simp [intOf]; omega
    · obtain rfl : q = m := by omega
      obtain rfl : p = 2 * q := hpq.out
      have rdl := Rd.ofOwn ho.out
      have HLN : Hid ((decL k (val L) q).length = 2 * q) := decL_len k (val L) q
      by_cases hg : Good (ofN (decL k (val L) q))
      · obtain ⟨b, hinv⟩ := good_inv hg
        have MP := Lib.hid ((rmates_p Av (2 * q) cv _ (decL k (val L) q) b wr rdl hinv hp).mono fun e w' (hh : (e = .returned (.bool true) ∧ Kp (decL k (val L) q) ∨ e = .returned (.bool false) ∧ ¬ Kp (decL k (val L) q)) ∧ ∃ j, w' = wr.drewN j) => (show e = .returned (.bool true) ∧ ∃ j, w' = wr.drewN j from by
          rcases hh.1 with c | c
          · exact ⟨c.1, hh.2⟩
          · exact absurd (decL_kp k (val L) q) c.2))
        have HG := Lib.hid hg
        clear rdl hg hinv
        go_wp2_with fail
        refine MP.out.mono ?_
        rintro e w3 ⟨rfl, j, rfl⟩
        go_wp2_with fail
        go_ret2
        exact ⟨Av, cv, true, rfl, own_below ho.out (below_draws (Below.refl _ _) j), by simp [HG.out], below_draws hbq.out j⟩
      · have MP := Lib.hid (rmates_no Av (2 * q) cv _ _ wr rdl (by omega) hg)
        have HG := Lib.hid hg
        clear rdl hg
        go_wp2_with fail
        refine MP.out.mono ?_
        rintro e w3 ⟨rfl, rfl⟩
        go_wp2_with fail
        go_ret2
        exact ⟨Av, cv, false, rfl, ho.out, by simp [HG.out], hbq.out⟩
end Go.Proofs.Ytfolefadjdcehaa
