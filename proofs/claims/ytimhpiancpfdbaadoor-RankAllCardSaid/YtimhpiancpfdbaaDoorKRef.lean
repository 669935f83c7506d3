/- The document's Rank and Select. -/
import Derived.Test.YtimhpiancpfdbaaDoorKAwake
namespace Go.Proofs.YtimhpiancpfdbaaDoor
open Go.RowKit
set_option linter.unusedVariables false
theorem isB_list {l : List Nat} (h : Bin l) {bit : Int} (hb : bit = 0 ∨ bit = 1) (k : Nat) : IsB bit (val l) k ↔ ((l.getD k 0 : Nat) : Int) = bit := by
  unfold IsB
  rw [Nat.testBit_eq_decide_div_mod_eq, val_bit h]
  have := h.getD k
  generalize l.getD k 0 = y at *
  rcases hb with rfl | rfl
  · simp; omega
  · simp; omega
theorem cb_list {l : List Nat} (h : Bin l) {bit : Int} (hb : bit = 0 ∨ bit = 1) (k : Nat) : cb bit (val l) (k + 1) = cb bit (val l) k + if ((l.getD k 0 : Nat) : Int) = bit then 1 else 0 := by
  by_cases e : ((l.getD k 0 : Nat) : Int) = bit
  · rw [if_pos e]; exact cb_next ((isB_list h hb k).2 e)
  · rw [if_neg e]; exact cb_stay fun hx => e ((isB_list h hb k).1 hx)
theorem own_addr {w : World} {base n m c : Nat} {A : Option Addr} {xs : List Value} (h : w.ownsRow base 3 1 (.slice A m c) n xs) : (A = none ∧ m = 0 ∧ c = 0) ∨ ∃ b, A = some ⟨b, 0, none⟩ := by
  rcases h.2 with ⟨h1, h2⟩ | ⟨g, cap, cur, hv, _⟩
  · simp only [Value.slice.injEq] at h1
    exact .inl h1
  · simp only [Value.slice.injEq] at hv
    exact .inr ⟨g, hv.1⟩
theorem rr_no (A : Option Addr) (m c : Nat) (bit i : Int) (w : World) (hm : m ≤ 1000000) (hno : ¬ (bit = 0 ∨ bit = 1) ∨ i < 0 ∨ (m : Int) < i) :
    Calls Tryd.prog 17 #[.slice A m c, .int .i64 bit, .int .i64 i] w fun e w' => e = .returned (.tuple #[.int .i64 0, .bool false]) ∧ w = w' := by
  by_cases h0 : bit = 0
  · subst h0
    have hi : i < 0 ∨ (m : Int) < i := by
      rcases hno with h | h
      · exact absurd (.inl rfl) h
      · exact h
    clear hno
    by_cases h1 : i < 0
    · clear hi
      go_enter Tryd.func17, Tryd.ntmps17
      go_wp2_with fail
      go_ret2
      exact ⟨rfl, rfl⟩
    · have h2 : (m : Int) < i := by omega
      clear hi
      go_enter Tryd.func17, Tryd.ntmps17
      go_wp2_with fail
      go_ret2
      exact ⟨rfl, rfl⟩
  · have g0 : (bit != 0) = true := by rw [bne_iff_ne]; exact h0
    by_cases h1 : bit = 1
    · subst h1
      have hi : i < 0 ∨ (m : Int) < i := by
        rcases hno with h | h
        · exact absurd (.inr rfl) h
        · exact h
      clear hno h0 g0
      by_cases h1 : i < 0
      · clear hi
        go_enter Tryd.func17, Tryd.ntmps17
        go_wp2_with fail
        go_ret2
        exact ⟨rfl, rfl⟩
      · have h2 : (m : Int) < i := by omega
        clear hi
        go_enter Tryd.func17, Tryd.ntmps17
        go_wp2_with fail
        go_ret2
        exact ⟨rfl, rfl⟩
    · have g1 : (bit != 1) = true := by rw [bne_iff_ne]; exact h1
      clear hno h0 h1
      go_enter Tryd.func17, Tryd.ntmps17
      go_wp2_with fail
      go_ret2
      exact ⟨rfl, rfl⟩
set_option maxHeartbeats 2000000 in
theorem rr_yes (A : Option Addr) (m c B i : Nat) (bit : Int) (l : List Nat) (w : World) (h : Rd w B A m (I64 (ofN l))) (hl : l.length = m) (hbn : Bin l) (hA : (A = none ∧ m = 0 ∧ c = 0) ∨ ∃ b, A = some ⟨b, 0, none⟩) (hmc : m ≤ c) (hcm : c ≤ maxLen) (hm : m ≤ 1000000) (hb : bit = 0 ∨ bit = 1) (hi : i ≤ m) :
    Calls Tryd.prog 17 #[.slice A m c, .int .i64 bit, .int .i64 (i : Int)] w fun e w' => e = .returned (.tuple #[.int .i64 ((cb bit (val l) i : Nat) : Int), .bool true]) ∧ w = w' := by
  unfold maxLen at hcm
  have H := Lib.hid h
  have CN := Lib.hid (fun k => cb_list hbn hb k)
  have BN := Lib.hid hbn
  have hc0 : cb bit (val l) 0 = 0 := cb_zero _ _
  have hic : i ≤ c := by omega
  have hci : ¬ (c : Int) < (i : Int) := by omega
  have hmi : ¬ (m : Int) < (i : Int) := by omega
  have g1 : ∀ x : Int, x = 0 ∨ x = 1 → True := fun _ _ => trivial
  clear h hbn g1
  have C0 := Lib.hid hc0
  clear hc0
  rcases hA with ⟨rfl, rfl, rfl⟩ | ⟨b, rfl⟩
  · obtain rfl : i = 0 := by omega
    rw [C0.out]
    rcases hb with rfl | rfl
    · go_enter Tryd.func17, Tryd.ntmps17
      go_wp2_with fail
      go_loop [8, 31] (fun x y => x = .int .i64 0 ∧ y = .int .i64 0) (fun _ _ => 0)
      case atStart => exact ⟨rfl, rfl⟩
      case round =>
        obtain ⟨rfl, rfl⟩ := hrel
        go_wp2_with fail
        go_ret2
        exact ⟨rfl, rfl⟩
    · go_enter Tryd.func17, Tryd.ntmps17
      go_wp2_with fail
      go_loop [8, 31] (fun x y => x = .int .i64 0 ∧ y = .int .i64 0) (fun _ _ => 0)
      case atStart => exact ⟨rfl, rfl⟩
      case round =>
        obtain ⟨rfl, rfl⟩ := hrel
        go_wp2_with fail
        go_ret2
        exact ⟨rfl, rfl⟩
  · rcases hb with rfl | rfl
    · go_enter Tryd.func17, Tryd.ntmps17
      go_wp2_with fail
      go_loop [8, 31] (fun x y => ∃ k : Nat, k ≤ i ∧ y = .int .i64 (k : Int) ∧ x = .int .i64 ((cb 0 (val l) k : Nat) : Int)) (fun _ y => i - (intOf y).toNat)
      case atStart => exact ⟨0, by omega, rfl, by rw [C0.out]; rfl⟩
      case round =>
        obtain ⟨k, hk, rfl, rfl⟩ := hrel
        by_cases hlt : k < i
        · obtain ⟨b', o, e, _, k1⟩ := H.out.i64 (by omega)
          cases e
          have t1 := k1 k (by omega)
          rw [Nat.zero_add, ofN_get] at t1
          have CK := Lib.hid (CN.out k)
          have hle := cb_le 0 (val l) k
          clear k1
          generalize l.getD k 0 = y at *
          generalize hcb : cb 0 (val l) k = s at *
          by_cases hy : ((y : Nat) : Int) = 0
          · have CK2 : Hid (cb 0 (val l) (k + 1) = s + 1) := by show _ = _; rw [CK.out, if_pos hy]
            have t2 : w.cell? ⟨b, k, none⟩ = some (.int .i64 0) := by rw [← hy]; exact t1
            clear t1 hy CK hcb
            go_wp2_with fail
            go_round
            case rel => exact ⟨k + 1, by omega, by go_num, by rw [CK2.out]; go_num⟩
            case measure => simp [intOf]; omega
          · have CK2 : Hid (cb 0 (val l) (k + 1) = s) := by show _ = _; rw [CK.out, if_neg hy, Nat.add_zero]
            have g1 : (((y : Nat) : Int) == 0) = false := by rw [beq_eq_false_iff_ne]; exact hy
            clear hy CK hcb
            go_wp2_with fail
            go_round
            case rel => exact ⟨k + 1, by omega, by go_num, by rw [CK2.out]⟩
            case measure => simp [intOf]; omega
        · obtain rfl : k = i := by omega
          go_wp2_with fail
          go_ret2
          exact ⟨rfl, rfl⟩
    · go_enter Tryd.func17, Tryd.ntmps17
      go_wp2_with fail
      go_loop [8, 31] (fun x y => ∃ k : Nat, k ≤ i ∧ y = .int .i64 (k : Int) ∧ x = .int .i64 ((cb 1 (val l) k : Nat) : Int)) (fun _ y => i - (intOf y).toNat)
      case atStart => exact ⟨0, by omega, rfl, by rw [C0.out]; rfl⟩
      case round =>
        obtain ⟨k, hk, rfl, rfl⟩ := hrel
        by_cases hlt : k < i
        · obtain ⟨b', o, e, _, k1⟩ := H.out.i64 (by omega)
          cases e
          have t1 := k1 k (by omega)
          rw [Nat.zero_add, ofN_get] at t1
          have CK := Lib.hid (CN.out k)
          have hle := cb_le 1 (val l) k
          clear k1
          generalize l.getD k 0 = y at *
          generalize hcb : cb 1 (val l) k = s at *
          by_cases hy : ((y : Nat) : Int) = 1
          · have CK2 : Hid (cb 1 (val l) (k + 1) = s + 1) := by show _ = _; rw [CK.out, if_pos hy]
            have t2 : w.cell? ⟨b, k, none⟩ = some (.int .i64 1) := by rw [← hy]; exact t1
            clear t1 hy CK hcb
            go_wp2_with fail
            go_round
            case rel => exact ⟨k + 1, by omega, by go_num, by rw [CK2.out]; go_num⟩
            case measure => simp [intOf]; omega
          · have CK2 : Hid (cb 1 (val l) (k + 1) = s) := by show _ = _; rw [CK.out, if_neg hy, Nat.add_zero]
            have g1 : (((y : Nat) : Int) == 1) = false := by rw [beq_eq_false_iff_ne]; exact hy
            clear hy CK hcb
            go_wp2_with fail
            go_round
            case rel => exact ⟨k + 1, by omega, by go_num, by rw [CK2.out]⟩
            case measure => simp [intOf]; omega
        · obtain rfl : k = i := by omega
          go_wp2_with fail
          go_ret2
          exact ⟨rfl, rfl⟩
/-- What the document's Select answers: the place, or none. -/
def RsPost (w : World) (m k V : Nat) (bit : Int) (e : Ending) (w' : World) : Prop :=
  w = w' ∧ ((∃ p : Nat, p < m ∧ e = .returned (.tuple #[.int .i64 (p : Int), .bool true]) ∧ IsB bit V p ∧ cb bit V p = k) ∨ (e = .returned (.tuple #[.int .i64 0, .bool false]) ∧ cb bit V m ≤ k))
theorem RsPost.yes {w : World} {m k V : Nat} {bit : Int} {e : Ending} (p : Nat) (h1 : p < m) (h2 : e = .returned (.tuple #[.int .i64 (p : Int), .bool true])) (h3 : IsB bit V p) (h4 : cb bit V p = k) : RsPost w m k V bit e w := ⟨rfl, .inl ⟨p, h1, h2, h3, h4⟩⟩
theorem RsPost.no {w : World} {m k V : Nat} {bit : Int} {e : Ending} (h2 : e = .returned (.tuple #[.int .i64 0, .bool false])) (h4 : cb bit V m ≤ k) : RsPost w m k V bit e w := ⟨rfl, .inr ⟨h2, h4⟩⟩
def RnPost (w : World) (e : Ending) (w' : World) : Prop := w = w' ∧ ∃ (x : Int) (y : Value), e = .returned (.tuple #[.int .i64 x, y]) ∧ ∃ b, y = .bool b
theorem RnPost.mk' {w : World} {e : Ending} (x : Int) (b : Bool) (h : e = .returned (.tuple #[.int .i64 x, .bool b])) : RnPost w e w := ⟨rfl, x, _, h, b, rfl⟩
set_option maxHeartbeats 2000000 in
theorem rs_p (A : Option Addr) (m c B k : Nat) (bit : Int) (l : List Nat) (w : World) (h : Rd w B A m (I64 (ofN l))) (hbn : Bin l) (hm : m ≤ 1000000) (hb : bit = 0 ∨ bit = 1) (hk : k ≤ 9223372036854775807) :
    Calls Tryd.prog 18 #[.slice A m c, .int .i64 bit, .int .i64 (k : Int)] w (RsPost w m k (val l) bit) := by
  have H := Lib.hid h
  have IL := Lib.hid (fun j => isB_list hbn hb j)
  clear h hbn
  rcases hb with rfl | rfl
  ·
    go_enter Tryd.func18, Tryd.ntmps18
    go_wp2_with fail
    go_loop [2, 12] (fun x y => ∃ j z : Nat, j ≤ m ∧ y = .int .i64 (j : Int) ∧ x = .int .i64 (z : Int) ∧ Hid (cb 0 (val l) j + z = k)) (fun _ y => m - (intOf y).toNat)
    case atStart => exact ⟨0, k, by omega, rfl, rfl, by show _ = _; rw [cb_zero]; omega⟩
    case round =>
      obtain ⟨j, z, hj, rfl, rfl, hz⟩ := hrel
      have hz9 : z ≤ 9223372036854775807 := by have := hz.out; omega
      by_cases hlt : j < m
      · obtain ⟨b', o, e, _, k1⟩ := H.out.i64 (by omega)
        subst e
        have t1 := k1 j (by omega)
        rw [ofN_get] at t1
        have IB := Lib.hid (IL.out j)
        have NX : Hid (IsB 0 (val l) j → cb 0 (val l) (j + 1) = cb 0 (val l) j + 1) := fun h => cb_next h
        have ST : Hid (¬ IsB 0 (val l) j → cb 0 (val l) (j + 1) = cb 0 (val l) j) := fun h => cb_stay h
        clear k1
        generalize l.getD j 0 = y at *
        by_cases hy : ((y : Nat) : Int) = 0
        · have t2 : w.cell? ⟨b', o + j, none⟩ = some (.int .i64 0) := by rw [← hy]; exact t1
          have IY := Lib.hid (IB.out.2 hy)
          clear t1 hy IB
          by_cases hz0 : z = 0
          · subst hz0
            go_wp2_with fail
            go_ret2
            exact RsPost.yes j hlt rfl IY.out (by have := hz.out; omega)
          · have HZ1 : Hid (cb 0 (val l) (j + 1) + (z - 1) = k) := by
              show _ = _
              have h1 := NX.out IY.out
              have h2 := hz.out
              rw [h1]; omega
            go_wp2_with fail
            go_round
            case rel => exact ⟨j + 1, z - 1, by omega, by go_num, by go_num, HZ1.out⟩
            case measure => simp [intOf]; omega
        · have g1 : (((y : Nat) : Int) == 0) = false := by rw [beq_eq_false_iff_ne]; exact hy
          have HZ1 : Hid (cb 0 (val l) (j + 1) + z = k) := by
            show _ = _
            rw [ST.out fun h => hy (IB.out.1 h)]; exact hz.out
          clear hy IB
          go_wp2_with fail
          go_round
          case rel => exact ⟨j + 1, z, by omega, by go_num, rfl, HZ1.out⟩
          case measure => simp [intOf]; omega
      · obtain rfl : j = m := by omega
        go_wp2_with fail
        go_ret2
        exact RsPost.no rfl (by have := hz.out; omega)
  ·
    go_enter Tryd.func18, Tryd.ntmps18
    go_wp2_with fail
    go_loop [2, 12] (fun x y => ∃ j z : Nat, j ≤ m ∧ y = .int .i64 (j : Int) ∧ x = .int .i64 (z : Int) ∧ Hid (cb 1 (val l) j + z = k)) (fun _ y => m - (intOf y).toNat)
    case atStart => exact ⟨0, k, by omega, rfl, rfl, by show _ = _; rw [cb_zero]; omega⟩
    case round =>
      obtain ⟨j, z, hj, rfl, rfl, hz⟩ := hrel
      have hz9 : z ≤ 9223372036854775807 := by have := hz.out; omega
      by_cases hlt : j < m
      · obtain ⟨b', o, e, _, k1⟩ := H.out.i64 (by omega)
        subst e
        have t1 := k1 j (by omega)
        rw [ofN_get] at t1
        have IB := Lib.hid (IL.out j)
        have NX : Hid (IsB 1 (val l) j → cb 1 (val l) (j + 1) = cb 1 (val l) j + 1) := fun h => cb_next h
        have ST : Hid (¬ IsB 1 (val l) j → cb 1 (val l) (j + 1) = cb 1 (val l) j) := fun h => cb_stay h
        clear k1
        generalize l.getD j 0 = y at *
        by_cases hy : ((y : Nat) : Int) = 1
        · have t2 : w.cell? ⟨b', o + j, none⟩ = some (.int .i64 1) := by rw [← hy]; exact t1
          have IY := Lib.hid (IB.out.2 hy)
          clear t1 hy IB
          by_cases hz0 : z = 0
          · subst hz0
            go_wp2_with fail
            go_ret2
            exact RsPost.yes j hlt rfl IY.out (by have := hz.out; omega)
          · have HZ1 : Hid (cb 1 (val l) (j + 1) + (z - 1) = k) := by
              show _ = _
              have h1 := NX.out IY.out
              have h2 := hz.out
              rw [h1]; omega
            go_wp2_with fail
            go_round
            case rel => exact ⟨j + 1, z - 1, by omega, by go_num, by go_num, HZ1.out⟩
            case measure => simp [intOf]; omega
        · have g1 : (((y : Nat) : Int) == 1) = false := by rw [beq_eq_false_iff_ne]; exact hy
          have HZ1 : Hid (cb 1 (val l) (j + 1) + z = k) := by
            show _ = _
            rw [ST.out fun h => hy (IB.out.1 h)]; exact hz.out
          clear hy IB
          go_wp2_with fail
          go_round
          case rel => exact ⟨j + 1, z, by omega, by go_num, rfl, HZ1.out⟩
          case measure => simp [intOf]; omega
      · obtain rfl : j = m := by omega
        go_wp2_with fail
        go_ret2
        exact RsPost.no rfl (by have := hz.out; omega)
set_option maxHeartbeats 2000000 in
theorem rs_neg (A : Option Addr) (m c B : Nat) (k bit : Int) (l : List Nat) (w : World) (h : Rd w B A m (I64 (ofN l))) (hm : m ≤ 1000000) (hb : bit = 0 ∨ bit = 1) (hk : -9223372036854775808 ≤ k ∧ k ≤ 9223372036854775807) :
    Calls Tryd.prog 18 #[.slice A m c, .int .i64 bit, .int .i64 k] w (RnPost w) := by
  have H := Lib.hid h
  clear h
  rcases hb with rfl | rfl
  ·
    go_enter Tryd.func18, Tryd.ntmps18
    go_wp2_with fail
    go_loop [2, 12] (fun x y => ∃ (j : Nat) (z : Int), j ≤ m ∧ y = .int .i64 (j : Int) ∧ x = .int .i64 z ∧ -9223372036854775808 ≤ z ∧ z ≤ 9223372036854775807) (fun _ y => m - (intOf y).toNat)
    case atStart => exact ⟨0, k, by omega, rfl, rfl, hk.1, hk.2⟩
    case round =>
      obtain ⟨j, z, hj, rfl, rfl, hz1, hz2⟩ := hrel
      by_cases hlt : j < m
      · obtain ⟨b', o, e, _, k1⟩ := H.out.i64 (by omega)
        subst e
        have t1 := k1 j (by omega)
        clear k1
        generalize (ofN l).getD j 0 = y at *
        by_cases hy : y = 0
        · subst hy
          by_cases hz0 : z = 0
          · subst hz0
            go_wp2_with fail
            go_ret2
            exact RnPost.mk' _ _ rfl
          · have gz : (z == 0) = false := by rw [beq_eq_false_iff_ne]; exact hz0
            by_cases hzm : z = -9223372036854775808
            · have e9 : IntKind.i64.wrap (z - 1) = 9223372036854775807 := by subst hzm; decide
              go_wp2_with fail
              go_round
              case rel => exact ⟨j + 1, 9223372036854775807, by omega, by go_num, by (subst hzm; first | decide | (simp [wrap64]; done) | (unfold wrap64; decide)), by omega, by omega⟩
              case measure => simp [intOf]; omega
            · go_wp2_with fail
              go_round
              case rel => exact ⟨j + 1, z - 1, by omega, by go_num, rfl, by omega, by omega⟩
              case measure => simp [intOf]; omega
        · have g1 : (y == 0) = false := by rw [beq_eq_false_iff_ne]; exact hy
          clear hy
          go_wp2_with fail
          go_round
          case rel => exact ⟨j + 1, z, by omega, by go_num, rfl, hz1, hz2⟩
          case measure => simp [intOf]; omega
      · obtain rfl : j = m := by omega
        go_wp2_with fail
        go_ret2
        exact RnPost.mk' _ _ rfl
  ·
    go_enter Tryd.func18, Tryd.ntmps18
    go_wp2_with fail
    go_loop [2, 12] (fun x y => ∃ (j : Nat) (z : Int), j ≤ m ∧ y = .int .i64 (j : Int) ∧ x = .int .i64 z ∧ -9223372036854775808 ≤ z ∧ z ≤ 9223372036854775807) (fun _ y => m - (intOf y).toNat)
    case atStart => exact ⟨0, k, by omega, rfl, rfl, hk.1, hk.2⟩
    case round =>
      obtain ⟨j, z, hj, rfl, rfl, hz1, hz2⟩ := hrel
      by_cases hlt : j < m
      · obtain ⟨b', o, e, _, k1⟩ := H.out.i64 (by omega)
        subst e
        have t1 := k1 j (by omega)
        clear k1
        generalize (ofN l).getD j 0 = y at *
        by_cases hy : y = 1
        · subst hy
          by_cases hz0 : z = 0
          · subst hz0
            go_wp2_with fail
            go_ret2
            exact RnPost.mk' _ _ rfl
          · have gz : (z == 0) = false := by rw [beq_eq_false_iff_ne]; exact hz0
            by_cases hzm : z = -9223372036854775808
            · have e9 : IntKind.i64.wrap (z - 1) = 9223372036854775807 := by subst hzm; decide
              go_wp2_with fail
              go_round
              case rel => exact ⟨j + 1, 9223372036854775807, by omega, by go_num, by (subst hzm; first | decide | (simp [wrap64]; done) | (unfold wrap64; decide)), by omega, by omega⟩
              case measure => simp [intOf]; omega
            · go_wp2_with fail
              go_round
              case rel => exact ⟨j + 1, z - 1, by omega, by go_num, rfl, by omega, by omega⟩
              case measure => simp [intOf]; omega
        · have g1 : (y == 1) = false := by rw [beq_eq_false_iff_ne]; exact hy
          clear hy
          go_wp2_with fail
          go_round
          case rel => exact ⟨j + 1, z, by omega, by go_num, rfl, hz1, hz2⟩
          case measure => simp [intOf]; omega
      · obtain rfl : j = m := by omega
        go_wp2_with fail
        go_ret2
        exact RnPost.mk' _ _ rfl
set_option maxHeartbeats 2000000 in
theorem rs_bad (A : Option Addr) (m c B : Nat) (k bit : Int) (l : List Nat) (w : World) (h : Rd w B A m (I64 (ofN l))) (hbn : Bin l) (hm : m ≤ 1000000) (hb : ¬ (bit = 0 ∨ bit = 1)) :
    Calls Tryd.prog 18 #[.slice A m c, .int .i64 bit, .int .i64 k] w fun e w' => e = .returned (.tuple #[.int .i64 0, .bool false]) ∧ w = w' := by
  have H := Lib.hid h
  have BN := Lib.hid hbn
  have HB := Lib.hid hb
  clear h hbn hb
  go_enter Tryd.func18, Tryd.ntmps18
  go_wp2_with fail
  go_loop [12] (fun y => ∃ j : Nat, j ≤ m ∧ y = .int .i64 (j : Int)) (fun y => m - (intOf y).toNat)
  case atStart => exact ⟨0, by omega, rfl⟩
  case round =>
    obtain ⟨j, hj, rfl⟩ := hrel
    by_cases hlt : j < m
    · obtain ⟨b', o, e, _, k1⟩ := H.out.i64 (by omega)
      subst e
      have t1 := k1 j (by omega)
      rw [ofN_get] at t1
      have hy2 := BN.out.getD j
      clear k1
      generalize l.getD j 0 = y at *
      have g1 : (((y : Nat) : Int) == bit) = false := by
        rw [beq_eq_false_iff_ne]
        intro e
        have := HB.out
        omega
      go_wp2_with fail
      go_round
      case rel => exact ⟨j + 1, by omega, by go_num⟩
      case measure => simp [intOf]; omega
    · obtain rfl : j = m := by omega
      go_wp2_with fail
      go_ret2
      exact ⟨rfl, rfl⟩
end Go.Proofs.YtimhpiancpfdbaaDoor
