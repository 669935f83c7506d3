/- How many letters are of a kind: the document's count, and the word's. -/
import Derived.Test.YtagpdpacaoianaaGreatDoorZg1
import Derived.Test.YtagpdpacaoianaaGreatDoorZg6
import Derived.Test.YtagpdpacaoianaaGreatDoorZg2
import Derived.Test.YtagpdpacaoianaaGreatDoorZg4
namespace Go.Proofs.YtagpdpacaoianaaGreatDoor
set_option maxRecDepth 20000
open Go.RowKit
set_option linter.unusedVariables false
/-- How many are z. -/
def cntZ (z : Int) (ks : List Nat) : Nat := (ks.filter fun (x : Nat) => decide ((x : Int) = z)).length
theorem cntZ_snoc (z : Int) (ks : List Nat) (x : Nat) : cntZ z (ks ++ [x]) = cntZ z ks + if (x : Int) = z then 1 else 0 := by
  unfold cntZ
  rw [List.filter_append, List.length_append]
  by_cases h : (x : Int) = z <;> simp [h]
theorem cntZ_le (z : Int) (ks : List Nat) : cntZ z ks ≤ ks.length := List.length_filter_le _ _
theorem cntZ_nat (k : Nat) (ks : List Nat) : cntZ (k : Int) ks = cntK k ks := by
  unfold cntZ cntK
  congr 1
  refine List.filter_congr fun x _ => ?_
  rw [decide_eq_decide]; omega
theorem cntZ_none {z : Int} {ks : List Nat} (hk : Kds ks) (h : ¬ Kd z) : cntZ z ks = 0 := by
  unfold cntZ
  rw [List.length_eq_zero_iff, List.filter_eq_nil_iff]
  intro x hx
  rw [decide_eq_true_iff]
  intro e
  exact h ⟨by omega, by have := hk x hx; omega⟩
theorem cntK_le (k : Nat) (ks : List Nat) : cntK k ks ≤ ks.length := List.length_filter_le _ _
/-- Of the first y of a kind's sort, how many are of the kind. -/
def cntO (k y : Nat) (ks : List Nat) : Nat := if k % 2 = 0 then ((ownL (k / 2) ks).take y).sum else y - ((ownL (k / 2) ks).take y).sum
theorem bin_sum_le {l : List Nat} (h : Bin l) : l.sum ≤ l.length := by
  induction l with
  | nil => simp
  | cons x l ih =>
    have h1 := ih fun y hy => h y (List.mem_cons_of_mem _ hy)
    have h2 := h x (List.mem_cons_self ..)
    rw [List.sum_cons, List.length_cons]; omega
theorem cntO_ah {ks : List Nat} (h : Kds ks) {k : Nat} (hk : k < 4) (i : Nat) : cntO k (ah (k / 2) ks i) ks = cntK k (ks.take i) := by
  obtain ⟨h1, h2⟩ := ownL_cnt (k / 2) (ks.take i) (h.take i)
  have h3 : ah (k / 2) ks i = (ownL (k / 2) (ks.take i)).length := rfl
  unfold cntO
  rw [← ownL_take, h1, h3, h2]
  by_cases e : k % 2 = 0
  · rw [if_pos e, show 2 * (k / 2) = k by omega]
  · rw [if_neg e, show 2 * (k / 2) + 1 = k by omega]; omega
theorem cntO_all {ks : List Nat} (h : Kds ks) {k : Nat} (hk : k < 4) : cntO k (ownL (k / 2) ks).length ks = cntK k ks := by
  have := cntO_ah h hk ks.length
  rwa [ah_all, List.take_length] at this
theorem cntO_next {ks : List Nat} {k y : Nat} (hy : y < (ownL (k / 2) ks).length) : cntO k (y + 1) ks = cntO k y ks + if (ownL (k / 2) ks).getD y 0 = 1 - k % 2 then 1 else 0 := by
  have hb := (ownL_bin (k / 2) ks).getD y
  have hle := bin_sum_le ((ownL_bin (k / 2) ks).take y)
  rw [List.length_take] at hle
  unfold cntO
  rw [take_snoc _ y hy, List.sum_append]
  simp only [List.sum_cons, List.sum_nil]
  generalize (ownL (k / 2) ks).getD y 0 = b at *
  by_cases e : k % 2 = 0
  · rw [if_pos e, if_pos e]; split <;> omega
  · rw [if_neg e, if_neg e]; split <;> omega
theorem cntO_zero (k : Nat) (ks : List Nat) : cntO k 0 ks = 0 := by unfold cntO; simp
theorem cntO_le {k y : Nat} {ks : List Nat} (hy : y ≤ (ownL (k / 2) ks).length) : cntO k y ks ≤ y := by
  have hle := bin_sum_le ((ownL_bin (k / 2) ks).take y)
  rw [List.length_take] at hle
  unfold cntO; split <;> omega
theorem cntO_mono {k x : Nat} {ks : List Nat} : ∀ d, x + d ≤ (ownL (k / 2) ks).length → cntO k x ks ≤ cntO k (x + d) ks
  | 0, _ => Nat.le_refl _
  | d + 1, h => by
    have := cntO_mono (k := k) (x := x) (ks := ks) d (by omega)
    rw [← Nat.add_assoc, cntO_next (by omega)]; omega
set_option maxHeartbeats 1000000 in
theorem refCount4_p (A : Option Addr) (n c B : Nat) (ks : List Nat) (z : Int) (w : World) (h : Rd w B A n (I64 (ofNB ks))) (hn : n ≤ 1000000) :
    Calls Tryz.prog 31 #[.slice A n c, .int .i64 z] w fun e w' => e = .returned (.int .i64 ((cntZ z ks : Nat) : Int)) ∧ w = w' := by
  have hl : ks.length = n := by rw [← ofN_lenB, ← I64_len, h.len]
  have HL := Lib.hid hl
  have H := Lib.hid h
  have HC : Hid (∀ j, j < n → cntZ z (ks.take (j + 1)) = cntZ z (ks.take j) + if ((ks.getD j 0 : Nat) : Int) = z then 1 else 0) := fun j hj => by
    rw [take_snoc ks j (by omega), cntZ_snoc]
  have HM : Hid (∀ j, cntZ z (ks.take j) ≤ j) := fun j => by have := cntZ_le z (ks.take j); rw [List.length_take] at this; omega
  clear hl h
  go_enter Tryz.func31, Tryz.ntmps31
  go_wp2_with fail
  go_loop [5, 10] (fun x i => ∃ j y : Nat, j ≤ n ∧ y ≤ j ∧ i = .int .i64 (j : Int) ∧ x = .int .i64 (y : Int) ∧ Hid (y = cntZ z (ks.take j))) (fun _ i => n - (intOf i).toNat)
  case atStart => exact ⟨0, 0, by omega, by omega, rfl, rfl, by show 0 = cntZ z (ks.take 0); rfl⟩
  case round =>
    obtain ⟨j, y, hj, hyj, rfl, rfl, hy⟩ := hrel
    by_cases hlt : j < n
    · obtain ⟨b', o, e, _, k1⟩ := H.out.i64 (by omega)
      subst e
      have t1 := k1 j hlt
      rw [ofN_getB] at t1
      have hc := HC.out j hlt
      have hm := HM.out (j + 1)
      rw [← hy.out] at hc
      generalize ks.getD j 0 = x at *
      clear k1
      by_cases he : (x : Int) = z
      · rw [if_pos he] at hc
        have HN : Hid (y + 1 = cntZ z (ks.take (j + 1))) := hc.symm
        have heb : ((x : Int) == z) = true := by rw [he]; simp
        subst he
        clear hc
        go_wp2_with fail
        go_round
        case rel => exact ⟨j + 1, y + 1, by omega, by omega, by go_num, by go_num, HN⟩
        case measure => simp [intOf]; omega
      · rw [if_neg he] at hc
        have HN : Hid (y = cntZ z (ks.take (j + 1))) := hc.symm
        have heb : ((x : Int) == z) = false := by rw [beq_eq_false_iff_ne]; exact he
        clear hc he
        go_wp2_with fail
        go_round
        case rel => exact ⟨j + 1, y, by omega, by omega, by go_num, rfl, HN⟩
        case measure => simp [intOf]; omega
    · obtain rfl : j = n := by omega
      have HE : Hid (y = cntZ z ks) := by
        have := hy.out
        rw [List.take_of_length_le (by rw [HL.out]; exact Nat.le_refl _)] at this
        exact this
      go_wp2_with fail
      go_ret
      exact ⟨by rw [← HE.out]; rfl, rfl⟩
set_option maxHeartbeats 1000000 in
theorem mcount_p (B g : Nat) (ks : List Nat) (z : Int) (w : World) (h : WordAt w B g ks) (hn : ks.length ≤ 400000) :
    Calls Tryz.prog 33 #[.pointer (some ⟨g, 0, none⟩), .int .i64 z] w fun e w' => e = .returned (.int .i64 ((cntZ z ks : Nat) : Int)) ∧ Below w.heap.size w w' := by
  have LP := Lib.hid (mlen_p B g ks w h)
  have AT := Lib.hid (fun i W (hi : i < ks.length) (m : Below w.heap.size w W) => mat_p B g ks i W (h.below m) hi hn)
  obtain ⟨n, hnn⟩ : ∃ n, n = ks.length := ⟨_, rfl⟩
  have HC : Hid (∀ j, j < n → cntZ z (ks.take (j + 1)) = cntZ z (ks.take j) + if ((ks.getD j 0 : Nat) : Int) = z then 1 else 0) := fun j hj => by
    rw [take_snoc ks j (by omega), cntZ_snoc]
  have HM : Hid (∀ j, cntZ z (ks.take j) ≤ j) := fun j => by have := cntZ_le z (ks.take j); rw [List.length_take] at this; omega
  have HL := Lib.hid hnn
  rw [← hnn] at LP AT hn
  clear h hnn
  go_enter Tryz.func33, Tryz.ntmps33
  go_wp2_with fail
  refine LP.out.mono ?_
  rintro e w1 ⟨rfl, rfl⟩
  go_wp2_with fail
  go_loopw [5, 9] (fun x i wr => ∃ j y : Nat, j ≤ n ∧ y ≤ j ∧ i = .int .i64 (j : Int) ∧ x = .int .i64 (y : Int) ∧ Hid (y = cntZ z (ks.take j)) ∧ Hid (Below w.heap.size w wr)) (fun _ i _ => n - (intOf i).toNat)
  case atStart => exact ⟨0, 0, by omega, by omega, rfl, rfl, by show 0 = cntZ z (ks.take 0); rfl, Below.refl _ _⟩
  case round =>
    obtain ⟨j, y, hj, hyj, rfl, rfl, hy, hb⟩ := hrel
    by_cases hlt : j < n
    · have A1 := Lib.hid (AT.out j wr hlt hb.out)
      have hc := HC.out j hlt
      have hm := HM.out (j + 1)
      rw [← hy.out] at hc
      generalize ks.getD j 0 = x at *
      by_cases he : (x : Int) = z
      · rw [if_pos he] at hc
        have HN : Hid (y + 1 = cntZ z (ks.take (j + 1))) := hc.symm
        have heb : ((x : Int) == z) = true := by rw [he]; simp
        subst he
        clear hc
        go_wp2_with fail
        refine A1.out.mono ?_
        rintro e w2 ⟨rfl, jj, rfl⟩
        have HB := Lib.hid (below_draws hb.out jj)
        go_wp2_with fail
        go_roundw
        case rel => exact ⟨j + 1, y + 1, by omega, by omega, by go_num, by go_num, HN, HB⟩
        case measure => simp [intOf]; omega
      · rw [if_neg he] at hc
        have HN : Hid (y = cntZ z (ks.take (j + 1))) := hc.symm
        have heb : ((x : Int) == z) = false := by rw [beq_eq_false_iff_ne]; exact he
        clear hc he
        go_wp2_with fail
        refine A1.out.mono ?_
        rintro e w2 ⟨rfl, jj, rfl⟩
        have HB := Lib.hid (below_draws hb.out jj)
        go_wp2_with fail
        go_roundw
        case rel => exact ⟨j + 1, y, by omega, by omega, by go_num, rfl, HN, HB⟩
        case measure => simp [intOf]; omega
    · obtain rfl : j = n := by omega
      have HE : Hid (y = cntZ z ks) := by
        have := hy.out
        rw [List.take_of_length_le (by rw [HL.out]; exact Nat.le_refl _)] at this
        exact this
      go_wp2_with fail
      go_ret
      exact ⟨by rw [← HE.out]; rfl, hb.out⟩
theorem mcount_nil (z : Int) (w : World) : Calls Tryz.prog 33 #[.pointer none, .int .i64 z] w fun e w' => e = .returned (.int .i64 0) ∧ w = w' := by
  have LP := Lib.hid (mlen_nil w)
  go_enter Tryz.func33, Tryz.ntmps33
  go_wp2_with fail
  refine LP.out.mono ?_
  rintro e w1 ⟨rfl, rfl⟩
  go_wp2_with fail
  go_loop [5, 9] (fun x i => x = .int .i64 0 ∧ i = .int .i64 0) (fun _ _ => 0)
  case atStart => exact ⟨rfl, rfl⟩
  case round =>
    obtain ⟨rfl, rfl⟩ := hrel
    go_wp2_with fail
    go_ret
    exact ⟨rfl, rfl⟩
end Go.Proofs.YtagpdpacaoianaaGreatDoor
