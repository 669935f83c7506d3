/- slices.Repeat of one int. -/
import Derived.Test.YthbhbcakiaaapaaENames
import Derived.Test.YthbhbcakiaaapaaInts
import Derived.Laws.Bits64b
import Derived.Laws.CopyOwn
namespace Go.Proofs.Ythbhbcakiaaapaa
set_option maxRecDepth 20000
open Go.RowKit
set_option linter.unusedVariables false
theorem and_low (a : Nat) (ha : a < 4294967296) : bits .and .u64 (a : Int) 4294967295 = (a : Int) := by
  have h := bits_and_u64_nat a 4294967295 (by omega) (by omega)
  have e : a &&& 4294967295 = a := by rw [Nat.and_two_pow_sub_one_eq_mod a 32]; omega
  rw [e] at h
  exact h
theorem mul64_p (n : Nat) (w : World) (hn : n < 4294967296) :
    Calls Try.prog 88 #[.int .u64 1, .int .u64 (n : Int)] w fun e w' => e = .returned (.tuple #[.int .u64 0, .int .u64 (n : Int)]) ∧ w = w' := by
  have h1 : bits .and .u64 1 4294967295 = 1 := and_low 1 (by omega)
  have h2 := and_low n hn
  have h3 : bits .and .u64 0 4294967295 = 0 := and_low 0 (by omega)
  have h4 : (n : Int) / 4294967296 = 0 := by omega
  have h5 : IntKind.u64.wrap (n : Int) = (n : Int) := by rw [IntKind.wrap_u64]; omega
  have h6 : IntKind.u64.wrap 0 = 0 := by rw [IntKind.wrap_u64]; omega
  go_enter Try.func88, Try.ntmps88
  go_wp2_with fail
  go_ret2
  exact ⟨rfl, rfl⟩
theorem mul_p (n : Nat) (w : World) (hn : n < 4294967296) :
    Calls Try.prog 84 #[.int .u64 1, .int .u64 (n : Int)] w fun e w' => e = .returned (.tuple #[.int .u64 0, .int .u64 (n : Int)]) ∧ w = w' := by
  have M := Lib.hid (fun w => mul64_p n w hn)
  go_enter Try.func84, Try.ntmps84
  go_wp2_with (go_at_call 88; refine (M.out _).mono ?_; rintro e w' ⟨rfl, rfl⟩)
  go_ret2
  exact ⟨rfl, rfl⟩
/-- A list that is filled up to k. -/
def fillV (n k : Nat) (x : Int) : List Int := List.replicate k x ++ List.replicate (n - k) 0
theorem fillV_len (n k : Nat) (x : Int) (h : k ≤ n) : (fillV n k x).length = n := by simp [fillV]; omega
theorem fillV_splice (n k m : Nat) (x : Int) (h : k + m ≤ n) : splice (I64 (fillV n k x)) k (I64 (List.replicate m x)) = I64 (fillV n (k + m) x) := by
  unfold splice
  rw [I64_len, List.length_replicate]
  have e1 : (I64 (fillV n k x)).take k = I64 (List.replicate k x) := by
    rw [I64_take]; unfold fillV; rw [List.take_left' (by simp)]
  have e2 : (I64 (fillV n k x)).drop (k + m) = I64 (List.replicate (n - (k + m)) 0) := by
    unfold fillV I64
    rw [← List.map_drop, List.drop_append]
    simp
    omega
  rw [e1, e2, ← I64_append, ← I64_append]
  congr 1
  unfold fillV
  rw [← List.append_assoc, List.replicate_append_replicate]
theorem fillV_zero (n : Nat) (x : Int) : fillV n 0 x = List.replicate n 0 := by simp [fillV]
theorem fillV_full (n : Nat) (x : Int) : fillV n n x = List.replicate n x := by simp [fillV]
theorem fillV_cell {w : World} {g n k : Nat} {x : Int} (h : w.heap[g]? = some (.cells (I64 (fillV n k x)).toArray 3 (0, 0))) (m : Nat) (hm : m ≤ k) (j : Nat) (v : Value) (e : (I64 (List.replicate m x))[j]? = some v) : w.cell? ((⟨g, 0, none⟩ : Addr).add j) = some v := by
  have hj : j < m := by
    have := (List.getElem?_eq_some_iff.1 e).1
    rwa [I64_len, List.length_replicate] at this
  have : (⟨g, 0, none⟩ : Addr).add j = ⟨g, j, none⟩ := by unfold Addr.add; split <;> simp_all
  rw [this, cell_of_row w g j _ _ _ h]
  have hv : v = .int .i64 x := by
    rw [I64_get _ _ (by simpa using hj)] at e
    simp [List.getD_eq_getElem?_getD, hj] at e
    exact e.symm
  subst hv
  simp [I64, fillV, List.getElem?_append, show j < k by omega]
theorem copy_fill {w0 W : World} {B g n k m : Nat} {x : Int} {a : Addr} {sLen sCap dLen dCap : Nat} (hsz : (Try.prog.info? 3).map (·.size) = some 1) (hg : W.heap[g]? = some (.cells (I64 (fillV n k x)).toArray 3 (0, 0))) (hm : m = Nat.min sLen dLen) (hkm : k + m ≤ n)
    (hsrc : ∀ j v, (I64 (List.replicate m x))[j]? = some v → W.cell? (a.add j) = some v) (hb : Below B w0 W) (hBg : B ≤ g) :
    ∃ W2, (Builtin.copy_ #[25, 25] 3 #[.slice (some ⟨g, k, none⟩) dLen dCap, .slice (some a) sLen sCap]).run Try.prog W = .ok (.int .i64 (m : Int)) W2 ∧ W2.heap[g]? = some (.cells (I64 (fillV n (k + m) x)).toArray 3 (0, 0)) ∧ Below B w0 W2 := by
  have hlen : (I64 (List.replicate m x)).length = m := by rw [I64_len, List.length_replicate]
  have h := run_copy_row (P := Try.prog) W 25 25 3 3 g k dLen dCap a sLen sCap (I64 (fillV n k x)).toArray 3 (I64 (List.replicate m x)) Try.underlying25 hsz hg (by rw [hlen]; exact hm) hsrc (by rw [hlen]; simp [I64_len, fillV_len n k x (by omega)]; omega) (I64_one _)
  rw [hlen] at h
  refine ⟨_, h, ?_, below_setRow hb hBg _⟩
  have e := fillV_splice n k m x hkm
  unfold splice at e
  rw [hlen] at e
  rw [← e]
  have := setRow_heap W g (I64 (fillV n k x)).toArray (((I64 (fillV n k x)).toArray.toList.take k ++ I64 (List.replicate m x) ++ (I64 (fillV n k x)).toArray.toList.drop (k + m)).toArray) 3 (0, 0) hg
  simpa using this
set_option maxHeartbeats 1000000 in
theorem repeat_p (b : Nat) (n c : Nat) (x : Int) (B : Nat) (w : World) (hn : n ≤ 131072) (hx : Rd w B (some ⟨b, 0, none⟩) 1 (I64 [x])) (hB : B ≤ w.heap.size) :
    Calls Try.prog 81 #[.slice (some ⟨b, 0, none⟩) 1 c, .int .i64 (n : Int)] w fun e w' => e = .returned (.slice (some ⟨w.heap.size, 0, none⟩) n n) ∧ w'.ownsRow w.heap.size 3 1 (.slice (some ⟨w.heap.size, 0, none⟩) n n) n (I64 (List.replicate n x)) ∧ Below w.heap.size w w' := by
  obtain ⟨i0, hi0, hz0, hz1, hz2⟩ := info_parts info_int
  have hmk := run_make_one (P := Try.prog) 25 3 i0 (.int .i64 0) 8 Try.underlying25 hi0 hz0 hz1 hz2 rfl .i64 .i64 n (by omega) (by omega)
  have M := Lib.hid (fun w => mul_p n w (by omega))
  have hsz : (Try.prog.info? 3).map (·.size) = some 1 := by rw [hi0]; simp [hz1]
  obtain ⟨W1, hW1⟩ : ∃ W1 : World, W1 = w.alloc (.cells (List.replicate n (Value.int .i64 0)).toArray 3) := ⟨_, rfl⟩
  have hmk1 := hmk w
  rw [← hW1] at hmk1
  clear hmk
  have hb1 : Below w.heap.size w W1 := by rw [hW1]; exact (Below.refl _ _).alloc (Nat.le_refl _) _
  have hg1 : W1.heap[w.heap.size]? = some (.cells (I64 (fillV n 0 x)).toArray 3 (0, 0)) := by
    rw [hW1, fillV_zero, I64_replicate]
    exact heap_alloc_new w _
  obtain ⟨m, hm⟩ : ∃ m, m = Nat.min 1 n := ⟨_, rfl⟩
  have hmn : m ≤ n := by rw [hm]; exact Nat.min_le_right _ _
  have hm1 : m = 0 → n = 0 := by intro h; rw [hm] at h; simp only [Nat.min_def] at h; split at h <;> omega
  have hsrc : ∀ j v, (I64 (List.replicate m x))[j]? = some v → W1.cell? ((⟨b, 0, none⟩ : Addr).add j) = some v := by
    intro j v e
    have hj := (List.getElem?_eq_some_iff.1 e).1
    rw [I64_len, List.length_replicate] at hj
    have h1 : m ≤ 1 := by rw [hm]; exact Nat.min_le_left _ _
    obtain rfl : j = 0 := by omega
    refine ((hx.up hB).below hb1).cells rfl 0 v ?_
    obtain rfl : m = 1 := by omega
    simpa [I64] using e
  obtain ⟨W2, hcp, hg2, hb2⟩ := copy_fill (sLen := 1) (sCap := c) (dLen := n) (dCap := n) hsz hg1 hm (by omega) hsrc hb1 (Nat.le_refl _)
  rw [Nat.zero_add] at hg2
  have HG2 := Lib.hid hg2
  have HSZ := Lib.hid hsz
  clear hg1 hsrc hm hx hW1 hg2 hsz
  go_enter Try.func81, Try.ntmps81
  go_wp2_with (first
    | (go_at_call 84; refine (M.out _).mono ?_; rintro e w' ⟨rfl, rfl⟩))
  clear hcp hmk1 hb1
  go_loopw [8] (fun i wr => ∃ k : Nat, k ≤ n ∧ (k = 0 → n = 0) ∧ i = .int .i64 (k : Int) ∧ Hid (wr.heap[w.heap.size]? = some (.cells (I64 (fillV n k x)).toArray 3 (0, 0))) ∧ Below w.heap.size w wr) (fun i _ => n - (intOf i).toNat)
  case atStart => exact ⟨m, hmn, hm1, rfl, HG2, hb2⟩
  case round =>
    obtain ⟨k, hk, hk0, rfl, HG, hbl⟩ := hrel
    by_cases hkn : k = n
    · subst hkn
      go_wp2_with fail
      go_ret
      refine ⟨rfl, ⟨by simp [I64_len], .inr ⟨w.heap.size, k, (I64 (fillV k k x)).toArray, rfl, Nat.le_refl _, HG.out, Nat.le_refl _, by simp only [maxLen]; omega, by simp [I64_len, fillV_len], ?_⟩⟩, hbl⟩
      rw [fillV_full, Nat.mul_one, List.take_of_length_le (by simp [I64_len])]
    · obtain ⟨m2, hm2⟩ : ∃ m, m = Nat.min k (n - k) := ⟨_, rfl⟩
      have h1 : m2 ≤ k := by rw [hm2]; exact Nat.min_le_left _ _
      have h2 : m2 ≤ n - k := by rw [hm2]; exact Nat.min_le_right _ _
      have h3 : 0 < m2 := by rw [hm2]; simp only [Nat.min_def]; split <;> omega
      obtain ⟨W3, hcp, hg3, hb3⟩ := copy_fill (W := wr.drew) (w0 := w) (B := w.heap.size) (a := ⟨w.heap.size, 0, none⟩) (sLen := k) (sCap := n) (dLen := n - k) (dCap := n - k) HSZ.out HG.out hm2 (by omega) (fun j v e => fillV_cell (w := wr.drew) HG.out m2 h1 j v e) hbl.drew (Nat.le_refl _)
      have HG3 := Lib.hid hg3
      have hkn2 : ¬ n = k := by omega
      clear hg3 hm2
      have hlt : (k : Int) < (n : Int) := by omega
      have hsum : IntKind.i64.wrap ((k : Int) + (m2 : Int)) = ((k + m2 : Nat) : Int) := by rw [IntKind.wrap_i64]; omega
      go_wp2_with fail
      go_region_law (fail)
      all_goals (
        go_simp
        go_roundw
        case rel =>
          refine ⟨_, _, _, _, _, _, _, _, _, _, _, _, _, _, ⟨k + m2, by omega, by omega, ?_, HG3, hb3⟩, rfl⟩
          go_num
        case measure => simp [intOf]; omega)
end Go.Proofs.Ythbhbcakiaaapaa
