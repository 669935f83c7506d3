/- Add of a word; the word of a walk. -/
import Derived.Test.YtgohdhmijfajfaaWWordA
namespace Go.Proofs.Ytgohdhmijfajfaa
set_option maxRecDepth 20000
open Go.RowKit
set_option linter.unusedVariables false
def Kd (x : Int) : Prop := 0 ≤ x ∧ x < 4
instance (x : Int) : Decidable (Kd x) := by unfold Kd; exact inferInstance
theorem isKind_p (x : Int) (w : World) : Calls Try.prog 67 #[.int .i64 x] w fun e w' => e = .returned (.bool (decide (Kd x))) ∧ w = w' := by
  by_cases h0 : 0 ≤ x
  · by_cases h1 : x ≤ 3
    · have hk : decide (Kd x) = true := decide_eq_true ⟨h0, by omega⟩
      rw [hk]
      go_enter Try.func67, Try.ntmps67
      go_wp2_with fail
      go_ret
      exact ⟨rfl, rfl⟩
    · have hk : decide (Kd x) = false := decide_eq_false fun h => h1 (by have := h.2; omega)
      rw [hk]
      have h2 : decide (x ≤ 3) = false := by rw [decide_eq_false_iff_not]; exact h1
      go_enter Try.func67, Try.ntmps67
      go_wp2_with fail
      go_ret
      exact ⟨rfl, rfl⟩
  · have hk : decide (Kd x) = false := decide_eq_false fun h => h0 h.1
    rw [hk]
    have h2 : decide (0 ≤ x) = false := by rw [decide_eq_false_iff_not]; exact h0
    go_enter Try.func67, Try.ntmps67
    go_wp2_with fail
    go_ret
    exact ⟨rfl, rfl⟩
theorem noKind_p (x : Int) (w : World) : Calls Try.prog 66 #[.int .i64 x] w fun e w' => e = .returned (.bool (!decide (Kd x))) ∧ w = w' := by
  have KP := Lib.hid (isKind_p x w)
  generalize decide (Kd x) = q at *
  go_enter Try.func66, Try.ntmps66
  go_wp2_with fail
  refine KP.out.mono ?_
  rintro e w' ⟨rfl, rfl⟩
  go_wp2_with fail
  go_ret
  exact ⟨rfl, rfl⟩
theorem indexKind_p (A : Option Addr) (n c B : Nat) (z : List Int) (w : World) (h : Rd w B A n (I64 z)) (hn : n ≤ 1000000) :
    Calls Try.prog 76 #[.slice A n c, .func (.func 66) #[] #[]] w fun e w' => ∃ q : Int, e = .returned (.int .i64 q) ∧ w = w' ∧ (0 ≤ q ↔ ¬ ∀ x ∈ z, Kd x) := by
  have hl : z.length = n := by rw [← h.len, I64_len]
  have NK : Hid (∀ (x : Int) (W : World), Calls Try.prog 66 #[.int .i64 x] W fun e w' => e = .returned (.bool (!decide (Kd x))) ∧ W = w') := fun x W => noKind_p x W
  have HZ := Lib.hid h
  have HL := Lib.hid hl
  clear h hl
  go_enter Try.func76, Try.ntmps76
  go_wp2_with fail
  go_loopw [8] (fun i wr => ∃ k : Nat, k ≤ n ∧ i = .int .i64 k ∧ Hid (∀ j, j < k → Kd (z.getD j 0)) ∧ wr = w) (fun i _ => n - (intOf i).toNat)
  case atStart => exact ⟨0, by omega, rfl, fun j hj => absurd hj (by omega), rfl⟩
  case round =>
    obtain ⟨k, hk, rfl, hy, rfl⟩ := hrel
    by_cases hlt : k < n
    · obtain ⟨bb, o, rfl, _, kk⟩ := HZ.out.i64 (by omega)
      have x0 := kk k hlt
      have hmem : z.getD k 0 ∈ z := by
        have : k < z.length := by rw [HL.out]; exact hlt
        rw [List.getD_eq_getElem?_getD, List.getElem?_eq_getElem this]; exact List.getElem_mem this
      have HME := Lib.hid hmem
      have NX : Hid (Kd (z.getD k 0) → ∀ j, j < k + 1 → Kd (z.getD j 0)) := fun q j hj => by
        rcases Nat.lt_or_ge j k with c | c
        · exact hy.out j c
        · rw [show j = k by omega]; exact q
      clear kk hmem
      generalize z.getD k 0 = x at *
      have N1 := Lib.hid (NK.out x wr)
      by_cases q : Kd x
      · rw [decide_eq_true q] at N1
        have HQ := Lib.hid q
        clear q
        go_wp2_with fail
        refine N1.out.mono ?_
        rintro e w' ⟨rfl, rfl⟩
        go_wp2_with fail
        go_roundw
        case rel => exact ⟨k + 1, by omega, by go_num, NX.out HQ.out, trivial⟩
        case measure => simp [intOf]; omega
      · rw [decide_eq_false q] at N1
        have HQ := Lib.hid q
        clear q
        go_wp2_with fail
        refine N1.out.mono ?_
        rintro e w' ⟨rfl, rfl⟩
        go_wp2_with fail
        go_ret
        exact ⟨k, rfl, rfl, ⟨fun _ H => HQ.out (H _ HME.out), fun _ => by omega⟩⟩
    · obtain rfl : k = n := by omega
      go_wp2_with fail
      go_ret
      refine ⟨-1, rfl, rfl, ⟨fun h => absurd h (by omega), fun H => absurd (fun x hx => ?_) H⟩⟩
      obtain ⟨j, hj, rfl⟩ := List.getElem_of_mem hx
      have := hy.out j (by rw [← HL.out]; exact hj)
      rwa [List.getD_eq_getElem?_getD, List.getElem?_eq_getElem hj] at this
theorem containsKind_p (A : Option Addr) (n c B : Nat) (z : List Int) (w : World) (h : Rd w B A n (I64 z)) (hn : n ≤ 1000000) :
    Calls Try.prog 65 #[.slice A n c, .func (.func 66) #[] #[]] w fun e w' => e = .returned (.bool (!decide (∀ x ∈ z, Kd x))) ∧ w = w' := by
  have ip := indexKind_p A n c B z w h hn
  clear h
  by_cases h : ∀ x ∈ z, Kd x
  · have IP : Hid (Calls Try.prog 76 #[.slice A n c, .func (.func 66) #[] #[]] w fun e w' => ∃ q : Int, e = .returned (.int .i64 q) ∧ w = w' ∧ q < 0) :=
      ip.mono fun e w' ⟨q, h1, h2, h3⟩ => ⟨q, h1, h2, by rcases Int.lt_or_le q 0 with c | c; exact c; exact absurd h (h3.1 c)⟩
    rw [decide_eq_true h]
    clear ip h
    go_enter Try.func65, Try.ntmps65
    go_wp2_with fail
    refine IP.out.mono ?_
    rintro e w' ⟨q, rfl, rfl, hq⟩
    have hd : decide (0 ≤ q) = false := by rw [decide_eq_false_iff_not]; omega
    go_wp2_with fail
    go_ret
    exact ⟨by first | rfl | simp, rfl⟩
  · have IP : Hid (Calls Try.prog 76 #[.slice A n c, .func (.func 66) #[] #[]] w fun e w' => ∃ q : Int, e = .returned (.int .i64 q) ∧ w = w' ∧ 0 ≤ q) :=
      ip.mono fun e w' ⟨q, h1, h2, h3⟩ => ⟨q, h1, h2, h3.2 h⟩
    rw [decide_eq_false h]
    clear ip h
    go_enter Try.func65, Try.ntmps65
    go_wp2_with fail
    refine IP.out.mono ?_
    rintro e w' ⟨q, rfl, rfl, hq⟩
    have hd : decide (0 ≤ q) = true := by rw [decide_eq_true_iff]; exact hq
    go_wp2_with fail
    go_ret
    exact ⟨by first | rfl | simp, rfl⟩
def toN (z : List Int) : List Nat := z.map Int.toNat
theorem toN_len (z : List Int) : (toN z).length = z.length := by simp [toN]
theorem toN_next (z : List Int) (k : Nat) (h : k < z.length) : (toN z).take (k + 1) = (toN z).take k ++ [(z.getD k 0).toNat] := by
  rw [List.take_add_one, List.getElem?_eq_getElem (by rw [toN_len]; exact h)]
  simp [toN, List.getD_eq_getElem?_getD, h]
theorem madd_nil (v : Value) (w : World) : Calls Try.prog 38 #[.pointer none, v] w fun e w' => e = .returned (.int .i64 2) ∧ w = w' := by
  go_enter Try.func38, Try.ntmps38
  go_wp2_with fail
  go_ret
  exact ⟨rfl, rfl⟩
set_option maxHeartbeats 4000000 in
theorem madd_p (B g : Nat) (ks : List Nat) (A : Option Addr) (n c : Nat) (z : List Int) (w : World) (h : WordS w B g ks (inBlk A)) (hz : Rd w w.heap.size A n (I64 z)) (hA : ∀ i, inBlk A i → i < w.heap.size) (hn : ks.length + n ≤ 400000) :
    Calls Try.prog 38 #[.pointer (some ⟨g, 0, none⟩), .slice A n c] w fun e w' => e = .returned (.int .i64 (if ∀ x ∈ z, Kd x then 0 else 1)) ∧ WordAt w' B g (if ∀ x ∈ z, Kd x then ks ++ toN z else ks) ∧ Below B w w' := by
  have CP := Lib.hid (containsKind_p A n c _ z w hz (by omega))
  have hl : z.length = n := by rw [← hz.len, I64_len]
  by_cases hg : ∀ x ∈ z, Kd x
  · rw [decide_eq_true hg] at CP
    rw [if_pos hg, if_pos hg]
    have HG : Hid (∀ k, k < n → ∃ q : Nat, q < 4 ∧ z.getD k 0 = (q : Int)) := fun k hk => by
      have hk' : k < z.length := by omega
      have := hg (z.getD k 0) (by rw [List.getD_eq_getElem?_getD, List.getElem?_eq_getElem hk']; exact List.getElem_mem hk')
      have h1 := this.1
      have h2 := this.2
      exact ⟨(z.getD k 0).toNat, by omega, by omega⟩
    have HA := Lib.hid hA
    have PP : Hid (∀ (ls : List Nat) (k : Nat) (W : World), WordS W B g ls (inBlk A) → w.heap.size ≤ W.heap.size → k < 4 → ls.length ≤ 400000 → Calls Try.prog 68 #[.pointer (some ⟨g, 0, none⟩), .int .i64 (k : Int)] W fun e w' => e = .returned (.tuple #[]) ∧ WordS w' B g (ls ++ [k]) (inBlk A) ∧ Below B W w' ∧ Mod (fun i => ¬ inBlk A i) W w') := fun ls k W h hs hk hl => mput_s B g ls k W _ h hk hl (fun i hi => Nat.lt_of_lt_of_le (HA.out i hi) hs)
    have HZ := Lib.hid hz
    have HL := Lib.hid hl
    have HW := Lib.hid h
    clear hz h hg hl
    go_enter Try.func38, Try.ntmps38
    go_wp2_with fail
    refine CP.out.mono ?_
    rintro e w' ⟨rfl, rfl⟩
    clear CP
    go_wp2_with fail
    go_loopw [13] (fun i wr => ∃ k : Nat, k ≤ n ∧ i = .int .i64 k ∧ Hid (WordS wr B g (ks ++ (toN z).take k) (inBlk A)) ∧ Hid (Below B w wr) ∧ Hid (Mod (fun i => ¬ inBlk A i) w wr)) (fun i _ => n - (intOf i).toNat)
    case atStart => exact ⟨0, by omega, rfl, by show WordS _ _ _ _ _; rw [List.take_zero, List.append_nil]; exact HW.out, Below.refl _ _, Mod.refl _ _⟩
    case round =>
      obtain ⟨k, hk, rfl, HS, HB, HM⟩ := hrel
      by_cases hlt : k < n
      · have hr := HZ.out.mod HM.out (Nat.le_refl _) (fun _ i hi hs => hs hi)
        obtain ⟨bb, o, rfl, _, kk⟩ := hr.i64 (by omega)
        have x0 := kk k hlt
        obtain ⟨q, hq4, hq⟩ := HG.out k hlt
        have hnx := toN_next z k (by rw [HL.out]; exact hlt)
        rw [hq, Int.toNat_natCast] at hnx
        rw [hq] at x0
        have HNX := Lib.hid hnx
        have P1 := Lib.hid (PP.out _ q wr HS.out HM.out.size hq4 (by rw [List.length_append, List.length_take]; omega))
        clear kk hr hq hnx hq4 HS
        go_wp2_with fail
        refine P1.out.mono ?_
        rintro e w2 ⟨rfl, hw2, z2, m2⟩
        have HW2 := Lib.hid hw2
        have HB2 := Lib.hid (HB.out.trans z2)
        have HM2 := Lib.hid (HM.out.trans m2 (fun i _ hi => hi))
        clear hw2 z2 m2 P1 HB HM
        go_wp2_with fail
        go_roundw
        case rel => exact ⟨k + 1, by omega, by go_num, by show WordS _ _ _ _ _; rw [HNX.out, ← List.append_assoc]; exact HW2.out, HB2.out, HM2.out⟩
        case measure => simp [intOf]; omega
      · obtain rfl : k = n := by omega
        go_wp2_with fail
        go_ret
        have := HS.out
        rw [List.take_of_length_le (by rw [toN_len, HL.out]; exact Nat.le_refl _)] at this
        exact ⟨rfl, this.at_, HB.out⟩
  · rw [decide_eq_false hg] at CP
    rw [if_neg hg, if_neg hg]
    have HW := Lib.hid h
    clear hz h hg hl
    go_enter Try.func38, Try.ntmps38
    go_wp2_with fail
    refine CP.out.mono ?_
    rintro e w' ⟨rfl, rfl⟩
    go_wp2_with fail
    go_ret
    exact ⟨rfl, HW.out.at_, Below.refl _ _⟩
end Go.Proofs.Ytgohdhmijfajfaa
