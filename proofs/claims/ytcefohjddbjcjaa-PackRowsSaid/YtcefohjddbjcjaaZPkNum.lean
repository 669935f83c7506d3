/- A number behind bytes: the program's Num and the document's. -/
import Derived.Test.YtcefohjddbjcjaaZg1
import Derived.Test.YtcefohjddbjcjaaZg3
import Derived.ArgAppend
namespace Go.Proofs.Ytcefohjddbjcjaa
set_option maxRecDepth 20000
open Go.RowKit
set_option linter.unusedVariables false
theorem Rd.onto {w w' : World} {n : Nat} {A : Option Addr} {xs : List Value} (h : Rd w w.heap.size A n xs) (m : Below w.heap.size w w') : Rd w' w'.heap.size A n xs := (h.below m).up m.size
theorem u8_or_128 : ∀ b : Nat, b < 256 → bits .or .u8 (b : Int) 128 = ((128 + b % 128 : Nat) : Int) := by decide +kernel
/-- A slice without spare room, or one of the call's own, that reads as bytes. -/
def Grows (w wr : World) (A : Option Addr) (n c : Nat) (bs : List Nat) : Prop :=
  (c = n ∧ Rd wr wr.heap.size A n (U8 bs)) ∨ wr.ownsRow w.heap.size 5 1 (.slice A n c) n (U8 bs)
set_option maxHeartbeats 2000000 in
theorem pkNum_p (A : Option Addr) (n c x : Nat) (bs : List Nat) (w : World) (h : Rd w w.heap.size A n (U8 bs)) (hx : x < 2 ^ 64) (hnc : n ≤ c) (hn : n ≤ 1000000) :
    Calls Try.prog 10 #[.slice A n c, .int .u64 (x : Int)] w (NewU8 w (bs ++ numB x)) := by
  obtain ⟨i0, hi0, hz0, hz1, hz2⟩ := info_parts info_u8
  have hl : bs.length = n := by rw [← h.len, U8_len]
  have HL := Lib.hid hl
  have H := Lib.hid h
  have h10 := numB_len10 hx
  have H10 := Lib.hid h10
  clear h hl h10
  go_enter Try.func10, Try.ntmps10
  go_wp2_with fail
  go_loopw [0, 1] (fun s v wr => ∃ (y m cv : Nat) (ys : List Nat) (Av : Option Addr), v = .int .u64 (y : Int) ∧ y ≤ x ∧ s = .slice Av m cv ∧ m ≤ 1000010 ∧ m ≤ cv ∧ Hid (m = n + ys.length) ∧ Hid (numB x = ys ++ numB y) ∧ Hid (Grows w wr Av m cv (bs ++ ys)) ∧ Hid (Below w.heap.size w wr)) (fun _ v _ => (intOf v).toNat)
  case atStart => exact ⟨x, n, n, [], A, rfl, Nat.le_refl _, rfl, by omega, Nat.le_refl _, by show _ = _; simp, rfl, .inl ⟨rfl, by rw [List.append_nil]; exact H.out⟩, Below.refl _ _⟩
  case round =>
    obtain ⟨y, m, cv, ys, Av, rfl, hyx, rfl, hmb, hmc, hm, hnb, hg, hb⟩ := hrel
    have hy64 : y < 18446744073709551616 := by omega
    have hws := hb.out.size
    have HYL : Hid (ys.length + 1 ≤ 10) := by
      show _ ≤ _
      have h1 := congrArg List.length hnb.out
      rw [List.length_append] at h1
      have := numB_pos y
      have := H10.out
      omega
    have hm9 : m + 1 ≤ 1000010 := by have := HYL.out; have := hm.out; omega
    by_cases hlt : y < 128
    · have HN1 : Hid (bs ++ numB x = bs ++ (ys ++ [y])) := by show _ = _; rw [hnb.out, numB_small hlt]
      have HLE : Hid ((bs ++ (ys ++ [y])).length = m + 1) := by show _ = _; simp; have := hm.out; have := HL.out; omega
      have hy8 : (y : Int) % 256 = (y : Int) := by omega
      have hge : ¬ (128 : Int) ≤ (y : Int) := by omega
      rcases hg.out with ⟨hcv, hrd⟩ | ho
      · obtain rfl : m = cv := hcv.symm
        have hc1 : Av = none → m = 0 ∧ m = 0 := by rintro rfl; exact ⟨hrd.none_, hrd.none_⟩
        have hc2 : (U8 (bs ++ ys)).length = m * 1 := by rw [hrd.len, Nat.mul_one]
        have hc3 : ∀ b, Av = some b → ∀ j u, (U8 (bs ++ ys))[j]? = some u → (wr.alloc (.cells #[.int .u8 (y : Int)] 5)).cell? (b.add j) = some u := fun b hb' => (hrd.alloc _).cells hb'
        have hc4 : (U8 [y]).length = 1 * 1 := rfl
        have hc5 : ∀ j u, (U8 [y])[j]? = some u → (wr.alloc (.cells #[.int .u8 (y : Int)] 5)).cell? ((⟨wr.heap.size, 0, none⟩ : Addr).add j) = some u := (Rd.new wr 5 #[.int .u8 (y : Int)] 1 (U8 [y]) (by simp [U8]) (by simp)).cells rfl
        have hc6 : m < m + 1 := by omega
        have hc7 : m + 1 ≤ maxLen := by simp only [maxLen]; omega
        have hc8 : (m + 1) * 1 ≤ 140737488355328 := by omega
        have HC := Lib.hid (And.intro hc1 (And.intro hc3 hc5))
        clear hc1 hc3 hc5
        go_wp2_with (first
          | (at_builtin; go_loud (refine wpList_append_grows _ rfl _ _ 23 rfl 5 i0 (.int .u8 0) 1 1 Try.underlying23 hi0 hz0 hz1 hz2 rfl (by omega) Av m m (U8 (bs ++ ys)) rfl HC.out.1 hc2 HC.out.2.1 ⟨wr.heap.size, 0, none⟩ 1 1 (U8 [y]) rfl hc4 HC.out.2.2 (U8_one _) hc6 hc7 hc8 ?_)))
        intro v' w6 hown6 hg6
        obtain ⟨A6, c6, rfl, hc6, hm6⟩ := own_form hown6
        have HB6 : Hid (Below w.heap.size w w6) := (hb.out.alloc hws _).trans ((Below.refl _ _).grown hg6 (by simp; omega) (fun k hk => by cases hk))
        have hown7 : w6.ownsRow w.heap.size 5 1 (.slice A6 (m + 1) c6) (m + 1) (U8 (bs ++ (ys ++ [y]))) := by
          rw [← List.append_assoc, U8_append]
          exact hown6.base_le' (by omega)
        clear hown6 hg6
        go_wp2_with fail
        go_ret
        refine NewU8.mk rfl ?_ HB6.out
        rw [HN1.out, HLE.out]
        exact hown7
      · have hownA := ho.alloc (.cells #[.int .u8 (y : Int)] 5)
        have r3 := Rd.new wr 5 #[.int .u8 (y : Int)] 1 (U8 [y]) (by simp [U8]) (by simp)
        have t1 : m + 1 ≤ maxLen := by simp only [maxLen]; omega
        have t2 : (m + 1) * 1 ≤ 140737488355328 := by omega
        have t3 : w.heap.size ≤ (wr.alloc (.cells #[.int .u8 (y : Int)] 5)).heap.size := by simp; omega
        go_wp2_with (first
          | (at_builtin; go_must (refine wpList_append_rd _ rfl _ _ 23 rfl w.heap.size 5 i0 (.int .u8 0) 1 Try.underlying23 hi0 hz0 hz1 hz2 rfl (.slice Av m cv) m (U8 (bs ++ ys)) rfl hownA (wr.heap.size + 1) (some ⟨wr.heap.size, 0, none⟩) 1 1 (U8 [y]) rfl r3 (U8_one _) t1 t2 t3 ?_)))
        intro A6 c6 w6 hc6 hm6 hown6 hg6 _
        have HB6 : Hid (Below w.heap.size w w6) := (hb.out.alloc hws _).trans (Below.appended hownA hg6 t3)
        have hown7 : w6.ownsRow w.heap.size 5 1 (.slice A6 (m + 1) c6) (m + 1) (U8 (bs ++ (ys ++ [y]))) := by
          rw [← List.append_assoc, U8_append]
          exact hown6
        clear hown6 hg6
        go_wp2_with fail
        go_ret
        refine NewU8.mk rfl ?_ HB6.out
        rw [HN1.out, HLE.out]
        exact hown7
    · obtain ⟨b8, hb8⟩ : ∃ b8, b8 = y % 256 := ⟨_, rfl⟩
      obtain ⟨d, hd⟩ : ∃ d, d = 128 + y % 128 := ⟨_, rfl⟩
      obtain ⟨y2, hy2⟩ : ∃ y2, y2 = y / 128 := ⟨_, rfl⟩
      have HN1 : Hid (numB x = (ys ++ [d]) ++ numB y2) := by show _ = _; rw [hnb.out, numB_big hlt, hd, hy2, List.append_assoc]; rfl
      have hor := u8_or_128 b8 (by omega)
      have hd2 : 128 + b8 % 128 = d := by omega
      rw [hd2] at hor
      have hy8 : (y : Int) % 256 = (b8 : Int) := by omega
      have hy7 : (y : Int) / 128 = (y2 : Int) := by omega
      have hge : (128 : Int) ≤ (y : Int) := by omega
      have hdb : d < 256 := by omega
      have hy2b : y2 < y := by omega
      have hb8b : b8 < 256 := by omega
      clear hb8 hd hy2 hd2
      rcases hg.out with ⟨hcv, hrd⟩ | ho
      · obtain rfl : m = cv := hcv.symm
        have hc1 : Av = none → m = 0 ∧ m = 0 := by rintro rfl; exact ⟨hrd.none_, hrd.none_⟩
        have hc2 : (U8 (bs ++ ys)).length = m * 1 := by rw [hrd.len, Nat.mul_one]
        have hc3 : ∀ b, Av = some b → ∀ j u, (U8 (bs ++ ys))[j]? = some u → (wr.alloc (.cells #[.int .u8 (d : Int)] 5)).cell? (b.add j) = some u := fun b hb' => (hrd.alloc _).cells hb'
        have hc4 : (U8 [d]).length = 1 * 1 := rfl
        have hc5 : ∀ j u, (U8 [d])[j]? = some u → (wr.alloc (.cells #[.int .u8 (d : Int)] 5)).cell? ((⟨wr.heap.size, 0, none⟩ : Addr).add j) = some u := (Rd.new wr 5 #[.int .u8 (d : Int)] 1 (U8 [d]) (by simp [U8]) (by simp)).cells rfl
        have hc6 : m < m + 1 := by omega
        have hc7 : m + 1 ≤ maxLen := by simp only [maxLen]; omega
        have hc8 : (m + 1) * 1 ≤ 140737488355328 := by omega
        have HC := Lib.hid (And.intro hc1 (And.intro hc3 hc5))
        clear hc1 hc3 hc5
        go_wp2_with (first
          | (at_builtin; go_loud (refine wpList_append_grows _ rfl _ _ 23 rfl 5 i0 (.int .u8 0) 1 1 Try.underlying23 hi0 hz0 hz1 hz2 rfl (by omega) Av m m (U8 (bs ++ ys)) rfl HC.out.1 hc2 HC.out.2.1 ⟨wr.heap.size, 0, none⟩ 1 1 (U8 [d]) rfl hc4 HC.out.2.2 (U8_one _) hc6 hc7 hc8 ?_)))
        intro v' w6 hown6 hg6
        obtain ⟨A6, c6, rfl, hc6, hm6⟩ := own_form hown6
        have HB6 : Hid (Below w.heap.size w w6) := (hb.out.alloc hws _).trans ((Below.refl _ _).grown hg6 (by simp; omega) (fun k hk => by cases hk))
        have hown7 : w6.ownsRow w.heap.size 5 1 (.slice A6 (m + 1) c6) (m + 1) (U8 (bs ++ (ys ++ [d]))) := by
          rw [← List.append_assoc, U8_append]
          exact hown6.base_le' (by omega)
        have HO7 := Lib.hid hown7
        clear hown6 hg6 hown7
        go_wp2_with fail
        go_roundw
        case rel => exact ⟨y2, m + 1, c6, ys ++ [d], A6, by go_num, by omega, rfl, by omega, hc6, by show _ = _; simp; have := hm.out; omega, HN1.out, .inr HO7.out, HB6.out⟩
        case measure => simp [intOf]; omega
      · have hownA := ho.alloc (.cells #[.int .u8 (d : Int)] 5)
        have r3 := Rd.new wr 5 #[.int .u8 (d : Int)] 1 (U8 [d]) (by simp [U8]) (by simp)
        have t1 : m + 1 ≤ maxLen := by simp only [maxLen]; omega
        have t2 : (m + 1) * 1 ≤ 140737488355328 := by omega
        have t3 : w.heap.size ≤ (wr.alloc (.cells #[.int .u8 (d : Int)] 5)).heap.size := by simp; omega
        go_wp2_with (first
          | (at_builtin; go_must (refine wpList_append_rd _ rfl _ _ 23 rfl w.heap.size 5 i0 (.int .u8 0) 1 Try.underlying23 hi0 hz0 hz1 hz2 rfl (.slice Av m cv) m (U8 (bs ++ ys)) rfl hownA (wr.heap.size + 1) (some ⟨wr.heap.size, 0, none⟩) 1 1 (U8 [d]) rfl r3 (U8_one _) t1 t2 t3 ?_)))
        intro A6 c6 w6 hc6 hm6 hown6 hg6 _
        have HB6 : Hid (Below w.heap.size w w6) := (hb.out.alloc hws _).trans (Below.appended hownA hg6 t3)
        have hown7 : w6.ownsRow w.heap.size 5 1 (.slice A6 (m + 1) c6) (m + 1) (U8 (bs ++ (ys ++ [d]))) := by
          rw [← List.append_assoc, U8_append]
          exact hown6
        have HO7 := Lib.hid hown7
        clear hown6 hg6 hown7
        go_wp2_with fail
        go_roundw
        case rel => exact ⟨y2, m + 1, c6, ys ++ [d], A6, by go_num, by omega, rfl, by omega, hc6, by show _ = _; simp; have := hm.out; omega, HN1.out, .inr HO7.out, HB6.out⟩
        case measure => simp [intOf]; omega
end Go.Proofs.Ytcefohjddbjcjaa
