/- The document's Num. -/
import Derived.Test.YtcefohjddbjcjaaZPkNum
namespace Go.Proofs.Ytcefohjddbjcjaa
set_option maxRecDepth 200000
open Go.RowKit
set_option linter.unusedVariables false
set_option maxHeartbeats 2000000 in
theorem rpNum_p (x : Nat) : ∀ (w : World) (hx : x < 2 ^ 64), Calls Try.prog 11 #[.int .u64 (x : Int)] w (NewU8 w (numB x)) := by
  obtain ⟨i0, hi0, hz0, hz1, hz2⟩ := info_parts info_u8
  induction x using Nat.strongRecOn with
  | ind x ih =>
    intro w hx
    have hxi : (x : Int) < 18446744073709551616 := by omega
    by_cases hlt : x < 128
    · have HN := Lib.hid (numB_small hlt)
      have hx8 : (x : Int) % 256 = (x : Int) := by omega
      have hown := World.ownsRow_lit (base := w.heap.size) (e := 5) (size := 1) w #[.int .u8 (x : Int)] 1 (Nat.le_refl _) (by decide) rfl
      have bb := (Below.refl w.heap.size w).alloc (Nat.le_refl _) (.cells #[.int .u8 (x : Int)] 5)
      have F := Lib.hid (And.intro hown bb)
      clear ih hown bb hxi
      go_enter Try.func11, Try.ntmps11
      go_wp2_with fail
      go_ret
      refine NewU8.mk rfl ?_ F.out.2
      rw [HN.out]
      exact F.out.1
    · have HN := Lib.hid (numB_big hlt)
      obtain ⟨d, hd⟩ : ∃ d, d = 128 + x % 128 := ⟨_, rfl⟩
      obtain ⟨y, hy⟩ : ∃ y, y = x / 128 := ⟨_, rfl⟩
      have IH := Lib.hid (fun W => ih y (by omega) W (by omega))
      rw [← hd, ← hy] at HN
      obtain ⟨d0, hd0⟩ : ∃ d0, d0 = x % 128 := ⟨_, rfl⟩
      have e0 : (x : Int) % 128 = (d0 : Int) := by omega
      have e1 : (128 : Int) + (d0 : Int) = (d : Int) := by omega
      have e2 : (d : Int) % 256 = (d : Int) := by omega
      have e3 : (x : Int) / 128 = (y : Int) := by omega
      have hdb : d < 256 := by omega
      have h10 := numB_len10 hx
      rw [HN.out, List.length_cons] at h10
      have HPOS := Lib.hid (numB_pos y)
      obtain ⟨ln, hln⟩ : ∃ ln, ln = (numB y).length := ⟨_, rfl⟩
      have HLN := Lib.hid hln
      rw [← hln] at h10 HPOS
      have hown := World.ownsRow_lit (base := w.heap.size) (e := 5) (size := 1) w #[.int .u8 (d : Int)] 1 (Nat.le_refl _) (by decide) rfl
      have bb := (Below.refl w.heap.size w).alloc (Nat.le_refl _) (.cells #[.int .u8 (d : Int)] 5)
      have HO := Lib.hid hown
      have HBB := Lib.hid bb
      clear ih hown bb hd hy hd0 hln hxi
      go_enter Try.func11, Try.ntmps11
      go_wp2_with fail
      refine (IH.out _).mono ?_
      rintro e w2 ⟨A2, c2, rfl, hc2, hm2, ho2, b2⟩
      rw [← HLN.out] at ho2 hc2 ⊢
      have hs2 := b2.size
      have rd2 := Rd.ofOwn ho2
      have hB2 := HBB.out.trans (b2.mono HBB.out.size)
      have hO2 := own_below HO.out b2
      have t1 : 1 + ln ≤ maxLen := by simp only [maxLen]; omega
      have t2 : (1 + ln) * 1 ≤ 140737488355328 := by omega
      have t3 := hB2.size
      go_wp2_with (first
        | (at_builtin; go_loud (refine wpList_append_rd _ rfl _ _ 23 rfl w.heap.size 5 i0 (.int .u8 0) 1 Try.underlying23 hi0 hz0 hz1 hz2 rfl (.slice (some ⟨w.heap.size, 0, none⟩) 1 1) 1 (U8 [d]) rfl hO2 w2.heap.size A2 ln c2 (U8 (numB y)) rfl rd2 (U8_one _) t1 t2 t3 ?_)))
      intro A6 c6 w6 hc6 hm6 hown6 hg6 _
      have HB6 : Hid (Below w.heap.size w w6) := hB2.trans (Below.appended hO2 hg6 t3)
      have HO6 := Lib.hid hown6
      have HLL : Hid ((d :: numB y).length = 1 + ln) := by show _ = _; rw [List.length_cons, HLN.out]; omega
      clear hown6 hg6 rd2 ho2
      go_wp2_with fail
      go_ret
      refine NewU8.mk rfl ?_ HB6.out
      rw [HN.out, HLL.out]
      exact HO6.out
end Go.Proofs.Ytcefohjddbjcjaa
