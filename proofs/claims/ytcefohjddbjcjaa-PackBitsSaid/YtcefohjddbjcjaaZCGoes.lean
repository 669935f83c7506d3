/- The document's answer for the code: a bit, and what waits. -/
import Derived.Test.YtcefohjddbjcjaaZg4
import Derived.Test.YtcefohjddbjcjaaZg3
import Derived.Test.YtcefohjddbjcjaaZg1
import Derived.Deep.RegionWith
namespace Go.Proofs.Ytcefohjddbjcjaa
set_option maxRecDepth 20000
open Go.RowKit
set_option linter.unusedVariables false

/-- A row of numbers of the call's own. -/
def OutR (w : World) (B : Nat) (v : Value) (l : List Nat) : Prop := ∃ A c, v = .slice A l.length c ∧ w.ownsRow B 3 1 (.slice A l.length c) l.length (I64 (ofNB l))
theorem OutR.nil (w : World) (B : Nat) : OutR w B (.slice none 0 0) [] := ⟨none, 0, rfl, World.ownsRow_nil _ _ _ _⟩
theorem OutR.below {w w' : World} {B : Nat} {v : Value} {l : List Nat} (h : OutR w B v l) (m : Below w.heap.size w w') : OutR w' B v l := by
  obtain ⟨A, c, rfl, h⟩ := h
  exact ⟨A, c, rfl, own_below h m⟩
theorem OutR.mod {w w' : World} {S : Nat → Prop} {B : Nat} {v : Value} {l : List Nat} (h : OutR w B v l) (m : Mod S w w') (hs : ∀ i, B ≤ i → ¬ S i) : OutR w' B v l := by
  obtain ⟨A, c, rfl, h⟩ := h
  exact ⟨A, c, rfl, own_mod h m (fun k hk => hs k (h.lt k hk).1)⟩
set_option maxHeartbeats 2000000 in
theorem goes_p (v : Value) (B b n : Nat) (l : List Nat) (w : World) (h : OutR w B v l) (hB : B ≤ w.heap.size) (hb : b < 2) (hn : l.length + n ≤ 1000000) :
    Calls Try.prog 37 #[v, .int .i64 (b : Int), .int .i64 (n : Int)] w fun e w' => ∃ v', e = .returned v' ∧ OutR w' B v' (l ++ b :: List.replicate n (1 - b)) ∧ Below B w w' := by
  obtain ⟨A, c, rfl, hown⟩ := h
  obtain ⟨i0, hi0, hz0, hz1, hz2⟩ := info_parts info_int
  obtain ⟨q, hq⟩ : ∃ q, q = l.length := ⟨_, rfl⟩
  have HQ := Lib.hid hq
  rw [← hq] at hown ⊢
  have hown0 := hown.alloc (.cells #[.int .i64 (b : Int)] 3)
  have r0 := Rd.new w 3 #[.int .i64 (b : Int)] 1 (I64 [(b : Int)]) (by simp [I64]) (by simp)
  have t1 : q + 1 ≤ maxLen := by simp only [maxLen]; omega
  have t2 : (q + 1) * 8 ≤ 140737488355328 := by omega
  have t3 : B ≤ (w.alloc (.cells #[.int .i64 (b : Int)] 3)).heap.size := by simp; omega
  have WY : Hid (I64 (ofNB l) ++ I64 [(b : Int)] = I64 (ofNB (l ++ [b]))) := by
    show _ = _
    rw [ofN_appendB, I64_append]; simp [ofNB]
  clear hq
  go_enter Try.func37, Try.ntmps37
  go_wp2_with (first
    | (at_builtin; go_must (refine wpList_append_rd _ rfl _ _ 35 rfl B 3 i0 (.int .i64 0) 8 Try.underlying35 hi0 hz0 hz1 hz2 rfl (.slice A q c) q (I64 (ofNB l)) rfl hown0 (w.heap.size + 1) (some ⟨w.heap.size, 0, none⟩) 1 1 (I64 [(b : Int)]) rfl r0 (I64_one _) t1 t2 t3 ?_)))
  intro A6 c6 w6 hc6 hm6 hown6 hg6 _
  have hb6 : Below B w w6 := ((Below.refl B w).alloc hB _).trans (Below.appended hown0 hg6 t3)
  rw [WY.out] at hown6
  have HO6 : Hid (OutR w6 B (.slice A6 (q + 1) c6) (l ++ [b])) := by
    refine ⟨A6, c6, by rw [HQ.out]; simp, ?_⟩
    rw [show (l ++ [b]).length = q + 1 by rw [HQ.out]; simp]; exact hown6
  have HB6 := Lib.hid hb6
  clear hown6 hg6 hb6 hown0 hown r0 t1 t2 t3 WY hc6 hm6
  go_wp2_with fail
  go_loopw [0, 7] (fun v i wr => ∃ k : Nat, k ≤ n ∧ i = .int .i64 (k : Int) ∧ Hid (OutR wr B v (l ++ b :: List.replicate k (1 - b))) ∧ Hid (Below B w wr) ∧ B ≤ wr.heap.size) (fun _ i _ => n - (intOf i).toNat)
  case atStart => exact ⟨0, by omega, rfl, by simpa using HO6, HB6, Nat.le_trans hB HB6.out.size⟩
  case round =>
    clear HO6 HB6
    obtain ⟨k, hk, rfl, HO, HB, hBr⟩ := hrel
    by_cases hlt : k < n
    · obtain ⟨A7, c7, rfl, hown⟩ := HO.out
      obtain ⟨q7, hq7⟩ : ∃ q7, q7 = (l ++ b :: List.replicate k (1 - b)).length := ⟨_, rfl⟩
      have HQ7 := Lib.hid hq7
      have hq8 : q7 ≤ 1000000 := by rw [hq7]; simp; have := HQ.out; omega
      rw [← hq7] at hown ⊢
      obtain ⟨y, hy⟩ : ∃ y, y = 1 - b := ⟨_, rfl⟩
      have HY := Lib.hid hy
      have hsub : (1 : Int) - (b : Int) = (y : Int) := by omega
      have hwr : IntKind.i64.wrap ((1 : Int) - (b : Int)) = (y : Int) := by rw [hsub]; simp [IntKind.wrap, IntKind.signed, IntKind.bits]; omega
      have NX : Hid (l ++ b :: List.replicate (k + 1) (1 - b) = (l ++ b :: List.replicate k (1 - b)) ++ [y]) := by
        show _ = _; rw [List.replicate_succ', hy]; simp
      have hown0 := hown.alloc (.cells #[.int .i64 (y : Int)] 3)
      have r0 := Rd.new wr 3 #[.int .i64 (y : Int)] 1 (I64 [(y : Int)]) (by simp [I64]) (by simp)
      have t1 : q7 + 1 ≤ maxLen := by simp only [maxLen]; omega
      have t2 : (q7 + 1) * 8 ≤ 140737488355328 := by omega
      have t3 : B ≤ (wr.alloc (.cells #[.int .i64 (y : Int)] 3)).heap.size := by simp; omega
      have WY : Hid (I64 (ofNB (l ++ b :: List.replicate k (1 - b))) ++ I64 [(y : Int)] = I64 (ofNB (l ++ b :: List.replicate (k + 1) (1 - b)))) := by
        show _ = _
        rw [NX.out, ofN_appendB _ [y], I64_append]; rfl
      have hlen : Hid ((l ++ b :: List.replicate (k + 1) (1 - b)).length = q7 + 1) := by show _ = _; rw [NX.out, List.length_append, ← HQ7.out]; rfl
      generalize I64 (ofNB (l ++ b :: List.replicate k (1 - b))) = xs at *
      clear hy hq7 NX HO
      go_wp2_with (first
        | (at_builtin; go_must (refine wpList_append_rd _ rfl _ _ 35 rfl B 3 i0 (.int .i64 0) 8 Try.underlying35 hi0 hz0 hz1 hz2 rfl (.slice A7 q7 c7) q7 xs rfl hown0 (wr.heap.size + 1) (some ⟨wr.heap.size, 0, none⟩) 1 1 (I64 [(y : Int)]) rfl r0 (I64_one _) t1 t2 t3 ?_)))
      intro A6 c6 w6 hc6 hm6 hown6 hg6 _
      have hb6 : Below B wr w6 := ((Below.refl B wr).alloc hBr _).trans (Below.appended hown0 hg6 t3)
      rw [WY.out] at hown6
      have HO6 : Hid (OutR w6 B (.slice A6 (q7 + 1) c6) (l ++ b :: List.replicate (k + 1) (1 - b))) := by
        refine ⟨A6, c6, by rw [hlen.out], ?_⟩
        rw [hlen.out]; exact hown6
      have HB6 := Lib.hid (HB.out.trans hb6)
      have hB6 : B ≤ w6.heap.size := Nat.le_trans hBr hb6.size
      clear hown6 hg6 hb6 hown0 hown r0 t1 t2 t3 WY hc6 hm6 HB
      go_wp2_with fail
      go_roundw
      case rel => exact ⟨k + 1, by omega, by go_num, HO6, HB6, hB6⟩
      case measure => simp [intOf]; omega
    · obtain rfl : k = n := by omega
      go_wp2_with fail
      go_ret
      exact ⟨_, rfl, HO.out, HB.out⟩
end Go.Proofs.Ytcefohjddbjcjaa
