/- Add: bits put behind one by one; of: a vector of bits. -/
import Derived.Test.YtcefohjddbjcjaaZg3
namespace Go.Proofs.Ytcefohjddbjcjaa
open Go.RowKit
set_option linter.unusedVariables false

theorem take_next {α : Type} [Inhabited α] (l : List Int) (k : Nat) (h : k < l.length) : l.take (k + 1) = l.take k ++ [l.getD k 0] := by
  rw [← List.take_append_getElem h, List.getD_eq_getElem?_getD, List.getElem?_eq_getElem h]; rfl
theorem bits_next (l : List Nat) (z : List Int) (k : Nat) (h : k < z.length) : l ++ (z.take (k + 1)).map bit1 = (l ++ (z.take k).map bit1) ++ [bit1 (z.getD k 0)] := by
  rw [take_next (α := Nat) z k h, List.map_append, List.append_assoc]; rfl

set_option maxRecDepth 20000 in
set_option maxHeartbeats 1000000 in
theorem add_p0 (g : Nat) (l : List Nat) (A As : Option Addr) (n c : Nat) (z : List Int) (w : World) (hv : VecAt w g (val l) l.length A) (h : Rd w w.heap.size As n (I64 z))
    (hs : 0 < n → ∀ i, inBlk As i → ¬ foot g A i) (hn : l.length + n + 64 ≤ 1000000) :
    Calls Try.prog 27 #[.pointer (some ⟨g, 0, none⟩), .slice As n c] w (NumPost w g (val (l ++ z.map bit1)) (l ++ z.map bit1).length A) := by
  have hz : z.length = n := by rw [← h.len, I64_len]
  have HZ := Lib.hid hz
  have H := Lib.hid h
  have HS := Lib.hid hs
  have HV := Lib.hid hv
  have hn9 : n ≤ 1000000 := by omega
  clear h hz hs hv
  go_enter Try.func27, Try.ntmps27
  go_wp2
  go_loopw [8] (fun i wr => ∃ (k : Nat) (Ak : Option Addr), k ≤ n ∧ i = .int .i64 (k : Int) ∧ VecAt wr g (val (l ++ (z.take k).map bit1)) (l ++ (z.take k).map bit1).length Ak ∧ Mod (foot g A) w wr ∧ (Ak = A ∨ ∃ b, Ak = some ⟨b, 0, none⟩ ∧ w.heap.size ≤ b)) (fun i _ => n - (intOf i).toNat)
  case atStart => exact ⟨0, A, by omega, rfl, by simpa using HV.out, Mod.refl _ _, .inl rfl⟩
  case round =>
    obtain ⟨k, Ak, hk, rfl, hvk, hm, ha⟩ := hrel
    by_cases hlt : k < n
    · have hr := H.out.mod hm (Nat.le_refl _) (fun h0 i hi => HS.out h0 i hi)
      obtain ⟨b, o, rfl, _, k1⟩ := hr.i64 (by omega)
      have t1 := k1 k hlt
      have hll : (l ++ (z.take k).map bit1).length + 64 ≤ 1000000 := by simp only [List.length_append, List.length_map, List.length_take]; omega
      have hc1 : cnt64 1 = 1 := by decide
      have NX : Hid (l ++ (z.take (k + 1)).map bit1 = (l ++ (z.take k).map bit1) ++ [bit1 (z.getD k 0)]) := bits_next l z k (by rw [HZ.out]; exact hlt)
      have HVK := Lib.hid hvk
      have HMK := Lib.hid hm
      have HAK := Lib.hid ha
      clear hr k1 hvk hm ha
      generalize hL : l ++ (z.take k).map bit1 = L at *
      generalize hx : z.getD k 0 = x at *
      by_cases hx0 : x = 0
      · have NM := Lib.hid (num_p g (val L) L.length 0 1 Ak wr HVK.out (by decide) (by omega) hll)
        have hb1 : (0 : Nat) = bit1 x := by rw [hx0]; rfl
        rw [hc1, hb1, put_one, ← hb1] at NM
        subst hx0
        clear hb1
        go_wp2_with fail
        refine NM.out.mono ?_
        rintro e w2 hp
        obtain ⟨rfl, A2, hv2, hm2, ha2⟩ := NumPost.trans HMK.out HAK.out hp
        go_wp2_with fail
        go_roundw
        case rel => exact ⟨k + 1, A2, by omega, by go_num, by rw [NX.out, List.length_append]; exact hv2, hm2, ha2⟩
        case measure => simp [intOf]; omega
      · have NM := Lib.hid (num_p g (val L) L.length 1 1 Ak wr HVK.out (by decide) (by omega) hll)
        have hb1 : (1 : Nat) = bit1 x := by unfold bit1; rw [if_neg hx0]
        have hbe : (x == 0) = false := by simpa using hx0
        have e1 : put (val L) L.length 1 1 = val (L ++ [bit1 x]) := by have := put_one L x; rw [← hb1] at this ⊢; exact this
        rw [hc1, e1] at NM
        clear hb1 e1 hx0
        go_wp2_with fail
        refine NM.out.mono ?_
        rintro e w2 hp
        obtain ⟨rfl, A2, hv2, hm2, ha2⟩ := NumPost.trans HMK.out HAK.out hp
        go_wp2_with fail
        go_roundw
        case rel => exact ⟨k + 1, A2, by omega, by go_num, by rw [NX.out, List.length_append]; exact hv2, hm2, ha2⟩
        case measure => simp [intOf]; omega
    · obtain rfl : k = n := by omega
      have e1 : z.take k = z := List.take_of_length_le (by rw [HZ.out]; exact Nat.le_refl _)
      rw [e1] at hvk
      have HVK := Lib.hid hvk
      have HMK := Lib.hid hm
      have HAK := Lib.hid ha
      clear hvk hm ha e1
      go_wp2_with fail
      exact bodyPost_end (results_none rfl _ _ _) rfl ⟨rfl, Ak, HVK.out, HMK.out, HAK.out⟩

theorem add_p (g : Nat) (l : List Nat) (A As : Option Addr) (n c : Nat) (z : List Int) (w : World) (hv : VecAt w g (val l) l.length A) (h : Rd w w.heap.size As n (I64 z))
    (hs : ∀ i, inBlk As i → ¬ foot g A i) (hn : l.length + n + 64 ≤ 1000000) :
    Calls Try.prog 27 #[.pointer (some ⟨g, 0, none⟩), .slice As n c] w (NumPost w g (val (l ++ z.map bit1)) (l ++ z.map bit1).length A) :=
  add_p0 g l A As n c z w hv h (fun _ => hs) hn
set_option maxRecDepth 20000 in
set_option maxHeartbeats 1000000 in
theorem add_nil (b n c : Nat) (z : List Int) (w : World) (h : Rd w w.heap.size (some ⟨b, 0, none⟩) n (I64 z)) (hn : n ≤ 1000000) :
    Calls Try.prog 27 #[.pointer none, .slice (some ⟨b, 0, none⟩) n c] w fun e w' => e = .returned (.tuple #[]) ∧ w = w' := by
  have H := Lib.hid h
  clear h
  go_enter Try.func27, Try.ntmps27
  go_wp2
  go_loopw [8] (fun i wr => ∃ k : Nat, k ≤ n ∧ i = .int .i64 (k : Int) ∧ wr = w) (fun i _ => n - (intOf i).toNat)
  case atStart => exact ⟨0, by omega, rfl, rfl⟩
  case round =>
    obtain ⟨k, hk, rfl, rfl⟩ := hrel
    by_cases hlt : k < n
    · obtain ⟨b', o, e, _, k1⟩ := H.out.i64 (by omega)
      cases e
      have t1 := k1 k hlt
      rw [Nat.zero_add] at t1
      have N0 := Lib.hid (num_nil 0 1 wr (by omega))
      have N1 := Lib.hid (num_nil 1 1 wr (by omega))
      clear k1
      generalize z.getD k 0 = x at *
      by_cases hx0 : x = 0
      · subst hx0
        go_wp2_with fail
        refine N0.out.mono ?_
        rintro e w2 ⟨rfl, rfl⟩
        go_wp2_with fail
        go_roundw
        case rel => exact ⟨k + 1, by omega, by go_num, trivial⟩
        case measure => simp [intOf]; omega
      · have hbe : (x == 0) = false := by simpa using hx0
        clear hx0
        go_wp2_with fail
        refine N1.out.mono ?_
        rintro e w2 ⟨rfl, rfl⟩
        go_wp2_with fail
        go_roundw
        case rel => exact ⟨k + 1, by omega, by go_num, trivial⟩
        case measure => simp [intOf]; omega
    · obtain rfl : k = n := by omega
      go_wp2_with fail
      exact bodyPost_end (results_none rfl _ _ _) rfl ⟨rfl, rfl⟩

end Go.Proofs.Ytcefohjddbjcjaa
