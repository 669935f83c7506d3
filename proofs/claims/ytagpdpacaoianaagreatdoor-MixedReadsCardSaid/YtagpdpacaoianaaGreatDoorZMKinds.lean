/- The document's letters of a text. -/
import Derived.Test.YtagpdpacaoianaaGreatDoorZMParse
import Derived.Test.YtagpdpacaoianaaGreatDoorZMCnt
import Derived.Test.YtagpdpacaoianaaGreatDoorZg1
import Derived.Laws.Strings2
namespace Go.Proofs.YtagpdpacaoianaaGreatDoor
set_option maxRecDepth 20000
open Go.RowKit
set_option linter.unusedVariables false
def KindsP (w : World) (l : List Nat) (e : Ending) (w' : World) : Prop :=
  (∃ i, i < l.length ∧ kb (l.getD i 0) = -1 ∧ (∀ j, j < i → 0 ≤ kb (l.getD j 0)) ∧ e = .returned (.tuple #[.slice none 0 0, .int .i64 (i : Int)]) ∧ Below w.heap.size w w') ∨
    (∃ A c, (∀ j, j < l.length → 0 ≤ kb (l.getD j 0)) ∧ e = .returned (.tuple #[.slice A l.length c, .int .i64 (-1)]) ∧ w'.ownsRow w.heap.size 3 1 (.slice A l.length c) l.length (I64 (ofNB (kbs l))) ∧ Below w.heap.size w w')
theorem one_str (s : ByteArray) (j : Nat) (hj : j < s.size) : s.extract j (j + 1) = ⟨#[UInt8.ofNat ((bytesS s).getD j 0)]⟩ := by
  apply ByteArray.ext
  rw [ByteArray.data_extract]
  have h : j < s.data.size := hj
  have e : UInt8.ofNat ((bytesS s).getD j 0) = s.data[j] := by
    simp only [bytesS, List.getD_eq_getElem?_getD, List.getElem?_map]
    rw [Array.getElem?_toList, Array.getElem?_eq_getElem h]
    simp
  rw [e]
  apply Array.ext
  · simp; omega
  · intro i h1 h2
    simp at h2
    subst h2
    simp
theorem sub_str (s : ByteArray) (j : Nat) (hj : j < s.size) (W : World) : (Instr.slice 9 (.string s) (some (.int .i64 (j : Int))) (some (.int .i64 ((j : Int) + 1))) none).run Tryz.prog W = .ok (.string ⟨#[UInt8.ofNat ((bytesS s).getD j 0)]⟩) W := by
  rw [← one_str s j hj]
  exact run_slice_string (P := Tryz.prog) W 9 s .i64 .i64 (j : Int) ((j : Int) + 1) Tryz.underlying9 (by omega) (by omega) (by omega)
theorem one_list (b : UInt8) : (⟨#[b]⟩ : ByteArray).toList = [b] := by
  unfold ByteArray.toList
  rw [ByteArray.toList.loop]
  rw [if_pos (by show 0 < 1; decide)]
  rw [ByteArray.toList.loop]
  rw [if_neg (by show ¬ 0 + 1 < 1; decide)]
  rfl
theorem ne_one (x y : Nat) (hx : x < 256) (hy : y < 256) (h : x ≠ y) : ([UInt8.ofNat x] == [UInt8.ofNat y]) = false := by
  rw [beq_eq_false_iff_ne]
  intro e
  have h2 : UInt8.ofNat x = UInt8.ofNat y := by simpa using e
  have h3 := congrArg UInt8.toNat h2
  simp [UInt8.toNat_ofNat'] at h3
  omega
theorem kbs_next (l : List Nat) (j : Nat) (hj : j < l.length) : kbs (l.take (j + 1)) = kbs (l.take j) ++ [(kb (l.getD j 0)).toNat] := by
  unfold kbs
  rw [← List.take_append_getElem hj, List.map_append, List.getD_eq_getElem?_getD, List.getElem?_eq_getElem hj]; rfl
set_option maxHeartbeats 8000000 in
theorem kinds_p (s : ByteArray) (w : World) (hn : s.size ≤ 100000) : Calls Tryz.prog 11 #[.string s] w (KindsP w (bytesS s)) := by
  obtain ⟨i0, hi0, hz0, hz1, hz2⟩ := info_parts info_int
  have SX := Lib.hid (fun i (hi : i < s.size) W => sub_str s i hi W)
  have LT := Lib.hid (bytesS_lt s)
  obtain ⟨l, hl⟩ : ∃ l, l = bytesS s := ⟨_, rfl⟩
  have hsz : s.size = l.length := by rw [hl, bytesS_len]
  rw [← hl] at SX LT ⊢
  obtain ⟨n, hnn⟩ : ∃ n, n = s.size := ⟨_, rfl⟩
  have HNL : Hid (n = l.length) := hnn.trans hsz
  have hns : (s.size : Int) = (n : Int) := by rw [hnn]
  have hn2 : n ≤ 100000 := by omega
  rw [← hnn] at SX
  have hln : l.length = n := by rw [← hsz, hnn]
  clear hl hsz hnn hn
  unfold KindsP
  rw [hln]
  clear hln
  go_enter Tryz.func11, Tryz.ntmps11
  go_wp2_with fail
  go_loopw [4, 5] (fun x i wr => ∃ (j c : Nat) (A : Option Addr), j ≤ n ∧ i = .int .i64 (j : Int) ∧ x = .slice A j c ∧ Hid (wr.ownsRow w.heap.size 3 1 (.slice A j c) j (I64 (ofNB (kbs (l.take j))))) ∧ Hid (Below w.heap.size w wr) ∧ Hid (∀ t, t < j → 0 ≤ kb (l.getD t 0))) (fun _ i _ => n - (intOf i).toNat)
  case atStart => exact ⟨0, 0, none, by omega, rfl, rfl, World.ownsRow_nil _ _ _ _, Below.refl _ _, fun t ht => by omega⟩
  case round =>
    obtain ⟨j, c, A, hj, rfl, rfl, HO, HB, HA⟩ := hrel
    by_cases hlt : j < n
    · have sx := SX.out j hlt
      have lt := LT.out j
      have NX : Hid (kbs (l.take (j + 1)) = kbs (l.take j) ++ [(kb (l.getD j 0)).toNat]) := kbs_next l j (by rw [← HNL.out]; exact hlt)
      obtain ⟨x, hx⟩ : ∃ x, x = l.getD j 0 := ⟨_, rfl⟩
      rw [← hx] at sx lt NX
      have HX := Lib.hid hx
      clear hx
      have hjw : IntKind.i64.wrap ((j : Int) + 1) = (j : Int) + 1 := by rw [IntKind.wrap_i64]; omega
      obtain ⟨T, hT⟩ : ∃ T : ByteArray, T = ⟨#[UInt8.ofNat x]⟩ := ⟨_, rfl⟩
      rw [← hT] at sx
      by_cases h40 : x = 40
      · have hkb : kb x = 0 := by rw [h40]; rfl
        rw [hkb] at NX
        have HKB := Lib.hid hkb
        have d40 : (T.toList == [40]) = true := by rw [hT, one_list, h40]; rfl
        clear hkb h40 hT
        have bA := (Below.refl wr.heap.size wr).alloc (Nat.le_refl _) (.cells #[.int .i64 0] 3)
        have ownA := own_below HO.out bA
        have rA := Rd.new wr 3 #[.int .i64 0] 1 (I64 [0]) (by simp [I64]) (by simp)
        have e1 : j + 1 ≤ maxLen := by simp only [maxLen]; omega
        have e2 : (j + 1) * 8 ≤ 140737488355328 := by omega
        have e3 : w.heap.size ≤ (wr.alloc (.cells #[.int .i64 0] 3)).heap.size := by have := HB.out.size; simp; omega
        go_wp2_with (first
          | (at_builtin; go_must (refine wpList_append_rd _ rfl _ _ 27 rfl w.heap.size 3 i0 (.int .i64 0) 8 Tryz.underlying27 hi0 hz0 hz1 hz2 rfl (.slice A j c) j (I64 (ofNB (kbs (l.take j)))) rfl ownA (wr.heap.size + 1) (some ⟨wr.heap.size, 0, none⟩) 1 1 (I64 [0]) rfl rA (I64_one _) e1 e2 e3 ?_)))
        intro A7 c7 w7 hc7 hm7 hown7 hg7 _
        have O7 : Hid (w7.ownsRow w.heap.size 3 1 (.slice A7 (j + 1) c7) (j + 1) (I64 (ofNB (kbs (l.take (j + 1)))))) := by
          have := hown7
          rw [← I64_append] at this
          rw [NX.out, ofN_appendB]
          exact this
        have B7 : Hid (Below w.heap.size w w7) := (HB.out.trans (bA.mono HB.out.size)).trans (Below.appended ownA hg7 e3)
        have HA2 : Hid (∀ t, t < j + 1 → 0 ≤ kb (l.getD t 0)) := fun t ht => by
          by_cases e : t = j
          · rw [e, ← HX.out, HKB.out]; decide
          · exact HA.out t (by omega)
        clear bA ownA rA e1 e2 e3 hown7 hg7
        go_wp2_with fail
        go_roundw
        case rel => exact ⟨j + 1, c7, A7, by omega, by go_num, rfl, O7, B7, HA2⟩
        case measure => simp [intOf]; omega
      by_cases h41 : x = 41
      · have hkb : kb x = 1 := by rw [h41]; rfl
        rw [hkb] at NX
        have HKB := Lib.hid hkb
        have d40 : (T.toList == [40]) = false := by rw [hT, one_list]; exact ne_one x 40 lt (by decide) (by omega)
        have d41 : (T.toList == [41]) = true := by rw [hT, one_list, h41]; rfl
        clear hkb h41 hT
        have bA := (Below.refl wr.heap.size wr).alloc (Nat.le_refl _) (.cells #[.int .i64 1] 3)
        have ownA := own_below HO.out bA
        have rA := Rd.new wr 3 #[.int .i64 1] 1 (I64 [1]) (by simp [I64]) (by simp)
        have e1 : j + 1 ≤ maxLen := by simp only [maxLen]; omega
        have e2 : (j + 1) * 8 ≤ 140737488355328 := by omega
        have e3 : w.heap.size ≤ (wr.alloc (.cells #[.int .i64 1] 3)).heap.size := by have := HB.out.size; simp; omega
        go_wp2_with (first
          | (at_builtin; go_must (refine wpList_append_rd _ rfl _ _ 27 rfl w.heap.size 3 i0 (.int .i64 0) 8 Tryz.underlying27 hi0 hz0 hz1 hz2 rfl (.slice A j c) j (I64 (ofNB (kbs (l.take j)))) rfl ownA (wr.heap.size + 1) (some ⟨wr.heap.size, 0, none⟩) 1 1 (I64 [1]) rfl rA (I64_one _) e1 e2 e3 ?_)))
        intro A7 c7 w7 hc7 hm7 hown7 hg7 _
        have O7 : Hid (w7.ownsRow w.heap.size 3 1 (.slice A7 (j + 1) c7) (j + 1) (I64 (ofNB (kbs (l.take (j + 1)))))) := by
          have := hown7
          rw [← I64_append] at this
          rw [NX.out, ofN_appendB]
          exact this
        have B7 : Hid (Below w.heap.size w w7) := (HB.out.trans (bA.mono HB.out.size)).trans (Below.appended ownA hg7 e3)
        have HA2 : Hid (∀ t, t < j + 1 → 0 ≤ kb (l.getD t 0)) := fun t ht => by
          by_cases e : t = j
          · rw [e, ← HX.out, HKB.out]; decide
          · exact HA.out t (by omega)
        clear bA ownA rA e1 e2 e3 hown7 hg7
        go_wp2_with fail
        go_roundw
        case rel => exact ⟨j + 1, c7, A7, by omega, by go_num, rfl, O7, B7, HA2⟩
        case measure => simp [intOf]; omega
      by_cases h91 : x = 91
      · have hkb : kb x = 2 := by rw [h91]; rfl
        rw [hkb] at NX
        have HKB := Lib.hid hkb
        have d40 : (T.toList == [40]) = false := by rw [hT, one_list]; exact ne_one x 40 lt (by decide) (by omega)
        have d41 : (T.toList == [41]) = false := by rw [hT, one_list]; exact ne_one x 41 lt (by decide) (by omega)
        have d91 : (T.toList == [91]) = true := by rw [hT, one_list, h91]; rfl
        clear hkb h91 hT
        have bA := (Below.refl wr.heap.size wr).alloc (Nat.le_refl _) (.cells #[.int .i64 2] 3)
        have ownA := own_below HO.out bA
        have rA := Rd.new wr 3 #[.int .i64 2] 1 (I64 [2]) (by simp [I64]) (by simp)
        have e1 : j + 1 ≤ maxLen := by simp only [maxLen]; omega
        have e2 : (j + 1) * 8 ≤ 140737488355328 := by omega
        have e3 : w.heap.size ≤ (wr.alloc (.cells #[.int .i64 2] 3)).heap.size := by have := HB.out.size; simp; omega
        go_wp2_with (first
          | (at_builtin; go_must (refine wpList_append_rd _ rfl _ _ 27 rfl w.heap.size 3 i0 (.int .i64 0) 8 Tryz.underlying27 hi0 hz0 hz1 hz2 rfl (.slice A j c) j (I64 (ofNB (kbs (l.take j)))) rfl ownA (wr.heap.size + 1) (some ⟨wr.heap.size, 0, none⟩) 1 1 (I64 [2]) rfl rA (I64_one _) e1 e2 e3 ?_)))
        intro A7 c7 w7 hc7 hm7 hown7 hg7 _
        have O7 : Hid (w7.ownsRow w.heap.size 3 1 (.slice A7 (j + 1) c7) (j + 1) (I64 (ofNB (kbs (l.take (j + 1)))))) := by
          have := hown7
          rw [← I64_append] at this
          rw [NX.out, ofN_appendB]
          exact this
        have B7 : Hid (Below w.heap.size w w7) := (HB.out.trans (bA.mono HB.out.size)).trans (Below.appended ownA hg7 e3)
        have HA2 : Hid (∀ t, t < j + 1 → 0 ≤ kb (l.getD t 0)) := fun t ht => by
          by_cases e : t = j
          · rw [e, ← HX.out, HKB.out]; decide
          · exact HA.out t (by omega)
        clear bA ownA rA e1 e2 e3 hown7 hg7
        go_wp2_with fail
        go_roundw
        case rel => exact ⟨j + 1, c7, A7, by omega, by go_num, rfl, O7, B7, HA2⟩
        case measure => simp [intOf]; omega
      by_cases h93 : x = 93
      · have hkb : kb x = 3 := by rw [h93]; rfl
        rw [hkb] at NX
        have HKB := Lib.hid hkb
        have d40 : (T.toList == [40]) = false := by rw [hT, one_list]; exact ne_one x 40 lt (by decide) (by omega)
        have d41 : (T.toList == [41]) = false := by rw [hT, one_list]; exact ne_one x 41 lt (by decide) (by omega)
        have d91 : (T.toList == [91]) = false := by rw [hT, one_list]; exact ne_one x 91 lt (by decide) (by omega)
        have d93 : (T.toList == [93]) = true := by rw [hT, one_list, h93]; rfl
        clear hkb h93 hT
        have bA := (Below.refl wr.heap.size wr).alloc (Nat.le_refl _) (.cells #[.int .i64 3] 3)
        have ownA := own_below HO.out bA
        have rA := Rd.new wr 3 #[.int .i64 3] 1 (I64 [3]) (by simp [I64]) (by simp)
        have e1 : j + 1 ≤ maxLen := by simp only [maxLen]; omega
        have e2 : (j + 1) * 8 ≤ 140737488355328 := by omega
        have e3 : w.heap.size ≤ (wr.alloc (.cells #[.int .i64 3] 3)).heap.size := by have := HB.out.size; simp; omega
        go_wp2_with (first
          | (at_builtin; go_must (refine wpList_append_rd _ rfl _ _ 27 rfl w.heap.size 3 i0 (.int .i64 0) 8 Tryz.underlying27 hi0 hz0 hz1 hz2 rfl (.slice A j c) j (I64 (ofNB (kbs (l.take j)))) rfl ownA (wr.heap.size + 1) (some ⟨wr.heap.size, 0, none⟩) 1 1 (I64 [3]) rfl rA (I64_one _) e1 e2 e3 ?_)))
        intro A7 c7 w7 hc7 hm7 hown7 hg7 _
        have O7 : Hid (w7.ownsRow w.heap.size 3 1 (.slice A7 (j + 1) c7) (j + 1) (I64 (ofNB (kbs (l.take (j + 1)))))) := by
          have := hown7
          rw [← I64_append] at this
          rw [NX.out, ofN_appendB]
          exact this
        have B7 : Hid (Below w.heap.size w w7) := (HB.out.trans (bA.mono HB.out.size)).trans (Below.appended ownA hg7 e3)
        have HA2 : Hid (∀ t, t < j + 1 → 0 ≤ kb (l.getD t 0)) := fun t ht => by
          by_cases e : t = j
          · rw [e, ← HX.out, HKB.out]; decide
          · exact HA.out t (by omega)
        clear bA ownA rA e1 e2 e3 hown7 hg7
        go_wp2_with fail
        go_roundw
        case rel => exact ⟨j + 1, c7, A7, by omega, by go_num, rfl, O7, B7, HA2⟩
        case measure => simp [intOf]; omega
      have hkb : kb x = -1 := by unfold kb; rw [if_neg h40, if_neg h41, if_neg h91, if_neg h93]
      have HKB : Hid (kb (l.getD j 0) = -1) := by rw [← HX.out]; exact hkb
      have d40 : (T.toList == [40]) = false := by rw [hT, one_list]; exact ne_one x 40 lt (by decide) (by omega)
      have d41 : (T.toList == [41]) = false := by rw [hT, one_list]; exact ne_one x 41 lt (by decide) (by omega)
      have d91 : (T.toList == [91]) = false := by rw [hT, one_list]; exact ne_one x 91 lt (by decide) (by omega)
      have d93 : (T.toList == [93]) = false := by rw [hT, one_list]; exact ne_one x 93 lt (by decide) (by omega)
      clear hkb hT
      go_wp2_with fail
      go_ret2
      exact .inl ⟨j, hlt, HKB.out, HA.out, rfl, HB.out⟩
    · obtain rfl : j = n := by omega
      have HO4 : Hid (wr.ownsRow w.heap.size 3 1 (.slice A j c) j (I64 (ofNB (kbs l)))) := by
        have := HO.out
        rw [List.take_of_length_le (by rw [HNL.out]; exact Nat.le_refl _)] at this
        exact this
      clear HO
      go_wp2_with fail
      go_ret2
      exact .inr ⟨A, c, HA.out, rfl, HO4.out, HB.out⟩
end Go.Proofs.YtagpdpacaoianaaGreatDoor
