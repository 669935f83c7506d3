/- Parse: the word of a text. -/
import Derived.Test.YtagpdpacaoianaaGreatDoorZg6
import Derived.Lib.Bytealg
import Derived.Lib.Strings
import Derived.OwnWalk
namespace Go.Proofs.YtagpdpacaoianaaGreatDoor
set_option maxRecDepth 20000
open Go.RowKit
set_option linter.unusedVariables false
/-- The kind that a byte is the sign of; -1: none. -/
def kb (c : Nat) : Int := if c = 40 then 0 else if c = 41 then 1 else if c = 91 then 2 else if c = 93 then 3 else -1
theorem kb_index : ∀ c : Nat, c < 256 → Lib.indexByte [40, 41, 91, 93] ((c : Int).toNat.toUInt8) = kb c := by
  have h : ∀ c : Fin 256, Lib.indexByte [40, 41, 91, 93] (((c.val : Nat) : Int).toNat.toUInt8) = kb c.val := by decide +kernel
  exact fun c hc => h ⟨c, hc⟩
theorem kb_kd (c : Nat) : Kd (kb c) ↔ 0 ≤ kb c := by
  unfold Kd kb
  split
  · simp
  split
  · simp
  split
  · simp
  split <;> simp
set_option maxHeartbeats 1000000 in
theorem sIdx1_p (c : Nat) (w : World) (hc : c < 256) : Calls Tryz.prog 74 #[.string { data := #[40, 41, 91, 93] }, .int .u8 (c : Int)] w fun e w' => e = .returned (.int .i64 (kb c)) ∧ w = w' := by
  have HK := Lib.hid (kb_index c hc)
  go_enter Tryz.func74, Tryz.ntmps74
  go_wp2
  rw [run_callFunc_extern Tryz.func92 (by kernel_rfl) (by kernel_rfl) (by kernel_rfl) (e := Extern.BytealgIndexByte.indexByte) (by kernel_rfl), Lib.run_indexByteString]
  simp only [Result.andThen]
  rw [Oper.upon_value]
  go_wp2
  go_ret
  exact ⟨by rw [← HK.out]; rfl, rfl⟩
theorem sIdx_p (c : Nat) (w : World) (hc : c < 256) : Calls Tryz.prog 39 #[.string { data := #[40, 41, 91, 93] }, .int .u8 (c : Int)] w fun e w' => e = .returned (.int .i64 (kb c)) ∧ w = w' := by
  have SI := Lib.hid (fun W => sIdx1_p c W hc)
  go_enter Tryz.func39, Tryz.ntmps39
  go_wp2_with fail
  refine (SI.out _).mono ?_
  rintro e w' ⟨rfl, rfl⟩
  go_wp2_with fail
  go_ret
  exact ⟨rfl, rfl⟩
/-- The bytes of a text. -/
def bytesS (s : ByteArray) : List Nat := s.data.toList.map UInt8.toNat
theorem bytesS_len (s : ByteArray) : (bytesS s).length = s.size := by
  unfold bytesS
  rw [List.length_map]; rfl
theorem bytesS_lt (s : ByteArray) (i : Nat) : (bytesS s).getD i 0 < 256 := by
  by_cases hi : i < s.size
  · have : i < s.data.size := hi
    simp only [bytesS, List.getD_eq_getElem?_getD, List.getElem?_map]
    rw [Array.getElem?_toList, Array.getElem?_eq_getElem this]
    exact UInt8.toNat_lt _
  · rw [List.getD_eq_getElem?_getD, List.getElem?_eq_none (by rw [bytesS_len]; omega)]; decide
theorem bytesS_index (s : ByteArray) (i : Nat) (hi : i < s.size) (W : World) : (Instr.index 9 (.string s) (.int .i64 (i : Int))).run Tryz.prog W = .ok (.int .u8 (((bytesS s).getD i 0 : Nat) : Int)) W := by
  rw [run_index_string W 9 s .i64 (i : Int) (by kernel_rfl), dif_pos ⟨by omega, by omega⟩]
  have : i < s.data.size := hi
  simp only [bytesS, List.getD_eq_getElem?_getD, List.getElem?_map]
  rw [Array.getElem?_toList, Array.getElem?_eq_getElem this]
  rfl
/-- The letters of bytes. -/
def kbs (l : List Nat) : List Nat := l.map fun c => (kb c).toNat
def ParsePost (w : World) (l : List Nat) (e : Ending) (w' : World) : Prop :=
  (∃ i, i < l.length ∧ kb (l.getD i 0) = -1 ∧ (∀ j, j < i → 0 ≤ kb (l.getD j 0)) ∧ e = .returned (.tuple #[.pointer none, .int .i64 (i : Int), .int .i64 13]) ∧ Below w.heap.size w w') ∨
    (∃ g, (∀ j, j < l.length → 0 ≤ kb (l.getD j 0)) ∧ e = .returned (.tuple #[.pointer (some ⟨g, 0, none⟩), .int .i64 (l.length : Int), .int .i64 0]) ∧ WordAt w' w.heap.size g (kbs l) ∧ Below w.heap.size w w')
theorem kb_no (c : Nat) (h : ¬ 0 ≤ kb c) : kb c = -1 := by
  unfold kb at h ⊢
  split at h
  · simp at h
  split at h
  · simp at h
  split at h
  · simp at h
  split at h
  · simp at h
  rw [if_neg ‹_›, if_neg ‹_›, if_neg ‹_›, if_neg ‹_›]
set_option maxHeartbeats 4000000 in
theorem parse_p (s : ByteArray) (w : World) (hn : s.size ≤ 400000) : Calls Tryz.prog 10 #[.string s] w (ParsePost w (bytesS s)) := by
  have MN := Lib.hid (mnew_p w)
  have SX := Lib.hid (fun i (hi : i < s.size) W => bytesS_index s i hi W)
  have LT := Lib.hid (bytesS_lt s)
  have SI := Lib.hid sIdx_p
  have IK := Lib.hid isKind_p
  have PP := Lib.hid mput_p
  obtain ⟨l, hl⟩ : ∃ l, l = bytesS s := ⟨_, rfl⟩
  have hsz : s.size = l.length := by rw [hl, bytesS_len]
  rw [← hl] at SX LT ⊢
  obtain ⟨n, hnn⟩ : ∃ n, n = s.size := ⟨_, rfl⟩
  have HNL : Hid (n = l.length) := hnn.trans hsz
  have hns : (s.size : Int) = (n : Int) := by rw [hnn]
  have hn2 : n ≤ 400000 := by omega
  rw [← hnn] at SX
  have hln : l.length = n := by rw [← hsz, hnn]
  clear hl hsz hnn hn
  unfold ParsePost
  rw [hln]
  clear hln
  go_enter Tryz.func10, Tryz.ntmps10
  go_wp2_with fail
  refine MN.out.mono ?_
  rintro e w1 ⟨g, rfl, hw1, b1⟩
  have W1 : Hid (WordAt w1 w.heap.size g (kbs (l.take 0))) := hw1
  have B1 := Lib.hid b1
  clear hw1 b1 MN
  go_wp2_with fail
  go_loopw [11] (fun i wr => ∃ j : Nat, j ≤ n ∧ i = .int .i64 (j : Int) ∧ Hid (WordAt wr w.heap.size g (kbs (l.take j))) ∧ Hid (Below w.heap.size w wr) ∧ Hid (∀ t, t < j → 0 ≤ kb (l.getD t 0))) (fun i _ => n - (intOf i).toNat)
  case atStart => exact ⟨0, by omega, rfl, W1, B1, fun t ht => by omega⟩
  case round =>
    clear W1 B1
    obtain ⟨j, hj, rfl, HW, HB, HA⟩ := hrel
    by_cases hlt : j < n
    · have sx := SX.out j hlt
      have lt := LT.out j
      have NX : Hid (kbs (l.take (j + 1)) = kbs (l.take j) ++ [(kb (l.getD j 0)).toNat]) := by
        show _ = _
        have hlj : j < l.length := by rw [← HNL.out]; exact hlt
        unfold kbs
        rw [← List.take_append_getElem hlj, List.map_append, List.getD_eq_getElem?_getD, List.getElem?_eq_getElem hlj]; rfl
      obtain ⟨c, hc⟩ : ∃ c, c = l.getD j 0 := ⟨_, rfl⟩
      rw [← hc] at sx lt NX
      have HC := Lib.hid hc
      have S1 := Lib.hid (fun W => SI.out c W lt)
      have K1 := Lib.hid (fun W => IK.out (kb c) W)
      clear hc lt
      by_cases hk : 0 ≤ kb c
      · obtain ⟨k, hkk⟩ : ∃ k : Nat, kb c = (k : Int) := ⟨(kb c).toNat, by omega⟩
        have hkd := (kb_kd c).2 hk
        have hk4 : k < 4 := by have := hkd.2; omega
        rw [decide_eq_true hkd] at K1
        have HA2 : Hid (∀ t, t < j + 1 → 0 ≤ kb (l.getD t 0)) := fun t ht => by
          by_cases e : t = j
          · rw [e, ← HC.out]; exact hk
          · exact HA.out t (by omega)
        rw [hkk] at S1 K1 NX
        rw [Int.toNat_natCast] at NX
        have hll : (kbs (l.take j)).length ≤ 400000 := by simp [kbs]; omega
        have P1 := Lib.hid (PP.out w.heap.size g (kbs (l.take j)) k wr HW.out hk4 hll)
        clear hk hkk hkd hll HA HW
        go_wp2_with fail
        refine (S1.out _).mono ?_
        rintro e w2 ⟨rfl, rfl⟩
        go_wp2_with fail
        refine (K1.out _).mono ?_
        rintro e w2 ⟨rfl, rfl⟩
        go_wp2_with fail
        refine P1.out.mono ?_
        rintro e w2 ⟨rfl, hw2, b2⟩
        have HW2 : Hid (WordAt w2 w.heap.size g (kbs (l.take (j + 1)))) := by rw [NX.out]; exact hw2
        have HB2 := Lib.hid (HB.out.trans b2)
        clear hw2 b2 P1 HB NX S1 K1
        go_wp2_with fail
        go_roundw
        case rel => exact ⟨j + 1, by omega, by go_num, HW2, HB2, HA2⟩
        case measure => simp [intOf]; omega
      · have hkd : ¬ Kd (kb c) := fun h => hk ((kb_kd c).1 h)
        rw [decide_eq_false hkd] at K1
        have HN : Hid (kb (l.getD j 0) = -1) := by rw [← HC.out]; exact kb_no c hk
        clear hk hkd
        generalize kb c = z at *
        go_wp2_with fail
        refine (S1.out _).mono ?_
        rintro e w2 ⟨rfl, rfl⟩
        go_wp2_with fail
        refine (K1.out _).mono ?_
        rintro e w2 ⟨rfl, rfl⟩
        go_wp2_with fail
        go_ret3
        exact .inl ⟨j, hlt, HN.out, HA.out, rfl, HB.out⟩
    · obtain rfl : j = n := by omega
      have HWE : Hid (WordAt wr w.heap.size g (kbs l)) := by
        have := HW.out
        rw [List.take_of_length_le (by rw [← HNL.out]; exact Nat.le_refl _)] at this
        exact this
      clear HW
      go_wp2_with fail
      go_ret3
      exact .inr ⟨g, HA.out, rfl, HWE.out, HB.out⟩
/-- Parse of the document's example. -/
theorem parse_ex (w : World) : Calls Tryz.prog 10 #[.string { data := #[40, 91, 41, 93] }] w fun e w' => ∃ g, e = .returned (.tuple #[.pointer (some ⟨g, 0, none⟩), .int .i64 4, .int .i64 0]) ∧ WordAt w' w.heap.size g [0, 2, 1, 3] ∧ Below w.heap.size w w' := by
  refine (parse_p { data := #[40, 91, 41, 93] } w (by decide)).mono ?_
  have e1 : bytesS { data := #[40, 91, 41, 93] } = [40, 91, 41, 93] := rfl
  rw [e1]
  rintro e w' (⟨i, hi, hk, _⟩ | ⟨g, _, he, hw, hb⟩)
  · exfalso
    have : ∀ i : Fin 4, ¬ kb ([40, 91, 41, 93].getD i.val 0) = -1 := by decide
    exact this ⟨i, hi⟩ hk
  · exact ⟨g, he, hw, hb⟩
end Go.Proofs.YtagpdpacaoianaaGreatDoor
