/- MixedReads: any text is the document's letters, or is refused at its first other sign. -/
import Derived.Test.YtagpdpacaoianaaGreatDoorZMAwake
import Derived.Test.YtagpdpacaoianaaGreatDoorZMKinds
import Derived.Test.YtagpdpacaoianaaGreatDoorZMLike
import Derived.Laws.Strings2
namespace Go.Proofs.YtagpdpacaoianaaGreatDoor
set_option maxRecDepth 20000
open Go.RowKit
set_option linter.unusedVariables false
theorem kbs_kds (l : List Nat) : Kds (kbs l) := fun k hk => by
  unfold kbs at hk
  obtain ⟨c, _, rfl⟩ := List.mem_map.1 hk
  unfold kb
  split
  · decide
  split
  · decide
  split
  · decide
  split <;> decide
theorem kbs_len (l : List Nat) : (kbs l).length = l.length := by simp [kbs]
set_option maxHeartbeats 8000000 in
theorem mixedReads_walk (s : ByteArray) (w : World) (hT : MTabs w) (hs : s.size ≤ 9223372036854775807) :
    Calls Tryz.prog 3 #[.string s] w fun e w' => e = .returned (.bool true) ∧ Below w.heap.size w w' := by
  have AW := Lib.hid (awake4_p w hT)
  obtain ⟨n, hn⟩ : ∃ n, n = min s.size 60 := ⟨_, rfl⟩
  have hmin : ∀ W, (Builtin.min_ #[3, 3] 3 #[.int .i64 (s.size : Int), .int .i64 60]).run Tryz.prog W = .ok (.int .i64 (n : Int)) W := fun W => by
    simp [Builtin.min_, Builtin.min2]
    repeat' split
    all_goals omega
  have hnl : n ≤ s.size := by omega
  have hn60 : n ≤ 60 := by omega
  have hsl : ∀ W, (Instr.slice 9 (.string s) none (some (.int .i64 (n : Int))) none).run Tryz.prog W = .ok (.string (s.extract 0 n)) W := fun W => by
    have := run_slice_string_h (P := Tryz.prog) W 9 s Tryz.underlying9 .i64 (n : Int) (by omega) (by omega)
    simpa using this
  have htz : (s.extract 0 n).size = n := by simp; omega
  obtain ⟨T, hTT⟩ : ∃ T, T = s.extract 0 n := ⟨_, rfl⟩
  rw [← hTT] at hsl htz
  have hszI : (T.size : Int) = (n : Int) := by rw [htz]
  have HTZ := Lib.hid htz
  clear hTT hn hT htz
  go_enter Tryz.func3, Tryz.ntmps3
  go_wp2_with fail
  refine AW.out.mono ?_
  rintro e w1 ⟨rfl, b1⟩
  have PP := Lib.hid (parse_p T w1 (by rw [HTZ.out]; omega))
  have B1 := Lib.hid b1
  clear b1 AW
  go_wp2_with fail
  refine PP.out.mono ?_
  intro e w2 hp
  unfold ParsePost at hp
  have KK : Hid (∀ W, Calls Tryz.prog 11 #[.string T] W (KindsP W (bytesS T))) := fun W => kinds_p T W (by rw [HTZ.out]; omega)
  unfold KindsP at KK
  have hbl : (bytesS T).length = n := by rw [bytesS_len]; exact HTZ.out
  rw [hbl] at hp KK
  have HBL := Lib.hid hbl
  generalize bytesS T = l at *
  clear PP hbl
  rcases hp with ⟨i, hi, hk, hj, rfl, b2⟩ | ⟨g, hg, rfl, hw, b2⟩
  · have B2 : Hid (Below w.heap.size w w2) := B1.out.trans (b2.mono B1.out.size)
    have HK := Lib.hid hk
    have HJ := Lib.hid hj
    clear b2 hk hj
    go_wp2_with fail
    refine (KK.out w2).mono ?_
    rintro e w3 (⟨i', hi', hk', hj', rfl, b3⟩ | ⟨A, c, hg, _, _, _⟩)
    case inr => exact absurd (hg i hi) (by rw [HK.out]; decide)
    obtain rfl : i' = i := by
      rcases Nat.lt_trichotomy i' i with q | q | q
      · exact absurd (HJ.out i' q) (by rw [hk']; decide)
      · exact q
      · exact absurd (hj' i q) (by rw [HK.out]; decide)
    have B3 : Hid (Below w.heap.size w w3) := B2.out.trans (b3.mono B2.out.size)
    clear hk' hj' b3 KK
    go_wp2_with fail
    go_ret
    exact ⟨rfl, B3.out⟩
  · have B2 : Hid (Below w.heap.size w w2) := B1.out.trans (b2.mono B1.out.size)
    have W2 := Lib.hid hw
    have HG := Lib.hid hg
    clear b2 hw hg
    go_wp2_with fail
    refine (KK.out w2).mono ?_
    rintro e w3 (⟨i', hi', hk', _⟩ | ⟨A, c, _, rfl, own, b3⟩)
    case inl => exact absurd (HG.out i' hi') (by rw [hk']; decide)
    have B3 : Hid (Below w.heap.size w w3) := B2.out.trans (b3.mono B2.out.size)
    have LK := Lib.hid (like4_p _ g (kbs l) A n c w3 (W2.out.below b3) (by rw [← kbs_len, ← HBL.out] at *; exact Rd.ofOwn own) (by omega))
    clear own b3 KK W2
    go_wp2_with fail
    refine LK.out.mono ?_
    rintro e w4 ⟨rfl, b4⟩
    have B4 : Hid (Below w.heap.size w w4) := B3.out.trans (b4.mono B3.out.size)
    clear b4 LK
    go_wp2_with fail
    go_ret
    exact ⟨rfl, B4.out⟩
end Go.Proofs.YtagpdpacaoianaaGreatDoor
