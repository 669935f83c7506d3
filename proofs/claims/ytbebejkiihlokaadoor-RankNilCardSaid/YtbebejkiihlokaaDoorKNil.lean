/- RankNil: of nothing. -/
import Derived.Test.YtbebejkiihlokaaDoorKAwake
import Derived.Test.YtbebejkiihlokaaDoorKLaid
namespace Go.Proofs.YtbebejkiihlokaaDoor
open Go.RowKit
set_option linter.unusedVariables false
theorem nlen_p (w : World) : Calls Tryd.prog 10 #[.pointer none] w fun e w' => e = .returned (.int .i64 0) ∧ w = w' := by
  go_enter Tryd.func10, Tryd.ntmps10
  go_wp2_with fail
  go_ret
  exact ⟨rfl, rfl⟩
theorem nones_p (w : World) : Calls Tryd.prog 11 #[.pointer none] w fun e w' => e = .returned (.int .i64 0) ∧ w = w' := by
  go_enter Tryd.func11, Tryd.ntmps11
  go_wp2_with fail
  go_ret
  exact ⟨rfl, rfl⟩
theorem nsize_p (w : World) : Calls Tryd.prog 20 #[.pointer none] w fun e w' => e = .returned (.int .i64 0) ∧ w = w' := by
  go_enter Tryd.func20, Tryd.ntmps20
  go_wp2_with fail
  go_ret
  exact ⟨rfl, rfl⟩
theorem nbuilt_p (w : World) : Calls Tryd.prog 19 #[.pointer none] w fun e w' => e = .returned (.int .i64 0) ∧ w = w' := by
  go_enter Tryd.func19, Tryd.ntmps19
  go_wp2_with fail
  go_ret
  exact ⟨rfl, rfl⟩
theorem nasked_p (w : World) : Calls Tryd.prog 16 #[.pointer none] w fun e w' => e = .returned (.int .i64 0) ∧ w = w' := by
  go_enter Tryd.func16, Tryd.ntmps16
  go_wp2_with fail
  go_ret
  exact ⟨rfl, rfl⟩
theorem nat_p (i : Int) (w : World) : Calls Tryd.prog 14 #[.pointer none, .int .i64 i] w fun e w' => e = .returned (.int .i64 (-1)) ∧ w = w' := by
  have NL := Lib.hid (nlen_p w)
  by_cases h0 : i < 0
  · go_enter Tryd.func14, Tryd.ntmps14
    go_wp2_with fail
    go_ret
    exact ⟨rfl, rfl⟩
  · have h1 : 0 ≤ i := by omega
    go_enter Tryd.func14, Tryd.ntmps14
    go_wp2_with fail
    refine NL.out.mono ?_
    rintro e w' ⟨rfl, rfl⟩
    go_wp2_with fail
    go_ret
    exact ⟨rfl, rfl⟩
set_option maxRecDepth 20000 in
set_option maxHeartbeats 4000000 in
theorem rankNil_walk (bit i : Int) (w : World) (hT : Tab w) :
    Calls Tryd.prog 6 #[.int .i64 bit, .int .i64 i] w fun e w' => e = .returned (.bool true) ∧ Below w.heap.size w w' := by
  have hl := hT.lt
  have AW := Lib.hid (kawake_p w hT hl)
  clear hT
  go_enter Tryd.func6, Tryd.ntmps6
  go_wp2_with fail
  refine AW.out.mono ?_
  rintro e w1 ⟨rfl, b1⟩
  have NN := Lib.hid (new_nil w1)
  have B1 := Lib.hid b1
  have hs1 := b1.size
  clear b1 AW
  go_wp2_with fail
  refine NN.out.mono ?_
  rintro e w2 ⟨g, rfl, hx, hg, b2⟩
  have RK := Lib.hid (rank_yes g 0 0 0 0 false 1 w2 hx (by omega) (.inr rfl) (by omega))
  have hc : cb 1 0 0 = 0 := by decide
  rw [hc] at RK
  have B2 := Lib.hid (B1.out.trans (b2.mono hs1))
  have HG : Hid (w.heap.size ≤ g) := Nat.le_trans hs1 hg
  clear hx hg b2 NN hc B1 hs1
  go_wp2_with fail
  refine RK.out.mono ?_
  rintro e w3 ⟨rfl, h3, m3⟩
  have B3 := Lib.hid (B2.out.trans (m3.belowB B2.out.size fun i hi hx => by have := HG.out; omega))
  have SL := Lib.hid (sel_no g 0 0 1 true 0 0 w3 h3 (by omega) (.inr (.inr (by decide))))
  clear h3 m3 B2 RK
  go_wp2_with fail
  refine SL.out.mono ?_
  rintro e w4 ⟨rfl, h4, m4⟩
  have B4 := Lib.hid (B3.out.trans (m4.belowB B3.out.size fun i hi hx => by have := HG.out; omega))
  have RN := Lib.hid (fun w' => rank_nil bit i w')
  have SN := Lib.hid (fun w' => sel_nil bit i w')
  have H4 := Lib.hid h4
  clear h4 m4 B3 SL
  go_wp2_with fail
  refine (RN.out _).mono ?_
  rintro e w' ⟨rfl, rfl⟩
  go_wp2_with fail
  refine (SN.out _).mono ?_
  rintro e w5 ⟨rfl, b5⟩
  have XL := Lib.hid (xlen_p g 0 0 2 true w5 (H4.out.below b5))
  have B5 := Lib.hid (B4.out.trans (b5.mono B4.out.size))
  clear b5 B4 RN SN
  have L1 := Lib.hid (fun w' => nlen_p w')
  have L2 := Lib.hid (fun w' => nones_p w')
  have L3 := Lib.hid (fun w' => nsize_p w')
  have L4 := Lib.hid (fun w' => nbuilt_p w')
  have L5 := Lib.hid (fun w' => nasked_p w')
  have L6 := Lib.hid (fun w' => nat_p i w')
  go_wp2_with (first
    | (go_at_call 10; refine XL.out.mono ?_; rintro e w' ⟨rfl, rfl⟩)
    | (go_at_call 10; refine (L1.out _).mono ?_; rintro e w' ⟨rfl, rfl⟩)
    | (go_at_call 11; refine (L2.out _).mono ?_; rintro e w' ⟨rfl, rfl⟩)
    | (go_at_call 20; refine (L3.out _).mono ?_; rintro e w' ⟨rfl, rfl⟩)
    | (go_at_call 19; refine (L4.out _).mono ?_; rintro e w' ⟨rfl, rfl⟩)
    | (go_at_call 16; refine (L5.out _).mono ?_; rintro e w' ⟨rfl, rfl⟩)
    | (go_at_call 14; refine (L6.out _).mono ?_; rintro e w' ⟨rfl, rfl⟩))
  go_ret
  exact ⟨rfl, B5.out⟩
end Go.Proofs.YtbebejkiihlokaaDoor
