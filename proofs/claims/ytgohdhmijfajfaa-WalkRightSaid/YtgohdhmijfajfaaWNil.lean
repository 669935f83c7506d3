/- Order of a nil map. -/
import Derived.Test.YtgohdhmijfajfaaDNil
import Derived.Test.YtgohdhmijfajfaaWTree
namespace Go.Proofs.Ytgohdhmijfajfaa
set_option maxRecDepth 20000
open Go.RowKit
set_option linter.unusedVariables false
set_option maxHeartbeats 4000000 in
theorem meet_nil (bm bo : Nat) (d : Int) (w : World) (hm : Blk w bm 24 #[.pointer none]) :
    Calls Try.prog 42 #[.int .i64 d, .pointer (some ⟨bm, 0, none⟩), .pointer (some ⟨bo, 0, none⟩)] w fun e w' => e = .returned (.tuple #[]) ∧ Below w.heap.size w w' := by
  have VP := Lib.hid (vertex_nil d w)
  have x0 := hm.cell 0
  simp at x0
  clear hm
  go_enter Try.func42, Try.ntmps42
  go_wp2_with fail
  refine VP.out.mono ?_
  rintro e w1 ⟨rfl, b1⟩
  clear VP x0
  go_wp2_with fail
  refine bodyPost_end (results_none rfl _ _ _) rfl ?_
  exact ⟨rfl, b1⟩
set_option maxHeartbeats 4000000 in
theorem order_nil1 (b0 c B : Nat) (w : World) (hs : RdS w B (some ⟨b0, 0, none⟩) 1 [0, 0]) (hB : B ≤ w.heap.size) :
    Calls Try.prog 18 #[.pointer none, .slice (some ⟨b0, 0, none⟩) 1 c] w (NewI64 w []) := by
  have hmf : ∀ (fn : Fn) (first cap : Array Value) (w : World), (Instr.makeFunc fn first cap).run Try.prog w = .ok (.func fn first cap) w := fun _ _ _ _ => rfl
  have hT : treeL [0, 0] 1 = [0] := by simp [treeL]
  have HT := Lib.hid hT
  have HS := Lib.hid (hs.up hB)
  obtain ⟨b', e', hb0, kk⟩ := hs.2 (by omega)
  cases e'
  have x0 : w.cell? ⟨b0, 0, none⟩ = some (.int .i64 0) := kk 0 (by omega)
  clear kk hs hT
  go_enter Try.func18, Try.ntmps18
  go_upto_region 3 with fail
  have HB3 : Hid (Below w.heap.size w ((w.alloc (.cells #[.pointer none] 24)).alloc (.cells #[.slice none 0 0] 25))) := ((Below.refl w.heap.size w).alloc (Nat.le_refl _) _).alloc (by simp) _
  have HBM : Hid (Blk ((w.alloc (.cells #[.pointer none] 24)).alloc (.cells #[.slice none 0 0] 25)) w.heap.size 24 #[.pointer none]) := (Blk.new w _ _).alloc _
  have HBO : Hid (Blk ((w.alloc (.cells #[.pointer none] 24)).alloc (.cells #[.slice none 0 0] 25)) (w.heap.size + 1) 25 #[.slice none 0 0]) := by
    have := Blk.new (w.alloc (.cells #[.pointer none] 24)) 25 #[.slice none 0 0]
    rw [show (w.alloc (.cells #[.pointer none] 24)).heap.size = w.heap.size + 1 by simp] at this
    exact this
  generalize hw3 : (w.alloc (.cells #[.pointer none] 24)).alloc (.cells #[.slice none 0 0] 25) = w3 at *
  clear hw3
  have x3 := (HB3.out.cell (p := ⟨b0, 0, none⟩) (show b0 < w.heap.size by omega)).trans x0
  have M1 := Lib.hid (meet_nil w.heap.size (w.heap.size + 1) 0 w3 HBM.out)
  clear x0
  go_wp2_with fail
  refine M1.out.mono ?_
  rintro e w4 ⟨rfl, z⟩
  have HO1 := Lib.hid (HBO.out.below z)
  have HM1 := Lib.hid (HBM.out.below z)
  have HB1 := Lib.hid (HB3.out.trans (z.mono HB3.out.size))
  have TP := Lib.hid (tree_p (some ⟨b0, 0, none⟩) 1 c _ [0, 0] w4 (HS.out.below HB1.out) HB1.out.size (by omega))
  rw [HT.out] at TP
  clear z x3 M1 HBO HBM HB3
  go_wp2_with fail
  refine TP.out.mono ?_
  rintro e w5 ⟨AT, cT, rfl, hcT, hmT, ownT, z⟩
  have el : ([0] : List Int).length = 1 := rfl
  rw [el] at hcT ownT
  rw [el]
  have RT := Lib.hid (Rd.ofOwn ownT)
  have HO5 := Lib.hid (HO1.out.below z)
  have HM5 := Lib.hid (HM1.out.below z)
  have HB5 := Lib.hid (HB1.out.trans (z.mono HB1.out.size))
  clear z ownT TP HO1 HM1 HB1 hcT hmT el
  go_wp2_with fail
  go_loopw [22] (fun i wr => ∃ (k : Nat), k ≤ 1 ∧ i = .int .i64 (k : Int) ∧ Hid (Below w5.heap.size w5 wr)) (fun i _ => 1 - (intOf i).toNat)
  case atStart => exact ⟨0, by omega, rfl, Below.refl _ _⟩
  case round =>
    obtain ⟨k, hk, rfl, HB⟩ := hrel
    by_cases hlt : k = 0
    · subst hlt
      obtain ⟨tb, o, rfl, htb, kk⟩ := (RT.out.below HB.out).i64 (by omega)
      have t0 := kk 0 (by omega)
      rw [show ([0] : List Int).getD 0 0 = 0 from rfl, Nat.add_zero] at t0
      have MT := Lib.hid (mate_nil 0 wr)
      have HMr := Lib.hid (HM5.out.below HB.out)
      have x1 := HMr.out.cell 0
      simp at x1
      clear kk
      go_wp2_with fail
      refine MT.out.mono ?_
      rintro e w6 ⟨rfl, b6⟩
      have ME := Lib.hid (meet_nil w.heap.size (w.heap.size + 1) (-1) w6 (HMr.out.below b6))
      have HB6 := Lib.hid (HB.out.trans (b6.mono HB.out.size))
      clear b6 MT t0 x1 HMr HB
      go_wp2_with fail
      refine ME.out.mono ?_
      rintro e w7 ⟨rfl, b7⟩
      have HB7 := Lib.hid (HB6.out.trans (b7.mono HB6.out.size))
      clear b7 ME HB6
      go_wp2_with fail
      go_roundw
      case rel => exact ⟨1, by omega, by go_num, HB7.out⟩
      case measure => simp [intOf]
    · obtain rfl : k = 1 := by omega
      have x1 := (HO5.out.below HB.out).cell 0
      simp at x1
      have HBE := Lib.hid (HB5.out.trans (HB.out.mono HB5.out.size))
      clear HB
      go_wp2_with fail
      go_ret
      exact .mk rfl (World.ownsRow_nil _ _ _ _) HBE.out
theorem word_none (A : Option Addr) (n c B : Nat) (L : List Int) (w : World) (h : RdS w B A n L) (hB : B ≤ w.heap.size) (hn : n ≤ 300000) (hk : kindsN L n = []) :
    Calls Try.prog 14 #[.slice A n c] w fun e w' => ∃ g, e = .returned (.pointer (some ⟨g, 0, none⟩)) ∧ Hid (∀ W, Below w'.heap.size w' W → Calls Try.prog 27 #[.pointer (some ⟨g, 0, none⟩)] W fun e W' => e = .returned (.int .i64 0) ∧ W = W') ∧ Below w.heap.size w w' :=
  (wword_p A n c B L w h hB hn).mono fun e w' ⟨g, h1, h2, h3⟩ => ⟨g, h1, fun W z => by
    rw [hk] at h2
    exact mlen_p _ _ _ W (h2.below z), h3⟩
end Go.Proofs.Ytgohdhmijfajfaa
