/- from, look, next: a map that is walked. -/
import Derived.Test.YtgohdhmijfajfaaWMath
import Derived.Test.YtgohdhmijfajfaaENam
import Derived.Deep.RegionHeld3
import Derived.Deep.RegionWith
import Derived.Deep.DeepCutAuto
namespace Go.Proofs.Ytgohdhmijfajfaa
set_option maxRecDepth 20000
open Go.RowKit
set_option linter.unusedVariables false
theorem info_walker : (Try.prog.info? 67).map (·.size) = some 3 := by kernel_rfl
theorem info_step2 : (Try.prog.info? 40).map (·.size) = some 2 := by kernel_rfl
/-- The kinds and the met ones of a walker. -/
structure WMem (B gk ck gm cm m V : Nat) (K : List Int) (M : List Bool) (W : World) : Prop where
  ok : W.ownsRow B 3 1 (.slice (some ⟨gk, 0, none⟩) m ck) m (I64 K)
  om : W.ownsRow B 4 1 (.slice (some ⟨gm, 0, none⟩) V cm) V (Bl M)
theorem WMem.below {B gk ck gm cm m V : Nat} {K : List Int} {M : List Bool} {W W' : World} (h : WMem B gk ck gm cm m V K M W) (z : Below W.heap.size W W') : WMem B gk ck gm cm m V K M W' := ⟨own_below h.ok z, own_below h.om z⟩
theorem WMem.ne {B gk ck gm cm m V : Nat} {K : List Int} {M : List Bool} {W : World} (h : WMem B gk ck gm cm m V K M W) : gk ≠ gm := fun e => by
  subst e
  exact own_own_ne h.ok h.om (by decide) gk rfl rfl
theorem WMem.setK {B gk ck gm cm m V : Nat} {K : List Int} {M : List Bool} {W : World} (h : WMem B gk ck gm cm m V K M W) (i : Nat) (v : Int) : WMem B gk ck gm cm m V (K.set i v) M (W.setCell ⟨gk, i, none⟩ (.int .i64 v)) :=
  ⟨own_setI h.ok i v, own_mod h.om (Mod.setCell (p := ⟨gk, i, none⟩) (Mod.refl (fun x => x = gk) W) (fun _ => rfl) (.int .i64 v)) (fun x hx e => by
    have := h.ne
    simp [Value.ownBlock] at hx
    omega)⟩
theorem WMem.setM {B gk ck gm cm m V : Nat} {K : List Int} {M : List Bool} {W : World} (h : WMem B gk ck gm cm m V K M W) (i : Nat) (v : Bool) : WMem B gk ck gm cm m V K (M.set i v) (W.setCell ⟨gm, i, none⟩ (.bool v)) :=
  ⟨own_mod h.ok (Mod.setCell (p := ⟨gm, i, none⟩) (Mod.refl (fun x => x = gm) W) (fun _ => rfl) (.bool v)) (fun x hx e => by
    have := h.ne
    simp [Value.ownBlock] at hx
    omega), own_setB h.om i v⟩
abbrev wval (g gk ck gm cm m V : Nat) : Value := .agg #[.pointer (some ⟨g, 0, none⟩), .slice (some ⟨gk, 0, none⟩) m ck, .slice (some ⟨gm, 0, none⟩) V cm]
set_option maxHeartbeats 4000000 in
theorem wnext_p (B g : Nat) (l b : List Nat) (root lone : Int) (w : World) (gk ck gm cm m V d k : Nat) (W : World) (HM : Hid (∀ W', Below B w W' → MapAt W' g l b root lone)) (hbe : Below B w W) (hB : B ≤ w.heap.size) (hd : d < l.length) (hk : k < 4) :
    Calls Try.prog 33 #[wval g gk ck gm cm m V, .agg #[.int .i64 (d : Int), .int .i64 (k : Int)]] W fun e w' => e = .returned (.int .i64 ((wNx (sgL l) d k : Nat) : Int)) ∧ Below W.heap.size W w' := by
  have hev : l.length % 2 = 0 := (HM.out _ hbe).1.1
  obtain ⟨md, hmd⟩ : ∃ md, md = mt d := ⟨_, rfl⟩
  have hml : md < l.length := by rw [hmd]; exact mt_lt (m := l.length / 2) (by omega) hd
  obtain ⟨S, hS⟩ : ∃ S, S = wNx (sgL l) d k := ⟨_, rfl⟩
  rw [← hS]
  have hS1 : k < 2 → S = sgL l md := fun h => by rw [hS, hmd]; unfold wNx; rw [if_pos h]
  have hS2 : ¬ k < 2 → S = sgL l d := fun h => by rw [hS]; unfold wNx; rw [if_neg h]
  obtain ⟨q, hq⟩ : ∃ q : Int, q = (k : Int) := ⟨_, rfl⟩
  rw [← hq]
  have hq4 : q = 0 ∨ q = 1 ∨ q = 2 ∨ q = 3 := by omega
  have low : (q = 0 ∨ q = 1) → S = sgL l md := fun h => hS1 (by omega)
  have high : (q = 2 ∨ q = 3) → S = sgL l d := fun h => hS2 (by omega)
  have HLO := Lib.hid low
  have HHI := Lib.hid high
  have HQ4 := Lib.hid hq4
  clear low high hS1 hS2 hS hk hq4 hq
  have Z0 := Below.refl W.heap.size W
  have Z1 := Z0.alloc (Nat.le_refl _) (.cells #[.pointer (some ⟨g, 0, none⟩), .slice (some ⟨gk, 0, none⟩) m ck, .slice (some ⟨gm, 0, none⟩) V cm] 67)
  have Z2 := Lib.hid (Z1.alloc Z1.size (.cells #[.int .i64 (d : Int), .int .i64 q] 40))
  have hbs : B ≤ W.heap.size := Nat.le_trans hB hbe.size
  have MP : Hid (∀ W', Below W.heap.size W W' → Calls Try.prog 23 #[.pointer (some ⟨g, 0, none⟩), .int .i64 (d : Int)] W' fun e w' => e = .returned (.int .i64 (md : Int)) ∧ Below W'.heap.size W' w') := fun W' z => by
    have := mate_in g l b root lone d W' (HM.out _ (hbe.trans (z.mono hbs))) hd
    rw [mt_mateN] at this
    rw [hmd]
    exact this
  have SP : Hid (∀ x, x < l.length → ∀ W', Below W.heap.size W W' → Calls Try.prog 62 #[.pointer (some ⟨g, 0, none⟩), .int .i64 (x : Int)] W' fun e w' => e = .returned (.int .i64 ((sgL l x : Nat) : Int)) ∧ Below W'.heap.size W' w') := fun x hx W' z => sigma_in g l b root lone x W' (HM.out _ (hbe.trans (z.mono hbs))) hx
  have BW := Lib.hid ((Blk.new W 67 #[.pointer (some ⟨g, 0, none⟩), .slice (some ⟨gk, 0, none⟩) m ck, .slice (some ⟨gm, 0, none⟩) V cm]).alloc (.cells #[.int .i64 (d : Int), .int .i64 q] 40))
  have BS := Blk.new (W.alloc (.cells #[.pointer (some ⟨g, 0, none⟩), .slice (some ⟨gk, 0, none⟩) m ck, .slice (some ⟨gm, 0, none⟩) V cm] 67)) 40 #[.int .i64 (d : Int), .int .i64 q]
  rw [show (W.alloc (.cells #[.pointer (some ⟨g, 0, none⟩), .slice (some ⟨gk, 0, none⟩) m ck, .slice (some ⟨gm, 0, none⟩) V cm] 67)).heap.size = W.heap.size + 1 by simp] at BS
  have HBS := Lib.hid BS
  clear BS Z0 Z1 HM hbe
  go_enter Try.func33, Try.ntmps33
  go_upto_region 1 with fail
  generalize (W.alloc (.cells #[.pointer (some ⟨g, 0, none⟩), .slice (some ⟨gk, 0, none⟩) m ck, .slice (some ⟨gm, 0, none⟩) V cm] 67)).alloc (.cells #[.int .i64 (d : Int), .int .i64 q] 40) = w2 at *
  have b0 := BW.out.cell 0
  have s0 := HBS.out.cell 0
  have s1 := HBS.out.cell 1
  simp at b0 s0 s1
  have SK : Hid (∀ W', Below w2.heap.size w2 W' → Below W.heap.size W W' ∧ W'.cell? ⟨W.heap.size, 0, none⟩ = some (.pointer (some ⟨g, 0, none⟩)) ∧ W'.cell? ⟨W.heap.size + 1, 0, none⟩ = some (.int .i64 (d : Int))) := fun W' z =>
    ⟨Z2.out.trans (z.mono Z2.out.size), by have := (BW.out.below z).cell 0; simpa using this, by have := (HBS.out.below z).cell 0; simpa using this⟩
  have MP2 : Hid (∀ W', Below w2.heap.size w2 W' → Calls Try.prog 23 #[.pointer (some ⟨g, 0, none⟩), .int .i64 (d : Int)] W' fun e w' => e = .returned (.int .i64 (md : Int)) ∧ Below w2.heap.size w2 w') := fun W' z =>
    (MP.out W' (SK.out W' z).1).mono fun e w' ⟨h1, h2⟩ => ⟨h1, z.trans (h2.mono z.size)⟩
  have SP2 : Hid (∀ x, x < l.length → ∀ W', Below w2.heap.size w2 W' → Calls Try.prog 62 #[.pointer (some ⟨g, 0, none⟩), .int .i64 (x : Int)] W' fun e w' => e = .returned (.int .i64 ((sgL l x : Nat) : Int)) ∧ Below w2.heap.size w2 w') := fun x hx W' z =>
    (SP.out x hx W' (SK.out W' z).1).mono fun e w' ⟨h1, h2⟩ => ⟨h1, z.trans (h2.mono z.size)⟩
  clear hmd
  have hq4 := HQ4.out
  clear HQ4
  rcases hq4 with rfl | rfl | rfl | rfl
  · have hSS := HLO.out (by omega)
    have SMD := Lib.hid (SP2.out md hml)
    rw [← hSS] at SMD
    clear hSS HLO HHI hml
    go_wp2_with fail
    have hba0 := Below.refl w2.heap.size w2
    have hba1 := hba0.drew
    obtain ⟨_, x0, x1⟩ := SK.out _ hba0
    obtain ⟨_, xx0, xx1⟩ := SK.out _ hba1
    go_region_held3 (fun W' => Below w2.heap.size w2 W' ∧ W'.cell? ⟨W.heap.size, 0, none⟩ = some (.pointer (some ⟨g, 0, none⟩)) ∧ W'.cell? ⟨W.heap.size + 1, 0, none⟩ = some (.int .i64 (d : Int)))
      (exact ⟨by assumption, (SK.out _ (by assumption)).2⟩)
      (first
      | (go_at_call 23; (with_reducible refine (MP2.out _ (by assumption)).mono ?_); rintro e wa ⟨rfl, hba⟩)
      | (go_at_call 62; (with_reducible refine (SMD.out _ (by assumption)).mono ?_); rintro e wa ⟨rfl, hba⟩))
    all_goals (
      go_wp2_with fail
      go_ret
      exact ⟨rfl, (SK.out _ (by assumption)).1⟩)
  · have hSS := HLO.out (by omega)
    have SMD := Lib.hid (SP2.out md hml)
    rw [← hSS] at SMD
    clear hSS HLO HHI hml
    go_wp2_with fail
    have hba0 := Below.refl w2.heap.size w2
    have hba1 := hba0.drew
    obtain ⟨_, x0, x1⟩ := SK.out _ hba0
    obtain ⟨_, xx0, xx1⟩ := SK.out _ hba1
    go_region_held3 (fun W' => Below w2.heap.size w2 W' ∧ W'.cell? ⟨W.heap.size, 0, none⟩ = some (.pointer (some ⟨g, 0, none⟩)) ∧ W'.cell? ⟨W.heap.size + 1, 0, none⟩ = some (.int .i64 (d : Int)))
      (exact ⟨by assumption, (SK.out _ (by assumption)).2⟩)
      (first
      | (go_at_call 23; (with_reducible refine (MP2.out _ (by assumption)).mono ?_); rintro e wa ⟨rfl, hba⟩)
      | (go_at_call 62; (with_reducible refine (SMD.out _ (by assumption)).mono ?_); rintro e wa ⟨rfl, hba⟩))
    all_goals (
      go_wp2_with fail
      go_ret
      exact ⟨rfl, (SK.out _ (by assumption)).1⟩)
  · have hSS := HHI.out (by omega)
    have SMD := Lib.hid (SP2.out d hd)
    rw [← hSS] at SMD
    clear hSS HLO HHI hml
    have hba0 := Below.refl w2.heap.size w2
    go_wp2_with fail
    refine (SMD.out _ hba0).mono ?_
    rintro e wa ⟨rfl, hba⟩
    go_wp2_with fail
    go_ret
    exact ⟨rfl, (SK.out _ (by assumption)).1⟩
  · have hSS := HHI.out (by omega)
    have SMD := Lib.hid (SP2.out d hd)
    rw [← hSS] at SMD
    clear hSS HLO HHI hml
    have hba0 := Below.refl w2.heap.size w2
    go_wp2_with fail
    refine (SMD.out _ hba0).mono ?_
    rintro e wa ⟨rfl, hba⟩
    go_wp2_with fail
    go_ret
    exact ⟨rfl, (SK.out _ (by assumption)).1⟩
end Go.Proofs.Ytgohdhmijfajfaa
