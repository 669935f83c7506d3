/- The deeds of the program's script: functions that answer functions. What an act does, by its kind: the program's. -/
import Derived.Test.YtgcbdoljapnecaaGreatZDFld
import Derived.Deep.RegionHeld3
namespace Go.Proofs.YtgcbdoljapnecaaGreat
set_option maxRecDepth 100000
open Go.RowKit
set_option linter.unusedVariables false
set_option linter.unusedSimpArgs false
/-- A call that answers a map and an error. -/
def TwoR (R : Option Addr → Int → World → Prop) (en : Ending) (w' : World) : Prop := ∃ p x, en = .returned (.tuple #[.pointer p, .int .i64 x]) ∧ R p x w'
theorem TwoR.mk {R : Option Addr → Int → World → Prop} {en : Ending} {w' : World} (h : ∃ p x, en = .returned (.tuple #[.pointer p, .int .i64 x]) ∧ R p x w') : TwoR R en w' := h
def edgeI (d : Int) : Int := if d < 0 then -1 else d / 2
set_option maxHeartbeats 4000000 in
theorem edgeOf_p (d : Int) (w : World) (hd : d < 2 ^ 63) : Calls Tryz.prog 112 #[.int .i64 d] w fun en w' => en = .returned (.int .i64 (edgeI d)) ∧ w = w' := by
  by_cases h : d < 0
  · have hb : decide (d < 0) = true := decide_eq_true h
    have he : edgeI d = -1 := by unfold edgeI; rw [if_pos h]
    rw [he]
    go_enter Tryz.func112, Tryz.ntmps112
    go_wp2_with fail
    go_ret
    exact ⟨rfl, rfl⟩
  · have hb : decide (d < 0) = false := decide_eq_false h
    obtain ⟨q, hq⟩ : ∃ q, q = d / 2 := ⟨_, rfl⟩
    have he : edgeI d = q := by unfold edgeI; rw [if_neg h, hq]
    have e1 : d / 2 = q := hq.symm
    have e2 : d.tdiv 2 = q := by rw [Int.tdiv_eq_ediv_of_nonneg (by omega)]; exact e1
    have wq : IntKind.i64.wrap q = q := by simp [IntKind.wrap, IntKind.signed, IntKind.bits]; omega
    rw [he]
    clear hq
    go_enter Tryz.func112, Tryz.ntmps112
    go_wp2_with fail
    go_ret
    exact ⟨rfl, rfl⟩
set_option maxHeartbeats 4000000 in
theorem dart1_p (F : Nat) (v : Option Addr) (k d e : Int) (g : Nat) (w : World) (R : Option Addr → Int → World → Prop) (hF : ∀ (args : Array Value) (w : World), Sem.run Tryz.prog (callFunc F args) w = .ok (.enter F args) w)
    (hc : w.cell? ⟨g, 0, none⟩ = some (.func (.func F) #[] #[])) (H : ∀ W, Below w.heap.size w W → Calls Tryz.prog F #[.pointer v, .int .i64 d] W (TwoR R)) :
    Calls Tryz.prog 95 #[.pointer v, .agg #[.int .i64 k, .int .i64 d, .int .i64 e], .pointer (some ⟨g, 0, none⟩)] w (TwoR R) := by
  have hal := (Below.refl w.heap.size w).alloc (Nat.le_refl _) (.cells #[.int .i64 k, .int .i64 d, .int .i64 e] 41)
  have hX := Blk.new w 41 #[.int .i64 k, .int .i64 d, .int .i64 e]
  have HH := Lib.hid (H _ hal)
  have x1 : (w.alloc (.cells #[.int .i64 k, .int .i64 d, .int .i64 e] 41)).cell? ⟨w.heap.size, 1, none⟩ = some (.int .i64 d) := hX.cell 1
  have hg : g < w.heap.size := World.block_lt_of_cell? w ⟨g, 0, none⟩ hc
  have c1 := (hal.cell (p := ⟨g, 0, none⟩) hg).trans hc
  have HF := Lib.hid hF
  clear H hc hX hal hF
  go_enter Tryz.func95, Tryz.ntmps95
  go_upto_region 1 with fail
  generalize w.alloc (.cells #[.int .i64 k, .int .i64 d, .int .i64 e] 41) = w1 at *
  have hF := fun args => HF.out args w1
  go_wp2_with fail
  refine HH.out.mono ?_
  rintro en w2 ⟨p, x, rfl, q⟩
  have HQ := Lib.hid q
  clear q hF
  go_wp2_with fail
  go_ret2
  exact ⟨p, x, rfl, HQ.out⟩
set_option maxHeartbeats 4000000 in
theorem whole1_p (F : Nat) (v : Option Addr) (k d e : Int) (g : Nat) (w : World) (R : Option Addr → Int → World → Prop) (hF : ∀ (args : Array Value) (w : World), Sem.run Tryz.prog (callFunc F args) w = .ok (.enter F args) w)
    (hc : w.cell? ⟨g, 0, none⟩ = some (.func (.func F) #[] #[])) (H : ∀ W, Below w.heap.size w W → Calls Tryz.prog F #[.pointer v] W fun en w' => ∃ p, en = .returned (.pointer p) ∧ R p 0 w') :
    Calls Tryz.prog 108 #[.pointer v, .agg #[.int .i64 k, .int .i64 d, .int .i64 e], .pointer (some ⟨g, 0, none⟩)] w (TwoR R) := by
  have hal := (Below.refl w.heap.size w).alloc (Nat.le_refl _) (.cells #[.int .i64 k, .int .i64 d, .int .i64 e] 41)
  have HH := Lib.hid (H _ hal)
  have hg : g < w.heap.size := World.block_lt_of_cell? w ⟨g, 0, none⟩ hc
  have c1 := (hal.cell (p := ⟨g, 0, none⟩) hg).trans hc
  have HF := Lib.hid hF
  clear H hc hal hF
  go_enter Tryz.func108, Tryz.ntmps108
  go_upto_region 1 with fail
  generalize w.alloc (.cells #[.int .i64 k, .int .i64 d, .int .i64 e] 41) = w1 at *
  have hF := fun args => HF.out args w1
  go_wp2_with fail
  refine HH.out.mono ?_
  rintro en w2 ⟨p, rfl, q⟩
  have HQ := Lib.hid q
  clear q hF
  go_wp2_with fail
  go_ret2
  exact ⟨p, 0, rfl, HQ.out⟩
set_option maxHeartbeats 4000000 in
theorem edge1_p (F : Nat) (v : Option Addr) (k d e : Int) (g : Nat) (w : World) (R : Option Addr → Int → World → Prop) (hd : d < 2 ^ 63) (hF : ∀ (args : Array Value) (w : World), Sem.run Tryz.prog (callFunc F args) w = .ok (.enter F args) w)
    (hc : w.cell? ⟨g, 0, none⟩ = some (.func (.func F) #[] #[])) (H : ∀ W, Below w.heap.size w W → Calls Tryz.prog F #[.pointer v, .int .i64 (edgeI d)] W fun en w' => ∃ p x, en = .returned (.tuple #[.pointer p, .int .i64 x]) ∧ R p x w' ∧ Below W.heap.size W w') :
    Calls Tryz.prog 111 #[.pointer v, .agg #[.int .i64 k, .int .i64 d, .int .i64 e], .pointer (some ⟨g, 0, none⟩)] w (TwoR R) := by
  have hal := (Below.refl w.heap.size w).alloc (Nat.le_refl _) (.cells #[.int .i64 k, .int .i64 d, .int .i64 e] 41)
  have hX := Blk.new w 41 #[.int .i64 k, .int .i64 d, .int .i64 e]
  have HH : Hid (∀ W, Below (w.alloc (.cells #[.int .i64 k, .int .i64 d, .int .i64 e] 41)).heap.size (w.alloc (.cells #[.int .i64 k, .int .i64 d, .int .i64 e] 41)) W → Calls Tryz.prog F #[.pointer v, .int .i64 (edgeI d)] W fun en w' => ∃ p x, en = .returned (.tuple #[.pointer p, .int .i64 x]) ∧ Hid (R p x w') ∧ Below (w.alloc (.cells #[.int .i64 k, .int .i64 d, .int .i64 e] 41)).heap.size (w.alloc (.cells #[.int .i64 k, .int .i64 d, .int .i64 e] 41)) w') := fun W m => (H W (hal.trans (m.mono hal.size))).mono fun en w' ⟨p, x, q1, q2, q3⟩ => ⟨p, x, q1, q2, m.trans (q3.mono m.size)⟩
  have x1 : (w.alloc (.cells #[.int .i64 k, .int .i64 d, .int .i64 e] 41)).cell? ⟨w.heap.size, 1, none⟩ = some (.int .i64 d) := hX.cell 1
  have hg : g < w.heap.size := World.block_lt_of_cell? w ⟨g, 0, none⟩ hc
  have c1 := (hal.cell (p := ⟨g, 0, none⟩) hg).trans hc
  have HF := Lib.hid hF
  have EO := Lib.hid (fun W => edgeOf_p d W hd)
  have hs : w.heap.size < (w.alloc (.cells #[.int .i64 k, .int .i64 d, .int .i64 e] 41)).heap.size := by simp
  clear H hc hX hal hF hd
  go_enter Tryz.func111, Tryz.ntmps111
  go_upto_region 1 with fail
  generalize w.alloc (.cells #[.int .i64 k, .int .i64 d, .int .i64 e] 41) = w1 at *
  have KH : Hid (∀ W, Below w1.heap.size w1 W → Below w1.heap.size w1 W ∧ W.cell? ⟨g, 0, none⟩ = some (.func (.func F) #[] #[]) ∧ W.cell? ⟨w.heap.size, 1, none⟩ = some (.int .i64 d)) := fun W m => ⟨m, (m.cell (p := ⟨g, 0, none⟩) (by show g < _; omega)).trans c1, (m.cell (p := ⟨w.heap.size, 1, none⟩) hs).trans x1⟩
  have hF : ∀ (args : Array Value) (W : World), Sem.run Tryz.prog (callFunc F args) W = .ok (.enter F args) W := HF.out
  have EOB : Hid (∀ W, Below w1.heap.size w1 W → Calls Tryz.prog 112 #[.int .i64 d] W fun en w' => en = .returned (.int .i64 (edgeI d)) ∧ Below w1.heap.size w1 w') := fun W m => (EO.out W).mono fun en w' ⟨q1, q2⟩ => ⟨q1, q2 ▸ m⟩
  have a0 := Below.refl w1.heap.size w1
  have a1 := a0.drew
  obtain ⟨-, y0, y1⟩ := KH.out _ a0
  obtain ⟨-, v0, v1⟩ := KH.out _ a1
  clear EO
  go_region_held3 (fun W => Below w1.heap.size w1 W ∧ W.cell? ⟨g, 0, none⟩ = some (.func (.func F) #[] #[]) ∧ W.cell? ⟨w.heap.size, 1, none⟩ = some (.int .i64 d)) (exact KH.out _ (by assumption)) (first
    | (go_at_call 112; (with_reducible refine (EOB.out _ (by assumption)).mono ?_); rintro en we ⟨rfl, hbe⟩)
    | ((with_reducible refine (HH.out _ (by assumption)).mono ?_); rintro en w2 ⟨p, x, rfl, HQ, hbq⟩))
  all_goals (go_wp2_with fail)
  all_goals (go_ret2)
  all_goals (exact ⟨_, _, rfl, HQ.out⟩)
set_option maxHeartbeats 4000000 in
theorem chord1_p (v : Option Addr) (k d e : Int) (w : World) (R : Option Addr → Int → World → Prop)
    (H : ∀ W, Below w.heap.size w W → Calls Tryz.prog 67 #[.pointer v, .int .i64 d, .int .i64 e] W (TwoR R)) :
    Calls Tryz.prog 66 #[.pointer v, .agg #[.int .i64 k, .int .i64 d, .int .i64 e]] w (TwoR R) := by
  have hal := (Below.refl w.heap.size w).alloc (Nat.le_refl _) (.cells #[.int .i64 k, .int .i64 d, .int .i64 e] 41)
  have hX := Blk.new w 41 #[.int .i64 k, .int .i64 d, .int .i64 e]
  have HH := Lib.hid (H _ hal)
  have x1 : (w.alloc (.cells #[.int .i64 k, .int .i64 d, .int .i64 e] 41)).cell? ⟨w.heap.size, 1, none⟩ = some (.int .i64 d) := hX.cell 1
  have x2 : (w.alloc (.cells #[.int .i64 k, .int .i64 d, .int .i64 e] 41)).cell? ⟨w.heap.size, 2, none⟩ = some (.int .i64 e) := hX.cell 2
  clear H hX hal
  go_enter Tryz.func66, Tryz.ntmps66
  go_upto_region 1 with fail
  generalize w.alloc (.cells #[.int .i64 k, .int .i64 d, .int .i64 e] 41) = w1 at *
  go_wp2_with fail
  refine HH.out.mono ?_
  rintro en w2 ⟨p, x, rfl, q⟩
  have HQ := Lib.hid q
  clear q
  go_wp2_with fail
  go_ret2
  exact ⟨p, x, rfl, HQ.out⟩
set_option maxHeartbeats 4000000 in
theorem named1_p (v : Option Addr) (k d e : Int) (w : World) (R : Option Addr → Int → World → Prop)
    (H : ∀ W, Below w.heap.size w W → Calls Tryz.prog 117 #[.pointer v] W fun en w' => ∃ p q x, en = .returned (.tuple #[.pointer p, .pointer q, .int .i64 x]) ∧ R p x w') :
    Calls Tryz.prog 78 #[.pointer v, .agg #[.int .i64 k, .int .i64 d, .int .i64 e]] w (TwoR R) := by
  have hal := (Below.refl w.heap.size w).alloc (Nat.le_refl _) (.cells #[.int .i64 k, .int .i64 d, .int .i64 e] 41)
  have HH := Lib.hid (H _ hal)
  clear H hal
  go_enter Tryz.func78, Tryz.ntmps78
  go_upto_region 1 with fail
  generalize w.alloc (.cells #[.int .i64 k, .int .i64 d, .int .i64 e] 41) = w1 at *
  go_wp2_with fail
  refine HH.out.mono ?_
  rintro en w2 ⟨p, y, x, rfl, q⟩
  have HQ := Lib.hid q
  clear q
  go_wp2_with fail
  go_ret2
  exact ⟨p, x, rfl, HQ.out⟩
end Go.Proofs.YtgcbdoljapnecaaGreat
namespace Go.Proofs.YtgcbdoljapnecaaGreat
set_option maxRecDepth 100000
open Go.RowKit
set_option linter.unusedVariables false
set_option linter.unusedSimpArgs false
set_option maxHeartbeats 4000000 in
theorem atDart_p (F : Nat) (w : World) : Calls Tryz.prog 64 #[.func (.func F) #[] #[]] w fun en w' => en = .returned (.func (.func 95) #[] #[.pointer (some ⟨w.heap.size, 0, none⟩)]) ∧ w'.cell? ⟨w.heap.size, 0, none⟩ = some (.func (.func F) #[] #[]) ∧ Below w.heap.size w w' := by
  have hmf : ∀ (fn : Fn) (first cap : Array Value) (w : World), (Instr.makeFunc fn first cap).run Tryz.prog w = .ok (.func fn first cap) w := fun _ _ _ _ => rfl
  have H := Lib.hid (And.intro ((Blk.new w 91 #[.func (.func F) #[] #[]]).cell 0) ((Below.refl w.heap.size w).alloc (Nat.le_refl _) (.cells #[.func (.func F) #[] #[]] 91)))
  go_enter Tryz.func64, Tryz.ntmps64
  go_wp2_with fail
  go_ret
  exact ⟨rfl, H.out.1, H.out.2⟩
set_option maxHeartbeats 4000000 in
theorem atEdge_p (F : Nat) (w : World) : Calls Tryz.prog 75 #[.func (.func F) #[] #[]] w fun en w' => en = .returned (.func (.func 111) #[] #[.pointer (some ⟨w.heap.size, 0, none⟩)]) ∧ w'.cell? ⟨w.heap.size, 0, none⟩ = some (.func (.func F) #[] #[]) ∧ Below w.heap.size w w' := by
  have hmf : ∀ (fn : Fn) (first cap : Array Value) (w : World), (Instr.makeFunc fn first cap).run Tryz.prog w = .ok (.func fn first cap) w := fun _ _ _ _ => rfl
  have H := Lib.hid (And.intro ((Blk.new w 91 #[.func (.func F) #[] #[]]).cell 0) ((Below.refl w.heap.size w).alloc (Nat.le_refl _) (.cells #[.func (.func F) #[] #[]] 91)))
  go_enter Tryz.func75, Tryz.ntmps75
  go_wp2_with fail
  go_ret
  exact ⟨rfl, H.out.1, H.out.2⟩
set_option maxHeartbeats 4000000 in
theorem asWhole_p (F : Nat) (w : World) : Calls Tryz.prog 72 #[.func (.func F) #[] #[]] w fun en w' => en = .returned (.func (.func 108) #[] #[.pointer (some ⟨w.heap.size, 0, none⟩)]) ∧ w'.cell? ⟨w.heap.size, 0, none⟩ = some (.func (.func F) #[] #[]) ∧ Below w.heap.size w w' := by
  have hmf : ∀ (fn : Fn) (first cap : Array Value) (w : World), (Instr.makeFunc fn first cap).run Tryz.prog w = .ok (.func fn first cap) w := fun _ _ _ _ => rfl
  have H := Lib.hid (And.intro ((Blk.new w 95 #[.func (.func F) #[] #[]]).cell 0) ((Below.refl w.heap.size w).alloc (Nat.le_refl _) (.cells #[.func (.func F) #[] #[]] 95)))
  go_enter Tryz.func72, Tryz.ntmps72
  go_wp2_with fail
  go_ret
  exact ⟨rfl, H.out.1, H.out.2⟩
set_option maxHeartbeats 4000000 in
theorem deed_0 (w : World) : Calls Tryz.prog 44 #[.int .i64 0] w fun en w' => en = .returned (.func (.func 95) #[] #[.pointer (some ⟨w.heap.size, 0, none⟩)]) ∧ w'.cell? ⟨w.heap.size, 0, none⟩ = some (.func (.func 65) #[] #[]) ∧ Below w.heap.size w w' := by
  have AP := Lib.hid (atDart_p 65 w)
  go_enter Tryz.func44, Tryz.ntmps44
  go_wp2_with fail
  refine AP.out.mono ?_
  rintro en w1 ⟨rfl, q1, q2⟩
  have HQ := Lib.hid (And.intro q1 q2)
  clear q1 q2
  go_wp2_with fail
  go_ret
  exact ⟨rfl, HQ.out.1, HQ.out.2⟩
set_option maxHeartbeats 4000000 in
theorem deed_2 (w : World) : Calls Tryz.prog 44 #[.int .i64 2] w fun en w' => en = .returned (.func (.func 95) #[] #[.pointer (some ⟨w.heap.size, 0, none⟩)]) ∧ w'.cell? ⟨w.heap.size, 0, none⟩ = some (.func (.func 68) #[] #[]) ∧ Below w.heap.size w w' := by
  have AP := Lib.hid (atDart_p 68 w)
  go_enter Tryz.func44, Tryz.ntmps44
  go_wp2_with fail
  refine AP.out.mono ?_
  rintro en w1 ⟨rfl, q1, q2⟩
  have HQ := Lib.hid (And.intro q1 q2)
  clear q1 q2
  go_wp2_with fail
  go_ret
  exact ⟨rfl, HQ.out.1, HQ.out.2⟩
set_option maxHeartbeats 4000000 in
theorem deed_3 (w : World) : Calls Tryz.prog 44 #[.int .i64 3] w fun en w' => en = .returned (.func (.func 95) #[] #[.pointer (some ⟨w.heap.size, 0, none⟩)]) ∧ w'.cell? ⟨w.heap.size, 0, none⟩ = some (.func (.func 69) #[] #[]) ∧ Below w.heap.size w w' := by
  have AP := Lib.hid (atDart_p 69 w)
  go_enter Tryz.func44, Tryz.ntmps44
  go_wp2_with fail
  refine AP.out.mono ?_
  rintro en w1 ⟨rfl, q1, q2⟩
  have HQ := Lib.hid (And.intro q1 q2)
  clear q1 q2
  go_wp2_with fail
  go_ret
  exact ⟨rfl, HQ.out.1, HQ.out.2⟩
set_option maxHeartbeats 4000000 in
theorem deed_4 (w : World) : Calls Tryz.prog 44 #[.int .i64 4] w fun en w' => en = .returned (.func (.func 95) #[] #[.pointer (some ⟨w.heap.size, 0, none⟩)]) ∧ w'.cell? ⟨w.heap.size, 0, none⟩ = some (.func (.func 70) #[] #[]) ∧ Below w.heap.size w w' := by
  have AP := Lib.hid (atDart_p 70 w)
  go_enter Tryz.func44, Tryz.ntmps44
  go_wp2_with fail
  refine AP.out.mono ?_
  rintro en w1 ⟨rfl, q1, q2⟩
  have HQ := Lib.hid (And.intro q1 q2)
  clear q1 q2
  go_wp2_with fail
  go_ret
  exact ⟨rfl, HQ.out.1, HQ.out.2⟩
set_option maxHeartbeats 4000000 in
theorem deed_5 (w : World) : Calls Tryz.prog 44 #[.int .i64 5] w fun en w' => en = .returned (.func (.func 95) #[] #[.pointer (some ⟨w.heap.size, 0, none⟩)]) ∧ w'.cell? ⟨w.heap.size, 0, none⟩ = some (.func (.func 71) #[] #[]) ∧ Below w.heap.size w w' := by
  have AP := Lib.hid (atDart_p 71 w)
  go_enter Tryz.func44, Tryz.ntmps44
  go_wp2_with fail
  refine AP.out.mono ?_
  rintro en w1 ⟨rfl, q1, q2⟩
  have HQ := Lib.hid (And.intro q1 q2)
  clear q1 q2
  go_wp2_with fail
  go_ret
  exact ⟨rfl, HQ.out.1, HQ.out.2⟩
set_option maxHeartbeats 4000000 in
theorem deed_6 (w : World) : Calls Tryz.prog 44 #[.int .i64 6] w fun en w' => en = .returned (.func (.func 108) #[] #[.pointer (some ⟨w.heap.size, 0, none⟩)]) ∧ w'.cell? ⟨w.heap.size, 0, none⟩ = some (.func (.func 73) #[] #[]) ∧ Below w.heap.size w w' := by
  have AP := Lib.hid (asWhole_p 73 w)
  go_enter Tryz.func44, Tryz.ntmps44
  go_wp2_with fail
  refine AP.out.mono ?_
  rintro en w1 ⟨rfl, q1, q2⟩
  have HQ := Lib.hid (And.intro q1 q2)
  clear q1 q2
  go_wp2_with fail
  go_ret
  exact ⟨rfl, HQ.out.1, HQ.out.2⟩
set_option maxHeartbeats 4000000 in
theorem deed_7 (w : World) : Calls Tryz.prog 44 #[.int .i64 7] w fun en w' => en = .returned (.func (.func 108) #[] #[.pointer (some ⟨w.heap.size, 0, none⟩)]) ∧ w'.cell? ⟨w.heap.size, 0, none⟩ = some (.func (.func 74) #[] #[]) ∧ Below w.heap.size w w' := by
  have AP := Lib.hid (asWhole_p 74 w)
  go_enter Tryz.func44, Tryz.ntmps44
  go_wp2_with fail
  refine AP.out.mono ?_
  rintro en w1 ⟨rfl, q1, q2⟩
  have HQ := Lib.hid (And.intro q1 q2)
  clear q1 q2
  go_wp2_with fail
  go_ret
  exact ⟨rfl, HQ.out.1, HQ.out.2⟩
set_option maxHeartbeats 4000000 in
theorem deed_8 (w : World) : Calls Tryz.prog 44 #[.int .i64 8] w fun en w' => en = .returned (.func (.func 111) #[] #[.pointer (some ⟨w.heap.size, 0, none⟩)]) ∧ w'.cell? ⟨w.heap.size, 0, none⟩ = some (.func (.func 76) #[] #[]) ∧ Below w.heap.size w w' := by
  have AP := Lib.hid (atEdge_p 76 w)
  go_enter Tryz.func44, Tryz.ntmps44
  go_wp2_with fail
  refine AP.out.mono ?_
  rintro en w1 ⟨rfl, q1, q2⟩
  have HQ := Lib.hid (And.intro q1 q2)
  clear q1 q2
  go_wp2_with fail
  go_ret
  exact ⟨rfl, HQ.out.1, HQ.out.2⟩
set_option maxHeartbeats 4000000 in
theorem deed_9 (w : World) : Calls Tryz.prog 44 #[.int .i64 9] w fun en w' => en = .returned (.func (.func 111) #[] #[.pointer (some ⟨w.heap.size, 0, none⟩)]) ∧ w'.cell? ⟨w.heap.size, 0, none⟩ = some (.func (.func 77) #[] #[]) ∧ Below w.heap.size w w' := by
  have AP := Lib.hid (atEdge_p 77 w)
  go_enter Tryz.func44, Tryz.ntmps44
  go_wp2_with fail
  refine AP.out.mono ?_
  rintro en w1 ⟨rfl, q1, q2⟩
  have HQ := Lib.hid (And.intro q1 q2)
  clear q1 q2
  go_wp2_with fail
  go_ret
  exact ⟨rfl, HQ.out.1, HQ.out.2⟩
set_option maxHeartbeats 4000000 in
theorem deed_1 (w : World) : Calls Tryz.prog 44 #[.int .i64 1] w fun en w' => en = .returned (.func (.func 66) #[] #[]) ∧ w = w' := by
  go_enter Tryz.func44, Tryz.ntmps44
  go_wp2_with fail
  go_ret
  exact ⟨rfl, rfl⟩
set_option maxHeartbeats 4000000 in
theorem deed_10 (w : World) : Calls Tryz.prog 44 #[.int .i64 10] w fun en w' => en = .returned (.func (.func 78) #[] #[]) ∧ w = w' := by
  go_enter Tryz.func44, Tryz.ntmps44
  go_wp2_with fail
  go_ret
  exact ⟨rfl, rfl⟩
set_option maxHeartbeats 8000000 in
theorem deed_none (k : Int) (w : World) (hk : k < 0 ∨ 10 < k) : Calls Tryz.prog 44 #[.int .i64 k] w fun en w' => en = .returned .nilFunc ∧ w = w' := by
  have n0 : ¬ k = 0 := by omega
  have n1 : ¬ k = 1 := by omega
  have n2 : ¬ k = 2 := by omega
  have n3 : ¬ k = 3 := by omega
  have n4 : ¬ k = 4 := by omega
  have n5 : ¬ k = 5 := by omega
  have n6 : ¬ k = 6 := by omega
  have n7 : ¬ k = 7 := by omega
  have n8 : ¬ k = 8 := by omega
  have n9 : ¬ k = 9 := by omega
  have n10 : ¬ k = 10 := by omega
  clear hk
  go_enter Tryz.func44, Tryz.ntmps44
  go_wp2_with fail
  go_ret
  exact ⟨rfl, rfl⟩
set_option maxHeartbeats 8000000 in
theorem sdo_1 (gm fn : Nat) (k d e : Int) (w : World) (R : Option Addr → Int → World → Prop) (hfn : ∀ (args : Array Value) (w : World), Sem.run Tryz.prog (callFunc fn args) w = .ok (.enter fn args) w)
    (DP : ∀ W, Below w.heap.size w W → Calls Tryz.prog 44 #[.int .i64 k] W fun en w' => ∃ g2, en = .returned (.func (.func fn) #[] #[.pointer (some ⟨g2, 0, none⟩)]) ∧ Below W.heap.size W w' ∧ Calls Tryz.prog fn #[.pointer (some ⟨gm, 0, none⟩), .agg #[.int .i64 k, .int .i64 d, .int .i64 e], .pointer (some ⟨g2, 0, none⟩)] w' (TwoR R)) :
    Calls Tryz.prog 20 #[.pointer (some ⟨gm, 0, none⟩), .agg #[.int .i64 k, .int .i64 d, .int .i64 e]] w (TwoR R) := by
  have hal := (Below.refl w.heap.size w).alloc (Nat.le_refl _) (.cells #[.int .i64 k, .int .i64 d, .int .i64 e] 41)
  have HX := Lib.hid (Blk.new w 41 #[.int .i64 k, .int .i64 d, .int .i64 e])
  have HD := Lib.hid (DP _ hal)
  have x0 : (w.alloc (.cells #[.int .i64 k, .int .i64 d, .int .i64 e] 41)).cell? ⟨w.heap.size, 0, none⟩ = some (.int .i64 k) := HX.out.cell 0
  have HF := Lib.hid hfn
  clear DP hal hfn
  go_enter Tryz.func20, Tryz.ntmps20
  go_upto_region 1 with fail
  generalize w.alloc (.cells #[.int .i64 k, .int .i64 d, .int .i64 e] 41) = w1 at *
  go_wp2_with fail
  refine HD.out.mono ?_
  rintro en w2 ⟨g2, rfl, b2, hcall⟩
  have HC := Lib.hid hcall
  have HX2 := Lib.hid (HX.out.below b2)
  have y0 : w2.cell? ⟨w.heap.size, 0, none⟩ = some (.int .i64 k) := HX2.out.cell 0
  have y1 : w2.cell? ⟨w.heap.size, 1, none⟩ = some (.int .i64 d) := HX2.out.cell 1
  have y2 : w2.cell? ⟨w.heap.size, 2, none⟩ = some (.int .i64 e) := HX2.out.cell 2
  have hF := fun args => HF.out args w2
  have hne : Sem.run Tryz.prog (binOp BinOp.eql 75 (.func (.func fn) #[] #[.pointer (some ⟨g2, 0, none⟩)]) Value.nilFunc) w2 = .ok (.bool false) w2 := by first | rfl | simp [binOp]
  clear hcall b2 x0 HD
  go_wp2_with fail
  refine HC.out.mono ?_
  rintro en w3 ⟨p, x, rfl, q⟩
  have HQ := Lib.hid q
  clear q hF hne y0 y1 y2
  go_wp2_with fail
  go_ret2
  exact ⟨p, x, rfl, HQ.out⟩
set_option maxHeartbeats 8000000 in
theorem sdo_0 (gm fn : Nat) (k d e : Int) (w : World) (R : Option Addr → Int → World → Prop) (hfn : ∀ (args : Array Value) (w : World), Sem.run Tryz.prog (callFunc fn args) w = .ok (.enter fn args) w)
    (DP : ∀ W, Below w.heap.size w W → Calls Tryz.prog 44 #[.int .i64 k] W fun en w' => en = .returned (.func (.func fn) #[] #[]) ∧ Below W.heap.size W w' ∧ Calls Tryz.prog fn #[.pointer (some ⟨gm, 0, none⟩), .agg #[.int .i64 k, .int .i64 d, .int .i64 e]] w' (TwoR R)) :
    Calls Tryz.prog 20 #[.pointer (some ⟨gm, 0, none⟩), .agg #[.int .i64 k, .int .i64 d, .int .i64 e]] w (TwoR R) := by
  have hal := (Below.refl w.heap.size w).alloc (Nat.le_refl _) (.cells #[.int .i64 k, .int .i64 d, .int .i64 e] 41)
  have HX := Lib.hid (Blk.new w 41 #[.int .i64 k, .int .i64 d, .int .i64 e])
  have HD := Lib.hid (DP _ hal)
  have x0 : (w.alloc (.cells #[.int .i64 k, .int .i64 d, .int .i64 e] 41)).cell? ⟨w.heap.size, 0, none⟩ = some (.int .i64 k) := HX.out.cell 0
  have HF := Lib.hid hfn
  clear DP hal hfn
  go_enter Tryz.func20, Tryz.ntmps20
  go_upto_region 1 with fail
  generalize w.alloc (.cells #[.int .i64 k, .int .i64 d, .int .i64 e] 41) = w1 at *
  go_wp2_with fail
  refine HD.out.mono ?_
  rintro en w2 ⟨rfl, b2, hcall⟩
  have HC := Lib.hid hcall
  have HX2 := Lib.hid (HX.out.below b2)
  have y0 : w2.cell? ⟨w.heap.size, 0, none⟩ = some (.int .i64 k) := HX2.out.cell 0
  have y1 : w2.cell? ⟨w.heap.size, 1, none⟩ = some (.int .i64 d) := HX2.out.cell 1
  have y2 : w2.cell? ⟨w.heap.size, 2, none⟩ = some (.int .i64 e) := HX2.out.cell 2
  have hF := fun args => HF.out args w2
  have hne : Sem.run Tryz.prog (binOp BinOp.eql 75 (.func (.func fn) #[] #[]) Value.nilFunc) w2 = .ok (.bool false) w2 := by first | rfl | simp [binOp]
  clear hcall b2 x0 HD
  go_wp2_with fail
  refine HC.out.mono ?_
  rintro en w3 ⟨p, x, rfl, q⟩
  have HQ := Lib.hid q
  clear q hF hne y0 y1 y2
  go_wp2_with fail
  go_ret2
  exact ⟨p, x, rfl, HQ.out⟩
set_option maxHeartbeats 8000000 in
theorem sdo_none (gm : Nat) (k d e : Int) (w : World) (hk : k < 0 ∨ 10 < k) :
    Calls Tryz.prog 20 #[.pointer (some ⟨gm, 0, none⟩), .agg #[.int .i64 k, .int .i64 d, .int .i64 e]] w fun en w' => en = .returned (.tuple #[.pointer none, .int .i64 15]) ∧ Below w.heap.size w w' := by
  have HB := Lib.hid ((Below.refl w.heap.size w).alloc (Nat.le_refl _) (.cells #[.int .i64 k, .int .i64 d, .int .i64 e] 41))
  have x0 : (w.alloc (.cells #[.int .i64 k, .int .i64 d, .int .i64 e] 41)).cell? ⟨w.heap.size, 0, none⟩ = some (.int .i64 k) := (Blk.new w 41 #[.int .i64 k, .int .i64 d, .int .i64 e]).cell 0
  have HD := Lib.hid (fun W => deed_none k W hk)
  clear hk
  go_enter Tryz.func20, Tryz.ntmps20
  go_upto_region 1 with fail
  generalize w.alloc (.cells #[.int .i64 k, .int .i64 d, .int .i64 e] 41) = w1 at *
  go_wp2_with fail
  refine (HD.out _).mono ?_
  rintro en w2 ⟨rfl, rfl⟩
  have hne : Sem.run Tryz.prog (binOp BinOp.eql 75 Value.nilFunc Value.nilFunc) w1 = .ok (.bool true) w1 := by first | rfl | simp [binOp]
  go_wp2_with fail
  go_ret2
  exact ⟨rfl, HB.out⟩
set_option maxHeartbeats 8000000 in
theorem sdo_nil (k d e : Int) (w : World) :
    Calls Tryz.prog 20 #[.pointer none, .agg #[.int .i64 k, .int .i64 d, .int .i64 e]] w fun en w' => en = .returned (.tuple #[.pointer none, .int .i64 2]) ∧ Below w.heap.size w w' := by
  have HB := Lib.hid ((Below.refl w.heap.size w).alloc (Nat.le_refl _) (.cells #[.int .i64 k, .int .i64 d, .int .i64 e] 41))
  go_enter Tryz.func20, Tryz.ntmps20
  go_upto_region 1 with fail
  generalize w.alloc (.cells #[.int .i64 k, .int .i64 d, .int .i64 e] 41) = w1 at *
  go_wp2_with fail
  go_ret2
  exact ⟨rfl, HB.out⟩
theorem sdo_k0 (gm : Nat) (d e : Int) (w : World) (R : Option Addr → Int → World → Prop) (H : ∀ W, Below w.heap.size w W → Calls Tryz.prog 65 #[.pointer (some ⟨gm, 0, none⟩), .int .i64 d] W (TwoR R)) :
    Calls Tryz.prog 20 #[.pointer (some ⟨gm, 0, none⟩), .agg #[.int .i64 0, .int .i64 d, .int .i64 e]] w (TwoR R) :=
  sdo_1 gm 95 0 d e w R (fun _ _ => rfl) fun W m => (deed_0 W).mono fun en w' ⟨q1, q2, q3⟩ => ⟨_, q1, q3, dart1_p 65 _ 0 d e _ w' R (fun _ _ => rfl) q2 fun W' m' => H W' (m.trans ((q3.trans (m'.mono q3.size)).mono m.size))⟩
theorem sdo_k2 (gm : Nat) (d e : Int) (w : World) (R : Option Addr → Int → World → Prop) (H : ∀ W, Below w.heap.size w W → Calls Tryz.prog 68 #[.pointer (some ⟨gm, 0, none⟩), .int .i64 d] W (TwoR R)) :
    Calls Tryz.prog 20 #[.pointer (some ⟨gm, 0, none⟩), .agg #[.int .i64 2, .int .i64 d, .int .i64 e]] w (TwoR R) :=
  sdo_1 gm 95 2 d e w R (fun _ _ => rfl) fun W m => (deed_2 W).mono fun en w' ⟨q1, q2, q3⟩ => ⟨_, q1, q3, dart1_p 68 _ 2 d e _ w' R (fun _ _ => rfl) q2 fun W' m' => H W' (m.trans ((q3.trans (m'.mono q3.size)).mono m.size))⟩
theorem sdo_k3 (gm : Nat) (d e : Int) (w : World) (R : Option Addr → Int → World → Prop) (H : ∀ W, Below w.heap.size w W → Calls Tryz.prog 69 #[.pointer (some ⟨gm, 0, none⟩), .int .i64 d] W (TwoR R)) :
    Calls Tryz.prog 20 #[.pointer (some ⟨gm, 0, none⟩), .agg #[.int .i64 3, .int .i64 d, .int .i64 e]] w (TwoR R) :=
  sdo_1 gm 95 3 d e w R (fun _ _ => rfl) fun W m => (deed_3 W).mono fun en w' ⟨q1, q2, q3⟩ => ⟨_, q1, q3, dart1_p 69 _ 3 d e _ w' R (fun _ _ => rfl) q2 fun W' m' => H W' (m.trans ((q3.trans (m'.mono q3.size)).mono m.size))⟩
theorem sdo_k4 (gm : Nat) (d e : Int) (w : World) (R : Option Addr → Int → World → Prop) (H : ∀ W, Below w.heap.size w W → Calls Tryz.prog 70 #[.pointer (some ⟨gm, 0, none⟩), .int .i64 d] W (TwoR R)) :
    Calls Tryz.prog 20 #[.pointer (some ⟨gm, 0, none⟩), .agg #[.int .i64 4, .int .i64 d, .int .i64 e]] w (TwoR R) :=
  sdo_1 gm 95 4 d e w R (fun _ _ => rfl) fun W m => (deed_4 W).mono fun en w' ⟨q1, q2, q3⟩ => ⟨_, q1, q3, dart1_p 70 _ 4 d e _ w' R (fun _ _ => rfl) q2 fun W' m' => H W' (m.trans ((q3.trans (m'.mono q3.size)).mono m.size))⟩
theorem sdo_k5 (gm : Nat) (d e : Int) (w : World) (R : Option Addr → Int → World → Prop) (H : ∀ W, Below w.heap.size w W → Calls Tryz.prog 71 #[.pointer (some ⟨gm, 0, none⟩), .int .i64 d] W (TwoR R)) :
    Calls Tryz.prog 20 #[.pointer (some ⟨gm, 0, none⟩), .agg #[.int .i64 5, .int .i64 d, .int .i64 e]] w (TwoR R) :=
  sdo_1 gm 95 5 d e w R (fun _ _ => rfl) fun W m => (deed_5 W).mono fun en w' ⟨q1, q2, q3⟩ => ⟨_, q1, q3, dart1_p 71 _ 5 d e _ w' R (fun _ _ => rfl) q2 fun W' m' => H W' (m.trans ((q3.trans (m'.mono q3.size)).mono m.size))⟩
theorem sdo_k6 (gm : Nat) (d e : Int) (w : World) (R : Option Addr → Int → World → Prop) (H : ∀ W, Below w.heap.size w W → Calls Tryz.prog 73 #[.pointer (some ⟨gm, 0, none⟩)] W fun en w' => ∃ p, en = .returned (.pointer p) ∧ R p 0 w') :
    Calls Tryz.prog 20 #[.pointer (some ⟨gm, 0, none⟩), .agg #[.int .i64 6, .int .i64 d, .int .i64 e]] w (TwoR R) :=
  sdo_1 gm 108 6 d e w R (fun _ _ => rfl) fun W m => (deed_6 W).mono fun en w' ⟨q1, q2, q3⟩ => ⟨_, q1, q3, whole1_p 73 _ 6 d e _ w' R (fun _ _ => rfl) q2 fun W' m' => H W' (m.trans ((q3.trans (m'.mono q3.size)).mono m.size))⟩
theorem sdo_k7 (gm : Nat) (d e : Int) (w : World) (R : Option Addr → Int → World → Prop) (H : ∀ W, Below w.heap.size w W → Calls Tryz.prog 74 #[.pointer (some ⟨gm, 0, none⟩)] W fun en w' => ∃ p, en = .returned (.pointer p) ∧ R p 0 w') :
    Calls Tryz.prog 20 #[.pointer (some ⟨gm, 0, none⟩), .agg #[.int .i64 7, .int .i64 d, .int .i64 e]] w (TwoR R) :=
  sdo_1 gm 108 7 d e w R (fun _ _ => rfl) fun W m => (deed_7 W).mono fun en w' ⟨q1, q2, q3⟩ => ⟨_, q1, q3, whole1_p 74 _ 7 d e _ w' R (fun _ _ => rfl) q2 fun W' m' => H W' (m.trans ((q3.trans (m'.mono q3.size)).mono m.size))⟩
theorem sdo_k8 (gm : Nat) (d e : Int) (w : World) (R : Option Addr → Int → World → Prop) (hd : d < 2 ^ 63) (H : ∀ W, Below w.heap.size w W → Calls Tryz.prog 76 #[.pointer (some ⟨gm, 0, none⟩), .int .i64 (edgeI d)] W fun en w' => ∃ p x, en = .returned (.tuple #[.pointer p, .int .i64 x]) ∧ R p x w' ∧ Below W.heap.size W w') :
    Calls Tryz.prog 20 #[.pointer (some ⟨gm, 0, none⟩), .agg #[.int .i64 8, .int .i64 d, .int .i64 e]] w (TwoR R) :=
  sdo_1 gm 111 8 d e w R (fun _ _ => rfl) fun W m => (deed_8 W).mono fun en w' ⟨q1, q2, q3⟩ => ⟨_, q1, q3, edge1_p 76 _ 8 d e _ w' R hd (fun _ _ => rfl) q2 fun W' m' => H W' (m.trans ((q3.trans (m'.mono q3.size)).mono m.size))⟩
theorem sdo_k9 (gm : Nat) (d e : Int) (w : World) (R : Option Addr → Int → World → Prop) (hd : d < 2 ^ 63) (H : ∀ W, Below w.heap.size w W → Calls Tryz.prog 77 #[.pointer (some ⟨gm, 0, none⟩), .int .i64 (edgeI d)] W fun en w' => ∃ p x, en = .returned (.tuple #[.pointer p, .int .i64 x]) ∧ R p x w' ∧ Below W.heap.size W w') :
    Calls Tryz.prog 20 #[.pointer (some ⟨gm, 0, none⟩), .agg #[.int .i64 9, .int .i64 d, .int .i64 e]] w (TwoR R) :=
  sdo_1 gm 111 9 d e w R (fun _ _ => rfl) fun W m => (deed_9 W).mono fun en w' ⟨q1, q2, q3⟩ => ⟨_, q1, q3, edge1_p 77 _ 9 d e _ w' R hd (fun _ _ => rfl) q2 fun W' m' => H W' (m.trans ((q3.trans (m'.mono q3.size)).mono m.size))⟩
theorem sdo_k1 (gm : Nat) (d e : Int) (w : World) (R : Option Addr → Int → World → Prop) (H : ∀ W, Below w.heap.size w W → Calls Tryz.prog 67 #[.pointer (some ⟨gm, 0, none⟩), .int .i64 d, .int .i64 e] W (TwoR R)) :
    Calls Tryz.prog 20 #[.pointer (some ⟨gm, 0, none⟩), .agg #[.int .i64 1, .int .i64 d, .int .i64 e]] w (TwoR R) :=
  sdo_0 gm 66 1 d e w R (fun _ _ => rfl) fun W m => (deed_1 W).mono fun en w' ⟨q1, q2⟩ => ⟨q1, q2 ▸ Below.refl _ _, chord1_p _ 1 d e w' R fun W' m' => H W' (m.trans ((q2 ▸ m').mono m.size))⟩
theorem sdo_k10 (gm : Nat) (d e : Int) (w : World) (R : Option Addr → Int → World → Prop) (H : ∀ W, Below w.heap.size w W → Calls Tryz.prog 117 #[.pointer (some ⟨gm, 0, none⟩)] W fun en w' => ∃ p q x, en = .returned (.tuple #[.pointer p, .pointer q, .int .i64 x]) ∧ R p x w') :
    Calls Tryz.prog 20 #[.pointer (some ⟨gm, 0, none⟩), .agg #[.int .i64 10, .int .i64 d, .int .i64 e]] w (TwoR R) :=
  sdo_0 gm 78 10 d e w R (fun _ _ => rfl) fun W m => (deed_10 W).mono fun en w' ⟨q1, q2⟩ => ⟨q1, q2 ▸ Below.refl _ _, named1_p _ 10 d e w' R fun W' m' => H W' (m.trans ((q2 ▸ m').mono m.size))⟩
end Go.Proofs.YtgcbdoljapnecaaGreat
