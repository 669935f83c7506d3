/- Leaf, Chord, Split, Flip, Star, Seed of the program. -/
import Derived.Test.YtgcbdoljapnecaaGreatZGOf
import Derived.Test.YtgcbdoljapnecaaGreatZDPhi
namespace Go.Proofs.YtgcbdoljapnecaaGreat
set_option maxRecDepth 100000
open Go.RowKit
set_option linter.unusedVariables false
def leafL (l : List Nat) (d : Nat) : List Nat := putL (edgL l) l.length d
def leafB (l b : List Nat) (d : Nat) : List Nat := putB (edgL l) (edgL b) l.length d
def chordL (l : List Nat) (d e : Nat) : List Nat := putL (leafL l d) (l.length + 1) (if d = e then l.length else e)
def chordB (l b : List Nat) (d e : Nat) : List Nat := putB (leafL l d) (leafB l b d) (l.length + 1) (if d = e then l.length else e)
def spl1 (l : List Nat) (d : Nat) : List Nat := putL (edgL l) (l.length + 1) (mateN d)
def spl1B (l b : List Nat) (d : Nat) : List Nat := putB (edgL l) (edgL b) (l.length + 1) (mateN d)
def spl2 (l b : List Nat) (d : Nat) : List Nat := takL (spl1 l d) (spl1B l b d) (mateN d)
def spl2B (l b : List Nat) (d : Nat) : List Nat := takB (spl1 l d) (spl1B l b d) (mateN d)
def splitL (l b : List Nat) (d : Nat) : List Nat := putL (spl2 l b d) (mateN d) l.length
def splitB (l b : List Nat) (d : Nat) : List Nat := putB (spl2 l b d) (spl2B l b d) (mateN d) l.length
section
variable {l b : List Nat}
theorem leaf_inv (h : Inv l b) {d : Nat} (hd : d < l.length) : Inv (leafL l d) (leafB l b d) ∧ (leafL l d).length = l.length + 2 := by
  refine ⟨put_inv (edg_inv h) (by rw [edg_len]; omega) (by rw [edg_len]; omega) (edg_new l (Nat.le_refl _) (by omega)), ?_⟩
  unfold leafL; rw [put_len, edg_len]
theorem leaf_odd (h : Inv l b) {d : Nat} (hd : d < l.length) : sgL (leafL l d) (l.length + 1) = l.length + 1 := by
  unfold leafL
  rw [put_other (edg_inv h) (by rw [edg_len]; omega) (by rw [edg_len]; omega) (edg_new l (Nat.le_refl _) (by omega)) (by omega) (by omega)]
  exact edg_new l (by omega) (by omega)
theorem chord_inv (h : Inv l b) {d e : Nat} (hd : d < l.length) (he : e < l.length) : Inv (chordL l d e) (chordB l b d e) ∧ (chordL l d e).length = l.length + 2 := by
  obtain ⟨h1, h2⟩ := leaf_inv h hd
  refine ⟨put_inv h1 (by omega) (by rw [h2]; split <;> omega) (leaf_odd h hd), ?_⟩
  unfold chordL; rw [put_len, h2]
theorem mateN_in (he : l.length % 2 = 0) {d : Nat} (hd : d < l.length) : mateN d < l.length := mateN_lt he hd
theorem spl1_inv (h : Inv l b) (he : l.length % 2 = 0) {d : Nat} (hd : d < l.length) : Inv (spl1 l d) (spl1B l b d) ∧ (spl1 l d).length = l.length + 2 := by
  have hm := mateN_in he hd
  refine ⟨put_inv (edg_inv h) (by rw [edg_len]; omega) (by rw [edg_len]; omega) (edg_new l (by omega) (by omega)), ?_⟩
  unfold spl1; rw [put_len, edg_len]
theorem spl2_inv (h : Inv l b) (he : l.length % 2 = 0) {d : Nat} (hd : d < l.length) : Inv (spl2 l b d) (spl2B l b d) ∧ (spl2 l b d).length = l.length + 2 := by
  obtain ⟨h1, h2⟩ := spl1_inv h he hd
  have hm := mateN_in he hd
  refine ⟨tak_inv h1 (by omega), ?_⟩
  unfold spl2; rw [tak_len, h2]
theorem split_inv (h : Inv l b) (he : l.length % 2 = 0) {d : Nat} (hd : d < l.length) : Inv (splitL l b d) (splitB l b d) ∧ (splitL l b d).length = l.length + 2 := by
  obtain ⟨h1, h2⟩ := spl2_inv h he hd
  obtain ⟨q1, q2⟩ := spl1_inv h he hd
  have hm := mateN_in he hd
  refine ⟨put_inv h1 (by omega) (by omega) (tak_one q1 (by omega)), ?_⟩
  unfold splitL; rw [put_len, h2]
end
theorem rdy_one {n d : Nat} (hd : d < n) : rdyN n [(d : Int)] = 0 := by
  unfold rdyN; rw [if_pos]; intro x hx; simp at hx; omega
theorem rdy_out {n : Nat} {d : Int} (hd : d < 0 ∨ (n : Int) ≤ d) : rdyN n [d] = 1 := by
  unfold rdyN; rw [if_neg]; intro H; have := H d (by simp); omega
theorem root_more {root : Int} {n m : Nat} (h : RootOk root n) (hn : 0 < n) (hm : n ≤ m) : RootOk root m := by
  rcases h with ⟨q, _⟩ | ⟨q, q1, q2⟩
  · omega
  · exact .inr ⟨by omega, q1, by omega⟩
set_option maxHeartbeats 4000000 in
theorem leaf_out (g : Nat) (l b : List Nat) (root lone d : Int) (w : World) (h : MapAt w g l b root lone) (hd : d < 0 ∨ (l.length : Int) ≤ d) :
    Calls Tryz.prog 65 #[.pointer (some ⟨g, 0, none⟩), .int .i64 d] w fun en w' => en = .returned (.tuple #[.pointer none, .int .i64 1]) ∧ Below w.heap.size w w' := by
  have hal := (Below.refl w.heap.size w).alloc (Nat.le_refl _) (.cells #[.int .i64 d] 3)
  have RP : Hid (Calls Tryz.prog 96 #[.pointer (some ⟨g, 0, none⟩), .slice (some ⟨w.heap.size, 0, none⟩) 1 1] (w.alloc (.cells #[.int .i64 d] 3)) fun en w' => en = .returned (.int .i64 1) ∧ Below w.heap.size w w') := by
    have := gready_p g l b root lone (some ⟨w.heap.size, 0, none⟩) 1 1 [d] (w.alloc (.cells #[.int .i64 d] 3)) (h.below hal) ((Rd.new w 3 #[.int .i64 d] 1 (I64 [d]) (by simp [I64]) (by simp)).up (by simp)) (by omega)
    rw [rdy_out hd] at this
    exact this.mono fun en w' ⟨q1, q2⟩ => ⟨q1, hal.trans (q2.mono (by simp))⟩
  clear h hal
  go_enter Tryz.func65, Tryz.ntmps65
  go_wp2_with fail
  refine RP.out.mono ?_
  rintro en w1 ⟨rfl, b1⟩
  have B1 := Lib.hid b1
  clear b1
  go_wp2_with fail
  go_ret2
  exact ⟨rfl, B1.out⟩
set_option maxHeartbeats 4000000 in
theorem split_out (g : Nat) (l b : List Nat) (root lone d : Int) (w : World) (h : MapAt w g l b root lone) (hd : d < 0 ∨ (l.length : Int) ≤ d) :
    Calls Tryz.prog 68 #[.pointer (some ⟨g, 0, none⟩), .int .i64 d] w fun en w' => en = .returned (.tuple #[.pointer none, .int .i64 1]) ∧ Below w.heap.size w w' := by
  have hal := (Below.refl w.heap.size w).alloc (Nat.le_refl _) (.cells #[.int .i64 d] 3)
  have RP : Hid (Calls Tryz.prog 96 #[.pointer (some ⟨g, 0, none⟩), .slice (some ⟨w.heap.size, 0, none⟩) 1 1] (w.alloc (.cells #[.int .i64 d] 3)) fun en w' => en = .returned (.int .i64 1) ∧ Below w.heap.size w w') := by
    have := gready_p g l b root lone (some ⟨w.heap.size, 0, none⟩) 1 1 [d] (w.alloc (.cells #[.int .i64 d] 3)) (h.below hal) ((Rd.new w 3 #[.int .i64 d] 1 (I64 [d]) (by simp [I64]) (by simp)).up (by simp)) (by omega)
    rw [rdy_out hd] at this
    exact this.mono fun en w' ⟨q1, q2⟩ => ⟨q1, hal.trans (q2.mono (by simp))⟩
  clear h hal
  go_enter Tryz.func68, Tryz.ntmps68
  go_wp2_with fail
  refine RP.out.mono ?_
  rintro en w1 ⟨rfl, b1⟩
  have B1 := Lib.hid b1
  clear b1
  go_wp2_with fail
  go_ret2
  exact ⟨rfl, B1.out⟩
set_option maxHeartbeats 4000000 in
theorem star_out (g : Nat) (l b : List Nat) (root lone d : Int) (w : World) (h : MapAt w g l b root lone) (hd : d < 0 ∨ (l.length : Int) ≤ d) :
    Calls Tryz.prog 69 #[.pointer (some ⟨g, 0, none⟩), .int .i64 d] w fun en w' => en = .returned (.tuple #[.pointer none, .int .i64 1]) ∧ Below w.heap.size w w' := by
  have hal := (Below.refl w.heap.size w).alloc (Nat.le_refl _) (.cells #[.int .i64 d] 3)
  have RP : Hid (Calls Tryz.prog 96 #[.pointer (some ⟨g, 0, none⟩), .slice (some ⟨w.heap.size, 0, none⟩) 1 1] (w.alloc (.cells #[.int .i64 d] 3)) fun en w' => en = .returned (.int .i64 1) ∧ Below w.heap.size w w') := by
    have := gready_p g l b root lone (some ⟨w.heap.size, 0, none⟩) 1 1 [d] (w.alloc (.cells #[.int .i64 d] 3)) (h.below hal) ((Rd.new w 3 #[.int .i64 d] 1 (I64 [d]) (by simp [I64]) (by simp)).up (by simp)) (by omega)
    rw [rdy_out hd] at this
    exact this.mono fun en w' ⟨q1, q2⟩ => ⟨q1, hal.trans (q2.mono (by simp))⟩
  clear h hal
  go_enter Tryz.func69, Tryz.ntmps69
  go_wp2_with fail
  refine RP.out.mono ?_
  rintro en w1 ⟨rfl, b1⟩
  have B1 := Lib.hid b1
  clear b1
  go_wp2_with fail
  go_ret2
  exact ⟨rfl, B1.out⟩
set_option maxHeartbeats 4000000 in
theorem flip_out (g : Nat) (l b : List Nat) (root lone d : Int) (w : World) (h : MapAt w g l b root lone) (hd : d < 0 ∨ (l.length : Int) ≤ d) :
    Calls Tryz.prog 70 #[.pointer (some ⟨g, 0, none⟩), .int .i64 d] w fun en w' => en = .returned (.tuple #[.pointer none, .int .i64 1]) ∧ Below w.heap.size w w' := by
  have hal := (Below.refl w.heap.size w).alloc (Nat.le_refl _) (.cells #[.int .i64 d] 3)
  have RP : Hid (Calls Tryz.prog 96 #[.pointer (some ⟨g, 0, none⟩), .slice (some ⟨w.heap.size, 0, none⟩) 1 1] (w.alloc (.cells #[.int .i64 d] 3)) fun en w' => en = .returned (.int .i64 1) ∧ Below w.heap.size w w') := by
    have := gready_p g l b root lone (some ⟨w.heap.size, 0, none⟩) 1 1 [d] (w.alloc (.cells #[.int .i64 d] 3)) (h.below hal) ((Rd.new w 3 #[.int .i64 d] 1 (I64 [d]) (by simp [I64]) (by simp)).up (by simp)) (by omega)
    rw [rdy_out hd] at this
    exact this.mono fun en w' ⟨q1, q2⟩ => ⟨q1, hal.trans (q2.mono (by simp))⟩
  clear h hal
  go_enter Tryz.func70, Tryz.ntmps70
  go_wp2_with fail
  refine RP.out.mono ?_
  rintro en w1 ⟨rfl, b1⟩
  have B1 := Lib.hid b1
  clear b1
  go_wp2_with fail
  go_ret2
  exact ⟨rfl, B1.out⟩
set_option maxHeartbeats 4000000 in
theorem leaf_in (g : Nat) (l b : List Nat) (root lone : Int) (d : Nat) (w : World) (h : MapAt w g l b root lone) (hi : Inv l b) (hr : RootOk root l.length) (hd : d < l.length) (hn : l.length ≤ 60000) :
    Calls Tryz.prog 65 #[.pointer (some ⟨g, 0, none⟩), .int .i64 (d : Int)] w fun en w' => ∃ g', en = .returned (.tuple #[.pointer (some ⟨g', 0, none⟩), .int .i64 0]) ∧ MapAt w' g' (leafL l d) (leafB l b d) root lone ∧ Below w.heap.size w w' := by
  have hn2 := h.2.1
  have hal := (Below.refl w.heap.size w).alloc (Nat.le_refl _) (.cells #[.int .i64 (d : Int)] 3)
  have RP : Hid (Calls Tryz.prog 96 #[.pointer (some ⟨g, 0, none⟩), .slice (some ⟨w.heap.size, 0, none⟩) 1 1] (w.alloc (.cells #[.int .i64 (d : Int)] 3)) fun en w' => en = .returned (.int .i64 0) ∧ Below w.heap.size w w') := by
    have := gready_p g l b root lone (some ⟨w.heap.size, 0, none⟩) 1 1 [(d : Int)] (w.alloc (.cells #[.int .i64 (d : Int)] 3)) (h.below hal) ((Rd.new w 3 #[.int .i64 (d : Int)] 1 (I64 [(d : Int)]) (by simp [I64]) (by simp)).up (by simp)) (by omega)
    rw [rdy_one hd] at this
    exact this.mono fun en w' ⟨q1, q2⟩ => ⟨q1, hal.trans (q2.mono (by simp))⟩
  have TP : Hid (∀ W, Below w.heap.size w W → Calls Tryz.prog 97 #[.pointer (some ⟨g, 0, none⟩)] W fun en w' => ∃ gx, en = .returned (.pointer (some ⟨gx, 0, none⟩)) ∧ TurnsAt w' W.heap.size gx l b ∧ Below W.heap.size W w') := fun W m => turnsOf_p g l b root lone W (h.below m) hi
  obtain ⟨n, hnn⟩ : ∃ n, n = l.length := ⟨_, rfl⟩
  obtain ⟨n1, hn1⟩ : ∃ n1, n1 = l.length + 1 := ⟨_, rfl⟩
  have HN : Hid (n = l.length ∧ n1 = l.length + 1) := ⟨hnn, hn1⟩
  have HV := Lib.hid (leaf_inv hi hd)
  have hev := h.1.1
  have EP : Hid (∀ W base gx, TurnsAt W base gx (l) (b) → base ≤ W.heap.size → Calls Tryz.prog 98 #[.pointer (some ⟨gx, 0, none⟩)] W fun e w' => e = .returned (.tuple #[.int .i64 (n : Int), .int .i64 (n1 : Int)]) ∧ TurnsAt w' base gx (edgL (l)) (edgL (b)) ∧ Below base W w') := fun W base gx ht hb => by
    have := gedge_p base gx (l) (b) W ht (by omega) hb
    rw [← HN.out.2, ← HN.out.1] at this
    exact this
  have PP : Hid (∀ W base gx, TurnsAt W base gx (edgL l) (edgL b) → base ≤ W.heap.size → Calls Tryz.prog 99 #[.pointer (some ⟨gx, 0, none⟩), .int .i64 (n : Int), .int .i64 (d : Int)] W fun e w' => e = .returned (.tuple #[]) ∧ TurnsAt w' base gx (leafL l d) (leafB l b d) ∧ Below base W w') := fun W base gx ht hb => by
    have := gput_p base gx (edgL l) (edgL b) (l.length) (d) W ht (edg_inv hi) (by rw [edg_len]; omega) (by rw [edg_len]; omega) (by rw [edg_len]; omega) hb
    rw [← HN.out.1] at this
    unfold leafL leafB
    rw [← HN.out.1]
    exact this
  have DR : Hid (∀ W base gx, TurnsAt W base gx (leafL l d) (leafB l b d) → Below w.heap.size w W → Calls Tryz.prog 100 #[.pointer (some ⟨gx, 0, none⟩), .pointer (some ⟨g, 0, none⟩)] W (NewMap W (leafL l d) (leafB l b d) root lone)) := fun W base gx ht m => drawn_p base gx g (leafL l d) (leafB l b d) l b root lone W ht (h.below m) HV.out.1 (by rw [HV.out.2]; omega) (by rw [HV.out.2]; omega) (by rw [HV.out.2]; exact root_more hr (by omega) (by omega))
  clear h hal hi hnn hn1 hr hn2 hev
  go_enter Tryz.func65, Tryz.ntmps65
  go_wp2_with fail
  refine RP.out.mono ?_
  rintro en w1 ⟨rfl, b1⟩
  have B1 := Lib.hid b1
  clear b1 RP
  go_wp2_with fail
  refine (TP.out _ B1.out).mono ?_
  rintro en w2 ⟨gx, rfl, t2, b2⟩
  obtain ⟨base, hbase⟩ : ∃ base, base = w1.heap.size := ⟨_, rfl⟩
  rw [← hbase] at t2 b2
  have hw1 : w.heap.size ≤ base := by rw [hbase]; exact B1.out.size
  have B2 := B1.out.trans (b2.mono hw1)
  have s2 : base ≤ w2.heap.size := by rw [hbase]; exact b2.size
  clear b2 B1 TP hbase
  go_wp2_with fail
  refine (EP.out _ _ _ t2 s2).mono ?_
  rintro en w3 ⟨rfl, t3, b3⟩
  have B3 := B2.trans (b3.mono hw1)
  have s3 : base ≤ w3.heap.size := Nat.le_trans s2 b3.size
  clear b3 t2 B2
  go_wp2_with fail
  refine (PP.out _ _ _ t3 s3).mono ?_
  rintro en w4 ⟨rfl, t4, b4⟩
  have B4 := B3.trans (b4.mono hw1)
  have s4 : base ≤ w4.heap.size := Nat.le_trans s3 b4.size
  clear b4 t3 B3
  go_wp2_with fail
  refine (DR.out _ _ _ t4 B4).mono ?_
  rintro en w99 ⟨g9, rfl, m9, b9, lo9⟩
  have F := Lib.hid (And.intro m9 (And.intro (B4.trans (b9.mono B4.size)) lo9))
  clear m9 b9 lo9 t4
  go_wp2_with fail
  go_ret2
  exact ⟨g9, rfl, F.out.1, F.out.2.1⟩
set_option maxHeartbeats 4000000 in
theorem split_in (g : Nat) (l b : List Nat) (root lone : Int) (d : Nat) (w : World) (h : MapAt w g l b root lone) (hi : Inv l b) (hr : RootOk root l.length) (hd : d < l.length) (hn : l.length ≤ 60000) :
    Calls Tryz.prog 68 #[.pointer (some ⟨g, 0, none⟩), .int .i64 (d : Int)] w fun en w' => ∃ g', en = .returned (.tuple #[.pointer (some ⟨g', 0, none⟩), .int .i64 0]) ∧ MapAt w' g' (splitL l b d) (splitB l b d) root lone ∧ Below w.heap.size w w' := by
  have hn2 := h.2.1
  have hal := (Below.refl w.heap.size w).alloc (Nat.le_refl _) (.cells #[.int .i64 (d : Int)] 3)
  have RP : Hid (Calls Tryz.prog 96 #[.pointer (some ⟨g, 0, none⟩), .slice (some ⟨w.heap.size, 0, none⟩) 1 1] (w.alloc (.cells #[.int .i64 (d : Int)] 3)) fun en w' => en = .returned (.int .i64 0) ∧ Below w.heap.size w w') := by
    have := gready_p g l b root lone (some ⟨w.heap.size, 0, none⟩) 1 1 [(d : Int)] (w.alloc (.cells #[.int .i64 (d : Int)] 3)) (h.below hal) ((Rd.new w 3 #[.int .i64 (d : Int)] 1 (I64 [(d : Int)]) (by simp [I64]) (by simp)).up (by simp)) (by omega)
    rw [rdy_one hd] at this
    exact this.mono fun en w' ⟨q1, q2⟩ => ⟨q1, hal.trans (q2.mono (by simp))⟩
  have TP : Hid (∀ W, Below w.heap.size w W → Calls Tryz.prog 97 #[.pointer (some ⟨g, 0, none⟩)] W fun en w' => ∃ gx, en = .returned (.pointer (some ⟨gx, 0, none⟩)) ∧ TurnsAt w' W.heap.size gx l b ∧ Below W.heap.size W w') := fun W m => turnsOf_p g l b root lone W (h.below m) hi
  obtain ⟨n, hnn⟩ : ∃ n, n = l.length := ⟨_, rfl⟩
  obtain ⟨n1, hn1⟩ : ∃ n1, n1 = l.length + 1 := ⟨_, rfl⟩
  have HN : Hid (n = l.length ∧ n1 = l.length + 1) := ⟨hnn, hn1⟩
  have hev := h.1.1
  have HV := Lib.hid (split_inv hi hev hd)
  have v1 := spl1_inv hi hev hd
  have v2 := spl2_inv hi hev hd
  obtain ⟨md, hmd⟩ : ∃ md, md = mateN d := ⟨_, rfl⟩
  have HMD : Hid (md = mateN d) := hmd
  have hml := mateN_in hev hd
  have MP : Hid (∀ W, Below w.heap.size w W → Calls Tryz.prog 58 #[.pointer (some ⟨g, 0, none⟩), .int .i64 (d : Int)] W fun e w' => e = .returned (.int .i64 (md : Int)) ∧ Below W.heap.size W w') := fun W m => by rw [hmd]; exact mate_in g l b root lone d W (h.below m) hd
  have EP : Hid (∀ W base gx, TurnsAt W base gx (l) (b) → base ≤ W.heap.size → Calls Tryz.prog 98 #[.pointer (some ⟨gx, 0, none⟩)] W fun e w' => e = .returned (.tuple #[.int .i64 (n : Int), .int .i64 (n1 : Int)]) ∧ TurnsAt w' base gx (edgL (l)) (edgL (b)) ∧ Below base W w') := fun W base gx ht hb => by
    have := gedge_p base gx (l) (b) W ht (by omega) hb
    rw [← HN.out.2, ← HN.out.1] at this
    exact this
  have P1 : Hid (∀ W base gx, TurnsAt W base gx (edgL l) (edgL b) → base ≤ W.heap.size → Calls Tryz.prog 99 #[.pointer (some ⟨gx, 0, none⟩), .int .i64 (n1 : Int), .int .i64 (md : Int)] W fun e w' => e = .returned (.tuple #[]) ∧ TurnsAt w' base gx (spl1 l d) (spl1B l b d) ∧ Below base W w') := fun W base gx ht hb => by
    have := gput_p base gx (edgL l) (edgL b) (l.length + 1) (mateN d) W ht (edg_inv hi) (by rw [edg_len]; omega) (by rw [edg_len]; omega) (by rw [edg_len]; omega) hb
    rw [← HN.out.2, ← HMD.out] at this
    unfold spl1 spl1B
    rw [← HN.out.2, ← HMD.out]
    exact this
  have T1 : Hid (∀ W base gx, TurnsAt W base gx (spl1 l d) (spl1B l b d) → base ≤ W.heap.size → Calls Tryz.prog 102 #[.pointer (some ⟨gx, 0, none⟩), .int .i64 (md : Int)] W fun e w' => e = .returned (.tuple #[]) ∧ TurnsAt w' base gx (spl2 l b d) (spl2B l b d) ∧ Below base W w') := fun W base gx ht hb => by
    have := gtake_p base gx (spl1 l d) (spl1B l b d) (mateN d) W ht v1.1 (by omega) (by omega) hb
    rw [← HMD.out] at this
    unfold spl2 spl2B
    rw [← HMD.out]
    exact this
  have P2 : Hid (∀ W base gx, TurnsAt W base gx (spl2 l b d) (spl2B l b d) → base ≤ W.heap.size → Calls Tryz.prog 99 #[.pointer (some ⟨gx, 0, none⟩), .int .i64 (md : Int), .int .i64 (n : Int)] W fun e w' => e = .returned (.tuple #[]) ∧ TurnsAt w' base gx (splitL l b d) (splitB l b d) ∧ Below base W w') := fun W base gx ht hb => by
    have := gput_p base gx (spl2 l b d) (spl2B l b d) (mateN d) (l.length) W ht v2.1 (by omega) (by omega) (by omega) hb
    rw [← HN.out.1, ← HMD.out] at this
    unfold splitL splitB
    rw [← HN.out.1, ← HMD.out]
    exact this
  have DR : Hid (∀ W base gx, TurnsAt W base gx (splitL l b d) (splitB l b d) → Below w.heap.size w W → Calls Tryz.prog 100 #[.pointer (some ⟨gx, 0, none⟩), .pointer (some ⟨g, 0, none⟩)] W (NewMap W (splitL l b d) (splitB l b d) root lone)) := fun W base gx ht m => drawn_p base gx g (splitL l b d) (splitB l b d) l b root lone W ht (h.below m) HV.out.1 (by rw [HV.out.2]; omega) (by rw [HV.out.2]; omega) (by rw [HV.out.2]; exact root_more hr (by omega) (by omega))
  clear h hal hi hnn hn1 hr hn2 hev hmd v1 v2 hml
  go_enter Tryz.func68, Tryz.ntmps68
  go_wp2_with fail
  refine RP.out.mono ?_
  rintro en w1 ⟨rfl, b1⟩
  have B1 := Lib.hid b1
  clear b1 RP
  go_wp2_with fail
  refine (TP.out _ B1.out).mono ?_
  rintro en w2 ⟨gx, rfl, t2, b2⟩
  obtain ⟨base, hbase⟩ : ∃ base, base = w1.heap.size := ⟨_, rfl⟩
  rw [← hbase] at t2 b2
  have hw1 : w.heap.size ≤ base := by rw [hbase]; exact B1.out.size
  have B2 := B1.out.trans (b2.mono hw1)
  have s2 : base ≤ w2.heap.size := by rw [hbase]; exact b2.size
  clear b2 B1 TP hbase
  go_wp2_with fail
  refine (MP.out _ B2).mono ?_
  rintro en w3 ⟨rfl, z⟩
  have t3 := t2.below z
  have B3 := B2.trans (z.mono B2.size)
  have s3 : base ≤ w3.heap.size := Nat.le_trans s2 z.size
  clear z t2 B2 MP
  go_wp2_with fail
  refine (EP.out _ _ _ t3 s3).mono ?_
  rintro en w4 ⟨rfl, t4, b4⟩
  have B4 := B3.trans (b4.mono hw1)
  have s4 : base ≤ w4.heap.size := Nat.le_trans s3 b4.size
  clear b4 t3 B3
  go_wp2_with fail
  refine (P1.out _ _ _ t4 s4).mono ?_
  rintro en w5 ⟨rfl, t5, b5⟩
  have B5 := B4.trans (b5.mono hw1)
  have s5 : base ≤ w5.heap.size := Nat.le_trans s4 b5.size
  clear b5 t4 B4
  go_wp2_with fail
  refine (T1.out _ _ _ t5 s5).mono ?_
  rintro en w6 ⟨rfl, t6, b6⟩
  have B6 := B5.trans (b6.mono hw1)
  have s6 : base ≤ w6.heap.size := Nat.le_trans s5 b6.size
  clear b6 t5 B5
  go_wp2_with fail
  refine (P2.out _ _ _ t6 s6).mono ?_
  rintro en w7 ⟨rfl, t7, b7⟩
  have B7 := B6.trans (b7.mono hw1)
  have s7 : base ≤ w7.heap.size := Nat.le_trans s6 b7.size
  clear b7 t6 B6
  go_wp2_with fail
  refine (DR.out _ _ _ t7 B7).mono ?_
  rintro en w99 ⟨g9, rfl, m9, b9, lo9⟩
  have F := Lib.hid (And.intro m9 (And.intro (B7.trans (b9.mono B7.size)) lo9))
  clear m9 b9 lo9 t7
  go_wp2_with fail
  go_ret2
  exact ⟨g9, rfl, F.out.1, F.out.2.1⟩
end Go.Proofs.YtgcbdoljapnecaaGreat
