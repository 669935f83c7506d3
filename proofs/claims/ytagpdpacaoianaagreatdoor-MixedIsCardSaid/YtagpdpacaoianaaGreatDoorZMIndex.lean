/- Index: the index of a word. -/
import Derived.Test.YtagpdpacaoianaaGreatDoorZMIdx
import Derived.Test.YtagpdpacaoianaaGreatDoorZMVec
import Derived.Test.YtagpdpacaoianaaGreatDoorZMLaid
import Derived.Test.YtagpdpacaoianaaGreatDoorZQNew
import Derived.BigRegion
import Derived.BigQuiet
namespace Go.Proofs.YtagpdpacaoianaaGreatDoor
set_option maxRecDepth 20000
open Go.RowKit
set_option linter.unusedVariables false

theorem MTabs.below {w w' : World} (h : MTabs w) (m : Below w.heap.size w w') : MTabs w' := ⟨h.tab.below h.lt m, h.nul.bel m, Nat.lt_of_lt_of_le h.lt m.size⟩
theorem shapeOf_p (k : Nat) (w : World) (hk : k < 4) : Calls Tryz.prog 51 #[.int .i64 (k : Int)] w fun e w' => e = .returned (.int .i64 ((k / 2 : Nat) : Int)) ∧ w = w' := by
  have h1 : (k : Int).tdiv 2 = ((k / 2 : Nat) : Int) := by rw [Int.tdiv_eq_ediv_of_nonneg (by omega)]; omega
  have h2 : IntKind.i64.wrap ((k / 2 : Nat) : Int) = ((k / 2 : Nat) : Int) := by simp [IntKind.wrap, IntKind.signed, IntKind.bits]; omega
  generalize k / 2 = y at *
  go_enter Tryz.func51, Tryz.ntmps51
  go_wp2_with fail
  go_ret
  exact ⟨by first | rfl | (show _ = _; simp [h1, h2]), rfl⟩
theorem opening_p (k : Nat) (w : World) (hk : k < 4) : Calls Tryz.prog 54 #[.int .i64 (k : Int)] w fun e w' => e = .returned (.int .i64 ((1 - k % 2 : Nat) : Int)) ∧ w = w' := by
  have h1 : (k : Int).tmod 2 = ((k % 2 : Nat) : Int) := by rw [Int.tmod_eq_emod_of_nonneg (by omega)]; omega
  obtain ⟨y, hy⟩ : ∃ y, y = k % 2 := ⟨_, rfl⟩
  have h2 : (1 : Int) - (y : Int) = ((1 - y : Nat) : Int) := by omega
  have h3 : IntKind.i64.wrap ((1 : Int) - (y : Int)) = ((1 - y : Nat) : Int) := by rw [h2]; simp [IntKind.wrap, IntKind.signed, IntKind.bits]; omega
  rw [← hy] at h1 ⊢
  generalize 1 - y = z at *
  clear hy
  go_enter Tryz.func54, Tryz.ntmps54
  go_wp2_with fail
  go_ret
  exact ⟨by first | rfl | (show _ = _; simp [h2, h3]), rfl⟩
theorem ownF_p (k s bx : Nat) (w : World) (hk : k < 4) (hc : w.cell? ⟨bx, 0, none⟩ = some (.int .i64 (s : Int))) :
    Calls Tryz.prog 52 #[.int .i64 (k : Int), .pointer (some ⟨bx, 0, none⟩)] w fun e w' => e = .returned (.bool (decide (k / 2 = s))) ∧ ∃ j, w' = w.drewN j := by
  have SP := Lib.hid (fun W => shapeOf_p k W hk)
  have hd : decide (((k / 2 : Nat) : Int) = (s : Int)) = decide (k / 2 = s) := by rw [decide_eq_decide]; omega
  have hd2 : ((((k / 2 : Nat) : Int)) == (s : Int)) = decide (k / 2 = s) := by rw [← hd]; rfl
  generalize decide (k / 2 = s) = bb at *
  generalize k / 2 = y at *
  go_enter Tryz.func52, Tryz.ntmps52
  go_wp2_with fail
  go_quiet ((go_at_call 51; exact Calls.quiet_of_same ((SP.out _).mono fun e w' ⟨he, hw⟩ => ⟨he, hw.symm⟩)))
  go_wp2_with fail
  go_ret
  exact ⟨by first | rfl | (show _ = _; simp [hd]), _, rfl⟩
/-- What vector answers. -/
def VecPost (w : World) (l : List Nat) (e : Ending) (w' : World) : Prop := ∃ gv A, e = .returned (.pointer (some ⟨gv, 0, none⟩)) ∧ VecAt w' gv (val l) l.length A ∧ Below w.heap.size w w' ∧ w.heap.size ≤ gv
theorem vecL_shp {ks : List Nat} (h : Kds ks) : vecL (fun k => decide (Kd (k : Int))) (· / 2) ks = shp ks := by
  unfold vecL shp
  rw [List.filter_eq_self.2 fun k hk => by rw [decide_eq_true_iff]; have := h k hk; exact ⟨by omega, by omega⟩]
theorem vecL_own (s : Nat) (ks : List Nat) : vecL (fun k => decide (k / 2 = s)) (fun k => 1 - k % 2) ks = ownL s ks := rfl
/-- What Index is to be told of a word's letters. -/
structure Tells (w : World) (pv : Option Addr) (ks : List Nat) : Prop where
  v0 : ∀ W, Below w.heap.size w W → Calls Tryz.prog 50 #[.pointer pv, .func (.func 40) #[] #[], .func (.func 51) #[] #[]] W (VecPost W (shp ks))
  v1 : ∀ s bx W, s < 2 → Below w.heap.size w W → W.cell? ⟨bx, 0, none⟩ = some (.int .i64 ((s : Nat) : Int)) → Calls Tryz.prog 50 #[.pointer pv, .func (.func 52) #[] #[.pointer (some ⟨bx, 0, none⟩)], .func (.func 54) #[] #[]] W (VecPost W (ownL s ks))
theorem tells_word (B g : Nat) (ks : List Nat) (w : World) (h : WordAt w B g ks) (hn : ks.length ≤ 300000) : Tells w (some ⟨g, 0, none⟩) ks := by
  refine ⟨fun W m => ?_, fun s bx W hs m hc => ?_⟩
  · have h1 := vector_a 40 51 (fun k => decide (Kd (k : Int))) (· / 2) B g ks W (h.below m) hn (fun k hk => by omega) (fun _ _ => rfl) (fun _ _ => rfl)
      (fun k hk W2 _ => (isKind_p (k : Int) W2).mono fun e w' ⟨he, hw⟩ => ⟨he, 0, hw.symm⟩) (fun k hk W2 => shapeOf_p k W2 hk)
    rw [vecL_shp h.1] at h1
    exact h1
  · exact vector_b 52 54 bx (fun k => decide (k / 2 = s)) (fun k => 1 - k % 2) B g ks W (h.below m) hn (fun k hk => by omega) (fun _ _ => rfl) (fun _ _ => rfl)
      (fun k hk W2 m2 => ownF_p k s bx W2 hk ((m2.cell (p := ⟨bx, 0, none⟩) (World.block_lt_of_cell? _ _ hc)).trans hc)) (fun k hk W2 => opening_p k W2 hk)
theorem vector_nil (v1 v2 : Value) (w : World) : Calls Tryz.prog 50 #[.pointer none, v1, v2] w (VecPost w []) := by
  have BN := Lib.hid bnew_p
  have LP := Lib.hid mlen_nil
  go_enter Tryz.func50, Tryz.ntmps50
  go_wp2_with fail
  refine (BN.out _).mono ?_
  rintro e w1 ⟨rfl, hv, b1⟩
  have HV := Lib.hid hv
  have B1 := Lib.hid b1
  clear hv b1 BN
  go_wp2_with fail
  refine (LP.out _).mono ?_
  rintro e w2 ⟨rfl, rfl⟩
  go_wp2_with fail
  go_loopw [13] (fun i wr => i = .int .i64 0 ∧ w1 = wr) (fun _ _ => 0)
  case atStart => exact ⟨rfl, rfl⟩
  case round =>
    obtain ⟨rfl, rfl⟩ := hrel
    go_wp2_with fail
    go_ret
    first | exact ⟨_, none, rfl, HV.out, B1.out, Nat.le_refl _⟩ | exact ⟨_, rfl, ⟨none, HV.out⟩, B1.out, Nat.le_refl _⟩
theorem tells_nil (w : World) : Tells w none [] := ⟨fun W m => vector_nil _ _ W, fun s bx W _ m _ => vector_nil _ _ W⟩
/-- The index, half made. -/
def IxS (w wr : World) (m gx : Nat) (ks : List Nat) (v1 v2 : Value) : Prop :=
  Blk wr m 79 #[.pointer (some ⟨gx, 0, none⟩), v1, v2] ∧ IdxAt wr gx (val (shp ks)) ks.length false 0 ∧ Below w.heap.size w wr ∧ w.heap.size ≤ gx ∧ w.heap.size ≤ m
theorem IxS.below {w wr w' : World} {m gx : Nat} {ks : List Nat} {v1 v2 : Value} (h : IxS w wr m gx ks v1 v2) (b : Below wr.heap.size wr w') : IxS w w' m gx ks v1 v2 :=
  ⟨h.1.below b, h.2.1.below b, h.2.2.1.trans (b.mono h.2.2.1.size), h.2.2.2⟩
def PS (w wr : World) (p g s : Nat) (ks : List Nat) : Prop := PAt wr p g (val (ownL s ks)) (ownL s ks).length false 0 ∧ Bal (exc (val (ownL s ks))) (ownL s ks).length ∧ w.heap.size ≤ g
theorem PS.below {w wr w' : World} {p g s : Nat} {ks : List Nat} (h : PS w wr p g s ks) (b : Below wr.heap.size wr w') : PS w w' p g s ks := ⟨h.1.below b, h.2⟩
theorem IxS.ne {w wr : World} {m gx : Nat} {ks : List Nat} {v1 v2 : Value} (h : IxS w wr m gx ks v1 v2) : m ≠ gx := fun e => by
  obtain ⟨cx, bx⟩ := h.2.1.blk_
  exact absurd (blk_ty (e ▸ h.1) bx) (by decide)
theorem IxS.put (k : Nat) (u : Value) (n : Nat) {w wr : World} {m gx : Nat} {ks : List Nat} {v1 v2 : Value} (h : IxS w wr m gx ks v1 v2) :
    Blk ((wr.drewN n).setCell ⟨m, k, none⟩ u) m 79 (#[.pointer (some ⟨gx, 0, none⟩), v1, v2].setIfInBounds k u) ∧ IdxAt ((wr.drewN n).setCell ⟨m, k, none⟩ u) gx (val (shp ks)) ks.length false 0 ∧ Below w.heap.size w ((wr.drewN n).setCell ⟨m, k, none⟩ u) ∧ w.heap.size ≤ gx ∧ w.heap.size ≤ m :=
  ⟨(h.1.drewN n).set_ k u, h.2.1.apart (Mod.setCell (p := ⟨m, k, none⟩) ((Mod.refl (fun i => i = m) wr).drewN n) (fun _ => rfl) u) (fun i hi => by
      subst hi; exact ⟨h.ne, _, _, h.1, by decide, by decide⟩), (below_draws h.2.2.1 n).setCell (p := ⟨m, k, none⟩) h.2.2.2.2 u, h.2.2.2⟩
theorem IxS.put1 {w wr : World} {m gx : Nat} {ks : List Nat} {v1 v2 : Value} (h : IxS w wr m gx ks v1 v2) (u : Value) (n : Nat) : IxS w ((wr.drewN n).setCell ⟨m, 1, none⟩ u) m gx ks u v2 := h.put 1 u n
theorem IxS.put2 {w wr : World} {m gx : Nat} {ks : List Nat} {v1 v2 : Value} (h : IxS w wr m gx ks v1 v2) (u : Value) (n : Nat) : IxS w ((wr.drewN n).setCell ⟨m, 2, none⟩ u) m gx ks v1 u := h.put 2 u n
theorem PS.put {w wr : World} {m p g s : Nat} {ks : List Nat} {cs : Array Value} (h : PS w wr p g s ks) (hm : Blk wr m 79 cs) (k : Nat) (u : Value) (n : Nat) : PS w ((wr.drewN n).setCell ⟨m, k, none⟩ u) p g s ks := by
  obtain ⟨ca, ba⟩ := h.1.blk_
  obtain ⟨cga, bga⟩ := h.1.gblk
  refine ⟨h.1.apart (Mod.setCell (p := ⟨m, k, none⟩) ((Mod.refl (fun i => i = m) wr).drewN n) (fun _ => rfl) u) (fun i hi => ?_), h.2⟩
  subst hi
  exact ⟨fun e => absurd (blk_ty (e ▸ hm) bga) (by decide), fun e => absurd (blk_ty (e ▸ hm) ba) (by decide), _, _, hm, by decide, by decide, by decide⟩
/-- The pairs made so far. -/
def IxL (w wr : World) (m gx : Nat) (ks : List Nat) (i : Value) : Prop :=
  (i = .int .i64 0 ∧ Hid (IxS w wr m gx ks (.pointer none) (.pointer none))) ∨
  (i = .int .i64 1 ∧ ∃ p0 g0, Hid (IxS w wr m gx ks (.pointer (some ⟨p0, 0, none⟩)) (.pointer none)) ∧ Hid (PS w wr p0 g0 0 ks) ∧ Hid (m < g0)) ∨
  (i = .int .i64 2 ∧ ∃ p0 g0 p1 g1, Hid (IxS w wr m gx ks (.pointer (some ⟨p0, 0, none⟩)) (.pointer (some ⟨p1, 0, none⟩))) ∧ Hid (PS w wr p0 g0 0 ks) ∧ Hid (PS w wr p1 g1 1 ks) ∧ Hid (m < g0 ∧ p0 < g1))
/-- What Index answers. -/
def IxPost (w : World) (ks : List Nat) (e : Ending) (w' : World) : Prop :=
  (∃ m gx p0 g0 p1 g1, e = .returned (.tuple #[.pointer (some ⟨m, 0, none⟩), .int .i64 0]) ∧ Mx w w' m gx p0 g0 p1 g1 ks 0) ∨
    (¬ (Bal (exc (val (ownL 0 ks))) (ownL 0 ks).length ∧ Bal (exc (val (ownL 1 ks))) (ownL 1 ks).length) ∧ e = .returned (.tuple #[.pointer none, .int .i64 9]) ∧ Below w.heap.size w w')
set_option maxHeartbeats 4000000 in
theorem index_p (pv : Option Addr) (ks : List Nat) (w : World) (hk : Kds ks) (hT : MTabs w) (hV : Tells w pv ks) :
    Calls Tryz.prog 21 #[.pointer pv] w (IxPost w ks) := by
  have HK := Lib.hid hk
  have HT := Lib.hid hT
  have HV := Lib.hid hV
  have hmf : ∀ (fn : Fn) (first cap : Array Value) (w : World), (Instr.makeFunc fn first cap).run Tryz.prog w = .ok (.func fn first cap) w := fun _ _ _ _ => rfl
  have V0 := Lib.hid (hV.v0 w (Below.refl _ _))
  clear hk hT hV
  go_enter Tryz.func21, Tryz.ntmps21
  go_wp2_with fail
  refine V0.out.mono ?_
  rintro e w1 ⟨gv, A, rfl, hv, b1, _⟩
  have XN := Lib.hid (xnew_p gv _ _ _ A w1 hv)
  have B1 := Lib.hid b1
  clear hv b1 V0
  go_wp2_with fail
  refine XN.out.mono ?_
  rintro e w2 ⟨gx, rfl, hx, hg, b2⟩
  rw [shp_len] at hx
  have B2 := Lib.hid (B1.out.trans (b2.mono B1.out.size))
  have h12 : w.heap.size ≤ w1.heap.size := B1.out.size
  have h22 : w1.heap.size ≤ w2.heap.size := b2.size
  have IX : Hid (IxS w (w2.alloc (.cells #[.pointer (some ⟨gx, 0, none⟩), .pointer none, .pointer none] 79)) w2.heap.size gx ks (.pointer none) (.pointer none)) :=
    ⟨Blk.new w2 _ _, hx.below ((Below.refl _ _).alloc (Nat.le_refl _) _), B2.out.alloc B2.out.size _, by omega, by omega⟩
  have hgl : gx < w2.heap.size := hx.lt
  clear hx b2 XN B1
  obtain ⟨m, hmm⟩ : ∃ m, m = w2.heap.size := ⟨_, rfl⟩
  have hs3 : (w2.alloc (.cells #[.pointer (some ⟨gx, 0, none⟩), .pointer none, .pointer none] 79)).heap.size = m + 1 := by rw [hmm]; simp
  rw [← hmm] at IX hgl
  have HS3 := Lib.hid hs3
  have HGL := Lib.hid hgl
  have HMM := Lib.hid hmm
  clear hs3 hgl B2 h12 h22
  go_wp2_with fail
  rw [← hmm]
  clear hmm
  generalize w2.alloc (.cells #[.pointer (some ⟨gx, 0, none⟩), .pointer none, .pointer none] 79) = w3 at *
  go_loopw [14] (fun i wr => IxL w wr m gx ks i) (fun i _ => 2 - (intOf i).toNat)
  case atStart => exact .inl ⟨rfl, IX⟩
  case round =>
    clear IX
    obtain ⟨rfl, IX⟩ | ⟨rfl, p0, g0, IX, P0, HO⟩ | ⟨rfl, p0, g0, p1, g1, IX, P0, P1, HO⟩ := hrel
    · have bk := Blk.new wr 3 #[.int .i64 0]
      have b0 := (Below.refl wr.heap.size wr).alloc (Nat.le_refl _) (.cells #[.int .i64 0] 3)
      have hsz : (wr.alloc (.cells #[.int .i64 0] 3)).heap.size = wr.heap.size + 1 := by simp
      have V1 := Lib.hid (HV.out.v1 0 wr.heap.size (wr.alloc (.cells #[.int .i64 0] 3)) (by decide) (IX.out.2.2.1.trans (b0.mono IX.out.2.2.1.size)) (bk.cell 0))
      have HBK := Lib.hid bk
      have HB0 := Lib.hid b0
      have HSZ := Lib.hid hsz
      clear bk b0 hsz
      go_wp2_with fail
      refine V1.out.mono ?_
      rintro e w4 ⟨gv, A, rfl, hv, b4, _⟩
      have PN := Lib.hid (pnew_p gv _ _ _ A w4 hv)
      have B4 := Lib.hid (HB0.out.trans (b4.mono HB0.out.size))
      have BK4 := Lib.hid (HBK.out.below b4)
      clear hv b4 V1 HBK HB0
      go_wp2_with fail
      refine PN.out.mono ?_
      rintro e w5 (⟨hb, p, g, rfl, hp, hg, b5⟩ | ⟨hnb, rfl, b5⟩)
      · have BB := Lib.hid hb
        have B5 := Lib.hid (B4.out.trans (b5.mono B4.out.size))
        have k1 : w5.cell? ⟨wr.heap.size, 0, none⟩ = some (.int .i64 0) := (BK4.out.below b5).cell 0
        have I5 := Lib.hid (IX.out.below B5.out)
        have c1 : w5.cell? ⟨m, 1, none⟩ = some (.pointer none) := I5.out.1.cell 1
        have f1 : w5.frozen? ⟨m, 1, none⟩ = false := I5.out.1.frozen 1
        have hgm : m < g := by have h1 := IX.out.1.lt; have h2 := B4.out.size; omega
        have P5 : Hid (PS w w5 p g 0 ks) := ⟨hp, BB.out, by have h1 := IX.out.2.2.1.size; have h2 := B4.out.size; omega⟩
        have HG := Lib.hid hgm
        have IN := Lib.hid (fun n => I5.out.put1 (.pointer (some ⟨p, 0, none⟩)) n)
        have PX := Lib.hid (fun n => P5.out.put I5.out.1 1 (.pointer (some ⟨p, 0, none⟩)) n)
        clear hb hp hg b5 hgm PN B4 BK4 IX B5 I5 P5
        go_wp2_with fail
        go_region
        all_goals (
          go_wp2_with fail
          go_roundw
          case rel => exact .inr (.inl ⟨by go_num, p, g, IN.out _, PX.out _, HG⟩)
          case measure => simp [intOf])
      · have HNB := Lib.hid hnb
        have B5 : Hid (Below w.heap.size w w5) := IX.out.2.2.1.trans ((B4.out.trans (b5.mono B4.out.size)).mono IX.out.2.2.1.size)
        clear hnb b5 PN B4 BK4 IX
        go_wp2_with fail
        go_ret2
        exact .inr ⟨fun h => HNB.out h.1, rfl, B5.out⟩
    · have bk := Blk.new wr 3 #[.int .i64 1]
      have b0 := (Below.refl wr.heap.size wr).alloc (Nat.le_refl _) (.cells #[.int .i64 1] 3)
      have hsz : (wr.alloc (.cells #[.int .i64 1] 3)).heap.size = wr.heap.size + 1 := by simp
      have V1 := Lib.hid (HV.out.v1 1 wr.heap.size (wr.alloc (.cells #[.int .i64 1] 3)) (by decide) (IX.out.2.2.1.trans (b0.mono IX.out.2.2.1.size)) (bk.cell 0))
      have HBK := Lib.hid bk
      have HB0 := Lib.hid b0
      have HSZ := Lib.hid hsz
      clear bk b0 hsz
      go_wp2_with fail
      refine V1.out.mono ?_
      rintro e w4 ⟨gv, A, rfl, hv, b4, _⟩
      have PN := Lib.hid (pnew_p gv _ _ _ A w4 hv)
      have B4 := Lib.hid (HB0.out.trans (b4.mono HB0.out.size))
      have BK4 := Lib.hid (HBK.out.below b4)
      clear hv b4 V1 HBK HB0
      go_wp2_with fail
      refine PN.out.mono ?_
      rintro e w5 (⟨hb, p, g, rfl, hp, hg, b5⟩ | ⟨hnb, rfl, b5⟩)
      · have BB := Lib.hid hb
        have B5 := Lib.hid (B4.out.trans (b5.mono B4.out.size))
        have k1 : w5.cell? ⟨wr.heap.size, 0, none⟩ = some (.int .i64 1) := (BK4.out.below b5).cell 0
        have I5 := Lib.hid (IX.out.below B5.out)
        have c1 : w5.cell? ⟨m, 2, none⟩ = some (.pointer none) := I5.out.1.cell 2
        have f1 : w5.frozen? ⟨m, 2, none⟩ = false := I5.out.1.frozen 2
        have hgm : m < g0 ∧ p0 < g := ⟨HO.out, by have h1 := P0.out.1.lt; have h2 := B4.out.size; omega⟩
        have P5 : Hid (PS w w5 p g 1 ks) := ⟨hp, BB.out, by have h1 := IX.out.2.2.1.size; have h2 := B4.out.size; omega⟩
        have HG := Lib.hid hgm
        have IN := Lib.hid (fun n => I5.out.put2 (.pointer (some ⟨p, 0, none⟩)) n)
        have PX := Lib.hid (fun n => P5.out.put I5.out.1 2 (.pointer (some ⟨p, 0, none⟩)) n)
        have PY := Lib.hid (fun n => (P0.out.below B5.out).put I5.out.1 2 (.pointer (some ⟨p, 0, none⟩)) n)
        clear hb hp hg b5 hgm PN B4 BK4 IX B5 I5 P5 P0 HO
        go_wp2_with fail
        go_region
        all_goals (
          go_wp2_with fail
          go_roundw
          case rel => exact .inr (.inr ⟨by go_num, p0, g0, p, g, IN.out _, PY.out _, PX.out _, HG⟩)
          case measure => simp [intOf])
      · have HNB := Lib.hid hnb
        have B5 : Hid (Below w.heap.size w w5) := IX.out.2.2.1.trans ((B4.out.trans (b5.mono B4.out.size)).mono IX.out.2.2.1.size)
        clear hnb b5 PN B4 BK4 IX P0 HO
        go_wp2_with fail
        go_ret2
        exact .inr ⟨fun h => HNB.out h.2, rfl, B5.out⟩
    · have MX : Hid (Mx w wr m gx p0 g0 p1 g1 ks 0) := by
        have h := IX.out
        have a := P0.out.1.1
        have b := P1.out.1.1
        have o := HO.out
        have g := HGL.out
        exact ⟨h.1, ⟨false, 0, Nat.le_refl _, h.2.1⟩, ⟨false, P0.out.1⟩, ⟨false, P1.out.1⟩, ⟨by omega, by omega, by omega, by omega⟩, ⟨h.2.2.2.2, h.2.2.2.1, P0.out.2.2, P1.out.2.2⟩, HK.out, P0.out.2.1, P1.out.2.1, h.2.2.1, HT.out.nul, HT.out.tab, HT.out.lt⟩
      clear IX P0 P1 HO
      go_wp2_with fail
      go_ret2
      exact .inl ⟨m, gx, p0, g0, p1, g1, rfl, MX.out⟩
end Go.Proofs.YtagpdpacaoianaaGreatDoor
