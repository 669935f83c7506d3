/- build: sync.Once calls it, the first time; ready. -/
import Derived.Test.YtdpejjokdncfnaaDoorQBuild
namespace Go.Proofs.YtdpejjokdncfnaaDoor
open Go.RowKit
set_option linter.unusedVariables false
set_option maxRecDepth 100000
/-- What a store to p leaves of the index. -/
theorem idx_off {w w' : World} {p g V n k : Nat} {r : Bool} {cs : Array Value} (h : IdxAt w g V n r k) (hb : Blk w p 76 cs) (m : Mod (fun i => i = p) w w') : IdxAt w' g V n r k :=
  h.off m fun i hi => by subst hi; exact ⟨_, _, hb, by decide, by decide, by decide⟩
set_option maxHeartbeats 1600000 in
theorem pslow_p (p g V n pb q : Nat) (w : World) (hN : Nul w) (h : PAt w p g V n false q) (hp : Blk w pb 29 #[.pointer (some ⟨p, 0, none⟩)]) (hpn : p ≠ 0) :
    Calls Tryd.prog 71 #[.pointer (some ⟨p, 1, none⟩), .func (.func 63) #[] #[.pointer (some ⟨pb, 0, none⟩)]] w fun e w' => e = .returned (.tuple #[]) ∧ PAt w' p g V n true q ∧ Mod (fun i => i = p) w w' := by
  have hix := h.ix
  obtain ⟨hgp', ⟨r, k, hk, hx⟩, H, hb, hd⟩ := h
  have hH : H = .slice none 0 0 := hd
  subst hH
  have hgp : pb ≠ p := fun e => by
    subst e
    unfold Blk at hb hp
    rw [hb] at hp
    simp at hp
  have c3 : w.cell? ⟨p, 1, none⟩ = some (.int .u32 0) := hb.cell 1
  have c4 : w.cell? ⟨p, 2, none⟩ = some (.int .i32 0) := hb.cell 2
  have f4 := hb.frozen 2
  have LK := Lib.hid (lock_free ⟨p, 2, none⟩ w c4 f4)
  have hb1 : Blk (w.setCell ⟨p, 2, none⟩ (.int .i32 1)) p 76 #[.pointer (some ⟨g, 0, none⟩), .int .u32 0, .int .i32 1, .int .u32 0, .slice none 0 0, .int .i64 0] := by
    have := hb.set_ 2 (.int .i32 1)
    simpa [b01] using this
  have m1 : Mod (fun i => i = p) w (w.setCell ⟨p, 2, none⟩ (.int .i32 1)) := Mod.setCell (p := ⟨p, 2, none⟩) (Mod.refl (fun i => i = p) w) (fun _ => rfl) _
  have hx1 : PIx (w.setCell ⟨p, 2, none⟩ (.int .i32 1)) p g V n q := ⟨hgp', ⟨r, k, hk, idx_off hx hb m1⟩, hb1.cell 0⟩
  have hN1 : Nul (w.setCell ⟨p, 2, none⟩ (.int .i32 1)) := hN.mod m1 (Ne.symm hpn)
  have BD := Lib.hid (pbuild1_p p g V n pb q (.int .u32 0) (.int .i32 1) (.int .u32 0) _ hN1 hx1 hb1 (hp.mod m1 hgp))
  have d3 : (w.setCell ⟨p, 2, none⟩ (.int .i32 1)).cell? ⟨p, 1, none⟩ = some (.int .u32 0) := hb1.cell 1
  have hl := run_call_load (P := Tryd.prog) Tryd.func74 (by kernel_rfl) (by kernel_rfl) (by kernel_rfl) .u32 (by kernel_rfl) d3
  have hnot : ∀ (x : Bool) (w : World), (Op.unary .not (.bool x)).run Tryd.prog w = .ok (.bool (!x)) w := fun _ _ => rfl
  have HX := Lib.hid hx
  have HB := Lib.hid hb
  have HM1 := Lib.hid m1
  clear hb hp hb1 m1 hx1 hix hN1 hN hd hx c4 f4
  generalize w.setCell ⟨p, 2, none⟩ (.int .i32 1) = w1 at *
  go_enter_defers Tryd.func71, Tryd.ntmps71
  go_wp2_with fail
  refine LK.out.mono ?_
  rintro e w' ⟨rfl, rfl⟩
  go_wp2_with (first | (go_at_call 70; go_in))
  refine BD.out.mono ?_
  rintro e w2 ⟨rfl, H2, hb2, ht2, m2⟩
  have FIN : Hid (PAt ((w2.drew.setCell ⟨p, 1, none⟩ (.int .u32 1)).setCell ⟨p, 2, none⟩ (.int .i32 0)) p g V n true q ∧ Mod (fun i => i = p) w ((w2.drew.setCell ⟨p, 1, none⟩ (.int .u32 1)).setCell ⟨p, 2, none⟩ (.int .i32 0))) := by
    have m3 : Mod (fun i => i = p) w2 ((w2.drew.setCell ⟨p, 1, none⟩ (.int .u32 1)).setCell ⟨p, 2, none⟩ (.int .i32 0)) := Mod.setCell (p := ⟨p, 2, none⟩) (Mod.setCell (p := ⟨p, 1, none⟩) (Mod.drew (Mod.refl (fun i => i = p) w2)) (fun _ => rfl) _) (fun _ => rfl) _
    have hm : Mod (fun i => i = p) w ((w2.drew.setCell ⟨p, 1, none⟩ (.int .u32 1)).setCell ⟨p, 2, none⟩ (.int .i32 0)) := (HM1.out.trans m2 fun _ _ h => h).trans m3 fun _ _ h => h
    refine ⟨⟨hgp', ⟨r, k, hk, idx_off HX.out HB.out hm⟩, H2, ?_, ht2.mod m3 fun i hi => by omega⟩, hm⟩
    have := ((hb2.below (Below.refl _ _).drew).set_ 1 (.int .u32 1)).set_ 2 (.int .i32 0)
    simpa [b01] using this
  have e3 : w2.cell? ⟨p, 1, none⟩ = some (.int .u32 0) := hb2.cell 1
  have e4 : w2.cell? ⟨p, 2, none⟩ = some (.int .i32 1) := hb2.cell 2
  have g3 := hb2.frozen 1
  have g4 := hb2.frozen 2
  have HB2 := Lib.hid hb2
  clear hb2 ht2 m2 d3 hl
  go_wp2_with fail
  refine leaves_cons (f := 77) (args := #[.pointer (some ⟨p, 1, none⟩), .bool true]) (by simp) (by simp [go_sem]) ?_
  refine (store_deferred ⟨p, 1, none⟩ (.int .u32 0) .returning _ e3 g3).mono ?_
  rintro e u' w'' ⟨rfl, rfl, rfl⟩
  refine leaves_cons (f := 76) (args := #[.pointer (some ⟨p, 2, none⟩)]) (by simp [settle]) (by simp [go_sem]) ?_
  refine (unlock_deferred ⟨p, 2, none⟩ _ _ ?_ ?_).mono ?_
  · exact (World.cell?_setCell_other _ ⟨p, 1, none⟩ ⟨p, 2, none⟩ _ (by simp)).trans e4
  · exact ((HB2.out.below (Below.refl _ _).drew).set_ 1 (.int .u32 1)).frozen 2
  rintro e u' w'' ⟨rfl, rfl, rfl⟩
  have F := FIN.out
  simp [Leaves, settle, results, Tryd.results71]
  exact F
set_option maxHeartbeats 1600000 in
theorem pdo_first (p g V n pb q : Nat) (w : World) (hN : Nul w) (h : PAt w p g V n false q) (hp : Blk w pb 29 #[.pointer (some ⟨p, 0, none⟩)]) (hpn : p ≠ 0) :
    Calls Tryd.prog 62 #[.pointer (some ⟨p, 1, none⟩), .func (.func 63) #[] #[.pointer (some ⟨pb, 0, none⟩)]] w fun e w' => e = .returned (.tuple #[]) ∧ PAt w' p g V n true q ∧ Mod (fun i => i = p) w w' := by
  have SL := Lib.hid (pslow_p p g V n pb q w hN h hp hpn)
  obtain ⟨_, _, H, hb, hd⟩ := h
  have c3 : w.cell? ⟨p, 1, none⟩ = some (.int .u32 0) := hb.cell 1
  have hl := run_call_load (P := Tryd.prog) Tryd.func74 (by kernel_rfl) (by kernel_rfl) (by kernel_rfl) .u32 (by kernel_rfl) c3
  have hnot : ∀ (x : Bool) (w : World), (Op.unary .not (.bool x)).run Tryd.prog w = .ok (.bool (!x)) w := fun _ _ => rfl
  clear hb hd hp hN
  go_enter Tryd.func62, Tryd.ntmps62
  go_wp2_with (first | (go_at_call 70; go_in))
  refine SL.out.mono ?_
  rintro e w2 ⟨rfl, h2⟩
  have H2 := Lib.hid h2
  clear h2
  go_wp2_with fail
  exact bodyPost_end (results_none rfl _ _ _) rfl ⟨rfl, H2.out⟩
/-- build: whether it has been done or not. -/
theorem pbuild_p (p g V n q : Nat) (d : Bool) (w : World) (hN : Nul w) (h : PAt w p g V n d q) (hpn : p ≠ 0) :
    Calls Tryd.prog 48 #[.pointer (some ⟨p, 0, none⟩)] w fun e w' => e = .returned (.tuple #[]) ∧ PAt w' p g V n true q ∧ Mod (fun i => i = p) w w' := by
  have hmf : ∀ (fn : Fn) (first cap : Array Value) (w : World), (Instr.makeFunc fn first cap).run Tryd.prog w = .ok (.func fn first cap) w := fun _ _ _ _ => rfl
  have hbx := (Below.refl w.heap.size w).alloc (Nat.le_refl _) (.cells #[.pointer (some ⟨p, 0, none⟩)] 29)
  have h1 := h.below hbx
  have n1 := hN.bel hbx
  have m0 : Mod (fun i => i = p) w (w.alloc (.cells #[.pointer (some ⟨p, 0, none⟩)] 29)) := Mod.alloc (Mod.refl _ w) _
  have hgl := h.lt
  cases d with
  | false =>
    have DF := Lib.hid (pdo_first p g V n w.heap.size q _ n1 h1 (Blk.new w _ _) hpn)
    have M0 := Lib.hid m0
    clear h h1 hbx m0 hN n1
    go_enter Tryd.func48, Tryd.ntmps48
    go_wp2_with fail
    refine DF.out.mono ?_
    rintro e w2 ⟨rfl, h2, m2⟩
    have H2 := Lib.hid h2
    have M2 : Hid (Mod (fun i => i = p) w w2) := M0.out.trans m2 fun _ _ h => h
    clear h2 m2
    go_wp2_with fail
    exact bodyPost_end (results_none rfl _ _ _) rfl ⟨rfl, H2.out, M2.out⟩
  | true =>
    have c3 : (w.alloc (.cells #[.pointer (some ⟨p, 0, none⟩)] 29)).cell? ⟨p, 1, none⟩ = some (.int .u32 1) := by
      obtain ⟨_, _, H, hb, _⟩ := h1
      exact hb.cell 1
    have DD := Lib.hid (fun fv => do_done ⟨p, 1, none⟩ fv _ c3)
    have M0 := Lib.hid m0
    have H1 := Lib.hid h1
    clear h h1 hbx m0 c3 hN n1
    go_enter Tryd.func48, Tryd.ntmps48
    go_wp2_with fail
    refine (DD.out _).mono ?_
    rintro e w2 ⟨rfl, rfl⟩
    go_wp2_with fail
    exact bodyPost_end (results_none rfl _ _ _) rfl ⟨rfl, H1.out, M0.out⟩
theorem ready_ok (p g V n q : Nat) (d : Bool) (a b l : Int) (w : World) (hN : Nul w) (h : PAt w p g V n d q) (hpn : p ≠ 0) (h1 : 0 ≤ a) (h2 : a ≤ b) (h3 : b ≤ l) :
    Calls Tryd.prog 31 #[.pointer (some ⟨p, 0, none⟩), .int .i64 a, .int .i64 b, .int .i64 l] w fun e w' => e = .returned (.int .i64 0) ∧ PAt w' p g V n true q ∧ Mod (fun i => i = p) w w' := by
  have BP := Lib.hid (pbuild_p p g V n q d w hN h hpn)
  have d1 : decide (a < 0) = false := decide_eq_false (by omega)
  have d2 : decide (b < a) = false := decide_eq_false (by omega)
  have d3 : decide (l < b) = false := decide_eq_false (by omega)
  clear h hN
  go_enter Tryd.func31, Tryd.ntmps31
  go_wp2_with fail
  refine BP.out.mono ?_
  rintro e w2 ⟨rfl, h2, m2⟩
  have H2 := Lib.hid h2
  have M2 := Lib.hid m2
  clear h2 m2 BP
  go_wp2_with fail
  go_ret
  exact ⟨rfl, H2.out, M2.out⟩
theorem ready_no (p : Nat) (a b l : Int) (w : World) (h : a < 0 ∨ b < a ∨ l < b) :
    Calls Tryd.prog 31 #[.pointer (some ⟨p, 0, none⟩), .int .i64 a, .int .i64 b, .int .i64 l] w fun e w' => e = .returned (.int .i64 1) ∧ w = w' := by
  by_cases h1 : a < 0
  · go_enter Tryd.func31, Tryd.ntmps31
    go_wp2_with fail
    go_ret
    exact ⟨rfl, rfl⟩
  · have d1 : decide (a < 0) = false := decide_eq_false h1
    by_cases h2 : b < a
    · go_enter Tryd.func31, Tryd.ntmps31
      go_wp2_with fail
      go_ret
      exact ⟨rfl, rfl⟩
    · have d2 : decide (b < a) = false := decide_eq_false h2
      have h3 : l < b := by omega
      go_enter Tryd.func31, Tryd.ntmps31
      go_wp2_with fail
      go_ret
      exact ⟨rfl, rfl⟩
theorem ready_nil (a b l : Int) (w : World) :
    Calls Tryd.prog 31 #[.pointer none, .int .i64 a, .int .i64 b, .int .i64 l] w fun e w' => e = .returned (.int .i64 2) ∧ w = w' := by
  go_enter Tryd.func31, Tryd.ntmps31
  go_wp2_with fail
  go_ret
  exact ⟨rfl, rfl⟩
end Go.Proofs.YtdpejjokdncfnaaDoor
