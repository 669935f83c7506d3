/- build: sync.Once calls it, the first time. -/
import Derived.Test.YtdpejjokdncfnaaDoorKBuild
namespace Go.Proofs.YtdpejjokdncfnaaDoor
open Go.RowKit
set_option linter.unusedVariables false

set_option maxRecDepth 100000 in
set_option maxHeartbeats 1600000 in
theorem slow_p (g V n pb q : Nat) (w : World) (h : IdxAt w g V n false q) (hp : Blk w pb 56 #[.pointer (some ⟨g, 0, none⟩)]) :
    Calls Tryd.prog 71 #[.pointer (some ⟨g, 3, none⟩), .func (.func 68) #[] #[.pointer (some ⟨pb, 0, none⟩)]] w fun e w' => e = .returned (.tuple #[]) ∧ IdxAt w' g V n true q ∧ Mod (fun i => i = g) w w' := by
  obtain ⟨hV, hn, A, c, H, hb, ho, hd⟩ := h
  have hH : H = .slice none 0 0 := hd
  subst hH
  have hgp : pb ≠ g := fun e => by
    subst e
    unfold Blk at hb hp
    rw [hb] at hp
    simp at hp
  have c3 : w.cell? ⟨g, 3, none⟩ = some (.int .u32 0) := hb.cell 3
  have c4 : w.cell? ⟨g, 4, none⟩ = some (.int .i32 0) := hb.cell 4
  have f4 := hb.frozen 4
  have LK := Lib.hid (lock_free ⟨g, 4, none⟩ w c4 f4)
  have hb1 : Blk (w.setCell ⟨g, 4, none⟩ (.int .i32 1)) g 88 #[.slice A ((n + 63) / 64) c, .int .i64 (n : Int), .int .i64 ((pop V n : Nat) : Int), .int .u32 0, .int .i32 1, .int .u32 0, .slice none 0 0, .int .i64 0, .int .i64 (q : Int)] := by
    have := hb.set_ 4 (.int .i32 1)
    simpa [b01] using this
  have m1 : Mod (fun i => i = g) w (w.setCell ⟨g, 4, none⟩ (.int .i32 1)) := Mod.setCell (p := ⟨g, 4, none⟩) (Mod.refl (fun i => i = g) w) (fun _ => rfl) _
  have ho1 : (w.setCell ⟨g, 4, none⟩ (.int .i32 1)).ownsRow (g + 1) 55 1 (.slice A ((n + 63) / 64) c) ((n + 63) / 64) (U64 (words V ((n + 63) / 64))) := own_mod ho m1 fun k hk hx => by
    have := (ho.lt k hk).1; omega
  have BD := Lib.hid (build1_p g V n pb c A (.int .u32 0) (.int .i32 1) (.int .u32 0) (.int .i64 (q : Int)) _ hV hn hb1 ho1 (hp.mod m1 hgp))
  have d3 : (w.setCell ⟨g, 4, none⟩ (.int .i32 1)).cell? ⟨g, 3, none⟩ = some (.int .u32 0) := hb1.cell 3
  have hl := run_call_load (P := Tryd.prog) Tryd.func74 (by kernel_rfl) (by kernel_rfl) (by kernel_rfl) .u32 (by kernel_rfl) d3
  have hnot : ∀ (x : Bool) (w : World), (Op.unary .not (.bool x)).run Tryd.prog w = .ok (.bool (!x)) w := fun _ _ => rfl
  have HO := Lib.hid ho1
  have HM1 := Lib.hid m1
  have HV := Lib.hid (And.intro hV hn)
  clear hb hp hb1 m1 ho1 ho hd hgp hV c4 f4
  generalize w.setCell ⟨g, 4, none⟩ (.int .i32 1) = w1 at *
  go_enter_defers Tryd.func71, Tryd.ntmps71
  go_wp2_with fail
  refine LK.out.mono ?_
  rintro e w' ⟨rfl, rfl⟩
  go_wp2_with (first | (go_at_call 70; go_in))
  refine BD.out.mono ?_
  rintro e w2 ⟨rfl, S, d, hb2, ho2, m2⟩
  have FIN : Hid (IdxAt ((w2.drew.setCell ⟨g, 3, none⟩ (.int .u32 1)).setCell ⟨g, 4, none⟩ (.int .i32 0)) g V n true q ∧ Mod (fun i => i = g) w ((w2.drew.setCell ⟨g, 3, none⟩ (.int .u32 1)).setCell ⟨g, 4, none⟩ (.int .i32 0))) := by
    have m3 : Mod (fun i => i = g) w2 ((w2.drew.setCell ⟨g, 3, none⟩ (.int .u32 1)).setCell ⟨g, 4, none⟩ (.int .i32 0)) := Mod.setCell (p := ⟨g, 4, none⟩) (Mod.setCell (p := ⟨g, 3, none⟩) (Mod.drew (Mod.refl (fun i => i = g) w2)) (fun _ => rfl) _) (fun _ => rfl) _
    have hm : Mod (fun i => i = g) w ((w2.drew.setCell ⟨g, 3, none⟩ (.int .u32 1)).setCell ⟨g, 4, none⟩ (.int .i32 0)) := (HM1.out.trans m2 fun _ _ h => h).trans m3 fun _ _ h => h
    refine ⟨⟨HV.out.1, HV.out.2, A, c, .slice S (blk n + 1) d, ?_, ?_, S, d, rfl, ?_⟩, hm⟩
    · have := ((hb2.below (Below.refl _ _).drew).set_ 3 (.int .u32 1)).set_ 4 (.int .i32 0)
      simpa [b01] using this
    · exact own_mod (own_mod HO.out m2 fun k hk hx => by have := (HO.out.lt k hk).1; omega) m3 fun k hk hx => by
        have := (HO.out.lt k hk).1; omega
    · exact own_mod ho2 m3 fun k hk hx => by have := (ho2.lt k hk).1; omega
  have e3 : w2.cell? ⟨g, 3, none⟩ = some (.int .u32 0) := hb2.cell 3
  have e4 : w2.cell? ⟨g, 4, none⟩ = some (.int .i32 1) := hb2.cell 4
  have g3 := hb2.frozen 3
  have g4 := hb2.frozen 4
  have HB2 := Lib.hid hb2
  clear hb2 ho2 m2 d3 hl
  go_wp2_with fail
  refine leaves_cons (f := 77) (args := #[.pointer (some ⟨g, 3, none⟩), .bool true]) (by simp) (by simp [go_sem]) ?_
  refine (store_deferred ⟨g, 3, none⟩ (.int .u32 0) .returning _ e3 g3).mono ?_
  rintro e u' w'' ⟨rfl, rfl, rfl⟩
  refine leaves_cons (f := 76) (args := #[.pointer (some ⟨g, 4, none⟩)]) (by simp [settle]) (by simp [go_sem]) ?_
  refine (unlock_deferred ⟨g, 4, none⟩ _ _ ?_ ?_).mono ?_
  · exact (World.cell?_setCell_other _ ⟨g, 3, none⟩ ⟨g, 4, none⟩ _ (by simp)).trans e4
  · exact ((HB2.out.below (Below.refl _ _).drew).set_ 3 (.int .u32 1)).frozen 4
  rintro e u' w'' ⟨rfl, rfl, rfl⟩
  have F := FIN.out
  simp [Leaves, settle, results, Tryd.results71]
  exact F
set_option maxRecDepth 100000 in
set_option maxHeartbeats 1600000 in
theorem do_first (g V n pb q : Nat) (w : World) (h : IdxAt w g V n false q) (hp : Blk w pb 56 #[.pointer (some ⟨g, 0, none⟩)]) :
    Calls Tryd.prog 62 #[.pointer (some ⟨g, 3, none⟩), .func (.func 68) #[] #[.pointer (some ⟨pb, 0, none⟩)]] w fun e w' => e = .returned (.tuple #[]) ∧ IdxAt w' g V n true q ∧ Mod (fun i => i = g) w w' := by
  have SL := Lib.hid (slow_p g V n pb q w h hp)
  obtain ⟨hV, hn, A, c, H, hb, ho, hd⟩ := h
  have c3 : w.cell? ⟨g, 3, none⟩ = some (.int .u32 0) := hb.cell 3
  have hl := run_call_load (P := Tryd.prog) Tryd.func74 (by kernel_rfl) (by kernel_rfl) (by kernel_rfl) .u32 (by kernel_rfl) c3
  have hnot : ∀ (x : Bool) (w : World), (Op.unary .not (.bool x)).run Tryd.prog w = .ok (.bool (!x)) w := fun _ _ => rfl
  clear hb ho hd hp
  go_enter Tryd.func62, Tryd.ntmps62
  go_wp2_with (first | (go_at_call 70; go_in))
  refine SL.out.mono ?_
  rintro e w2 ⟨rfl, h2⟩
  have H2 := Lib.hid h2
  clear h2
  go_wp2_with fail
  exact bodyPost_end (results_none rfl _ _ _) rfl ⟨rfl, H2.out⟩
/-- build: whether it has been done or not. -/
theorem build_p (g V n q : Nat) (d : Bool) (w : World) (h : IdxAt w g V n d q) :
    Calls Tryd.prog 53 #[.pointer (some ⟨g, 0, none⟩)] w fun e w' => e = .returned (.tuple #[]) ∧ IdxAt w' g V n true q ∧ Mod (fun i => i = g) w w' := by
  have hmf : ∀ (fn : Fn) (first cap : Array Value) (w : World), (Instr.makeFunc fn first cap).run Tryd.prog w = .ok (.func fn first cap) w := fun _ _ _ _ => rfl
  have hbx := (Below.refl w.heap.size w).alloc (Nat.le_refl _) (.cells #[.pointer (some ⟨g, 0, none⟩)] 56)
  have h1 := h.below hbx
  have m0 : Mod (fun i => i = g) w (w.alloc (.cells #[.pointer (some ⟨g, 0, none⟩)] 56)) := Mod.alloc (Mod.refl _ w) _
  have hgl := h.lt
  cases d with
  | false =>
    have DF := Lib.hid (do_first g V n w.heap.size q _ h1 (Blk.new w _ _))
    have M0 := Lib.hid m0
    clear h h1 hbx m0
    go_enter Tryd.func53, Tryd.ntmps53
    go_wp2_with fail
    refine DF.out.mono ?_
    rintro e w2 ⟨rfl, h2, m2⟩
    have H2 := Lib.hid h2
    have M2 : Hid (Mod (fun i => i = g) w w2) := M0.out.trans m2 fun _ _ h => h
    clear h2 m2
    go_wp2_with fail
    exact bodyPost_end (results_none rfl _ _ _) rfl ⟨rfl, H2.out, M2.out⟩
  | true =>
    have c3 : (w.alloc (.cells #[.pointer (some ⟨g, 0, none⟩)] 56)).cell? ⟨g, 3, none⟩ = some (.int .u32 1) := by
      obtain ⟨_, _, A, c, H, hb, _⟩ := h1
      exact hb.cell 3
    have DD := Lib.hid (fun fv => do_done ⟨g, 3, none⟩ fv _ c3)
    have M0 := Lib.hid m0
    have H1 := Lib.hid h1
    clear h h1 hbx m0 c3
    go_enter Tryd.func53, Tryd.ntmps53
    go_wp2_with fail
    refine (DD.out _).mono ?_
    rintro e w2 ⟨rfl, rfl⟩
    go_wp2_with fail
    exact bodyPost_end (results_none rfl _ _ _) rfl ⟨rfl, H1.out, M0.out⟩
end Go.Proofs.YtdpejjokdncfnaaDoor
