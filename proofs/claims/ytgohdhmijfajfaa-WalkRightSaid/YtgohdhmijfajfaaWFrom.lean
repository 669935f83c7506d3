/- from: the walker that stands at the root. -/
import Derived.Test.YtgohdhmijfajfaaWLook
namespace Go.Proofs.Ytgohdhmijfajfaa
set_option maxRecDepth 20000
open Go.RowKit
set_option linter.unusedVariables false
def FromPost (w : World) (g m V r : Nat) (nm : Nat → Nat) (e : Ending) (w' : World) : Prop :=
  ∃ gk ck gm cm, e = .returned (wval g gk ck gm cm m V) ∧ WMem w.heap.size gk ck gm cm m V (List.replicate m (-1)) ((List.replicate V false).set (nm r) true) w' ∧ Below w.heap.size w w'
set_option maxHeartbeats 8000000 in
theorem wfrom_p (g : Nat) (l b : List Nat) (root lone : Int) (r m V : Nat) (w : World) (h : MapAt w g l b root lone) (hr : r < l.length) (hm : m = l.length / 2) (hV : (V : Int) = ((sizes l).length : Int) + lone) (hvV : nameOf l r < V) :
    Calls Try.prog 31 #[.pointer (some ⟨g, 0, none⟩), .int .i64 (r : Int)] w (FromPost w g m V r (nameOf l)) := by
  have hle := h.2.1
  have hlo := h.1.2.2
  have hsl := sizes_le l
  have hm1 : m ≤ 131072 := by omega
  have hV1 : V ≤ 262144 := by omega
  obtain ⟨j0, ji0, jz0, jz1, jz2⟩ := info_parts info_bool
  have hmk := run_make_one (P := Try.prog) 65 4 j0 (.bool false) 1 Try.underlying65 ji0 jz0 jz1 jz2 rfl .i64 .i64 V (by omega) (by omega)
  have EP : Hid (∀ W, Below w.heap.size w W → Calls Try.prog 60 #[.pointer (some ⟨g, 0, none⟩)] W fun e w' => e = .returned (.int .i64 (m : Int)) ∧ Below W.heap.size W w') := fun W z => by rw [hm]; exact edges_p g l b root lone W (h.below z)
  have VS : Hid (∀ W, Below w.heap.size w W → Calls Try.prog 61 #[.pointer (some ⟨g, 0, none⟩)] W fun e w' => e = .returned (.int .i64 (V : Int)) ∧ Below W.heap.size W w') := fun W z => by rw [hV]; exact vertices_p g l b root lone W (h.below z)
  obtain ⟨v, hv⟩ : ∃ v, v = nameOf l r := ⟨_, rfl⟩
  have VP : Hid (∀ W, Below w.heap.size w W → Calls Try.prog 21 #[.pointer (some ⟨g, 0, none⟩), .int .i64 (r : Int)] W fun e w' => e = .returned (.int .i64 (v : Int)) ∧ Below W.heap.size W w') := fun W z => by rw [hv]; exact vertex_in g l b root lone r W (h.below z) hr
  have HV := Lib.hid hv
  rw [← hv] at hvV
  have HINF := Lib.hid info_walker
  have hvI : (v : Int) < (V : Int) := by omega
  have hvI0 : (0 : Int) ≤ (v : Int) := by omega
  have R1 := Rd.new (w.alloc (.cells #[.pointer none, .slice none 0 0, .slice none 0 0] 67)) 3 #[.int .i64 (-1)] 1 (I64 [-1]) (by simp [I64]) (by simp)
  have hs1 : (w.alloc (.cells #[.pointer none, .slice none 0 0, .slice none 0 0] 67)).heap.size = w.heap.size + 1 := by simp
  rw [hs1] at R1
  have HR1 := Lib.hid R1
  have BR := Lib.hid ((Blk.new w 67 #[.pointer none, .slice none 0 0, .slice none 0 0]).alloc (.cells #[.int .i64 (-1)] 3))
  have Z0 := (Below.refl w.heap.size w).alloc (Nat.le_refl _) (.cells #[.pointer none, .slice none 0 0, .slice none 0 0] 67)
  have Z1 := Lib.hid (Z0.alloc Z0.size (.cells #[.int .i64 (-1)] 3))
  have hs2 : ((w.alloc (.cells #[.pointer none, .slice none 0 0, .slice none 0 0] 67)).alloc (.cells #[.int .i64 (-1)] 3)).heap.size = w.heap.size + 2 := by simp
  have HS2 := Lib.hid hs2
  clear h hm hV hv Z0 R1 hs1 hs2 hle hlo hsl
  go_enter Try.func31, Try.ntmps31
  go_wp2_with fail
  generalize (w.alloc (.cells #[.pointer none, .slice none 0 0, .slice none 0 0] 67)).alloc (.cells #[.int .i64 (-1)] 3) = w2 at *
  refine (EP.out _ Z1.out).mono ?_
  rintro e w3 ⟨rfl, z⟩
  have Z3 := Lib.hid (Z1.out.trans (z.mono Z1.out.size))
  have hz := z.size
  have RP := Lib.hid (repeat_p (w.heap.size + 1) m 1 (-1) (w.heap.size + 2) w3 hm1 (HR1.out.below (z.mono (by rw [HS2.out]; omega))) (by rw [← HS2.out]; exact hz))
  have BR3 := Lib.hid (BR.out.below z)
  have hz3 : w.heap.size + 2 ≤ w3.heap.size := by rw [← HS2.out]; exact hz
  clear z hz EP HR1 BR Z1
  go_wp2_with fail
  refine RP.out.mono ?_
  rintro e w4 ⟨rfl, hown, z⟩
  have HO4 := Lib.hid (hown.base_le' (show w.heap.size ≤ w3.heap.size by omega))
  have Z4 := Lib.hid (Z3.out.trans (z.mono Z3.out.size))
  have BR4 := Lib.hid (BR3.out.below z)
  have hz4 := z.size
  generalize w3.heap.size = gk at *
  have hgk4 := (own_block HO4.out).2
  clear z hown RP BR3 Z3
  go_wp2_with fail
  refine (VS.out _ Z4.out).mono ?_
  rintro e w5 ⟨rfl, z⟩
  have HO5 := Lib.hid (own_below HO4.out z)
  have Z5 := Lib.hid (Z4.out.trans (z.mono Z4.out.size))
  have BR5 := Lib.hid (BR4.out.below z)
  have hz5 := z.size
  have hm5 := own_made w5 4 V (.bool false) (by simp only [maxLen]; omega)
  rw [List.toArray_replicate, show List.replicate V (Value.bool false) = Bl (List.replicate V false) by simp [Bl]] at hm5
  have HM5 := Lib.hid (hm5.base_le' (show w.heap.size ≤ w5.heap.size by omega))
  clear z HO4 Z4 BR4 VS hm5
  go_wp2_with fail
  have hs6 : (w5.alloc (.cells (Array.replicate V (.bool false)) 4)).heap.size = w5.heap.size + 1 := by simp
  have BX := Blk.new (w5.alloc (.cells (Array.replicate V (.bool false)) 4)) 67 #[.pointer (some ⟨g, 0, none⟩), .slice (some ⟨gk, 0, none⟩) m m, .slice (some ⟨w5.heap.size, 0, none⟩) V V]
  rw [hs6] at BX
  have ZA := (Below.refl w5.heap.size w5).alloc (Nat.le_refl _) (.cells (Array.replicate V (.bool false)) 4)
  have ZB := ZA.alloc ZA.size (.cells #[.pointer (some ⟨g, 0, none⟩), .slice (some ⟨gk, 0, none⟩) m m, .slice (some ⟨w5.heap.size, 0, none⟩) V V] 67)
  have HO6 := Lib.hid (own_below HO5.out ZB)
  have HM6 := Lib.hid (HM5.out.alloc (.cells #[.pointer (some ⟨g, 0, none⟩), .slice (some ⟨gk, 0, none⟩) m m, .slice (some ⟨w5.heap.size, 0, none⟩) V V] 67))
  have Z6 := Lib.hid (Z5.out.trans (ZB.mono Z5.out.size))
  have BR6 := Lib.hid (BR5.out.below ZB)
  have HBX := Lib.hid BX
  have hg6 : w5.heap.size < ((w5.alloc (.cells (Array.replicate V (.bool false)) 4)).alloc (.cells #[.pointer (some ⟨g, 0, none⟩), .slice (some ⟨gk, 0, none⟩) m m, .slice (some ⟨w5.heap.size, 0, none⟩) V V] 67)).heap.size := by simp; omega
  generalize (w5.alloc (.cells (Array.replicate V (.bool false)) 4)).alloc (.cells #[.pointer (some ⟨g, 0, none⟩), .slice (some ⟨gk, 0, none⟩) m m, .slice (some ⟨w5.heap.size, 0, none⟩) V V] 67) = w6 at *
  clear hs6 BX ZA ZB HO5 HM5 Z5 BR5
  have hg5 : w.heap.size + 2 ≤ w5.heap.size := by omega
  generalize w5.heap.size = gm at *
  have SK : Hid (∀ W', Below w6.heap.size w6 W' → Below w.heap.size w W' ∧ W'.cell? ⟨gm + 1, 2, none⟩ = some (.slice (some ⟨gm, 0, none⟩) V V)) := fun W' z =>
    ⟨Z6.out.trans (z.mono Z6.out.size), by have := (HBX.out.below z).cell 2; simpa using this⟩
  have VP2 : Hid (∀ W', Below w6.heap.size w6 W' → Calls Try.prog 21 #[.pointer (some ⟨g, 0, none⟩), .int .i64 (r : Int)] W' fun e w' => e = .returned (.int .i64 (v : Int)) ∧ Below w6.heap.size w6 w') := fun W' z =>
    (VP.out W' (SK.out W' z).1).mono fun e w' ⟨h1, h2⟩ => ⟨h1, z.trans (h2.mono z.size)⟩
  go_cut [] (fun wx => ∃ wy, Below w6.heap.size w6 wy ∧ wx = wy.setCell ⟨gm, v, none⟩ (.bool true))
  case first =>
    have hba0 := Below.refl w6.heap.size w6
    have hba1 := hba0.drew
    have x0 := (SK.out _ hba0).2
    have x1 := (SK.out _ hba1).2
    have FZ : Hid (∀ W', Below w6.heap.size w6 W' → W'.frozen? ⟨gm, v, none⟩ = false ∧ ∃ q, W'.cell? ⟨gm, v, none⟩ = some (.bool q)) := fun W' z => ⟨(own_below HM6.out z).frozenAt v, _, own_cellB (own_below HM6.out z) v hvV⟩
    obtain ⟨f0, q0, c0⟩ := FZ.out _ hba0
    obtain ⟨f1, q1, c1⟩ := FZ.out _ hba1
    go_region_with ((go_at_call 21; (with_reducible refine (VP2.out _ (by assumption)).mono ?_); rintro e wa ⟨rfl, hba⟩; have xa := (SK.out _ hba).2; obtain ⟨fa, qa, ca⟩ := FZ.out _ hba))
    all_goals (go_wp2_with fail; go_meet; exact ⟨_, by assumption, rfl⟩)
  case rest =>
    obtain ⟨wy, hby, rfl⟩ := hcut
    have hzy := (SK.out _ hby).1
    have MS : Mod (fun i => i = gm) wy (wy.setCell ⟨gm, v, none⟩ (.bool true)) := Mod.setCell (p := ⟨gm, v, none⟩) (Mod.refl (fun i => i = gm) wy) (fun _ => rfl) _
    have B1 := Lib.hid ((HBX.out.below hby).mod MS (by omega))
    have B2 := Lib.hid ((BR6.out.below hby).mod MS (by omega))
    have OK := Lib.hid (own_mod (own_below HO6.out hby) MS (fun k hk e => by replace e : k = _ := e; simp [Value.ownBlock] at hk; omega))
    have OM := Lib.hid (own_setB (own_below HM6.out hby) v true)
    have ZZ : Hid (Below w.heap.size w (wy.setCell ⟨gm, v, none⟩ (.bool true))) := hzy.setCell (by show w.heap.size ≤ gm; omega) _
    have HGK : Hid (gk < w6.heap.size ∧ w.heap.size + 2 ≤ gm) := ⟨by have := own_block HO6.out; omega, hg5⟩
    generalize wy.setCell ⟨gm, v, none⟩ (.bool true) = wz at *
    clear MS hby hzy SK VP2 HBX HM6 HO6 BR6 Z6 VP
    have c0 := B1.out.cell 0
    have c1 := B1.out.cell 1
    have c2 := B1.out.cell 2
    have r0 := B2.out.cell 0
    have r1 := B2.out.cell 1
    have r2 := B2.out.cell 2
    have f0 := B2.out.frozen 0
    have f1 := B2.out.frozen 1
    have f2 := B2.out.frozen 2
    simp at c0 c1 c2 r0 r1 r2
    go_wp2_with fail
    have MM : Mod (fun i => i = w.heap.size) wz (((wz.setCell ⟨w.heap.size, 0, none⟩ (.pointer (some ⟨g, 0, none⟩))).setCell ⟨w.heap.size, 1, none⟩ (.slice (some ⟨gk, 0, none⟩) m m)).setCell ⟨w.heap.size, 2, none⟩ (.slice (some ⟨gm, 0, none⟩) V V)) :=
      Mod.setCell (p := ⟨w.heap.size, 2, none⟩) (Mod.setCell (p := ⟨w.heap.size, 1, none⟩) (Mod.setCell (p := ⟨w.heap.size, 0, none⟩) (Mod.refl (fun i => i = w.heap.size) wz) (fun _ => rfl) _) (fun _ => rfl) _) (fun _ => rfl) _
    have hblk : Blk (((wz.setCell ⟨w.heap.size, 0, none⟩ (.pointer (some ⟨g, 0, none⟩))).setCell ⟨w.heap.size, 1, none⟩ (.slice (some ⟨gk, 0, none⟩) m m)).setCell ⟨w.heap.size, 2, none⟩ (.slice (some ⟨gm, 0, none⟩) V V)) w.heap.size 67 #[.pointer (some ⟨g, 0, none⟩), .slice (some ⟨gk, 0, none⟩) m m, .slice (some ⟨gm, 0, none⟩) V V] := by
      have := ((B2.out.set_ 0 (.pointer (some ⟨g, 0, none⟩))).set_ 1 (.slice (some ⟨gk, 0, none⟩) m m)).set_ 2 (.slice (some ⟨gm, 0, none⟩) V V)
      simpa using this
    refine bodyPost_ret (results_cell_row rfl _ _ w.heap.size 67 _ (0, 0) _ rfl hblk Try.underlying67 rfl HINF.out) rfl ?_
    refine ⟨gk, m, gm, V, rfl, ⟨own_mod OK.out MM (fun k hk e => by replace e : k = _ := e; simp [Value.ownBlock] at hk; omega), ?_⟩, ((ZZ.out.setCell (Nat.le_refl _) _).setCell (Nat.le_refl _) _).setCell (Nat.le_refl _) _⟩
    have := own_mod OM.out MM (fun k hk e => by replace e : k = _ := e; simp [Value.ownBlock] at hk; omega)
    rw [← HV.out]; exact this
end Go.Proofs.Ytgohdhmijfajfaa
