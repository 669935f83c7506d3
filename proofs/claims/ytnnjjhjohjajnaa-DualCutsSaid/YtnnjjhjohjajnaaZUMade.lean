/- made: a map of numbers, and the document's (layer 10). -/
import Derived.Test.YtnnjjhjohjajnaaZDPhi
namespace Go.Proofs.Ytnnjjhjohjajnaa
set_option maxRecDepth 20000
open Go.RowKit
set_option linter.unusedVariables false
set_option maxHeartbeats 4000000 in
theorem made10_p (n r lo m c B : Nat) (A : Option Addr) (by_ : List Int) (w : World) (h : Rd w B A m (Z8 by_)) (hb : ∀ x ∈ by_, 0 ≤ x ∧ x < 256) (hB : B ≤ w.heap.size) (hn : n < 256) (hr : r < 256) (hlo : lo < 256) (hm : m ≤ 9223372036854775807) :
    Calls Try.prog 5 #[.int .u8 (n : Int), .slice A m c, .int .u8 (r : Int), .int .u8 (lo : Int)] w (MadePost w (n % 12) (lo % 3)) := by
  have hb0 := (Below.refl w.heap.size w).alloc (Nat.le_refl _) (.cells #[.slice none 0 0, .int .i64 0, .int .i64 0] 27)
  obtain ⟨k, hk, hk9⟩ : ∃ k, Hid (k = n % 12) ∧ k < 12 := ⟨_, rfl, Nat.mod_lt _ (by decide)⟩
  obtain ⟨q, hq, hq5⟩ : ∃ q, Hid (q = lo % 3) ∧ q < 3 := ⟨_, rfl, Nat.mod_lt _ (by decide)⟩
  rw [← hk.out, ← hq.out]
  have e1 : (n : Int) % 12 = (k : Int) := by have := hk.out; omega
  have e2 : (lo : Int) % 3 = (q : Int) := by have := hq.out; omega
  have AN := Lib.hid (any_p k r m c B A by_ _ (h.below (hb0.mono hB)) hb (Nat.le_trans hB (by simp)) (by omega) hr hm)
  have HINF := Lib.hid info_rmap
  clear h hb
  go_enter Try.func5, Try.ntmps5
  go_wp2_with fail
  refine AN.out.mono ?_
  rintro e w2 ⟨v, l, b, root, rfl, hrm, hl, hroot, b2⟩
  obtain ⟨hinv, A2, c2, hla, rfl, hc2, hm2, r2⟩ := hrm
  have hR : Blk w2 w.heap.size 27 #[.slice none 0 0, .int .i64 0, .int .i64 0] := (b2.block w.heap.size (by simp)).trans (Blk.new w _ _)
  have hs2 : w.heap.size < w2.heap.size := hR.lt
  have B2 : Hid (Below w.heap.size w w2) := hb0.trans (b2.mono (by simp))
  have hbx := (Below.refl w2.heap.size w2).alloc (Nat.le_refl _) (.cells #[.slice A2 l.length c2, .int .i64 root, .int .i64 (q : Int)] 27)
  have rx : Rd (w2.alloc (.cells #[.slice A2 l.length c2, .int .i64 root, .int .i64 (q : Int)] 27)) _ A2 l.length (I64 (ofN l)) := r2.more hbx
  have NO := Lib.hid (new_ok A2 l.length c2 l b root (q : Int) _ rx hinv (by rw [hl]; omega) (by omega) (by rw [hl]; exact hroot) (by omega) (by omega))
  have HBX := Lib.hid (Blk.new w2 27 #[.slice A2 l.length c2, .int .i64 root, .int .i64 (q : Int)])
  have HR2 := Lib.hid (hR.alloc (.cells #[.slice A2 l.length c2, .int .i64 root, .int .i64 (q : Int)] 27))
  have B3 : Hid (Below w.heap.size w (w2.alloc (.cells #[.slice A2 l.length c2, .int .i64 root, .int .i64 (q : Int)] 27))) := B2.out.trans (hbx.mono (Nat.le_of_lt hs2))
  have HI := Lib.hid hinv
  have HL := Lib.hid hl
  have HRT := Lib.hid hroot
  have RX := Lib.hid rx
  have HC := Lib.hid (And.intro hc2 hm2)
  have HLA : Hid (inLo (w.heap.size + 1) A2) := hla.le (by simp)
  clear hb0 hinv hl hroot b2 r2 hR rx hbx AN hc2 hm2 hla
  go_wp2_with fail
  refine NO.out.mono ?_
  rintro e w4 ⟨g, rfl, hmap, b4, hmlo⟩
  generalize hw3 : w2.alloc (.cells #[.slice A2 l.length c2, .int .i64 root, .int .i64 (q : Int)] 27) = w3 at *
  have hs23 : w3.heap.size = w2.heap.size + 1 := by rw [← hw3]; simp
  have hX4 := HBX.out.below b4
  have hR4 := HR2.out.below b4
  have x0 := hX4.cell 0
  have x1 := hX4.cell 1
  have x2 := hX4.cell 2
  have r0 := hR4.cell 0
  have r1 := hR4.cell 1
  have r2 := hR4.cell 2
  have f0 := hR4.frozen 0
  have f1 := hR4.frozen 1
  have f2 := hR4.frozen 2
  simp at x0 x1 x2 r0 r1 r2
  have HM := Lib.hid hmap
  have HML := Lib.hid hmlo
  have HR4 := Lib.hid hR4
  have R4 := Lib.hid (RX.out.more b4)
  have B4 : Hid (Below w.heap.size w w4) := B3.out.trans (b4.mono B3.out.size)
  clear hmap hmlo hX4 hR4 b4 NO HBX HR2 RX B3 hw3
  go_wp2_with fail
  go_region
  all_goals go_wp2_with fail
  have MM : Mod (fun i => i = w.heap.size) w4 (((w4.setCell ⟨w.heap.size, 0, none⟩ (.slice A2 l.length c2)).setCell ⟨w.heap.size, 1, none⟩ (.int .i64 root)).setCell ⟨w.heap.size, 2, none⟩ (.int .i64 (q : Int))).drew :=
    Mod.drew (Mod.setCell (p := ⟨w.heap.size, 2, none⟩) (Mod.setCell (p := ⟨w.heap.size, 1, none⟩) (Mod.setCell (p := ⟨w.heap.size, 0, none⟩) (Mod.refl (fun i => i = w.heap.size) w4) (fun _ => rfl) _) (fun _ => rfl) _) (fun _ => rfl) _)
  have hblk : Blk (((w4.setCell ⟨w.heap.size, 0, none⟩ (.slice A2 l.length c2)).setCell ⟨w.heap.size, 1, none⟩ (.int .i64 root)).setCell ⟨w.heap.size, 2, none⟩ (.int .i64 (q : Int))).drew w.heap.size 27 #[.slice A2 l.length c2, .int .i64 root, .int .i64 (q : Int)] := by
    have := ((HR4.out.set_ 0 (.slice A2 l.length c2)).set_ 1 (.int .i64 root)).set_ 2 (.int .i64 (q : Int))
    exact Blk.drewN (by simpa using this) 1
  refine bodyPost_ret (results_tmp_cell_row rfl _ _ w.heap.size 27 _ (0, 0) _ rfl hblk Try.underlying27 rfl HINF.out) rfl ?_
  refine ⟨g, _, l, b, root, rfl, HM.out.mod HML.out MM (fun i hi => by omega), ⟨HI.out, A2, c2, HLA.out.le (by omega), rfl, HC.out.1, HC.out.2, ?_⟩, HL.out, HRT.out, B4.out.trans (MM.belowB B4.out.size fun i hi hf => by omega)⟩
  exact (R4.out.mod MM (Nat.le_refl _) (fun h0 i hi hf => by
    obtain ⟨a, e, rfl⟩ := hi
    have := HLA.out a e
    omega)).up MM.size
end Go.Proofs.Ytnnjjhjohjajnaa
