/- The document's made (layer 23): rows told into a map. Rows in a row: one that was made apart is put behind them. The document's without: rows without a number. The document's lists: each vertex's darts. -/
import Derived.Test.YtgcbdoljapnecaaZg13
import Derived.Test.YtgcbdoljapnecaaZg2
import Derived.Test.YtgcbdoljapnecaaZg12
import Derived.Test.YtgcbdoljapnecaaZg4
namespace Go.Proofs.Ytgcbdoljapnecaa
set_option maxRecDepth 100000
open Go.RowKit
set_option linter.unusedVariables false
/-- How many numbers the first rows have. -/
def sumR (os : List (List Nat)) : Nat → Nat
  | 0 => 0
  | r + 1 => sumR os r + (os.getD r []).length
theorem sumR_take (os : List (List Nat)) : ∀ r, r ≤ os.length → sumR os r = (os.take r).flatten.length
  | 0, _ => by simp [sumR]
  | r + 1, h => by
    have e : os.take (r + 1) = os.take r ++ [os.getD r []] := by
      rw [List.take_add_one, List.getD_eq_getElem?_getD, List.getElem?_eq_getElem (by omega)]; rfl
    rw [e, List.flatten_append, List.length_append, ← sumR_take os r (by omega)]
    simp [sumR]
theorem sumR_all (os : List (List Nat)) : sumR os os.length = os.flatten.length := by rw [sumR_take os _ (Nat.le_refl _), List.take_length]
theorem sumR_mono (os : List (List Nat)) : ∀ r k, sumR os r ≤ sumR os (r + k)
  | r, 0 => Nat.le_refl _
  | r, k + 1 => by have := sumR_mono os r k; show _ ≤ sumR os (r + k) + _; omega
/-- Rows that can be read. -/
def RdRows (w : World) (g : Nat) (os : List (List Nat)) : Prop :=
  g < w.heap.size ∧ ∀ r, r < os.length → ∃ A c, w.cell? ⟨g, r, none⟩ = some (.slice A (os.getD r []).length c) ∧ Rd w w.heap.size A (os.getD r []).length (I64 (ofN (os.getD r [])))
set_option maxHeartbeats 16000000 in
theorem rmade23_p (g p c i : Nat) (os : List (List Nat)) (root lone : Int) (w : World) (hR : RdRows w g os) (hp : os.length = p) (hi : i ≤ 20000) (hpb : p ≤ 40000) (hnd : os.flatten.Nodup) (hmem : ∀ x, x ∈ os.flatten ↔ x < i) (hlen : os.flatten.length = i) :
    Calls Try.prog 40 #[.slice (some ⟨g, 0, none⟩) p c, .int .i64 root, .int .i64 lone] w (NewRO w (zL os i) root lone) := by
  obtain ⟨i0, hi0, hz0, hz1, hz2⟩ := info_parts info_int
  have hal := (Below.refl w.heap.size w).alloc (Nat.le_refl _) (.cells #[.slice none 0 0, .int .i64 0, .int .i64 0] 27)
  have HX0 := Lib.hid (Blk.new w 27 #[.slice none 0 0, .int .i64 0, .int .i64 0])
  have HZ0 := Lib.hid hal
  have HINF := Lib.hid info_rmap
  have key : ∀ r, r < p → sumR os r + (os.getD r []).length ≤ i := fun r hr => by
    have h1 := sumR_mono os (r + 1) (os.length - (r + 1))
    rw [show r + 1 + (os.length - (r + 1)) = os.length by omega, sumR_all, hlen] at h1
    exact h1
  have HLEN : Hid (os.length = p ∧ ∀ r, r < p → (os.getD r []).length ≤ i) := ⟨hp, fun r hr => by have := key r hr; omega⟩
  have HSM : Hid (sumR os p = i ∧ ∀ r, r < p → sumR os r + (os.getD r []).length ≤ i) := ⟨by rw [← hp, sumR_all, hlen], key⟩
  have HRW0 : Hid (∀ r, r < p → ∃ A c, (∀ W, Below w.heap.size w W → W.cell? ⟨g, r, none⟩ = some (.slice A (os.getD r []).length c)) ∧ Rd w w.heap.size A (os.getD r []).length (I64 (ofN (os.getD r []))) ∧ ∀ j, j < (os.getD r []).length → (os.getD r []).getD j 0 < i) := fun r hr => by
    obtain ⟨A, c, h1, h2⟩ := hR.2 r (by omega)
    exact ⟨A, c, fun W m => (m.cell (p := ⟨g, r, none⟩) hR.1).trans h1, h2, fun j hj => (hmem _).1 (rows_mem (by omega) hj)⟩
  have HND := Lib.hid (And.intro hnd hmem)
  clear hR hnd hmem hlen hal hp key
  go_enter Try.func40, Try.ntmps40
  go_upto_region 1 with fail
  generalize w.alloc (.cells #[.slice none 0 0, .int .i64 0, .int .i64 0] 27) = w1 at *
  go_wp2_with fail
  go_loopw [7, 9, 18] (fun s _ idx wz => ∃ (r : Nat), r ≤ p ∧ idx = .int .i64 (r : Int) ∧ s = .int .i64 ((sumR os r : Nat) : Int) ∧ wz = w1) (fun _ _ x _ => p - (intOf x).toNat)
  case atStart => exact ⟨0, by omega, by first | rfl | trivial, by first | rfl | trivial, by first | rfl | trivial⟩
  case round =>
    obtain ⟨r, hr, rfl, rfl, rfl⟩ := hrel
    by_cases hrp : r < p
    · have hrd' : decide (r < p) = true := decide_eq_true hrp
      have hrI : (r : Int) < (p : Int) := by omega
      obtain ⟨A1, c1, hcell, -, -⟩ := HRW0.out r hrp
      have cO := hcell _ HZ0.out
      obtain ⟨m, hm⟩ : ∃ m, m = (os.getD r []).length := ⟨_, rfl⟩
      obtain ⟨s, hs⟩ : ∃ s, s = sumR os r := ⟨_, rfl⟩
      obtain ⟨s2, hs2⟩ : ∃ s2, s2 = s + m := ⟨_, rfl⟩
      have hs2b : s2 ≤ i := by rw [hs2, hs, hm]; exact HSM.out.2 r hrp
      have ts : (s : Int) + (m : Int) = (s2 : Int) := by omega
      have ws : IntKind.i64.wrap (s2 : Int) = (s2 : Int) := by simp [IntKind.wrap, IntKind.signed, IntKind.bits]; omega
      have wr1 : IntKind.i64.wrap ((r : Int) + 1) = (r : Int) + 1 := by simp [IntKind.wrap, IntKind.signed, IntKind.bits]; omega
      have HS2 : Hid (s2 = sumR os (r + 1)) := by show _ = _; rw [hs2, hs, hm]; rfl
      rw [← hm] at cO
      rw [← hs]
      clear hcell hm hs hs2
      go_wp2_with fail
      go_roundw
      case rel => exact ⟨r + 1, by omega, by go_num, by rw [HS2.out], by first | rfl | trivial⟩
      case measure => simp [intOf]; omega
    · obtain rfl : p = r := by omega
      have hrd' : decide (p < p) = false := by simp
      rw [HSM.out.1]
      obtain ⟨w1, rfl⟩ : ∃ w1 : World, w1 = wr := ⟨_, rfl⟩
      have hmk := run_make_one (P := Try.prog) 25 3 i0 (.int .i64 0) 8 Try.underlying25 hi0 hz0 hz1 hz2 rfl .i64 .i64 i (by omega) (by omega) w1
      have hrep : (List.replicate i (Value.int .i64 0)).toArray = Array.replicate i (.int .i64 0) := by simp
      rw [hrep] at hmk
      have hal1 := (Below.refl w1.heap.size w1).alloc (Nat.le_refl _) (.cells (Array.replicate i (Value.int .i64 0)) 3)
      have hO : (w1.alloc (.cells (Array.replicate i (Value.int .i64 0)) 3)).ownsRow w1.heap.size 3 1 (.slice (some ⟨w1.heap.size, 0, none⟩) i i) i (I64 (List.replicate i 0)) := by
        have := World.ownsRow_lit (base := w1.heap.size) (e := 3) (size := 1) w1 (Array.replicate i (Value.int .i64 0)) i (Nat.le_refl _) (by simp [maxLen]; omega) (by simp)
        rw [show I64 (List.replicate i 0) = List.replicate i (.int .i64 0) by simp [I64]]
        simpa using this
      have hX : Blk ((w1.alloc (.cells (Array.replicate i (Value.int .i64 0)) 3)).alloc (.cells #[.slice (some ⟨w1.heap.size, 0, none⟩) i i, .int .i64 root, .int .i64 lone] 27)) (w1.heap.size + 1) 27 #[.slice (some ⟨w1.heap.size, 0, none⟩) i i, .int .i64 root, .int .i64 lone] := by
        have := Blk.new (w1.alloc (.cells (Array.replicate i (Value.int .i64 0)) 3)) 27 #[.slice (some ⟨w1.heap.size, 0, none⟩) i i, .int .i64 root, .int .i64 lone]
        rwa [show (w1.alloc (.cells (Array.replicate i (Value.int .i64 0)) 3)).heap.size = w1.heap.size + 1 by simp] at this
      have hal2 : Below w1.heap.size w1 ((w1.alloc (.cells (Array.replicate i (Value.int .i64 0)) 3)).alloc (.cells #[.slice (some ⟨w1.heap.size, 0, none⟩) i i, .int .i64 root, .int .i64 lone] 27)) := hal1.alloc (by simp) _
      have hO2 := own_below hO ((Below.refl _ _).alloc (Nat.le_refl _) (.cells #[.slice (some ⟨w1.heap.size, 0, none⟩) i i, .int .i64 root, .int .i64 lone] 27))
      obtain ⟨w5, hw5⟩ : ∃ w5, w5 = (w1.alloc (.cells (Array.replicate i (Value.int .i64 0)) 3)).alloc (.cells #[.slice (some ⟨w1.heap.size, 0, none⟩) i i, .int .i64 root, .int .i64 lone] 27) := ⟨_, rfl⟩
      rw [← hw5] at hX hal2 hO2
      obtain ⟨gy, hgy⟩ : ∃ gy, gy = w1.heap.size := ⟨_, rfl⟩
      have hgw : w.heap.size < gy := by rw [hgy]; exact HX0.out.lt
      have HRW : Hid (∀ q, q < p → ∃ A c, (∀ W, Below gy w5 W → W.cell? ⟨g, q, none⟩ = some (.slice A (os.getD q []).length c)) ∧ Rd w5 gy A (os.getD q []).length (I64 (ofN (os.getD q []))) ∧ ∀ j, j < (os.getD q []).length → (os.getD q []).getD j 0 < i) := fun q hq => by
        obtain ⟨A, c, q1, q2, q3⟩ := HRW0.out q hq
        have z := HZ0.out.trans (hal2.mono HZ0.out.size)
        exact ⟨A, c, fun W m => q1 W (z.trans (m.mono (by omega))), (q2.below z).up (by omega), q3⟩
      have hw5s : gy + 1 < w5.heap.size := by rw [hgy]; exact hX.lt
      have HZ5 : Hid (Below w.heap.size w w5) := HZ0.out.trans (hal2.mono HZ0.out.size)
      have HX5 : Hid (Blk w5 w.heap.size 27 #[.slice none 0 0, .int .i64 0, .int .i64 0]) := HX0.out.below hal2
      have HBX := Lib.hid hX
      have HOY := Lib.hid hO2
      rw [← hgy] at HBX HOY
      have HG5 := Lib.hid (And.intro hw5 hgy)
      clear hX hO2 hal1 hal2 hO hrep HRW0 HSM HX0 HZ0 hw5 hgy
      go_upto_region 8 with fail
      rw [← HG5.out.1, ← HG5.out.2]
      clear hmk
      go_wp2_with fail
      go_loopw [12, 13, 14, 15, 34] (fun _ _ _ _ idx wz => ∃ (r : Nat) (y : List Int), r ≤ p ∧ idx = .int .i64 (r : Int) ∧ Hid (y.length = i ∧ Told os y r 0) ∧ Hid (wz.ownsRow gy 3 1 (.slice (some ⟨gy, 0, none⟩) i i) i (I64 y)) ∧ Hid (Below gy w5 wz) ∧
        Hid (Blk wz (gy + 1) 27 #[.slice (some ⟨gy, 0, none⟩) i i, .int .i64 root, .int .i64 lone])) (fun _ _ _ _ x _ => p - (intOf x).toNat)
      case atStart => exact ⟨0, List.replicate i 0, by omega, rfl, ⟨by simp, fun _ _ h => absurd h (by omega), fun _ h => absurd h (by omega)⟩, HOY.out, Below.refl _ _, HBX.out⟩
      case round =>
        clear HOY HBX
        obtain ⟨wz, rfl⟩ : ∃ wz : World, wz = wr := ⟨_, rfl⟩
        obtain ⟨r, y, hr, rfl, HY, HOW, HBW, HBX⟩ := hrel
        by_cases hrp : r < p
        · have hrd' : decide (r < p) = true := decide_eq_true hrp
          have hrI : (r : Int) < (p : Int) := by omega
          obtain ⟨A1, c1, hcell, hrd, hlt1⟩ := HRW.out r hrp
          obtain ⟨row, hrow⟩ : ∃ row, row = os.getD r [] := ⟨_, rfl⟩
          rw [← hrow] at hcell hrd hlt1
          obtain ⟨m, hm⟩ : ∃ m, m = row.length := ⟨_, rfl⟩
          rw [← hm] at hcell hrd hlt1
          have hmi : m ≤ i := by rw [hm, hrow]; exact HLEN.out.2 r hrp
          have cO := hcell wz HBW.out
          have HRD := Lib.hid hrd
          have HLT := Lib.hid hlt1
          have HRO := Lib.hid (And.intro hrow hm)
          clear hcell hrd hlt1 hrow hm
          go_wp2_with fail
          go_loopw [13, 14, 15, 40] (fun _ _ _ jx wq => ∃ (j : Nat) (y : List Int), j ≤ m ∧ jx = .int .i64 (j : Int) ∧ Hid (y.length = i ∧ Told os y r j) ∧ Hid (wq.ownsRow gy 3 1 (.slice (some ⟨gy, 0, none⟩) i i) i (I64 y)) ∧ Hid (Below gy w5 wq) ∧
            Hid (Blk wq (gy + 1) 27 #[.slice (some ⟨gy, 0, none⟩) i i, .int .i64 root, .int .i64 lone])) (fun _ _ _ x _ => m - (intOf x).toNat)
          case atStart => exact ⟨0, y, by omega, rfl, HY.out, HOW.out, HBW.out, HBX.out⟩
          case round =>
            clear HY HOW HBW HBX cO y
            obtain ⟨wq, rfl⟩ : ∃ wq : World, wq = wr := ⟨_, rfl⟩
            obtain ⟨j, y, hj, rfl, HY, HOW, HBW, HBX⟩ := hrel
            by_cases hjm : j < m
            · have hjd : decide (j < m) = true := decide_eq_true hjm
              have hjI : (j : Int) < (m : Int) := by omega
              obtain ⟨b, o, rfl, hb, hc⟩ := HRD.out.i64 (by omega)
              obtain ⟨hrow, hm⟩ := HRO.out
              obtain ⟨x, hx⟩ : ∃ x, x = row.getD j 0 := ⟨_, rfl⟩
              obtain ⟨x0, hx0⟩ : ∃ x0, x0 = row.getD 0 0 := ⟨_, rfl⟩
              obtain ⟨jn, hjn⟩ : ∃ jn, jn = j + 1 := ⟨_, rfl⟩
              have hxi : x < i := by rw [hx]; exact HLT.out j hjm
              have cX : wq.cell? ⟨b, o + j, none⟩ = some (.int .i64 (x : Int)) := by
                rw [hx, ← ofN_get]; exact (HBW.out.cell (p := ⟨b, o + j, none⟩) hb).trans (hc j hjm)
              have c0 : wq.cell? ⟨b, o, none⟩ = some (.int .i64 (x0 : Int)) := by
                rw [hx0, ← ofN_get]; exact (HBW.out.cell (p := ⟨b, o, none⟩) hb).trans (hc 0 (by omega))
              have cY := own_cellI HOW.out x hxi
              have fY := HOW.out.frozenAt x
              have bx0 := HBX.out.cell 0
              simp at bx0
              have hxI : (x : Int) < (i : Int) := by omega
              have tj : (j : Int) + 1 = (jn : Int) := by omega
              have wj : IntKind.i64.wrap (jn : Int) = (jn : Int) := by simp [IntKind.wrap, IntKind.signed, IntKind.bits]; omega
              have m0 : (0 : Int) < (m : Int) := by omega
              have MS := fun u : Value => Mod.setCell (p := ⟨gy, x, none⟩) (Mod.refl (fun k => k = gy) wq) (fun _ => rfl) u
              have zr : zR os x = nxR row j := by
                have := zR_at HND.out.1 (r := r) (i := j) (by rw [HLEN.out.1]; exact hrp) (by rw [← hrow, ← hm]; exact hjm)
                rw [← hrow, ← hx] at this; exact this
              have FIN : Hid (∀ z : Nat, zR os x = z → Hid ((y.set x (z : Int)).length = i ∧ Told os (y.set x (z : Int)) r (j + 1)) ∧ Hid ((wq.setCell ⟨gy, x, none⟩ (.int .i64 (z : Int))).ownsRow gy 3 1 (.slice (some ⟨gy, 0, none⟩) i i) i (I64 (y.set x (z : Int)))) ∧ Hid (Below gy w5 (wq.setCell ⟨gy, x, none⟩ (.int .i64 (z : Int)))) ∧
                  Hid (Blk (wq.setCell ⟨gy, x, none⟩ (.int .i64 (z : Int))) (gy + 1) 27 #[.slice (some ⟨gy, 0, none⟩) i i, .int .i64 root, .int .i64 lone])) := fun z hz =>
                ⟨⟨by rw [List.length_set]; exact HY.out.1, told_put HY.out.2 (by rw [← hrow, hx]) (by rw [HY.out.1]; exact hxi) hz⟩, own_setI HOW.out x (z : Int), HBW.out.setCell (p := ⟨gy, x, none⟩) (Nat.le_refl _) _, HBX.out.mod (MS _) (by omega)⟩
              by_cases hjl : jn < m
              · have hjld : decide (jn < m) = true := decide_eq_true hjl
                have hjlI : (jn : Int) < (m : Int) := by omega
                obtain ⟨x1, hx1⟩ : ∃ x1, x1 = row.getD jn 0 := ⟨_, rfl⟩
                have cN : wq.cell? ⟨b, o + jn, none⟩ = some (.int .i64 (x1 : Int)) := by
                  rw [hx1, ← ofN_get]; exact (HBW.out.cell (p := ⟨b, o + jn, none⟩) hb).trans (hc jn hjl)
                obtain ⟨F1, F2, F3, F4⟩ := FIN.out x1 (by rw [zr]; unfold nxR; rw [if_pos (by omega), hx1, hjn])
                clear MS zr FIN hc hx hx0 hx1 HY HOW HBW HBX hrow hm
                clear hjn
                go_wp2_with fail
                go_roundw
                case rel => exact ⟨j + 1, _, by omega, by go_num, F1, F2, F3, F4⟩
                case measure => simp [intOf]; omega
              · have hjld : decide (jn < m) = false := decide_eq_false hjl
                have hjlI : ¬ (jn : Int) < (m : Int) := by omega
                obtain ⟨F1, F2, F3, F4⟩ := FIN.out x0 (by rw [zr]; unfold nxR; rw [if_neg (by omega), hx0])
                clear MS zr FIN hc hx hx0 HY HOW HBW HBX hrow hm
                clear hjn
                go_wp2_with fail
                go_roundw
                case rel => exact ⟨j + 1, _, by omega, by go_num, F1, F2, F3, F4⟩
                case measure => simp [intOf]; omega
            · obtain rfl : j = m := by omega
              have hjd : decide (j < j) = false := by simp
              have HT : Hid (y.length = i ∧ Told os y (r + 1) 0) := ⟨HY.out.1, told_row (by rw [← HRO.out.1, ← HRO.out.2]; exact HY.out.2)⟩
              have wr1 : IntKind.i64.wrap ((r : Int) + 1) = (r : Int) + 1 := by simp [IntKind.wrap, IntKind.signed, IntKind.bits]; omega
              go_wp2_with fail
              go_roundw
              case rel => exact ⟨r + 1, y, by omega, by go_num, HT, HOW, HBW, HBX⟩
              case measure => simp [intOf]; omega
        · obtain rfl : r = p := by omega
          have hrd' : decide (r < r) = false := by simp
          have hy := told_all (n := i) (by rw [HLEN.out.1]; exact HY.out.2) HY.out.1 HND.out.2
          have HF : Hid (wz.ownsRow gy 3 1 (.slice (some ⟨gy, 0, none⟩) i i) i (I64 (ofN (zL os i)))) := by
            show World.ownsRow _ _ _ _ _ _ _
            rw [← hy]; exact HOW.out
          have HZ6 : Hid (Below w.heap.size w wz) := HZ5.out.trans (HBW.out.mono (by omega))
          have HR6 : Hid (Blk wz w.heap.size 27 #[.slice none 0 0, .int .i64 0, .int .i64 0]) := (HBW.out.block w.heap.size (by omega)).trans HX5.out
          have x0 := HBX.out.cell 0
          have x1 := HBX.out.cell 1
          have x2 := HBX.out.cell 2
          have q0 := HR6.out.cell 0
          have q1 := HR6.out.cell 1
          have q2 := HR6.out.cell 2
          have f0 := HR6.out.frozen 0
          have f1 := HR6.out.frozen 1
          have f2 := HR6.out.frozen 2
          simp at x0 x1 x2 q0 q1 q2
          clear hy HY HOW HBW
          go_wp2_with fail
          obtain ⟨k1, k2, k3⟩ := box_ret (w := w) (g := w.heap.size) (RT := root) (LF := lone) (Nat.le_refl _) HZ6.out HR6.out HF.out
          refine bodyPost_ret (v := .agg #[.slice (some ⟨gy, 0, none⟩) i i, .int .i64 root, .int .i64 lone]) ?_ rfl ?_
          · exact results_cell_row rfl _ _ w.heap.size 27 _ (0, 0) _ rfl k1 Try.underlying27 rfl HINF.out
          · have hzl := zL_len os i
            refine ⟨some ⟨gy, 0, none⟩, i, ?_, ?_, ?_, ?_, k3⟩
            · rw [hzl]
            · rw [hzl]; exact Nat.le_refl _
            · simp [maxLen]; omega
            · rw [hzl]; exact k2.base_le' (by omega)
end Go.Proofs.Ytgcbdoljapnecaa
namespace Go.Proofs.Ytgcbdoljapnecaa
set_option maxRecDepth 100000
open Go.RowKit
set_option linter.unusedVariables false
set_option linter.unusedSimpArgs false
section
variable {w w' : World} {base c : Nat} {A : Option Addr} {ps : List GEl}
theorem GRow.nil (w : World) (base : Nat) : GRow w base none 0 [] :=
  ⟨World.ownsRow_nil _ _ _ _, fun j hj => by simp at hj, fun i j hi => by simp at hi⟩
/-- A row more: one that was made apart. -/
theorem GRow.snocW (h : GRow w base A c ps) (hbase : base ≤ w.heap.size) (hn : ps.length ≤ 1000000) {Av : Option Addr} {cv : Nat} {v : List Nat} (hv : w.ownsRow base 3 1 (.slice Av v.length cv) v.length (I64 (ofN v)))
    (hd : ∀ j, j < ps.length → ∀ k, (ps.getD j gE0).1.ownBlock = some k → (Value.slice Av v.length cv).ownBlock ≠ some k) :
    ∃ A1 c1 w2, (Builtin.append_ #[59, 59] 59 #[.slice A ps.length c, .slice (some ⟨w.heap.size, 0, none⟩) 1 1]).run Try.prog (w.alloc (.cells #[.slice Av v.length cv] 25)) = .ok (.slice A1 (ps.length + 1) c1) w2 ∧
      GRow w2 base A1 c1 (ps ++ [(.slice Av v.length cv, v)]) ∧ Below base w w2 ∧ Mod (fun q => some q = (Value.slice A ps.length c).ownBlock) w w2 := by
  obtain ⟨i0, hi0, hz0, hz1, hz2⟩ := info_parts info_ints
  have hal : Below w.heap.size w (w.alloc (.cells #[.slice Av v.length cv] 25)) := (Below.refl _ _).alloc (Nat.le_refl _) _
  have h1 := h.below hal
  have rd := Rd.new w 25 #[.slice Av v.length cv] 1 [.slice Av v.length cv] rfl rfl
  obtain ⟨v', w2, hrun, hnew, hgr, hob⟩ := run_append_rd (P := Try.prog) (w.alloc (.cells #[.slice Av v.length cv] 25)) base 59 59 25 i0 (.slice none 0 0) 24 Try.underlying59 hi0 hz0 hz1 hz2 rfl _ ps.length _ h1.own (w.heap.size + 1) (some ⟨w.heap.size, 0, none⟩) 1 1 _ rd (by intro u hu; rw [List.mem_singleton] at hu; subst hu; rfl) (by simp only [maxLen]; omega) (by omega) (by simp; omega)
  obtain ⟨A1, c1, rfl, _, _⟩ := own_form hnew
  have MG := Mod.ofGrown hgr
  have hl : (ps ++ [((.slice Av v.length cv, v) : GEl)]).length = ps.length + 1 := by simp
  have gl : ∀ j, j < ps.length → (ps ++ [((.slice Av v.length cv, v) : GEl)]).getD j gE0 = ps.getD j gE0 := fun j hj => by rw [List.getD_eq_getElem?_getD, List.getElem?_append_left hj, ← List.getD_eq_getElem?_getD]
  have gr : (ps ++ [((.slice Av v.length cv, v) : GEl)]).getD ps.length gE0 = (.slice Av v.length cv, v) := by simp [List.getD_eq_getElem?_getD]
  refine ⟨A1, c1, w2, hrun, ⟨?_, fun j hj => ?_, fun i j hi hj hij k hk => ?_⟩, ?_⟩
  · rw [hl]
    have : gcs (ps ++ [((.slice Av v.length cv, v) : GEl)]) = gcs ps ++ [.slice Av v.length cv] := by simp [gcs]
    rw [this]; exact hnew
  · rw [hl] at hj
    by_cases e : j < ps.length
    · rw [gl j e]
      exact ⟨(h.inn j e).1, own_mod (h1.inn j e).2 MG fun k hk q => own_own_neG (h1.inn j e).2 h1.own (by decide) hk q.symm⟩
    · obtain rfl : j = ps.length := by omega
      rw [gr]
      exact ⟨⟨Av, cv, rfl⟩, own_mod (own_below hv hal) MG fun k hk q => own_own_neG (own_below hv hal) h1.own (by decide) hk q.symm⟩
  · rw [hl] at hi hj
    by_cases e1 : i < ps.length
    · rw [gl i e1] at hk
      by_cases e2 : j < ps.length
      · rw [gl j e2]; exact h.dj i j e1 e2 hij k hk
      · obtain rfl : j = ps.length := by omega
        rw [gr]; exact hd i e1 k hk
    · obtain rfl : i = ps.length := by omega
      rw [gr] at hk
      have e2 : j < ps.length := by omega
      rw [gl j e2]
      exact fun c => hd j e2 k c hk
  · exact ⟨((Below.refl base w).alloc hbase _).trans (Below.appended h1.own hgr (by simp; omega)), (Mod.none_ hal _).trans MG fun _ _ q => q⟩
end
end Go.Proofs.Ytgcbdoljapnecaa
namespace Go.Proofs.Ytgcbdoljapnecaa
set_option maxRecDepth 100000
open Go.RowKit
set_option linter.unusedVariables false
theorem DSt.fresh {w0 w : World} {B c : Nat} {A : Option Addr} {ps : List GEl} (h : GRow w B A c ps) (hb : Below B w0 w) : DSt w0 w B A c ps none 0 [] :=
  ⟨h, World.ownsRow_nil _ _ _ _, fun j hj k hk => by simp [Value.ownBlock], hb⟩
theorem DSt.snocV {w0 w : World} {B c cs : Nat} {A As : Option Addr} {ps : List GEl} {st : List Nat} (h : DSt w0 w B A c ps As cs st) (hb : B ≤ w.heap.size) (hn : ps.length ≤ 1000000) :
    ∃ A1 c1 w2, (Builtin.append_ #[59, 59] 59 #[.slice A ps.length c, .slice (some ⟨w.heap.size, 0, none⟩) 1 1]).run Try.prog (w.alloc (.cells #[.slice As st.length cs] 25)) = .ok (.slice A1 (ps.length + 1) c1) w2 ∧
      GRow w2 B A1 c1 (ps ++ [(.slice As st.length cs, st)]) ∧ Below B w0 w2 := by
  obtain ⟨A1, c1, w2, h1, h2, h3, _⟩ := h.g.snocW hb hn h.s h.dj
  exact ⟨A1, c1, w2, h1, h2, h.bel.trans h3⟩
/-- Rows that were told. -/
def OutP (w : World) (os : List (List Nat)) (p : Nat) (e : Ending) (w' : World) : Prop :=
  ∃ A c ps, e = .returned (.slice A p c) ∧ GRow w' w.heap.size A c ps ∧ ps.map (·.2) = os ∧ os.length = p ∧ Below w.heap.size w w'
theorem flt_snoc (d : Nat) (L : List Nat) (j : Nat) (h : j < L.length) : (L.take (j + 1)).filter (fun x => decide (x ≠ d)) = if L.getD j 0 ≠ d then (L.take j).filter (fun x => decide (x ≠ d)) ++ [L.getD j 0] else (L.take j).filter (fun x => decide (x ≠ d)) := by
  have e : L.take (j + 1) = L.take j ++ [L.getD j 0] := by rw [List.take_add_one, List.getD_eq_getElem?_getD, List.getElem?_eq_getElem h]; rfl
  rw [e, List.filter_append]
  by_cases c : L.getD j 0 ≠ d
  · rw [if_pos c, List.filter_cons_of_pos (by simpa using c)]; rfl
  · rw [if_neg c, List.filter_cons_of_neg (by simpa using c)]; simp
set_option maxHeartbeats 16000000 in
theorem rwithout_p (g p c d : Nat) (os : List (List Nat)) (w : World) (hR : RdRows w g os) (hp : os.length = p) (hpb : p ≤ 40000) (hlb : ∀ r, r < p → (os.getD r []).length ≤ 20000) :
    Calls Try.prog 38 #[.slice (some ⟨g, 0, none⟩) p c, .int .i64 (d : Int)] w (OutP w (os.map fun v => v.filter fun x => decide (x ≠ d)) p) := by
  have HP := Lib.hid hp
  have HLB := Lib.hid hlb
  have HRW0 : Hid (∀ r, r < p → ∃ A c, (∀ W, Below w.heap.size w W → W.cell? ⟨g, r, none⟩ = some (.slice A (os.getD r []).length c)) ∧ Rd w w.heap.size A (os.getD r []).length (I64 (ofN (os.getD r [])))) := fun r hr => by
    obtain ⟨A, c, h1, h2⟩ := hR.2 r (by omega)
    exact ⟨A, c, fun W m => (m.cell (p := ⟨g, r, none⟩) hR.1).trans h1, h2⟩
  clear hR hp hlb
  go_enter Try.func38, Try.ntmps38
  go_wp2_with fail
  go_loopw [5, 7, 8, 10, 13] (fun o _ _ _ idx wz => ∃ (r c1 : Nat) (A1 : Option Addr) (ps : List GEl), r ≤ p ∧ idx = .int .i64 (r : Int) ∧ o = .slice A1 r c1 ∧ Hid (ps.length = r ∧ ps.map (·.2) = (os.take r).map fun v => v.filter fun x => decide (x ≠ d)) ∧ Hid (GRow wz w.heap.size A1 c1 ps) ∧ Hid (Below w.heap.size w wz)) (fun _ _ _ _ x _ => p - (intOf x).toNat)
  case atStart => exact ⟨0, 0, none, [], by omega, rfl, rfl, ⟨rfl, by simp⟩, GRow.nil _ _, Below.refl _ _⟩
  case round =>
    obtain ⟨wz, rfl⟩ : ∃ wz : World, wz = wr := ⟨_, rfl⟩
    obtain ⟨r, c1, A1, ps, hr, rfl, rfl, HPS, HG, HB⟩ := hrel
    by_cases hrp : r < p
    · have hrd' : decide (r < p) = true := decide_eq_true hrp
      have hrI : (r : Int) < (p : Int) := by omega
      obtain ⟨Av, cv, hcell, hrd⟩ := HRW0.out r hrp
      have cO := hcell _ HB.out
      obtain ⟨row, hrow⟩ : ∃ row, row = os.getD r [] := ⟨_, rfl⟩
      have hml := HLB.out r hrp
      rw [← hrow] at cO hrd hml
      obtain ⟨m, hm⟩ : ∃ m, m = row.length := ⟨_, rfl⟩
      rw [← hm] at cO hrd hml
      have HRD := Lib.hid hrd
      have HRO := Lib.hid (And.intro hrow hm)
      clear hcell hrd hrow hm
      go_wp2_with fail
      go_loopw [8, 10, 19] (fun s _ jx wq => ∃ (j cs q : Nat) (As : Option Addr) (st : List Nat), j ≤ m ∧ jx = .int .i64 (j : Int) ∧ s = .slice As q cs ∧ Hid (q = st.length ∧ q ≤ j ∧ st = (row.take j).filter fun x => decide (x ≠ d)) ∧ Hid (DSt w wq w.heap.size A1 c1 ps As cs st)) (fun _ _ x _ => m - (intOf x).toNat)
      case atStart => exact ⟨0, 0, 0, none, [], by omega, rfl, rfl, ⟨rfl, by omega, by simp⟩, DSt.fresh HG.out HB.out⟩
      case round =>
        clear HG HB cO
        obtain ⟨wq, rfl⟩ : ∃ wq : World, wq = wr := ⟨_, rfl⟩
        obtain ⟨j, cs, q, As, st, hj, rfl, rfl, HS, HD⟩ := hrel
        have hbw : w.heap.size ≤ wq.heap.size := HD.out.bel.size
        by_cases hjm : j < m
        · have hjd : decide (j < m) = true := decide_eq_true hjm
          have hjI : (j : Int) < (m : Int) := by omega
          obtain ⟨b, o, rfl, hb, hc⟩ := HRD.out.i64 (by omega)
          obtain ⟨x, hx⟩ : ∃ x, x = row.getD j 0 := ⟨_, rfl⟩
          have cX : wq.cell? ⟨b, o + j, none⟩ = some (.int .i64 (x : Int)) := by
            rw [hx, ← ofN_get]; exact (HD.out.bel.cell (p := ⟨b, o + j, none⟩) hb).trans (hc j hjm)
          have wj1 : IntKind.i64.wrap ((j : Int) + 1) = (j : Int) + 1 := by simp [IntKind.wrap, IntKind.signed, IntKind.bits]; omega
          have hfs := flt_snoc d row j (by have := HRO.out.2; omega)
          rw [← hx] at hfs
          have hqj := HS.out.2.1
          by_cases hxd : x = d
          · have xb : ((x : Int) == (d : Int)) = true := by rw [beq_iff_eq, hxd]
            have xd : decide (x = d) = true := decide_eq_true hxd
            rw [if_neg (by simpa using hxd)] at hfs
            have HS2 : Hid (q = st.length ∧ q ≤ j + 1 ∧ st = (row.take (j + 1)).filter fun x => decide (x ≠ d)) := ⟨HS.out.1, by omega, HS.out.2.2.trans hfs.symm⟩
            clear hfs hx hc HS
            go_wp2_with fail
            go_roundw
            case rel => exact ⟨j + 1, cs, q, As, st, by omega, by go_num, rfl, HS2, HD⟩
            case measure => simp [intOf]; omega
          · have xI : ¬ (x : Int) = (d : Int) := by omega
            have xb : ((x : Int) == (d : Int)) = false := by rw [beq_eq_false_iff_ne]; exact xI
            have xd : decide (x = d) = false := decide_eq_false hxd
            rw [if_pos hxd] at hfs
            obtain ⟨A5, c5, w5, hrun, hD5⟩ := HD.out.push hbw x (by have := HS.out.1; omega)
            rw [← HS.out.1] at hrun
            have HS2 : Hid (q + 1 = (st ++ [x]).length ∧ q + 1 ≤ j + 1 ∧ st ++ [x] = (row.take (j + 1)).filter fun x => decide (x ≠ d)) := ⟨by rw [List.length_append, ← HS.out.1]; rfl, by omega, by rw [hfs, HS.out.2.2]⟩
            have HD5 := Lib.hid hD5
            clear hfs hx hc HS hD5 HD
            go_wp2_with (first
              | (at_builtin; go_must (refine wpList_append_runR rfl _ _ _ rfl _ _ _ _ rfl rfl hrun ?_)))
            go_roundw
            case rel => exact ⟨j + 1, c5, q + 1, A5, _, by omega, by go_num, rfl, HS2, HD5⟩
            case measure => simp [intOf]; omega
        · obtain rfl : j = m := by omega
          have hjd : decide (j < j) = false := by simp
          obtain ⟨A6, c6, w6, hrun, hG6, hB6⟩ := HD.out.snocV hbw (by have := HPS.out.1; omega)
          rw [HPS.out.1, ← HS.out.1] at hrun
          have hfin : st = row.filter fun x => decide (x ≠ d) := by rw [HS.out.2.2, HRO.out.2, List.take_length]
          have HPS2 : Hid ((ps ++ [((Value.slice As st.length cs, st) : GEl)]).length = r + 1 ∧ (ps ++ [((Value.slice As st.length cs, st) : GEl)]).map (·.2) = (os.take (r + 1)).map fun v => v.filter fun x => decide (x ≠ d)) := by
            refine ⟨by rw [List.length_append, HPS.out.1]; rfl, ?_⟩
            have e : os.take (r + 1) = os.take r ++ [os.getD r []] := by
              rw [List.take_add_one, List.getD_eq_getElem?_getD, List.getElem?_eq_getElem (by have := HP.out; omega)]; rfl
            rw [e, List.map_append, List.map_append, HPS.out.2, ← HRO.out.1]
            show _ ++ [st] = _
            rw [hfin]; rfl
          have HG6 := Lib.hid hG6
          have HB6 := Lib.hid hB6
          have wr1 : IntKind.i64.wrap ((r : Int) + 1) = (r : Int) + 1 := by simp [IntKind.wrap, IntKind.signed, IntKind.bits]; omega
          clear hG6 hB6 HD HS hfin HPS
          go_wp2_with (first
            | (at_builtin; go_must (refine wpList_append_runR rfl _ _ _ rfl _ _ _ _ rfl rfl hrun ?_)))
          go_roundw
          case rel => exact ⟨r + 1, c6, A6, _, by omega, by go_num, rfl, HPS2, HG6, HB6⟩
          case measure => simp [intOf]; omega
    · obtain rfl : p = r := by omega
      have hrd' : decide (p < p) = false := by simp
      go_wp2_with fail
      go_ret
      have h2 := HPS.out.2
      rw [show os.take p = os by rw [← HP.out, List.take_length]] at h2
      exact ⟨A1, c1, ps, rfl, HG.out, h2, by rw [List.length_map, HP.out], HB.out⟩
end Go.Proofs.Ytgcbdoljapnecaa
namespace Go.Proofs.Ytgcbdoljapnecaa
set_option maxRecDepth 100000
open Go.RowKit
set_option linter.unusedVariables false
theorem GRow.baseLe {w : World} {base base' c : Nat} {A : Option Addr} {ps : List GEl} (h : GRow w base A c ps) (hb : base' ≤ base) : GRow w base' A c ps :=
  ⟨h.own.base_le' hb, fun j hj => ⟨(h.inn j hj).1, (h.inn j hj).2.base_le' hb⟩, h.dj⟩
set_option maxHeartbeats 16000000 in
theorem rlists_p (A : Option Addr) (c : Nat) (l b : List Nat) (root lone : Int) (w : World) (h : Rd w w.heap.size A l.length (I64 (ofN l))) (hinv : Inv l b) (hn : l.length ≤ 20000) :
    Calls Try.prog 36 #[.agg #[.slice A l.length c, .int .i64 root, .int .i64 lone]] w (OutP w ((leads l l.length).map (orb l)) (met l l.length)) := by
  obtain ⟨n, hnl⟩ : ∃ n, n = l.length := ⟨_, rfl⟩
  have hal := (Below.refl w.heap.size w).alloc (Nat.le_refl _) (.cells #[.slice A l.length c, .int .i64 root, .int .i64 lone] 27)
  have HX := Lib.hid (Blk.new w 27 #[.slice A l.length c, .int .i64 root, .int .i64 lone])
  have HZ := Lib.hid hal
  have HR := Lib.hid (h.more hal)
  have HI := Lib.hid hinv
  have HN := Lib.hid hnl
  rw [← hnl] at HX HZ HR
  have hn2 : n ≤ 20000 := by omega
  have HML : Hid (∀ k, k ≤ n → met l k ≤ 20000) := fun k hk => by
    have h1 : (leads l k).length ≤ k := by
      unfold leads; exact Nat.le_trans (List.length_filter_le _ _) (by simp)
    have : met l k = (leads l k).length := rfl
    omega
  rw [← hnl]
  clear h hal hinv hn hnl
  go_enter Try.func36, Try.ntmps36
  go_upto_region 1 with fail
  generalize hw1 : w.alloc (.cells #[.slice A n c, .int .i64 root, .int .i64 lone] 27) = w1 at *
  clear hw1
  have x0 := HX.out.cell 0
  simp at x0
  have NM : Hid (Calls Try.prog 33 #[.slice A n c] w1 (NewI64 w1 (ofN (names l)))) := by
    show Calls _ _ _ _ _
    have := rnames_p A c w1.heap.size l b w1 (by rw [← HN.out]; exact HR.out) HI.out (by rw [← HN.out]; omega)
    rw [← HN.out] at this; exact this
  go_wp2_with fail
  refine NM.out.mono ?_
  rintro e w2 ⟨A3, c3, rfl, hc3, hm3, hown3, b2⟩
  have hnl : (ofN (names l)).length = n := by rw [ofN_len, names_len, HN.out]
  rw [hnl] at hown3 ⊢
  have HX2 := Lib.hid (HX.out.below b2)
  have HR2 := Lib.hid (HR.out.below b2)
  have HZ2 := Lib.hid (HZ.out.trans (b2.mono HZ.out.size))
  have HO := Lib.hid (Rd.ofOwn hown3)
  have hww : w.heap.size < w2.heap.size := HX2.out.lt
  have hw12 := b2.size
  clear hown3 b2 NM HX HR HZ x0 hc3 hm3 hnl
  go_wp2_with fail
  go_loopw [3, 5, 6, 12] (fun o _ _ idx wz => ∃ (k q c1 : Nat) (A1 : Option Addr) (ps : List GEl), k ≤ n ∧ idx = .int .i64 (k : Int) ∧ o = .slice A1 q c1 ∧ Hid (q = met l k ∧ ps.length = q ∧ ps.map (·.2) = (leads l k).map (orb l)) ∧ Hid (GRow wz w2.heap.size A1 c1 ps) ∧ Hid (Below w2.heap.size w2 wz)) (fun _ _ _ x _ => n - (intOf x).toNat)
  case atStart => exact ⟨0, 0, 0, none, [], by omega, rfl, rfl, ⟨(met_zero l).symm, rfl, by simp [leads]⟩, GRow.nil _ _, Below.refl _ _⟩
  case round =>
    obtain ⟨wz, rfl⟩ : ∃ wz : World, wz = wr := ⟨_, rfl⟩
    obtain ⟨k, q, c1, A1, ps, hk, rfl, rfl, HPS, HG, HB⟩ := hrel
    by_cases hkn : k < n
    · have hkd : decide (k < n) = true := decide_eq_true hkn
      have hkI : (k : Int) < (n : Int) := by omega
      have hkl : k < l.length := by rw [← HN.out]; exact hkn
      obtain ⟨b3, o3, rfl, hb3, hc⟩ := HO.out.i64 (by omega)
      obtain ⟨v, hv⟩ : ∃ v, v = nameOf l k := ⟨_, rfl⟩
      have cN : wz.cell? ⟨b3, o3 + k, none⟩ = some (.int .i64 (v : Int)) := by
        have := (HB.out.cell (p := ⟨b3, o3 + k, none⟩) hb3).trans (hc k hkn)
        rw [this, ofN_get, names_get _ _ hkl, hv]
      have y0 := (HX2.out.below HB.out).cell 0
      simp at y0
      have wk1 : IntKind.i64.wrap ((k : Int) + 1) = (k : Int) + 1 := by simp [IntKind.wrap, IntKind.signed, IntKind.bits]; omega
      have hqm := HPS.out.1
      by_cases hl : Leads l k
      · have hvq : v = q := by rw [hv, hqm]; exact name_lead HI.out hkl hl
        have OB : Hid (Calls Try.prog 39 #[.slice A n c, .int .i64 (k : Int)] wz (NewI64 wz (ofN (orb l k)))) := by
          show Calls _ _ _ _ _
          have := rorbit_p A c w1.heap.size l b k wz (by rw [← HN.out]; exact HR2.out.below (HB.out.mono (by omega))) HI.out (by rw [← HN.out]; omega) hkl
          rw [← HN.out] at this; exact this
        have hm1 := met_lead l k hl
        have HL1 : Hid (met l (k + 1) = q + 1 ∧ leads l (k + 1) = leads l k ++ [k]) := ⟨by rw [hm1, hqm], by rw [leads_next, if_pos hl]⟩
        have vb : ((v : Int) == (q : Int)) = true := by rw [beq_iff_eq, hvq]
        subst hvq
        clear hv hc hm1 hl vb
        go_wp2_with fail
        refine OB.out.mono ?_
        rintro e w4 ⟨A9, c9, rfl, hc9, hm9, hown9, b4⟩
        obtain ⟨ol, hol⟩ : ∃ ol, ol = (orb l k).length := ⟨_, rfl⟩
        have G4 := HG.out.below b4
        have hz4 : w2.heap.size ≤ w4.heap.size := by have := HB.out.size; have := b4.size; omega
        rw [ofN_len] at hown9 ⊢
        obtain ⟨A6, c6, w6, hrun, hG6, hB6, _⟩ := G4.snocW hz4 (by have := HPS.out.2.1; have := HML.out k hk; omega) (hown9.base_le' (by have := HB.out.size; omega)) (fun j hj kk hkk e => by
          have h1 := ((HG.out.inn j hj).2.lt kk hkk).2
          have h2 := (hown9.lt kk e).1
          omega)
        rw [HPS.out.2.1, ← hol] at hrun
        rw [← hol]
        have HPS2 : Hid (v + 1 = met l (k + 1) ∧ (ps ++ [((Value.slice A9 (orb l k).length c9, orb l k) : GEl)]).length = v + 1 ∧ (ps ++ [((Value.slice A9 (orb l k).length c9, orb l k) : GEl)]).map (·.2) = (leads l (k + 1)).map (orb l)) :=
          ⟨HL1.out.1.symm, by rw [List.length_append, HPS.out.2.1]; rfl, by rw [HL1.out.2, List.map_append, List.map_append, HPS.out.2.2]; rfl⟩
        have HG6 := Lib.hid hG6
        have HB6 := Lib.hid ((HB.out.trans (b4.mono HB.out.size)).trans hB6)
        clear hG6 hB6 G4 hown9 b4 hol hqm HPS HG HB hc9 hm9
        go_wp2_with (first
          | (at_builtin; go_must (refine wpList_append_runR rfl _ _ _ rfl _ _ _ _ rfl rfl hrun ?_)))
        go_roundw
        case rel => exact ⟨k + 1, v + 1, c6, A6, _, by omega, by go_num, rfl, HPS2, HG6, HB6⟩
        case measure => simp [intOf]; omega
      · have hvq : ¬ v = q := by rw [hv, hqm]; have := name_not HI.out hkl hl; omega
        have vI : ¬ (v : Int) = (q : Int) := by omega
        have vb : ((v : Int) == (q : Int)) = false := by rw [beq_eq_false_iff_ne]; exact vI
        have vd : decide (v = q) = false := decide_eq_false hvq
        have HPS2 : Hid (q = met l (k + 1) ∧ ps.length = q ∧ ps.map (·.2) = (leads l (k + 1)).map (orb l)) := ⟨by rw [met_not l k hl]; exact hqm, HPS.out.2.1, by rw [leads_next, if_neg hl, List.append_nil]; exact HPS.out.2.2⟩
        clear hv hc hqm HPS hl
        go_wp2_with fail
        go_roundw
        case rel => exact ⟨k + 1, q, c1, A1, ps, by omega, by go_num, rfl, HPS2, HG, HB⟩
        case measure => simp [intOf]; omega
    · obtain rfl : n = k := by omega
      have hkd : decide (n < n) = false := by simp
      have HF := Lib.hid (HG.out.baseLe (base' := w.heap.size) (by omega))
      have HBF := Lib.hid (HZ2.out.trans (HB.out.mono (by omega)))
      go_wp2_with fail
      go_ret
      obtain ⟨q1, q2, q3⟩ := HPS.out
      exact ⟨A1, c1, ps, by rw [q1]; first | rfl | simp, HF.out, q3, by rw [List.length_map]; rfl, HBF.out⟩
end Go.Proofs.Ytgcbdoljapnecaa
