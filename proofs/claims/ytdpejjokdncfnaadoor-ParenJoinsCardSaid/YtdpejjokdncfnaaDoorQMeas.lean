/- measure: a block's node. -/
import Derived.Test.YtdpejjokdncfnaaDoorQPar
namespace Go.Proofs.YtdpejjokdncfnaaDoor
open Go.RowKit
set_option linter.unusedVariables false
set_option maxRecDepth 20000
theorem min_two (a b : Nat) (ha : a ≤ 2000000) (hb : b ≤ 2000000) : ∀ w, (Builtin.min_ #[3, 3] 3 #[.int .i64 (a : Int), .int .i64 (b : Int)]).run Tryd.prog w = .ok (.int .i64 ((min a b : Nat) : Int)) w := fun w => by
  simp [Builtin.min_, Builtin.min2]
  repeat' split
  all_goals omega
theorem mn_bound {E : Nat → Int} (hE : Exc E) {n : Nat} (hn : n ≤ 1000000) (a k : Nat) (h : a + k ≤ n) : -1000000 ≤ mn E a k ∧ mn E a k ≤ 1000000 := by
  obtain ⟨i, h1, h2, h3⟩ := mn_at E a k
  have := hE.bound i
  omega
set_option maxHeartbeats 4000000 in
theorem measure_p (p g V n q b : Nat) (w : World) (h : PIx w p g V n q) (hb : 512 * b < n) :
    Calls Tryd.prog 64 #[.pointer (some ⟨p, 0, none⟩), .int .i64 (b : Int)] w fun e w' => e = .returned (ndv (nd (exc V) n b (b + 1))) ∧ Below w.heap.size w w' := by
  have hn := h.n9
  have hE := exc_Exc V
  obtain ⟨L, hL⟩ : ∃ L, min (512 * (b + 1)) n = L := ⟨_, rfl⟩
  have hL1 : 512 * b < L := by omega
  have hL2 : L ≤ n := by omega
  have PL := Lib.hid fun w' (b' : Below w.heap.size w w') => plen_p p g V n q w' (h.below b')
  have PC := Lib.hid fun w' (b' : Below w.heap.size w w') i (hi : i < n) => change_f p g V n q w' i (h.below b') hi
  have HE := Lib.hid hE
  have HN : Hid (nd (exc V) n b (b + 1) = (exc V L - exc V (512 * b), mn (exc V) (512 * b) (L - 512 * b) - exc V (512 * b))) := by show _ = _; rw [nd_real hb (by omega), hL]
  have MT := min_two (512 * (b + 1)) n (by omega) (by omega)
  rw [hL] at MT
  rw [show ((512 * (b + 1) : Nat) : Int) = ((b : Int) + 1) * 512 by omega] at MT
  have hx0 := hE.bound (512 * b)
  have HINF := Lib.hid info_node
  have e0 : (b : Int) * 512 = ((512 * b : Nat) : Int) := by omega
  obtain ⟨o, ho⟩ : ∃ o, 512 * b = o := ⟨_, rfl⟩
  rw [ho] at HN hL1 hx0 e0
  generalize hx : exc V o = x at *
  have HX := Lib.hid hx
  have ho9 : o ≤ n := by omega
  clear h hE hL ho hx hb
  go_enter Tryd.func64, Tryd.ntmps64
  go_wp2_with fail
  have hb5 := Blk.new (w.alloc (.cells #[.int .i32 0, .int .i32 0] 82)) 82 #[.int .i32 0, .int .i32 0]
  rw [World.size_alloc] at hb5
  have HB5 := Lib.hid hb5
  have HB4 : Hid (Blk ((w.alloc (.cells #[.int .i32 0, .int .i32 0] 82)).alloc (.cells #[.int .i32 0, .int .i32 0] 82)) w.heap.size 82 #[.int .i32 0, .int .i32 0]) := (Blk.new w _ _).alloc _
  clear hb5
  go_loopw [6] (fun v wr => ∃ (i : Nat) (s l : Int), o ≤ i ∧ i ≤ L ∧ v = .int .i64 (i : Int) ∧ -2000000 ≤ s ∧ s ≤ 2000000 ∧ -2000000 ≤ l ∧ l ≤ 0 ∧ Hid (s = exc V i - x) ∧ Hid (l = mn (exc V) o (i - o) - x) ∧ Hid (Blk wr (w.heap.size + 1) 82 #[.int .i32 s, .int .i32 l]) ∧ Hid (Blk wr w.heap.size 82 #[.int .i32 0, .int .i32 0]) ∧ Hid (Below w.heap.size w wr)) (fun v _ => L - (intOf v).toNat)
  case atStart => exact ⟨o, 0, 0, by omega, by omega, by first | rfl | exact congrArg (Value.int .i64) e0, by omega, by omega, by omega, by omega, by show _ = _; rw [HX.out]; omega, by show _ = _; rw [Nat.sub_self]; show _ = exc V o - x; rw [HX.out]; omega, HB5.out, HB4.out, ((Below.refl _ _).alloc (Nat.le_refl _) _).alloc (by simp) _⟩
  case round =>
    clear HB5 HB4
    obtain ⟨i, s, l, hoi, hiL, rfl, hs1, hs2, hl1, hl2, hs, hl, hblk, hres, hbel⟩ := hrel
    by_cases hlt : i < L
    · have c0 : wr.cell? ⟨w.heap.size + 1, 0, none⟩ = some (.int .i32 s) := hblk.out.cell 0
      have c1 : wr.cell? ⟨w.heap.size + 1, 1, none⟩ = some (.int .i32 l) := hblk.out.cell 1
      have f0 := hblk.out.frozen 0
      have f1 := hblk.out.frozen 1
      have hz : w.heap.size + 1 < wr.heap.size := hblk.out.lt
      obtain ⟨y, hy⟩ : ∃ y, exc V (i + 1) - exc V i = y := ⟨_, rfl⟩
      have hy1 : -1 ≤ y ∧ y ≤ 1 := by have := HE.out.step i; omega
      have C1 := Lib.hid fun w' b' => PC.out w' b' i (by omega)
      rw [hy] at C1
      have NS : Hid (s + y = exc V (i + 1) - x) := by show _ = _; have := hs.out; omega
      have NM : Hid ((if s + y < l then s + y else l) = mn (exc V) o (i + 1 - o) - x) := by
        show _ = _
        rw [show i + 1 - o = (i - o) + 1 by omega]
        show _ = min (mn (exc V) o (i - o)) (exc V (o + (i - o) + 1)) - x
        rw [show o + (i - o) + 1 = i + 1 by omega]
        have := hl.out
        have := NS.out
        split <;> omega
      have hb9 := HE.out.bound (i + 1)
      have hm9 := mn_bound HE.out hn o (i + 1 - o) (by omega)
      have hns : -2000000 ≤ s + y ∧ s + y ≤ 2000000 := by have := NS.out; omega
      have hnm : -2000000 ≤ (if s + y < l then s + y else l) ∧ (if s + y < l then s + y else l) ≤ 0 := by split <;> omega
      have HNM := Lib.hid hnm
      clear hnm
      clear hy hs hl hb9 hm9
      go_wp2_with (first
        | (go_at_call 15; refine (PL.out _ hbel.out).mono ?_; rintro e w' ⟨rfl, rfl⟩))
      go_region_with (first
        | (go_at_call 28; refine (C1.out _ (below_draws hbel.out 1)).mono ?_; rintro e w9 ⟨rfl, rfl⟩))
      all_goals (
        go_wp2_with fail
        generalize hu : (if s + y < l then s + y else l) = u at *
        have nb : Blk (((wr.drewN 1).setCell ⟨w.heap.size + 1, 0, none⟩ (.int .i32 (s + y))).setCell ⟨w.heap.size + 1, 1, none⟩ (.int .i32 u)) (w.heap.size + 1) 82 #[.int .i32 (s + y), .int .i32 u] := by
          have := ((hblk.out.drewN 1).set_ 0 (.int .i32 (s + y))).set_ 1 (.int .i32 u)
          simpa using this
        have nr : Blk (((wr.drewN 1).setCell ⟨w.heap.size + 1, 0, none⟩ (.int .i32 (s + y))).setCell ⟨w.heap.size + 1, 1, none⟩ (.int .i32 u)) w.heap.size 82 #[.int .i32 0, .int .i32 0] :=
          (hres.out.drewN 1).mod (S := fun i => i = w.heap.size + 1) (Mod.setCell (p := ⟨w.heap.size + 1, 1, none⟩) (Mod.setCell (p := ⟨w.heap.size + 1, 0, none⟩) (Mod.refl (fun i => i = w.heap.size + 1) (wr.drewN 1)) (fun _ => rfl) _) (fun _ => rfl) _) (by omega)
        have nd' : Below w.heap.size w (((wr.drewN 1).setCell ⟨w.heap.size + 1, 0, none⟩ (.int .i32 (s + y))).setCell ⟨w.heap.size + 1, 1, none⟩ (.int .i32 u)) := ((below_draws hbel.out 1).setCell (by simp) _).setCell (by simp) _
        go_roundw
        case rel => exact ⟨i + 1, s + y, u, by omega, by omega, by go_num, by omega, by omega, HNM.out.1, HNM.out.2, NS.out, NM.out, nb, nr, nd'⟩
        case measure => simp [intOf]; omega)
    · obtain rfl : i = L := by omega
      have c0 : wr.cell? ⟨w.heap.size + 1, 0, none⟩ = some (.int .i32 s) := hblk.out.cell 0
      have c1 : wr.cell? ⟨w.heap.size + 1, 1, none⟩ = some (.int .i32 l) := hblk.out.cell 1
      have r0 : wr.cell? ⟨w.heap.size, 0, none⟩ = some (.int .i32 0) := hres.out.cell 0
      have r1 : wr.cell? ⟨w.heap.size, 1, none⟩ = some (.int .i32 0) := hres.out.cell 1
      have f0 := hres.out.frozen 0
      have f1 := hres.out.frozen 1
      have hz : w.heap.size + 1 < wr.heap.size := hblk.out.lt
      go_wp2_with (first
        | (go_at_call 15; refine (PL.out _ hbel.out).mono ?_; rintro e w' ⟨rfl, rfl⟩))
      have nb : Blk ((wr.setCell ⟨w.heap.size, 0, none⟩ (.int .i32 s)).setCell ⟨w.heap.size, 1, none⟩ (.int .i32 l)) w.heap.size 82 #[.int .i32 s, .int .i32 l] := by
        have := (hres.out.set_ 0 (.int .i32 s)).set_ 1 (.int .i32 l)
        simpa using this
      refine bodyPost_ret (results_cell_row rfl _ _ w.heap.size 82 _ (0, 0) _ rfl nb Tryd.underlying82 rfl HINF.out) rfl ?_
      refine ⟨?_, (hbel.out.setCell (Nat.le_refl _) _).setCell (Nat.le_refl _) _⟩
      rw [HN.out]
      show Ending.returned (Value.agg #[.int .i32 s, .int .i32 l]) = Ending.returned (Value.agg #[.int .i32 _, .int .i32 _])
      rw [hs.out, hl.out]
end Go.Proofs.YtdpejjokdncfnaaDoor
