/- The document's Phi. -/
import Derived.Test.YthbhbcakiaaapaaDMap3
import Derived.Deep.RegionLaw
import Derived.Deep.AppendLies
namespace Go.Proofs.Ythbhbcakiaaapaa
set_option maxRecDepth 20000
open Go.RowKit
set_option linter.unusedVariables false

theorem take_oneN (l : List Nat) (k : Nat) (h : k < l.length) : l.take (k + 1) = l.take k ++ [l.getD k 0] := by
  rw [← List.take_append_getElem h, List.getD_eq_getElem?_getD, List.getElem?_eq_getElem h]; rfl
theorem phiL_get (l : List Nat) (k : Nat) (hk : k < l.length) : (phiL l).getD k 0 = l.getD (mateN k) 0 := by
  unfold phiL
  rw [comp_get _ _ _ (by rw [mateL_len]; exact hk), mateL_get _ _ hk]
set_option maxHeartbeats 4000000 in
theorem rphi_p (A : Option Addr) (c : Nat) (l : List Nat) (root lone : Int) (w : World) (h : Rd w w.heap.size A l.length (I64 (ofN l))) (he : l.length % 2 = 0) (hn : l.length ≤ 100000) :
    Calls Try.prog 47 #[.agg #[.slice A l.length c, .int .i64 root, .int .i64 lone]] w (NewI64 w (ofN (phiL l))) := by
  obtain ⟨i0, hi0, hz0, hz1, hz2⟩ := info_parts info_int
  have hb0 := (Below.refl w.heap.size w).alloc (Nat.le_refl _) (.cells #[.slice A l.length c, .int .i64 root, .int .i64 lone] 27)
  have H := Lib.hid (h.below hb0)
  have HBX := Lib.hid (Blk.new w 27 #[.slice A l.length c, .int .i64 root, .int .i64 lone])
  have HE := Lib.hid he
  have HPL := Lib.hid (phiL_len l)
  clear h he
  go_enter Try.func47, Try.ntmps47
  go_wp2_with fail
  generalize hw1 : w.alloc (.cells #[.slice A l.length c, .int .i64 root, .int .i64 lone] 27) = w1 at *
  have hs1 : w1.heap.size = w.heap.size + 1 := by rw [← hw1]; simp
  clear hw1
  go_loopw [3, 8] (fun v i wr => ∃ (k : Nat) (Av : Option Addr) (cv : Nat), k ≤ l.length ∧ i = .int .i64 (k : Int) ∧ v = .slice Av k cv ∧ Hid (wr.ownsRow (w.heap.size + 1) 3 1 (.slice Av k cv) k (I64 (ofN ((phiL l).take k)))) ∧ Hid (Below (w.heap.size + 1) w1 wr)) (fun _ i _ => l.length - (intOf i).toNat)
  case atStart => exact ⟨0, none, 0, by omega, rfl, rfl, World.ownsRow_nil _ _ _ _, Below.refl _ _⟩
  case round =>
    obtain ⟨k, Av, cv, hk, rfl, rfl, hown, hbl⟩ := hrel
    by_cases hlt : k < l.length
    · have hml := mateN_lt HE.out hlt
      have hr := H.out.below (hbl.out.mono (by omega))
      obtain ⟨b', o, rfl, hb'l, k1⟩ := hr.i64 (by omega)
      have t1 := k1 (mateN k) hml
      rw [ofN_get] at t1
      have hbx := (hbl.out.block w.heap.size (by omega)).trans HBX.out
      have x0 : wr.cell? ⟨w.heap.size, 0, none⟩ = some (.slice (some ⟨b', o, none⟩) l.length c) := Blk.cell hbx 0
      have MT := Lib.hid (fun w' => rmate_p k w' (by omega))
      have NX : Hid (I64 (ofN ((phiL l).take k)) ++ I64 [((l.getD (mateN k) 0 : Nat) : Int)] = I64 (ofN ((phiL l).take (k + 1)))) := by
        show _ = _
        rw [take_oneN _ _ (by rw [HPL.out]; exact hlt), phiL_get _ _ hlt, ofN_append, I64_append]; rfl
      have hsr := hbl.out.size
      have hbw : w.heap.size < wr.heap.size := by omega
      have hbw2 : b' < wr.heap.size := by omega
      have t2 : k + 1 ≤ maxLen := by simp only [maxLen]; omega
      have t3 : (k + 1) * 8 ≤ 140737488355328 := by omega
      have hmI : ((mateN k : Nat) : Int) < (l.length : Int) := by omega
      have hmI0 : (0 : Int) ≤ ((mateN k : Nat) : Int) := Int.natCast_nonneg _
      clear hr k1 hbx
      generalize mateN k = mk at *
      generalize l.getD mk 0 = x at *
      go_wp2_with fail
      go_region_law (first
        | (refine step_append_lies _ (by rfl) _ _ _ (by rfl) (w.heap.size + 1) 3 i0 _ 1 8 Try.underlying25 hi0 hz0 hz1 hz2 rfl (by omega) (.slice Av k cv) k (I64 (ofN ((phiL l).take k))) (by rfl) ((hown.out.alloc _).drew)
            ⟨wr.heap.size, 0, none⟩ 1 1 [.int .i64 (x : Int)] (by rfl) (by rfl) (World.news_of_block (cs := #[.int .i64 (x : Int)]) (t := 3) (fr := (0, 0)) (heap_alloc_new wr _)) (by simp [Value.oneCell'])
            (by omega) t2 t3 (by simp; omega) (wr.heap.size + 1) (by simp) ?_; intro gg cap w3 hown1 hgrow hat hlt3
           have hbx3 : Below (w.heap.size + 1) wr w3 := ((Below.refl _ _).alloc (by omega) (.cells #[.int .i64 (x : Int)] 3)).drew.trans (Below.appended ((hown.out.alloc _).drew) hgrow (by simp; omega))
           have HO3 := Lib.hid hown1
           have HB3 := Lib.hid hbx3
           clear hown1 hgrow hat hbx3)
        | (go_simp; go_at_call 72; refine (MT.out _).mono ?_; rintro e w' ⟨rfl, rfl⟩))
      all_goals (
        go_wp2_with fail
        have HO4 : Hid (w3.ownsRow (w.heap.size + 1) 3 1 (.slice (some ⟨gg, 0, none⟩) (k + 1) cap) (k + 1) (I64 (ofN ((phiL l).take (k + 1))))) := by
          have := HO3.out
          rw [show [Value.int .i64 (x : Int)] = I64 [(x : Int)] from rfl, NX.out] at this
          exact this
        go_roundw
        case rel => exact ⟨k + 1, _, cap, by omega, by go_num, rfl, HO4.out, hbl.out.trans HB3.out⟩
        case measure => simp [intOf]; omega)
    · obtain rfl : k = l.length := by omega
      have e1 : (phiL l).take l.length = phiL l := List.take_of_length_le (by rw [HPL.out]; exact Nat.le_refl _)
      rw [e1] at hown
      have hB : Below w.heap.size w wr := hb0.trans (hbl.out.mono (Nat.le_succ _))
      clear hb0 e1
      go_wp2_with fail
      go_ret
      refine .mk rfl ?_ hB
      rw [ofN_len, HPL.out]
      exact hown.out.base_le' (Nat.le_succ _)
end Go.Proofs.Ythbhbcakiaaapaa
