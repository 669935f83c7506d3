/- The model: counts of contexts, two cells each. -/
import Derived.Test.YtcefohjddbjcjaaZCMid
import Derived.Deep.LoopGhost
import Derived.Deep.CutRange
import Derived.Deep.RegionWith
import Derived.BigRegion
namespace Go.Proofs.Ytcefohjddbjcjaa
set_option maxRecDepth 20000
open Go.RowKit
set_option linter.unusedVariables false

/-- The cells of all counts. -/
def zoL (zs os : List Nat) : List Nat := (List.range (2 * zs.length)).map fun j => if j % 2 = 0 then zs.getD (j / 2) 0 else os.getD (j / 2) 0
theorem zoL_len (zs os : List Nat) : (zoL zs os).length = 2 * zs.length := by simp [zoL]
theorem zoL_z {zs os : List Nat} {i : Nat} (h : i < zs.length) : (zoL zs os).getD (2 * i) 0 = zs.getD i 0 := by
  simp [zoL, List.getD_eq_getElem?_getD, show 2 * i < 2 * zs.length by omega]
theorem zoL_o {zs os : List Nat} {i : Nat} (h : i < zs.length) : (zoL zs os).getD (2 * i + 1) 0 = os.getD i 0 := by
  have : (2 * i + 1) / 2 = i := by omega
  simp [zoL, List.getD_eq_getElem?_getD, show 2 * i + 1 < 2 * zs.length by omega, this]
theorem zoL_ext {x : List Nat} {zs os : List Nat} (h : x.length = 2 * zs.length) (hz : ∀ i, i < zs.length → x.getD (2 * i) 0 = zs.getD i 0) (ho : ∀ i, i < zs.length → x.getD (2 * i + 1) 0 = os.getD i 0) : x = zoL zs os := by
  refine getDN_ext (by rw [h, zoL_len]) fun j hj => ?_
  rw [h] at hj
  rcases Nat.mod_two_eq_zero_or_one j with e | e
  · obtain ⟨i, rfl⟩ : ∃ i, j = 2 * i := ⟨j / 2, by omega⟩
    rw [hz i (by omega), zoL_z (by omega)]
  · obtain ⟨i, rfl⟩ : ∃ i, j = 2 * i + 1 := ⟨j / 2, by omega⟩
    rw [ho i (by omega), zoL_o (by omega)]
theorem zoL_setz {zs os : List Nat} {i v : Nat} (h : i < zs.length) : (zoL zs os).set (2 * i) v = zoL (zs.set i v) os := by
  refine zoL_ext (by simp [zoL_len]) (fun j hj => ?_) fun j hj => ?_
  · simp at hj
    rw [getD_setN _ _ _ _ (by rw [zoL_len]; omega), getD_setN _ _ _ _ h]
    by_cases e : j = i
    · subst e; rw [if_pos rfl, if_pos rfl]
    · rw [if_neg (by omega), if_neg e, zoL_z hj]
  · simp at hj
    rw [getD_setN _ _ _ _ (by rw [zoL_len]; omega), if_neg (by omega), zoL_o hj]
theorem zoL_seto {zs os : List Nat} {i v : Nat} (h : i < zs.length) (hl : os.length = zs.length) : (zoL zs os).set (2 * i + 1) v = zoL zs (os.set i v) := by
  refine zoL_ext (by simp [zoL_len]) (fun j hj => ?_) fun j hj => ?_
  · rw [getD_setN _ _ _ _ (by rw [zoL_len]; omega), if_neg (by omega), zoL_z hj]
  · rw [getD_setN _ _ _ _ (by rw [zoL_len]; omega), getD_setN _ _ _ _ (by omega)]
    by_cases e : j = i
    · subst e; rw [if_pos rfl, if_pos rfl]
    · rw [if_neg (by omega), if_neg e, zoL_o hj]
theorem zoL_ones (n : Nat) : zoL (List.replicate n 1) (List.replicate n 1) = List.replicate (2 * n) 1 := by
  symm
  refine zoL_ext (by simp) (fun j hj => ?_) fun j hj => ?_
  · simp at hj; rw [getD_rep _ _ _ (by omega), getD_rep _ _ _ hj]
  · simp at hj; rw [getD_rep _ _ _ (by omega), getD_rep _ _ _ hj]
/-- At m lies a model, its counts at c. -/
def ModS (w : World) (m c : Nat) (zs os : List Nat) (x : Nat) : Prop :=
  Blk w m 99 #[.slice (some ⟨c, 0, none⟩) zs.length zs.length, .int .i64 (x : Int)] ∧ Blk w c 86 (U64 (zoL zs os)).toArray ∧ m ≠ c ∧ os.length = zs.length
theorem ModS.mod {w w' : World} {S : Nat → Prop} {m c : Nat} {zs os : List Nat} {x : Nat} (h : ModS w m c zs os x) (k : Mod S w w') (hm : ¬ S m) (hc : ¬ S c) : ModS w' m c zs os x :=
  ⟨h.1.mod k hm, h.2.1.mod k hc, h.2.2⟩
theorem ModS.below {w w' : World} {m c : Nat} {zs os : List Nat} {x : Nat} (h : ModS w m c zs os x) (k : Below w.heap.size w w') : ModS w' m c zs os x :=
  ⟨h.1.below k, h.2.1.below k, h.2.2⟩
theorem ModS.zc {w : World} {m c : Nat} {zs os : List Nat} {x : Nat} (h : ModS w m c zs os x) (i : Nat) (hi : i < zs.length) : w.cell? ⟨c, i * 2, none⟩ = some (.int .u64 ((zs.getD i 0 : Nat) : Int)) := by
  rw [Nat.mul_comm i 2, h.2.1.cell, List.getElem?_toArray, U64_get _ _ (by rw [zoL_len]; omega), zoL_z hi]
theorem ModS.oc {w : World} {m c : Nat} {zs os : List Nat} {x : Nat} (h : ModS w m c zs os x) (i : Nat) (hi : i < zs.length) : w.cell? ⟨c, i * 2 + 1, none⟩ = some (.int .u64 ((os.getD i 0 : Nat) : Int)) := by
  rw [Nat.mul_comm i 2, h.2.1.cell, List.getElem?_toArray, U64_get _ _ (by rw [zoL_len]; omega), zoL_o hi]
set_option maxHeartbeats 1000000 in
theorem mcounts_p (m c : Nat) (zs os : List Nat) (x : Nat) (w : World) (h : ModS w m c zs os x) (hx : x < zs.length) (hl : zs.length ≤ 256) :
    Calls Try.prog 51 #[.pointer (some ⟨m, 0, none⟩)] w fun e w' => e = .returned (.agg #[.int .u64 ((zs.getD x 0 : Nat) : Int), .int .u64 ((os.getD x 0 : Nat) : Int)]) ∧ Below w.heap.size w w' := by
  have c0 : w.cell? ⟨m, 0, none⟩ = some (.slice (some ⟨c, 0, none⟩) zs.length zs.length) := Blk.cell h.1 0
  have c1 : w.cell? ⟨m, 1, none⟩ = some (.int .i64 (x : Int)) := Blk.cell h.1 1
  have c2 := h.zc x hx
  have c3 := h.oc x hx
  have hm := h.1.lt
  have hc := h.2.1.lt
  generalize zs.getD x 0 = z at *
  generalize os.getD x 0 = o at *
  clear h
  go_enter Try.func51, Try.ntmps51
  go_wp2_with fail
  have HINF := Lib.hid (show (Try.prog.info? 86).map (·.size) = some (#[Value.int .u64 (z : Int), .int .u64 (o : Int)]).size by kernel_rfl)
  go_region
  all_goals (
    go_wp2_with fail
    refine bodyPost_ret (results_cell_row rfl _ _ w.heap.size 86 _ (0, 0) _ rfl (Blk.new w _ _) Try.underlying86 rfl HINF.out) rfl ?_
    exact ⟨rfl, ((Below.refl _ _).alloc (Nat.le_refl _) _).drew⟩)
/-- A context's counts turned. -/
theorem ModS.setz {w : World} {m c : Nat} {zs os : List Nat} {x : Nat} (h : ModS w m c zs os x) (i v : Nat) (hi : i < zs.length) : ModS (w.setCell ⟨c, i * 2, none⟩ (.int .u64 (v : Int))) m c (zs.set i v) os x := by
  refine ⟨?_, ?_, h.2.2.1, by simp [h.2.2.2]⟩
  · have := h.1.mod (Mod.setCell (p := ⟨c, i * 2, none⟩) (Mod.refl (fun k => k = c) w) (fun _ => rfl) (.int .u64 (v : Int))) (fun e => h.2.2.1 e)
    simpa using this
  · have := h.2.1.set_ (i * 2) (.int .u64 (v : Int))
    rw [Nat.mul_comm i 2, List.setIfInBounds_toArray, ← U64_set, zoL_setz hi, ← Nat.mul_comm i 2] at this
    exact this
theorem ModS.seto {w : World} {m c : Nat} {zs os : List Nat} {x : Nat} (h : ModS w m c zs os x) (i v : Nat) (hi : i < zs.length) : ModS (w.setCell ⟨c, i * 2 + 1, none⟩ (.int .u64 (v : Int))) m c zs (os.set i v) x := by
  refine ⟨?_, ?_, h.2.2.1, by simp [h.2.2.2]⟩
  · exact h.1.mod (Mod.setCell (p := ⟨c, i * 2 + 1, none⟩) (Mod.refl (fun k => k = c) w) (fun _ => rfl) (.int .u64 (v : Int))) (fun e => h.2.2.1 e)
  · have := h.2.1.set_ (i * 2 + 1) (.int .u64 (v : Int))
    rw [Nat.mul_comm i 2, List.setIfInBounds_toArray, ← U64_set, zoL_seto hi h.2.2.2, ← Nat.mul_comm i 2] at this
    exact this
theorem ModS.setx {w : World} {m c : Nat} {zs os : List Nat} {x : Nat} (h : ModS w m c zs os x) (v : Nat) : ModS (w.setCell ⟨m, 1, none⟩ (.int .i64 (v : Int))) m c zs os v := by
  refine ⟨?_, h.2.1.mod (Mod.setCell (p := ⟨m, 1, none⟩) (Mod.refl (fun k => k = m) w) (fun _ => rfl) (.int .i64 (v : Int))) (fun e => h.2.2.1 e.symm), h.2.2⟩
  have := h.1.set_ 1 (.int .i64 (v : Int))
  simpa using this
set_option maxHeartbeats 2000000 in
theorem newModel_p (k : Nat) (w : World) (hk : k ≤ 8) :
    Calls Try.prog 47 #[.int .i64 (k : Int)] w fun e w' => ∃ m c, e = .returned (.pointer (some ⟨m, 0, none⟩)) ∧ ModS w' m c (List.replicate (2 ^ k) 1) (List.replicate (2 ^ k) 1) 0 ∧ Below w.heap.size w w' ∧ w.heap.size ≤ m ∧ w.heap.size ≤ c ∧ m < w'.heap.size ∧ c < w'.heap.size := by
  have hN : 2 ^ k ≤ 256 := Nat.pow_le_pow_right (by decide) hk
  obtain ⟨N, hNe⟩ : ∃ N, N = 2 ^ k := ⟨_, rfl⟩
  rw [← hNe] at hN ⊢
  have hsh : wrap64 (2 ^ k) = (N : Int) := by
    have : ((2 : Int) ^ k) = (N : Int) := by rw [hNe]; simp
    rw [this]; unfold wrap64; omega
  obtain ⟨i0, hi0, hz0, hz1, hz2⟩ := info_parts (show (Try.prog.info? 86).map (fun i => (i.zero, i.size, i.bytes)) = some (some (.agg #[.int .u64 0, .int .u64 0]), 2, 16) by kernel_rfl)
  have hmk : ∀ W : World, (Instr.makeSlice 97 (.int .i64 (N : Int)) (.int .i64 (N : Int))).run Try.prog W = .ok (.slice (some ⟨W.heap.size, 0, none⟩) N N) (W.alloc (.cells (U64 (List.replicate (2 * N) 0)).toArray 86)) := fun W => by
    have hr := run_make (P := Try.prog) W 97 86 i0 _ Try.underlying97 hi0 hz0 .i64 .i64 N N (by omega) (Int.le_refl _) (by rw [hz2]; omega) (by omega)
    rw [hr, hz1]
    congr 3
    apply Array.toList_inj.1
    apply List.ext_getElem
    · simp [madeCells, U64_len]; omega
    · intro i h1 h2
      simp [madeCells, U64, Value.cells]
      rcases Nat.mod_two_eq_zero_or_one i with e | e <;> simp [e]
  clear hNe hi0 hz0 hz1 hz2
  go_enter Try.func47, Try.ntmps47
  go_wp2_with fail
  have hW : Blk (w.alloc (.cells (U64 (List.replicate (2 * N) 0)).toArray 86) |>.alloc (.cells #[.slice (some ⟨w.heap.size, 0, none⟩) N N, .int .i64 0] 99)) w.heap.size 86 (U64 (List.replicate (2 * N) 0)).toArray := (Blk.new w _ _).alloc _
  have hM : Blk (w.alloc (.cells (U64 (List.replicate (2 * N) 0)).toArray 86) |>.alloc (.cells #[.slice (some ⟨w.heap.size, 0, none⟩) N N, .int .i64 0] 99)) (w.heap.size + 1) 99 #[.slice (some ⟨w.heap.size, 0, none⟩) N N, .int .i64 0] := by
    have := Blk.new (w.alloc (.cells (U64 (List.replicate (2 * N) 0)).toArray 86)) 99 #[.slice (some ⟨w.heap.size, 0, none⟩) N N, .int .i64 0]
    simpa using this
  have hB : Below w.heap.size w (w.alloc (.cells (U64 (List.replicate (2 * N) 0)).toArray 86) |>.alloc (.cells #[.slice (some ⟨w.heap.size, 0, none⟩) N N, .int .i64 0] 99)) := ((Below.refl _ _).alloc (Nat.le_refl _) _).alloc (by simp) _
  have HW := Lib.hid hW
  have HM := Lib.hid hM
  have HB := Lib.hid hB
  clear hW hM hB
  go_loopw [15] (fun i wr => ∃ k : Nat, k ≤ N ∧ i = .int .i64 (k : Int) ∧ Hid (Blk wr w.heap.size 86 (U64 (List.replicate (2 * k) 1 ++ List.replicate (2 * (N - k)) 0)).toArray) ∧ Hid (Blk wr (w.heap.size + 1) 99 #[.slice (some ⟨w.heap.size, 0, none⟩) N N, .int .i64 0]) ∧ Hid (Below w.heap.size w wr)) (fun i _ => N - (intOf i).toNat)
  case atStart => exact ⟨0, by omega, rfl, by simpa using HW, HM, HB⟩
  case round =>
    clear HW HM HB
    obtain ⟨k, hk, rfl, HW, HM, HB⟩ := hrel
    have m0 : wr.cell? ⟨w.heap.size + 1, 0, none⟩ = some (.slice (some ⟨w.heap.size, 0, none⟩) N N) := Blk.cell HM.out 0
    by_cases hlt : k < N
    · have hmm : ∀ i, i < 2 * N → ∃ v, wr.cell? ⟨w.heap.size, i, none⟩ = some v := fun i hi => by
        rw [Blk.cell HW.out]; exact ⟨_, Array.getElem?_eq_getElem (by simp [U64_len]; omega)⟩
      obtain ⟨v0, c0⟩ := hmm (k * 2) (by omega)
      obtain ⟨v1, c1⟩ := hmm (k * 2 + 1) (by omega)
      have f0 := Blk.frozen HW.out (k * 2)
      have f1 := Blk.frozen HW.out (k * 2 + 1)
      have hp : ((k : Int) * 2 : Int).toNat = k * 2 := by omega
      have HS : Hid (Blk ((wr.setCell ⟨w.heap.size, k * 2, none⟩ (.int .u64 1)).setCell ⟨w.heap.size, k * 2 + 1, none⟩ (.int .u64 1)) w.heap.size 86 (U64 (List.replicate (2 * (k + 1)) 1 ++ List.replicate (2 * (N - (k + 1))) 0)).toArray) := by
        have t1 := HW.out.set_ (k * 2) (.int .u64 ((1 : Nat) : Int))
        rw [List.setIfInBounds_toArray, ← U64_set] at t1
        have this := t1.set_ (k * 2 + 1) (.int .u64 ((1 : Nat) : Int))
        rw [List.setIfInBounds_toArray, ← U64_set] at this
        have e : (((List.replicate (2 * k) 1 ++ List.replicate (2 * (N - k)) 0).set (k * 2) 1).set (k * 2 + 1) 1) = List.replicate (2 * (k + 1)) 1 ++ List.replicate (2 * (N - (k + 1))) 0 := by
          obtain ⟨j, hj⟩ : ∃ j, N - k = j + 1 := ⟨N - k - 1, by omega⟩
          rw [show N - (k + 1) = j by omega, hj]
          apply List.ext_getElem?
          intro i
          simp only [List.getElem?_set, List.getElem?_append, List.getElem?_replicate, List.length_set, List.length_append, List.length_replicate]
          by_cases e1 : k * 2 + 1 = i
          · subst e1; rw [if_pos rfl, if_pos (by omega), if_pos (by omega), if_pos (by omega)]
          · rw [if_neg e1]
            by_cases e2 : k * 2 = i
            · subst e2; rw [if_pos rfl, if_pos (by omega), if_pos (by omega), if_pos (by omega)]
            · rw [if_neg e2]
              by_cases e3 : i < 2 * k
              · rw [if_pos e3, if_pos e3, if_pos (by omega), if_pos (by omega)]
              · rw [if_neg e3, if_neg (show ¬ i < 2 * (k + 1) by omega)]
                by_cases e4 : i - 2 * k < 2 * (j + 1)
                · rw [if_pos e4, if_pos (by omega)]
                · rw [if_neg e4, if_neg (by omega)]
        rw [e] at this
        exact this
      have HS2 : Hid (Blk ((wr.setCell ⟨w.heap.size, k * 2, none⟩ (.int .u64 1)).setCell ⟨w.heap.size, k * 2 + 1, none⟩ (.int .u64 1)) (w.heap.size + 1) 99 #[.slice (some ⟨w.heap.size, 0, none⟩) N N, .int .i64 0]) :=
        HM.out.mod (((Mod.refl (fun i => i = w.heap.size) wr).setCell (fun _ => rfl) _).setCell (fun _ => rfl) _) (by omega)
      have HS3 : Hid (Below w.heap.size w ((wr.setCell ⟨w.heap.size, k * 2, none⟩ (.int .u64 1)).setCell ⟨w.heap.size, k * 2 + 1, none⟩ (.int .u64 1))) := (HB.out.setCell (Nat.le_refl _) _).setCell (Nat.le_refl _) _
      clear hmm
      go_wp2_with fail
      go_roundw
      case rel => exact ⟨k + 1, by omega, by go_num, HS, HS2, HS3⟩
      case measure => simp [intOf]; omega
    · obtain rfl : k = N := by omega
      go_wp2_with fail
      go_ret
      have hw := HW.out
      rw [Nat.sub_self, Nat.mul_zero, List.replicate_zero, List.append_nil, ← zoL_ones] at hw
      exact ⟨_, _, rfl, ⟨by simpa using HM.out, hw, by omega, by simp⟩, HB.out, by omega, by omega, HM.out.lt, hw.lt⟩
end Go.Proofs.Ytcefohjddbjcjaa
