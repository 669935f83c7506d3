/- The document's owners and mates of letters. -/
import Derived.Test.YtagpdpacaoianaaGreatDoorZMOwnM
import Derived.Test.YtagpdpacaoianaaGreatDoorZQMates
import Derived.Test.YtagpdpacaoianaaGreatDoorZMSort
namespace Go.Proofs.YtagpdpacaoianaaGreatDoor
set_option maxRecDepth 20000
open Go.RowKit
set_option linter.unusedVariables false
def OwnersP (w : World) (ks : List Nat) (n : Nat) (e : Ending) (w' : World) : Prop :=
  ∃ (Y : Option Addr) (cy : Nat) (y : List Int), e = .returned (.slice Y n cy) ∧ w'.ownsRow w.heap.size 3 1 (.slice Y n cy) n (I64 y) ∧ (∀ i, i < n → OwnAt ks i (y.getD i 0)) ∧ Below w.heap.size w w'
structure OSt (w w1 wr : World) (ks : List Nat) (n i k gy : Nat) (A6 : Option Addr) (c6 : Nat) (y : List Int) (S : List Nat) : Prop where
  st : OStk ks i S
  sl : S.length = k
  kn : ∀ j, j < i → OwnAt ks j (y.getD j 0)
  oy : wr.ownsRow w.heap.size 3 1 (.slice (some ⟨gy, 0, none⟩) n n) n (I64 y)
  os : wr.ownsRow w1.heap.size 3 1 (.slice A6 k c6) k (I64 (ofNB S))
  bel : Below w.heap.size w wr
  ly : gy < w1.heap.size
  sz : w1.heap.size ≤ wr.heap.size
theorem OSt.leny {w w1 wr : World} {ks : List Nat} {n i k gy c6 : Nat} {A6 : Option Addr} {y : List Int} {S : List Nat} (h : OSt w w1 wr ks n i k gy A6 c6 y S) : y.length = n := own_lenI h.oy
/-- A number is put where the letter stands. -/
theorem OSt.put {w w1 wr : World} {ks : List Nat} {n i k gy c6 : Nat} {A6 : Option Addr} {y : List Int} {S : List Nat} (h : OSt w w1 wr ks n i k gy A6 c6 y S) (hi : i < n) (v : Int) : OSt w w1 (wr.setCell ⟨gy, i, none⟩ (.int .i64 v)) ks n i k gy A6 c6 (y.set i v) S :=
  ⟨h.st, h.sl, fun j hj => by rw [getDI_set' y i j v (by rw [h.leny]; exact hi) (by omega)]; exact h.kn j hj, own_setI h.oy i v, own_set_other h.os (own_block_ne h.os h.ly) _ _, h.bel.setCell (own_block h.oy).1 _, h.ly, by simp [World.setCell]; exact h.sz⟩
theorem OSt.next {w w1 wr : World} {ks : List Nat} {n i k gy c6 : Nat} {A6 : Option Addr} {y : List Int} {S : List Nat} (h : OSt w w1 wr ks n i k gy A6 c6 y S) (ho : OwnAt ks i (y.getD i 0)) (hs : OStk ks (i + 1) S) : OSt w w1 wr ks n (i + 1) k gy A6 c6 y S :=
  ⟨hs, h.sl, fun j hj => by
    by_cases e : j = i
    · subst e; exact ho
    · exact h.kn j (by omega), h.oy, h.os, h.bel, h.ly, h.sz⟩
theorem OSt.shut {w w1 wr : World} {ks : List Nat} {n i k gy c6 : Nat} {A6 : Option Addr} {y : List Int} {S : List Nat} (h : OSt w w1 wr ks n i (k + 1) gy A6 c6 y S) (ho : OwnAt ks i (y.getD i 0)) (hs : OStk ks (i + 1) (S.take (S.length - 1))) : OSt w w1 wr ks n (i + 1) k gy A6 c6 y (S.take k) := by
  have e : S.length - 1 = k := by rw [h.sl]; omega
  rw [e] at hs
  have oc := own_cut h.os (show k ≤ k + 1 by omega) (by omega)
  rw [I64_take, ← ofN_takeB] at oc
  exact ⟨hs, by rw [List.length_take, h.sl]; omega, fun j hj => by
    by_cases e : j = i
    · subst e; exact ho
    · exact h.kn j (by omega), h.oy, oc, h.bel, h.ly, h.sz⟩
theorem OSt.grow {w w1 W W' : World} {ks : List Nat} {n i k gy c6 c' : Nat} {A6 A' : Option Addr} {y : List Int} {S : List Nat} (h : OSt w w1 W ks n i k gy A6 c6 y S) (o : Obj)
    (hs : OStk ks (i + 1) (S ++ [i])) (hoi : OwnAt ks i (y.getD i 0))
    (ho : W'.ownsRow w1.heap.size 3 1 (.slice A' (k + 1) c') (k + 1) (I64 (ofNB S) ++ I64 [(i : Int)])) (hg : (W.alloc o).grownBy W' (Value.slice A6 k c6).ownBlock) : OSt w w1 W' ks n (i + 1) (k + 1) gy A' c' y (S ++ [i]) := by
  have hyo := own_block_ne h.os h.ly
  have h1 := (own_block h.oy).1
  refine ⟨hs, by rw [List.length_append, h.sl]; rfl, fun j hj => ?_, own_mod (h.oy.alloc o) (Mod.ofGrown hg) fun j hj e => ?_, ?_, ?_, h.ly, by have h7 := hg.size; have h8 := h.sz; simp at h7; omega⟩
  · by_cases e : j = i
    · subst e; exact hoi
    · exact h.kn j (by omega)
  · have : gy = j := by simpa [Value.ownBlock] using hj
    subst this; exact hyo e.symm
  · rw [← I64_append] at ho
    rw [ofN_appendB]
    exact ho
  · exact (h.bel.alloc h.bel.size o).trans ((Below.appended (h.os.alloc o) hg (by have := h.sz; simp; omega)).mono (by have := h.ly; omega))
set_option maxHeartbeats 8000000 in
theorem owners_p (A : Option Addr) (n c : Nat) (ks : List Nat) (w : World) (hr : Rd w w.heap.size A n (I64 (ofNB ks))) (hk : Kds ks) (hn : n ≤ 100000) (hB : Bal (exc (val (ownL 0 ks))) (ownL 0 ks).length) :
    Calls Tryz.prog 24 #[.slice A n c] w (OwnersP w ks n) := by
  obtain ⟨i0, hi0, hz0, hz1, hz2⟩ := info_parts info_int
  have HL : Hid (ks.length = n) := by have := hr.len; rw [I64_len, ofN_lenB] at this; exact this
  have HR := Lib.hid hr
  have HK := Lib.hid hk
  have HB0 := Lib.hid hB
  have HT : Hid (∀ i S, i < n → OStk ks i S → OwnAt ks i (topP S)) := fun i S hi hs => hs.own hk hB (by rw [HL.out]; exact hi)
  clear hr hk hB
  have hml : n ≤ maxLen := by simp only [maxLen]; omega
  have hmk : ∀ w, (Instr.makeSlice 27 (.int .i64 (n : Int)) (.int .i64 (n : Int))).run Tryz.prog w = .ok (.slice (some ⟨w.heap.size, 0, none⟩) n n) (w.alloc (.cells (List.replicate n (.int .i64 0)).toArray 3)) := fun w =>
    run_make_one 27 3 i0 (.int .i64 0) 8 Tryz.underlying27 hi0 hz0 hz1 hz2 rfl .i64 .i64 n (by omega) (by omega) w
  have hrep : (List.replicate n (Value.int .i64 0)).toArray = Array.replicate n (.int .i64 0) := by rw [List.toArray_replicate]
  have M0 : Hid (OSt w (w.alloc (.cells (Array.replicate n (.int .i64 0)) 3)) (w.alloc (.cells (Array.replicate n (.int .i64 0)) 3)) ks n 0 0 w.heap.size none 0 (List.replicate n 0) []) := by
    have o1 := own_made w 3 n (.int .i64 0) hml
    rw [List.toArray_replicate, ← I64_replicate] at o1
    exact ⟨OStk.nil ks, rfl, fun j hj => absurd hj (by omega), o1, World.ownsRow_nil _ _ _ _, (Below.refl _ _).alloc (Nat.le_refl _) _, by simp, Nat.le_refl _⟩
  rw [hrep] at hmk
  clear hrep
  go_enter Tryz.func24, Tryz.ntmps24
  go_wp2_with fail
  clear hmk
  obtain ⟨gy, hgy⟩ : ∃ gy, gy = w.heap.size := ⟨_, rfl⟩
  rw [← hgy] at M0 ⊢
  have HGY := Lib.hid hgy
  clear hgy
  generalize w.alloc (.cells (Array.replicate n (.int .i64 0)) 3) = w1 at *
  go_loopw [4, 12] (fun v x wr => ∃ (i k c6 : Nat) (A6 : Option Addr) (y : List Int) (S : List Nat), x = .int .i64 (i : Int) ∧ v = .slice A6 k c6 ∧ i ≤ n ∧ k ≤ i ∧ k ≤ c6 ∧ c6 ≤ 9223372036854775807 ∧ Hid (OSt w w1 wr ks n i k gy A6 c6 y S)) (fun _ x _ => n - (intOf x).toNat)
  case atStart => exact ⟨0, 0, 0, none, _, _, rfl, rfl, by omega, by omega, by omega, by omega, M0⟩
  case round =>
    clear M0
    obtain ⟨i, k, c6, A6, y, S, rfl, rfl, hin, hki, hkc, hc6, HS⟩ := hrel
    by_cases hlt : i < n
    · obtain ⟨b', o, e, _, k1⟩ := (HR.out.below HS.out.bel).i64 (by omega)
      subst e
      have t1 := k1 i hlt
      rw [ofN_getB] at t1
      have hx4 := HK.out.getD i
      have HOW := Lib.hid (HT.out i S hlt HS.out.st)
      obtain ⟨x, hx⟩ : ∃ x, x = ks.getD i 0 := ⟨_, rfl⟩
      have HXX := Lib.hid hx
      rw [← hx] at t1 hx4
      clear k1 hx
      have HLY := Lib.hid HS.out.leny
      have gyc : wr.cell? ⟨gy, i, none⟩ = some (.int .i64 (y.getD i 0)) := own_cellI HS.out.oy i hlt
      have gyf : wr.frozen? ⟨gy, i, none⟩ = false := HS.out.oy.frozenAt i
      by_cases hk0 : k = 0
      · subst hk0
        have M1 : Hid (OSt w w1 (wr.setCell ⟨gy, i, none⟩ (.int .i64 (-1))) ks n i 0 gy A6 c6 (y.set i (-1)) S) := HS.out.put hlt (-1)
        have OA : Hid (OwnAt ks i ((y.set i (-1)).getD i 0)) := by
          have h1 := HOW.out
          unfold topP at h1
          rw [if_pos HS.out.sl] at h1
          rw [getDI_set1 y i _ (by rw [HLY.out]; exact hlt)]; exact h1
        clear HOW HS
        rcases (by omega : x = 0 ∨ x = 1 ∨ x = 2 ∨ x = 3) with rfl | rfl | rfl | rfl
        · have SN : Hid (OStk ks (i + 1) (S ++ [i])) := M1.out.st.push (by rw [HL.out]; exact hlt) HXX.out.symm
          have bA := (Below.refl (wr.setCell ⟨gy, i, none⟩ (.int .i64 (-1))).heap.size (wr.setCell ⟨gy, i, none⟩ (.int .i64 (-1)))).alloc (Nat.le_refl _) (.cells #[.int .i64 (i : Int)] 3)
          have hsz : (wr.setCell ⟨gy, i, none⟩ (.int .i64 (-1))).heap.size = wr.heap.size := by simp [World.setCell]
          have ownA := own_below M1.out.os bA
          have rA := Rd.new (wr.setCell ⟨gy, i, none⟩ (.int .i64 (-1))) 3 #[.int .i64 (i : Int)] 1 (I64 [(i : Int)]) (by simp [I64]) (by simp)
          rw [hsz] at rA
          have e1 : 0 + 1 ≤ maxLen := by simp only [maxLen]; omega
          have e2 : (0 + 1) * 8 ≤ 140737488355328 := by omega
          have e3 : w1.heap.size ≤ ((wr.setCell ⟨gy, i, none⟩ (.int .i64 (-1))).alloc (.cells #[.int .i64 (i : Int)] 3)).heap.size := by have := M1.out.sz; simp only [World.size_alloc]; omega
          clear hsz
          go_wp2_with (first
            | (at_builtin; go_must (refine wpList_append_rd _ rfl _ _ 27 rfl w1.heap.size 3 i0 (.int .i64 0) 8 Tryz.underlying27 hi0 hz0 hz1 hz2 rfl (.slice A6 (0) c6) (0) (I64 (ofNB S)) rfl ownA (wr.heap.size + 1) (some ⟨wr.heap.size, 0, none⟩) 1 1 (I64 [(i : Int)]) rfl rA (I64_one _) e1 e2 e3 ?_)))
          intro A7 c7 w7 hc7 hm7 hown7 hg7 _
          have M7 := Lib.hid (M1.out.grow _ SN.out OA.out hown7 hg7)
          have hm79 : c7 ≤ 9223372036854775807 := by unfold maxLen at hm7; omega
          clear bA ownA rA e1 e2 e3 hown7 hg7
          go_wp2_with fail
          go_roundw
          case rel => exact ⟨i + 1, 0 + 1, c7, A7, _, _, by go_num, rfl, by omega, by omega, hc7, hm79, M7⟩
          case measure => simp [intOf]; omega
        · exfalso
          have := (M1.out.st.pop HB0.out (by rw [HL.out]; exact hlt) HXX.out.symm).1
          have := M1.out.sl
          omega
        · have M7 := Lib.hid (M1.out.next OA.out (M1.out.st.skip (by rw [HL.out]; exact hlt) (by rw [← HXX.out]; decide)))
          go_wp2_with fail
          go_roundw
          case rel => exact ⟨i + 1, 0, c6, _, _, _, by go_num, rfl, by omega, by omega, by omega, hc6, M7⟩
          case measure => simp [intOf]; omega
        · have M7 := Lib.hid (M1.out.next OA.out (M1.out.st.skip (by rw [HL.out]; exact hlt) (by rw [← HXX.out]; decide)))
          go_wp2_with fail
          go_roundw
          case rel => exact ⟨i + 1, 0, c6, _, _, _, by go_num, rfl, by omega, by omega, by omega, hc6, M7⟩
          case measure => simp [intOf]; omega
      · obtain ⟨k', rfl⟩ : ∃ k', k = k' + 1 := ⟨k - 1, by omega⟩
        obtain ⟨g6, e6, g61, g62⟩ := own_some HS.out.os (by omega)
        subst e6
        have hgy6 : gy ≠ g6 := by have := HS.out.ly; omega
        have q1 : wr.cell? ⟨g6, k', none⟩ = some (.int .i64 ((S.getD k' 0 : Nat) : Int)) := by
          have := own_cellI HS.out.os k' (by omega)
          rw [ofN_getB] at this
          exact this
        obtain ⟨v, hv⟩ : ∃ v : Int, v = ((S.getD k' 0 : Nat) : Int) := ⟨_, rfl⟩
        rw [← hv] at q1
        have q2 : (wr.setCell ⟨gy, i, none⟩ (.int .i64 (-1))).cell? ⟨g6, k', none⟩ = some (.int .i64 v) := by rw [← q1]; exact World.cell?_setCell_other _ _ _ _ (by first | (simp; omega) | simp | (simp; exact hgy6))
        have M0 : Hid (OSt w w1 (wr.setCell ⟨gy, i, none⟩ (.int .i64 (-1))) ks n i (k' + 1) gy (some ⟨g6, 0, none⟩) c6 (y.set i (-1)) S) := HS.out.put hlt (-1)
        have f2 : (wr.setCell ⟨gy, i, none⟩ (.int .i64 (-1))).frozen? ⟨gy, i, none⟩ = false := M0.out.oy.frozenAt i
        have M1 : Hid (OSt w w1 ((wr.setCell ⟨gy, i, none⟩ (.int .i64 (-1))).setCell ⟨gy, i, none⟩ (.int .i64 v)) ks n i (k' + 1) gy (some ⟨g6, 0, none⟩) c6 ((y.set i (-1)).set i v) S) := M0.out.put hlt v
        have OA : Hid (OwnAt ks i (((y.set i (-1)).set i v).getD i 0)) := by
          have h1 := HOW.out
          unfold topP at h1
          rw [if_neg (by rw [HS.out.sl]; omega), HS.out.sl, Nat.add_sub_cancel, ← hv] at h1
          rw [getDI_set1 _ i _ (by rw [List.length_set, HLY.out]; exact hlt)]; exact h1
        have hkI : (0 : Int) < ((k' : Int) + 1) := by omega
        clear hv q1 M0 HOW HS
        rcases (by omega : x = 0 ∨ x = 1 ∨ x = 2 ∨ x = 3) with rfl | rfl | rfl | rfl
        · have SN : Hid (OStk ks (i + 1) (S ++ [i])) := M1.out.st.push (by rw [HL.out]; exact hlt) HXX.out.symm
          have bA := (Below.refl ((wr.setCell ⟨gy, i, none⟩ (.int .i64 (-1))).setCell ⟨gy, i, none⟩ (.int .i64 v)).heap.size ((wr.setCell ⟨gy, i, none⟩ (.int .i64 (-1))).setCell ⟨gy, i, none⟩ (.int .i64 v))).alloc (Nat.le_refl _) (.cells #[.int .i64 (i : Int)] 3)
          have hsz : ((wr.setCell ⟨gy, i, none⟩ (.int .i64 (-1))).setCell ⟨gy, i, none⟩ (.int .i64 v)).heap.size = wr.heap.size := by simp [World.setCell]
          have ownA := own_below M1.out.os bA
          have rA := Rd.new ((wr.setCell ⟨gy, i, none⟩ (.int .i64 (-1))).setCell ⟨gy, i, none⟩ (.int .i64 v)) 3 #[.int .i64 (i : Int)] 1 (I64 [(i : Int)]) (by simp [I64]) (by simp)
          rw [hsz] at rA
          have e1 : k' + 1 + 1 ≤ maxLen := by simp only [maxLen]; omega
          have e2 : (k' + 1 + 1) * 8 ≤ 140737488355328 := by omega
          have e3 : w1.heap.size ≤ (((wr.setCell ⟨gy, i, none⟩ (.int .i64 (-1))).setCell ⟨gy, i, none⟩ (.int .i64 v)).alloc (.cells #[.int .i64 (i : Int)] 3)).heap.size := by have := M1.out.sz; simp only [World.size_alloc]; omega
          clear hsz
          go_wp2_with (first
            | (at_builtin; go_must (refine wpList_append_rd _ rfl _ _ 27 rfl w1.heap.size 3 i0 (.int .i64 0) 8 Tryz.underlying27 hi0 hz0 hz1 hz2 rfl (.slice (some ⟨g6, 0, none⟩) (k' + 1) c6) (k' + 1) (I64 (ofNB S)) rfl ownA (wr.heap.size + 1) (some ⟨wr.heap.size, 0, none⟩) 1 1 (I64 [(i : Int)]) rfl rA (I64_one _) e1 e2 e3 ?_)))
          intro A7 c7 w7 hc7 hm7 hown7 hg7 _
          have M7 := Lib.hid (M1.out.grow _ SN.out OA.out hown7 hg7)
          have hm79 : c7 ≤ 9223372036854775807 := by unfold maxLen at hm7; omega
          clear bA ownA rA e1 e2 e3 hown7 hg7
          go_wp2_with fail
          go_roundw
          case rel => exact ⟨i + 1, k' + 1 + 1, c7, A7, _, _, by go_num, rfl, by omega, by omega, hc7, hm79, M7⟩
          case measure => simp [intOf]; omega
        · have SP := M1.out.st.pop HB0.out (by rw [HL.out]; exact hlt) HXX.out.symm
          have M7 := Lib.hid (M1.out.shut OA.out SP.2)
          clear SP
          go_wp2_with fail
          all_goals first
            | (exfalso; omega)
            | (go_roundw
               case rel => exact ⟨i + 1, k', c6, _, _, _, by go_num, rfl, by omega, by omega, by omega, hc6, M7⟩
               case measure => simp [intOf]; omega)
        · have M7 := Lib.hid (M1.out.next OA.out (M1.out.st.skip (by rw [HL.out]; exact hlt) (by rw [← HXX.out]; decide)))
          go_wp2_with fail
          go_roundw
          case rel => exact ⟨i + 1, k' + 1, c6, _, _, _, by go_num, rfl, by omega, by omega, by omega, hc6, M7⟩
          case measure => simp [intOf]; omega
        · have M7 := Lib.hid (M1.out.next OA.out (M1.out.st.skip (by rw [HL.out]; exact hlt) (by rw [← HXX.out]; decide)))
          go_wp2_with fail
          go_roundw
          case rel => exact ⟨i + 1, k' + 1, c6, _, _, _, by go_num, rfl, by omega, by omega, by omega, hc6, M7⟩
          case measure => simp [intOf]; omega
    · obtain rfl : i = n := by omega
      go_wp2_with fail
      go_ret
      exact ⟨_, _, y, rfl, HS.out.oy, HS.out.kn, HS.out.bel⟩
end Go.Proofs.YtagpdpacaoianaaGreatDoor
