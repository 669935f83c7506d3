/- triangles: has each border three darts. Names and Loops of a nil map. -/
import Derived.Test.YtpplhooojfchpaaELoops
namespace Go.Proofs.Ytpplhooojfchpaa
set_option maxRecDepth 20000
open Go.RowKit
set_option linter.unusedVariables false
/-- The border of d has three darts. -/
def Tri (l : List Nat) (d : Nat) : Prop := (phiL l).getD d 0 ≠ d ∧ (phiL l).getD ((phiL l).getD ((phiL l).getD d 0) 0) 0 = d
def TriPost (w : World) (l : List Nat) (e : Ending) (w' : World) : Prop :=
  ∃ r : Bool, e = .returned (.bool r) ∧ (r = true ↔ ∀ d, d < l.length → Tri l d) ∧ Below w.heap.size w w'
theorem TriPost.no {w w' : World} {l : List Nat} {e : Ending} (d : Nat) (hd : d < l.length) (h : ¬ Tri l d) (he : e = .returned (.bool false)) (hb : Below w.heap.size w w') : TriPost w l e w' := ⟨false, he, ⟨fun c => (by cases c), fun c => absurd (c d hd) h⟩, hb⟩
theorem TriPost.yes {w w' : World} {l : List Nat} {e : Ending} (h : ∀ d, d < l.length → Tri l d) (he : e = .returned (.bool true)) (hb : Below w.heap.size w w') : TriPost w l e w' := ⟨true, he, ⟨fun _ => h, fun _ => rfl⟩, hb⟩
set_option maxHeartbeats 2000000 in
theorem triangles_p (g : Nat) (l b : List Nat) (root lone : Int) (w : World) (h : MapAt w g l b root lone) :
    Calls Try.prog 49 #[.pointer (some ⟨g, 0, none⟩)] w (TriPost w l) := by
  have hle := h.2.1
  have hinv : Inv (phiL l) (phiB l b) := by obtain ⟨_, _, p, A, c, S, d, q, A', c', S', d', hb, hp, hq, _⟩ := h; exact hq.1
  have DP := Lib.hid (darts_p g l b root lone w h)
  have PH : Hid (∀ (i : Nat) w', i < l.length → Below w.heap.size w w' → Calls Try.prog 64 #[.pointer (some ⟨g, 0, none⟩), .int .i64 (i : Int)] w' fun e w'' => e = .returned (.int .i64 (((phiL l).getD i 0 : Nat) : Int)) ∧ Below w'.heap.size w' w'') := fun i w' hi m => phi_in g l b root lone i w' (h.below m) hi
  have LT : Hid (∀ i, i < l.length → (phiL l).getD i 0 < l.length) := fun i hi => by have := hinv.lt i (by rw [phiL_len]; exact hi); rwa [phiL_len] at this
  obtain ⟨n, hn⟩ : ∃ n, n = l.length := ⟨_, rfl⟩
  rw [← hn] at DP hle PH LT
  have HN := Lib.hid hn
  clear h hn hinv
  go_enter Try.func49, Try.ntmps49
  go_wp2_with (go_at_call 32; refine DP.out.mono ?_; rintro e w1 ⟨rfl, hb1⟩)
  go_loopw [7] (fun i wr => ∃ (k : Nat), k ≤ n ∧ i = .int .i64 (k : Int) ∧ Hid (∀ d, d < k → Tri l d) ∧ Below w.heap.size w wr) (fun i _ => n - (intOf i).toNat)
  case atStart => exact ⟨0, by omega, rfl, fun d h => absurd h (by omega), hb1⟩
  case round =>
    obtain ⟨k, hk, rfl, HT, hbl⟩ := hrel
    by_cases hkn : k = n
    · subst hkn
      go_wp2_with fail
      go_ret
      exact .yes (by rw [← HN.out]; exact HT.out) rfl hbl
    · have hlt : k < n := by omega
      have P1 := Lib.hid (PH.out k wr hlt hbl)
      have l1 := LT.out k hlt
      have P2 : Hid (∀ w', Below w.heap.size w w' → _) := fun w' m => PH.out _ w' l1 m
      have l2 := LT.out _ l1
      have P3 : Hid (∀ w', Below w.heap.size w w' → _) := fun w' m => PH.out _ w' l2 m
      have TK : Hid (Tri l k ↔ ((phiL l).getD k 0 ≠ k ∧ (phiL l).getD ((phiL l).getD ((phiL l).getD k 0) 0) 0 = k)) := Iff.rfl
      obtain ⟨z, hz⟩ : ∃ z, z = (phiL l).getD ((phiL l).getD ((phiL l).getD k 0) 0) 0 := ⟨_, rfl⟩
      obtain ⟨y, hy⟩ : ∃ y, y = (phiL l).getD ((phiL l).getD k 0) 0 := ⟨_, rfl⟩
      obtain ⟨x, hx⟩ : ∃ x, x = (phiL l).getD k 0 := ⟨_, rfl⟩
      rw [← hz] at TK P3
      rw [← hy] at P2 P3
      rw [← hx] at P1 P2 TK
      clear hz hy hx l1 l2
      by_cases h1 : x = k
      · have e1 : ((x : Int) == (k : Int)) = true := by rw [beq_iff_eq]; omega
        have NT : Hid (¬ Tri l k) := fun t => (TK.out.1 t).1 h1
        clear h1
        go_wp2_with (first
          | (go_at_call 64; refine P1.out.mono ?_; rintro e w2 ⟨rfl, hb2⟩))
        go_ret
        exact .no k (by rw [← HN.out]; exact hlt) NT.out rfl (hbl.trans (hb2.mono hbl.size))
      · have e1 : ((x : Int) == (k : Int)) = false := by rw [beq_eq_false_iff_ne]; omega
        by_cases h3 : z = k
        · have e3 : ((z : Int) != (k : Int)) = false := by rw [bne_eq_false_iff_eq]; omega
          have YT : Hid (Tri l k) := TK.out.2 ⟨h1, h3⟩
          clear h1 h3
          go_wp2_with (first
            | (go_at_call 64; refine (P3.out _ hbl3).mono ?_; rintro e w4 ⟨rfl, hb4⟩; have hbl4 := hbl3.trans (hb4.mono hbl3.size); clear hb4)
            | (go_at_call 64; refine (P2.out _ hbl2).mono ?_; rintro e w3 ⟨rfl, hb3⟩; have hbl3 := hbl2.trans (hb3.mono hbl2.size); clear hb3)
            | (go_at_call 64; refine P1.out.mono ?_; rintro e w2 ⟨rfl, hb2⟩; have hbl2 := hbl.trans (hb2.mono hbl.size); clear hb2))
          go_roundw
          case rel =>
            refine ⟨k + 1, by omega, by go_num, fun d hd => ?_, hbl4⟩
            by_cases c : d = k
            · rw [c]; exact YT.out
            · exact HT.out d (by omega)
          case measure => simp [intOf]; omega
        · have e3 : ((z : Int) != (k : Int)) = true := by rw [bne_iff_ne]; omega
          have NT : Hid (¬ Tri l k) := fun t => h3 (TK.out.1 t).2
          clear h1 h3
          go_wp2_with (first
            | (go_at_call 64; refine (P3.out _ hbl3).mono ?_; rintro e w4 ⟨rfl, hb4⟩; have hbl4 := hbl3.trans (hb4.mono hbl3.size); clear hb4)
            | (go_at_call 64; refine (P2.out _ hbl2).mono ?_; rintro e w3 ⟨rfl, hb3⟩; have hbl3 := hbl2.trans (hb3.mono hbl2.size); clear hb3)
            | (go_at_call 64; refine P1.out.mono ?_; rintro e w2 ⟨rfl, hb2⟩; have hbl2 := hbl.trans (hb2.mono hbl.size); clear hb2))
          go_ret
          exact .no k (by rw [← HN.out]; exact hlt) NT.out rfl hbl4
end Go.Proofs.Ytpplhooojfchpaa
namespace Go.Proofs.Ytpplhooojfchpaa
set_option maxRecDepth 20000
open Go.RowKit
set_option linter.unusedVariables false
theorem loops_nil (w : World) :
    Calls Try.prog 26 #[.pointer none] w fun e w' => e = .returned (.int .i64 0) ∧ Below w.heap.size w w' := by
  have EP := Lib.hid (edges_nil w)
  go_enter Try.func26, Try.ntmps26
  go_wp2_with (go_at_call 17; refine EP.out.mono ?_; rintro e w1 ⟨rfl, hb1⟩)
  go_loopw [3, 7] (fun cv i wr => cv = .int .i64 0 ∧ i = .int .i64 0 ∧ Below w.heap.size w wr) (fun _ i _ => 0)
  case atStart => exact ⟨rfl, rfl, hb1⟩
  case round =>
    obtain ⟨rfl, rfl, hbl⟩ := hrel
    go_wp2_with fail
    go_ret
    exact ⟨rfl, hbl⟩
theorem enames_nil (w : World) :
    Calls Try.prog 14 #[.pointer none] w (NewI64 w []) := by
  have HR : Hid (∀ w', Below (w.alloc (.cells #[.int .i64 (-1)] 3)).heap.size (w.alloc (.cells #[.int .i64 (-1)] 3)) w' → Rd w' (w.heap.size + 1) (some ⟨w.heap.size, 0, none⟩) 1 (I64 [-1]) ∧ w.heap.size + 1 ≤ w'.heap.size ∧ Below w.heap.size w w') := fun w' m => by
    have e : (w.alloc (.cells #[.int .i64 (-1)] 3)).heap.size = w.heap.size + 1 := by simp
    have r := Rd.new w 3 #[.int .i64 (-1)] 1 (I64 [-1]) (by simp [I64]) (by simp)
    have z := m.size
    rw [e] at m z
    exact ⟨r.below m, z, ((Below.refl _ _).alloc (Nat.le_refl _) _).trans (m.mono (by omega))⟩
  have DN := Lib.hid (fun W => darts_nil W)
  have RP : Hid (∀ w1, Rd w1 (w.heap.size + 1) (some ⟨w.heap.size, 0, none⟩) 1 (I64 [-1]) ∧ w.heap.size + 1 ≤ w1.heap.size ∧ Below w.heap.size w w1 → Calls Try.prog 41 #[.slice (some ⟨w.heap.size, 0, none⟩) 1 1, .int .i64 0] w1 fun e w' => e = .returned (.slice (some ⟨w1.heap.size, 0, none⟩) 0 0) ∧ w'.ownsRow w1.heap.size 3 1 (.slice (some ⟨w1.heap.size, 0, none⟩) 0 0) 0 (I64 (List.replicate 0 (-1))) ∧ Below w1.heap.size w1 w') := fun w1 h => repeat_p w.heap.size 0 1 (-1) (w.heap.size + 1) w1 (by omega) h.1 h.2.1
  go_enter Try.func14, Try.ntmps14
  go_wp2_with (first
    | (go_at_call 41; refine (RP.out _ HR1.out).mono ?_; rintro e w2 ⟨rfl, hown, hb2⟩)
    | (go_at_call 32; refine (DN.out _).mono ?_; rintro e w1 ⟨rfl, hb1⟩; have HR1 := Lib.hid (HR.out _ hb1)))
  have hown2 := hown.base_le' (show w.heap.size ≤ w1.heap.size by have := HR1.out.2.1; omega)
  have hbl2 : Below w.heap.size w w2 := HR1.out.2.2.trans (hb2.mono (show w.heap.size ≤ w1.heap.size by have := HR1.out.2.1; omega))
  have HO2 := Lib.hid hown2
  clear hown hb2 hown2 hb1 HR1 HR
  generalize w1.heap.size = gn at *
  go_loopw [4, 12] (fun pv i wr => i = .int .i64 0 ∧ Hid (wr.ownsRow w.heap.size 3 1 (.slice (some ⟨gn, 0, none⟩) 0 0) 0 (I64 (List.replicate 0 (-1)))) ∧ Below w.heap.size w wr) (fun _ i _ => 0)
  case atStart => exact ⟨rfl, HO2, hbl2⟩
  case round =>
    obtain ⟨rfl, HO, hbl⟩ := hrel
    go_wp2_with fail
    go_ret
    exact .mk rfl HO.out hbl
end Go.Proofs.Ytpplhooojfchpaa
