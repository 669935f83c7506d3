/- euler.Names: of each dart its part. -/
import Derived.Test.YthbhbcakiaaapaaESpread
import Derived.Test.YthbhbcakiaaapaaERep
namespace Go.Proofs.Ythbhbcakiaaapaa
set_option maxRecDepth 20000
open Go.RowKit
set_option linter.unusedVariables false
theorem part_eqv {l b : List Nat} (h : Inv l b) (he : l.length % 2 = 0) : Eqv l.length (part l) := gk_eqv (sgL_pf h) (by omega) _ (Nat.le_refl _)
/-- The names of the parts. -/
noncomputable def enames (l : List Nat) : List Nat := prts (part l) l.length
theorem enames_len (l : List Nat) : (enames l).length = l.length := by simp [enames, prts]
theorem pn_le (R : Nat → Nat → Prop) (k : Nat) : pn R k ≤ k := by
  unfold pn cls
  exact Nat.le_trans (List.length_filter_le _ _) (by simp)
set_option maxHeartbeats 4000000 in
theorem enames_p (g : Nat) (l b : List Nat) (root lone : Int) (w : World) (h : MapAt w g l b root lone) :
    Calls Try.prog 73 #[.pointer (some ⟨g, 0, none⟩)] w (NewI64 w (ofN (enames l))) := by
  have hinv : Inv l b := by obtain ⟨_, _, p, A, c, S, d, q, A', c', S', d', hb, hp, _⟩ := h; exact hp.1
  have HE := Lib.hid (part_eqv hinv h.1.1)
  have hle := h.2.1
  have HM : Hid (∀ w', Below w.heap.size w w' → MapAt w' g l b root lone) := fun w' m => h.below m
  clear h hinv
  have HR : Hid (∀ w', Below (w.alloc (.cells #[.int .i64 (-1)] 3)).heap.size (w.alloc (.cells #[.int .i64 (-1)] 3)) w' → Rd w' (w.heap.size + 1) (some ⟨w.heap.size, 0, none⟩) 1 (I64 [-1]) ∧ w.heap.size + 1 ≤ w'.heap.size ∧ Below w.heap.size w w') := fun w' m => by
    have e : (w.alloc (.cells #[.int .i64 (-1)] 3)).heap.size = w.heap.size + 1 := by simp
    have r := Rd.new w 3 #[.int .i64 (-1)] 1 (I64 [-1]) (by simp [I64]) (by simp)
    have z := m.size
    have m' := m
    rw [e] at m z
    exact ⟨r.below m, z, ((Below.refl _ _).alloc (Nat.le_refl _) _).trans (m.mono (by omega))⟩
  go_enter Try.func73, Try.ntmps73
  go_wp2_with (first
    | (go_at_call 17; refine (darts_p g l b root lone _ (HM.out _ (by first | exact (Below.refl _ _) | exact (Below.refl _ _).alloc (Nat.le_refl _) _))).mono ?_; rintro e w1 ⟨rfl, hb1⟩; have HR1 := Lib.hid (HR.out _ hb1))
    | (go_at_call 81; refine (repeat_p w.heap.size l.length 1 (-1) (w.heap.size + 1) w1 hle HR1.out.1 HR1.out.2.1).mono ?_; rintro e w2 ⟨rfl, hown, hb2⟩))
  have hown2 := hown.base_le' (show w.heap.size ≤ w1.heap.size by have := HR1.out.2.1; omega)
  have hbl2 : Below w.heap.size w w2 := HR1.out.2.2.trans (hb2.mono (show w.heap.size ≤ w1.heap.size by have := HR1.out.2.1; omega))
  have HO2 := Lib.hid hown2
  have HN := Lib.hid (nst_zero (part l) l.length)
  clear hown hb2 hown2 hb1 HR1 HR
  generalize w1.heap.size = gn at *
  obtain ⟨n, hn⟩ : ∃ n, n = l.length := ⟨_, rfl⟩
  rw [← hn] at HO2 HE HN hle ⊢
  have HNN := Lib.hid hn
  clear hn
  go_loopw [4, 12] (fun pv i wr => ∃ (k p : Nat), k ≤ n ∧ p ≤ k ∧ pv = .int .i64 (p : Int) ∧ i = .int .i64 (k : Int) ∧ Hid (p = pn (part l) k) ∧ Hid (wr.ownsRow w.heap.size 3 1 (.slice (some ⟨gn, 0, none⟩) n n) n (I64 (nst (part l) n k))) ∧ Below w.heap.size w wr) (fun _ i _ => n - (intOf i).toNat)
  case atStart =>
    refine ⟨0, 0, by omega, by omega, rfl, rfl, ?_, ?_, hbl2⟩
    · have := pn_le (part l) 0; show _ = _; omega
    · show World.ownsRow _ _ _ _ _ _ _
      rw [HN.out]; exact HO2.out
  case round =>
    obtain ⟨k, p, hk, hpk, rfl, rfl, HP, HO, hbl⟩ := hrel
    by_cases hkn : k = n
    · subst hkn
      go_wp2_with fail
      go_ret
      have ho := HO.out
      rw [nst_all HE.out] at ho
      have e : (prts (part l) k) = enames l := by unfold enames; rw [HNN.out]
      rw [e] at ho
      refine .mk rfl ?_ hbl
      rw [ofN_len, enames_len, ← HNN.out]
      exact ho
    · have hlt : k < n := by omega
      have hcell := own_cellI HO.out k hlt
      by_cases hv : (nst (part l) n k).getD k 0 = -1
      · rw [hv] at hcell
        have HNEW := Lib.hid (nst_new HE.out hlt hv)
        have SPR : Hid (Calls Try.prog 82 #[.pointer (some ⟨g, 0, none⟩), .slice (some ⟨gn, 0, none⟩) n n, .int .i64 (k : Int), .int .i64 (p : Int)] wr (SprPost wr w.heap.size gn n n l k p (nst (part l) n k))) :=
          spread_p g l b root lone gn n n w.heap.size k p (nst (part l) n k) wr (fun w' m => HM.out w' (hbl.trans m)) hbl.size HO.out HNN.out hlt (fun x hx r => HNEW.out.2.2.1 x hx r) (by omega)
        clear hv
        go_wp2_with (go_at_call 82; refine SPR.out.mono ?_; rintro e w3 ⟨rfl, nm, hown3, hi, ho, hb3⟩; have HO3 := Lib.hid hown3; have HI := Lib.hid hi; have HOT := Lib.hid ho; clear hown3 hi ho)
        go_roundw
        case rel =>
          refine ⟨k + 1, p + 1, by omega, by omega, by go_num, by go_num, ?_, ?_, hbl.trans hb3⟩
          · show _ = _; rw [HNEW.out.2.1, HP.out]
          · have hl3 := own_lenI HO3.out
            have e : nm = nst (part l) n (k + 1) := getDI_ext (by rw [nst_len, hl3]) fun x hx => by
              have hx : x < n := by omega
              by_cases r : part l k x
              · rw [HI.out x hx r, HNEW.out.2.2.2.1 x hx r, HP.out]
              · rw [HOT.out x hx r, HNEW.out.2.2.2.2 x hx r]
            rw [← e]; exact HO3
        case measure => simp [intOf]; omega
      · have HOLD := Lib.hid (nst_old HE.out hlt hv)
        generalize (nst (part l) n k).getD k 0 = v at *
        have hvb : (v == -1) = false := by rw [beq_eq_false_iff_ne]; exact hv
        go_wp2_with fail
        go_roundw
        case rel =>
          refine ⟨k + 1, p, by omega, by omega, rfl, by go_num, ?_, ?_, hbl⟩
          · show _ = _; rw [HOLD.out.2.2, HP.out]
          · rw [HOLD.out.2.1]; exact HO
        case measure => simp [intOf]; omega
end Go.Proofs.Ythbhbcakiaaapaa
