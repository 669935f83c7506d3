/- What a store elsewhere leaves of an index; the document's Ones. -/
import Derived.Test.YtimhpiancpfdbaaDoorKRaw
namespace Go.Proofs.YtimhpiancpfdbaaDoor
open Go.RowKit
set_option linter.unusedVariables false
theorem blk_ty {w : World} {i : Nat} {T U : TypeId} {cs ds : Array Value} (h : Blk w i T cs) (k : Blk w i U ds) : T = U := by
  unfold Blk at h k
  rw [h] at k
  simp at k
  exact k.2
theorem IdxAt.off {w w' : World} {S : Nat → Prop} {g V n q : Nat} {d : Bool} (h : IdxAt w g V n d q) (m : Mod S w w') (hS : ∀ i, S i → ∃ T cs, Blk w i T cs ∧ T ≠ 67 ∧ T ≠ 70 ∧ T ≠ 53) : IdxAt w' g V n d q := by
  obtain ⟨h1, h2, A, c, H, h3, h4, h5⟩ := h
  refine ⟨h1, h2, A, c, H, h3.mod m fun hx => ?_, own_mod h4 m fun k hk hx => ?_, ?_⟩
  · obtain ⟨T, cs, hb, e1, _, _⟩ := hS g hx
    exact e1 (blk_ty hb h3)
  · obtain ⟨T, cs, hb, _, e2, _⟩ := hS k hx
    exact own_ne h4 hb (Ne.symm e2) hk
  · cases d with
    | false => exact h5
    | true =>
      obtain ⟨S', c', e, ho⟩ := h5
      exact ⟨S', c', e, own_mod ho m fun k hk hx => by
        obtain ⟨T, cs, hb, _, _, e3⟩ := hS k hx
        exact own_ne ho hb (Ne.symm e3) hk⟩
/-- A row's block. -/
theorem own_blk {w : World} {base n : Nat} {e : TypeId} {v : Value} {xs : List Value} (h : w.ownsRow base e 1 v n xs) {k : Nat} (hk : v.ownBlock = some k) : ∃ cs, Blk w k e cs := by
  rcases h.2 with ⟨rfl, _⟩ | ⟨g, cap, cur, rfl, _, hg, _⟩
  · simp [Value.ownBlock] at hk
  · have : k = g := by simpa [Value.ownBlock] using hk.symm
    subst this
    exact ⟨cur, hg⟩
set_option maxHeartbeats 2000000 in
theorem ro_p (A : Option Addr) (m c B : Nat) (l : List Nat) (w : World) (h : Rd w B A m (I64 (ofN l))) (hbn : Bin l) (hm : m ≤ 1000000) :
    Calls Tryd.prog 12 #[.slice A m c] w fun e w' => e = .returned (.int .i64 ((pop (val l) m : Nat) : Int)) ∧ w = w' := by
  have H := Lib.hid h
  have CN := Lib.hid (fun k => cb_list hbn (.inr rfl : (1 : Int) = 0 ∨ (1 : Int) = 1) k)
  have BN := Lib.hid hbn
  have ec : pop (val l) m = cb 1 (val l) m := by unfold cb; rw [if_neg (by decide)]
  rw [ec]
  clear h hbn ec
  go_enter Tryd.func12, Tryd.ntmps12
  go_wp2_with fail
  go_loop [3, 8] (fun x y => ∃ k : Nat, k ≤ m ∧ y = .int .i64 (k : Int) ∧ x = .int .i64 ((cb 1 (val l) k : Nat) : Int)) (fun _ y => m - (intOf y).toNat)
  case atStart => exact ⟨0, by omega, rfl, by rw [cb_zero]; rfl⟩
  case round =>
    obtain ⟨k, hk, rfl, rfl⟩ := hrel
    by_cases hlt : k < m
    · obtain ⟨b', o, e, _, k1⟩ := H.out.i64 (by omega)
      subst e
      have t1 := k1 k hlt
      rw [ofN_get] at t1
      have CK : Hid (cb 1 (val l) (k + 1) = cb 1 (val l) k + l.getD k 0) := by
        show _ = _
        have h1 := CN.out k
        have h2 := BN.out.getD k
        rw [h1]
        by_cases e : ((l.getD k 0 : Nat) : Int) = 1
        · rw [if_pos e]; omega
        · rw [if_neg e]; omega
      have hle := cb_le 1 (val l) k
      have hy2 := BN.out.getD k
      clear k1
      generalize l.getD k 0 = y at *
      generalize cb 1 (val l) k = s at *
      go_wp2_with fail
      go_round
      case rel => exact ⟨k + 1, by omega, by go_num, by rw [CK.out]; go_num⟩
      case measure => simp [intOf]; omega
    · obtain rfl : k = m := by omega
      go_wp2_with fail
      go_ret
      exact ⟨rfl, rfl⟩
end Go.Proofs.YtimhpiancpfdbaaDoor
