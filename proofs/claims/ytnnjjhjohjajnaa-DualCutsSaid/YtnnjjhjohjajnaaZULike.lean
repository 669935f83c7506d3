/- The law's like, and the document's Dual and Mirror. -/
import Derived.Test.YtnnjjhjohjajnaaZUAwake
import Derived.Test.YtnnjjhjohjajnaaZUMade
import Derived.Test.YtnnjjhjohjajnaaZDMap2
import Derived.Test.YtnnjjhjohjajnaaZEqualI
import Derived.Test.YtnnjjhjohjajnaaZPRef2
import Derived.Deep.RegionHeld3
import Derived.Deep.RegionWith
namespace Go.Proofs.Ytnnjjhjohjajnaa
set_option maxRecDepth 100000
open Go.RowKit
set_option linter.unusedVariables false
set_option maxHeartbeats 4000000 in
theorem like10_p (g : Nat) (l b : List Nat) (root lone : Int) (A : Option Addr) (c : Nat) (w : World) (h : MapAt w g l b root lone) (hr : Rd w w.heap.size A l.length (I64 (ofN l))) (hc : l.length ≤ c) (hcm : c ≤ maxLen) :
    Calls Try.prog 9 #[.pointer (some ⟨g, 0, none⟩), .agg #[.slice A l.length c, .int .i64 root, .int .i64 lone]] w fun e w' => e = .returned (.bool true) ∧ Below w.heap.size w w' := by
  unfold maxLen at hcm
  have hle := h.2.1
  have hb0 := (Below.refl w.heap.size w).alloc (Nat.le_refl _) (.cells #[.slice A l.length c, .int .i64 root, .int .i64 lone] 27)
  have HX := Lib.hid (Blk.new w 27 #[.slice A l.length c, .int .i64 root, .int .i64 lone])
  have HM := Lib.hid (h.below hb0)
  have HR := Lib.hid (hr.more hb0)
  have HB0 := Lib.hid hb0
  clear h hr hb0
  go_enter Try.func9, Try.ntmps9
  go_wp2_with fail
  generalize hw3 : w.alloc (.cells #[.slice A l.length c, .int .i64 root, .int .i64 lone] 27) = w3 at *
  have hX3 : w.heap.size < w3.heap.size := by rw [← hw3]; simp
  have x0 : w3.cell? ⟨w.heap.size, 0, none⟩ = some (.slice A l.length c) := HX.out.cell 0
  have x1 : w3.cell? ⟨w.heap.size, 1, none⟩ = some (.int .i64 root) := HX.out.cell 1
  have x2 : w3.cell? ⟨w.heap.size, 2, none⟩ = some (.int .i64 lone) := HX.out.cell 2
  have SK : Hid (∀ W, Below w3.heap.size w3 W → Below w3.heap.size w3 W ∧ W.cell? ⟨w.heap.size, 0, none⟩ = some (.slice A l.length c) ∧ W.cell? ⟨w.heap.size, 1, none⟩ = some (.int .i64 root) ∧ W.cell? ⟨w.heap.size, 2, none⟩ = some (.int .i64 lone)) := fun W m => ⟨m, (m.cell (p := ⟨w.heap.size, 0, none⟩) hX3).trans x0, (m.cell (p := ⟨w.heap.size, 1, none⟩) hX3).trans x1, (m.cell (p := ⟨w.heap.size, 2, none⟩) hX3).trans x2⟩
  clear hw3 x0 x1 x2
  have d0 : Below w3.heap.size w3 w3.drew := (Below.refl _ _).drew
  have K1 : Hid (∀ w', Below w3.heap.size w3 w' → Calls Try.prog 28 #[.pointer (some ⟨g, 0, none⟩)] w' fun e w'' => e = .returned (.int .i64 root) ∧ Below w3.heap.size w3 w'') := fun w' hb => (root_p g l b root lone w' (HM.out.below hb)).mono fun e w'' ⟨he, h2⟩ => ⟨he, h2 ▸ hb⟩
  have K2 : Hid (∀ w', Below w3.heap.size w3 w' → Calls Try.prog 18 #[.pointer (some ⟨g, 0, none⟩)] w' fun e w'' => e = .returned (.int .i64 lone) ∧ Below w3.heap.size w3 w'') := fun w' hb => (lone_p g l b root lone w' (HM.out.below hb)).mono fun e w'' ⟨he, h2⟩ => ⟨he, h2 ▸ hb⟩
  have K6 : Hid (∀ w', Below w3.heap.size w3 w' → Calls Try.prog 27 #[.pointer (some ⟨g, 0, none⟩)] w' fun e w'' => ∃ A9 c9, e = .returned (.slice A9 l.length c9) ∧ l.length ≤ c9 ∧ c9 ≤ maxLen ∧ Rd w'' w''.heap.size A9 l.length (I64 (ofN l)) ∧ Below w3.heap.size w3 w'') := fun w' hb =>
    (mlist_p g l b root lone w' (HM.out.below hb)).mono fun e w'' ⟨A9, c9, he, h1, h2, h3, h4⟩ => by
      rw [ofN_len] at he h1 h3
      exact ⟨A9, c9, he, h1, h2, Rd.ofOwn h3, hb.trans (h4.mono hb.size)⟩
  have K7 : Hid (∀ A9 c9 w', Rd w' w'.heap.size A9 l.length (I64 (ofN l)) → l.length ≤ c9 → c9 ≤ maxLen → Below w3.heap.size w3 w' →
      Calls Try.prog 26 #[.slice A9 l.length c9, .slice A l.length c] w' fun e w'' => e = .returned (.bool true) ∧ Below w3.heap.size w3 w'') := fun A9 c9 w' h1 h2 h3 hb => by
    unfold maxLen at h3
    exact (equalI_any A9 A l.length c9 l.length c _ _ (ofN l) (ofN l) w' h1 (HR.out.more hb) (by omega) (by omega)).mono fun e w'' ⟨he, j, hw⟩ => ⟨by rw [he, decide_eq_true rfl], by rw [hw]; exact below_draws hb j⟩
  clear HX HM HR
  go_region_held3 (fun w' => Below w3.heap.size w3 w' ∧ w'.cell? ⟨w.heap.size, 0, none⟩ = some (.slice A l.length c) ∧ w'.cell? ⟨w.heap.size, 1, none⟩ = some (.int .i64 root) ∧ w'.cell? ⟨w.heap.size, 2, none⟩ = some (.int .i64 lone))
    (exact SK.out _ (by assumption))
    (first
    | (go_at_call 28; (with_reducible refine (K1.out _ (by assumption)).mono ?_); rintro e wa ⟨rfl, hba⟩)
    | (go_at_call 18; (with_reducible refine (K2.out _ (by assumption)).mono ?_); rintro e wa ⟨rfl, hba⟩)
    | (go_at_call 27; (with_reducible refine (K6.out _ (by assumption)).mono ?_); rintro e w9 ⟨A9, c9, rfl, hc9, hm9, r9, hba⟩)
    | (go_at_call 26; (with_reducible refine (K7.out _ _ _ r9 hc9 hm9 (by assumption)).mono ?_); rintro e wa ⟨rfl, hba⟩; clear r9))
  all_goals (
    go_wp2_with fail
    go_ret
    exact ⟨rfl, HB0.out.trans (Below.mono hba HB0.out.size)⟩)
def NewR (w : World) (l : List Nat) (root lone : Int) (e : Ending) (w' : World) : Prop :=
  ∃ A c, e = .returned (.agg #[.slice A l.length c, .int .i64 root, .int .i64 lone]) ∧ l.length ≤ c ∧ c ≤ maxLen ∧ Rd w' w'.heap.size A l.length (I64 (ofN l)) ∧ Below w.heap.size w w'
end Go.Proofs.Ytnnjjhjohjajnaa
