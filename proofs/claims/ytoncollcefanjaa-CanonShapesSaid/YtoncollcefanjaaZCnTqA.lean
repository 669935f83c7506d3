/- The document's Turn of any map to a map. -/
import Derived.Test.YtoncollcefanjaaZCnTq
import Derived.Test.YtoncollcefanjaaZg21
namespace Go.Proofs.Ytoncollcefanjaa
set_option maxRecDepth 100000
open Go.RowKit
set_option linter.unusedVariables false
set_option linter.unusedSimpArgs false
theorem rturn_ne (A A' : Option Addr) (c c' n n' : Nat) (root root' lone : Int) (w : World) (hne : n' ≠ n) (hn : n ≤ 100000) (hn' : n' ≤ 100000) :
    Calls Try.prog 27 #[.agg #[.slice A n c, .int .i64 root, .int .i64 lone], .agg #[.slice A' n' c', .int .i64 root', .int .i64 lone]] w fun e w' => e = .returned (.bool false) ∧ Below w.heap.size w w' := by
  have hb : ((n : Int) != (n' : Int)) = true := by rw [bne_iff_ne]; omega
  have B0 : Hid (Below w.heap.size w ((w.alloc (.cells #[.slice A n c, .int .i64 root, .int .i64 lone] 26)).alloc (.cells #[.slice A' n' c', .int .i64 root', .int .i64 lone] 26))) := ((Below.refl w.heap.size w).alloc (Nat.le_refl _) _).alloc (by simp) _
  clear hne
  go_enter Try.func27, Try.ntmps27
  go_wp2_with fail
  go_ret
  exact ⟨rfl, B0.out⟩
theorem rturn_0 (A A' : Option Addr) (c c' : Nat) (root root' lone : Int) (w : World) :
    Calls Try.prog 27 #[.agg #[.slice A 0 c, .int .i64 root, .int .i64 lone], .agg #[.slice A' 0 c', .int .i64 root', .int .i64 lone]] w fun e w' => e = .returned (.bool true) ∧ Below w.heap.size w w' := by
  have B0 : Hid (Below w.heap.size w ((w.alloc (.cells #[.slice A 0 c, .int .i64 root, .int .i64 lone] 26)).alloc (.cells #[.slice A' 0 c', .int .i64 root', .int .i64 lone] 26))) := ((Below.refl w.heap.size w).alloc (Nat.le_refl _) _).alloc (by simp) _
  go_enter Try.func27, Try.ntmps27
  go_wp2_with fail
  go_ret
  exact ⟨rfl, B0.out⟩
/-- Turn of two maps of one part each: what Iso answers. -/
theorem turn_iso {l b l' b' P Q P' Q' : List Nat} {r r' : Nat} (hl : Inv l b) (hl' : Inv l' b') (he : l.length % 2 = 0) (he' : l'.length % 2 = 0) (hr : r < l.length) (hr' : r' < l'.length) (h1 : pN l = 1) (h1' : pN l' = 1) (h : CanO l (r : Int) P Q) (h' : CanO l' (r' : Int) P' Q') :
    (reRoot P (r : Int) = reRoot P' (r' : Int) ∧ (0 : Int) = 0 ∧ cjL P Q l = cjL P' Q' l') ↔ ∃ p q, Trn l l' r r' p q := by
  rcases h with ⟨h0, _⟩ | ⟨k2, e2, _, h⟩
  · omega
  obtain rfl : k2 = r := by omega
  rcases h' with ⟨h0, _⟩ | ⟨r2, e3, _, h'⟩
  · omega
  obtain rfl : r2 = r' := by omega
  have n1 := h.one hl hr fun j hj => one_of_pN hl he h1 hr hj
  have n2 := h'.one hl' hr' fun j hj => one_of_pN hl' he' h1' hr' hj
  rw [← n1.iff n2 hl hl' hr hr']
  rw [reRoot_nat, reRoot_nat, n1.root hl hr, n2.root hl' hr']
  exact ⟨fun k => k.2.2.symm, fun k => ⟨rfl, rfl, k.symm⟩⟩
/-- Turn of two maps of one part each. -/
theorem rturn_p (A A' : Option Addr) (c c' : Nat) (l b l' b' : List Nat) (r r' : Nat) (lone : Int) (ans : Bool) (w : World) (h : Rd w w.heap.size A l.length (I64 (ofN l))) (h' : Rd w w.heap.size A' l'.length (I64 (ofN l'))) (hi : Inv l b) (hi' : Inv l' b')
    (he : l.length % 2 = 0) (hn : l.length ≤ 1000) (hn' : l'.length ≤ 1000) (hr : r < l.length) (hr' : r' < l'.length) (hp : ∀ j, j < l.length → part l r j) (hans : ans = true ↔ ∃ p q, Trn l l' r r' p q) :
    Calls Try.prog 27 #[.agg #[.slice A l.length c, .int .i64 (r : Int), .int .i64 lone], .agg #[.slice A' l'.length c', .int .i64 (r' : Int), .int .i64 lone]] w fun e w' => e = .returned (.bool ans) ∧ Below w.heap.size w w' := by
  by_cases hlen : l'.length = l.length
  · exact rturn_r A A' c c' l b l' b' r r' lone ans w h h' hi hi' hlen he hn hr hr' hp hans
  · have hf : ans = false := by
      cases ans with
      | false => rfl
      | true => obtain ⟨p, q, t⟩ := hans.1 rfl; exact absurd t.len hlen
    rw [hf]
    exact rturn_ne A A' c c' _ _ _ _ lone w hlen (by omega) (by omega)
end Go.Proofs.Ytoncollcefanjaa
