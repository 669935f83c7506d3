/- euler.Parts. -/
import Derived.Test.YtfolefadjdcehaaZERow5
namespace Go.Proofs.Ytfolefadjdcehaa
set_option maxRecDepth 20000
open Go.RowKit
set_option linter.unusedVariables false
theorem map_rangeN (f : Nat → Nat) (n i : Nat) (h : i < n) : ((List.range n).map f).getD i 0 = f i := by simp [List.getD_eq_getElem?_getD, List.getElem?_range h]
section
variable {l : List Nat} {W : World} {base g3 p c k q : Nat}
theorem step_v {ke kb kg nv : Nat} {e : TypeId} (hq : q = pq l k) (hp : q < p) (hl : Leads l k) (hn : nv = pV l q k) (h : W.ownsRow base e 5 (.slice (some ⟨g3, 0, none⟩) p c) p (I64 (pRow l p k ke kb kg))) :
    W.cell? ⟨g3, q * 5 + 1, none⟩ = some (.int .i64 (nv : Int)) ∧ (W.setCell ⟨g3, q * 5 + 1, none⟩ (.int .i64 ((nv : Int) + 1))).ownsRow base e 5 (.slice (some ⟨g3, 0, none⟩) p c) p (I64 (pRow l p (k + 1) ke kb kg)) := by
  subst hq hn
  rw [Nat.mul_comm _ 5]
  refine ⟨?_, ?_⟩
  · rw [own_cell5 h _ (by omega), pRow_get _ _ _ _ _ _ _ (by omega), pc_1]
  · rw [← row_v hp hl]; exact own_set5 h _ _
theorem step_b {kv ke kg nv : Nat} {e : TypeId} (hq : q = pq l k) (hp : q < p) (hl : Leads (phiL l) k) (hn : nv = pB l q k) (h : W.ownsRow base e 5 (.slice (some ⟨g3, 0, none⟩) p c) p (I64 (pRow l p kv ke k kg))) :
    W.cell? ⟨g3, q * 5 + 3, none⟩ = some (.int .i64 (nv : Int)) ∧ (W.setCell ⟨g3, q * 5 + 3, none⟩ (.int .i64 ((nv : Int) + 1))).ownsRow base e 5 (.slice (some ⟨g3, 0, none⟩) p c) p (I64 (pRow l p kv ke (k + 1) kg)) := by
  subst hq hn
  rw [Nat.mul_comm _ 5]
  refine ⟨?_, ?_⟩
  · rw [own_cell5 h _ (by omega), pRow_get _ _ _ _ _ _ _ (by omega), pc_3]
  · rw [← row_b hp hl]; exact own_set5 h _ _
theorem step_e {kv kb kg nv : Nat} {e : TypeId} (hq : q = pq l k) (hp : q < p) (hl : k % 2 = 0) (hn : nv = pE l q k) (h : W.ownsRow base e 5 (.slice (some ⟨g3, 0, none⟩) p c) p (I64 (pRow l p kv k kb kg))) :
    W.cell? ⟨g3, q * 5 + 2, none⟩ = some (.int .i64 (nv : Int)) ∧ (W.setCell ⟨g3, q * 5 + 2, none⟩ (.int .i64 ((nv : Int) + 1))).ownsRow base e 5 (.slice (some ⟨g3, 0, none⟩) p c) p (I64 (pRow l p kv (k + 1) kb kg)) := by
  subst hq hn
  rw [Nat.mul_comm _ 5]
  refine ⟨?_, ?_⟩
  · rw [own_cell5 h _ (by omega), pRow_get _ _ _ _ _ _ _ (by omega), pc_2]
  · rw [← row_e hp hl]; exact own_set5 h _ _
theorem own_some5 {e : TypeId} {A : Option Addr} {n m : Nat} {xs : List Value} (h : W.ownsRow base e 5 (.slice A m c) n xs) (hn : 0 < n) : ∃ g, A = some ⟨g, 0, none⟩ ∧ base ≤ g ∧ g < W.heap.size := by
  rcases h.2 with ⟨h1, rfl⟩ | ⟨g, cap, cur, h1, hb, hg, _⟩
  · omega
  · simp only [Value.slice.injEq] at h1
    exact ⟨g, h1.1, hb, (Array.getElem?_eq_some_iff.1 hg).1⟩
end
end Go.Proofs.Ytfolefadjdcehaa
