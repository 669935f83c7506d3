/- A map turned another way: the map seen from its faces, and the mirror. The document's examples of layer 10, and what nil answers. -/
import Derived.Test.YtfolefadjdcehaaZDPhi
import Derived.Test.YtfolefadjdcehaaZDDeg
import Derived.Test.YtfolefadjdcehaaZDMap2
namespace Go.Proofs.Ytfolefadjdcehaa
set_option maxRecDepth 20000
open Go.RowKit
set_option linter.unusedVariables false
theorem getDN_setU (y : List Nat) (k j v : Nat) (hk : k < y.length) : (y.set k v).getD j 0 = if j = k then v else y.getD j 0 := by
  rw [List.getD_eq_getElem?_getD, List.getD_eq_getElem?_getD, List.getElem?_set]
  by_cases h : k = j
  · subst h; simp [hk]
  · simp [h, Ne.symm h]
theorem own_setNU {w : World} {base : Nat} {g n c : Nat} {y : List Nat} (h : w.ownsRow base 3 1 (.slice (some ⟨g, 0, none⟩) n c) n (I64 (ofN y))) (k v : Nat) :
    (w.setCell ⟨g, k, none⟩ (.int .i64 (v : Int))).ownsRow base 3 1 (.slice (some ⟨g, 0, none⟩) n c) n (I64 (ofN (y.set k v))) := by
  rw [show ofN (y.set k v) = (ofN y).set k (v : Int) by simp [ofN, List.map_set]]; exact own_setI h k _
end Go.Proofs.Ytfolefadjdcehaa
namespace Go.Proofs.Ytfolefadjdcehaa
set_option maxRecDepth 20000
open Go.RowKit
set_option linter.unusedVariables false
theorem leads_id0 : Leads idL 0 := fun j hj => absurd hj (by omega)
theorem leads_id1 : Leads idL 1 := by
  intro j hj
  obtain rfl : j = 0 := by omega
  rw [mem_orb idL_inv (by decide)]
  rintro ⟨k, hk⟩
  rw [it_id] at hk
  omega
theorem name_id0 : nameOf idL 0 = 0 := by rw [name_lead idL_inv (by decide) leads_id0, met_zero]
theorem name_id1 : nameOf idL 1 = 1 := by rw [name_lead idL_inv (by decide) leads_id1, met_lead idL 0 leads_id0, met_zero]
theorem deg_id0 : degOf idL 0 0 = 1 := by
  have h := sizes_id
  unfold degOf
  rw [if_neg (by omega), if_neg (by omega)]
  unfold sizes at h ⊢
  rw [sizesTo_len] at h
  rw [show (0 : Int).toNat = 0 from rfl, sizesTo_get _ _ _ _ (by omega), show idL.length = 0 + 1 + 1 from rfl, cntN_next, cntN_next, name_id0, name_id1]
  simp [cntN]
theorem deg_id1 : degOf idL 0 1 = 1 := by
  have h := sizes_id
  unfold degOf
  rw [if_neg (by omega), if_neg (by omega)]
  unfold sizes at h ⊢
  rw [sizesTo_len] at h
  rw [show (1 : Int).toNat = 1 from rfl, sizesTo_get _ _ _ _ (by omega), show idL.length = 0 + 1 + 1 from rfl, cntN_next, cntN_next, name_id0, name_id1]
  simp [cntN]
theorem relabel_nil (p : Value) (w : World) :
    Calls Try.prog 38 #[.pointer none, p] w fun e w' => e = .returned (.tuple #[.pointer none, .int .i64 2]) ∧ w = w' := by
  go_enter Try.func38, Try.ntmps38
  go_wp2_with fail
  go_ret2
  exact ⟨rfl, rfl⟩
theorem relabel_nil2 (g : Nat) (w : World) :
    Calls Try.prog 38 #[.pointer (some ⟨g, 0, none⟩), .pointer none] w fun e w' => e = .returned (.tuple #[.pointer none, .int .i64 2]) ∧ w = w' := by
  go_enter Try.func38, Try.ntmps38
  go_wp2_with fail
  go_ret2
  exact ⟨rfl, rfl⟩
theorem nil_inv : Inv ([] : List Nat) [] := ⟨rfl, fun i hi => absurd hi (by simp), fun i hi => absurd hi (by simp), fun i hi => absurd hi (by simp), fun i hi => absurd hi (by simp)⟩
theorem rd_two {w w' : World} {A : Option Addr} (h : Rd w w.heap.size A 2 (I64 [0, 0])) (m : Below w.heap.size w w') : ∃ b o, A = some ⟨b, o, none⟩ ∧ w'.cell? ⟨b, o, none⟩ = some (.int .i64 0) ∧ w'.cell? ⟨b, o + 1, none⟩ = some (.int .i64 0) := by
  obtain ⟨b, o, rfl, hb, H⟩ := (h.below m).at_ (by omega)
  exact ⟨b, o, rfl, H 0 (by simp [I64]), H 1 (by simp [I64])⟩
end Go.Proofs.Ytfolefadjdcehaa
