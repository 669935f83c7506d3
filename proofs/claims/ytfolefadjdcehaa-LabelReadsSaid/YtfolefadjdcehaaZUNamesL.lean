/- Names made of edges' names and flips: mathematics. -/
import Derived.Test.YtfolefadjdcehaaZUNamesM
import Derived.Test.YtfolefadjdcehaaZPRef2
import Derived.Test.YtfolefadjdcehaaZURel
namespace Go.Proofs.Ytfolefadjdcehaa
set_option maxRecDepth 20000
open Go.RowKit
set_option linter.unusedVariables false
/-- The first k edges' darts have the names of the edges that P tells, as they are or flipped. -/
def Flip (P L : List Nat) (k : Nat) : Prop := L.length = 2 * k ∧ ∀ e, e < k → (L.getD (2 * e) 0 = 2 * P.getD e 0 ∧ L.getD (2 * e + 1) 0 = 2 * P.getD e 0 + 1) ∨ (L.getD (2 * e) 0 = 2 * P.getD e 0 + 1 ∧ L.getD (2 * e + 1) 0 = 2 * P.getD e 0)
theorem getD_app_lt (L X : List Nat) {i : Nat} (hi : i < L.length) : (L ++ X).getD i 0 = L.getD i 0 := by
  simp [List.getD_eq_getElem?_getD, List.getElem?_append_left hi]
theorem getD_app_0 (L : List Nat) (a b : Nat) : (L ++ [a, b]).getD L.length 0 = a := by
  simp [List.getD_eq_getElem?_getD]
theorem getD_app_1 (L : List Nat) (a b : Nat) : (L ++ [a, b]).getD (L.length + 1) 0 = b := by
  simp [List.getD_eq_getElem?_getD]
theorem Flip.next {P L : List Nat} {k a b : Nat} (h : Flip P L k) (c : (a = 2 * P.getD k 0 ∧ b = 2 * P.getD k 0 + 1) ∨ (a = 2 * P.getD k 0 + 1 ∧ b = 2 * P.getD k 0)) : Flip P (L ++ [a, b]) (k + 1) := by
  refine ⟨by rw [List.length_append, h.1]; simp; omega, fun e he => ?_⟩
  by_cases q : e = k
  · subst q
    have h1 := getD_app_0 L a b
    have h2 := getD_app_1 L a b
    rw [h.1] at h1 h2
    rw [h1, h2]; exact c
  · have h1 := h.1
    rw [getD_app_lt _ _ (by omega), getD_app_lt _ _ (by omega)]
    exact h.2 e (by omega)
theorem Flip.at_ {P L : List Nat} {k i : Nat} (h : Flip P L k) (hi : i < 2 * k) : ∃ r, r < 2 ∧ L.getD i 0 = 2 * P.getD (i / 2) 0 + r ∧ L.getD (mt i) 0 = 2 * P.getD (i / 2) 0 + (1 - r) := by
  have hc := h.2 (i / 2) (by omega)
  unfold mt
  by_cases e : i % 2 = 0
  · rw [if_pos e]
    have e1 : 2 * (i / 2) = i := by omega
    rw [e1] at hc
    rcases hc with ⟨c1, c2⟩ | ⟨c1, c2⟩
    · exact ⟨0, by omega, by omega, by omega⟩
    · exact ⟨1, by omega, by omega, by omega⟩
  · rw [if_neg e]
    have e1 : 2 * (i / 2) = i - 1 := by omega
    have e2 : i - 1 + 1 = i := by omega
    rw [e1, e2] at hc
    rcases hc with ⟨c1, c2⟩ | ⟨c1, c2⟩
    · exact ⟨1, by omega, by omega, by omega⟩
    · exact ⟨0, by omega, by omega, by omega⟩
theorem Flip.good {P PB L : List Nat} {k : Nat} (h : Flip P L k) (hP : Inv P PB) (hk : P.length = k) : Good (ofN L) := by
  intro i hi
  rw [ofN_len, h.1] at hi
  rw [ofN_len, h.1, ofN_get]
  obtain ⟨r, hr, e1, e2⟩ := h.at_ hi
  have hl := hP.lt (i / 2) (by omega)
  refine ⟨by omega, by omega, fun j hj c => ?_⟩
  rw [ofN_get] at c
  obtain ⟨s, hs, f1, f2⟩ := h.at_ (i := j) (by omega)
  have hq : P.getD (j / 2) 0 = P.getD (i / 2) 0 := by omega
  have hd := hP.inj (j / 2) (i / 2) (by omega) (by omega) hq
  have hm : mt i = j := by unfold mt; split <;> omega
  rw [hm] at e2
  omega
theorem Flip.nam {P L q : List Nat} {k n : Nat} (h : Flip P L k) (hi : Inv L q) (hn : n = 2 * k) : Nam n L q := by
  refine ⟨hi, by rw [h.1, hn], by omega, fun d hd => ?_⟩
  obtain ⟨r, hr, e1, e2⟩ := h.at_ (i := d) (by omega)
  show L.getD (mt d) 0 = mt (L.getD d 0)
  rw [e1, e2]
  unfold mt
  split <;> omega
/-- Two of them exchanged keep no mates. -/
def swp2 (L : List Nat) : List Nat := (L.set 0 (L.getD 2 0)).set 2 (L.getD 0 0)
theorem swp2_good {L : List Nat} (h : Good (ofN L)) (hl : 2 < L.length) : Good (ofN (swp2 L)) := by
  have := good_swap h (i := 0) (k := 2) (by rw [ofN_len]; omega) (by rw [ofN_len]; omega)
  rw [ofN_get, ofN_get] at this
  have hN : (((ofN L).set 0 ((L.getD 2 0 : Nat) : Int)).set 2 ((L.getD 0 0 : Nat) : Int)) = ofN (swp2 L) := by simp [ofN, List.map_set, swp2]
  rwa [hN] at this
theorem swp2_len (L : List Nat) : (swp2 L).length = L.length := by simp [swp2]
theorem swp2_no {L q q' : List Nat} {n : Nat} (h : Nam n L q) (hn : 2 < n) (hl : L.length = n) : ¬ Nam n (swp2 L) q' := by
  intro c
  have hev := h.ev
  have h0 := c.mt 0 (by omega)
  have h2 := h.mt 2 (by omega)
  have m0 : mt 0 = 1 := rfl
  have m2 : mt 2 = 3 := rfl
  rw [m0] at h0
  rw [m2] at h2
  have g0 : sgL (swp2 L) 0 = sgL L 2 := by
    unfold sgL swp2
    rw [getDN_setU _ _ _ _ (by simp; omega), if_neg (by omega), getDN_setU _ _ _ _ (by omega), if_pos rfl]
  have g1 : sgL (swp2 L) 1 = sgL L 1 := by
    unfold sgL swp2
    rw [getDN_setU _ _ _ _ (by simp; omega), if_neg (by omega), getDN_setU _ _ _ _ (by omega), if_neg (by omega)]
  rw [g0, g1, ← h2] at h0
  have := h.inv.inj 1 3 (by omega) (by omega) h0
  omega
theorem reRoot_back {n : Nat} {p q : List Nat} (h : Nam n p q) {root : Int} (hr : RootOk root n) : reRoot q (reRoot p root) = root := by
  rcases hr with ⟨h0, rfl⟩ | ⟨h0, h1, h2⟩
  · rfl
  · obtain ⟨r, rfl⟩ : ∃ r : Nat, root = (r : Int) := ⟨root.toNat, by omega⟩
    have e1 : reRoot p (r : Int) = ((sgL p r : Nat) : Int) := by
      unfold reRoot
      rw [if_neg (by omega), Int.toNat_natCast]; rfl
    rw [e1]
    unfold reRoot
    rw [if_neg (by omega), Int.toNat_natCast]
    have := h.qp (d := r) (by omega)
    show ((sgL q (sgL p r) : Nat) : Int) = r
    rw [this]
end Go.Proofs.Ytfolefadjdcehaa
