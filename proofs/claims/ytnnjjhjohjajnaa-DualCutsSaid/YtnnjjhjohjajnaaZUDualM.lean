/- The map seen from its faces: mathematics. -/
import Derived.Test.YtnnjjhjohjajnaaZETurnM
namespace Go.Proofs.Ytnnjjhjohjajnaa
set_option maxRecDepth 20000
open Go.RowKit
set_option linter.unusedVariables false
section
variable {l b : List Nat}
theorem phi_twice (h : Inv l b) (he : l.length % 2 = 0) : phiL (phiL l) = l := by
  have hl := phiL_len l
  have hl2 := phiL_len (phiL l)
  apply List.ext_getElem (by rw [hl2, hl])
  intro i h1 h2
  have a : i < (phiL l).length := by rw [hl]; exact h2
  have hm := mateN_lt he h2
  have e := phiL_get (phiL l) i a
  rw [phiL_get l (mateN i) hm, mt_mateN, mt_mateN, mt_mt] at e
  simpa [List.getD_eq_getElem?_getD, List.getElem?_eq_getElem h1, List.getElem?_eq_getElem h2] using e
theorem part_dual1 (h : Inv l b) (he : l.length % 2 = 0) {i j : Nat} (hi : i < l.length) (hj : j < l.length) (r : part (phiL l) i j) : part l i j := by
  have hp := phi_inv h he
  have hpf := sgL_pf h
  have hq := part_eqv h he
  have hpf2 : PF l.length (sgL (phiL l)) := by have := sgL_pf hp; rwa [phiL_len] at this
  have r' : gk (sgL (phiL l)) (l.length / 2) i j := by unfold part at r; rwa [phiL_len] at r
  refine (part_closed (S := fun x => part l i x) hpf2 (m := l.length / 2) (by omega) (fun x hx s => ?_) (fun x hx s => ?_) i j hi hj r').1 (hq.refl i hi)
  · have hm : mt x < l.length := mt_lt (m := l.length / 2) (by omega) hx
    have e : sgL (phiL l) x = sgL l (mt x) := by unfold sgL; rw [phiL_get _ _ hx, mt_mateN]
    have hs : sgL l (mt x) < l.length := hpf.lt _ hm
    show part l i (sgL (phiL l) x)
    rw [e]
    have s' : part l i x := s
    exact hq.trans _ _ _ hi hm hs (hq.trans _ _ _ hi hx hm s' (gk_mt hpf (by omega) x hx)) (gk_sig hpf (mt x) (l.length / 2))
  · have hm : mt x < l.length := mt_lt (m := l.length / 2) (by omega) hx
    exact hq.trans _ _ _ hi hx hm s (gk_mt hpf (by omega) x hx)
theorem part_dual (h : Inv l b) (he : l.length % 2 = 0) {i j : Nat} (hi : i < l.length) (hj : j < l.length) : part (phiL l) i j ↔ part l i j := by
  refine ⟨part_dual1 h he hi hj, fun r => ?_⟩
  have hp := phi_inv h he
  have hl := phiL_len l
  refine part_dual1 hp (by rw [hl]; exact he) (by rw [hl]; exact hi) (by rw [hl]; exact hj) ?_
  rw [phi_twice h he]; exact r
theorem pN_dual (h : Inv l b) (he : l.length % 2 = 0) : pN (phiL l) = pN l := by
  unfold pN
  rw [phiL_len]
  exact pn_both (fun i j hi hj => part_dual h he hi hj) _ (Nat.le_refl _)
theorem pq_dual (h : Inv l b) (he : l.length % 2 = 0) {d : Nat} (hd : d < l.length) : pq (phiL l) d = pq l d := by
  have hb := part_eqv (phi_inv h he) (by rw [phiL_len]; exact he)
  rw [phiL_len] at hb
  have hp := fun i j hi hj => part_dual h he (i := i) (j := j) hi hj
  have e := rep_both hb (part_eqv h he) hp hd
  have := (rep_is (part_eqv h he) hd).1
  unfold pq prt
  rw [e]
  exact pn_both hp _ (by omega)
theorem pG_dual (h : Inv l b) (he : l.length % 2 = 0) (j : Nat) : pG (phiL l) j = pG l j := by
  have e1 : pV (phiL l) j (phiL l).length = num (fun d => pq l d = j ∧ Leads (phiL l) d) l.length := by
    unfold pV
    rw [phiL_len]
    exact num_congr fun d hd => by rw [pq_dual h he hd]
  have e2 : pE (phiL l) j (phiL l).length = pE l j l.length := by
    unfold pE
    rw [phiL_len]
    exact num_congr fun d hd => by rw [pq_dual h he hd]
  have e3 : num (fun d => pq (phiL l) d = j ∧ Leads (phiL (phiL l)) d) (phiL l).length = pV l j l.length := by
    unfold pV
    rw [phiL_len, phi_twice h he]
    exact num_congr fun d hd => by rw [pq_dual h he hd]
  unfold pG
  rw [e1, e2, e3]
  congr 1
  omega
theorem genus_dual (h : Inv l b) (he : l.length % 2 = 0) : genusN (phiL l) = genusN l := by
  unfold genusN genusTo
  rw [pN_dual h he]
  congr 1
  apply List.map_congr_left
  intro j _
  unfold pgen
  rw [pN_dual h he, pG_dual h he]
end
end Go.Proofs.Ytnnjjhjohjajnaa
