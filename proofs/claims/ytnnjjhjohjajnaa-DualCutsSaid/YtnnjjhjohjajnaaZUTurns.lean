/- DualTurns: an edge made one in the map is cut in the dual. -/
import Derived.Test.YtnnjjhjohjajnaaZUCut
import Derived.Test.YtnnjjhjohjajnaaZUMade
import Derived.Test.YtnnjjhjohjajnaaZUNil
import Derived.Test.YtnnjjhjohjajnaaZERow5
import Derived.Test.YtnnjjhjohjajnaaZPRef2
import Derived.Test.YtnnjjhjohjajnaaZEqualI
import Derived.Test.YtnnjjhjohjajnaaZDMap2
namespace Go.Proofs.Ytnnjjhjohjajnaa
set_option maxRecDepth 20000
open Go.RowKit
set_option linter.unusedVariables false
theorem un_mate (e j : Nat) : unN e (mateN j) = mateN (unN e j) := by
  rw [mateN_eq, mateN_eq]; unfold unN
  repeat' split
  all_goals omega
/-- The dual of the map with the edge made one is the dual with the edge cut. -/
theorem dual_shrink {l b : List Nat} (h : Inv l b) (hev : l.length % 2 = 0) {e : Nat} (hE : 2 * e + 2 ≤ l.length) : phiL (woN l (phiL l) e) = woN (phiL l) (phiL l) e := by
  have hl := phiL_len l
  have l1 := woN_len l (phiL l) e hE
  have l2 := woN_len (phiL l) (phiL l) e (by omega)
  have l3 := phiL_len (woN l (phiL l) e)
  apply List.ext_getElem (by omega)
  intro j h1 h2
  have hj : j < l.length - 2 := by omega
  have hm : mateN j < l.length - 2 := mateN_lt (by omega) hj
  have hu : unN e j < l.length := by unfold unN; split <;> omega
  have e1 : (phiL (woN l (phiL l) e)).getD j 0 = calN e (outN (phiL l) e (l.getD (unN e (mateN j)) 0)) := by
    rw [phiL_get _ _ (by omega), woN_get l (phiL l) e (mateN j) hE hm]
  have e2 : (woN (phiL l) (phiL l) e).getD j 0 = calN e (outN (phiL l) e ((phiL l).getD (unN e j) 0)) := woN_get (phiL l) (phiL l) e j (by omega) (by omega)
  rw [phiL_get _ _ hu, ← un_mate] at e2
  have e3 := e1.trans e2.symm
  simpa [List.getD_eq_getElem?_getD, List.getElem?_eq_getElem h1, List.getElem?_eq_getElem h2] using e3
theorem loops_pos (l : List Nat) (e : Nat) (he : nameOf l (2 * e) = nameOf l (2 * e + 1)) : ∀ k, e < k → 0 < loopsN l k
  | 0, h => by omega
  | k + 1, h => by
    rcases Nat.lt_or_ge e k with c | c
    · have := loops_pos l e he k c
      have h2 := loopsN_next l k
      by_cases d : lowE l k = highE l k
      · rw [h2.1 d]; omega
      · rw [h2.2 d]; exact this
    · obtain rfl : e = k := by omega
      rw [(loopsN_next l e).1 (by unfold lowE highE; rw [he]; simp)]; omega
end Go.Proofs.Ytnnjjhjohjajnaa
