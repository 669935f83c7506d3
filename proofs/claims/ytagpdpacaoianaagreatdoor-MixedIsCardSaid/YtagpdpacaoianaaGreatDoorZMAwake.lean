/- The statements' awake, and their words of letters. -/
import Derived.Test.YtagpdpacaoianaaGreatDoorZMOwn
import Derived.Test.YtagpdpacaoianaaGreatDoorZMIndex
import Derived.Test.YtagpdpacaoianaaGreatDoorZMParse
namespace Go.Proofs.YtagpdpacaoianaaGreatDoor
set_option maxRecDepth 20000
open Go.RowKit
set_option linter.unusedVariables false
theorem toN_of (ks : List Nat) : toN (ofNB ks) = ks := by
  unfold toN ofNB
  rw [List.map_map]
  conv => rhs; rw [← List.map_id ks]
  exact List.map_congr_left fun x _ => by simp
theorem kd_of {ks : List Nat} (h : Kds ks) : ∀ x ∈ ofNB ks, Kd x := fun x hx => by
  obtain ⟨k, hk, rfl⟩ := List.mem_map.1 hx
  have := h k hk
  exact ⟨by omega, by omega⟩
set_option maxHeartbeats 1000000 in
/-- A word of letters. -/
theorem of4_p (A : Option Addr) (n c : Nat) (ks : List Nat) (w : World) (hr : Rd w w.heap.size A n (I64 (ofNB ks))) (hk : Kds ks) (hb : ∀ i, inBlk A i → ∃ cs, Blk w i 3 cs) (hn : n ≤ 100000) :
    Calls Tryz.prog 20 #[.slice A n c] w fun e w' => ∃ g, e = .returned (.pointer (some ⟨g, 0, none⟩)) ∧ WordAt w' w.heap.size g ks ∧ Below w.heap.size w w' := by
  have MN := Lib.hid (mnew_p w)
  have AD : Hid (∀ (g : Nat) (w1 : World), WordAt w1 w.heap.size g [] → Below w.heap.size w w1 → Calls Tryz.prog 15 #[.pointer (some ⟨g, 0, none⟩), .slice A n c] w1 fun e w' => e = .returned (.int .i64 0) ∧ WordAt w' w.heap.size g ks ∧ Below w.heap.size w1 w') := fun g w1 hw1 b1 => by
    have h1 := madd_p w.heap.size g [] A n c (ofNB ks) w1 (hw1.sep (fun i hi => by obtain ⟨cs, h⟩ := hb i hi; exact ⟨cs, h.below b1⟩)) ((hr.below b1).up b1.size) (fun i hi => by obtain ⟨cs, h⟩ := hb i hi; exact Nat.lt_of_lt_of_le h.lt b1.size) (by simp; omega)
    rw [if_pos (kd_of hk), if_pos (kd_of hk), toN_of] at h1
    exact h1
  clear hr hb
  go_enter Tryz.func20, Tryz.ntmps20
  go_wp2_with fail
  refine MN.out.mono ?_
  rintro e w1 ⟨g, rfl, hw1, b1⟩
  have A1 := Lib.hid (AD.out g w1 hw1 b1)
  have B1 := Lib.hid b1
  clear hw1 b1 MN AD
  go_wp2_with fail
  refine A1.out.mono ?_
  rintro e w2 ⟨rfl, hw2, b2⟩
  have W2 := Lib.hid hw2
  have B2 := Lib.hid (B1.out.trans b2)
  clear hw2 b2 A1 B1
  go_wp2_with fail
  go_ret
  exact ⟨g, rfl, W2.out, B2.out⟩
theorem MateAt.uniq {ks : List Nat} {i p p' : Nat} (h : MateAt ks i p) (k : MateAt ks i p') : p = p' := by
  obtain ⟨h1, h2, h3⟩ := h
  obtain ⟨k1, k2, k3⟩ := k
  have := h3.uniq (exc_Exc _) k3
  exact ah_uniq (ks.getD i 0 / 2) ks p p' h1 k1 h2 k2 (by omega)
theorem OwnZ.uniq {ks : List Nat} {i : Nat} {y z : Int} (h : OwnZ ks i y) (k : OwnZ ks i z) : y = z := by
  unfold OwnZ at h k
  split at h
  · rw [if_pos ‹_›] at k
    exact h.uniq (exc_Exc _) k
  rw [if_neg ‹_›] at k
  split at h
  · rw [if_pos ‹_›] at k; omega
  rw [if_neg ‹_›] at k
  split at h
  · rw [if_pos ‹_›] at k; omega
  · rw [if_neg ‹_›] at k
    exact h.uniq (exc_Exc _) k
theorem OwnAt.uniq {ks : List Nat} {i : Nat} {r r' : Int} (h : OwnAt ks i r) (k : OwnAt ks i r') : r = r' := by
  obtain ⟨z, hz, hr⟩ := h
  obtain ⟨z', hz', hr'⟩ := k
  have e := hz.uniq hz'
  subst e
  rcases hr with ⟨a, b⟩ | ⟨p, a, b, c, d⟩
  · rcases hr' with ⟨a', b'⟩ | ⟨p', a', b', c', d'⟩
    · omega
    · omega
  · rcases hr' with ⟨a', b'⟩ | ⟨p', a', b', c', d'⟩
    · omega
    · have := ah_uniq 0 ks p p' b b' c c' (by omega)
      omega
/-- The document's example: ([)]. -/
theorem bal_ex2 : Bal (exc 1) 2 := by
  refine ⟨fun i hi => ?_, by decide⟩
  have : i = 0 ∨ i = 1 ∨ i = 2 := by omega
  rcases this with rfl | rfl | rfl <;> decide
theorem pair_ex2 : Pair (exc 1) 0 1 := ⟨by decide, by decide, fun k h1 h2 => by
  obtain rfl : k = 1 := by omega
  decide⟩
theorem mate_ex : MateAt [0, 2, 1, 3] 1 3 := ⟨by decide, by decide, by
  show MateOK (exc 1) 0 ((1 : Nat) : Int)
  exact ⟨1, rfl, .inl pair_ex2⟩⟩
theorem own_ex2 : OwnAt [0, 2, 1, 3] 2 0 := ⟨0, by
  show MateOK (exc 1) 1 0
  exact ⟨0, rfl, .inr pair_ex2⟩, .inr ⟨0, rfl, by decide, by decide, by decide⟩⟩
theorem own_ex3 : OwnAt [0, 2, 1, 3] 3 (-1) := ⟨-1, by
  show RoundOK (exc 1) 1 (-1)
  intro a ha
  obtain rfl : a = 2 := by
    rcases ha with x | x
    · exact absurd x.1 (by decide)
    · exact x.2
  rw [if_pos (by decide)], .inl ⟨rfl, rfl⟩⟩
set_option maxHeartbeats 4000000 in
theorem awake4_p (w : World) (hT : MTabs w) : Calls Tryz.prog 9 #[] w fun e w' => e = .returned (.bool true) ∧ Below w.heap.size w w' := by
  have PE := Lib.hid (parse_ex w)
  have HT := Lib.hid hT
  clear hT
  go_enter Tryz.func9, Tryz.ntmps9
  go_wp2_with fail
  refine PE.out.mono ?_
  rintro e w1 ⟨g, rfl, hw1, b1⟩
  have IP := Lib.hid (index_p (some ⟨g, 0, none⟩) [0, 2, 1, 3] w1 hw1.1 (HT.out.below b1) (tells_word _ g _ w1 hw1 (by decide)))
  have B1 := Lib.hid b1
  clear hw1 b1 PE
  go_wp2_with fail
  refine IP.out.mono ?_
  rintro e w2 (⟨m, gx, p0, g0, p1, g1, rfl, hm⟩ | ⟨hno, _⟩)
  case inr => exact absurd (And.intro bal_ex2 bal_ex2) hno
  have M1 := Lib.hid (mateI_p hm 1 (by decide) (by omega))
  clear hm IP
  go_wp2_with fail
  refine M1.out.mono ?_
  rintro e w3 ⟨p, hp, rfl, h3, m3⟩
  obtain rfl : p = 3 := hp.uniq mate_ex
  have O1 := Lib.hid (ownerI_p h3 2 (by decide) (by omega))
  clear hp h3 m3 M1
  go_wp2_with fail
  refine O1.out.mono ?_
  rintro e w4 ⟨r, hr, rfl, h4, m4⟩
  obtain rfl : r = 0 := hr.uniq own_ex2
  have O2 := Lib.hid (ownerI_p h4 3 (by decide) (by omega))
  clear hr h4 m4 O1
  go_wp2_with fail
  refine O2.out.mono ?_
  rintro e w5 ⟨r, hr, rfl, h5, m5⟩
  obtain rfl : r = -1 := hr.uniq own_ex3
  have B5 : Hid (Below w.heap.size w w5) := B1.out.trans (h5.bel.mono B1.out.size)
  clear hr h5 m5 O2
  go_wp2_with fail
  go_ret
  exact ⟨rfl, B5.out⟩
end Go.Proofs.YtagpdpacaoianaaGreatDoor
