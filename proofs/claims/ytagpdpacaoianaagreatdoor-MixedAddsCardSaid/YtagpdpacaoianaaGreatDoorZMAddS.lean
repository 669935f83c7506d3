/- A letter put behind a word of which there is an index. -/
import Derived.Test.YtagpdpacaoianaaGreatDoorZMIdx
import Derived.Test.YtagpdpacaoianaaGreatDoorZg6
import Derived.Test.YtagpdpacaoianaaGreatDoorZQMade
namespace Go.Proofs.YtagpdpacaoianaaGreatDoor
set_option maxRecDepth 20000
open Go.RowKit
set_option linter.unusedVariables false
set_option maxHeartbeats 4000000 in
theorem madd_s (B g : Nat) (ks : List Nat) (A : Option Addr) (n c : Nat) (z : List Int) (w : World) (S : Nat → Prop) (h : WordS w B g ks S) (hz : Rd w w.heap.size A n (I64 z)) (hAS : ∀ i, inBlk A i → S i) (hA : ∀ i, S i → i < w.heap.size) (hn : ks.length + n ≤ 400000) :
    Calls Tryz.prog 15 #[.pointer (some ⟨g, 0, none⟩), .slice A n c] w fun e w' => e = .returned (.int .i64 (if ∀ x ∈ z, Kd x then 0 else 1)) ∧ WordAt w' B g (if ∀ x ∈ z, Kd x then ks ++ toN z else ks) ∧ Below B w w' ∧ Mod (fun i => ¬ S i) w w' := by
  have CP := Lib.hid (containsKind_p A n c _ z w hz (by omega))
  have hl : z.length = n := by rw [← hz.len, I64_len]
  by_cases hg : ∀ x ∈ z, Kd x
  · rw [decide_eq_true hg] at CP
    rw [if_pos hg, if_pos hg]
    have HG : Hid (∀ k, k < n → ∃ q : Nat, q < 4 ∧ z.getD k 0 = (q : Int)) := fun k hk => by
      have hk' : k < z.length := by omega
      have := hg (z.getD k 0) (by rw [List.getD_eq_getElem?_getD, List.getElem?_eq_getElem hk']; exact List.getElem_mem hk')
      have h1 := this.1
      have h2 := this.2
      exact ⟨(z.getD k 0).toNat, by omega, by omega⟩
    have HA := Lib.hid hA
    have HAS := Lib.hid hAS
    have PP : Hid (∀ (ls : List Nat) (k : Nat) (W : World), WordS W B g ls S → w.heap.size ≤ W.heap.size → k < 4 → ls.length ≤ 400000 → Calls Tryz.prog 41 #[.pointer (some ⟨g, 0, none⟩), .int .i64 (k : Int)] W fun e w' => e = .returned (.tuple #[]) ∧ WordS w' B g (ls ++ [k]) S ∧ Below B W w' ∧ Mod (fun i => ¬ S i) W w') := fun ls k W h hs hk hl => mput_s B g ls k W _ h hk hl (fun i hi => Nat.lt_of_lt_of_le (HA.out i hi) hs)
    have HZ := Lib.hid hz
    have HL := Lib.hid hl
    have HW := Lib.hid h
    clear hz h hg hl
    go_enter Tryz.func15, Tryz.ntmps15
    go_wp2_with fail
    refine CP.out.mono ?_
    rintro e w' ⟨rfl, rfl⟩
    clear CP
    go_wp2_with fail
    go_loopw [13] (fun i wr => ∃ k : Nat, k ≤ n ∧ i = .int .i64 k ∧ Hid (WordS wr B g (ks ++ (toN z).take k) S) ∧ Hid (Below B w wr) ∧ Hid (Mod (fun i => ¬ S i) w wr)) (fun i _ => n - (intOf i).toNat)
    case atStart => exact ⟨0, by omega, rfl, by show WordS _ _ _ _ _; rw [List.take_zero, List.append_nil]; exact HW.out, Below.refl _ _, Mod.refl _ _⟩
    case round =>
      obtain ⟨k, hk, rfl, HS, HB, HM⟩ := hrel
      by_cases hlt : k < n
      · have hr := HZ.out.mod HM.out (Nat.le_refl _) (fun _ i hi hs => hs (HAS.out i hi))
        obtain ⟨bb, o, rfl, _, kk⟩ := hr.i64 (by omega)
        have x0 := kk k hlt
        obtain ⟨q, hq4, hq⟩ := HG.out k hlt
        have hnx := toN_next z k (by rw [HL.out]; exact hlt)
        rw [hq, Int.toNat_natCast] at hnx
        rw [hq] at x0
        have HNX := Lib.hid hnx
        have P1 := Lib.hid (PP.out _ q wr HS.out HM.out.size hq4 (by rw [List.length_append, List.length_take]; omega))
        clear kk hr hq hnx hq4 HS
        go_wp2_with fail
        refine P1.out.mono ?_
        rintro e w2 ⟨rfl, hw2, z2, m2⟩
        have HW2 := Lib.hid hw2
        have HB2 := Lib.hid (HB.out.trans z2)
        have HM2 := Lib.hid (HM.out.trans m2 (fun i _ hi => hi))
        clear hw2 z2 m2 P1 HB HM
        go_wp2_with fail
        go_roundw
        case rel => exact ⟨k + 1, by omega, by go_num, by show WordS _ _ _ _ _; rw [HNX.out, ← List.append_assoc]; exact HW2.out, HB2.out, HM2.out⟩
        case measure => simp [intOf]; omega
      · obtain rfl : k = n := by omega
        go_wp2_with fail
        go_ret
        have := HS.out
        rw [List.take_of_length_le (by rw [toN_len, HL.out]; exact Nat.le_refl _)] at this
        exact ⟨rfl, this.at_, HB.out, HM.out⟩
  · rw [decide_eq_false hg] at CP
    rw [if_neg hg, if_neg hg]
    have HW := Lib.hid h
    clear hz h hg hl
    go_enter Tryz.func15, Tryz.ntmps15
    go_wp2_with fail
    refine CP.out.mono ?_
    rintro e w' ⟨rfl, rfl⟩
    go_wp2_with fail
    go_ret
    exact ⟨rfl, HW.out.at_, Below.refl _ _, Mod.refl _ _⟩
/-- The word's blocks stand ahead of what came later. -/
theorem WordAt.under {w w' : World} {B g M : Nat} {ks : List Nat} (h : WordAt w B g ks) (b : Below w.heap.size w w') : WordS w' B g ks (fun i => w.heap.size ≤ i ∧ i < M) := by
  obtain ⟨h1, h2, gv, A, h3, h4, h5⟩ := h
  refine ⟨h1, h2, gv, A, h3, h4.below b, h5.below b, fun i hi hs => ?_⟩
  have := h5.foot_lt hi
  omega
section
variable {w0 w w' wL : World} {m gx p0 g0 p1 g1 q : Nat} {ks : List Nat}
theorem Mx.rebase (h : Mx w0 w m gx p0 g0 p1 g1 ks q) (md : Mod (fun i => i < w0.heap.size) w w') (hle : wL.heap.size ≤ w0.heap.size) (b : Below wL.heap.size wL w') (hN : Nul wL) (hT : Tab wL ∧ 1 < wL.heap.size) : Mx wL w' m gx p0 g0 p1 g1 ks q := by
  obtain ⟨d, k, hk, hx⟩ := h.ix
  obtain ⟨d0, ha⟩ := h.pa
  obtain ⟨d1, hb⟩ := h.pb
  have lo := h.lo
  exact ⟨h.blk.mod md (by omega), ⟨d, k, hk, hx.mod md fun i hi => by omega⟩, ⟨d0, ha.mod md fun i hi => by omega⟩, ⟨d1, hb.mod md fun i hi => by omega⟩, h.ne, ⟨by omega, by omega, by omega, by omega⟩, h.kd, h.b0, h.b1, b, hN, hT⟩
end
end Go.Proofs.YtagpdpacaoianaaGreatDoor
