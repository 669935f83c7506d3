/- New: the parentheses that bits are. -/
import Derived.Test.YtagpdpacaoianaaGreatDoorZg5
import Derived.Test.YtagpdpacaoianaaGreatDoorZKNew
namespace Go.Proofs.YtagpdpacaoianaaGreatDoor
open Go.RowKit
set_option linter.unusedVariables false
set_option maxRecDepth 20000
def NewYes (w : World) (V n : Nat) (e : Ending) (w' : World) : Prop :=
  ∃ p g, e = .returned (.tuple #[.pointer (some ⟨p, 0, none⟩), .int .i64 0]) ∧ PAt w' p g V n false 0 ∧ w.heap.size ≤ g ∧ Below w.heap.size w w'
def NewNo (w : World) (e : Ending) (w' : World) : Prop := e = .returned (.tuple #[.pointer none, .int .i64 9]) ∧ Below w.heap.size w w'
def NewPB (w : World) (V n : Nat) (e : Ending) (w' : World) : Prop := (Bal (exc V) n ∧ NewYes w V n e w') ∨ (¬ Bal (exc V) n ∧ NewNo w e w')
set_option maxHeartbeats 4000000 in
theorem pnew_p (v V n B : Nat) (A : Option Addr) (w : World) (h : VecB w B v V n A) : Calls Tryz.prog 53 #[.pointer (some ⟨v, 0, none⟩)] w (NewPB w V n) := by
  have XN := Lib.hid (xnew_p v V n B A w h)
  have HE := Lib.hid (exc_Exc V)
  clear h
  go_enter Tryz.func53, Tryz.ntmps53
  go_wp2_with fail
  refine XN.out.mono ?_
  rintro e w2 ⟨g, rfl, hx, hgl, b2⟩
  have hgs := hx.lt
  have hpa : PAt (w2.alloc (.cells #[.pointer (some ⟨g, 0, none⟩), .int .u32 0, .int .i32 0, .int .u32 0, .slice none 0 0, .int .i64 0] 119)) w2.heap.size g V n false 0 :=
    ⟨hgs, ⟨false, 0, Nat.le_refl _, hx.below ((Below.refl _ _).alloc (Nat.le_refl _) _)⟩, .slice none 0 0, Blk.new w2 _ _, rfl⟩
  have hn := hx.2.1
  have HP := Lib.hid hpa
  have B3 : Hid (Below w.heap.size w (w2.alloc (.cells #[.pointer (some ⟨g, 0, none⟩), .int .u32 0, .int .i32 0, .int .u32 0, .slice none 0 0, .int .i64 0] 119))) := b2.alloc b2.size _
  have PL := Lib.hid (plen_p _ g V n 0 _ hpa.ix)
  have CH := Lib.hid fun i (hi : i < n) => change_f _ g V n 0 _ i hpa.ix hi
  clear hx b2 hpa XN
  go_wp2_with fail
  refine PL.out.mono ?_
  rintro e w3 ⟨rfl, rfl⟩
  go_wp2_with fail
  go_loop [5, 13] (fun z x => ∃ (i : Nat) (y : Int), x = .int .i64 (i : Int) ∧ z = .int .i64 y ∧ i ≤ n ∧ -1000000 ≤ y ∧ y ≤ 1000000 ∧ Hid (exc V i = y) ∧ Hid (∀ k, k ≤ i → 0 ≤ exc V k)) (fun _ x => n - (intOf x).toNat)
  case atStart => exact ⟨0, 0, rfl, rfl, by omega, by omega, by omega, HE.out.zero, fun k hk => by obtain rfl : k = 0 := by omega
                                                                                                   rw [HE.out.zero]; exact Int.le_refl _⟩
  case round =>
    obtain ⟨i, y, rfl, rfl, hi, hy1, hy2, hy, hab⟩ := hrel
    by_cases hlt : i < n
    · have C1 := Lib.hid (CH.out i hlt)
      obtain ⟨s, hs⟩ : ∃ s, exc V (i + 1) - exc V i = s := ⟨_, rfl⟩
      rw [hs] at C1
      have hst := HE.out.step i
      have hs1 : -1 ≤ s ∧ s ≤ 1 := by omega
      have HS : Hid (exc V (i + 1) = y + s) := by show _ = _; have := hy.out; omega
      have hbd := HE.out.bound (i + 1)
      rw [HS.out] at hbd
      clear hs hst
      by_cases hneg : y + s < 0
      · have NB : Hid (¬ Bal (exc V) n) := fun hB => by have := hB.1 (i + 1) (by omega); rw [HS.out] at this; omega
        go_wp2_with (go_at_call 82; refine C1.out.mono ?_; rintro e w' ⟨rfl, rfl⟩)
        go_ret2
        exact .inr ⟨NB.out, rfl, B3.out⟩
      · have hd : decide (y + s < 0) = false := decide_eq_false hneg
        have HAB : Hid (∀ k, k ≤ i + 1 → 0 ≤ exc V k) := fun k hk => by
          by_cases e : k = i + 1
          · rw [e, HS.out]; omega
          · exact hab.out k (by omega)
        clear hneg
        go_wp2_with (go_at_call 82; refine C1.out.mono ?_; rintro e w' ⟨rfl, rfl⟩)
        go_round
        case rel => exact ⟨i + 1, y + s, by go_num, rfl, by omega, by omega, by omega, HS.out, HAB.out⟩
        case measure => simp [intOf]; omega
    · obtain rfl : i = n := by omega
      by_cases hy0 : y = 0
      · have YB : Hid (Bal (exc V) i) := ⟨hab.out, by rw [hy.out, hy0]⟩
        subst hy0
        go_wp2_with fail
        go_ret2
        exact .inl ⟨YB.out, _, g, rfl, HP.out, hgl, B3.out⟩
      · have NB : Hid (¬ Bal (exc V) i) := fun hB => hy0 (by rw [← hy.out]; exact hB.2)
        have g0 : (y == 0) = false := by rw [beq_eq_false_iff_ne]; exact hy0
        have g1 : (y != 0) = true := by rw [bne, g0]; rfl
        clear hy0
        go_wp2_with fail
        go_ret2
        exact .inr ⟨NB.out, rfl, B3.out⟩
end Go.Proofs.YtagpdpacaoianaaGreatDoor
