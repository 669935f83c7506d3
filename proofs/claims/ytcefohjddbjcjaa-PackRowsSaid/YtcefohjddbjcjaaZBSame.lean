/- Same. -/
import Derived.Test.YtcefohjddbjcjaaZg3
import Derived.Deep.QuietTactic
import Derived.BigQuiet
namespace Go.Proofs.Ytcefohjddbjcjaa
open Go.RowKit
set_option linter.unusedVariables false
theorem same_lenB (v v' : Option Addr) (a a' : Nat) (w : World) (ha : a ≤ 1000000) (ha' : a' ≤ 1000000) (hz : a = a' → a = 0)
    (hp : ∀ j, Calls Try.prog 21 #[.pointer v] (w.drewN j) fun e w' => e = .returned (.int .i64 (a : Int)) ∧ w.drewN j = w')
    (hq : Calls Try.prog 21 #[.pointer v'] w fun e w' => e = .returned (.int .i64 (a' : Int)) ∧ w = w') :
    Calls Try.prog 20 #[.pointer v, .pointer v'] w fun e w' => e = .returned (.bool (decide (a = a'))) ∧ ∃ j, w' = w.drewN j := by
  have LP := Lib.hid hp
  have LP0 : Hid (Calls Try.prog 21 #[.pointer v] w fun e w' => e = .returned (.int .i64 (a : Int)) ∧ w = w') := hp 0
  have LQ0 := Lib.hid hq
  clear hp hq
  by_cases he : a = a'
  · subst he
    obtain rfl : a = 0 := hz rfl
    go_enter Try.func20, Try.ntmps20
    go_wp2_with fail
    refine LP0.out.mono ?_
    rintro e w' ⟨rfl, rfl⟩
    go_wp2_with fail
    refine LQ0.out.mono ?_
    rintro e w' ⟨rfl, rfl⟩
    go_wp2_with fail
    go_quiet ((go_at_call 21; exact Calls.quiet_of_same ((LP.out _).mono fun e w' ⟨he, hw⟩ => ⟨he, hw.symm⟩)))
    go_wp2
    go_ret
    exact ⟨rfl, nq, rfl⟩
  · have hne : ((a : Int) != (a' : Int)) = true := by rw [bne_iff_ne]; omega
    have hd : decide (a = a') = false := decide_eq_false he
    have HD := Lib.hid hd
    clear hd he
    go_enter Try.func20, Try.ntmps20
    go_wp2_with fail
    refine LP0.out.mono ?_
    rintro e w' ⟨rfl, rfl⟩
    go_wp2_with fail
    refine LQ0.out.mono ?_
    rintro e w' ⟨rfl, rfl⟩
    go_wp2_with fail
    go_ret
    exact ⟨by rw [HD.out]; rfl, 0, rfl⟩

set_option maxHeartbeats 1000000 in
theorem same_vv (g h V U n m B B' : Nat) (A C : Option Addr) (w : World) (hv : VecB w B g V n A) (hu : VecB w B' h U m C) :
    Calls Try.prog 20 #[.pointer (some ⟨g, 0, none⟩), .pointer (some ⟨h, 0, none⟩)] w fun e w' => e = .returned (.bool (decide (n = m ∧ V = U))) ∧ ∃ j, w' = w.drewN j := by
  have hn1 := hv.2.1
  have hm1 := hu.2.1
  by_cases hz : n = m → n = 0
  · refine (same_lenB _ _ n m w hn1 hm1 hz (fun j => blen_p g V n A _ (hv.drewN j)) (blen_p h U m C w hu)).mono fun e w' ⟨he, hw⟩ => ⟨?_, hw⟩
    rw [he]
    congr 2
    rw [decide_eq_decide]
    refine ⟨fun hnm => ⟨hnm, ?_⟩, fun h => h.1⟩
    obtain rfl : n = 0 := hz hnm
    subst hnm
    have h1 := hv.1
    have h2 := hu.1
    omega
  · obtain ⟨rfl, h0⟩ : n = m ∧ n ≠ 0 := ⟨by omega, by omega⟩
    have LP : Hid (∀ j, Calls Try.prog 21 #[.pointer (some ⟨g, 0, none⟩)] (w.drewN j) fun e w' => e = .returned (.int .i64 (n : Int)) ∧ w.drewN j = w') := fun j => blen_p g V n A _ (hv.drewN j)
    have LP0 := Lib.hid (blen_p g V n A w hv)
    have LQ0 := Lib.hid (blen_p h U n C w hu)
    obtain ⟨hV, _, c, hb, ho⟩ := hv
    obtain ⟨hU, _, d, kb, ko⟩ := hu
    have hb0 : ((n : Int) == 0) = false := by simpa using h0
    obtain ⟨q, hq⟩ : ∃ q, q = (n + 63) / 64 := ⟨_, rfl⟩
    rw [← hq] at hb ho kb ko
    have s0 : w.cell? ⟨g, 0, none⟩ = some (.slice A q c) := hb.cell 0
    have s1 : w.cell? ⟨h, 0, none⟩ = some (.slice C q d) := kb.cell 0
    have r1 := Rd.ofOwn ho
    have r2 := Rd.ofOwn ko
    have hq1 : q ≤ 1000000 := by omega
    have EQ : Hid (∀ j, Calls Try.prog 32 #[.slice A q c, .slice C q d] (w.drewN j) fun e w' => e = .returned (.bool (decide (n = n ∧ V = U))) ∧ ∃ m, w' = (w.drewN j).drewN m) := fun j => by
      have := equalU A C q c q d _ _ (words V q) (words U q) (w.drewN j) (r1.drewN j) (r2.drewN j) (by omega) (by omega)
      refine this.mono fun e w' ⟨he, hw⟩ => ⟨?_, hw⟩
      rw [he]
      congr 2
      rw [decide_eq_decide]
      exact ⟨fun e' => ⟨rfl, words_inj hV hU (by omega) e'⟩, fun e' => by rw [e'.2]⟩
    generalize decide (n = n ∧ V = U) = res at *
    clear hb kb ho ko r1 r2 hV hU hz h0 hq
    go_enter Try.func20, Try.ntmps20
    go_wp2_with fail
    refine LP0.out.mono ?_
    rintro e w' ⟨rfl, rfl⟩
    go_wp2_with fail
    refine LQ0.out.mono ?_
    rintro e w' ⟨rfl, rfl⟩
    go_wp2_with fail
    go_quiet ((first
      | (go_at_call 21; exact Calls.quiet_of_same ((LP.out _).mono fun e w' ⟨he, hw⟩ => ⟨he, hw.symm⟩))
      | (go_at_call 32; exact Calls.quiet_of (EQ.out _))))
    go_wp2
    go_ret
    exact ⟨rfl, nq, rfl⟩
theorem same_nilv (h U m B : Nat) (C : Option Addr) (w : World) (hu : VecB w B h U m C) :
    Calls Try.prog 20 #[.pointer none, .pointer (some ⟨h, 0, none⟩)] w fun e w' => e = .returned (.bool (decide (0 = m))) ∧ ∃ j, w' = w.drewN j :=
  same_lenB none _ 0 m w (by omega) hu.2.1 (fun _ => rfl) (fun j => blen_nil _) (blen_p h U m C w hu)
end Go.Proofs.Ytcefohjddbjcjaa
