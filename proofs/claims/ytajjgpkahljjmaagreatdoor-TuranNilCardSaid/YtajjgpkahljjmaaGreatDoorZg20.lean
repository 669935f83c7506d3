/- Lists of steps; the word of a walk. The document's examples of layer 9. The document's walk. Right: steps that are the walk. made: a map of numbers, and the document's (layer 9). -/
import Derived.Test.YtajjgpkahljjmaaGreatDoorZg12
import Derived.Test.YtajjgpkahljjmaaGreatDoorZg19
import Derived.BigQuiet
import Derived.Test.YtajjgpkahljjmaaGreatDoorZg3
namespace Go.Proofs.YtajjgpkahljjmaaGreatDoor
set_option maxRecDepth 20000
open Go.RowKit
set_option linter.unusedVariables false
/-- A slice of n steps, two numbers each. -/
def RdS (w : World) (B : Nat) (A : Option Addr) (n : Nat) (L : List Int) : Prop :=
  L.length = 2 * n ∧ (0 < n → ∃ b, A = some ⟨b, 0, none⟩ ∧ b < B ∧ ∀ k, k < 2 * n → w.cell? ⟨b, k, none⟩ = some (.int .i64 (L.getD k 0)))
theorem RdS.below {w w' : World} {B n : Nat} {A : Option Addr} {L : List Int} (h : RdS w B A n L) (z : Below B w w') : RdS w' B A n L :=
  ⟨h.1, fun h0 => by
    obtain ⟨b, e, hb, k⟩ := h.2 h0
    exact ⟨b, e, hb, fun i hi => (z.cell (p := ⟨b, i, none⟩) hb).trans (k i hi)⟩⟩
theorem RdS.up {w : World} {B B' n : Nat} {A : Option Addr} {L : List Int} (h : RdS w B A n L) (z : B ≤ B') : RdS w B' A n L :=
  ⟨h.1, fun h0 => by
    obtain ⟨b, e, hb, k⟩ := h.2 h0
    exact ⟨b, e, by omega, k⟩⟩
theorem RdS.own {w : World} {base : Nat} {A : Option Addr} {n c : Nat} {L : List Int} (h : w.ownsRow base 123 2 (.slice A n c) n (I64 L)) : RdS w w.heap.size A n L := by
  have hl : L.length = 2 * n := by have := h.1; rw [I64_len] at this; omega
  refine ⟨hl, fun hn => ?_⟩
  rcases h.2 with ⟨_, h0⟩ | ⟨g, cap, cur, hv, hb, hg, _⟩
  · omega
  · simp only [Value.slice.injEq, true_and] at hv
    obtain ⟨rfl, rfl⟩ := hv
    refine ⟨g, rfl, (Array.getElem?_eq_some_iff.1 hg).1, fun k hk => ?_⟩
    rw [h.cellAt k (by omega)]
    exact I64_get L k (by omega)
theorem RdS.nil (w : World) (B : Nat) (A : Option Addr) : RdS w B A 0 [] := ⟨rfl, fun h => absurd h (by omega)⟩
theorem RdS.take {w : World} {B n : Nat} {A : Option Addr} {L : List Int} (h : RdS w B A n L) (k : Nat) (hk : k ≤ n) : RdS w B A k (L.take (2 * k)) :=
  ⟨by rw [List.length_take, h.1]; omega, fun h0 => by
    obtain ⟨b, e, hb, kk⟩ := h.2 (by omega)
    refine ⟨b, e, hb, fun i hi => ?_⟩
    rw [kk i (by omega)]
    simp [List.getD_eq_getElem?_getD, hi]⟩
/-- The kinds of the first k steps, those that there aren't left out. -/
def kindsN (L : List Int) : Nat → List Nat
  | 0 => []
  | k + 1 => if Kd (L.getD (2 * k + 1) 0) then kindsN L k ++ [(L.getD (2 * k + 1) 0).toNat] else kindsN L k
theorem kindsN_len (L : List Int) : ∀ k, (kindsN L k).length ≤ k
  | 0 => by simp [kindsN]
  | k + 1 => by
    have := kindsN_len L k
    unfold kindsN
    split
    · simp; exact this
    · omega
set_option maxHeartbeats 4000000 in
theorem wword_p (A : Option Addr) (n c B : Nat) (L : List Int) (w : World) (h : RdS w B A n L) (hB : B ≤ w.heap.size) (hn : n ≤ 300000) :
    Calls Tryz.prog 56 #[.slice A n c] w fun e w' => ∃ g, e = .returned (.pointer (some ⟨g, 0, none⟩)) ∧ WordAt w' w.heap.size g (kindsN L n) ∧ Below w.heap.size w w' := by
  have NP := Lib.hid (mnew_p w)
  have HZ := Lib.hid (h.up hB)
  have AP : Hid (∀ (g : Nat) (ks : List Nat) (b : Nat) (x : Int) (W : World), WordAt W w.heap.size g ks → ks.length ≤ 300000 → Blk W b 3 #[.int .i64 x] → Calls Tryz.prog 70 #[.pointer (some ⟨g, 0, none⟩), .slice (some ⟨b, 0, none⟩) 1 1] W fun e w' => (∃ q, e = .returned (.int .i64 q)) ∧ WordAt w' w.heap.size g (if Kd x then ks ++ [x.toNat] else ks) ∧ Below w.heap.size W w') := fun g ks b x W hw hk hb => by
    have hib : ∀ i, inBlk (some ⟨b, 0, none⟩) i → i = b := fun i ⟨a, e, h⟩ => by cases e; exact h.symm
    have P := madd_p w.heap.size g ks (some ⟨b, 0, none⟩) 1 1 [x] W (hw.sep fun i hi => by rw [hib i hi]; exact ⟨_, hb⟩) ⟨rfl, fun _ => ⟨b, 0, rfl, hb.lt, fun j hj => by
      have : j = 0 := by simp [I64] at hj; omega
      subst this
      exact hb.cell 0⟩⟩ (fun i hi => by rw [hib i hi]; exact hb.lt) (by omega)
    have e1 : (∀ y ∈ [x], Kd y) ↔ Kd x := by simp
    have e2 : toN [x] = [x.toNat] := rfl
    by_cases hx : Kd x
    · rw [if_pos (e1.2 hx), if_pos (e1.2 hx), e2] at P
      rw [if_pos hx]
      exact P.mono fun e w' ⟨h1, h2⟩ => ⟨⟨_, h1⟩, h2⟩
    · rw [if_neg (fun h => hx (e1.1 h)), if_neg (fun h => hx (e1.1 h))] at P
      rw [if_neg hx]
      exact P.mono fun e w' ⟨h1, h2⟩ => ⟨⟨_, h1⟩, h2⟩
  go_enter Tryz.func56, Tryz.ntmps56
  go_wp2_with fail
  refine NP.out.mono ?_
  rintro e w1 ⟨g, rfl, hw1, z1⟩
  have HW1 := Lib.hid hw1
  have Z1 := Lib.hid z1
  clear hw1 z1 NP
  go_wp2_with fail
  go_loopw [9] (fun i wr => ∃ k : Nat, k ≤ n ∧ i = .int .i64 k ∧ Hid (WordAt wr w.heap.size g (kindsN L k)) ∧ Hid (Below w.heap.size w wr)) (fun i _ => n - (intOf i).toNat)
  case atStart => exact ⟨0, by omega, rfl, HW1.out, Z1.out⟩
  case round =>
    obtain ⟨k, hk, rfl, HS, HB⟩ := hrel
    by_cases hlt : k < n
    · obtain ⟨b, rfl, hbB, kk⟩ := (HZ.out.below HB.out).2 (by omega)
      have x0 := kk (2 * k) (by omega)
      have x1 := kk (2 * k + 1) (by omega)
      obtain ⟨y, hy⟩ : ∃ y, y = L.getD (2 * k + 1) 0 := ⟨_, rfl⟩
      obtain ⟨d, hd⟩ : ∃ d, d = L.getD (2 * k) 0 := ⟨_, rfl⟩
      have HN : Hid (kindsN L (k + 1) = if Kd y then kindsN L k ++ [y.toNat] else kindsN L k) := by show _ = _; rw [hy]; rfl
      rw [← hy] at x1
      rw [← hd] at x0
      rw [show 2 * k = k * 2 by omega] at x0 x1
      clear kk hy hd
      have hs1 : (wr.alloc (.cells #[.int .i64 d, .int .i64 y] 123)).heap.size = wr.heap.size + 1 := by simp
      have ZA := (Below.refl wr.heap.size wr).alloc (Nat.le_refl _) (.cells #[.int .i64 d, .int .i64 y] 123)
      have ZB := ZA.alloc ZA.size (.cells #[.int .i64 y] 3)
      have BL := Blk.new (wr.alloc (.cells #[.int .i64 d, .int .i64 y] 123)) 3 #[.int .i64 y]
      rw [hs1] at BL
      have A1 := Lib.hid (AP.out g _ _ y _ (HS.out.below ZB) (Nat.le_trans (kindsN_len L k) (by omega)) BL)
      have HB1 := Lib.hid (HB.out.trans (ZB.mono HB.out.size))
      rw [← HN.out] at A1
      clear ZA ZB BL HS hs1 HN
      go_wp2_with fail
      refine A1.out.mono ?_
      rintro e w2 ⟨⟨q, rfl⟩, hw2, z2⟩
      have HW2 := Lib.hid hw2
      have HB2 := Lib.hid (HB1.out.trans z2)
      clear hw2 z2 A1 HB HB1 x0 x1
      go_wp2_with fail
      go_roundw
      case rel => exact ⟨k + 1, by omega, by go_num, HW2.out, HB2.out⟩
      case measure => simp [intOf]; omega
    · obtain rfl : k = n := by omega
      go_wp2_with fail
      go_ret
      exact ⟨g, rfl, HS.out, HB.out⟩
end Go.Proofs.YtajjgpkahljjmaaGreatDoor
namespace Go.Proofs.YtajjgpkahljjmaaGreatDoor
set_option maxRecDepth 20000
open Go.RowKit
set_option linter.unusedVariables false
end Go.Proofs.YtajjgpkahljjmaaGreatDoor
namespace Go.Proofs.YtajjgpkahljjmaaGreatDoor
set_option maxRecDepth 20000
open Go.RowKit Go.Maps
set_option linter.unusedVariables false
end Go.Proofs.YtajjgpkahljjmaaGreatDoor
namespace Go.Proofs.YtajjgpkahljjmaaGreatDoor
set_option maxRecDepth 20000
open Go.RowKit
set_option linter.unusedVariables false
end Go.Proofs.YtajjgpkahljjmaaGreatDoor
namespace Go.Proofs.YtajjgpkahljjmaaGreatDoor
set_option maxRecDepth 20000
open Go.RowKit
set_option linter.unusedVariables false
end Go.Proofs.YtajjgpkahljjmaaGreatDoor
