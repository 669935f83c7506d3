/- Words of four letters as numbers: mathematics. At of a word. Add of a word; the word of a walk. Lists of steps; the word of a walk. -/
import Derived.Test.YtoncollcefanjaaZg10
import Derived.BigQuiet
import Derived.Test.YtoncollcefanjaaZg11
namespace Go.Proofs.Ytoncollcefanjaa
set_option maxRecDepth 20000
open Go.RowKit
set_option linter.unusedVariables false
/-- The number that a word's bits are: two bits a letter. -/
def wv : List Nat → Nat
  | [] => 0
  | k :: ks => k % 4 + 4 * wv ks
theorem wv_snoc (k : Nat) : ∀ ks : List Nat, wv (ks ++ [k]) = put (wv ks) (2 * ks.length) k 2
  | [] => by simp [wv, put]
  | x :: ks => by
    show x % 4 + 4 * wv (ks ++ [k]) = _
    rw [wv_snoc k ks]
    unfold put
    show _ = (x % 4 + 4 * wv ks) + _
    rw [List.length_cons, show 2 * (ks.length + 1) = 2 * ks.length + 2 by omega, Nat.pow_add, show (2 : Nat) ^ 2 = 4 from rfl, ← Nat.mul_assoc]
    generalize k % 4 * 2 ^ (2 * ks.length) = q
    omega
theorem wv_at : ∀ (ks : List Nat) (i : Nat), i < ks.length → wv ks / 2 ^ (2 * i) % 2 + 2 * (wv ks / 2 ^ (2 * i + 1) % 2) = ks.getD i 0 % 4
  | [], i, h => absurd h (by simp)
  | x :: ks, 0, h => by
    show (x % 4 + 4 * wv ks) / 2 ^ 0 % 2 + 2 * ((x % 4 + 4 * wv ks) / 2 ^ 1 % 2) = x % 4
    rw [Nat.pow_zero, Nat.pow_one]; omega
  | x :: ks, i + 1, h => by
    have ih := wv_at ks i (by simpa using h)
    show (x % 4 + 4 * wv ks) / 2 ^ (2 * (i + 1)) % 2 + 2 * ((x % 4 + 4 * wv ks) / 2 ^ (2 * (i + 1) + 1) % 2) = ks.getD i 0 % 4
    have e : ∀ j, (x % 4 + 4 * wv ks) / 2 ^ (j + 2) = wv ks / 2 ^ j := fun j => by
      rw [Nat.pow_add, show (2 : Nat) ^ 2 = 4 from rfl, Nat.mul_comm (2 ^ j) 4, ← Nat.div_div_eq_div_mul]
      congr 1; omega
    rw [show 2 * (i + 1) = 2 * i + 2 by omega, show 2 * i + 2 + 1 = 2 * i + 1 + 2 by omega, e, e]
    exact ih
theorem wv_lo (ks : List Nat) (i : Nat) (h : i < ks.length) : wv ks / 2 ^ (2 * i) % 2 = ks.getD i 0 % 2 := by have := wv_at ks i h; omega
theorem wv_hi (ks : List Nat) (i : Nat) (h : i < ks.length) : wv ks / 2 ^ (2 * i + 1) % 2 = ks.getD i 0 / 2 % 2 := by have := wv_at ks i h; omega
end Go.Proofs.Ytoncollcefanjaa
namespace Go.Proofs.Ytoncollcefanjaa
set_option maxRecDepth 20000
open Go.RowKit
set_option linter.unusedVariables false
/-- The text of letters. -/
def signN (k : Nat) : Nat := [40, 41, 91, 93].getD k 0
def textM (ks : List Nat) : ByteArray := strOfNums (ks.map fun k => ((signN k : Nat) : Int))
theorem strOfNums_map (X : List Nat) : strOfNums (X.map fun (b : Nat) => (b : Int)) = strOfNums (X.map fun (b : Nat) => (b : Int)) := rfl
end Go.Proofs.Ytoncollcefanjaa
namespace Go.Proofs.Ytoncollcefanjaa
set_option maxRecDepth 20000
open Go.RowKit
set_option linter.unusedVariables false
def Kd (x : Int) : Prop := 0 ≤ x ∧ x < 4
instance (x : Int) : Decidable (Kd x) := by unfold Kd; exact inferInstance
def toN (z : List Int) : List Nat := z.map Int.toNat
theorem toN_len (z : List Int) : (toN z).length = z.length := by simp [toN]
theorem toN_next (z : List Int) (k : Nat) (h : k < z.length) : (toN z).take (k + 1) = (toN z).take k ++ [(z.getD k 0).toNat] := by
  rw [List.take_add_one, List.getElem?_eq_getElem (by rw [toN_len]; exact h)]
  simp [toN, List.getD_eq_getElem?_getD, h]
end Go.Proofs.Ytoncollcefanjaa
namespace Go.Proofs.Ytoncollcefanjaa
set_option maxRecDepth 20000
open Go.RowKit
set_option linter.unusedVariables false
/-- A slice of n steps, two numbers each. -/
def RdS (w : World) (B : Nat) (A : Option Addr) (n : Nat) (L : List Int) : Prop :=
  L.length = 2 * n ∧ (0 < n → ∃ b, A = some ⟨b, 0, none⟩ ∧ b < B ∧ ∀ k, k < 2 * n → w.cell? ⟨b, k, none⟩ = some (.int .i64 (L.getD k 0)))
theorem RdS.below {w w' : World} {B n : Nat} {A : Option Addr} {L : List Int} (h : RdS w B A n L) (z : Below B w w') : RdS w' B A n L :=
  ⟨h.1, fun h0 => by
    obtain ⟨b, e, hb, k⟩ := h.2 h0
    exact ⟨b, e, hb, fun i hi => (z.cell (p := ⟨b, i, none⟩) hb).trans (k i hi)⟩⟩
theorem RdS.up {w : World} {B B' n : Nat} {A : Option Addr} {L : List Int} (h : RdS w B A n L) (z : B ≤ B') : RdS w B' A n L :=
  ⟨h.1, fun h0 => by
    obtain ⟨b, e, hb, k⟩ := h.2 h0
    exact ⟨b, e, by omega, k⟩⟩
theorem RdS.own {w : World} {base : Nat} {A : Option Addr} {n c : Nat} {L : List Int} (h : w.ownsRow base 127 2 (.slice A n c) n (I64 L)) : RdS w w.heap.size A n L := by
  have hl : L.length = 2 * n := by have := h.1; rw [I64_len] at this; omega
  refine ⟨hl, fun hn => ?_⟩
  rcases h.2 with ⟨_, h0⟩ | ⟨g, cap, cur, hv, hb, hg, _⟩
  · omega
  · simp only [Value.slice.injEq, true_and] at hv
    obtain ⟨rfl, rfl⟩ := hv
    refine ⟨g, rfl, (Array.getElem?_eq_some_iff.1 hg).1, fun k hk => ?_⟩
    rw [h.cellAt k (by omega)]
    exact I64_get L k (by omega)
theorem RdS.nil (w : World) (B : Nat) (A : Option Addr) : RdS w B A 0 [] := ⟨rfl, fun h => absurd h (by omega)⟩
theorem RdS.take {w : World} {B n : Nat} {A : Option Addr} {L : List Int} (h : RdS w B A n L) (k : Nat) (hk : k ≤ n) : RdS w B A k (L.take (2 * k)) :=
  ⟨by rw [List.length_take, h.1]; omega, fun h0 => by
    obtain ⟨b, e, hb, kk⟩ := h.2 (by omega)
    refine ⟨b, e, hb, fun i hi => ?_⟩
    rw [kk i (by omega)]
    simp [List.getD_eq_getElem?_getD, hi]⟩
/-- The kinds of the first k steps, those that there aren't left out. -/
def kindsN (L : List Int) : Nat → List Nat
  | 0 => []
  | k + 1 => if Kd (L.getD (2 * k + 1) 0) then kindsN L k ++ [(L.getD (2 * k + 1) 0).toNat] else kindsN L k
theorem kindsN_len (L : List Int) : ∀ k, (kindsN L k).length ≤ k
  | 0 => by simp [kindsN]
  | k + 1 => by
    have := kindsN_len L k
    unfold kindsN
    split
    · simp; exact this
    · omega
end Go.Proofs.Ytoncollcefanjaa
