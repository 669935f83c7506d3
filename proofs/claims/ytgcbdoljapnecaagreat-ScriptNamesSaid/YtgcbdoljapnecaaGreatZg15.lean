/- Plain mathematics of bits in a row: n bits are a number V < 2^n, and word i is wd V i; no program in sight. The small calls of bits. A vector of bits as it lies in memory. append: what the old row holds behind it. Num: bits put behind. Num: the bits go over the last word's end. Num, whole; two vectors side by side; the library's Clone and Equal of words. The library's Equal of words. Bytes. The library's Clone and Equal of bytes. -/
import Derived.Test.YtgcbdoljapnecaaGreatZg1
import Derived.Test.YtgcbdoljapnecaaGreatProg
import Derived.WalkKit
import Derived.Laws.BitsAllLaws
import Derived.Deep.AppendLies
import Derived.BigRegion
import Derived.Deep.DeepMust
import Derived.Deep.RegionLaw
import Derived.Laws.BytesArg
import Derived.ArgAppend
import Derived.RegionTactic
import Derived.Deep.QuietTactic
import Derived.BigQuiet
namespace Go.Proofs.YtgcbdoljapnecaaGreat
set_option linter.unusedVariables false

/-- The word i of the bits that V is. -/
def wd (V i : Nat) : Nat := V / 2 ^ (64 * i) % 2 ^ 64
/-- V with x's lowest k bits behind its n bits. -/
def put (V n x k : Nat) : Nat := V + x % 2 ^ k * 2 ^ n
end Go.Proofs.YtgcbdoljapnecaaGreat
namespace Go.Proofs.YtgcbdoljapnecaaGreat
open Go.RowKit
set_option linter.unusedVariables false

end Go.Proofs.YtgcbdoljapnecaaGreat
namespace Go.Proofs.YtgcbdoljapnecaaGreat
open Go.RowKit
set_option linter.unusedVariables false

def U64 (z : List Nat) : List Value := z.map fun (x : Nat) => Value.int .u64 (x : Int)
theorem U64_len (z : List Nat) : (U64 z).length = z.length := by simp [U64]
theorem U64_get (z : List Nat) (k : Nat) (hk : k < z.length) : (U64 z)[k]? = some (.int .u64 ((z.getD k 0 : Nat) : Int)) := by
  simp [U64, List.getD_eq_getElem?_getD, List.getElem?_eq_getElem hk]
/-- The blocks of a vector. -/
def foot (g : Nat) (A : Option Addr) (i : Nat) : Prop := i = g ∨ ∃ b, A = some ⟨b, 0, none⟩ ∧ i = b
theorem wrap_u64 (y s : Nat) : IntKind.u64.wrap ((y : Int) * 2 ^ s) = ((y * 2 ^ s % 2 ^ 64 : Nat) : Int) := by
  simp [IntKind.wrap, IntKind.signed, IntKind.bits]
end Go.Proofs.YtgcbdoljapnecaaGreat
namespace Go.Proofs.YtgcbdoljapnecaaGreat
open Go.RowKit
set_option linter.unusedVariables false
section
variable {P : Program} (w : World)
end
end Go.Proofs.YtgcbdoljapnecaaGreat
namespace Go.Proofs.YtgcbdoljapnecaaGreat
open Go.RowKit
set_option linter.unusedVariables false

end Go.Proofs.YtgcbdoljapnecaaGreat
namespace Go.Proofs.YtgcbdoljapnecaaGreat
open Go.RowKit
set_option linter.unusedVariables false

end Go.Proofs.YtgcbdoljapnecaaGreat
namespace Go.Proofs.YtgcbdoljapnecaaGreat
open Go.RowKit
set_option linter.unusedVariables false

/-- Two vectors share no block. -/
def Sep (g : Nat) (A : Option Addr) (h : Nat) (C : Option Addr) : Prop := ∀ i, foot g A i → ¬ foot h C i
theorem Sep.symm {g h : Nat} {A C : Option Addr} (s : Sep g A h C) : Sep h C g A := fun i hi hj => s i hj hi
theorem Rd.u64 {w : World} {B n : Nat} {A : Option Addr} {z : List Nat} (h : Rd w B A n (U64 z)) (h0 : 0 < n) :
    ∃ b o, A = some ⟨b, o, none⟩ ∧ b < B ∧ ∀ k, k < n → w.cell? ⟨b, o + k, none⟩ = some (.int .u64 ((z.getD k 0 : Nat) : Int)) := by
  obtain ⟨b, o, e, hb, hc⟩ := h.at_ h0
  refine ⟨b, o, e, hb, fun k hk => ?_⟩
  have hl : z.length = n := by rw [← h.len, U64_len]
  rw [hc k (by rw [U64_len]; omega)]
  have := U64_get z k (by omega)
  rwa [List.getElem?_eq_getElem (by rw [U64_len]; omega)] at this

/-- What Clone answers: nil, or a new row. -/
def NewU64 (w : World) (z : List Nat) (e : Ending) (w' : World) : Prop :=
  ∃ A c, e = .returned (.slice A z.length c) ∧ z.length ≤ c ∧ c ≤ maxLen ∧ w'.ownsRow w.heap.size 144 1 (.slice A z.length c) z.length (U64 z) ∧ Below w.heap.size w w'
theorem NewU64.mk {w w' : World} {z : List Nat} {e : Ending} {v : Value} (he : e = .returned v) (h : w'.ownsRow w.heap.size 144 1 v z.length (U64 z)) (hb : Below w.heap.size w w') : NewU64 w z e w' := by
  obtain ⟨A, c, rfl, h1, h2⟩ := own_form h
  exact ⟨A, c, he, h1, h2, h, hb⟩
end Go.Proofs.YtgcbdoljapnecaaGreat
namespace Go.Proofs.YtgcbdoljapnecaaGreat
open Go.RowKit
set_option linter.unusedVariables false
end Go.Proofs.YtgcbdoljapnecaaGreat
namespace Go.Proofs.YtgcbdoljapnecaaGreat
open Go.RowKit
set_option linter.unusedVariables false
def U8 (l : List Nat) : List Value := l.map fun (b : Nat) => Value.int .u8 (b : Int)
theorem U8_len (l : List Nat) : (U8 l).length = l.length := by simp [U8]
theorem U8_get (l : List Nat) (j : Nat) (h : j < (U8 l).length) : (U8 l)[j] = .int .u8 ((l[j]'(by simpa [U8] using h) : Nat) : Int) := by simp [U8]
theorem Rd.u8 {w : World} {B n : Nat} {A : Option Addr} {bs : List Nat} (h : Rd w B A n (U8 bs)) (h0 : 0 < n) :
    ∃ b o, A = some ⟨b, o, none⟩ ∧ b < B ∧ ∀ k, k < n → w.cell? ⟨b, o + k, none⟩ = some (.int .u8 ((bs.getD k 0 : Nat) : Int)) := by
  obtain ⟨b, o, e, hb, hc⟩ := h.at_ h0
  refine ⟨b, o, e, hb, fun k hk => ?_⟩
  have hl : bs.length = n := by rw [← h.len, U8_len]
  rw [hc k (by rw [U8_len]; omega), U8_get]
  simp [List.getD_eq_getElem?_getD, List.getElem?_eq_getElem (show k < bs.length by omega)]
theorem wf_i64 {x : Int} (h : (Lit.int .i64 x).wf = true) : -9223372036854775808 ≤ x ∧ x ≤ 9223372036854775807 := by
  simp [Lit.wf, IntKind.min, IntKind.max, IntKind.bits, IntKind.signed] at h
  omega
end Go.Proofs.YtgcbdoljapnecaaGreat
namespace Go.Proofs.YtgcbdoljapnecaaGreat
open Go.RowKit
set_option linter.unusedVariables false
/-- An answer in new memory that reads as a list. -/
def NewU8 (w : World) (bs : List Nat) (e : Ending) (w' : World) : Prop :=
  ∃ A c, e = .returned (.slice A bs.length c) ∧ bs.length ≤ c ∧ c ≤ maxLen ∧ w'.ownsRow w.heap.size 5 1 (.slice A bs.length c) bs.length (U8 bs) ∧ Below w.heap.size w w'
theorem NewU8.mk {w w' : World} {bs : List Nat} {e : Ending} {v : Value} (he : e = .returned v) (h : w'.ownsRow w.heap.size 5 1 v bs.length (U8 bs)) (hb : Below w.heap.size w w') : NewU8 w bs e w' := by
  obtain ⟨A, c, rfl, h1, h2⟩ := own_form h
  exact ⟨A, c, he, h1, h2, h, hb⟩

end Go.Proofs.YtgcbdoljapnecaaGreat
