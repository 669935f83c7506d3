/- An index of bits as it lies in memory; what it answers without its directory. -/
import Derived.Test.YtdpejjokdncfnaaDoorBOnesG
import Derived.Laws.LoneSync
import Derived.Laws.Pointers
namespace Go.Proofs.YtdpejjokdncfnaaDoor
open Go.RowKit
set_option linter.unusedVariables false

def U32 (z : List Nat) : List Value := z.map fun (x : Nat) => Value.int .u32 (x : Int)
theorem U32_len (z : List Nat) : (U32 z).length = z.length := by simp [U32]
theorem U32_append (l m : List Nat) : U32 (l ++ m) = U32 l ++ U32 m := by simp [U32]
theorem U32_get (z : List Nat) (k : Nat) (hk : k < z.length) : (U32 z)[k]? = some (.int .u32 ((z.getD k 0 : Nat) : Int)) := by
  simp [U32, List.getD_eq_getElem?_getD, List.getElem?_eq_getElem hk]
theorem U32_one (z : List Nat) : ∀ u ∈ U32 z, u.oneCell' = true := by
  intro u hu
  simp only [U32, List.mem_map] at hu
  obtain ⟨b, _, rfl⟩ := hu
  rfl
/-- How many blocks n bits are. -/
def blk (n : Nat) : Nat := (n + 511) / 512
/-- How many ones are ahead of each of k blocks. -/
def aheadL (V k : Nat) : List Nat := (List.range k).map fun j => pop V (512 * j)
theorem aheadL_len (V k : Nat) : (aheadL V k).length = k := by simp [aheadL]
theorem aheadL_get (V k j : Nat) (h : j < k) : (aheadL V k).getD j 0 = pop V (512 * j) := by simp [aheadL, List.getD_eq_getElem?_getD, h]
theorem aheadL_next (V k : Nat) : aheadL V (k + 1) = aheadL V k ++ [pop V (512 * k)] := by simp [aheadL, List.range_succ]
def b01 (d : Bool) : Int := if d then 1 else 0
/-- Whether the directory is there, and what it is. -/
def DirAt (w : World) (g V n : Nat) (d : Bool) (H : Value) : Prop :=
  match d with
  | false => H = .slice none 0 0
  | true => ∃ S c, H = .slice S (blk n + 1) c ∧ w.ownsRow (g + 1) 61 1 (.slice S (blk n + 1) c) (blk n + 1) (U32 (aheadL V (blk n + 1)))
/-- At g lies the index of the n bits V: d: its directory is made; q: how often it was asked. -/
def IdxAt (w : World) (g V n : Nat) (d : Bool) (q : Nat) : Prop :=
  V < 2 ^ n ∧ n ≤ 1000000 ∧ ∃ A c H, Blk w g 88 #[.slice A ((n + 63) / 64) c, .int .i64 (n : Int), .int .i64 ((pop V n : Nat) : Int), .int .u32 (b01 d), .int .i32 0, .int .u32 0, H, .int .i64 (b01 d), .int .i64 (q : Int)] ∧
    w.ownsRow (g + 1) 55 1 (.slice A ((n + 63) / 64) c) ((n + 63) / 64) (U64 (words V ((n + 63) / 64))) ∧ DirAt w g V n d H
theorem DirAt.below {w w' : World} {g V n : Nat} {d : Bool} {H : Value} (h : DirAt w g V n d H) (m : Below w.heap.size w w') : DirAt w' g V n d H := by
  cases d with
  | false => exact h
  | true => obtain ⟨S, c, e, ho⟩ := h; exact ⟨S, c, e, own_below ho m⟩
theorem IdxAt.below {w w' : World} {g V n q : Nat} {d : Bool} (h : IdxAt w g V n d q) (m : Below w.heap.size w w') : IdxAt w' g V n d q := by
  obtain ⟨h1, h2, A, c, H, h3, h4, h5⟩ := h
  exact ⟨h1, h2, A, c, H, h3.below m, own_below h4 m, h5.below m⟩
theorem IdxAt.lt {w : World} {g V n q : Nat} {d : Bool} (h : IdxAt w g V n d q) : g < w.heap.size := by
  obtain ⟨_, _, A, c, H, h3, _⟩ := h
  exact h3.lt
theorem IdxAt.mod {w w' : World} {S : Nat → Prop} {g V n q : Nat} {d : Bool} (h : IdxAt w g V n d q) (m : Mod S w w') (hs : ∀ i, S i → i < g) : IdxAt w' g V n d q := by
  obtain ⟨h1, h2, A, c, H, h3, h4, h5⟩ := h
  refine ⟨h1, h2, A, c, H, h3.mod m fun hx => by have := hs g hx; omega, own_mod h4 m fun k hk hx => by have := (h4.lt k hk).1; have := hs k hx; omega, ?_⟩
  cases d with
  | false => exact h5
  | true =>
    obtain ⟨S', c', e, ho⟩ := h5
    exact ⟨S', c', e, own_mod ho m fun k hk hx => by have := (ho.lt k hk).1; have := hs k hx; omega⟩
/-! ### sync/atomic -/
theorem load64 (a : Addr) (x : Int) (w : World) (hc : w.cell? a = some (.int .i64 x)) :
    Calls Tryd.prog 38 #[.pointer (some a)] w fun e w' => e = .returned (.int .i64 x) ∧ w = w' := by
  have hl := run_call_load (P := Tryd.prog) Tryd.func58 (by kernel_rfl) (by kernel_rfl) (by kernel_rfl) .i64 (by kernel_rfl) hc
  go_enter Tryd.func38, Tryd.ntmps38
  go_wp2
  go_ret
  exact ⟨rfl, rfl⟩
theorem add64 (a : Addr) (x : Int) (w : World) (hc : w.cell? a = some (.int .i64 x)) (hz : w.frozen? a = false) (h0 : 0 ≤ x) (h1 : x ≤ 1000000000) :
    Calls Tryd.prog 51 #[.pointer (some a), .int .i64 1] w fun e w' => e = .returned (.int .i64 (x + 1)) ∧ w' = w.setCell a (.int .i64 (x + 1)) := by
  have hadd := run_call_add (P := Tryd.prog) Tryd.func67 (by kernel_rfl) (by kernel_rfl) (by kernel_rfl) .i64 (by kernel_rfl) (y := 1) (s := x + 1) hc hz (by simp [go_sem]; rw [IntKind.wrap_i64]; omega)
  go_enter Tryd.func51, Tryd.ntmps51
  go_wp2
  go_ret
  exact ⟨rfl, rfl⟩
/-! ### what the index answers without its directory -/
section
variable (g V n q : Nat) (d : Bool) (w : World)
theorem xlen_p (h : IdxAt w g V n d q) : Calls Tryd.prog 30 #[.pointer (some ⟨g, 0, none⟩)] w fun e w' => e = .returned (.int .i64 (n : Int)) ∧ w = w' := by
  obtain ⟨_, _, A, c, H, hb, _⟩ := h
  have c1 : w.cell? ⟨g, 1, none⟩ = some (.int .i64 (n : Int)) := hb.cell 1
  clear hb
  go_enter Tryd.func30, Tryd.ntmps30
  go_wp2
  go_ret
  exact ⟨rfl, rfl⟩
theorem xblocks_p (h : IdxAt w g V n d q) : Calls Tryd.prog 69 #[.pointer (some ⟨g, 0, none⟩)] w fun e w' => e = .returned (.int .i64 ((blk n : Nat) : Int)) ∧ w = w' := by
  obtain ⟨_, hn, A, c, H, hb, _⟩ := h
  obtain ⟨m, hm⟩ : ∃ m, m = (n + 63) / 64 := ⟨_, rfl⟩
  rw [← hm] at hb
  have c1 : w.cell? ⟨g, 0, none⟩ = some (.slice A m c) := hb.cell 0
  have e1 : ((m : Int) + 8 - 1) / 8 = ((blk n : Nat) : Int) := by unfold blk; omega
  have hm9 : m ≤ 1000000 := by omega
  clear hb hm
  generalize blk n = r at *
  have E1 := Lib.hid e1
  clear e1
  go_enter Tryd.func69, Tryd.ntmps69
  go_wp2
  go_ret
  exact ⟨congrArg (fun z => Ending.returned (.int .i64 z)) E1.out, rfl⟩
end
end Go.Proofs.YtdpejjokdncfnaaDoor
