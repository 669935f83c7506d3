/- takeLast: the last one of a list of ints. spread: a part is flooded. slices.Repeat of one int. euler.Names: of each dart its part. -/
import Derived.Test.YtgcbdoljapnecaaZENames
import Derived.Test.YtgcbdoljapnecaaZg1
import Derived.Test.YtgcbdoljapnecaaZg2
import Derived.Laws.Bits64b
import Derived.Laws.CopyOwn
namespace Go.Proofs.Ytgcbdoljapnecaa
set_option maxRecDepth 20000
open Go.RowKit
set_option linter.unusedVariables false
end Go.Proofs.Ytgcbdoljapnecaa
namespace Go.Proofs.Ytgcbdoljapnecaa
set_option maxRecDepth 20000
open Go.RowKit
set_option linter.unusedVariables false
/-- l as a map. -/
def sgL (l : List Nat) : Nat → Nat := fun i => l.getD i 0
/-- In one part. -/
def part (l : List Nat) : Nat → Nat → Prop := gk (sgL l) (l.length / 2)
theorem sgL_pf {l b : List Nat} (h : Inv l b) : PF l.length (sgL l) := ⟨fun i hi => h.lt i hi, fun i j hi hj e => h.inj i j hi hj e⟩
theorem mt_mateN (i : Nat) : mateN i = mt i := by rw [mateN_eq]; rfl
theorem spr_set {w : World} {base g : Nat} {v : Value} {n : Nat} {xs : List Value} {e : TypeId} (h : w.ownsRow base e 1 v n xs) (hg : v.ownBlock ≠ some g) (k : Nat) (u : Value) : (w.setCell ⟨g, k, none⟩ u).ownsRow base e 1 v n xs :=
  own_mod h (Mod.setCell (p := ⟨g, k, none⟩) (Mod.refl (fun i => i = g) w) (fun _ => rfl) _) fun i hi e => hg (by rw [hi, e])
theorem spr_ne {w : World} {base g : Nat} {v : Value} {n : Nat} {xs : List Value} {e : TypeId} (h : w.ownsRow base e 1 v n xs) (hg : g < base) : v.ownBlock ≠ some g := fun e => by have := (h.lt g e).1; omega
/-- What stands while a part is flooded. -/
structure SSt (w : World) (B gn n c : Nat) (l : List Nat) (d : Nat) (pt : Int) (N0 : List Int) (E : Nat → Prop) (nm : List Int) (W : List Nat) (k : Nat) (Av : Option Addr) (cw : Nat) (wr : World) : Prop where
  fl : Fl l.length (l.length / 2) (sgL l) N0 d pt E nm W
  wl : W.length = k
  on : wr.ownsRow B 3 1 (.slice (some ⟨gn, 0, none⟩) n c) n (I64 nm)
  ow : wr.ownsRow w.heap.size 3 1 (.slice Av k cw) k (I64 (ofN W))
  bx : Blk wr (w.heap.size + 1) 25 #[.slice Av k cw]
  be : Below B w wr
  lt : gn < w.heap.size
section
variable {w wr : World} {B gn n c : Nat} {l : List Nat} {d : Nat} {pt : Int} {N0 : List Int} {E E' : Nat → Prop} {nm nm' : List Int} {W W1 : List Nat} {k : Nat} {Av : Option Addr} {cw : Nat}
theorem SSt.put (h : SSt w B gn n c l d pt N0 E nm W k Av cw wr) (y : Nat) : (wr.setCell ⟨gn, y, none⟩ (.int .i64 pt)).ownsRow B 3 1 (.slice (some ⟨gn, 0, none⟩) n c) n (I64 (nm.set y pt)) ∧
    (wr.setCell ⟨gn, y, none⟩ (.int .i64 pt)).ownsRow w.heap.size 3 1 (.slice Av k cw) k (I64 (ofN W)) ∧ Blk (wr.setCell ⟨gn, y, none⟩ (.int .i64 pt)) (w.heap.size + 1) 25 #[.slice Av k cw] ∧ Below B w (wr.setCell ⟨gn, y, none⟩ (.int .i64 pt)) := by
  refine ⟨own_setI h.on y pt, spr_set h.ow (spr_ne h.ow h.lt) _ _, ?_, h.be.setCell (own_block h.on).1 _⟩
  have hlt := h.lt
  exact h.bx.mod (Mod.setCell (p := ⟨gn, y, none⟩) (Mod.refl (fun i => i = gn) wr) (fun _ => rfl) _) (by omega)
/-- One more waits. -/
theorem SSt.push {v1 v2 : World} {y c' : Nat} {A' : Option Addr} (hB : B ≤ w.heap.size) (hlt : gn < w.heap.size) (hs : w.heap.size ≤ v1.heap.size) (h1 : v1.ownsRow B 3 1 (.slice (some ⟨gn, 0, none⟩) n c) n (I64 nm)) (h2 : v1.ownsRow w.heap.size 3 1 (.slice Av k cw) k (I64 (ofN W)))
    (h3 : Blk v1 (w.heap.size + 1) 25 #[.slice Av k cw]) (h4 : Below B w v1) (hk : W.length = k) (o : Obj)
    (ho : v2.ownsRow w.heap.size 3 1 (.slice A' (k + 1) c') (k + 1) (I64 (ofN W) ++ I64 [(y : Int)])) (hg : (v1.alloc o).grownBy v2 (Value.slice Av k cw).ownBlock)
    (f : Fl l.length (l.length / 2) (sgL l) N0 d pt E nm (W ++ [y])) : SSt w B gn n c l d pt N0 E nm (W ++ [y]) (k + 1) A' c' (v2.setCell ⟨w.heap.size + 1, 0, none⟩ (.slice A' (k + 1) c')) := by
  have m := Mod.ofGrown hg
  have hne : (Value.slice Av k cw).ownBlock ≠ some gn := spr_ne h2 hlt
  have hnb : (Value.slice Av k cw).ownBlock ≠ some (w.heap.size + 1) := own_ne h2 h3 (by decide)
  have b2 : Blk v2 (w.heap.size + 1) 25 #[.slice Av k cw] := (h3.alloc o).mod m fun e => hnb e.symm
  have n2 := own_mod (h1.alloc o) m fun i hi e => by
    have : i = gn := by simpa [Value.ownBlock] using hi.symm
    exact hne (by rw [← e, this])
  have e2 : I64 (ofN W) ++ I64 [(y : Int)] = I64 (ofN (W ++ [y])) := by rw [ofN_append, I64_append]; rfl
  rw [e2] at ho
  refine ⟨f, by simp [hk], spr_set n2 (by simp [Value.ownBlock]; omega) _ _, spr_set ho (own_ne ho b2 (by decide)) _ _, ?_, ?_, hlt⟩
  · have := b2.set_ 0 (.slice A' (k + 1) c')
    simpa using this
  · exact ((h4.alloc (Nat.le_trans hB hs) o).trans (Below.appended (h2.alloc o) hg (by simp; omega) |>.mono hB)).setCell (by show B ≤ w.heap.size + 1; omega) _
/-- One less. -/
theorem SSt.pop {a g2 : Nat} (hB : B ≤ w.heap.size) (h : SSt w B gn n c l d pt N0 (fun _ => False) nm (W ++ [a]) (k + 1) (some ⟨g2, 0, none⟩) cw wr) :
    SSt w B gn n c l d pt N0 (fun x => x = a) nm W k (some ⟨g2, 0, none⟩) cw (wr.setCell ⟨w.heap.size + 1, 0, none⟩ (.slice (some ⟨g2, 0, none⟩) k cw)) ∧ a < l.length ∧ part l d a := by
  obtain ⟨f1, f2, f3⟩ := h.fl.pop
  have hk : W.length = k := by have := h.wl; simp at this; omega
  have hlt := h.lt
  refine ⟨⟨f1, hk, spr_set h.on (by simp [Value.ownBlock]; omega) _ _, ?_, ?_, h.be.setCell (by show B ≤ w.heap.size + 1; omega) _, hlt⟩, f2, f3⟩
  · refine spr_set ?_ (by simpa [Value.ownBlock] using own_ne h.ow h.bx (by decide)) _ _
    have := h.ow
    rw [ofN_append, I64_append] at this
    exact ownsRow_pop (last := I64 (ofN [a])) (by rw [I64_len, ofN_len, hk]; omega) this
  · have := h.bx.set_ 0 (.slice (some ⟨g2, 0, none⟩) k cw)
    simpa using this
theorem SSt.below {w' : World} (hB : B ≤ w.heap.size) (h : SSt w B gn n c l d pt N0 E nm W k Av cw wr) (m : Below wr.heap.size wr w') : SSt w B gn n c l d pt N0 E nm W k Av cw w' :=
  ⟨h.fl, h.wl, own_below h.on m, own_below h.ow m, h.bx.below m, h.be.trans (m.mono (Nat.le_trans hB h.be.size)), h.lt⟩
end
end Go.Proofs.Ytgcbdoljapnecaa
namespace Go.Proofs.Ytgcbdoljapnecaa
set_option maxRecDepth 20000
open Go.RowKit
set_option linter.unusedVariables false
end Go.Proofs.Ytgcbdoljapnecaa
namespace Go.Proofs.Ytgcbdoljapnecaa
set_option maxRecDepth 20000
open Go.RowKit
set_option linter.unusedVariables false
theorem part_eqv {l b : List Nat} (h : Inv l b) (he : l.length % 2 = 0) : Eqv l.length (part l) := gk_eqv (sgL_pf h) (by omega) _ (Nat.le_refl _)
end Go.Proofs.Ytgcbdoljapnecaa
