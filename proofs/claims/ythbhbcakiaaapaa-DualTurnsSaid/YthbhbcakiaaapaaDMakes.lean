/- DartMakes: of any list, root and count there is a map, or it is refused. -/
import Derived.Test.YthbhbcakiaaapaaDErr
import Derived.Test.YthbhbcakiaaapaaPRef2
import Derived.Test.YthbhbcakiaaapaaDRow
namespace Go.Proofs.Ythbhbcakiaaapaa
set_option maxRecDepth 20000
open Go.RowKit
set_option linter.unusedVariables false

theorem mlist_p (g : Nat) (l b : List Nat) (root lone : Int) (w : World) (h : MapAt w g l b root lone) :
    Calls Try.prog 42 #[.pointer (some ⟨g, 0, none⟩)] w (NewI64 w (ofN l)) := by
  have VS := Lib.hid (verts_p g l b root lone w h)
  have F0 := fld0
  clear h
  go_enter Try.func42, Try.ntmps42
  go_wp2_with fail
  refine VS.out.mono ?_
  rintro e w1 ⟨p, A, c, S, d, rfl, hp, r1, r2, b1⟩
  have LS := Lib.hid (list_p p l b w1 hp)
  clear hp r1 r2
  go_wp2_with fail
  refine LS.out.mono ?_
  rintro e w2 ⟨A2, c2, rfl, hc2, hm2, hown, b2⟩
  go_wp2_with fail
  go_ret
  exact ⟨A2, c2, rfl, hc2, hm2, hown.base_le' b1.size, b1.trans (b2.mono b1.size)⟩
theorem good_ofN {z : List Int} (h : Good z) : ∃ l b : List Nat, z = ofN l ∧ Inv l b := by
  have e : z = ofN (z.map Int.toNat) := by
    refine getDI_ext (by simp [ofN]) fun i hi => ?_
    have h1 := (h i hi).1
    rw [ofN_get]
    have : (z.map Int.toNat).getD i 0 = (z.getD i 0).toNat := by
      simp [List.getD_eq_getElem?_getD, List.getElem?_eq_getElem hi]
    rw [this]; omega
  rw [e] at h
  obtain ⟨b, hb⟩ := good_inv h
  exact ⟨_, b, e, hb⟩
/-- What New answers. -/
def NewRes (w : World) (z : List Int) (root lone E : Int) (e : Ending) (w' : World) : Prop :=
  ∃ vp, e = .returned (.tuple #[.pointer vp, .int .i64 E]) ∧ Below w.heap.size w w' ∧ (E ≠ 0 → vp = none) ∧
    (E = 0 → ∃ g l b, vp = some ⟨g, 0, none⟩ ∧ z = ofN l ∧ MapAt w' g l b root lone ∧ MapLo w.heap.size w' g)
theorem new_p (A : Option Addr) (n c : Nat) (z : List Int) (root lone E : Int) (w : World) (h : Rd w w.heap.size A n (I64 z)) (hn : n ≤ 131072) (hE : ErrIs z root lone n E) :
    Calls Try.prog 43 #[.slice A n c, .int .i64 root, .int .i64 lone] w (NewRes w z root lone E) := by
  by_cases h0 : E = 0
  · obtain ⟨hg, he, h4, h5, h6⟩ : Good z ∧ n % 2 = 0 ∧ 0 ≤ lone ∧ RootOk root n ∧ lone ≤ 65536 := by
      rcases hE with ⟨h, _⟩ | ⟨h, _⟩ | ⟨h, _⟩ | ⟨_, h⟩
      · omega
      · omega
      · omega
      · exact h
    obtain ⟨l, b, rfl, hi⟩ := good_ofN hg
    subst h0
    exact (new_ok A n c l b root lone w h hi he hn h5 h4 h6).mono fun e w' ⟨g, he, hm, hb, hlo⟩ => ⟨_, he, hb, fun h => absurd rfl h, fun _ => ⟨g, l, b, rfl, rfl, hm, hlo⟩⟩
  · exact (new_no A n c z root lone E w h hn hE h0).mono fun e w' ⟨he, hb⟩ => ⟨none, he, hb, fun _ => rfl, fun h => absurd h h0⟩
end Go.Proofs.Ythbhbcakiaaapaa
