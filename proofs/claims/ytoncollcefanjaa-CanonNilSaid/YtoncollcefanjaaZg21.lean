/- The law CanonNil. -/
import Derived.Test.YtoncollcefanjaaZg17
import Derived.Test.YtoncollcefanjaaZg20
namespace Go.Proofs.Ytoncollcefanjaa
set_option maxRecDepth 100000
open Go.RowKit
set_option linter.unusedVariables false
set_option linter.unusedSimpArgs false
theorem nil_invC : Inv [] [] := ⟨rfl, fun i h => absurd h (by simp), fun i h => absurd h (by simp), fun i h => absurd h (by simp), fun i h => absurd h (by simp)⟩
theorem wf_u8C {x : Int} (h : (Lit.int .u8 x).wf = true) : ∃ n : Nat, x = (n : Int) ∧ n < 256 := by
  simp [Lit.wf, IntKind.min, IntKind.max, IntKind.bits, IntKind.signed] at h
  exact ⟨x.toNat, by omega, by omega⟩
theorem cshape_e (g : Nat) (l b : List Nat) (root lone : Int) (w : World) (h : MapAt w g l b root lone) (h0 : l.length = 0) :
    Calls Try.prog 28 #[.pointer (some ⟨g, 0, none⟩)] w fun e w' => e = .returned (.int .i64 0) ∧ Below w.heap.size w w' := by
  have DP := Lib.hid (darts_p g l b _ _ w h)
  rw [h0] at DP
  clear h h0
  go_enter Try.func28, Try.ntmps28
  go_wp2_with fail
  refine DP.out.mono ?_
  rintro e w1 ⟨rfl, b1⟩
  go_wp2_with fail
  go_ret
  exact ⟨rfl, b1⟩
set_option maxHeartbeats 8000000 in
theorem canonNil_walk (lo : Nat) (hlo : lo < 256) (w : World) :
    Calls Try.prog 7 #[.int .u8 (lo : Int)] w fun e w' => e = .returned (.bool true) ∧ Below w.heap.size w w' := by
  have AW := Lib.hid (awake11_p w)
  have cv : IntKind.i64.wrap (lo : Int) = (lo : Int) := by simp [IntKind.wrap, IntKind.signed, IntKind.bits]; omega
  have NW : Hid (∀ W : World, Calls Try.prog 29 #[.slice none 0 0, .int .i64 (-1), .int .i64 (lo : Int)] W (NewMap W [] [] (-1) (lo : Int))) := fun W => new_ok none 0 0 [] [] (-1) lo W (Rd.nil W _ none) nil_invC rfl (by omega) (.inl ⟨rfl, rfl⟩) (by omega) (by omega)
  have CO : CanO [] (-1) [] [] := .inl ⟨rfl, rfl, rfl, rfl⟩
  have CP : Hid (∀ (W : World) (g : Nat), MapAt W g [] [] (-1) (lo : Int) → Calls Try.prog 11 #[.pointer (some ⟨g, 0, none⟩)] W (CanonAny W [] [] [] [] (-1) (lo : Int))) := fun W g h => canon_any g [] [] (-1) lo [] [] W h nil_invC CO
  have SM : Hid (∀ (W : World) (g g' : Nat), MapAt W g [] [] (-1) (lo : Int) → MapAt W g' [] [] (-1) (lo : Int) → Calls Try.prog 24 #[.pointer (some ⟨g, 0, none⟩), .pointer (some ⟨g', 0, none⟩)] W fun e w' => e = .returned (.bool true) ∧ Below W.heap.size W w') := fun W g g' h k => by
    have := dsame_p g g' [] [] [] [] (-1) lo (-1) lo W h k
    simpa using this
  have LN : Hid (∀ (W : World) (gp : Nat), PermAt W gp [] [] → Calls Try.prog 30 #[.pointer (some ⟨gp, 0, none⟩)] W fun e w' => e = .returned (.int .i64 0) ∧ Below W.heap.size W w') := fun W gp k => (len_p gp [] [] W k).mono fun e w' ⟨h1, h2⟩ => ⟨h1, h2 ▸ Below.refl _ _⟩
  have IS : Hid (∀ (W : World) (g : Nat), MapAt W g [] [] (-1) (lo : Int) → Calls Try.prog 20 #[.pointer (some ⟨g, 0, none⟩)] W fun e w' => e = .returned (.bool true) ∧ Below W.heap.size W w') := fun W g h => by
    have := cis_p g [] [] (-1) lo [] [] W h nil_invC CO
    rw [decide_eq_true (show (-1 : Int) = reRoot [] (-1) ∧ ([] : List Nat) = cjL [] [] [] from ⟨rfl, rfl⟩)] at this
    exact this
  have SH : Hid (∀ (W : World) (g : Nat), MapAt W g [] [] (-1) (lo : Int) → Calls Try.prog 28 #[.pointer (some ⟨g, 0, none⟩)] W fun e w' => e = .returned (.int .i64 0) ∧ Below W.heap.size W w') := fun W g h => cshape_e g [] [] (-1) lo W h rfl
  have IN : Hid (∀ (W : World) (g : Nat), MapAt W g [] [] (-1) (lo : Int) → Calls Try.prog 25 #[.pointer (some ⟨g, 0, none⟩), .pointer none] W fun e w' => e = .returned (.bool false) ∧ Below W.heap.size W w') := fun W g h => ciso_nil1 g [] [] (-1) lo [] [] W h nil_invC CO
  clear CO hlo
  go_enter Try.func7, Try.ntmps7
  go_wp2_with fail
  refine AW.out.mono ?_
  rintro e w0 ⟨rfl, b0⟩
  have B0 := Lib.hid b0
  have NW1 := Lib.hid (NW.out w0)
  clear b0 AW NW
  go_wp2_with fail
  refine NW1.out.mono ?_
  rintro e w1 ⟨g, rfl, m1, z, _⟩
  have B1 := Lib.hid (B0.out.trans (z.mono B0.out.size))
  have M1 := Lib.hid m1
  have C1 := Lib.hid (CP.out w1 g m1)
  clear z m1 NW1 B0 CP
  go_wp2_with fail
  refine C1.out.mono ?_
  rintro e w2 ⟨g', gp, rfl, m2, k2, z⟩
  have B2 := Lib.hid (B1.out.trans (z.mono B1.out.size))
  have MM : Hid (∀ W, Below w2.heap.size w2 W → MapAt W g [] [] (-1) (lo : Int)) := fun W y => (M1.out.below z).below y
  have MC : Hid (MapAt w2 g' [] [] (-1) (lo : Int)) := m2
  have KK : Hid (∀ W, Below w2.heap.size w2 W → PermAt W gp [] []) := fun W y => k2.below y
  clear z m2 k2 C1 M1 B1
  go_wp2_with fail
  refine (canon_none _).mono ?_
  rintro e w' ⟨rfl, rfl⟩
  have S1 := Lib.hid (SM.out w2 g' g MC.out (MM.out w2 (Below.refl _ _)))
  clear MC SM
  go_wp2_with fail
  refine S1.out.mono ?_
  rintro e w3 ⟨rfl, z3⟩
  have Z3 := Lib.hid z3
  have L1 := Lib.hid (LN.out w3 gp (KK.out w3 z3))
  clear z3 S1 LN KK
  go_wp2_with fail
  refine L1.out.mono ?_
  rintro e w4 ⟨rfl, z⟩
  have Z4 := Lib.hid (Z3.out.trans (z.mono Z3.out.size))
  have I1 := Lib.hid (IS.out w4 g (MM.out w4 Z4.out))
  clear z L1 Z3 IS
  go_wp2_with fail
  refine I1.out.mono ?_
  rintro e w5 ⟨rfl, z⟩
  have Z5 := Lib.hid (Z4.out.trans (z.mono Z4.out.size))
  have H1 := Lib.hid (SH.out w5 g (MM.out w5 Z5.out))
  clear z I1 Z4 SH
  go_wp2_with fail
  refine H1.out.mono ?_
  rintro e w6 ⟨rfl, z⟩
  have Z6 := Lib.hid (Z5.out.trans (z.mono Z5.out.size))
  have J1 := Lib.hid (ciso_nil w6)
  clear z H1 Z5
  go_wp2_with fail
  refine J1.out.mono ?_
  rintro e w7 ⟨rfl, z⟩
  have Z7 := Lib.hid (Z6.out.trans (z.mono Z6.out.size))
  have J2 := Lib.hid (IN.out w7 g (MM.out w7 Z7.out))
  clear z J1 Z6 IN MM
  go_wp2_with fail
  refine J2.out.mono ?_
  rintro e w8 ⟨rfl, z⟩
  have Z8 := Lib.hid (Z7.out.trans (z.mono Z7.out.size))
  have J3 := Lib.hid (cis_nil w8)
  clear z J2 Z7
  go_wp2_with fail
  refine J3.out.mono ?_
  rintro e w' ⟨rfl, rfl⟩
  have J4 := Lib.hid (cshape_nil w8)
  clear J3
  go_wp2_with fail
  refine J4.out.mono ?_
  rintro e w9 ⟨rfl, z⟩
  have Z9 := Lib.hid (B2.out.trans ((Z8.out.trans (z.mono Z8.out.size)).mono B2.out.size))
  clear z J4 Z8
  go_wp2_with fail
  go_ret
  exact ⟨rfl, Z9.out⟩
end Go.Proofs.Ytoncollcefanjaa
