/- of: a map of numbers as a map (layer 11). The canonical map of a canonical map, and of a map with another root: mathematics. By other names a map of one part has the same canonical map: mathematics. The law CanonNil. -/
import Derived.Test.YtoncollcefanjaaZg17
import Derived.Test.YtoncollcefanjaaZg20
import Derived.Test.YtoncollcefanjaaZDPhi
import Derived.Test.YtoncollcefanjaaZg19
import Derived.Test.YtoncollcefanjaaZg5
namespace Go.Proofs.Ytoncollcefanjaa
set_option maxRecDepth 100000
open Go.RowKit
set_option linter.unusedVariables false
set_option linter.unusedSimpArgs false
set_option maxHeartbeats 2000000 in
theorem of11_p (A : Option Addr) (c : Nat) (l b : List Nat) (root lone : Int) (w : World) (h : Rd w w.heap.size A l.length (I64 (ofN l))) (hinv : Inv l b) (he : l.length % 2 = 0) (hn : l.length ≤ 1000) (hr : RootOk root l.length) (h0 : 0 ≤ lone) (h1 : lone ≤ 65536) :
    Calls Try.prog 12 #[.agg #[.slice A l.length c, .int .i64 root, .int .i64 lone]] w fun e w' => ∃ g, e = .returned (.pointer (some ⟨g, 0, none⟩)) ∧ MapAt w' g l b root lone ∧ Below w.heap.size w w' := by
  have hb0 := (Below.refl w.heap.size w).alloc (Nat.le_refl _) (.cells #[.slice A l.length c, .int .i64 root, .int .i64 lone] 26)
  have HX := Lib.hid (Blk.new w 26 #[.slice A l.length c, .int .i64 root, .int .i64 lone])
  have NO := Lib.hid (new_ok A l.length c l b root lone _ (h.more hb0) hinv he (by omega) hr h0 h1)
  have B0 := Lib.hid hb0
  have x0 := HX.out.cell 0
  have x1 := HX.out.cell 1
  have x2 := HX.out.cell 2
  simp at x0 x1 x2
  clear h hinv he hr hb0
  go_enter Try.func12, Try.ntmps12
  go_wp2_with fail
  refine NO.out.mono ?_
  rintro e w2 ⟨g, rfl, hm, b2, _⟩
  have HM := Lib.hid hm
  have B2 : Hid (Below w.heap.size w w2) := B0.out.trans (b2.mono (by simp))
  clear hm b2 NO B0
  go_wp2_with fail
  go_ret
  exact ⟨g, rfl, HM.out, B2.out⟩
end Go.Proofs.Ytoncollcefanjaa
namespace Go.Proofs.Ytoncollcefanjaa
set_option maxRecDepth 20000
open Go.RowKit
set_option linter.unusedVariables false
set_option linter.unusedSimpArgs false
theorem canO_again {l b : List Nat} {root : Int} {P Q P' Q' : List Nat} (hl : Inv l b) (h : CanO l root P Q) (h' : CanO (cjL P Q l) (reRoot P root) P' Q') :
    P' = List.range l.length ∧ cjL P' Q' (cjL P Q l) = cjL P Q l ∧ reRoot P' (reRoot P root) = reRoot P root := by
  rcases h with ⟨h0, rfl, rfl, rfl⟩ | ⟨r, rfl, hr, h⟩
  · have hl0 : l = [] := List.eq_nil_of_length_eq_zero h0
    subst hl0
    rcases h' with ⟨_, _, rfl, rfl⟩ | ⟨r, h1, _⟩
    · exact ⟨rfl, rfl, rfl⟩
    · exact absurd h1 (by show ¬ ((-1 : Int) = (r : Int)); omega)
  · rw [reRoot_nat] at h' ⊢
    rcases h' with ⟨h0, _⟩ | ⟨r', h1, hr', h'⟩
    · rw [cjL_len] at h0; omega
    · obtain rfl : sgL P r = r' := by omega
      have e := h.again h' hl hr
      refine ⟨e, h.own h' hl hr, ?_⟩
      rw [reRoot_nat, e]
      have := h.nam.lt hr
      simp [sgL, List.getD_eq_getElem?_getD] at this ⊢
      simp [this]
theorem canA_same {l b : List Nat} {r : Nat} {P Q P' Q' : List Nat} (h : CanA l r P Q) (h' : CanA l r P' Q') : P = P' ∧ Q = Q' := by
  have e : P = P' := ofN_injC (by rw [← h.is, ← h'.is])
  subst e
  exact ⟨rfl, Inv.unique h.nam.inv h'.nam.inv⟩
theorem turns_one {l b : List Nat} (hl : Inv l b) (he : l.length % 2 = 0) {r k : Nat} (hr : r < l.length) (hk : k < l.length) (h1 : num (TurnsTo l r) l.length = 1) (t : TurnsTo l r k) : k = r := by
  by_cases c : k = r
  · exact c
  · exfalso
    have e := num_mem (n := l.length) (Q := [r, k]) (by simp; omega) (by intro x hx; simp at hx; omega)
    have tr := (turns_eqv hl he).refl r hr
    have := num_inj (A := fun x => x ∈ [r, k]) (B := TurnsTo l r) (n := l.length) id (fun x hx hm => ⟨hx, by
      simp only [List.mem_cons, List.not_mem_nil, or_false] at hm
      rcases hm with rfl | rfl
      · exact tr
      · exact t⟩) (fun _ _ _ _ _ _ e => e)
    rw [e, h1] at this
    simp at this
/-- With another root, of a part that has one turn alone, it is another one. -/
theorem roots_iso {l b : List Nat} (hl : Inv l b) (he : l.length % 2 = 0) {r k : Nat} (hr : r < l.length) (hk : k < l.length) (hp : ∀ i j, i < l.length → j < l.length → part l i j) (h1 : num (TurnsTo l r) l.length = 1)
    {P Q P' Q' : List Nat} (h : CanO l (k : Int) P Q) (h' : CanO l (r : Int) P' Q') :
    (reRoot P (k : Int) = reRoot P' (r : Int) ∧ (0 : Int) = 0 ∧ cjL P Q l = cjL P' Q' l) ↔ k = r := by
  rcases h with ⟨h0, _⟩ | ⟨k2, e2, _, h⟩
  · omega
  obtain rfl : k2 = k := by omega
  rcases h' with ⟨h0, _⟩ | ⟨r2, e3, _, h'⟩
  · omega
  obtain rfl : r2 = r := by omega
  constructor
  · rintro ⟨_, _, e⟩
    obtain ⟨p, q, t⟩ := (CanN.iff (h'.one hl hr fun j hj => hp _ _ hr hj) (h.one hl hk fun j hj => hp _ _ hk hj) hl hl hr hk).1 e
    exact turns_one hl he hr hk h1 ⟨p, q, t⟩
  · rintro rfl
    obtain ⟨rfl, rfl⟩ := canA_same (b := b) h h'
    exact ⟨rfl, rfl, rfl⟩
end Go.Proofs.Ytoncollcefanjaa
namespace Go.Proofs.Ytoncollcefanjaa
set_option maxRecDepth 20000
open Go.RowKit
set_option linter.unusedVariables false
set_option linter.unusedSimpArgs false
theorem one_of_pN' {l b : List Nat} (hi : Inv l b) (he : l.length % 2 = 0) (h1 : ¬ 1 < pN l) {i j : Nat} (hii : i < l.length) (hj : j < l.length) : part l i j := by
  have eq := part_eqv hi he
  have lt : ∀ d, d < l.length → prt (part l) d = 0 := fun d hd => by
    have h2 := (rep_is eq hd).1
    have := prt_lt eq hd (d := l.length) (by omega)
    unfold pN at h1
    omega
  exact (prt_iff eq hii hj).1 (by rw [lt i hii, lt j hj])
theorem once_all {l b L q P Q P2 Q2 : List Nat} {root : Int} (hl : Inv l b) (h : CanO l root P Q) (hN : Nam l.length L q) (h2 : CanO (cjL L q l) (reRoot L root) P2 Q2) (h1 : ¬ 1 < pN l) :
    (∀ d, d < l.length → P2.getD (L.getD d 0) 0 = P.getD d 0) ∧ reRoot P root = reRoot P2 (reRoot L root) ∧ cjL P Q l = cjL P2 Q2 (cjL L q l) := by
  have he := hN.ev
  rcases h with ⟨h0, rfl, rfl, rfl⟩ | ⟨r, rfl, hr, h⟩
  · have hl0 : l = [] := List.eq_nil_of_length_eq_zero h0
    subst hl0
    refine ⟨fun d hd => absurd hd (by simp), rfl, ?_⟩
    rfl
  · rw [reRoot_nat] at h2 ⊢
    rcases h2 with ⟨h0, _⟩ | ⟨r', e, hr', h2⟩
    · rw [cjL_len] at h0; omega
    · obtain rfl : sgL L r = r' := by omega
      have hp : ∀ i j, i < l.length → j < l.length → part l i j := fun i j hi hj => one_of_pN' hl he h1 hi hj
      have hc := cj_inv hN hl
      have hp2 : ∀ j, j < (cjL L q l).length → part (cjL L q l) (sgL L r) j := fun j hj => by
        rw [cjL_len] at hj
        have := (cj_part hN hl hr (hN.lt' hj)).2 (hp _ _ hr (hN.lt' hj))
        rwa [hN.pq hj] at this
      obtain ⟨k1, k2⟩ := (h.one hl hr fun j hj => hp _ _ hr hj).turn (h2.one hc hr' hp2) hl hr ⟨hN, rfl, rfl⟩
      refine ⟨k1, ?_, k2.symm⟩
      rw [reRoot_nat, reRoot_nat]
      have := k1 r hr
      rw [this]
end Go.Proofs.Ytoncollcefanjaa
namespace Go.Proofs.Ytoncollcefanjaa
set_option maxRecDepth 100000
open Go.RowKit
set_option linter.unusedVariables false
set_option linter.unusedSimpArgs false
theorem nil_invC : Inv [] [] := ⟨rfl, fun i h => absurd h (by simp), fun i h => absurd h (by simp), fun i h => absurd h (by simp), fun i h => absurd h (by simp)⟩
theorem wf_u8C {x : Int} (h : (Lit.int .u8 x).wf = true) : ∃ n : Nat, x = (n : Int) ∧ n < 256 := by
  simp [Lit.wf, IntKind.min, IntKind.max, IntKind.bits, IntKind.signed] at h
  exact ⟨x.toNat, by omega, by omega⟩
theorem cshape_e (g : Nat) (l b : List Nat) (root lone : Int) (w : World) (h : MapAt w g l b root lone) (h0 : l.length = 0) :
    Calls Try.prog 28 #[.pointer (some ⟨g, 0, none⟩)] w fun e w' => e = .returned (.int .i64 0) ∧ Below w.heap.size w w' := by
  have DP := Lib.hid (darts_p g l b _ _ w h)
  rw [h0] at DP
  clear h h0
  go_enter Try.func28, Try.ntmps28
  go_wp2_with fail
  refine DP.out.mono ?_
  rintro e w1 ⟨rfl, b1⟩
  go_wp2_with fail
  go_ret
  exact ⟨rfl, b1⟩
set_option maxHeartbeats 8000000 in
theorem canonNil_walk (lo : Nat) (hlo : lo < 256) (w : World) :
    Calls Try.prog 7 #[.int .u8 (lo : Int)] w fun e w' => e = .returned (.bool true) ∧ Below w.heap.size w w' := by
  have AW := Lib.hid (awake11_p w)
  have cv : IntKind.i64.wrap (lo : Int) = (lo : Int) := by simp [IntKind.wrap, IntKind.signed, IntKind.bits]; omega
  have NW : Hid (∀ W : World, Calls Try.prog 29 #[.slice none 0 0, .int .i64 (-1), .int .i64 (lo : Int)] W (NewMap W [] [] (-1) (lo : Int))) := fun W => new_ok none 0 0 [] [] (-1) lo W (Rd.nil W _ none) nil_invC rfl (by omega) (.inl ⟨rfl, rfl⟩) (by omega) (by omega)
  have CO : CanO [] (-1) [] [] := .inl ⟨rfl, rfl, rfl, rfl⟩
  have CP : Hid (∀ (W : World) (g : Nat), MapAt W g [] [] (-1) (lo : Int) → Calls Try.prog 11 #[.pointer (some ⟨g, 0, none⟩)] W (CanonAny W [] [] [] [] (-1) (lo : Int))) := fun W g h => canon_any g [] [] (-1) lo [] [] W h nil_invC CO
  have SM : Hid (∀ (W : World) (g g' : Nat), MapAt W g [] [] (-1) (lo : Int) → MapAt W g' [] [] (-1) (lo : Int) → Calls Try.prog 24 #[.pointer (some ⟨g, 0, none⟩), .pointer (some ⟨g', 0, none⟩)] W fun e w' => e = .returned (.bool true) ∧ Below W.heap.size W w') := fun W g g' h k => by
    have := dsame_p g g' [] [] [] [] (-1) lo (-1) lo W h k
    simpa using this
  have LN : Hid (∀ (W : World) (gp : Nat), PermAt W gp [] [] → Calls Try.prog 30 #[.pointer (some ⟨gp, 0, none⟩)] W fun e w' => e = .returned (.int .i64 0) ∧ Below W.heap.size W w') := fun W gp k => (len_p gp [] [] W k).mono fun e w' ⟨h1, h2⟩ => ⟨h1, h2 ▸ Below.refl _ _⟩
  have IS : Hid (∀ (W : World) (g : Nat), MapAt W g [] [] (-1) (lo : Int) → Calls Try.prog 20 #[.pointer (some ⟨g, 0, none⟩)] W fun e w' => e = .returned (.bool true) ∧ Below W.heap.size W w') := fun W g h => by
    have := cis_p g [] [] (-1) lo [] [] W h nil_invC CO
    rw [decide_eq_true (show (-1 : Int) = reRoot [] (-1) ∧ ([] : List Nat) = cjL [] [] [] from ⟨rfl, rfl⟩)] at this
    exact this
  have SH : Hid (∀ (W : World) (g : Nat), MapAt W g [] [] (-1) (lo : Int) → Calls Try.prog 28 #[.pointer (some ⟨g, 0, none⟩)] W fun e w' => e = .returned (.int .i64 0) ∧ Below W.heap.size W w') := fun W g h => cshape_e g [] [] (-1) lo W h rfl
  have IN : Hid (∀ (W : World) (g : Nat), MapAt W g [] [] (-1) (lo : Int) → Calls Try.prog 25 #[.pointer (some ⟨g, 0, none⟩), .pointer none] W fun e w' => e = .returned (.bool false) ∧ Below W.heap.size W w') := fun W g h => ciso_nil1 g [] [] (-1) lo [] [] W h nil_invC CO
  clear CO hlo
  go_enter Try.func7, Try.ntmps7
  go_wp2_with fail
  refine AW.out.mono ?_
  rintro e w0 ⟨rfl, b0⟩
  have B0 := Lib.hid b0
  have NW1 := Lib.hid (NW.out w0)
  clear b0 AW NW
  go_wp2_with fail
  refine NW1.out.mono ?_
  rintro e w1 ⟨g, rfl, m1, z, _⟩
  have B1 := Lib.hid (B0.out.trans (z.mono B0.out.size))
  have M1 := Lib.hid m1
  have C1 := Lib.hid (CP.out w1 g m1)
  clear z m1 NW1 B0 CP
  go_wp2_with fail
  refine C1.out.mono ?_
  rintro e w2 ⟨g', gp, rfl, m2, k2, z⟩
  have B2 := Lib.hid (B1.out.trans (z.mono B1.out.size))
  have MM : Hid (∀ W, Below w2.heap.size w2 W → MapAt W g [] [] (-1) (lo : Int)) := fun W y => (M1.out.below z).below y
  have MC : Hid (MapAt w2 g' [] [] (-1) (lo : Int)) := m2
  have KK : Hid (∀ W, Below w2.heap.size w2 W → PermAt W gp [] []) := fun W y => k2.below y
  clear z m2 k2 C1 M1 B1
  go_wp2_with fail
  refine (canon_none _).mono ?_
  rintro e w' ⟨rfl, rfl⟩
  have S1 := Lib.hid (SM.out w2 g' g MC.out (MM.out w2 (Below.refl _ _)))
  clear MC SM
  go_wp2_with fail
  refine S1.out.mono ?_
  rintro e w3 ⟨rfl, z3⟩
  have Z3 := Lib.hid z3
  have L1 := Lib.hid (LN.out w3 gp (KK.out w3 z3))
  clear z3 S1 LN KK
  go_wp2_with fail
  refine L1.out.mono ?_
  rintro e w4 ⟨rfl, z⟩
  have Z4 := Lib.hid (Z3.out.trans (z.mono Z3.out.size))
  have I1 := Lib.hid (IS.out w4 g (MM.out w4 Z4.out))
  clear z L1 Z3 IS
  go_wp2_with fail
  refine I1.out.mono ?_
  rintro e w5 ⟨rfl, z⟩
  have Z5 := Lib.hid (Z4.out.trans (z.mono Z4.out.size))
  have H1 := Lib.hid (SH.out w5 g (MM.out w5 Z5.out))
  clear z I1 Z4 SH
  go_wp2_with fail
  refine H1.out.mono ?_
  rintro e w6 ⟨rfl, z⟩
  have Z6 := Lib.hid (Z5.out.trans (z.mono Z5.out.size))
  have J1 := Lib.hid (ciso_nil w6)
  clear z H1 Z5
  go_wp2_with fail
  refine J1.out.mono ?_
  rintro e w7 ⟨rfl, z⟩
  have Z7 := Lib.hid (Z6.out.trans (z.mono Z6.out.size))
  have J2 := Lib.hid (IN.out w7 g (MM.out w7 Z7.out))
  clear z J1 Z6 IN MM
  go_wp2_with fail
  refine J2.out.mono ?_
  rintro e w8 ⟨rfl, z⟩
  have Z8 := Lib.hid (Z7.out.trans (z.mono Z7.out.size))
  have J3 := Lib.hid (cis_nil w8)
  clear z J2 Z7
  go_wp2_with fail
  refine J3.out.mono ?_
  rintro e w' ⟨rfl, rfl⟩
  have J4 := Lib.hid (cshape_nil w8)
  clear J3
  go_wp2_with fail
  refine J4.out.mono ?_
  rintro e w9 ⟨rfl, z⟩
  have Z9 := Lib.hid (B2.out.trans ((Z8.out.trans (z.mono Z8.out.size)).mono B2.out.size))
  clear z J4 Z8
  go_wp2_with fail
  go_ret
  exact ⟨rfl, Z9.out⟩
end Go.Proofs.Ytoncollcefanjaa
