/- Words of four letters as numbers: mathematics. -/
import Derived.Test.YtgohdhmijfajfaaBSeqG
import Derived.Test.YtgohdhmijfajfaaBText
namespace Go.Proofs.Ytgohdhmijfajfaa
set_option maxRecDepth 20000
open Go.RowKit
set_option linter.unusedVariables false
/-- The number that a word's bits are: two bits a letter. -/
def wv : List Nat → Nat
  | [] => 0
  | k :: ks => k % 4 + 4 * wv ks
theorem wv_snoc (k : Nat) : ∀ ks : List Nat, wv (ks ++ [k]) = put (wv ks) (2 * ks.length) k 2
  | [] => by simp [wv, put]
  | x :: ks => by
    show x % 4 + 4 * wv (ks ++ [k]) = _
    rw [wv_snoc k ks]
    unfold put
    show _ = (x % 4 + 4 * wv ks) + _
    rw [List.length_cons, show 2 * (ks.length + 1) = 2 * ks.length + 2 by omega, Nat.pow_add, show (2 : Nat) ^ 2 = 4 from rfl, ← Nat.mul_assoc]
    generalize k % 4 * 2 ^ (2 * ks.length) = q
    omega
theorem wv_at : ∀ (ks : List Nat) (i : Nat), i < ks.length → wv ks / 2 ^ (2 * i) % 2 + 2 * (wv ks / 2 ^ (2 * i + 1) % 2) = ks.getD i 0 % 4
  | [], i, h => absurd h (by simp)
  | x :: ks, 0, h => by
    show (x % 4 + 4 * wv ks) / 2 ^ 0 % 2 + 2 * ((x % 4 + 4 * wv ks) / 2 ^ 1 % 2) = x % 4
    rw [Nat.pow_zero, Nat.pow_one]; omega
  | x :: ks, i + 1, h => by
    have ih := wv_at ks i (by simpa using h)
    show (x % 4 + 4 * wv ks) / 2 ^ (2 * (i + 1)) % 2 + 2 * ((x % 4 + 4 * wv ks) / 2 ^ (2 * (i + 1) + 1) % 2) = ks.getD i 0 % 4
    have e : ∀ j, (x % 4 + 4 * wv ks) / 2 ^ (j + 2) = wv ks / 2 ^ j := fun j => by
      rw [Nat.pow_add, show (2 : Nat) ^ 2 = 4 from rfl, Nat.mul_comm (2 ^ j) 4, ← Nat.div_div_eq_div_mul]
      congr 1; omega
    rw [show 2 * (i + 1) = 2 * i + 2 by omega, show 2 * i + 2 + 1 = 2 * i + 1 + 2 by omega, e, e]
    exact ih
theorem wv_lo (ks : List Nat) (i : Nat) (h : i < ks.length) : wv ks / 2 ^ (2 * i) % 2 = ks.getD i 0 % 2 := by have := wv_at ks i h; omega
theorem wv_hi (ks : List Nat) (i : Nat) (h : i < ks.length) : wv ks / 2 ^ (2 * i + 1) % 2 = ks.getD i 0 / 2 % 2 := by have := wv_at ks i h; omega
/-- At g lies a word. -/
def WordAt (w : World) (B g : Nat) (ks : List Nat) : Prop :=
  (∀ x ∈ ks, x < 4) ∧ B ≤ g ∧ ∃ gv A, B ≤ gv ∧ Blk w g 86 #[.pointer (some ⟨gv, 0, none⟩)] ∧ VecAt w gv (wv ks) (2 * ks.length) A
theorem WordAt.below {w w' : World} {B g : Nat} {ks : List Nat} (h : WordAt w B g ks) (z : Below w.heap.size w w') : WordAt w' B g ks := by
  obtain ⟨h1, h2, gv, A, h3, h4, h5⟩ := h
  exact ⟨h1, h2, gv, A, h3, h4.below z, h5.below z⟩
theorem WordAt.base {w : World} {B B' g : Nat} {ks : List Nat} (h : WordAt w B g ks) (z : B' ≤ B) : WordAt w B' g ks := by
  obtain ⟨h1, h2, gv, A, h3, h4, h5⟩ := h
  exact ⟨h1, by omega, gv, A, by omega, h4, h5⟩
theorem mnew_p (w : World) : Calls Try.prog 37 #[] w fun e w' => ∃ g, e = .returned (.pointer (some ⟨g, 0, none⟩)) ∧ WordAt w' w.heap.size g [] ∧ Below w.heap.size w w' := by
  have NP := Lib.hid (bnew_p w)
  go_enter Try.func37, Try.ntmps37
  go_wp2_with fail
  refine NP.out.mono ?_
  rintro e w1 ⟨rfl, hv, z⟩
  go_wp2_with fail
  go_ret
  refine ⟨_, rfl, ⟨by simp, z.size, w.heap.size, none, Nat.le_refl _, Blk.new w1 _ _, ?_⟩, z.alloc z.size _⟩
  exact hv.below ((Below.refl _ _).alloc (Nat.le_refl _) _)
theorem foot_word {w : World} {B g gv V n : Nat} {A : Option Addr} {cs : Array Value} (h : Blk w g 86 cs) (hv : VecB w B gv V n A) : ¬ foot gv A g := by
  obtain ⟨h1, h2, c, h3, h4⟩ := hv
  rintro (e | ⟨b, e, rfl⟩)
  · subst e
    unfold Blk at h h3
    rw [h] at h3
    simp at h3
  · exact own_ne h4 h (by decide) (by rw [e]; rfl)
set_option maxHeartbeats 1000000 in
theorem mput_p (B g : Nat) (ks : List Nat) (k : Nat) (w : World) (h : WordAt w B g ks) (hk : k < 4) (hn : ks.length ≤ 400000) :
    Calls Try.prog 68 #[.pointer (some ⟨g, 0, none⟩), .int .i64 (k : Int)] w fun e w' => e = .returned (.tuple #[]) ∧ WordAt w' B g (ks ++ [k]) ∧ Below B w w' := by
  obtain ⟨h1, h2, gv, A, h3, h4, h5⟩ := h
  have np := num_p gv (wv ks) (2 * ks.length) k 2 A w h5 (by omega) (by omega) (by omega)
  rw [show cnt64 2 = 2 by decide] at np
  have NP := Lib.hid np
  clear np
  have c0 : w.cell? ⟨g, 0, none⟩ = some (.pointer (some ⟨gv, 0, none⟩)) := h4.cell 0
  have hw : IntKind.u64.wrap (k : Int) = (k : Int) := by simp [IntKind.wrap, IntKind.signed, IntKind.bits]; omega
  have H4 := Lib.hid h4
  have H5 := Lib.hid h5
  have H1 := Lib.hid h1
  clear h4 h5 h1
  go_enter Try.func68, Try.ntmps68
  go_wp2_with fail
  refine NP.out.mono ?_
  intro e w1 hp
  have hb := NumPost.below hp H5.out
  obtain ⟨rfl, A', hv, hm, ha⟩ := hp
  have W1 : Hid (WordAt w1 B g (ks ++ [k])) := by
    refine ⟨fun x hx => ?_, h2, gv, A', h3, H4.out.mod hm (foot_word H4.out H5.out), ?_⟩
    · rcases List.mem_append.1 hx with y | y
      · exact H1.out x y
      · simp at y; omega
    · rw [wv_snoc, List.length_append, List.length_singleton, show 2 * (ks.length + 1) = 2 * ks.length + 2 by omega]
      exact hv
  have Z1 := Lib.hid (hb.mono h3)
  clear hb hv hm ha NP
  go_wp2_with fail
  refine bodyPost_end (results_none rfl _ _ _) rfl ⟨rfl, W1.out, Z1.out⟩
/-- A word whose blocks are none of S. -/
def WordS (w : World) (B g : Nat) (ks : List Nat) (S : Nat → Prop) : Prop :=
  (∀ x ∈ ks, x < 4) ∧ B ≤ g ∧ ∃ gv A, B ≤ gv ∧ Blk w g 86 #[.pointer (some ⟨gv, 0, none⟩)] ∧ VecAt w gv (wv ks) (2 * ks.length) A ∧ ∀ i, foot gv A i → ¬ S i
theorem WordS.at_ {w : World} {B g : Nat} {ks : List Nat} {S : Nat → Prop} (h : WordS w B g ks S) : WordAt w B g ks := by
  obtain ⟨h1, h2, gv, A, h3, h4, h5, _⟩ := h
  exact ⟨h1, h2, gv, A, h3, h4, h5⟩
theorem WordAt.sep {w : World} {B g : Nat} {ks : List Nat} (h : WordAt w B g ks) {S : Nat → Prop} (hS : ∀ i, S i → ∃ cs, Blk w i 3 cs) : WordS w B g ks S := by
  obtain ⟨h1, h2, gv, A, h3, h4, h5⟩ := h
  refine ⟨h1, h2, gv, A, h3, h4, h5, fun i hi hs => ?_⟩
  obtain ⟨cs, hb⟩ := hS i hs
  obtain ⟨_, _, c, b1, b2⟩ := h5
  rcases hi with e | ⟨b, e, rfl⟩
  · subst e
    unfold Blk at hb b1
    rw [hb] at b1
    simp at b1
  · exact own_ne b2 hb (by decide) (by rw [e]; rfl)
set_option maxHeartbeats 1000000 in
theorem mput_s (B g : Nat) (ks : List Nat) (k : Nat) (w : World) (S : Nat → Prop) (h : WordS w B g ks S) (hk : k < 4) (hn : ks.length ≤ 400000) (hS : ∀ i, S i → i < w.heap.size) :
    Calls Try.prog 68 #[.pointer (some ⟨g, 0, none⟩), .int .i64 (k : Int)] w fun e w' => e = .returned (.tuple #[]) ∧ WordS w' B g (ks ++ [k]) S ∧ Below B w w' ∧ Mod (fun i => ¬ S i) w w' := by
  obtain ⟨h1, h2, gv, A, h3, h4, h5, h6⟩ := h
  have np := num_p gv (wv ks) (2 * ks.length) k 2 A w h5 (by omega) (by omega) (by omega)
  rw [show cnt64 2 = 2 by decide] at np
  have NP := Lib.hid np
  clear np
  have c0 : w.cell? ⟨g, 0, none⟩ = some (.pointer (some ⟨gv, 0, none⟩)) := h4.cell 0
  have hw : IntKind.u64.wrap (k : Int) = (k : Int) := by simp [IntKind.wrap, IntKind.signed, IntKind.bits]; omega
  have H4 := Lib.hid h4
  have H5 := Lib.hid h5
  have H1 := Lib.hid h1
  have H6 := Lib.hid h6
  clear h4 h5 h1 h6
  go_enter Try.func68, Try.ntmps68
  go_wp2_with fail
  refine NP.out.mono ?_
  intro e w1 hp
  have hb := NumPost.below hp H5.out
  obtain ⟨rfl, A', hv, hm, ha⟩ := hp
  have W1 : Hid (WordS w1 B g (ks ++ [k]) S) := by
    refine ⟨fun x hx => ?_, h2, gv, A', h3, H4.out.mod hm (foot_word H4.out H5.out), ?_, fun i hi hs => ?_⟩
    · rcases List.mem_append.1 hx with y | y
      · exact H1.out x y
      · simp at y; omega
    · rw [wv_snoc, List.length_append, List.length_singleton, show 2 * (ks.length + 1) = 2 * ks.length + 2 by omega]
      exact hv
    · rcases ha with rfl | ⟨b, rfl, hb⟩
      · exact H6.out i hi hs
      · rcases hi with e | ⟨b', e, e2⟩
        · exact H6.out i (.inl e) hs
        · have := hS i hs
          have e3 : b = b' := (Addr.mk.inj (Option.some.inj e)).1
          omega
  have Z1 := Lib.hid (hb.mono h3)
  have M1 : Hid (Mod (fun i => ¬ S i) w w1) := hm.mono fun i _ hi hs => H6.out i hi hs
  clear hb hv hm ha NP
  go_wp2_with fail
  refine bodyPost_end (results_none rfl _ _ _) rfl ⟨rfl, W1.out, Z1.out, M1.out⟩
theorem mlen_p (B g : Nat) (ks : List Nat) (w : World) (h : WordAt w B g ks) : Calls Try.prog 27 #[.pointer (some ⟨g, 0, none⟩)] w fun e w' => e = .returned (.int .i64 (ks.length : Int)) ∧ w = w' := by
  obtain ⟨h1, h2, gv, A, h3, h4, h5⟩ := h
  have LP := Lib.hid (blen_p gv _ _ A w h5)
  have hl := h5.2.1
  have c0 : w.cell? ⟨g, 0, none⟩ = some (.pointer (some ⟨gv, 0, none⟩)) := h4.cell 0
  obtain ⟨n2, hn2⟩ : ∃ n2, n2 = 2 * ks.length := ⟨_, rfl⟩
  rw [← hn2] at LP
  have e1 : (n2 : Int) / 2 = (ks.length : Int) := by omega
  have e2 : (n2 : Int).tdiv 2 = (ks.length : Int) := by rw [Int.tdiv_eq_ediv_of_nonneg (by omega)]; exact e1
  have ew : IntKind.i64.wrap (ks.length : Int) = (ks.length : Int) := by simp [IntKind.wrap, IntKind.signed, IntKind.bits]; omega
  clear hn2 h4 h5 hl
  go_enter Try.func27, Try.ntmps27
  go_wp2_with fail
  refine LP.out.mono ?_
  rintro e w1 ⟨rfl, rfl⟩
  go_wp2_with fail
  go_ret
  exact ⟨by first | rfl | simp [ew], rfl⟩
theorem mlen_nil (w : World) : Calls Try.prog 27 #[.pointer none] w fun e w' => e = .returned (.int .i64 0) ∧ w = w' := by
  go_enter Try.func27, Try.ntmps27
  go_wp2_with fail
  go_ret
  exact ⟨rfl, rfl⟩
end Go.Proofs.Ytgohdhmijfajfaa
