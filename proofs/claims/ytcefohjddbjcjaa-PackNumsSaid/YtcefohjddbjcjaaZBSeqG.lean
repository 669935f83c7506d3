/- Num, whole; two vectors side by side; the library's Clone and Equal of words. -/
import Derived.Test.YtcefohjddbjcjaaZBOver
import Derived.Test.YtcefohjddbjcjaaZInts
namespace Go.Proofs.Ytcefohjddbjcjaa
open Go.RowKit
set_option linter.unusedVariables false

theorem VecB.hlt {w : World} {B g V n : Nat} {A : Option Addr} (h : VecB w B g V n A) : g < w.heap.size := h.foot_lt (.inl rfl)
/-- What Num answers, and what it leaves. -/
def NumPost (w : World) (g V' n' : Nat) (A : Option Addr) (e : Ending) (w' : World) : Prop :=
  e = .returned (.tuple #[]) ∧ ∃ A', VecAt w' g V' n' A' ∧ Mod (foot g A) w w' ∧ (A' = A ∨ ∃ b, A' = some ⟨b, 0, none⟩ ∧ w.heap.size ≤ b)
theorem put_zero (V n x : Nat) : put V n x 0 = V := by simp [put, Nat.mod_one]
/-- .. and what the old row holds. -/
def NumPostK (w : World) (g V V' n n' : Nat) (A : Option Addr) (e : Ending) (w' : World) : Prop :=
  e = .returned (.tuple #[]) ∧ ∃ A', VecAt w' g V' n' A' ∧ Mod (foot g A) w w' ∧ (A' = A ∨ ∃ b, A' = some ⟨b, 0, none⟩ ∧ w.heap.size ≤ b) ∧ OldK w' A V V' n
theorem num_pk (g V n x : Nat) (k : Int) (A : Option Addr) (w : World) (h : VecAt w g V n A) (hx : x < 2 ^ 64) (hk : -9223372036854775808 ≤ k ∧ k ≤ 9223372036854775807) (hn : n + 64 ≤ 1000000) :
    Calls Try.prog 36 #[.pointer (some ⟨g, 0, none⟩), .int .u64 (x : Int), .int .i64 k] w (NumPostK w g V (put V n x (cnt64 k)) n (n + cnt64 k) A) := by
  by_cases h0 : k ≤ 0
  · refine (num_zeroB g x k w ⟨hk.1, h0⟩).mono fun e w' ⟨he, hw⟩ => ?_
    subst hw
    have hc : cnt64 k = 0 := by unfold cnt64; rw [if_pos h0]
    rw [hc, put_zero]
    exact ⟨he, A, h, Mod.refl _ _, .inl rfl, OldK.same h (Nat.le_refl _)⟩
  · have hc1 : 1 ≤ cnt64 k := by unfold cnt64; rw [if_neg h0]; split <;> omega
    have hc2 : cnt64 k ≤ 64 := by unfold cnt64; rw [if_neg h0]; split <;> omega
    rcases Nat.eq_zero_or_pos (n % 64) with hs | hs
    · exact num_new g V n x _ k A w h hx hk rfl hc1 hc2 hn hs
    · by_cases hsk : n % 64 + cnt64 k ≤ 64
      · exact num_last g V n x _ k A w h hx hk rfl hc1 hc2 hn _ rfl hs hsk
      · exact num_over g V n x _ k A w h hx hk rfl hc1 hc2 hn _ rfl hs (by omega)
theorem num_p (g V n x : Nat) (k : Int) (A : Option Addr) (w : World) (h : VecAt w g V n A) (hx : x < 2 ^ 64) (hk : -9223372036854775808 ≤ k ∧ k ≤ 9223372036854775807) (hn : n + 64 ≤ 1000000) :
    Calls Try.prog 36 #[.pointer (some ⟨g, 0, none⟩), .int .u64 (x : Int), .int .i64 k] w (NumPost w g (put V n x (cnt64 k)) (n + cnt64 k) A) :=
  (num_pk g V n x k A w h hx hk hn).mono fun e w' ⟨he, A', h1, h2, h3, _⟩ => ⟨he, A', h1, h2, h3⟩

/-- Two vectors share no block. -/
def Sep (g : Nat) (A : Option Addr) (h : Nat) (C : Option Addr) : Prop := ∀ i, foot g A i → ¬ foot h C i
theorem Sep.symm {g h : Nat} {A C : Option Addr} (s : Sep g A h C) : Sep h C g A := fun i hi hj => s i hj hi
theorem Sep.next {w : World} {B g h U m : Nat} {A A' C : Option Addr} (s : Sep g A h C) (hc : VecB w B h U m C) (ha : A' = A ∨ ∃ b, A' = some ⟨b, 0, none⟩ ∧ w.heap.size ≤ b) : Sep g A' h C := by
  rcases ha with rfl | ⟨b, rfl, hb⟩
  · exact s
  · rintro i (rfl | ⟨b', e, rfl⟩) hj
    · exact s i (.inl rfl) hj
    · have := hc.foot_lt hj
      have e2 : b = i := (Addr.mk.inj (Option.some.inj e)).1
      omega
/-- A vector that is made behind another one. -/
theorem Sep.new {w : World} {B g V n : Nat} {A : Option Addr} (h : VecB w B g V n A) (k : Nat) (hk : w.heap.size ≤ k) : Sep g A k none := by
  rintro i hi (rfl | ⟨b, e, _⟩)
  · have := h.foot_lt hi; omega
  · cases e
theorem NumPost.below {w w' : World} {g V' n' : Nat} {A : Option Addr} {e : Ending} {V n : Nat} (p : NumPost w g V' n' A e w') (h : VecAt w g V n A) : Below g w w' := by
  obtain ⟨_, A', h1, m, _⟩ := p
  obtain ⟨_, _, c, hb, ho⟩ := h
  exact m.belowB (Nat.le_of_lt hb.lt) fun i hi hf => by
    rcases hf with rfl | ⟨b, rfl, rfl⟩
    · omega
    · have : g + 1 ≤ i := (ho.lt i rfl).1
      omega

/-- Two vectors side by side, all of them from block L on. -/
def Two (w : World) (L g V n : Nat) (A : Option Addr) (h U m : Nat) (C : Option Addr) : Prop := VecAt w g V n A ∧ VecAt w h U m C ∧ Sep g A h C ∧ L ≤ g ∧ L ≤ h
theorem Two.below {w w' : World} {L g V n : Nat} {A : Option Addr} {h U m : Nat} {C : Option Addr} (t : Two w L g V n A h U m C) (b : Below w.heap.size w w') : Two w' L g V n A h U m C :=
  ⟨t.1.below b, t.2.1.below b, t.2.2⟩
theorem Two.swap {w : World} {L g V n : Nat} {A : Option Addr} {h U m : Nat} {C : Option Addr} (t : Two w L g V n A h U m C) : Two w L h U m C g V n A :=
  ⟨t.2.1, t.1, t.2.2.1.symm, t.2.2.2.2, t.2.2.2.1⟩
theorem Two.left {w w' : World} {L g V n : Nat} {A : Option Addr} {h U m : Nat} {C : Option Addr} (t : Two w L g V n A h U m C) {V' n' : Nat} {e : Ending} (p : NumPost w g V' n' A e w') :
    e = .returned (.tuple #[]) ∧ Below L w w' ∧ ∃ A', Two w' L g V' n' A' h U m C := by
  have hb := p.below t.1
  obtain ⟨he, A', h1, hm, ha⟩ := p
  obtain ⟨t1, t2, t3, t4, t5⟩ := t
  refine ⟨he, hb.mono t4, A', h1, VecB.mod t2 hm fun i hi hj => t3 i hj hi, Sep.next t3 t2 ha, t4, t5⟩
theorem Two.right {w w' : World} {L g V n : Nat} {A : Option Addr} {h U m : Nat} {C : Option Addr} (t : Two w L g V n A h U m C) {U' m' : Nat} {e : Ending} (p : NumPost w h U' m' C e w') :
    e = .returned (.tuple #[]) ∧ Below L w w' ∧ ∃ C', Two w' L g V n A h U' m' C' := by
  obtain ⟨a, b, C', c⟩ := t.swap.left p
  exact ⟨a, b, C', c.swap⟩
theorem cnt64_nat {s : Nat} (h : s ≤ 64) : cnt64 (s : Int) = s := by unfold cnt64; split <;> (try split) <;> omega
theorem U64_one (z : List Nat) : ∀ u ∈ U64 z, u.oneCell' = true := by
  intro u hu
  simp only [U64, List.mem_map] at hu
  obtain ⟨b, _, rfl⟩ := hu
  rfl
theorem Rd.u64 {w : World} {B n : Nat} {A : Option Addr} {z : List Nat} (h : Rd w B A n (U64 z)) (h0 : 0 < n) :
    ∃ b o, A = some ⟨b, o, none⟩ ∧ b < B ∧ ∀ k, k < n → w.cell? ⟨b, o + k, none⟩ = some (.int .u64 ((z.getD k 0 : Nat) : Int)) := by
  obtain ⟨b, o, e, hb, hc⟩ := h.at_ h0
  refine ⟨b, o, e, hb, fun k hk => ?_⟩
  have hl : z.length = n := by rw [← h.len, U64_len]
  rw [hc k (by rw [U64_len]; omega)]
  have := U64_get z k (by omega)
  rwa [List.getElem?_eq_getElem (by rw [U64_len]; omega)] at this

/-- What Clone answers: nil, or a new row. -/
def NewU64 (w : World) (z : List Nat) (e : Ending) (w' : World) : Prop :=
  ∃ A c, e = .returned (.slice A z.length c) ∧ z.length ≤ c ∧ c ≤ maxLen ∧ w'.ownsRow w.heap.size 22 1 (.slice A z.length c) z.length (U64 z) ∧ Below w.heap.size w w'
theorem NewU64.mk {w w' : World} {z : List Nat} {e : Ending} {v : Value} (he : e = .returned v) (h : w'.ownsRow w.heap.size 22 1 v z.length (U64 z)) (hb : Below w.heap.size w w') : NewU64 w z e w' := by
  obtain ⟨A, c, rfl, h1, h2⟩ := own_form h
  exact ⟨A, c, he, h1, h2, h, hb⟩
theorem getDN_ext {l m : List Nat} (h : l.length = m.length) (hg : ∀ i, i < l.length → l.getD i 0 = m.getD i 0) : l = m := by
  apply List.ext_getElem h
  intro i h1 h2
  have := hg i h1
  rwa [List.getD_eq_getElem?_getD, List.getD_eq_getElem?_getD, List.getElem?_eq_getElem h1, List.getElem?_eq_getElem h2] at this
end Go.Proofs.Ytcefohjddbjcjaa
