/- How many times a permutation must be taken till each goes to itself. -/
import Derived.Test.YtgofopkilpihlaaPRow
namespace Go.Proofs.Ytgofopkilpihlaa
set_option linter.unusedVariables false

noncomputable def olen (l : List Nat) (j : Nat) : Nat := ((orbits l).getD j []).length
noncomputable def tl (l : List Nat) : Nat → Nat
  | 0 => 1
  | k + 1 => Nat.lcm (tl l k) (olen l k)
theorem olen_is {l b : List Nat} (h : Inv l b) {j : Nat} (hj : j < (orbits l).length) : ∃ i, i < l.length ∧ (orbits l).getD j [] = orb l i ∧ olen l j = per l i := by
  have h1 := orbits_get l j hj
  have h2 := lead_get hj
  refine ⟨_, h2.1, h1, ?_⟩
  unfold olen
  rw [h1]
  unfold orb
  rw [way_len]
theorem olen_pos {l b : List Nat} (h : Inv l b) {j : Nat} (hj : j < (orbits l).length) : 1 ≤ olen l j ∧ olen l j ≤ l.length := by
  obtain ⟨i, h1, _, h3⟩ := olen_is h hj
  rw [h3]
  exact ⟨(per_is h h1).1, per_le h h1⟩
theorem dvd840 (n : Nat) (h1 : 1 ≤ n) (h8 : n ≤ 8) : n ∣ 840 := by
  have : n = 1 ∨ n = 2 ∨ n = 3 ∨ n = 4 ∨ n = 5 ∨ n = 6 ∨ n = 7 ∨ n = 8 := by omega
  rcases this with rfl | rfl | rfl | rfl | rfl | rfl | rfl | rfl <;> decide
theorem tl_dvd {l b : List Nat} (h : Inv l b) (h8 : l.length ≤ 8) : ∀ k, k ≤ (orbits l).length → tl l k ∣ 840
  | 0, _ => by unfold tl; exact Nat.one_dvd _
  | k + 1, hk => by
    unfold tl
    have := olen_pos h (j := k) (by omega)
    exact Nat.lcm_dvd (tl_dvd h h8 k (by omega)) (dvd840 _ this.1 (by omega))
theorem tl_pos {l b : List Nat} (h : Inv l b) (h8 : l.length ≤ 8) (k : Nat) (hk : k ≤ (orbits l).length) : 1 ≤ tl l k ∧ tl l k ≤ 840 :=
  ⟨Nat.pos_of_dvd_of_pos (tl_dvd h h8 k hk) (by omega), Nat.le_of_dvd (by omega) (tl_dvd h h8 k hk)⟩
theorem tl_all (l : List Nat) : ∀ k j, j < k → olen l j ∣ tl l k
  | k + 1, j, hj => by
    unfold tl
    by_cases e : j = k
    · subst e; exact Nat.dvd_lcm_right _ _
    · exact Nat.dvd_trans (tl_all l k j (by omega)) (Nat.dvd_lcm_left _ _)
theorem tl_least (l : List Nat) (m : Nat) : ∀ k, (∀ j, j < k → olen l j ∣ m) → tl l k ∣ m
  | 0, _ => by unfold tl; exact Nat.one_dvd _
  | k + 1, h => by
    unfold tl
    exact Nat.lcm_dvd (tl_least l m k fun j hj => h j (by omega)) (h k (by omega))

/-- l taken k times. -/
def pw (l : List Nat) (k : Nat) : List Nat := (List.range l.length).map (it l k)
theorem pw_len (l : List Nat) (k : Nat) : (pw l k).length = l.length := by simp [pw]
theorem pw_get (l : List Nat) (k i : Nat) (hi : i < l.length) : (pw l k).getD i 0 = it l k i := by
  simp [pw, List.getD_eq_getElem?_getD, hi]
theorem pw_zero (l : List Nat) : pw l 0 = oneL l.length := by
  refine getD_ext (by rw [pw_len]; simp [oneL]) fun i hi => ?_
  rw [pw_len] at hi
  rw [pw_get _ _ _ hi, oneL_get _ _ hi]
  rfl
theorem pw_next (l : List Nat) (k : Nat) : comp (pw l k) l = pw l (k + 1) := by
  refine getD_ext (by rw [comp_len, pw_len, pw_len]) fun i hi => ?_
  rw [comp_len, pw_len] at hi
  rw [comp_get _ _ _ (by rw [pw_len]; exact hi), pw_get _ _ _ hi, pw_get _ _ _ hi]
  rfl
theorem pw_one {l b : List Nat} (h : Inv l b) (k : Nat) : pw l k = oneL l.length ↔ ∀ j, j < (orbits l).length → olen l j ∣ k := by
  constructor
  · intro e j hj
    obtain ⟨i, hi, _, ho⟩ := olen_is h hj
    have hp := per_is h hi
    have hk : it l k i = i := by rw [← pw_get l k i hi, e, oneL_get _ _ hi]
    rw [ho]
    rw [it_mod hp.2.1 k] at hk
    refine Nat.dvd_of_mod_eq_zero ?_
    rcases Nat.eq_zero_or_pos (k % per l i) with h0 | h0
    · exact h0
    · exact absurd hk (hp.2.2 _ h0 (Nat.mod_lt _ hp.1))
  · intro hall
    refine getD_ext (by rw [pw_len]; simp [oneL]) fun x hx => ?_
    rw [pw_len] at hx
    rw [pw_get _ _ _ hx, oneL_get _ _ hx]
    have hj := name_lt h hx
    have hm := (name_row h hj hx).1 rfl
    obtain ⟨i, hi, he, ho⟩ := olen_is h hj
    rw [he] at hm
    obtain ⟨t, rfl⟩ := (mem_orb h hi).1 hm
    obtain ⟨c, hc⟩ := hall _ hj
    have hp := per_is h hi
    rw [ho] at hc
    have hk : it l k i = i := by rw [hc, Nat.mul_comm]; exact it_mul hp.2.1 c
    rw [← it_add, Nat.add_comm, it_add, hk]
theorem pw_back {l b : List Nat} (h : Inv l b) : pw l (tl l (orbits l).length) = oneL l.length :=
  (pw_one h _).2 fun j hj => tl_all l _ j hj
theorem pw_not {l b : List Nat} (h : Inv l b) (k : Nat) (h0 : 0 < k) (hk : k < tl l (orbits l).length) : pw l k ≠ oneL l.length := fun e => by
  have := Nat.le_of_dvd h0 (tl_least l k _ ((pw_one h k).1 e))
  omega
/-- A step of the loop that makes the least common multiple. -/
theorem lcm_step (m n g : Nat) (hg : g = Nat.gcd m n) : m / g * n = Nat.lcm m n := by
  subst hg
  unfold Nat.lcm
  rw [Nat.div_mul_right_comm (Nat.gcd_dvd_left m n)]
end Go.Proofs.Ytgofopkilpihlaa
