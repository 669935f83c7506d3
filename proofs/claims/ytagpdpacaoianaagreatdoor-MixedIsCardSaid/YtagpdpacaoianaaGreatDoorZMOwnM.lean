/- Who owns a letter, by a stack; the mates' places. -/
import Derived.Test.YtagpdpacaoianaaGreatDoorZMOwn
import Derived.Test.YtagpdpacaoianaaGreatDoorZQAny
import Derived.Test.YtagpdpacaoianaaGreatDoorZQGood
import Derived.Test.YtagpdpacaoianaaGreatDoorZMSort
namespace Go.Proofs.YtagpdpacaoianaaGreatDoor
set_option linter.unusedVariables false
/-- What lies on top. -/
def topZ (s : List Nat) : Int := if s.length = 0 then -1 else ((s.getD (s.length - 1) 0 : Nat) : Int)
theorem step_of {ks : List Nat} {i : Nat} (hi : i < ks.length) (hs : ks.getD i 0 / 2 = 0) : exc (val (ownL 0 ks)) (ah 0 ks i + 1) = exc (val (ownL 0 ks)) (ah 0 ks i) + (2 * ((1 - ks.getD i 0 % 2 : Nat) : Int) - 1) := by
  rw [exc_list (ownL_bin 0 ks), ownL_get 0 ks i hi hs]
theorem ownZ_stack {ks : List Nat} (h : Kds ks) (hB : Bal (exc (val (ownL 0 ks))) (ownL 0 ks).length) {i : Nat} (hi : i < ks.length) {s : List Nat}
    (hs : Stack (exc (val (ownL 0 ks))) (ah 0 ks i) s) : OwnZ ks i (topZ s) := by
  have hE := exc_Exc (val (ownL 0 ks))
  have hl := ah_end 0 ks i (by omega)
  unfold OwnZ
  split
  · rename_i hk
    have hs0 : ks.getD i 0 / 2 = 0 := by omega
    have hst := step_of hi hs0
    rw [hk] at hst
    have hst' : exc (val (ownL 0 ks)) (ah 0 ks i + 1) = exc (val (ownL 0 ks)) (ah 0 ks i) - 1 := by rw [hst]; omega
    have hlt := ah_lt 0 ks i hi hs0
    have h1 := hB.1 (ah 0 ks i + 1) (by omega)
    have h0 : 0 < s.length := by have := hs.1; omega
    have hp := (hs.pop hst' h0).2
    unfold topZ
    rw [if_neg (by omega)]
    exact ⟨_, rfl, .inr hp⟩
  split
  · rename_i h0
    have := hs.1
    rw [h0, hE.zero] at this
    unfold topZ
    rw [if_pos (by omega)]
  rename_i hk h0
  obtain ⟨y, hy⟩ : ∃ y, ah 0 ks i = y + 1 := ⟨ah 0 ks i - 1, by omega⟩
  rw [hy] at hs hl
  rw [hy, Nat.add_sub_cancel]
  have hst := exc_list (ownL_bin 0 ks) y
  have h1 := hs.1
  have hy0 := hB.1 y (by omega)
  have hy1 := hB.1 (y + 1) (by omega)
  have hb := (ownL_bin 0 ks).getD y
  split
  · rename_i ho
    rw [ho] at hst
    have hl0 : 0 < s.length := by omega
    obtain ⟨a, b, c⟩ := hs.2 (s.length - 1) (by omega)
    unfold topZ
    rw [if_neg (by omega)]
    by_cases e : s.getD (s.length - 1) 0 = y
    · rw [e]
    · have := c y (by omega) (by omega)
      omega
  · rename_i ho
    have ho0 : (ownL 0 ks).getD y 0 = 0 := by omega
    rw [ho0] at hst
    intro a ha
    obtain rfl : a = y + 1 := by omega
    unfold topZ
    by_cases e : s.length = 0
    · rw [if_pos e, if_pos (by omega)]
    · rw [if_neg e, if_neg (by omega)]
      obtain ⟨a, b, c⟩ := hs.2 (s.length - 1) (by omega)
      exact ⟨_, rfl, a, by omega, fun k p q => by have := c k p (by omega); omega⟩
theorem map_getD (f : Nat → Nat) (S : List Nat) (j : Nat) (h : j < S.length) : (S.map f).getD j 0 = f (S.getD j 0) := by
  simp [List.getD_eq_getElem?_getD, h]
/-- The places on the stack. -/
structure OStk (ks : List Nat) (i : Nat) (S : List Nat) : Prop where
  st : Stack (exc (val (ownL 0 ks))) (ah 0 ks i) (S.map (ah 0 ks))
  sp : ∀ p ∈ S, p < i ∧ ks.getD p 0 / 2 = 0
theorem OStk.nil (ks : List Nat) : OStk ks 0 [] := ⟨by rw [ah_zero]; exact Stack.nil (exc_Exc _), fun p h => by simp at h⟩
def topP (S : List Nat) : Int := if S.length = 0 then -1 else ((S.getD (S.length - 1) 0 : Nat) : Int)
theorem OStk.own {ks : List Nat} {i : Nat} {S : List Nat} (h : OStk ks i S) (hk : Kds ks) (hB : Bal (exc (val (ownL 0 ks))) (ownL 0 ks).length) (hi : i < ks.length) : OwnAt ks i (topP S) := by
  refine ⟨_, ownZ_stack hk hB hi h.st, ?_⟩
  unfold topZ topP
  rw [List.length_map]
  by_cases e : S.length = 0
  · rw [if_pos e, if_pos e]; exact .inl ⟨rfl, rfl⟩
  · rw [if_neg e, if_neg e, map_getD _ _ _ (by omega)]
    have hm : S.getD (S.length - 1) 0 ∈ S := by
      rw [List.getD_eq_getElem?_getD, List.getElem?_eq_getElem (by omega)]; exact List.getElem_mem _
    obtain ⟨a, b⟩ := h.sp _ hm
    exact .inr ⟨_, rfl, by omega, b, rfl⟩
theorem OStk.push {ks : List Nat} {i : Nat} {S : List Nat} (h : OStk ks i S) (hi : i < ks.length) (hk : ks.getD i 0 = 0) : OStk ks (i + 1) (S ++ [i]) := by
  have hst := step_of hi (by omega : ks.getD i 0 / 2 = 0)
  rw [hk] at hst
  refine ⟨?_, fun p hp => ?_⟩
  · rw [ah_next 0 ks i hi, if_pos (by omega), List.map_append]
    exact h.st.push (by rw [hst]; rfl)
  · rcases List.mem_append.1 hp with q | q
    · have := h.sp p q; exact ⟨by omega, this.2⟩
    · simp at q; subst q; exact ⟨by omega, by omega⟩
theorem OStk.pop {ks : List Nat} {i : Nat} {S : List Nat} (h : OStk ks i S) (hB : Bal (exc (val (ownL 0 ks))) (ownL 0 ks).length) (hi : i < ks.length) (hk : ks.getD i 0 = 1) : 0 < S.length ∧ OStk ks (i + 1) (S.take (S.length - 1)) := by
  have hs0 : ks.getD i 0 / 2 = 0 := by omega
  have hst := step_of hi hs0
  rw [hk] at hst
  have hst' : exc (val (ownL 0 ks)) (ah 0 ks i + 1) = exc (val (ownL 0 ks)) (ah 0 ks i) - 1 := by rw [hst]; omega
  have hlt := ah_lt 0 ks i hi hs0
  have h1 := hB.1 (ah 0 ks i + 1) (by omega)
  have h2 := h.st.1
  rw [List.length_map] at h2
  have h0 : 0 < S.length := by omega
  refine ⟨h0, ?_, fun p hp => ?_⟩
  · rw [ah_next 0 ks i hi, if_pos hs0, List.map_take]
    have := (h.st.pop hst' (by rw [List.length_map]; exact h0)).1
    rw [List.length_map] at this
    exact this
  · have := h.sp p (List.mem_of_mem_take hp); exact ⟨by omega, this.2⟩
theorem OStk.skip {ks : List Nat} {i : Nat} {S : List Nat} (h : OStk ks i S) (hi : i < ks.length) (hk : ks.getD i 0 / 2 ≠ 0) : OStk ks (i + 1) S :=
  ⟨by rw [ah_next 0 ks i hi, if_neg hk]; exact h.st, fun p hp => by have := h.sp p hp; exact ⟨by omega, this.2⟩⟩
/-- Who is whose mate, as a number. -/
def MatI (ks : List Nat) (p : Nat) (v : Int) : Prop := ∃ q : Nat, v = (q : Int) ∧ MateAt ks p q
theorem mate_lt (l : List Nat) (x : Int) (hB : Bal (exc (val l)) l.length) (y : Nat) (hy : y < l.length) (hm : MateOK (exc (val l)) y x) : ∃ z : Nat, x = (z : Int) ∧ z < l.length := by
  obtain ⟨z, rfl, hp⟩ := hm
  refine ⟨z, rfl, ?_⟩
  rcases hp with hp | hp
  · have hj := fwd_ex hB hy (m := exc (val l) y) (hB.1 y (by omega))
    obtain ⟨j, hj⟩ := hj
    have := (hj.pair (exc_Exc _) (hp.opens (exc_Exc _))).uniq hp
    have := hj.le
    have := hj.lt
    omega
  · have := hp.lt; omega
theorem matI_of {ks : List Nat} {s i : Nat} (hi : i < ks.length) (hs : ks.getD i 0 / 2 = s) (hB : Bal (exc (val (ownL s ks))) (ownL s ks).length) {x : Int} (hm : MateOK (exc (val (ownL s ks))) (ah s ks i) x) :
    ∃ z : Nat, x = (z : Int) ∧ z < (ownL s ks).length ∧ MatI ks i (((atN s ks ks.length).getD z 0 : Nat) : Int) := by
  obtain ⟨z, rfl, hz⟩ := mate_lt _ _ hB _ (ah_lt s ks i hi hs) hm
  obtain ⟨p, hp, hps, hpa⟩ := ah_find s ks z hz
  have := atN_get s ks p hps ks.length hp (Nat.le_refl _)
  rw [hpa] at this
  refine ⟨z, rfl, hz, p, by rw [this], hp, by rw [hps, hs], ?_⟩
  rw [hs, hpa]; exact hm
/-- The places come in order, each once. -/
theorem atN_back {ks : List Nat} {s y : Nat} (hy : y < (ownL s ks).length) : ∃ p, p < ks.length ∧ ks.getD p 0 / 2 = s ∧ ah s ks p = y ∧ (atN s ks ks.length).getD y 0 = p := by
  obtain ⟨p, hp, hps, hpa⟩ := ah_find s ks y hy
  have := atN_get s ks p hps ks.length hp (Nat.le_refl _)
  rw [hpa] at this
  exact ⟨p, hp, hps, hpa, this⟩
/-- Letters so far, of both sorts: so many are open. -/
structure Sof4 (ks : List Nat) (N r e : Nat) : Prop where
  kd : Kds ks
  len : ks.length = N
  s0 : Sofar (ownL 0 ks) (ownL 0 ks).length r
  s1 : Sofar (ownL 1 ks) (ownL 1 ks).length e
theorem Sof4.nil : Sof4 [] 0 0 0 := ⟨fun k h => by simp at h, rfl, Sofar.nil, Sofar.nil⟩
theorem kds_snoc {ks : List Nat} (h : Kds ks) {x : Nat} (hx : x < 4) : Kds (ks ++ [x]) := h.append fun k hk => by simp at hk; omega
theorem Sof4.add0 {ks : List Nat} {N r e : Nat} (h : Sof4 ks N r e) : Sof4 (ks ++ [0]) (N + 1) (r + 1) e := by
  refine ⟨kds_snoc h.kd (by omega), by rw [List.length_append, h.len]; rfl, ?_, ?_⟩
  · rw [ownL_app, ownL_one, if_pos (by decide), List.length_append]; exact h.s0.push
  · rw [ownL_app, ownL_one, if_neg (by decide), List.append_nil]; exact h.s1
theorem Sof4.add2 {ks : List Nat} {N r e : Nat} (h : Sof4 ks N r e) : Sof4 (ks ++ [2]) (N + 1) r (e + 1) := by
  refine ⟨kds_snoc h.kd (by omega), by rw [List.length_append, h.len]; rfl, ?_, ?_⟩
  · rw [ownL_app, ownL_one, if_neg (by decide), List.append_nil]; exact h.s0
  · rw [ownL_app, ownL_one, if_pos (by decide), List.length_append]; exact h.s1.push
theorem Sof4.add1 {ks : List Nat} {N r e : Nat} (h : Sof4 ks N (r + 1) e) : Sof4 (ks ++ [1]) (N + 1) r e := by
  refine ⟨kds_snoc h.kd (by omega), by rw [List.length_append, h.len]; rfl, ?_, ?_⟩
  · rw [ownL_app, ownL_one, if_pos (by decide), List.length_append]; exact h.s0.pop
  · rw [ownL_app, ownL_one, if_neg (by decide), List.append_nil]; exact h.s1
theorem Sof4.add3 {ks : List Nat} {N r e : Nat} (h : Sof4 ks N r (e + 1)) : Sof4 (ks ++ [3]) (N + 1) r e := by
  refine ⟨kds_snoc h.kd (by omega), by rw [List.length_append, h.len]; rfl, ?_, ?_⟩
  · rw [ownL_app, ownL_one, if_neg (by decide), List.append_nil]; exact h.s0
  · rw [ownL_app, ownL_one, if_pos (by decide), List.length_append]; exact h.s1.pop
theorem Sof4.bal {ks : List Nat} {N : Nat} (h : Sof4 ks N 0 0) : Bal (exc (val (ownL 0 ks))) (ownL 0 ks).length ∧ Bal (exc (val (ownL 1 ks))) (ownL 1 ks).length :=
  ⟨⟨h.s0.up, h.s0.open_⟩, ⟨h.s1.up, h.s1.open_⟩⟩
end Go.Proofs.YtagpdpacaoianaaGreatDoor
