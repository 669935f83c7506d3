/- Counts of the kinds ahead, and who owns a letter: mathematics. -/
import Derived.Test.YtagpdpacaoianaaGreatDoorZMOwnM
import Derived.Test.YtagpdpacaoianaaGreatDoorZMAwake
import Derived.Test.YtagpdpacaoianaaGreatDoorZMCnt
namespace Go.Proofs.YtagpdpacaoianaaGreatDoor
set_option linter.unusedVariables false
theorem cnt_four {ks : List Nat} (h : Kds ks) : cntK 0 ks + cntK 1 ks + cntK 2 ks + cntK 3 ks = ks.length := by
  induction ks with
  | nil => rfl
  | cons x ks ih =>
    have h1 := ih (fun k hk => h k (List.mem_cons_of_mem _ hk))
    have h2 := h x (List.mem_cons_self ..)
    have e : ∀ k, cntK k (x :: ks) = (if x = k then 1 else 0) + cntK k ks := fun k => by
      unfold cntK
      by_cases c : x = k <;> simp [c]; omega
    rw [e, e, e, e, List.length_cons]
    rcases (by omega : x = 0 ∨ x = 1 ∨ x = 2 ∨ x = 3) with rfl | rfl | rfl | rfl <;> simp <;> omega
theorem exc_diff {ks : List Nat} (h : Kds ks) (s x : Nat) (hx : x ≤ ks.length) : exc (val (ownL s ks)) (ah s ks x) = (cntK (2 * s) (ks.take x) : Int) - (cntK (2 * s + 1) (ks.take x) : Int) := by
  obtain ⟨h1, h2⟩ := ownL_cnt s (ks.take x) (h.take x)
  have h3 : ah s ks x = (ownL s (ks.take x)).length := rfl
  rw [exc_pop _ (ownL_bin s ks) _ (ah_end s ks x hx), ← ownL_take, h1, h3, h2]
  omega
theorem stk_ex {ks : List Nat} (hk : Kds ks) (hB : Bal (exc (val (ownL 0 ks))) (ownL 0 ks).length) : ∀ x, x ≤ ks.length → ∃ S, OStk ks x S
  | 0, _ => ⟨[], OStk.nil ks⟩
  | x + 1, h => by
    obtain ⟨S, hS⟩ := stk_ex hk hB x (by omega)
    have h4 := hk.getD x
    by_cases h0 : ks.getD x 0 = 0
    · exact ⟨_, hS.push (by omega) h0⟩
    · by_cases h1 : ks.getD x 0 = 1
      · exact ⟨_, (hS.pop hB (by omega) h1).2⟩
      · exact ⟨S, hS.skip (by omega) (by omega)⟩
/-- What is to be known of the owner r of the letter x. -/
def OwnF (ks : List Nat) (x : Nat) (r : Int) : Prop :=
  (r = -1 ∧ cntK 0 (ks.take x) = cntK 1 (ks.take x)) ∨ ∃ p : Nat, r = (p : Int) ∧ p < x ∧ ks.getD p 0 = 0 ∧ ∀ c, MateAt ks p c → x ≤ c ∧ ks.getD c 0 = 1 ∧ (ks.getD x 0 = 1 → c = x)
theorem own_f {ks : List Nat} (hk : Kds ks) (hB : Bal (exc (val (ownL 0 ks))) (ownL 0 ks).length) {x : Nat} (hx : x < ks.length) {r : Int} (hr : OwnAt ks x r) : OwnF ks x r := by
  obtain ⟨S, hS⟩ := stk_ex hk hB x (by omega)
  have hE := exc_Exc (val (ownL 0 ks))
  have ho := hS.own hk hB hx
  obtain rfl := hr.uniq ho
  have hst := hS.st
  have hdf := exc_diff hk 0 x (by omega)
  rw [show 2 * 0 = 0 from rfl, show 0 + 1 = 1 from rfl] at hdf
  have hl := hst.1
  rw [List.length_map] at hl
  unfold topP
  by_cases h0 : S.length = 0
  · rw [if_pos h0]
    exact .inl ⟨rfl, by omega⟩
  rw [if_neg h0]
  have hm : S.getD (S.length - 1) 0 ∈ S := by
    rw [List.getD_eq_getElem?_getD, List.getElem?_eq_getElem (by omega)]; exact List.getElem_mem _
  obtain ⟨hp, hps⟩ := hS.sp _ hm
  obtain ⟨a, b, c⟩ := hst.2 (S.length - 1) (by rw [List.length_map]; omega)
  rw [map_getD _ _ _ (by omega)] at a b c
  generalize hpp : S.getD (S.length - 1) 0 = p at *
  have hop : exc (val (ownL 0 ks)) (ah 0 ks p + 1) = exc (val (ownL 0 ks)) (ah 0 ks p) + 1 := by
    have := c (ah 0 ks p + 1) (by omega) (by omega)
    rcases hE.step (ah 0 ks p) with q | q <;> omega
  have hsp := step_of (ks := ks) (i := p) (by omega) hps
  have hk4 := hk.getD p
  refine .inr ⟨p, rfl, hp, by omega, fun q hq => ?_⟩
  obtain ⟨q1, q2, q3⟩ := hq
  rw [hps] at q2 q3
  obtain ⟨y, hy, hpr⟩ := q3
  obtain rfl : y = ah 0 ks q := by omega
  have hpr : Pair (exc (val (ownL 0 ks))) (ah 0 ks p) (ah 0 ks q) := by
    rcases hpr with w | w
    · exact w
    · have := w.closes hE; omega
  have hsame := hpr.same
  have hcl := hpr.closes hE
  have hsq := step_of (ks := ks) (i := q) q1 q2
  have hq4 := hk.getD q
  have hqx : x ≤ q := by
    rcases Nat.lt_or_ge q x with w | w
    · have h1 := ah_next 0 ks q q1
      rw [if_pos q2] at h1
      have h2 := ah_mono 0 ks (q + 1) (x - (q + 1)) (by omega)
      rw [show q + 1 + (x - (q + 1)) = x by omega] at h2
      have := c (ah 0 ks q + 1) (by have := hpr.lt; omega) (by omega)
      omega
    · exact w
  refine ⟨hqx, by omega, fun h1 => ?_⟩
  obtain ⟨z, hz, hor⟩ := ho
  unfold topP at hor
  rw [if_neg h0, hpp] at hor
  unfold OwnZ at hz
  rw [if_pos h1] at hz
  obtain ⟨p', e1, e2, e3, e4⟩ : ∃ p' : Nat, ((p : Nat) : Int) = (p' : Int) ∧ p' < ks.length ∧ ks.getD p' 0 / 2 = 0 ∧ z = ((ah 0 ks p' : Nat) : Int) := by
    rcases hor with ⟨_, w⟩ | w
    · omega
    · exact w
  obtain rfl : p = p' := by omega
  rw [e4] at hz
  have := hz.back.uniq hE ⟨_, rfl, .inl hpr⟩
  exact ah_uniq 0 ks q x q1 hx q2 (by omega) (by omega)
section
variable {w0 w w' : World} {m gx p0 g0 p1 g1 q : Nat} {ks : List Nat}
/-- A row of numbers elsewhere does not matter to the index. -/
theorem Mx.off (h : Mx w0 w m gx p0 g0 p1 g1 ks q) {gn : Nat} {T : TypeId} {cs : Array Value} (ht : T ≠ 111 ∧ T ≠ 119 ∧ T ≠ 79 ∧ T ≠ 72 ∧ T ≠ 97 ∧ T ≠ 137) (md : Mod (fun i => i = gn) w w') (hb : Blk w gn T cs) (hlo : w0.heap.size ≤ gn) : Mx w0 w' m gx p0 g0 p1 g1 ks q := by
  obtain ⟨t1, t2, t3, t4, t5, t6⟩ := ht
  obtain ⟨d, k, hk, hx⟩ := h.ix
  obtain ⟨d0, ha⟩ := h.pa
  obtain ⟨d1, hbb⟩ := h.pb
  obtain ⟨cx, bx⟩ := hx.blk_
  obtain ⟨ca, ba⟩ := ha.blk_
  obtain ⟨cb', bb⟩ := hbb.blk_
  obtain ⟨cga, bga⟩ := ha.gblk
  obtain ⟨cgb, bgb⟩ := hbb.gblk
  refine ⟨h.blk.mod md fun e => ?_, ⟨d, k, hk, hx.apart md fun i hi => ?_⟩, ⟨d0, ha.apart md fun i hi => ?_⟩, ⟨d1, hbb.apart md fun i hi => ?_⟩, h.ne, h.lo, h.kd, h.b0, h.b1, h.bel.trans (md.belowB h.bel.size fun i hi e => by omega), h.nul, h.tab⟩
  · exact t3 (blk_ty (e ▸ hb) h.blk)
  · subst hi
    exact ⟨fun e => t1 (blk_ty (e ▸ hb) bx), _, _, hb, t4, t5⟩
  · subst hi
    exact ⟨fun e => t1 (blk_ty (e ▸ hb) bga), fun e => t2 (blk_ty (e ▸ hb) ba), _, _, hb, t4, t5, t6⟩
  · subst hi
    exact ⟨fun e => t1 (blk_ty (e ▸ hb) bgb), fun e => t2 (blk_ty (e ▸ hb) bb), _, _, hb, t4, t5, t6⟩
end
end Go.Proofs.YtagpdpacaoianaaGreatDoor
