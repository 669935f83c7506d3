/- A text, read as a map. -/
import Derived.Test.YtohlkhffljjodaaDoorZRFacts
namespace Go.Proofs.YtohlkhffljjodaaDoor
open Go.RowKit
set_option linter.unusedVariables false
set_option maxRecDepth 20000

theorem putN_len (row : List Int) (n : Nat) (t : List Int) : ∀ i s, putN row n t i = some s → s.length = t.length := by
  intro i
  induction i with
  | zero => intro s h; simp [putN] at h; rw [h]
  | succ i ih =>
    intro s h
    unfold putN at h
    cases hp : putN row n t i with
    | none => rw [hp] at h; simp at h
    | some u =>
      rw [hp] at h
      simp only at h
      split at h
      · simp at h
      · simp only [Option.some.injEq] at h
        rw [← h, List.length_set]; exact ih u hp
theorem putR_len (rs : List (List Int)) (n : Nat) : ∀ k s, putR rs n k = some s → s.length = n := by
  intro k
  induction k with
  | zero => intro s h; simp [putR] at h; rw [← h]; simp
  | succ k ih =>
    intro s h
    unfold putR at h
    cases hp : putR rs n k with
    | none => rw [hp] at h; simp at h
    | some u => rw [hp] at h; simp only at h; rw [putN_len _ _ _ _ _ h]; exact ih u hp
theorem turnsR_len {rs : List (List Int)} {E : Int} {z : List Int} (h : turnsR rs E = some z) : z.length = sumTo rs rs.length := by
  unfold turnsR at h
  split at h
  · exact putR_len _ _ _ _ h
  · simp at h
theorem MapLo.lower {lo lo' : Nat} {w : World} {g : Nat} (h : MapLo lo w g) (k : lo' ≤ lo) : MapLo lo' w g := by
  obtain ⟨p, A, n, c, S, k', d, q, A', n', c', S', k2, d', rt, ln, hb, h0, hp, hq, i1, i2, i3, i4⟩ := h
  exact ⟨p, A, n, c, S, k', d, q, A', n', c', S', k2, d', rt, ln, hb, Nat.le_trans k h0, hp.le k, hq.le k, fun a e => Nat.le_trans k (i1 a e), fun a e => Nat.le_trans k (i2 a e), fun a e => Nat.le_trans k (i3 a e), fun a e => Nat.le_trans k (i4 a e)⟩
def NoMap (e : Ending) (k E : Int) : Prop := e = .returned (.tuple #[.pointer none, .int .i64 k, .int .i64 E])
def ParsePost (w : World) (l : List Int) (e : Ending) (w' : World) : Prop :=
  Below w.heap.size w w' ∧ match lineF 0 (splitL 10 l) with
  | .error k => NoMap e (k : Int) 13
  | .ok rs => match turnsR (rs.drop 1) ((rs.getD 0 []).getD 0 0) with
    | none => NoMap e 0 4
    | some z => ∃ E, ErrIs z ((rs.getD 0 []).getD 1 0) ((rs.getD 0 []).getD 2 0) z.length E ∧ (E ≠ 0 → NoMap e 0 E) ∧
      (E = 0 → ∃ g m b, e = .returned (.tuple #[.pointer (some ⟨g, 0, none⟩), .int .i64 (rs.length : Int), .int .i64 0]) ∧ z = ofN m ∧ MapAt w' g m b ((rs.getD 0 []).getD 1 0) ((rs.getD 0 []).getD 2 0) ∧ MapLo w.heap.size w' g)
set_option maxHeartbeats 4000000 in
theorem parse_p (A : Option Addr) (n c B : Nat) (l : List Int) (m : Int) (w : World) (h : Rd w B A n (Z8 l)) (hl8 : Byt l) (hnc : n ≤ c) (hc : c ≤ maxLen) (hA : A = none → c = 0) (hs : n ≤ 100000) (hB : B ≤ w.heap.size)
    (hm : w.cell? ⟨0, 0, none⟩ = some (.int .i64 m)) :
    Calls Tryd.prog 12 #[.slice A n c] w (ParsePost w l) := by
  have hln : l.length = n := by rw [← h.len, Z8_len]
  have RD := Lib.hid (read_p A n c B l m w h hl8 hnc hc hA (by omega) hB hm)
  have LA := Lib.hid (fun rs (e : lineF 0 (splitL 10 l) = .ok rs) => lines_are e)
  have HLN := Lib.hid hln
  clear h hl8 hm hA hln
  go_enter Tryd.func12, Tryd.ntmps12
  go_wp2_with fail
  refine RD.out.mono ?_
  rintro e w1 ⟨b1, hv⟩
  have B1 := Lib.hid b1
  clear b1 RD
  cases hf : lineF 0 (splitL 10 l) with
  | error k =>
    rw [hf] at hv
    simp only at hv
    subst hv
    have hk := lineF_pos _ _ _ hf
    have hkb : ((k : Int) != 0) = true := bne_iff_ne.2 (by omega)
    have HF := Lib.hid hf
    clear hf
    go_wp2_with fail
    go_ret3
    exact ⟨B1.out, by rw [HF.out]; rfl⟩
  | ok rs =>
    rw [hf] at hv
    simp only at hv
    obtain ⟨g, vs, rfl, hblk, hvl, hg, hrows⟩ := hv
    obtain ⟨k1, k2, k3, k4, k5, k6, k7⟩ := LA.out rs hf
    have HF := Lib.hid hf
    obtain ⟨r0, rest, rfl⟩ : ∃ r0 rest, rs = r0 :: rest := by
      cases rs with
      | nil => exact absurd rfl k2
      | cons a b => exact ⟨a, b, rfl⟩
    obtain ⟨A0, c0, ev, own0⟩ := hrows 0 (by simp)
    simp only [List.getD_cons_zero] at k3 k4 k5 ev own0
    rw [k3] at ev own0
    obtain ⟨b, o, rfl, hb, kk⟩ := (Rd.ofOwn own0).i64 (by omega)
    have x0 := kk 0 (by omega)
    have x1 := kk 1 (by omega)
    have x2 := kk 2 (by omega)
    rw [Nat.add_zero] at x0
    have xr : w1.cell? ⟨g, 0, none⟩ = some (.slice (some ⟨b, o, none⟩) 3 c0) := by
      have := hblk.cell 0
      rw [this]
      simpa using ev
    obtain ⟨R, hR⟩ : ∃ R, R = rest.length := ⟨_, rfl⟩
    have hvR : vs.length = R + 1 := by rw [hvl, hR]; rfl
    have hrr : RowsRd w1 w1.heap.size (vs.drop 1) rest := fun k hk => by
      obtain ⟨A', c', e1, e2⟩ := hrows (k + 1) (by simpa using hk)
      rw [List.getD_cons_succ] at e1 e2
      exact ⟨A', c', by rw [List.getElem?_drop, Nat.add_comm]; exact e1, Rd.ofOwn e2⟩
    have hgs : g < w1.heap.size := hblk.lt
    have hrd : Rd w1 w1.heap.size (some ⟨g, 0, none⟩) (R + 1) vs := by
      refine ⟨hvR, fun _ => ⟨g, 0, rfl, hgs, fun j hj => ?_⟩⟩
      have := hblk.cell j
      rw [Nat.zero_add, this]
      simp [List.getElem?_eq_getElem hj]
    have hrd1 : 0 < R → Rd w1 w1.heap.size (some ⟨g, 1, none⟩) R (vs.drop 1) := fun _ => by
      have := hrd.drop 1
      simpa using this
    have hs1 : sumTo rest R ≤ 131072 := by
      have := k6
      rw [List.length_cons, sumTo_cons, ← hR, HLN.out] at this
      omega
    have hR1 : R ≤ 131072 := by
      have := k1
      rw [HLN.out] at this
      simp at this
      omega
    have hx7 : ∀ k, k < R → ∀ x ∈ rest.getD k [], 0 ≤ x ∧ x < 1000000000 := fun k hk x hx => k7 (k + 1) (by omega) (by simp; omega) x (by rw [List.getD_cons_succ]; exact hx)
    have PS : ∀ e w', Below w1.heap.size w1 w' → (match turnsR rest (r0.getD 0 0) with
      | none => NoMap e 0 4
      | some z => ∃ E, ErrIs z (r0.getD 1 0) (r0.getD 2 0) z.length E ∧ (E ≠ 0 → NoMap e 0 E) ∧
        (E = 0 → ∃ g m b, e = .returned (.tuple #[.pointer (some ⟨g, 0, none⟩), .int .i64 ((R : Int) + 1), .int .i64 0]) ∧ z = ofN m ∧ MapAt w' g m b (r0.getD 1 0) (r0.getD 2 0) ∧ MapLo w.heap.size w' g)) → ParsePost w l e w' := by
      intro e w' hbw hv
      refine ⟨B1.out.trans (hbw.mono B1.out.size), ?_⟩
      rw [HF.out]
      simp only [List.drop_succ_cons, List.drop_zero, List.getD_cons_zero, List.length_cons]
      rw [← hR]
      exact hv
    have HPS := Lib.hid PS
    have TP : ∀ W nq A', W = w1.drewN nq → (0 < R → A' = some ⟨g, 1, none⟩) → Calls Tryd.prog 34 #[.slice A' R R, .int .i64 (r0.getD 0 0)] W (TurnPost W (turnsR rest (r0.getD 0 0))) := by
      intro W nq A' hW hA'
      refine turns_p A' R R (r0.getD 0 0) (vs.drop 1) rest W ?_ ?_ hR.symm ⟨k4, k5⟩ hs1 hR1 hx7
      · by_cases h0 : 0 < R
        · rw [hA' h0, hW]; exact (hrd1 h0).drewN nq
        · obtain rfl : R = 0 := by omega
          have : vs.drop 1 = [] := List.eq_nil_of_length_eq_zero (by simp; omega)
          rw [this]; exact Rd.nil _ _ _
      · rw [hW]
        intro k hk
        obtain ⟨A2, c2, e1, e2⟩ := hrr k hk
        exact ⟨A2, c2, e1, e2.drewN nq⟩
    have HTP := Lib.hid TP
    have ZL := Lib.hid (fun z (e : turnsR rest (r0.getD 0 0) = some z) => show z.length ≤ 131072 by rw [turnsR_len e, ← hR]; exact hs1)
    rw [show (r0 :: rest).length = R + 1 from by rw [List.length_cons, hR]]
    have HW1 := Lib.hid hg
    clear ev own0 kk hf LA hrr hrd hrd1 hs1 hx7 PS TP hblk hrows hvl hvR k1 k2 k3 k6 k7 HF hg hR
    generalize r0.getD 0 0 = E0 at *
    generalize r0.getD 1 0 = E1 at *
    generalize r0.getD 2 0 = E2 at *
    go_wp2_with fail
    go_quiet (fail)
    have BQ : Hid (Below w1.heap.size w1 (w1.drewN nq)) := below_draws (Below.refl _ _) nq
    have HTP2 := Lib.hid (fun A' hA' => HTP.out _ nq A' rfl hA')
    clear HTP x0 x1 x2 xr
    generalize w1.drewN nq = w2 at *
    by_cases hR0 : R = 0
    all_goals (
      first
      | (subst hR0
         go_wp2_with fail
         refine (HTP2.out _ (fun h => absurd h (by omega))).mono ?_)
      | (have hRp : 0 < R := by omega
         go_wp2_with fail
         refine (HTP2.out _ (fun _ => rfl)).mono ?_)
      rintro e w3 ⟨b3, hv⟩
      have B3 : Hid (Below w1.heap.size w1 w3) := BQ.out.trans (b3.mono BQ.out.size)
      clear b3
      cases ht : turnsR rest E0 with
      | none =>
        rw [ht] at hv
        simp only at hv
        subst hv
        have HTN := Lib.hid ht
        clear ht
        go_wp2_with fail
        go_ret3
        exact HPS.out _ _ B3.out (by rw [HTN.out]; rfl)
      | some z =>
        rw [ht] at hv
        simp only at hv
        obtain ⟨A5, rfl, own5⟩ := hv
        obtain ⟨E, hE⟩ := errIs_some z E1 E2 z.length
        have NW := Lib.hid (new_p A5 z.length z.length z E1 E2 E w3 (Rd.ofOwn own5) (ZL.out z ht) hE)
        have HTN := Lib.hid ht
        have HE := Lib.hid hE
        clear ht own5 hE
        go_wp2_with fail
        refine NW.out.mono ?_
        rintro e w4 ⟨vp, rfl, b4, hn, hy⟩
        have B4 : Hid (Below w1.heap.size w1 w4) := B3.out.trans (b4.mono B3.out.size)
        have HWW : Hid (w.heap.size ≤ w3.heap.size) := Nat.le_trans B1.out.size B3.out.size
        clear b4
        by_cases hE0 : E = 0
        · subst hE0
          obtain ⟨g', l', b', rfl, hz, hmp, hlo⟩ := hy rfl
          have Y := Lib.hid (And.intro hz (And.intro hmp hlo))
          clear hn hy hz hmp hlo
          go_wp2_with fail
          go_ret3
          exact HPS.out _ _ B4.out (by rw [HTN.out]; exact ⟨0, HE.out, fun h => absurd rfl h, fun _ => ⟨g', l', b', rfl, Y.out.1, Y.out.2.1, Y.out.2.2.lower HWW.out⟩⟩)
        · obtain rfl := hn hE0
          have hEb : (E != 0) = true := bne_iff_ne.2 hE0
          clear hn hy
          go_wp2_with fail
          go_ret3
          exact HPS.out _ _ B4.out (by rw [HTN.out]; exact ⟨E, HE.out, fun _ => rfl, fun h => absurd h hE0⟩))
end Go.Proofs.YtohlkhffljjodaaDoor
