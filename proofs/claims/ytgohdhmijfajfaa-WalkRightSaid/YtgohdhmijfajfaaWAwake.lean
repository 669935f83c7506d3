/- The document's examples of layer 9. -/
import Derived.Test.YtgohdhmijfajfaaWSteps
namespace Go.Proofs.Ytgohdhmijfajfaa
set_option maxRecDepth 20000
open Go.RowKit
set_option linter.unusedVariables false
theorem wN_eq {sg nm : Nat → Nat} {m V r N : Nat} (h1 : 1 ≤ N) (h2 : (wrun sg nm m V r N).d = r) (h3 : ∀ j, 1 ≤ j → j < N → (wrun sg nm m V r j).d ≠ r) : wN sg nm m V r = N := by
  have hx : ∃ N, 1 ≤ N ∧ (wrun sg nm m V r N).d = r ∧ ∀ j, 1 ≤ j → j < N → (wrun sg nm m V r j).d ≠ r := ⟨N, h1, h2, h3⟩
  have e : wN sg nm m V r = hx.choose := by unfold wN; rw [dif_pos hx]
  obtain ⟨c1, c2, c3⟩ := hx.choose_spec
  rw [← e] at c1 c2 c3
  rcases Nat.lt_trichotomy (wN sg nm m V r) N with x | x | x
  · exact absurd c2 (h3 _ c1 x)
  · exact x
  · exact absurd h2 (c3 N h1 x)
theorem walk_sw {sg nm : Nat → Nat} {V : Nat} (s0 : sg 0 = 1) (s1 : sg 1 = 0) (hn : nm 1 = nm 0) (hV : nm 0 < V) : wN sg nm 1 V 0 = 2 ∧ wst sg nm 1 V 0 2 = [0, 2, 1, 3] := by
  have hM : ((List.replicate V false).set (nm 0) true).getD (nm 0) false = true := by rw [getB_set _ _ _ _ (by simpa using hV), if_pos rfl]
  have r0 : wrun sg nm 1 V 0 0 = ⟨0, [-1], (List.replicate V false).set (nm 0) true⟩ := rfl
  have k0 : (wrun sg nm 1 V 0 0).k nm = 2 := by
    rw [r0]
    show wKd nm [-1] _ 0 = 2
    unfold wKd
    rw [if_neg (by decide), if_neg (by decide), show mt 0 = 1 from rfl, hn, if_pos hM]
  have r1 : wrun sg nm 1 V 0 1 = ⟨1, [2], (List.replicate V false).set (nm 0) true⟩ := by
    show (wrun sg nm 1 V 0 0).next sg nm = _
    unfold WS.next
    rw [k0, r0]
    show WS.mk (sg 0) _ _ = _
    rw [s0]; simp [wK1, wM1]
  have k1 : (wrun sg nm 1 V 0 1).k nm = 3 := by rw [r1]; simp [WS.k, wKd]
  have d2 : (wrun sg nm 1 V 0 2).d = 0 := by
    show wNx sg (wrun sg nm 1 V 0 1).d ((wrun sg nm 1 V 0 1).k nm) = 0
    rw [k1, r1]
    show sg 1 = 0
    exact s1
  refine ⟨wN_eq (by omega) d2 (fun j j1 j2 => ?_), ?_⟩
  · obtain rfl : j = 1 := by omega
    rw [r1]; simp
  · unfold wst wst wst
    rw [k0, k1, r1, r0]; rfl
theorem walk_id {sg nm : Nat → Nat} {V : Nat} (s0 : sg 0 = 0) (s1 : sg 1 = 1) (hn : nm 1 ≠ nm 0) (hV : nm 0 < V) : wN sg nm 1 V 0 = 2 ∧ wst sg nm 1 V 0 2 = [0, 0, 1, 1] := by
  have hM : ((List.replicate V false).set (nm 0) true).getD (nm 1) false ≠ true := by
    rw [getB_set _ _ _ _ (by simpa using hV), if_neg hn]
    simp [List.getD_eq_getElem?_getD, List.getElem?_replicate]
    split <;> simp
  have r0 : wrun sg nm 1 V 0 0 = ⟨0, [-1], (List.replicate V false).set (nm 0) true⟩ := rfl
  have k0 : (wrun sg nm 1 V 0 0).k nm = 0 := by
    rw [r0]
    show wKd nm [-1] _ 0 = 0
    unfold wKd
    rw [if_neg (by decide), if_neg (by decide), show mt 0 = 1 from rfl, if_neg hM]
  have r1 : wrun sg nm 1 V 0 1 = ⟨1, [0], ((List.replicate V false).set (nm 0) true).set (nm 1) true⟩ := by
    show (wrun sg nm 1 V 0 0).next sg nm = _
    unfold WS.next
    rw [k0, r0]
    show WS.mk (sg 1) _ _ = _
    rw [s1]; simp [wK1, wM1, mt]
  have k1 : (wrun sg nm 1 V 0 1).k nm = 1 := by rw [r1]; simp [WS.k, wKd]
  have d2 : (wrun sg nm 1 V 0 2).d = 0 := by
    show wNx sg (wrun sg nm 1 V 0 1).d ((wrun sg nm 1 V 0 1).k nm) = 0
    rw [k1, r1]
    show sg 0 = 0
    exact s0
  refine ⟨wN_eq (by omega) d2 (fun j j1 j2 => ?_), ?_⟩
  · obtain rfl : j = 1 := by omega
    rw [r1]; simp
  · unfold wst wst wst
    rw [k0, k1, r1, r0]; rfl
def swW : List Nat := [1, 0]
def idW : List Nat := [0, 1]
theorem swW_inv : Inv swW swW := ⟨rfl, by decide, by decide, by decide, by decide⟩
theorem idW_inv : Inv idW idW := ⟨rfl, by decide, by decide, by decide, by decide⟩
theorem sizes_swW : (sizes swW).length = 1 := by rw [sizes_is swW_inv]; decide
theorem sizes_idW : (sizes idW).length = 2 := by rw [sizes_is idW_inv]; decide
theorem nm_swW : nameOf swW 1 = nameOf swW 0 := (nm_ok swW_inv 1 0 (by decide) (by decide)).2 ⟨1, rfl⟩
theorem nm_idW : nameOf idW 1 ≠ nameOf idW 0 := fun e => by
  obtain ⟨k, h⟩ := (nm_ok idW_inv 1 0 (by decide) (by decide)).1 e
  have : ∀ k, itf (sgL idW) k 1 = 1 := fun k => by
    induction k with
    | zero => rfl
    | succ k ih => show sgL idW _ = 1; rw [ih]; rfl
  rw [this] at h
  omega
set_option maxHeartbeats 4000000 in
theorem awake9_p (w : World) :
    Calls Try.prog 8 #[] w fun e w' => e = .returned (.bool true) ∧ Below w.heap.size w w' := by
  have r1 : Rd (w.alloc (.cells #[.int .i64 1, .int .i64 0] 3)) (w.alloc (.cells #[.int .i64 1, .int .i64 0] 3)).heap.size (some ⟨w.heap.size, 0, none⟩) 2 (I64 (ofN swW)) := (Rd.new w 3 #[.int .i64 1, .int .i64 0] 2 _ (by simp [I64, ofN, swW]) (by simp)).up (by simp)
  have N1 := Lib.hid (new_ok _ 2 2 swW swW 0 0 _ r1 swW_inv (by decide) (by omega) (.inr (by omega)) (by omega) (by omega))
  clear r1
  go_enter Try.func8, Try.ntmps8
  go_wp2_with fail
  refine N1.out.mono ?_
  rintro e w1 ⟨a, rfl, hm1, b1, _⟩
  have B1 : Hid (Below w.heap.size w w1) := ((Below.refl _ _).alloc (Nat.le_refl _) _).trans (b1.mono (by simp))
  have r2 : Rd (w1.alloc (.cells #[.int .i64 0, .int .i64 1] 3)) (w1.alloc (.cells #[.int .i64 0, .int .i64 1] 3)).heap.size (some ⟨w1.heap.size, 0, none⟩) 2 (I64 (ofN idW)) := (Rd.new w1 3 #[.int .i64 0, .int .i64 1] 2 _ (by simp [I64, ofN, idW]) (by simp)).up (by simp)
  have N2 := Lib.hid (new_ok _ 2 2 idW idW 0 0 _ r2 idW_inv (by decide) (by omega) (.inr (by omega)) (by omega) (by omega))
  have HMA := Lib.hid hm1
  clear r2 hm1 b1 N1
  go_wp2_with fail
  refine N2.out.mono ?_
  rintro e w2 ⟨b, rfl, hm2, b2, _⟩
  have z0 := (Below.refl w1.heap.size w1).alloc (Nat.le_refl _) (.cells #[.int .i64 0, .int .i64 1] 3)
  have B2' := z0.trans (b2.mono z0.size)
  have B2 : Hid (Below w.heap.size w w2) := B1.out.trans (B2'.mono B1.out.size)
  have O1 := walkOf_p a swW swW 0 0 0 1 1 w2 (HMA.out.below B2') swW_inv (by decide) (by decide) (by rw [sizes_swW]; rfl)
  rw [(walk_sw (sg := sgL swW) (nm := nameOf swW) (V := 1) rfl rfl nm_swW (nm_lt swW_inv (by rw [sizes_swW]; omega) 0 (by decide))).1, (walk_sw (sg := sgL swW) (nm := nameOf swW) (V := 1) rfl rfl nm_swW (nm_lt swW_inv (by rw [sizes_swW]; omega) 0 (by decide))).2] at O1
  have OA := Lib.hid O1
  have HMB := Lib.hid hm2
  clear O1 b2 z0 B2' hm2 HMA N2 B1
  go_wp2_with fail
  refine OA.out.mono ?_
  rintro e w3 ⟨A3, c3, rfl, own3, z3⟩
  have O2 := walkOf_p b idW idW 0 0 0 1 2 w3 (HMB.out.below z3) idW_inv (by decide) (by decide) (by rw [sizes_idW]; rfl)
  rw [(walk_id (sg := sgL idW) (nm := nameOf idW) (V := 2) rfl rfl nm_idW (nm_lt idW_inv (by rw [sizes_idW]; omega) 0 (by decide))).1, (walk_id (sg := sgL idW) (nm := nameOf idW) (V := 2) rfl rfl nm_idW (nm_lt idW_inv (by rw [sizes_idW]; omega) 0 (by decide))).2] at O2
  have OB := Lib.hid O2
  have R3 := Lib.hid (RdS.own own3)
  have B3 := Lib.hid (B2.out.trans (z3.mono B2.out.size))
  clear O2 own3 z3 HMB OA B2
  go_wp2_with fail
  refine OB.out.mono ?_
  rintro e w4 ⟨A4, c4, rfl, own4, z4⟩
  have R4 := Lib.hid (RdS.own own4)
  have WA := Lib.hid (wword_p A3 2 c3 _ _ w4 (R3.out.below z4) z4.size (by omega))
  have B4 := Lib.hid (B3.out.trans (z4.mono B3.out.size))
  have k1 : kindsN [0, 2, 1, 3] 2 = [2, 3] := by decide
  have k2 : kindsN [0, 0, 1, 1] 2 = [0, 1] := by decide
  rw [k1] at WA
  have HK2 := Lib.hid k2
  clear own4 z4 OB B3 R3 k1 k2
  go_wp2_with fail
  refine WA.out.mono ?_
  rintro e w5 ⟨g5, rfl, hw5, z5⟩
  have TA := Lib.hid (mtext_p _ g5 _ w5 hw5 (by decide))
  have B5 := Lib.hid (B4.out.trans (z5.mono B4.out.size))
  have R5 := Lib.hid (R4.out.below z5)
  have hz5 := z5.size
  clear hw5 z5 WA B4 R4
  go_wp2_with fail
  refine TA.out.mono ?_
  rintro e w6 ⟨rfl, z6⟩
  have WB := wword_p A4 2 c4 _ _ w6 (R5.out.below (z6.mono hz5)) (Nat.le_trans hz5 z6.size) (by omega)
  rw [HK2.out] at WB
  have WBB := Lib.hid WB
  have B6 := Lib.hid (B5.out.trans (z6.mono B5.out.size))
  have t1 : textM [2, 3] = { data := #[91, 93] } := by rfl
  have t2 : textM [0, 1] = { data := #[40, 41] } := by rfl
  have HT2 := Lib.hid t2
  rw [t1]
  clear z6 WB R5 B5 TA t1 t2
  go_wp2_with fail
  refine WBB.out.mono ?_
  rintro e w7 ⟨g7, rfl, hw7, z7⟩
  have TB := Lib.hid (mtext_p _ g7 _ w7 hw7 (by decide))
  have B7 := Lib.hid (B6.out.trans (z7.mono B6.out.size))
  clear hw7 z7 WBB B6
  go_wp2_with fail
  refine TB.out.mono ?_
  rintro e w8 ⟨rfl, z8⟩
  have B8 := Lib.hid (B7.out.trans (z8.mono B7.out.size))
  rw [HT2.out]
  clear z8 TB B7
  go_wp2_with fail
  go_ret
  exact ⟨rfl, B8.out⟩
end Go.Proofs.Ytgohdhmijfajfaa
