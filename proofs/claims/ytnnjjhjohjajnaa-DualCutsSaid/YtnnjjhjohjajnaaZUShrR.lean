/- The document's Shrink. -/
import Derived.Test.YtnnjjhjohjajnaaZUCutR
namespace Go.Proofs.Ytnnjjhjohjajnaa
set_option maxRecDepth 100000
open Go.RowKit
set_option linter.unusedVariables false
set_option maxHeartbeats 4000000 in
theorem rshrink_p (A : Option Addr) (c : Nat) (l b : List Nat) (r : Nat) (lone : Int) (e : Nat) (w : World)
    (h : Rd w w.heap.size A l.length (I64 (ofN l))) (hinv : Inv l b) (hev : l.length % 2 = 0) (hn : l.length ≤ 100000) (hr : r < l.length) (hE : 2 * e + 2 ≤ l.length) (hl0 : 0 ≤ lone) (hl1 : lone ≤ 60000) (hne : nameOf l (2 * e) ≠ nameOf l (2 * e + 1)) :
    Calls Try.prog 12 #[.agg #[.slice A l.length c, .int .i64 (r : Int), .int .i64 lone], .int .i64 (e : Int)] w
      (NewRO w (woN l (phiL l) e) (heirN l b r e) (lone + if degOf l lone (nameOf l (2 * e) : Nat) + degOf l lone (nameOf l (2 * e + 1) : Nat) = 2 then 1 else 0)) := by
  have he : e < l.length / 2 := by omega
  obtain ⟨i0, hi0, hz0, hz1, hz2⟩ := info_parts info_ints
  obtain ⟨a0, ha0⟩ : ∃ a0, a0 = 2 * e := ⟨_, rfl⟩
  obtain ⟨a1, ha1⟩ : ∃ a1, a1 = 2 * e + 1 := ⟨_, rfl⟩
  have i1 : 2 * (e : Int) = (a0 : Int) := by omega
  have i2 : (a0 : Int) + 1 = (a1 : Int) := by omega
  have l0 : a0 < l.length := by omega
  have l1 : a1 < l.length := by omega
  have l0i : (a0 : Int) < (l.length : Int) := by omega
  have l1i : (a1 : Int) < (l.length : Int) := by omega
  have w0i : IntKind.i64.wrap (a0 : Int) = (a0 : Int) := by simp [IntKind.wrap, IntKind.signed, IntKind.bits]; omega
  have w1i : IntKind.i64.wrap (a1 : Int) = (a1 : Int) := by simp [IntKind.wrap, IntKind.signed, IntKind.bits]; omega
  have hb0 := ((Below.refl w.heap.size w).alloc (Nat.le_refl _) (.cells #[.slice A l.length c, .int .i64 (r : Int), .int .i64 lone] 27)).alloc (by simp) (.cells #[.slice none 0 0, .int .i64 0, .int .i64 0] 27)
  have HX := Lib.hid ((Blk.new w 27 #[.slice A l.length c, .int .i64 (r : Int), .int .i64 lone]).alloc (.cells #[.slice none 0 0, .int .i64 0, .int .i64 0] 27))
  have hy := (Blk.new (w.alloc (.cells #[.slice A l.length c, .int .i64 (r : Int), .int .i64 lone] 27)) 27 #[.slice none 0 0, .int .i64 0, .int .i64 0])
  rw [show (w.alloc (.cells #[.slice A l.length c, .int .i64 (r : Int), .int .i64 lone] 27)).heap.size = w.heap.size + 1 by simp] at hy
  have HY := Lib.hid hy
  have HR := Lib.hid (h.more hb0)
  have HB0 := Lib.hid hb0
  have HINF := Lib.hid info_rmap
  have HINV := Lib.hid hinv
  obtain ⟨O, hO⟩ : ∃ O, O = othN l e l.length := ⟨_, rfl⟩
  obtain ⟨V0, hV0⟩ : ∃ V0, V0 = fltE e (orb l a0) := ⟨_, rfl⟩
  obtain ⟨V1, hV1⟩ : ∃ V1, V1 = fltE e (orb l a1) := ⟨_, rfl⟩
  obtain ⟨VV, hVV⟩ : ∃ VV, VV = V1 ++ V0 := ⟨_, rfl⟩
  obtain ⟨OS, hOS⟩ : ∃ OS : List (List Nat), OS = O ++ [VV] := ⟨_, rfl⟩
  obtain ⟨RT, hRT⟩ : ∃ RT, RT = heirN l b r e := ⟨_, rfl⟩
  obtain ⟨LF, hLF⟩ : ∃ LF, LF = lone + (if degOf l lone (nameOf l (2 * e) : Nat) + degOf l lone (nameOf l (2 * e + 1) : Nat) = 2 then 1 else 0) := ⟨_, rfl⟩
  obtain ⟨T, hT⟩ : ∃ T, T = woN l (phiL l) e := ⟨_, rfl⟩
  have hOle : O.length ≤ l.length := by rw [hO]; exact oth_len l e _
  have hV0l : V0.length ≤ l.length := by rw [hV0]; exact flt_le hinv l0
  have hV1l : V1.length ≤ l.length := by rw [hV1]; exact flt_le hinv l1
  have hVVl : VV.length = V1.length + V0.length := by rw [hVV, List.length_append]
  have hVVe : VV = fltE e (orb l (2 * e + 1)) ++ fltE e (orb l (2 * e)) := by rw [hVV, hV0, hV1, ha0, ha1]
  have HTE : Hid (∀ v, v ∈ OS → Tells l.length e T v) := fun v hv => by
    rw [hT]
    rw [hOS] at hv
    rcases List.mem_append.1 hv with q | q
    · rw [hO] at q; exact oth_tells hinv _ he q
    · rw [show v = VV by simpa using q, hVVe]; exact tells_one hinv he hne
  have HVL : Hid (∀ v, v ∈ OS → v.length ≤ 200000) := fun v hv => by
    rw [hOS] at hv
    rcases List.mem_append.1 hv with q | q
    · rw [hO] at q; have := oth_vlen hinv (Nat.le_refl _) q; omega
    · rw [show v = VV by simpa using q]; omega
  have HCV : Hid (∀ x, x < l.length → x / 2 ≠ e → ∃ v, v ∈ OS ∧ x ∈ v) := fun x hx hxe => by
    rw [hOS]
    rcases cov_any hinv he hx hxe with ⟨v, v1, v2⟩ | ⟨n0, m⟩ | ⟨n1, m⟩
    · exact ⟨v, List.mem_append.2 (.inl (by rw [hO]; exact v1)), v2⟩
    · exact ⟨VV, List.mem_append.2 (.inr (by simp)), by rw [hVVe]; exact List.mem_append.2 (.inr m)⟩
    · exact ⟨VV, List.mem_append.2 (.inr (by simp)), by rw [hVVe]; exact List.mem_append.2 (.inl m)⟩
  have HEM : Hid (lone + ((empN OS OS.length : Nat) : Int) = LF) := by
    show _ = _
    rw [hLF, hOS, empN_snoc, hO, oth_emp hinv, hVVe, Nat.zero_add]
    have := shr_emp hinv lone hl0 hE hne
    by_cases z : (fltE e (orb l (2 * e + 1)) ++ fltE e (orb l (2 * e))).length = 0
    · rw [if_pos z, if_pos (this.1 z)]; rfl
    · rw [if_neg z, if_neg (fun c => z (this.2 c))]; rfl
  have HRT : Hid ((if l.length - 2 = 0 then -1 else hdE e (orb b r)) = RT) := by rw [hRT]; exact (heir_hd hinv hev hr hE).symm
  have HTL : Hid (T.length = l.length - 2) := by show _ = _; rw [hT]; exact woN_len l (phiL l) e hE
  have hOSl : OS.length ≤ 200000 := by rw [hOS]; simp; omega
  have HOQ : Hid (OS = O ++ [VV]) := hOS
  have HVE : Hid (VV = V1 ++ V0) := hVV
  have OTH : Hid (∀ W, Below _ _ W → Calls Try.prog 29 #[.agg #[.slice A l.length c, .int .i64 (r : Int), .int .i64 lone], .int .i64 (e : Int)] W (NewRows W O)) := fun W m => by rw [hO]; exact others_p A c l b r lone e W ((HR.out.below m).up m.size) hinv hn he
  have FR0 : Hid (∀ W, Below _ _ W → Calls Try.prog 30 #[.agg #[.slice A l.length c, .int .i64 (r : Int), .int .i64 lone], .int .i64 (a0 : Int), .int .i64 (e : Int)] W (NewI64 W (ofN V0))) := fun W m => by rw [hV0]; exact from_p A c l b r lone a0 e W ((HR.out.below m).up m.size) hinv hn l0 (by omega)
  have FR1 : Hid (∀ W, Below _ _ W → Calls Try.prog 30 #[.agg #[.slice A l.length c, .int .i64 (r : Int), .int .i64 lone], .int .i64 (a1 : Int), .int .i64 (e : Int)] W (NewI64 W (ofN V1))) := fun W m => by rw [hV1]; exact from_p A c l b r lone a1 e W ((HR.out.below m).up m.size) hinv hn l1 (by omega)
  have MDP : Hid (∀ W Av cv vs, Below _ _ W → Rd W W.heap.size Av OS.length vs → RowsN W W.heap.size vs OS → Calls Try.prog 31 #[.agg #[.slice A l.length c, .int .i64 (r : Int), .int .i64 lone], .slice Av OS.length cv, .int .i64 (e : Int)] W (NewRO W T RT LF)) := fun W Av cv vs m hv hrw => by
    have := rmade_p A c l b r lone e Av cv vs OS T W ((HR.out.below m).up m.size) hinv hn hr hE hl0 hl1 hv hrw hOSl HTL.out HTE.out HCV.out HVL.out
    rw [HRT.out, HEM.out] at this
    exact this
  rw [← hRT, ← hLF, ← hT]
  clear h hb0 hinv hy hO hV0 hV1 hOS hRT hLF hT HTE HVL HCV HEM HRT ha0 ha1 hVV hVVl hVVe hne
  go_enter Try.func12, Try.ntmps12
  go_upto_region 1 with fail
  generalize hw3 : (w.alloc (.cells #[.slice A l.length c, .int .i64 (r : Int), .int .i64 lone] 27)).alloc (.cells #[.slice none 0 0, .int .i64 0, .int .i64 0] 27) = w3 at *
  have hs3 : w3.heap.size = w.heap.size + 2 := by rw [← hw3]; simp
  have x0 : w3.cell? ⟨w.heap.size, 0, none⟩ = some (.slice A l.length c) := HX.out.cell 0
  have x1 : w3.cell? ⟨w.heap.size, 1, none⟩ = some (.int .i64 (r : Int)) := HX.out.cell 1
  have x2 : w3.cell? ⟨w.heap.size, 2, none⟩ = some (.int .i64 lone) := HX.out.cell 2
  clear hw3
  have SK : Hid (∀ W, Below w3.heap.size w3 W → W.cell? ⟨w.heap.size, 0, none⟩ = some (.slice A l.length c) ∧ W.cell? ⟨w.heap.size, 1, none⟩ = some (.int .i64 (r : Int)) ∧ W.cell? ⟨w.heap.size, 2, none⟩ = some (.int .i64 lone)) := fun W m => ⟨(m.cell (p := ⟨w.heap.size, 0, none⟩) (show w.heap.size < w3.heap.size by omega)).trans x0, (m.cell (p := ⟨w.heap.size, 1, none⟩) (show w.heap.size < w3.heap.size by omega)).trans x1, (m.cell (p := ⟨w.heap.size, 2, none⟩) (show w.heap.size < w3.heap.size by omega)).trans x2⟩
  have Z1 := (Below.refl w3.heap.size w3)
  have Z0 := Z1.drew
  have SK2 : Hid (∀ W, Below w3.heap.size w3 W → Below w3.heap.size w3 W ∧ W.cell? ⟨w.heap.size, 0, none⟩ = some (.slice A l.length c) ∧ W.cell? ⟨w.heap.size, 1, none⟩ = some (.int .i64 (r : Int)) ∧ W.cell? ⟨w.heap.size, 2, none⟩ = some (.int .i64 lone)) := fun W m => ⟨m, SK.out W m⟩
  have OT2 : Hid (∀ W, Below w3.heap.size w3 W → Calls Try.prog 29 #[.agg #[.slice A l.length c, .int .i64 (r : Int), .int .i64 lone], .int .i64 (e : Int)] W fun en w9 => ∃ A9 c9 vs, en = .returned (.slice A9 O.length c9) ∧ Hid (w9.ownsRow w3.heap.size 25 1 (.slice A9 O.length c9) O.length vs ∧ RowsOwn w9 w3.heap.size vs O ∧ Below W.heap.size W w9) ∧ Below w3.heap.size w3 w9) := fun W m => (OTH.out W m).mono (by
    rintro en w9 ⟨A9, c9, vs, rfl, hc9, hown9, hrw9, hb9⟩
    exact ⟨A9, c9, vs, rfl, ⟨hown9.base_le' m.size, ⟨hrw9.1, fun k hk => by obtain ⟨A, c, q1, q2, q3⟩ := hrw9.2 k hk; exact ⟨A, c, q1, q2, q3.base_le' m.size⟩⟩, hb9⟩, m.trans (hb9.mono m.size)⟩)
  have F02 : Hid (∀ W, Below w3.heap.size w3 W → Calls Try.prog 30 #[.agg #[.slice A l.length c, .int .i64 (r : Int), .int .i64 lone], .int .i64 (a0 : Int), .int .i64 (e : Int)] W fun en w9 => ∃ A9 c9, en = .returned (.slice A9 V0.length c9) ∧ Hid (w9.ownsRow w3.heap.size 3 1 (.slice A9 V0.length c9) V0.length (I64 (ofN V0)) ∧ V0.length ≤ c9 ∧ Below W.heap.size W w9) ∧ Below w3.heap.size w3 w9) := fun W m => (FR0.out W m).mono (by
    rintro en w9 ⟨A9, c9, rfl, hc9, hm9, hown9, hb9⟩
    rw [ofN_len] at hc9 hown9 ⊢
    exact ⟨A9, c9, rfl, ⟨hown9.base_le' m.size, hc9, hb9⟩, m.trans (hb9.mono m.size)⟩)
  have F12 : Hid (∀ W, Below w3.heap.size w3 W → Calls Try.prog 30 #[.agg #[.slice A l.length c, .int .i64 (r : Int), .int .i64 lone], .int .i64 (a1 : Int), .int .i64 (e : Int)] W fun en w9 => ∃ A9 c9, en = .returned (.slice A9 V1.length c9) ∧ Hid (w9.ownsRow w3.heap.size 3 1 (.slice A9 V1.length c9) V1.length (I64 (ofN V1)) ∧ V1.length ≤ c9 ∧ Below W.heap.size W w9) ∧ Below w3.heap.size w3 w9) := fun W m => (FR1.out W m).mono (by
    rintro en w9 ⟨A9, c9, rfl, hc9, hm9, hown9, hb9⟩
    rw [ofN_len] at hc9 hown9 ⊢
    exact ⟨A9, c9, rfl, ⟨hown9.base_le' m.size, hc9, hb9⟩, m.trans (hb9.mono m.size)⟩)
  have GOTI : Hid (∀ (W : World) (A1 A0 : Option Addr) (c1 c0 : Nat), Below w3.heap.size w3 W → W.ownsRow w3.heap.size 3 1 (.slice A1 V1.length c1) V1.length (I64 (ofN V1)) → W.ownsRow w3.heap.size 3 1 (.slice A0 V0.length c0) V0.length (I64 (ofN V0)) →
      ∃ A' c' w', (Builtin.append_ #[25, 25] 25 #[.slice A1 V1.length c1, .slice A0 V0.length c0]).run Try.prog W = .ok (.slice A' (V1.length + V0.length) c') w' ∧ Hid (w'.ownsRow w3.heap.size 3 1 (.slice A' (V1.length + V0.length) c') (V1.length + V0.length) (I64 (ofN VV))) ∧ Below w3.heap.size w3 w') := fun W A1 A0 c1 c0 m h1 h0 => by
    obtain ⟨j0, hj0, hk0, hk1, hk2⟩ := info_parts info_int
    obtain ⟨v', w', r1, r2, r3, r4⟩ := run_append_rd (P := Try.prog) W w3.heap.size 25 25 3 j0 (.int .i64 0) 8 Try.underlying25 hj0 hk0 hk1 hk2 rfl _ V1.length _ h1 W.heap.size A0 V0.length c0 (I64 (ofN V0)) (Rd.ofOwn h0) (I64_one _) (by simp only [maxLen]; omega) (by omega) m.size
    obtain ⟨A', c', e1, _⟩ := own_form r2
    subst e1
    refine ⟨A', c', w', r1, ?_, m.trans (Below.appended h1 r3 m.size)⟩
    rw [HVE.out, ofN_append, I64_append]
    exact r2
  have GOTC : Hid (∀ (W : World) (A9 : Option Addr) (c9 : Nat) (vs : List Value) (Av : Option Addr) (cv gb : Nat), Below w3.heap.size w3 W → W.ownsRow w3.heap.size 25 1 (.slice A9 O.length c9) O.length vs → RowsOwn W w3.heap.size vs O → W.ownsRow w3.heap.size 3 1 (.slice Av VV.length cv) VV.length (I64 (ofN VV)) → Rd W (gb + 1) (some ⟨gb, 0, none⟩) 1 [.slice Av VV.length cv] →
      ∃ A' c' w', (Builtin.append_ #[48, 48] 48 #[.slice A9 O.length c9, .slice (some ⟨gb, 0, none⟩) 1 1]).run Try.prog W = .ok (.slice A' (O.length + 1) c') w' ∧
        Below w3.heap.size w3 w' ∧ Hid (Calls Try.prog 31 #[.agg #[.slice A l.length c, .int .i64 (r : Int), .int .i64 lone], .slice A' (O.length + 1) c', .int .i64 (e : Int)] w' (NewRO w' T RT LF))) := fun W A9 c9 vs Av cv gb m h1 h2 h3 h5 => by
    obtain ⟨A', c', w', r1, r2, r3, r4⟩ := rows_app W w3.heap.size A9 c9 vs O h1 h2 m.size gb Av VV cv h5 h3 (by obtain ⟨_, _, e9, h9, _⟩ := own_form h3; simp at e9; omega) (by omega)
    have hl : OS.length = O.length + 1 := by rw [HOQ.out]; simp
    refine ⟨A', c', w', r1, m.trans r4, ?_⟩
    have := MDP.out w' A' c' (vs ++ [.slice Av VV.length cv]) (m.trans r4) (by rw [hl]; exact Rd.ofOwn r2) (by rw [HOQ.out]; exact r3.rd)
    rw [hl] at this
    exact this
  obtain ⟨y0, y1, y2⟩ := SK.out _ Z0
  go_cut [5] from 6 to 17 (fun s wx => ∃ A' c', s = .slice A' VV.length c' ∧ Hid (wx.ownsRow w3.heap.size 3 1 (.slice A' VV.length c') VV.length (I64 (ofN VV))) ∧ Hid (Below w3.heap.size w3 wx))
  case first =>
    clear HY HR MDP OTH FR0 FR1 HTL HINV OT2 GOTC
    have hVL : Hid (VV.length = V1.length + V0.length) := by show _ = _; rw [HVE.out, List.length_append]
    go_region_held3 (fun W => Below w3.heap.size w3 W ∧ W.cell? ⟨w.heap.size, 0, none⟩ = some (.slice A l.length c) ∧ W.cell? ⟨w.heap.size, 1, none⟩ = some (.int .i64 (r : Int)) ∧ W.cell? ⟨w.heap.size, 2, none⟩ = some (.int .i64 lone))
      (exact SK2.out _ (by assumption))
      (first
      | (go_at_call 30; (with_reducible refine (F12.out _ Z0).mono ?_); rintro en w9 ⟨A9, c9, rfl, O9, hb9⟩)
      | (go_at_call 30; have hu := O9; clear hu; (with_reducible refine (F02.out _ hb9).mono ?_); rintro en w8 ⟨A8, c8, rfl, F8, hb8⟩; obtain ⟨A', c', w', hr, HF, hbF⟩ := GOTI.out w8 A9 A8 c9 c8 hb8 (own_below O9.out.1 F8.out.2.2) F8.out.1)
      | (go_at_call 30; (with_reducible refine (F02.out _ Z0).mono ?_); rintro en w8 ⟨A8, c8, rfl, F8, hb8⟩)
      | (go_at_call 30; (with_reducible refine (F12.out _ hb8).mono ?_); rintro en w9 ⟨A9, c9, rfl, O9, hb9⟩; obtain ⟨A', c', w', hr, HF, hbF⟩ := GOTI.out w9 A9 A8 c9 c8 hb9 O9.out.1 (own_below F8.out.1 O9.out.2.2))
      | (refine step_append_run _ (by rfl) _ _ _ (by rfl) _ _ _ _ (by rfl) (by rfl) hr ?_))
    all_goals (
      go_wp2_with fail
      go_meet
      exact ⟨A', c', by rw [hVL.out], by rw [hVL.out]; exact HF, hbF⟩)
  case rest =>
    obtain ⟨A5, c5, rfl, HO5, HB5⟩ := hcut
    clear OTH FR0 FR1 F02 F12 GOTI y0 y1 y2 Z0 Z1
    obtain ⟨w5, hw5⟩ : ∃ w5, w5 = wc := ⟨_, rfl⟩
    subst hw5
    have Z5 := HB5.out.drew
    have Z5b := (HB5.out.alloc HB5.out.size (.cells #[.slice A5 VV.length c5] 25)).drew
    obtain ⟨y0, y1, y2⟩ := SK.out _ Z5
    have hbA : Below w5.heap.size w5 ((w5.alloc (.cells #[.slice A5 VV.length c5] 25)).drew) := ((Below.refl _ _).alloc (Nat.le_refl _) _).drew
    have HBA := Lib.hid hbA
    have RB := Lib.hid ((Rd.new w5 25 #[.slice A5 VV.length c5] 1 [.slice A5 VV.length c5] (by simp) (by simp)).drewN 1)
    clear hbA
    have SK3 : Hid (∀ W, Below w3.heap.size w3 W → W.cell? ⟨w.heap.size, 0, none⟩ = some (.slice A l.length c) ∧ W.cell? ⟨w.heap.size, 1, none⟩ = some (.int .i64 (r : Int)) ∧ W.cell? ⟨w.heap.size, 2, none⟩ = some (.int .i64 lone)) := SK.out
    have SK4 : Hid (∀ W u0 u1 u2, Below w3.heap.size w3 W → (((W.setCell ⟨w.heap.size + 1, 0, none⟩ u0).setCell ⟨w.heap.size + 1, 1, none⟩ u1).setCell ⟨w.heap.size + 1, 2, none⟩ u2).cell? ⟨w.heap.size, 0, none⟩ = some (.slice A l.length c) ∧ (((W.setCell ⟨w.heap.size + 1, 0, none⟩ u0).setCell ⟨w.heap.size + 1, 1, none⟩ u1).setCell ⟨w.heap.size + 1, 2, none⟩ u2).cell? ⟨w.heap.size, 1, none⟩ = some (.int .i64 (r : Int)) ∧ (((W.setCell ⟨w.heap.size + 1, 0, none⟩ u0).setCell ⟨w.heap.size + 1, 1, none⟩ u1).setCell ⟨w.heap.size + 1, 2, none⟩ u2).cell? ⟨w.heap.size, 2, none⟩ = some (.int .i64 lone)) := fun W u0 u1 u2 m => by
      have MM : Mod (fun i => i = w.heap.size + 1) W (((W.setCell ⟨w.heap.size + 1, 0, none⟩ u0).setCell ⟨w.heap.size + 1, 1, none⟩ u1).setCell ⟨w.heap.size + 1, 2, none⟩ u2) :=
        Mod.setCell (p := ⟨w.heap.size + 1, 2, none⟩) (Mod.setCell (p := ⟨w.heap.size + 1, 1, none⟩) (Mod.setCell (p := ⟨w.heap.size + 1, 0, none⟩) (Mod.refl (fun i => i = w.heap.size + 1) W) (fun _ => rfl) _) (fun _ => rfl) _) (fun _ => rfl) _
      have hs := m.size
      obtain ⟨s0, s1, s2⟩ := SK.out W m
      exact ⟨(MM.cell (by omega) (by omega) 0).trans s0, (MM.cell (by omega) (by omega) 1).trans s1, (MM.cell (by omega) (by omega) 2).trans s2⟩
    go_wp2_with fail
    go_region_held3 (fun W => W.cell? ⟨w.heap.size, 0, none⟩ = some (.slice A l.length c) ∧ W.cell? ⟨w.heap.size, 1, none⟩ = some (.int .i64 (r : Int)) ∧ W.cell? ⟨w.heap.size, 2, none⟩ = some (.int .i64 lone))
      (first | exact SK3.out _ (by assumption) | exact SK4.out _ _ _ _ (by assumption))
      (first
      | (go_at_call 29; (with_reducible refine (OT2.out _ Z5).mono ?_); rintro en w9 ⟨A9, c9, vs, rfl, O9, hb9⟩; obtain ⟨A', c', w', hr, hbF, MD⟩ := GOTC.out (w9.alloc (.cells #[.slice A5 VV.length c5] 25)) A9 c9 vs A5 c5 w9.heap.size (hb9.alloc hb9.size _) (O9.out.1.alloc _) (O9.out.2.1.below ((Below.refl _ _).alloc (Nat.le_refl _) _)) ((own_below HO5.out ((Below.refl _ _).drew.trans (O9.out.2.2.mono (by simp)))).alloc _) (Rd.new w9 25 #[.slice A5 VV.length c5] 1 [.slice A5 VV.length c5] (by simp) (by simp)); have hbz := hb9.alloc hb9.size (.cells #[.slice A5 VV.length c5] 25))
      | (go_at_call 29; (with_reducible refine (OT2.out _ Z5b).mono ?_); rintro en w9 ⟨A9, c9, vs, rfl, O9, hb9⟩; obtain ⟨A', c', w', hr, hbF, MD⟩ := GOTC.out w9 A9 c9 vs A5 c5 w5.heap.size hb9 O9.out.1 O9.out.2.1 (own_below HO5.out (HBA.out.trans (O9.out.2.2.mono (by simp)))) (RB.out.below (O9.out.2.2.mono (by simp))))
      | (refine step_append_run _ (by rfl) _ _ _ (by rfl) _ _ _ _ (by rfl) (by rfl) hr ?_)
      | (go_at_call 31; (with_reducible refine MD.out.mono ?_); rintro en w10 ⟨A10, c10, rfl, hc10, hm10, hown10, b10⟩; have hbW := hbF.trans (b10.mono hbF.size); have HY9 := Lib.hid (HY.out.below hbW); have q0 := HY9.out.cell 0; have q1 := HY9.out.cell 1; have q2 := HY9.out.cell 2; have f0 := HY9.out.frozen 0; have f1 := HY9.out.frozen 1; have f2 := HY9.out.frozen 2; simp at q0 q1 q2; have HC9 := Lib.hid (And.intro hc10 (And.intro hm10 (hown10.base_le' hbF.size))); clear hc10 hm10 hown10 b10))
    all_goals (
      go_wp2_with fail
      obtain ⟨k1, k2, k3⟩ := box_ret (w := w) (RT := RT) (LF := LF) (show w.heap.size ≤ w.heap.size + 1 by omega) (HB0.out.trans (hbW.mono (by omega))) HY9.out HC9.out.2.2
      refine bodyPost_ret (v := .agg #[.slice A10 T.length c10, .int .i64 RT, .int .i64 LF]) ?_ rfl ?_
      · exact results_cell_row rfl _ _ (w.heap.size + 1) 27 _ (0, 0) _ rfl k1 Try.underlying27 rfl HINF.out
      · exact ⟨A10, c10, rfl, HC9.out.1, HC9.out.2.1, k2.base_le' (by omega), k3⟩)
end Go.Proofs.Ytnnjjhjohjajnaa
