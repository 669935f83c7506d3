/- canon's names. What maps that are answer: Degree, Rooted, Same; the document's Vertices and Borders. -/
import Derived.Test.YtgcbdoljapnecaaGreatZg17
import Derived.Test.YtgcbdoljapnecaaGreatZDPhi
import Derived.Test.YtgcbdoljapnecaaGreatZg1
import Derived.BigQuiet
namespace Go.Proofs.YtgcbdoljapnecaaGreat
set_option maxRecDepth 100000
open Go.RowKit
set_option linter.unusedVariables false
set_option linter.unusedSimpArgs false
theorem flat_le (f : Nat → List Nat) (c : Nat) : ∀ S : List Nat, (∀ s ∈ S, (f s).length ≤ c) → (S.flatMap f).length ≤ S.length * c
  | [], _ => by simp
  | s :: S, h => by
    have h1 := flat_le f c S fun x hx => h x (by simp [hx])
    have h2 := h s (by simp)
    rw [List.flatMap_cons, List.length_append, List.length_cons, Nat.add_mul, Nat.one_mul]
    omega
theorem looks_len {l b : List Nat} (hl : Inv l b) (he : l.length % 2 = 0) (hle : l.length ≤ 131072) {r : Nat} (hr : r < l.length) : ((starts l r).flatMap (wlk l)).length ≤ 131073 * 131072 := by
  have h1 := flat_le (wlk l) 131072 (starts l r) fun s hs => Nat.le_trans (wlk_len hl he (starts_lt hr s hs)) hle
  have h2 : (starts l r).length ≤ 131073 := by
    unfold starts
    rw [List.length_cons]
    exact Nat.succ_le_succ (Nat.le_trans (Nat.le_trans (List.length_filter_le _ _) (Nat.le_of_eq List.length_range)) hle)
  exact Nat.le_trans h1 (Nat.mul_le_mul_right _ h2)
theorem take_getD (L : List Nat) {k : Nat} (h : k < L.length) : L.take (k + 1) = L.take k ++ [L.getD k 0] := by
  rw [List.take_add_one, List.getElem?_eq_getElem h]
  simp [List.getD_eq_getElem?_getD, List.getElem?_eq_getElem h]
set_option maxHeartbeats 8000000 in
theorem cnames_p (g : Nat) (l b : List Nat) (r : Nat) (lone : Int) (P Qc : List Nat) (w : World) (h : MapAt w g l b (r : Int) lone) (hi : Inv l b) (hr : r < l.length) (hC : CanA l r P Qc) :
    Calls Tryz.prog 133 #[.pointer (some ⟨g, 0, none⟩)] w (NewI64 w (ofN P)) := by
  have hle := h.2.1
  have hev := h.1.1
  obtain ⟨n, hn⟩ : ∃ n, n = l.length := ⟨_, rfl⟩
  obtain ⟨L, hL⟩ : ∃ L, L = (starts l r).flatMap (wlk l) := ⟨_, rfl⟩
  obtain ⟨m, hm⟩ : ∃ m, m = L.length := ⟨_, rfl⟩
  have hm8 : m ≤ 131073 * 131072 := by rw [hm, hL]; exact looks_len hi hev hle hr
  have HLT : Hid (∀ k, k < m → L.getD k 0 < n) := fun k hk => by
    rw [hn]
    refine looks_lt hi hev hr _ ?_
    rw [← hL, List.getD_eq_getElem?_getD, List.getElem?_eq_getElem (by omega)]
    exact List.getElem_mem _
  have HP : Hid ((lookL n L).1 = ofN P) := by show _ = _; rw [hn, hL]; exact hC.is
  have DP : Hid (∀ W, Below w.heap.size w W → Calls Tryz.prog 24 #[.pointer (some ⟨g, 0, none⟩)] W fun e w' => e = .returned (.int .i64 (n : Int)) ∧ Below W.heap.size W w') := fun W z => by rw [hn]; exact darts_p g l b _ _ W (h.below z)
  have LP : Hid (∀ W, Below w.heap.size w W → Calls Tryz.prog 137 #[.pointer (some ⟨g, 0, none⟩)] W (NewI64 W (ofN L))) := fun W z => by rw [hL]; exact clooked_p g l b r lone W (h.below z) hi hr
  have MT : Hid (∀ (W : World), Below w.heap.size w W → ∀ d : Nat, d < n → Calls Tryz.prog 58 #[.pointer (some ⟨g, 0, none⟩), .int .i64 (d : Int)] W fun e w' => e = .returned (.int .i64 ((mt d : Nat) : Int)) ∧ Below W.heap.size W w') := fun W z d hd => by
    have := mate_in g l b _ _ d W (h.below z) (by rw [← hn]; exact hd)
    rwa [mt_mateN] at this
  have REP : Hid (∀ (W : World) (a : Nat), Rd W (a + 1) (some ⟨a, 0, none⟩) 1 (I64 [-1]) → a + 1 ≤ W.heap.size → Calls Tryz.prog 90 #[.slice (some ⟨a, 0, none⟩) 1 1, .int .i64 (n : Int)] W fun e w' => e = .returned (.slice (some ⟨W.heap.size, 0, none⟩) n n) ∧ w'.ownsRow W.heap.size 3 1 (.slice (some ⟨W.heap.size, 0, none⟩) n n) n (I64 (List.replicate n (-1))) ∧ Below W.heap.size W w') := fun W a hr' ha => repeat_p a n 1 (-1) (a + 1) W (by omega) hr' ha
  have HEV : Hid (n % 2 = 0) := by show _ = _; rw [hn]; exact hev
  have hn8 : n ≤ 131072 := by omega
  have HM : Hid (L.length = m) := hm.symm
  have ZA : Hid (Below w.heap.size w (w.alloc (.cells #[.int .i64 (-1)] 3))) := (Below.refl _ _).alloc (Nat.le_refl _) _
  have DA := Lib.hid (DP.out _ ZA.out)
  clear h hi hr hC hle hev hn hL hm
  go_enter Tryz.func133, Tryz.ntmps133
  go_wp2_with fail
  refine DA.out.mono ?_
  rintro e w1 ⟨rfl, z⟩
  have Z1 := Lib.hid (ZA.out.trans (z.mono ZA.out.size))
  have rd : Rd w1 (w.heap.size + 1) (some ⟨w.heap.size, 0, none⟩) 1 (I64 [-1]) := (Rd.new w 3 #[.int .i64 (-1)] 1 (I64 [-1]) rfl rfl).below (by simpa using z)
  have RE := Lib.hid (REP.out w1 w.heap.size rd (by have := z.size; simpa using this))
  clear z rd ZA DA
  go_wp2_with fail
  refine RE.out.mono ?_
  rintro e w2 ⟨rfl, o2, z⟩
  have Z2 := Lib.hid (Z1.out.trans (z.mono Z1.out.size))
  have O2 := Lib.hid (o2.base_le' Z1.out.size)
  obtain ⟨gN, hgN⟩ : ∃ gN, gN = w1.heap.size := ⟨_, rfl⟩
  have hgw : w.heap.size ≤ gN := by rw [hgN]; exact Z1.out.size
  rw [← hgN] at O2 ⊢
  have LQ := Lib.hid (LP.out w2 Z2.out)
  clear z o2 RE hgN Z1
  go_wp2_with fail
  refine LQ.out.mono ?_
  rintro e w3 ⟨A3, c3, rfl, _, _, o3, z⟩
  rw [ofN_len, HM.out] at o3 ⊢
  have O3 := Lib.hid o3
  have Z3 := Lib.hid (Z2.out.trans (z.mono Z2.out.size))
  have ON := Lib.hid (own_below O2.out z)
  have hg2 : gN < w2.heap.size := (own_block O2.out).2
  clear z o3 O2 Z2 LQ
  go_wp2_with fail
  go_loopw [4, 14] (fun v x wr => ∃ (k nx : Nat) (y : List Int), k ≤ m ∧ v = .int .i64 (nx : Int) ∧ x = .int .i64 (k : Int) ∧ Hid (lookL n (L.take k) = (y, nx)) ∧ Hid (nx ≤ 2 * k) ∧ Hid (wr.ownsRow w.heap.size 3 1 (.slice (some ⟨gN, 0, none⟩) n n) n (I64 y)) ∧ Hid (Mod (fun k => k = gN) w3 wr) ∧ Hid (Below w.heap.size w wr)) (fun _ x _ => m - (intOf x).toNat)
  case atStart => exact ⟨0, 0, List.replicate n (-1), Nat.zero_le _, rfl, rfl, rfl, Nat.zero_le _, ON, Mod.refl _ _, Z3⟩
  case round =>
    clear ON Z3
    obtain ⟨k, nx, y, hk, rfl, rfl, HY, HX, O4, M4, Z4⟩ := hrel
    by_cases hlt : k < m
    · have hdk : decide (k < m) = true := decide_eq_true hlt
      obtain ⟨gL, rfl, hgL, hgL2⟩ := own_some O3.out (by omega)
      have cl : wr.cell? ⟨gL, k, none⟩ = some (.int .i64 ((ofN L).getD k 0)) := (M4.out.cell hgL2 (by omega) k).trans (own_cellI O3.out k hlt)
      rw [ofN_get] at cl
      have hdn := HLT.out k hlt
      obtain ⟨d, hd⟩ : ∃ d, d = L.getD k 0 := ⟨_, rfl⟩
      rw [← hd] at cl hdn
      have cy := own_cellI O4.out d hdn
      have hnx := HX.out
      have STEP : Hid (lookL n (L.take (k + 1)) = lookS (y, nx) d) := by
        show _ = _
        rw [take_getD L (by rw [HM.out]; exact hlt), lookL_snoc, HY.out, hd]
      obtain ⟨v, hv⟩ : ∃ v, v = y.getD d 0 := ⟨_, rfl⟩
      rw [← hv] at cy
      have hdi : (d : Int) < (n : Int) := by omega
      have hki : (k : Int) < (m : Int) := by omega
      clear hd
      by_cases hv1 : v = -1
      · subst hv1
        have HS : Hid (lookL n (L.take (k + 1)) = (((y.set d (nx : Int)).set (mt d) ((nx + 1 : Nat) : Int)), nx + 2)) := by
          show _ = _
          rw [STEP.out]; unfold lookS; rw [if_pos hv.symm]
        have hmn := mt_in HEV.out hdn
        have hmd := cmt_ne d
        obtain ⟨d', hd'⟩ : ∃ d', d' = mt d := ⟨_, rfl⟩
        have MT1 := Lib.hid (MT.out wr Z4.out d hdn)
        rw [← hd'] at HS hmn hmd MT1
        clear hv hd' STEP
        have hyl := own_lenI O4.out
        have e1 : ((nx + 1 : Nat) : Int) = (nx : Int) + 1 := by omega
        rw [e1] at HS
        clear e1
        go_wp2_with fail
        refine MT1.out.mono ?_
        rintro e w4 ⟨rfl, b4⟩
        have O5 := own_below O4.out b4
        have M5 := M4.out.trans (Mod.none_ b4 (fun k => k = gN)) fun _ _ q => q
        have Z5 := Z4.out.trans (b4.mono Z4.out.size)
        have fo1 := O5.frozenAt d
        obtain ⟨q1, co1⟩ : ∃ q1, w4.cell? ⟨gN, d, none⟩ = some (.int .i64 q1) := ⟨_, own_cellI O5 d hdn⟩
        have O6 := own_setI O5 d (nx : Int)
        have fo2 := O6.frozenAt d'
        obtain ⟨q2, co2⟩ : ∃ q2, (w4.setCell ⟨gN, d, none⟩ (.int .i64 (nx : Int))).cell? ⟨gN, d', none⟩ = some (.int .i64 q2) := ⟨_, own_cellI O6 d' hmn⟩
        have O7 := Lib.hid (own_setI O6 d' ((nx : Int) + 1))
        have M7 := Lib.hid (Mod.setCell (p := ⟨gN, d', none⟩) (Mod.setCell (p := ⟨gN, d, none⟩) M5 (fun _ => rfl) (.int .i64 (nx : Int))) (fun _ => rfl) (.int .i64 ((nx : Int) + 1)))
        have Z7 := Lib.hid ((Z5.setCell (p := ⟨gN, d, none⟩) hgw (.int .i64 (nx : Int))).setCell (p := ⟨gN, d', none⟩) hgw (.int .i64 ((nx : Int) + 1)))
        have hd'i : (d' : Int) < (n : Int) := by omega
        clear b4 O5 O6 M5 Z5 O4 M4 Z4 MT1 hyl
        go_wp2_with fail
        go_roundw
        case rel => exact ⟨k + 1, nx + 2, _, by omega, by go_num, by go_num, HS, by show _ ≤ _; omega, O7, M7, Z7⟩
        case measure => simp [intOf]; omega
      · have HS : Hid (lookL n (L.take (k + 1)) = (y, nx)) := by
          show _ = _
          rw [STEP.out]; unfold lookS; rw [if_neg fun c => hv1 (hv.trans c)]
        have dv : (v == -1) = false := by rw [beq_eq_false_iff_ne]; exact hv1
        clear hv STEP
        go_wp2_with fail
        go_roundw
        case rel => exact ⟨k + 1, nx, y, by omega, rfl, by go_num, HS, by show _ ≤ _; omega, O4, M4, Z4⟩
        case measure => simp [intOf]; omega
    · obtain rfl : k = m := by omega
      have hdk : decide (k < k) = false := by simp
      have HYP : Hid (y = ofN P) := by
        have := HY.out
        rw [← HM.out, List.take_length] at this
        show _ = _
        rw [← HP.out, this]
      go_wp2_with fail
      go_ret
      have hyl := own_lenI O4.out
      refine NewI64.mk rfl ?_ Z4.out
      rw [← HYP.out, hyl]
      exact O4.out
end Go.Proofs.YtgcbdoljapnecaaGreat
namespace Go.Proofs.YtgcbdoljapnecaaGreat
open Go.RowKit
set_option linter.unusedVariables false

/-- How many darts the vertex v has, or -1. -/
noncomputable def degOf (l : List Nat) (lone v : Int) : Int :=
  if v < 0 ∨ ((sizes l).length : Int) + lone ≤ v then -1 else if ((sizes l).length : Int) ≤ v then 0 else ((sizes l).getD v.toNat 0 : Nat)
theorem degree_p (g : Nat) (l b : List Nat) (root lone v : Int) (w : World) (h : MapAt w g l b root lone) :
    Calls Tryz.prog 129 #[.pointer (some ⟨g, 0, none⟩), .int .i64 v] w fun e w' => e = .returned (.int .i64 (degOf l lone v)) ∧ Below w.heap.size w w' := by
  have VT := Lib.hid (vertices_p g l b root lone w h)
  have HZ := sizes_le l
  have hl1 := h.1.2.1
  have hl2 := h.1.2.2
  have hl3 := h.2.1
  have H := Lib.hid h
  have F2 := fld2
  clear h
  by_cases h0 : v < 0
  · have HD : Hid (degOf l lone v = -1) := by show _ = _; unfold degOf; rw [if_pos (.inl h0)]
    go_enter Tryz.func129, Tryz.ntmps129
    go_wp2_with fail
    go_ret
    exact ⟨by rw [HD.out]; rfl, Below.refl _ _⟩
  · by_cases h1 : ((sizes l).length : Int) + lone ≤ v
    · have HD : Hid (degOf l lone v = -1) := by show _ = _; unfold degOf; rw [if_pos (.inr h1)]
      go_enter Tryz.func129, Tryz.ntmps129
      go_wp2_with fail
      refine VT.out.mono ?_
      rintro e w1 ⟨rfl, b1⟩
      go_wp2_with fail
      go_ret
      exact ⟨by rw [HD.out]; rfl, b1⟩
    · obtain ⟨n, rfl⟩ : ∃ n : Nat, v = (n : Int) := ⟨v.toNat, by omega⟩
      by_cases h2 : ((sizes l).length : Int) ≤ (n : Int)
      · have HD : Hid (degOf l lone n = 0) := by show _ = _; unfold degOf; rw [if_neg (by omega), if_pos h2]
        go_enter Tryz.func129, Tryz.ntmps129
        go_wp2_with fail
        refine VT.out.mono ?_
        rintro e w1 ⟨rfl, b1⟩
        have VS := Lib.hid (verts_p g l b root lone w1 (H.out.below b1))
        go_wp2_with fail
        refine VS.out.mono ?_
        rintro e w2 ⟨p, A, c, S, d, rfl, hp, r1, r2, b2⟩
        clear hp r1 r2
        go_wp2_with fail
        go_ret
        exact ⟨by rw [HD.out]; rfl, b1.trans (b2.mono b1.size)⟩
      · have HD : Hid (degOf l lone n = ((sizes l).getD n 0 : Nat)) := by show _ = _; unfold degOf; rw [if_neg (by omega), if_neg h2, Int.toNat_natCast]
        rw [HD.out]
        generalize hx : (sizes l).getD n 0 = x
        have HX := Lib.hid hx
        clear HD hx
        go_enter Tryz.func129, Tryz.ntmps129
        go_wp2_with fail
        refine VT.out.mono ?_
        rintro e w1 ⟨rfl, b1⟩
        have VS := Lib.hid (verts_p g l b root lone w1 (H.out.below b1))
        go_wp2_with fail
        refine VS.out.mono ?_
        rintro e w2 ⟨p, A, c, S, d, rfl, hp, r1, r2, b2⟩
        have HB : Hid (Below w.heap.size w w2) := b1.trans (b2.mono b1.size)
        obtain ⟨bs, os, rfl, _, k2⟩ := r2.i64 (by omega)
        have t2 := k2 n (by omega)
        rw [ofN_get, HX.out] at t2
        clear hp r1 r2 k2 b1 b2
        go_wp2_with fail
        go_ret
        exact ⟨rfl, HB.out⟩

/-! ### The document's Vertices and Borders -/
end Go.Proofs.YtgcbdoljapnecaaGreat
