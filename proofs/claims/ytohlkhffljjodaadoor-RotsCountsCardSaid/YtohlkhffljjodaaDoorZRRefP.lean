/- The document's text of a map. -/
import Derived.Test.YtohlkhffljjodaaDoorZRDec
namespace Go.Proofs.YtohlkhffljjodaaDoor
open Go.RowKit
set_option linter.unusedVariables false
set_option maxRecDepth 20000
theorem cat_run (a b : List Int) (h : a.length + b.length ≤ 9223372036854775807) (W : World) : (Op.stringOp .add (strOfNums a) (strOfNums b)).run Tryd.prog W = .ok (.string (strOfNums (a ++ b))) W := by
  rw [str_append]
  exact run_string_add_sum W _ _ (by rw [strOfNums_size, strOfNums_size]; exact h)
theorem cat_one (a : List Int) (x : Int) (h : a.length ≤ 9223372036854775806) (W : World) (c : UInt8) (hc : c = UInt8.ofNat x.toNat) : (Op.stringOp .add (strOfNums a) ⟨#[c]⟩).run Tryd.prog W = .ok (.string (strOfNums (a ++ [x]))) W := by
  have := cat_run a [x] (by rw [List.length_singleton]; omega) W
  subst hc
  exact this
theorem preB_snoc (zs : List Int) (j : Nat) : preB zs (j + 1) = (preB zs j ++ (if j = 0 then [] else [32])) ++ decB (zs.getD j 0) := rfl
set_option maxHeartbeats 8000000 in
theorem refprint_p (A : Option Addr) (c : Nat) (l b : List Nat) (root lone : Int) (w : World) (h : Rd w w.heap.size A l.length (I64 (ofN l))) (hinv : Inv l b) (hn : l.length ≤ 131072) (hroot : -1 ≤ root ∧ root ≤ 131072) (hlone : 0 ≤ lone ∧ lone ≤ 65536) :
    Calls Tryd.prog 11 #[.agg #[.slice A l.length c, .int .i64 root, .int .i64 lone]] w fun e w' => e = .returned (.string (strOfNums (textL l root lone))) ∧ Below w.heap.size w w' := by
  have hb0 := (Below.refl w.heap.size w).alloc (Nat.le_refl _) (.cells #[.slice A l.length c, .int .i64 root, .int .i64 lone] 26)
  have HBX := Lib.hid (Blk.new w 26 #[.slice A l.length c, .int .i64 root, .int .i64 lone])
  have hgb : w.heap.size < (w.alloc (.cells #[.slice A l.length c, .int .i64 root, .int .i64 lone] 26)).heap.size := by simp
  have h1 := (h.below hb0).lt
  have H1 := Lib.hid h1
  have HI := Lib.hid hinv
  have HB0 := Lib.hid hb0
  obtain ⟨E, hE⟩ : ∃ E : Nat, E = l.length / 2 := ⟨_, rfl⟩
  have hEI : (l.length : Int) / 2 = (E : Int) := by omega
  have HE := Lib.hid hE
  have hEb : E ≤ 131072 := by omega
  have dE := decB_len (E : Int) (by omega) (by omega)
  have dR := decB_len root (by omega) (by omega)
  have dL := decB_len lone (by omega) (by omega)
  have DC : Hid (∀ (x : Int) (W : World), (x = (E : Int) ∨ x = root ∨ x = lone) → Calls Tryd.prog 30 #[.int .i64 x] W fun e w' => e = .returned (.string (strOfNums (decB x))) ∧ w' = W) := fun x W hx => (dec_p x W (by rcases hx with rfl | rfl | rfl <;> omega) (by rcases hx with rfl | rfl | rfl <;> omega)).mono fun e w' ⟨he, hw⟩ => ⟨he, hw.symm⟩
  have DCE := Lib.hid (fun W => DC.out (E : Int) W (.inl rfl))
  have DCR := Lib.hid (fun W => DC.out root W (.inr (.inl rfl)))
  have DCL := Lib.hid (fun W => DC.out lone W (.inr (.inr rfl)))
  obtain ⟨xE, hxE⟩ : ∃ x, x = decB (E : Int) := ⟨_, rfl⟩
  obtain ⟨xR, hxR⟩ : ∃ x, x = decB root := ⟨_, rfl⟩
  obtain ⟨xL, hxL⟩ : ∃ x, x = decB lone := ⟨_, rfl⟩
  have c1 := fun W => cat_one xE 32 (by rw [hxE]; omega) W 32 rfl
  have c2 := fun W => cat_run (xE ++ [32]) xR (by rw [List.length_append, hxE, hxR]; simp; omega) W
  have c3 := fun W => cat_one (xE ++ [32] ++ xR) 32 (by rw [List.length_append, List.length_append, hxE, hxR]; simp; omega) W 32 rfl
  have c4 := fun W => cat_run (xE ++ [32] ++ xR ++ [32]) xL (by simp only [List.length_append]; rw [hxE, hxR, hxL]; simp; omega) W
  have c5 := fun W => cat_one (xE ++ [32] ++ xR ++ [32] ++ xL) 10 (by simp only [List.length_append]; rw [hxE, hxR, hxL]; simp; omega) W 10 rfl
  have HL0 : Hid (xE ++ [32] ++ xR ++ [32] ++ xL ++ [10] = lineB [(E : Int), root, lone]) := by
    rw [hxE, hxR, hxL]
    show _ = _
    simp [lineB, preB]
  have hlen0 : (xE ++ [32] ++ xR ++ [32] ++ xL ++ [10]).length ≤ 67 := by
    simp only [List.length_append]; rw [hxE, hxR, hxL]; simp; omega
  rw [← hxE] at DCE
  rw [← hxR] at DCR
  rw [← hxL] at DCL
  generalize hy1 : strOfNums (xE ++ [32]) = y1 at c1 c2
  have c2' : ∀ W, (Op.stringOp .add y1 (strOfNums xR)).run Tryd.prog W = .ok (.string (strOfNums (xE ++ [32] ++ xR))) W := by rw [← hy1]; exact fun W => cat_run (xE ++ [32]) xR (by rw [List.length_append, hxE, hxR]; simp; omega) W
  clear c2
  generalize hy2 : strOfNums (xE ++ [32] ++ xR) = y2 at c2' c3
  generalize hy3 : strOfNums (xE ++ [32] ++ xR ++ [32]) = y3 at c3 c4
  generalize hy4 : strOfNums (xE ++ [32] ++ xR ++ [32] ++ xL) = y4 at c4 c5
  generalize hH0 : xE ++ [32] ++ xR ++ [32] ++ xL ++ [10] = H0 at c5 HL0 hlen0
  obtain ⟨T0, hT0⟩ : ∃ T0, T0 = strOfNums H0 := ⟨_, rfl⟩
  rw [← hT0] at c5
  have HT0 := Lib.hid hT0
  generalize strOfNums xE = zE at *
  generalize strOfNums xR = zR at *
  generalize strOfNums xL = zL at *
  clear h hb0 h1 hinv hE hxE hxR hxL hy1 hy2 hy3 hy4 hH0 hT0 dE dR dL DC
  have X0 : (w.alloc (.cells #[.slice A l.length c, .int .i64 root, .int .i64 lone] 26)).cell? ⟨w.heap.size, 0, none⟩ = some (.slice A l.length c) := HBX.out.cell 0
  have X1 : (w.alloc (.cells #[.slice A l.length c, .int .i64 root, .int .i64 lone] 26)).cell? ⟨w.heap.size, 1, none⟩ = some (.int .i64 root) := HBX.out.cell 1
  have X2 : (w.alloc (.cells #[.slice A l.length c, .int .i64 root, .int .i64 lone] 26)).cell? ⟨w.heap.size, 2, none⟩ = some (.int .i64 lone) := HBX.out.cell 2
  go_enter Tryd.func11, Tryd.ntmps11
  go_wp2_with fail
  go_quiet (first
    | (go_at_call 30; with_reducible exact Calls.quiet_of_same (DCE.out _))
    | (go_at_call 30; with_reducible exact Calls.quiet_of_same (DCR.out _))
    | (go_at_call 30; with_reducible exact Calls.quiet_of_same (DCL.out _)))
  have HB1 : Hid (Below w.heap.size w ((w.alloc (.cells #[.slice A l.length c, .int .i64 root, .int .i64 lone] 26)).drewN nq)) := below_draws HB0.out nq
  have H2 : Hid (Rd ((w.alloc (.cells #[.slice A l.length c, .int .i64 root, .int .i64 lone] 26)).drewN nq) ((w.alloc (.cells #[.slice A l.length c, .int .i64 root, .int .i64 lone] 26)).drewN nq).heap.size A l.length (I64 (ofN l))) := H1.out.drewN nq
  have HX : Hid (((w.alloc (.cells #[.slice A l.length c, .int .i64 root, .int .i64 lone] 26)).drewN nq).cell? ⟨w.heap.size, 0, none⟩ = some (.slice A l.length c)) := X0
  have hgb1 : w.heap.size < ((w.alloc (.cells #[.slice A l.length c, .int .i64 root, .int .i64 lone] 26)).drewN nq).heap.size := hgb
  clear X0 X1 X2 HB0 H1 HBX hgb DCE DCR DCL c1 c2' c3 c4 c5 hEI
  generalize (w.alloc (.cells #[.slice A l.length c, .int .i64 root, .int .i64 lone] 26)).drewN nq = w1 at *
  have x0 := HX.out
  have NM := Lib.hid (rnames_p A c _ l b w1 H2.out HI.out (by omega))
  go_wp2_with fail
  refine NM.out.mono ?_
  rintro e w2 ⟨AN, cN, rfl, hn1, hn2, hoN, b2⟩
  rw [ofN_len, names_len] at hoN hn1 ⊢
  have HON := Lib.hid hoN
  have HB2 : Hid (Below w.heap.size w w2) := HB1.out.trans (b2.mono HB1.out.size)
  have H3 := Lib.hid (H2.out.more b2)
  have x02 : w2.cell? ⟨w.heap.size, 0, none⟩ = some (.slice A l.length c) := (b2.cell (p := ⟨w.heap.size, 0, none⟩) hgb1).trans HX.out
  have hgb2 : w.heap.size < w2.heap.size := Nat.lt_of_lt_of_le hgb1 b2.size
  have HX2 := Lib.hid x02
  clear hoN b2 NM x0 HX hgb1 H2 HB1 hn1 hn2
  go_wp2_with fail
  clear x02
  go_loopw [3, 5, 31] (fun t x i wr => ∃ (k : Nat) (T : ByteArray) (y : List Int), i = .int .i64 (k : Int) ∧ k ≤ l.length ∧ x = .int .i64 (met l k : Int) ∧ t = .string T ∧ Hid (T = strOfNums y) ∧ Hid (y = H0 ++ vtxB l k) ∧ y.length ≤ 67 + 3000000 * k ∧ Hid (Below w2.heap.size w2 wr)) (fun _ _ i _ => l.length - (intOf i).toNat)
  case atStart =>
    exact ⟨0, T0, H0, rfl, by omega, by rw [met_zero]; rfl, rfl, HT0.out, by show _ = _; simp [vtxB, leads], by omega, Below.refl _ _⟩
  case round =>
    obtain ⟨k, T, y, rfl, hk, rfl, rfl, hT, hy, hlen, hb⟩ := hrel
    have hmet := met_le l k
    have HHL := Lib.hid (fun (h : k < l.length) => And.intro (name_lead HI.out h) (And.intro (name_not HI.out h) (And.intro (met_lead l k) (met_not l k))))
    have HV := Lib.hid (And.intro (vtxB_lead (l := l) (k := k)) (vtxB_not (l := l) (k := k)))
    generalize hq : met l k = q at *
    clear hq
    by_cases hlt : k < l.length
    · have hltI : (k : Int) < (l.length : Int) := by omega
      obtain ⟨bN, oN, rfl, _, kN⟩ := (Rd.ofOwn (own_below HON.out hb.out)).i64 (by omega)
      have cn := kN k hlt
      rw [ofN_get, names_get _ _ hlt] at cn
      clear kN
      have xr : wr.cell? ⟨w.heap.size, 0, none⟩ = some (.slice A l.length c) := (hb.out.cell (p := ⟨w.heap.size, 0, none⟩) hgb2).trans HX2.out
      have HR := HHL.out hlt
      by_cases hl : Leads l k
      · have e1 := HR.1 hl
        have e2 := HR.2.2.1 hl
        have e3 := HV.out.1 hl
        rw [e1] at cn
        have E2 := Lib.hid e2
        have E3 : Hid (H0 ++ vtxB l (k + 1) = y ++ lineB (ofN (orb l k))) := by show _ = _; rw [e3, ← List.append_assoc, hy.out]
        have hol := orb_len_le HI.out hlt
        have hob := ofN_bd (l := orb l k) (n := l.length) (fun x hx => orb_lt HI.out hlt hx) (by omega)
        have hll := lineB_len hob
        rw [ofN_len] at hll
        have HOB := Lib.hid (fun j (hj : j < (orb l k).length) => show (orb l k).getD j 0 < l.length from orb_lt HI.out hlt (getD_mem _ j hj))
        have HPB := Lib.hid (preB_len hob)
        have OR := Lib.hid (rorbit_p A c _ l b k wr (H3.out.more hb.out) HI.out (by omega) hlt)
        clear e1 e2 e3 HR HHL HV hl hob
        go_wp2_with fail
        refine OR.out.mono ?_
        rintro e w4 ⟨A4, c4, rfl, r1, r2, ho4, b4⟩
        rw [ofN_len] at ho4 r1 ⊢
        have B4 : Hid (Below w2.heap.size w2 w4) := hb.out.trans (b4.mono hb.out.size)
        have O4 := Lib.hid ho4
        obtain ⟨L, hL⟩ : ∃ L, L = (orb l k).length := ⟨_, rfl⟩
        rw [← hL] at O4 hol hll HOB r1 ⊢
        have HLL := Lib.hid hL
        obtain ⟨z, hz⟩ : ∃ z, z = ofN (orb l k) := ⟨_, rfl⟩
        have hzl : Hid (z.length = L) := by show _ = _; rw [hz, ofN_len, hL]
        have HZG := Lib.hid (fun j => show z.getD j 0 = (((orb l k).getD j 0 : Nat) : Int) by rw [hz, ofN_get])
        rw [← hz] at O4 HPB E3
        rw [← hz] at hll
        clear ho4 b4 OR hL hz cn xr
        go_wp2_with fail
        go_loopw [3, 47] (fun t i wx => ∃ (j : Nat) (S : ByteArray) (s : List Int), i = .int .i64 (j : Int) ∧ j ≤ L ∧ t = .string S ∧ Hid (S = strOfNums s) ∧ Hid (s = y ++ preB z j) ∧ s.length ≤ y.length + 22 * j ∧ wx = w4) (fun _ i _ => L - (intOf i).toNat)
        case atStart => exact ⟨0, T, y, rfl, by omega, rfl, hT.out, by show _ = _; simp [preB], by omega, rfl⟩
        case round =>
          obtain ⟨j, S, s, rfl, hj, rfl, hS, hs, hsl, rfl⟩ := hrel
          by_cases hjl : j < L
          · have hjlI : (j : Int) < (L : Int) := by omega
            obtain ⟨bZ, oZ, rfl, _, kZ⟩ := (Rd.ofOwn O4.out).i64 (by omega)
            have cj := kZ j hjl
            rw [HZG.out j] at cj
            clear kZ
            have hbd := HOB.out j hjl
            have NX : Hid (y ++ preB z (j + 1) = (s ++ (if j = 0 then [] else [32])) ++ decB (((orb l k).getD j 0 : Nat) : Int)) := by
              show _ = _
              rw [preB_snoc, HZG.out j, hs.out]
              simp
            have DJ := Lib.hid (fun W => dec_p (((orb l k).getD j 0 : Nat) : Int) W (by omega) (by omega))
            have DL := decB_len (((orb l k).getD j 0 : Nat) : Int) (by omega) (by omega)
            generalize (orb l k).getD j 0 = x at *
            by_cases hj0 : j = 0
            · subst hj0
              rw [Nat.add_zero] at cj
              have cc : ∀ W, (Op.stringOp .add S (strOfNums (decB (x : Int)))).run Tryd.prog W = .ok (.string (strOfNums (s ++ decB (x : Int)))) W := fun W => by rw [hS.out]; exact cat_run s _ (by omega) W
              have hl2 : (s ++ decB (x : Int)).length ≤ y.length + 22 * (0 + 1) := by rw [List.length_append]; omega
              have N2 : Hid (s ++ decB (x : Int) = y ++ preB z (0 + 1)) := by show _ = _; rw [NX.out]; simp
              generalize hu : s ++ decB (x : Int) = u at *
              obtain ⟨U, hU⟩ : ∃ U, U = strOfNums u := ⟨_, rfl⟩
              rw [← hU] at cc
              have HU := Lib.hid hU
              generalize strOfNums (decB (x : Int)) = D at *
              clear hU hu DL NX
              go_wp2_with fail
              refine (DJ.out _).mono ?_
              rintro e w' ⟨rfl, rfl⟩
              go_wp2_with fail
              go_roundw
              case rel => exact ⟨0 + 1, U, u, by go_num, by omega, rfl, HU.out, N2.out, hl2, trivial⟩
              case measure => simp [intOf]; omega
            · have hj0I : (0 : Int) < (j : Int) := by omega
              have c0 : ∀ W, (Op.stringOp .add S ⟨#[32]⟩).run Tryd.prog W = .ok (.string (strOfNums (s ++ [32]))) W := fun W => by rw [hS.out]; exact cat_one s 32 (by omega) W 32 rfl
              have cc : ∀ W, (Op.stringOp .add (strOfNums (s ++ [32])) (strOfNums (decB (x : Int)))).run Tryd.prog W = .ok (.string (strOfNums (s ++ [32] ++ decB (x : Int)))) W := fun W => cat_run (s ++ [32]) _ (by rw [List.length_append]; simp; omega) W
              have hl2 : (s ++ [32] ++ decB (x : Int)).length ≤ y.length + 22 * (j + 1) := by rw [List.length_append, List.length_append]; simp; omega
              have N2 : Hid (s ++ [32] ++ decB (x : Int) = y ++ preB z (j + 1)) := by show _ = _; rw [NX.out, if_neg hj0]
              generalize hu : s ++ [32] ++ decB (x : Int) = u at *
              obtain ⟨U, hU⟩ : ∃ U, U = strOfNums u := ⟨_, rfl⟩
              rw [← hU] at cc
              have HU := Lib.hid hU
              generalize strOfNums (decB (x : Int)) = D at *
              generalize strOfNums (s ++ [32]) = S2 at *
              clear hU hu DL NX
              go_wp2_with fail
              refine (DJ.out _).mono ?_
              rintro e w' ⟨rfl, rfl⟩
              go_wp2_with fail
              go_roundw
              case rel => exact ⟨j + 1, U, u, by go_num, by omega, rfl, HU.out, N2.out, hl2, trivial⟩
              case measure => simp [intOf]; omega
          · obtain rfl : j = L := by omega
            have cc : ∀ W, (Op.stringOp .add S ⟨#[10]⟩).run Tryd.prog W = .ok (.string (strOfNums (s ++ [10]))) W := fun W => by rw [hS.out]; exact cat_one s 10 (by omega) W 10 rfl
            have hl2 : (s ++ [10]).length ≤ 67 + 3000000 * (k + 1) := by rw [List.length_append]; simp; omega
            have N2 : Hid (s ++ [10] = H0 ++ vtxB l (k + 1)) := by show _ = _; rw [E3.out, hs.out]; unfold lineB; rw [hzl.out]; simp
            generalize hu : s ++ [10] = u at *
            obtain ⟨U, hU⟩ : ∃ U, U = strOfNums u := ⟨_, rfl⟩
            rw [← hU] at cc
            have HU := Lib.hid hU
            clear hU hu hlen
            go_wp2_with fail
            go_roundw
            case rel => exact ⟨k + 1, U, u, by go_num, by omega, by rw [E2.out]; go_num, rfl, HU.out, N2.out, hl2, B4.out⟩
            case measure => simp [intOf]; omega
      · have e1 := HR.2.1 hl
        have e2 := HR.2.2.2 hl
        have e3 := HV.out.2 hl
        have E2 := Lib.hid e2
        have E3 : Hid (y = H0 ++ vtxB l (k + 1)) := by show _ = _; rw [e3, hy.out]
        obtain ⟨nm, hnm⟩ : ∃ nm, nm = nameOf l k := ⟨_, rfl⟩
        rw [← hnm] at cn e1
        have hne : ((nm : Int) != (q : Int)) = true := bne_iff_ne.2 (by omega)
        have hne2 : (nm != q) = true := bne_iff_ne.2 (by omega)
        clear e2 e3 HR HHL HV hl hnm e1
        go_wp2_with fail
        go_roundw
        case rel => exact ⟨k + 1, T, y, by go_num, by omega, by rw [E2.out], rfl, hT.out, E3.out, by omega, hb.out⟩
        case measure => simp [intOf]; omega
    · obtain rfl : k = l.length := by omega
      go_wp2_with fail
      go_ret
      refine ⟨?_, HB2.out.trans (hb.out.mono HB2.out.size)⟩
      have e : textL l root lone = y := by unfold textL; rw [← HE.out, ← HL0.out, hy.out]
      rw [e, ← hT.out]; rfl
end Go.Proofs.YtohlkhffljjodaaDoor
