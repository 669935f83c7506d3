/- A map's text, vertex by vertex. -/
import Derived.Test.YtohlkhffljjodaaDoorZRPrint
namespace Go.Proofs.YtohlkhffljjodaaDoor
open Go.RowKit
set_option linter.unusedVariables false
set_option maxRecDepth 20000
/-- The lines of the vertices whose least darts are below k. -/
noncomputable def vtxB (l : List Nat) (k : Nat) : List Int := ((leads l k).map fun d => lineB (ofN (orb l d))).flatten
theorem vtxB_lead {l : List Nat} {k : Nat} (h : Leads l k) : vtxB l (k + 1) = vtxB l k ++ lineB (ofN (orb l k)) := by
  unfold vtxB; rw [leads_next, if_pos h]; simp
theorem vtxB_not {l : List Nat} {k : Nat} (h : ¬ Leads l k) : vtxB l (k + 1) = vtxB l k := by
  unfold vtxB; rw [leads_next, if_neg h]; simp
/-- A map's text. -/
noncomputable def textL (l : List Nat) (root lone : Int) : List Int := lineB [((l.length / 2 : Nat) : Int), root, lone] ++ vtxB l l.length
theorem lineB_len {zs : List Int} (hz : ∀ k, -9223372036854775808 ≤ zs.getD k 0 ∧ zs.getD k 0 ≤ 9223372036854775807) : (lineB zs).length ≤ 22 * zs.length + 1 := by
  have := preB_len hz zs.length
  unfold lineB; rw [List.length_append, List.length_singleton]; omega
theorem ofN_bd {l : List Nat} {n : Nat} (h : ∀ x ∈ l, x < n) (hn : n ≤ 1000000) (k : Nat) : -9223372036854775808 ≤ (ofN l).getD k 0 ∧ (ofN l).getD k 0 ≤ 9223372036854775807 := by
  rw [ofN_get]
  by_cases hk : k < l.length
  · have := h _ (getD_mem l k hk); omega
  · have e : l.getD k 0 = 0 := by rw [List.getD_eq_getElem?_getD, List.getElem?_eq_none (by omega)]; rfl
    rw [e]; omega
theorem orb_len_le {l b : List Nat} (h : Inv l b) {i : Nat} (hi : i < l.length) : (orb l i).length ≤ l.length := by
  unfold orb; rw [way_len]; exact per_le h hi
def PrintPost (w : World) (X : List Int) (e : Ending) (w' : World) : Prop :=
  ∃ A c, e = .returned (.tuple #[.slice A X.length c, .int .i64 0]) ∧ X.length ≤ c ∧ c ≤ maxLen ∧ w'.ownsRow w.heap.size 5 1 (.slice A X.length c) X.length (Z8 X) ∧ Below w.heap.size w w'
set_option maxHeartbeats 4000000 in
theorem print_p (g : Nat) (l b : List Nat) (root lone : Int) (w : World) (h : MapAt w g l b root lone) (hroot : -9223372036854775808 ≤ root ∧ root ≤ 9223372036854775807)
    (htab : Lib.TabIs Tryd.prog w "internal/strconv.uint64pow10" .u64 Lib.pow10Tab) :
    Calls Tryd.prog 10 #[.pointer (some ⟨g, 0, none⟩)] w (PrintPost w (textL l root lone)) := by
  have HT := Lib.hid (Lib.tabBelow_of_tabIs htab)
  have hn := h.2.1
  have hinv : Inv l b := by obtain ⟨_, _, p, A, c, S, d, q, A', c', S', d', hb, hp, _⟩ := h; exact hp.1
  have HI := Lib.hid hinv
  have hlone := h.1.2
  have ED := Lib.hid (edges_p g l b root lone w h)
  have HM := Lib.hid h
  have HLB := Lib.hid hlone
  have HRB := Lib.hid hroot
  clear htab h hinv hlone hroot
  go_enter Tryd.func10, Tryd.ntmps10
  go_wp2_with fail
  refine ED.out.mono ?_
  rintro e w1 ⟨rfl, b1⟩
  have M1 := Lib.hid (HM.out.below b1)
  have B1 := Lib.hid b1
  have RT := Lib.hid (root_p g l b root lone w1 M1.out)
  have LN := Lib.hid (lone_p g l b root lone w1 M1.out)
  clear b1 ED
  obtain ⟨E, hE⟩ : ∃ E : Nat, E = l.length / 2 := ⟨_, rfl⟩
  rw [← hE]
  have HE := Lib.hid hE
  have hEb : E ≤ 131072 := by omega
  clear hE
  have own0 := World.ownsRow_lit (base := w1.heap.size) (e := 3) (size := 1) w1 #[.int .i64 (E : Int), .int .i64 root, .int .i64 lone] 3 (Nat.le_refl _) (by simp [maxLen]) (by simp)
  have OWN0 := Lib.hid own0
  clear own0
  go_wp2_with fail
  refine RT.out.mono ?_
  rintro e w' ⟨rfl, rfl⟩
  go_wp2_with fail
  refine LN.out.mono ?_
  rintro e w' ⟨rfl, rfl⟩
  have hw1s := B1.out.size
  have bA : Below w.heap.size w (w1.alloc (.cells #[.int .i64 (E : Int), .int .i64 root, .int .i64 lone] 3)) := B1.out.alloc hw1s _
  have LP := Lib.hid (line_p w.heap.size w1.heap.size none 0 [] (some ⟨w1.heap.size, 0, none⟩) 3 3 [(E : Int), root, lone] (w1.alloc (.cells #[.int .i64 (E : Int), .int .i64 root, .int .i64 lone] 3)) (World.ownsRow_nil _ _ _ _) bA.size (by simpa [I64] using OWN0.out) (fun k => by
    have := HLB.out
    have := HRB.out
    rcases k with _ | _ | _ | k <;> simp <;> omega) (by simp) (HT.out.on bA))
  have BA := Lib.hid bA
  clear bA RT LN OWN0 hw1s
  go_wp2_with fail
  refine LP.out.mono ?_
  rintro e w2 ⟨A2, c2, rfl, q1, q2, ho2, b2, k2⟩
  rw [List.nil_append] at ho2 q1 ⊢
  have B2 : Hid (Below w.heap.size w w2) := BA.out.trans b2
  have M2 := Lib.hid (HM.out.below B2.out)
  have DA := Lib.hid (darts_p g l b root lone w2 M2.out)
  have HO2 := Lib.hid ho2
  have hl0 : (lineB [(E : Int), root, lone]).length ≤ 67 := lineB_len (zs := [(E : Int), root, lone]) (fun k => by
    have := HLB.out
    have := HRB.out
    rcases k with _ | _ | _ | k <;> simp <;> omega)
  clear ho2 b2 k2 LP BA B1 M1
  go_wp2_with fail
  refine DA.out.mono ?_
  rintro e w3 ⟨rfl, b3⟩
  have B3 : Hid (Below w.heap.size w w3) := B2.out.trans (b3.mono B2.out.size)
  have HO3 := Lib.hid (own_below HO2.out b3)
  clear b3 B2 HO2 DA M2
  obtain ⟨H0, hH0⟩ : ∃ H0, H0 = lineB [(E : Int), root, lone] := ⟨_, rfl⟩
  rw [← hH0] at HO3 hl0 q1 ⊢
  have HH := Lib.hid hH0
  clear hH0
  go_wp2_with fail
  go_loopw [4, 5, 19] (fun t x i wr => ∃ (k : Nat) (A' : Option Addr) (c' : Nat), i = .int .i64 (k : Int) ∧ k ≤ l.length ∧ x = .int .i64 (met l k : Int) ∧ t = .slice A' (H0 ++ vtxB l k).length c' ∧ (H0 ++ vtxB l k).length ≤ 67 + 3000000 * k ∧ (H0 ++ vtxB l k).length ≤ c' ∧ c' ≤ maxLen ∧
    Hid (wr.ownsRow w.heap.size 5 1 (.slice A' (H0 ++ vtxB l k).length c') (H0 ++ vtxB l k).length (Z8 (H0 ++ vtxB l k))) ∧ Hid (Below w.heap.size w wr)) (fun _ _ i _ => l.length - (intOf i).toNat)
  case atStart =>
    have e0 : H0 ++ vtxB l 0 = H0 := by simp [vtxB, leads]
    refine ⟨0, A2, c2, rfl, by omega, by rw [met_zero]; rfl, by rw [e0], by rw [e0]; omega, by rw [e0]; exact q1, q2, ?_, B3.out⟩
    show World.ownsRow _ _ _ _ _ _ _
    rw [e0]; exact HO3.out
  case round =>
    clear HO3 B3
    obtain ⟨k, A', c', rfl, hk, rfl, rfl, hlen, hc1, hc2, ho, hb⟩ := hrel
    have hmet := met_le l k
    have HHL := Lib.hid (fun (h : k < l.length) => And.intro (name_lead HI.out h) (And.intro (name_not HI.out h) (And.intro (met_lead l k) (met_not l k))))
    have HV := Lib.hid (And.intro (vtxB_lead (l := l) (k := k)) (vtxB_not (l := l) (k := k)))
    generalize hY : H0 ++ vtxB l k = Y at *
    have HY := Lib.hid hY
    clear hY
    generalize hq : met l k = q at *
    have HQ := Lib.hid hq
    clear hq
    by_cases hlt : k < l.length
    · have hltI : (k : Int) < (l.length : Int) := by omega
      have MR := Lib.hid (HM.out.below hb.out)
      have VI := Lib.hid (vertex_in g l b root lone k wr MR.out hlt)
      have HR := HHL.out hlt
      by_cases hl : Leads l k
      · have e1 := HR.1 hl
        have e2 := HR.2.2.1 hl
        have e3 := HV.out.1 hl
        rw [e1] at VI
        have E2 : Hid (met l (k + 1) = q + 1) := by show _ = _; exact e2
        have E3 : Hid (H0 ++ vtxB l (k + 1) = Y ++ lineB (ofN (orb l k))) := by show _ = _; rw [e3, ← List.append_assoc, HY.out]
        clear e1 e2 e3 HR HHL HV hl
        have hol := orb_len_le HI.out hlt
        have hob := ofN_bd (l := orb l k) (n := l.length) (fun x hx => orb_lt HI.out hlt hx) (by omega)
        have hll := lineB_len hob
        rw [ofN_len] at hll
        have HOB := Lib.hid hob
        clear hob
        go_wp2_with fail
        refine VI.out.mono ?_
        rintro e w4 ⟨rfl, b4⟩
        have B4 : Hid (Below w.heap.size w w4) := hb.out.trans (b4.mono hb.out.size)
        have O4 := Lib.hid (own_below ho.out b4)
        have AR := Lib.hid (around_in g l b root lone k w4 (HM.out.below B4.out) hlt)
        clear b4 VI
        go_wp2_with fail
        refine AR.out.mono ?_
        rintro e w5 ⟨A5, c5, rfl, r1, r2, ho5, b5⟩
        rw [ofN_len] at ho5 r1 ⊢
        have B5 : Hid (Below w.heap.size w w5) := B4.out.trans (b5.mono B4.out.size)
        have O5 := Lib.hid (own_below O4.out b5)
        have LP := Lib.hid (line_p w.heap.size w4.heap.size A' c' Y A5 (orb l k).length c5 (ofN (orb l k)) w5 O5.out B5.out.size ho5 HOB.out (by omega) (HT.out.on B5.out))
        clear ho5 b5 AR O4
        go_wp2_with fail
        refine LP.out.mono ?_
        rintro e w6 ⟨A6, c6, rfl, s1, s2, ho6, b6, _⟩
        have B6 : Hid (Below w.heap.size w w6) := B5.out.trans b6
        have O6 := Lib.hid ho6
        have S1 := Lib.hid s1
        have hl6 : (Y ++ lineB (ofN (orb l k))).length ≤ 67 + 3000000 * (k + 1) := by rw [List.length_append]; omega
        clear ho6 b6 LP O5 s1
        generalize hZ : Y ++ lineB (ofN (orb l k)) = Z at *
        clear hZ
        go_wp2_with fail
        go_roundw
        case rel =>
          refine ⟨k + 1, A6, c6, by go_num, by omega, by rw [E2.out]; go_num, by rw [E3.out], by rw [E3.out]; exact hl6, by rw [E3.out]; exact S1.out, s2, ?_, B6.out⟩
          show World.ownsRow _ _ _ _ _ _ _
          rw [E3.out]; exact O6.out
        case measure => simp [intOf]; omega
      · have e1 := HR.2.1 hl
        have e2 := HR.2.2.2 hl
        have e3 := HV.out.2 hl
        have E2 : Hid (met l (k + 1) = q) := by show _ = _; exact e2
        have E3 : Hid (H0 ++ vtxB l (k + 1) = Y) := by show _ = _; rw [e3, HY.out]
        have hnb : ((nameOf l k : Nat) : Int) ≤ 131072 := by omega
        obtain ⟨nm, hnm⟩ : ∃ nm, nm = nameOf l k := ⟨_, rfl⟩
        rw [← hnm] at VI e1
        have hne : ((nm : Int) == (q : Int)) = false := beq_eq_false_iff_ne.2 (by omega)
        have hne2 : (nm == q) = false := beq_eq_false_iff_ne.2 (by omega)
        clear e2 e3 HR HHL HV hl hnm e1 hnb
        go_wp2_with fail
        refine VI.out.mono ?_
        rintro e w4 ⟨rfl, b4⟩
        have B4 : Hid (Below w.heap.size w w4) := hb.out.trans (b4.mono hb.out.size)
        have O4 := Lib.hid (own_below ho.out b4)
        clear b4 VI
        go_wp2_with fail
        go_roundw
        case rel =>
          refine ⟨k + 1, A', c', by go_num, by omega, by rw [E2.out], by rw [E3.out], by rw [E3.out]; omega, by rw [E3.out]; exact hc1, hc2, ?_, B4.out⟩
          show World.ownsRow _ _ _ _ _ _ _
          rw [E3.out]; exact O4.out
        case measure => simp [intOf]; omega
    · obtain rfl : k = l.length := by omega
      go_wp2_with fail
      go_ret2
      have e : textL l root lone = Y := by unfold textL; rw [← HE.out, ← HH.out, HY.out]
      rw [e]
      exact ⟨A', c', rfl, hc1, hc2, ho.out, hb.out⟩
end Go.Proofs.YtohlkhffljjodaaDoor
