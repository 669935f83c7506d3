/- The document's count of orbits in a part. -/
import Derived.Test.YtpplhooojfchpaaENamR
namespace Go.Proofs.Ytpplhooojfchpaa
set_option maxRecDepth 20000
open Go.RowKit
set_option linter.unusedVariables false
theorem leads_orb {l b : List Nat} (h : Inv l b) {k : Nat} (hk : k < l.length) : Leads l k ↔ ∀ x, x ∈ orb l k → k ≤ x := by
  rw [leads_least h (Nat.le_of_lt hk)]
  have hq := (sgL_pf h).eqv
  constructor
  · intro H x hx
    have hxl := orb_lt h hk hx
    obtain ⟨t, e⟩ := (mem_orb h hk).1 hx
    rcases Nat.lt_or_ge x k with c | c
    · exact absurd (hq.symm _ _ hk hxl ⟨t, by rw [sgL_it]; exact e⟩) (H x c)
    · exact c
  · intro H j hj o
    obtain ⟨t, e⟩ := hq.symm _ _ (by omega) hk o
    have := H j ((mem_orb h hk).2 ⟨t, by rw [← sgL_it]; exact e⟩)
    omega
theorem getD_orb_mem {L : List Nat} {i : Nat} (h : i < L.length) : L.getD i 0 ∈ L := by
  rw [List.getD_eq_getElem?_getD, List.getElem?_eq_getElem h]; exact List.getElem_mem h
theorem mem_getD {L : List Nat} {x : Nat} (h : x ∈ L) : ∃ i, i < L.length ∧ L.getD i 0 = x := by
  obtain ⟨i, hi, e⟩ := List.mem_iff_getElem.1 h
  exact ⟨i, hi, by rw [List.getD_eq_getElem?_getD, List.getElem?_eq_getElem hi]; exact e⟩
set_option maxHeartbeats 4000000 in
theorem rof_p (A A2 : Option Addr) (c c2 B B2 : Nat) (l b N : List Nat) (part : Nat) (w : World) (h1 : Rd w B A l.length (I64 (ofN l))) (h2 : Rd w B2 A2 l.length (I64 (ofN N))) (hinv : Inv l b) (hN : N.length = l.length) (hl : l.length ≤ 1000000) :
    Calls Try.prog 40 #[.slice A l.length c, .slice A2 l.length c2, .int .i64 (part : Int)] w fun e w' => e = .returned (.int .i64 (num (fun d => N.getD d 0 = part ∧ Leads l d) l.length : Int)) ∧ Below w.heap.size w w' := by
  have H1 := Lib.hid h1.lt
  have H2 := Lib.hid h2.lt
  have HI := Lib.hid hinv
  have H0 : Hid (0 = num (fun d => N.getD d 0 = part ∧ Leads l d) 0) := rfl
  clear h1 h2 hinv hN
  go_enter Try.func40, Try.ntmps40
  go_wp2_with fail
  go_loopw [7, 14] (fun s7 i wr => ∃ (k p : Nat), k ≤ l.length ∧ p ≤ k ∧ s7 = .int .i64 (p : Int) ∧ i = .int .i64 (k : Int) ∧ Hid (p = num (fun d => N.getD d 0 = part ∧ Leads l d) k) ∧ Hid (Below w.heap.size w wr)) (fun _ i _ => l.length - (intOf i).toNat)
  case atStart => exact ⟨0, 0, by omega, by omega, rfl, rfl, H0.out, Below.refl _ _⟩
  case round =>
    obtain ⟨k, p, hk, hpk, rfl, rfl, HP, HB⟩ := hrel
    by_cases hlt : k < l.length
    · have hrd := H1.out.below HB.out
      have OB := Lib.hid (rorbit_p A c _ l b k wr hrd HI.out hl hlt)
      have hr2 := H2.out.below HB.out
      have HLO := Lib.hid (leads_orb HI.out hlt)
      have HLT : Hid (∀ x, x ∈ orb l k → x < l.length) := fun x hx => orb_lt HI.out hlt hx
      have HPL : (orb l k).length ≤ l.length := by unfold orb; rw [way_len]; exact per_le HI.out hlt
      have hdk : decide (k < l.length) = true := by rw [decide_eq_true_iff]; exact hlt
      have HR2 := Lib.hid hr2
      have hsr := HB.out.size
      clear hrd hr2
      go_wp2_with fail
      refine OB.out.mono ?_
      rintro e w3 ⟨A3, k3, rfl, hk3, hm3, hown3, hb3⟩
      rw [ofN_len] at hown3 hk3 ⊢
      have HO3 := Lib.hid hown3
      have HB3 := Lib.hid (HB.out.trans (hb3.mono hsr))
      have HR3 := Lib.hid (HR2.out.below (hb3.mono hsr))
      clear hown3 hb3 OB
      obtain ⟨P, hP⟩ : ∃ P, P = (orb l k).length := ⟨_, rfl⟩
      rw [← hP] at HO3 hk3 HPL ⊢
      have HPE := Lib.hid hP
      clear hP
      go_wp2_with fail
      go_loopw [9, 21] (fun s9 i wx => wx = w3 ∧ ∃ (j : Nat) (t : Bool), j ≤ P ∧ s9 = .bool t ∧ i = .int .i64 (j : Int) ∧ Hid (t = true ↔ ∀ q, q < j → k ≤ (orb l k).getD q 0)) (fun _ i _ => P - (intOf i).toNat)
      case atStart => exact ⟨rfl, 0, true, by omega, rfl, rfl, ⟨fun _ q h => absurd h (by omega), fun _ => rfl⟩⟩
      case round =>
        obtain ⟨rfl, j, t, hj, rfl, rfl, HT⟩ := hrel
        by_cases hjP : j < P
        · obtain ⟨g3, rfl, hg3, hg3'⟩ := own_some HO3.out (by omega)
          have cx := own_cellI HO3.out j hjP
          rw [ofN_get] at cx
          have HX : Hid (∀ t' : Bool, (t' = true ↔ t = true ∧ k ≤ (orb l k).getD j 0) → (t' = true ↔ ∀ q, q < j + 1 → k ≤ (orb l k).getD q 0)) := fun t' ht => by
            rw [ht, HT.out]
            constructor
            · rintro ⟨a, c⟩ q hq
              by_cases e : q = j
              · rw [e]; exact c
              · exact a q (by omega)
            · intro a
              exact ⟨fun q hq => a q (by omega), a j (by omega)⟩
          obtain ⟨x, hx⟩ : ∃ x, x = (orb l k).getD j 0 := ⟨_, rfl⟩
          rw [← hx] at cx HX
          have hdj : decide (j < P) = true := by rw [decide_eq_true_iff]; exact hjP
          clear hx
          cases t with
          | false =>
            have HX2 := Lib.hid (HX.out false ⟨fun h => (by cases h), fun h => (by cases h.1)⟩)
            go_wp2_with fail
            go_roundw
            case rel => exact ⟨trivial, j + 1, false, by omega, rfl, by go_num, HX2.out⟩
            case measure => simp [intOf]; omega
          | true =>
            have HX2 := Lib.hid (HX.out (decide (k ≤ x)) ⟨fun h => ⟨rfl, of_decide_eq_true h⟩, fun h => decide_eq_true h.2⟩)
            go_wp2_with fail
            go_roundw
            case rel => exact ⟨trivial, j + 1, decide (k ≤ x), by omega, rfl, by go_num, HX2.out⟩
            case measure => simp [intOf]; omega
        · obtain rfl : j = P := by omega
          have HTL : Hid (t = true ↔ Leads l k) := by
            show _ ↔ _
            rw [HT.out, HLO.out]
            constructor
            · intro a x hx
              obtain ⟨i, hi, e⟩ := mem_getD hx
              rw [← e]; exact a i (by rw [HPE.out]; exact hi)
            · intro a q hq
              exact a _ (getD_orb_mem (by rw [← HPE.out]; exact hq))
          obtain ⟨b', o, rfl, hb'l, k1⟩ := HR3.out.i64 (by omega)
          have t1 := k1 k hlt
          rw [ofN_get] at t1
          have NX := Lib.hid (num_next (fun d => N.getD d 0 = part ∧ Leads l d) k)
          have hdj : decide (j < j) = false := by simp
          obtain ⟨v, hv⟩ : ∃ v, v = N.getD k 0 := ⟨_, rfl⟩
          rw [← hv] at t1
          have HV := Lib.hid hv
          clear k1 hj hjP hv
          cases t with
          | false =>
            have NX2 := Lib.hid (NX.out.2 (fun h => by have := HTL.out.2 h.2; cases this))
            go_wp2_with fail
            go_roundw
            case rel => exact ⟨k + 1, p, by omega, by omega, rfl, by go_num, by show _ = _; rw [NX2.out, HP.out], HB3.out⟩
            case measure => simp [intOf]; omega
          | true =>
            by_cases hvp : v = part
            · have NX2 := Lib.hid (NX.out.1 ⟨by rw [← HV.out]; exact hvp, HTL.out.1 rfl⟩)
              have hb : ((v : Int) == (part : Int)) = true := by rw [beq_iff_eq]; omega
              clear hvp
              go_wp2_with fail
              go_roundw
              case rel => exact ⟨k + 1, p + 1, by omega, by omega, by go_num, by go_num, by show _ = _; rw [NX2.out, HP.out], HB3.out⟩
              case measure => simp [intOf]; omega
            · have NX2 := Lib.hid (NX.out.2 (fun h => hvp (by rw [HV.out]; exact h.1)))
              have hb : ((v : Int) == (part : Int)) = false := by rw [beq_eq_false_iff_ne]; omega
              clear hvp
              go_wp2_with fail
              go_roundw
              case rel => exact ⟨k + 1, p, by omega, by omega, rfl, by go_num, by show _ = _; rw [NX2.out, HP.out], HB3.out⟩
              case measure => simp [intOf]; omega
    · obtain rfl : k = l.length := by omega
      go_wp2_with fail
      go_ret
      exact ⟨by rw [← HP.out]; rfl, HB.out⟩
end Go.Proofs.Ytpplhooojfchpaa
