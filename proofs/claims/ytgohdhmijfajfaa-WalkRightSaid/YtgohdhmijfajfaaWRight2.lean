/- Right of any steps; Clone of steps. -/
import Derived.Test.YtgohdhmijfajfaaWRight
import Derived.Test.YtgohdhmijfajfaaAppendK
namespace Go.Proofs.Ytgohdhmijfajfaa
set_option maxRecDepth 20000
open Go.RowKit
set_option linter.unusedVariables false
theorem flat_ext {L1 L2 : List Int} {n : Nat} (h1 : L1.length = 2 * n) (h2 : L2.length = 2 * n) (h : ∀ k, k < n → L1.getD (2 * k) 0 = L2.getD (2 * k) 0 ∧ L1.getD (2 * k + 1) 0 = L2.getD (2 * k + 1) 0) : L1 = L2 := by
  apply getDI_ext (by rw [h1, h2])
  intro i hi
  obtain ⟨a, b⟩ := h (i / 2) (by omega)
  rcases Nat.mod_two_eq_zero_or_one i with c | c
  · rw [show i = 2 * (i / 2) by omega]; exact a
  · rw [show i = 2 * (i / 2) + 1 by omega]; exact b
theorem eqS (v0 v1 u0 u1 : Int) (W : World) : Sem.run Try.prog (binOp .eql 40 (.agg #[.int .i64 v0, .int .i64 v1]) (.agg #[.int .i64 u0, .int .i64 u1])) W = .ok (.bool (v0 == u0 && v1 == u1)) W := by
  have u3 := Try.underlying3
  have a3 := Try.isAgg3
  have z3 := Try.sizeOf3
  have hS : Try.prog.underlying 40 = some (.struct (Try.prog.fieldsOf 40)) := by kernel_rfl
  have hp : Try.prog.stoodInHeld 40 = false := by kernel_rfl
  rw [run_eql_struct, show (10000 : Nat) = 9999 + 1 from rfl, run_equalIn_agg W 9999 40 _ _ hS hp]
  simp only [Program.fieldsOf, Try.underlying40]
  go_simp
  by_cases h1 : v0 = u0 <;> by_cases h2 : v1 = u1 <;> simp [h1, h2]
theorem neqS (v0 v1 u0 u1 : Int) (W : World) : Sem.run Try.prog (binOp .neq 40 (.agg #[.int .i64 v0, .int .i64 v1]) (.agg #[.int .i64 u0, .int .i64 u1])) W = .ok (.bool (!(v0 == u0 && v1 == u1))) W := by
  have u3 := Try.underlying3
  have a3 := Try.isAgg3
  have z3 := Try.sizeOf3
  have hS : Try.prog.underlying 40 = some (.struct (Try.prog.fieldsOf 40)) := by kernel_rfl
  have hp : Try.prog.stoodInHeld 40 = false := by kernel_rfl
  rw [run_neq_struct, show (10000 : Nat) = 9999 + 1 from rfl, run_equalIn_agg W 9999 40 _ _ hS hp]
  simp only [Program.fieldsOf, Try.underlying40]
  go_simp
  by_cases h1 : v0 = u0 <;> by_cases h2 : v1 = u1 <;> simp [h1, h2]
set_option maxHeartbeats 4000000 in
theorem equalS_any (A1 A2 : Option Addr) (c1 c2 n m B1 B2 : Nat) (L1 L2 : List Int) (w : World) (h1 : RdS w B1 A1 n L1) (h2 : RdS w B2 A2 m L2) (hb1 : B1 ≤ w.heap.size) (hb2 : B2 ≤ w.heap.size) (hn : n ≤ 1000000) (hm : m ≤ 1000000) :
    Calls Try.prog 34 #[.slice A1 n c1, .slice A2 m c2] w fun e w' => e = .returned (.bool (decide (L1 = L2))) ∧ Below w.heap.size w w' := by
  have l1 := h1.1
  have l2 := h2.1
  by_cases hnm : n = m
  · subst hnm
    have H1 := Lib.hid (h1.up hb1)
    have H2 := Lib.hid (h2.up hb2)
    have HL := Lib.hid (And.intro l1 l2)
    clear h1 h2 l1 l2
    go_enter Try.func34, Try.ntmps34
    go_wp2_with fail
    go_loopw [13] (fun i wr => ∃ (k : Nat), k ≤ n ∧ i = .int .i64 (k : Int) ∧ Hid (∀ j, j < k → L1.getD (2 * j) 0 = L2.getD (2 * j) 0 ∧ L1.getD (2 * j + 1) 0 = L2.getD (2 * j + 1) 0) ∧ Hid (Below w.heap.size w wr)) (fun i _ => n - (intOf i).toNat)
    case atStart => exact ⟨0, by omega, rfl, fun j hj => absurd hj (by omega), Below.refl _ _⟩
    case round =>
      obtain ⟨k, hk, rfl, HE, HB⟩ := hrel
      by_cases hlt : k < n
      · obtain ⟨g1, rfl, _, k1⟩ := (H1.out.below HB.out).2 (show 0 < n by omega)
        obtain ⟨g2, rfl, _, k2⟩ := (H2.out.below HB.out).2 (show 0 < n by omega)
        have hdk : decide (k < n) = true := by rw [decide_eq_true_iff]; exact hlt
        have a0 := k1 (k * 2) (by omega)
        have a1 := k1 (k * 2 + 1) (by omega)
        have b0 := k2 (k * 2) (by omega)
        have b1 := k2 (k * 2 + 1) (by omega)
        clear k1 k2
        obtain ⟨v0, hv0⟩ : ∃ v0, v0 = L1.getD (k * 2) 0 := ⟨_, rfl⟩
        obtain ⟨v1, hv1⟩ : ∃ v1, v1 = L1.getD (k * 2 + 1) 0 := ⟨_, rfl⟩
        obtain ⟨u0, hu0⟩ : ∃ u0, u0 = L2.getD (k * 2) 0 := ⟨_, rfl⟩
        obtain ⟨u1, hu1⟩ : ∃ u1, u1 = L2.getD (k * 2 + 1) 0 := ⟨_, rfl⟩
        rw [← hv0] at a0
        rw [← hv1] at a1
        rw [← hu0] at b0
        rw [← hu1] at b1
        have HV := Lib.hid (And.intro hv0 (And.intro hv1 (And.intro hu0 hu1)))
        clear hv0 hv1 hu0 hu1
        by_cases hs : v0 = u0 ∧ v1 = u1
        · obtain ⟨rfl, rfl⟩ := hs
          go_wp2_with fail
          go_quiet (fail)
          go_wp2_with fail
          go_roundw
          case rel =>
            refine ⟨k + 1, by omega, by go_num, fun j hj => ?_, below_draws HB.out _⟩
            by_cases e : j = k
            · subst e
              obtain ⟨q1, q2, q3, q4⟩ := HV.out
              rw [Nat.mul_comm 2 j]
              exact ⟨by rw [← q1, ← q3], by rw [← q2, ← q4]⟩
            · exact HE.out j (by omega)
          case measure => simp [intOf]; omega
        · have hd : Hid (decide (L1 = L2) = false) := decide_eq_false fun e => by
            obtain ⟨q1, q2, q3, q4⟩ := HV.out
            exact hs ⟨by rw [q1, q3, e], by rw [q2, q4, e]⟩
          have hne : ∀ W, Sem.run Try.prog (binOp .neq 40 (.agg #[.int .i64 v0, .int .i64 v1]) (.agg #[.int .i64 u0, .int .i64 u1])) W = .ok (.bool true) W := fun W => by
            rw [neqS]
            have : (v0 == u0 && v1 == u1) = false := by
              rw [Bool.and_eq_false_iff, beq_eq_false_iff_ne, beq_eq_false_iff_ne]
              rcases Decidable.em (v0 = u0) with c | c
              · exact .inr fun d => hs ⟨c, d⟩
              · exact .inl c
            rw [this]; rfl
          have HNE := Lib.hid hs
          clear hs
          go_wp2_with fail
          go_quiet (fail)
          go_wp2_with fail
          go_ret
          exact ⟨by rw [hd.out]; rfl, below_draws HB.out _⟩
      · obtain rfl : k = n := by omega
        have hdk : decide (k < k) = false := by simp
        have hd : Hid (decide (L1 = L2) = true) := decide_eq_true (flat_ext HL.out.1 HL.out.2 HE.out)
        go_wp2_with fail
        go_ret
        exact ⟨by rw [hd.out]; rfl, HB.out⟩
  · have hb : ((n : Int) != (m : Int)) = true := by rw [bne_iff_ne]; omega
    have hd : Hid (decide (L1 = L2) = false) := decide_eq_false fun e => hnm (by rw [e] at l1; omega)
    clear h1 h2 l1 l2 hnm
    go_enter Try.func34, Try.ntmps34
    go_wp2_with fail
    go_ret
    exact ⟨by rw [hd.out]; rfl, Below.refl _ _⟩
set_option maxHeartbeats 2000000 in
theorem right_any (g : Nat) (l b : List Nat) (root lone : Int) (r m V n1 : Nat) (A1 : Option Addr) (c1 B : Nat) (L1 : List Int) (w : World) (h : MapAt w g l b root lone) (hi : Inv l b) (hr : r < l.length) (hm : m = l.length / 2) (hV : (V : Int) = ((sizes l).length : Int) + lone)
    (hs : RdS w B A1 n1 L1) (hB : B ≤ w.heap.size) (hN : wN (sgL l) (nameOf l) m V r ≤ 1000000) (hn1 : n1 ≤ 1000000) :
    Calls Try.prog 11 #[.pointer (some ⟨g, 0, none⟩), .int .i64 (r : Int), .slice A1 n1 c1] w fun e w' => e = .returned (.bool (decide (L1 = wst (sgL l) (nameOf l) m V r (wN (sgL l) (nameOf l) m V r)))) ∧ Below w.heap.size w w' := by
  have OP := Lib.hid (walkOf_p g l b root lone r m V w h hi hr hm hV)
  have HS := Lib.hid hs
  clear h hi hr hm hV hs
  generalize wst (sgL l) (nameOf l) m V r (wN (sgL l) (nameOf l) m V r) = L at *
  generalize wN (sgL l) (nameOf l) m V r = N at *
  obtain ⟨q, hq⟩ : ∃ q, q = decide (L1 = L) := ⟨_, rfl⟩
  rw [← hq]
  have HQ := Lib.hid hq
  clear hq
  go_enter Try.func11, Try.ntmps11
  go_wp2_with fail
  refine OP.out.mono ?_
  rintro e w1 ⟨A, c, rfl, own, z⟩
  have EP := Lib.hid (equalS_any A1 A c1 c n1 N _ _ L1 L w1 (HS.out.below (z.mono hB)) (RdS.own own) (Nat.le_trans hB z.size) (Nat.le_refl _) hn1 hN)
  have Z := Lib.hid z
  rw [← HQ.out] at EP
  clear own z
  go_wp2_with fail
  refine EP.out.mono ?_
  rintro e w2 ⟨rfl, z⟩
  have Z2 := Lib.hid (Z.out.trans (z.mono Z.out.size))
  clear z
  go_wp2_with fail
  go_ret
  exact ⟨rfl, Z2.out⟩
theorem right_nil (i : Int) (v : Value) (w : World) :
    Calls Try.prog 11 #[.pointer none, .int .i64 i, v] w fun e w' => e = .returned (.bool false) ∧ w = w' := by
  have OP := Lib.hid (walkOf_nil i w)
  go_enter Try.func11, Try.ntmps11
  go_wp2_with fail
  refine OP.out.mono ?_
  rintro e w1 ⟨rfl, rfl⟩
  go_wp2_with fail
  go_ret
  exact ⟨rfl, rfl⟩
set_option maxHeartbeats 2000000 in
theorem cloneS_p (b n c B : Nat) (L : List Int) (w : World) (h : RdS w B (some ⟨b, 0, none⟩) n L) (hn : n ≤ 300000) (hn0 : 0 < n) :
    Calls Try.prog 28 #[.slice (some ⟨b, 0, none⟩) n c] w fun e w' => ∃ g' c', e = .returned (.slice (some ⟨g', 0, none⟩) n c') ∧ w'.ownsRow w.heap.size 40 2 (.slice (some ⟨g', 0, none⟩) n c') n (I64 L) ∧ Below w.heap.size w w' := by
  obtain ⟨i0, hi0, hz0, hz1, hz2⟩ := info_parts info_step
  have hl := h.1
  obtain ⟨b', e', hb, kk⟩ := h.2 hn0
  cases e'
  have hq := fun W a n c => Lib.run_eql_slice_nil (P := Try.prog) W 30 40 a n c 0 0 Try.underlying30
  have hown : (w.alloc (.cells #[] 40)).ownsRow w.heap.size 40 2 (.slice (some ⟨w.heap.size, 0, none⟩) 0 0) 0 [] :=
    World.ownsRow_made w #[] 0 (Nat.le_refl _) (by simp [maxLen]) rfl
  have hnews : ∀ j u, (I64 L)[j]? = some u → (w.alloc (.cells #[] 40)).cell? ((⟨b, 0, none⟩ : Addr).add j) = some u := fun j u hu => by
    have hj : j < 2 * n := by have := (List.getElem?_eq_some_iff.1 hu).1; rw [I64_len] at this; omega
    rw [I64_get L j (by omega)] at hu
    rw [Addr.add_lit, Nat.zero_add]
    have := Lib.cell?_alloc_some (.cells #[] 40) (kk j hj)
    rw [this]; exact hu
  have s1 : 0 + n ≤ maxLen := by simp only [maxLen]; omega
  have s2 : (0 + n) * 16 ≤ 140737488355328 := by omega
  have s3 : w.heap.size ≤ (w.alloc (.cells #[] 40)).heap.size := by simp
  have s4 : (I64 L).length = n * 2 := by rw [I64_len]; omega
  clear kk
  go_enter Try.func28, Try.ntmps28
  go_wp2_with (first
    | (at_builtin; go_must (refine wpList_append_keep _ rfl _ _ 30 rfl w.heap.size 40 i0 _ 2 16 Try.underlying30 hi0 hz0 hz1 hz2 rfl (by decide) _ 0 [] rfl hown ⟨b, 0, none⟩ n c (I64 L) rfl s4 hnews (I64_one _) hn0 s1 s2 s3 _ rfl ?_)))
  intro g' c' w' hown' hg _ _ _
  go_wp2_with fail
  go_ret
  refine ⟨g', c', by simp, ?_, ((Below.refl _ _).alloc (Nat.le_refl _) _).trans (Below.grown (Below.refl _ _) hg s3 fun k hk => (hown.lt k hk).1)⟩
  simpa using hown'
end Go.Proofs.Ytgohdhmijfajfaa
