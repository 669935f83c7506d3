/- MixedAdds: whatever is added, the word is the document's; its bits tell it again. -/
import Derived.Test.YtagpdpacaoianaaGreatDoorZMAwake
import Derived.Test.YtagpdpacaoianaaGreatDoorZMLike
import Derived.Test.YtagpdpacaoianaaGreatDoorZMAddS
import Derived.Test.YtagpdpacaoianaaGreatDoorZMCounts
import Derived.Test.YtagpdpacaoianaaGreatDoorZCloneI
namespace Go.Proofs.YtagpdpacaoianaaGreatDoor
set_option maxRecDepth 20000
open Go.RowKit
set_option linter.unusedVariables false
/-- A slice of slices of integers. -/
def Rows64 (w : World) (a : Option Addr) (len : Nat) : Prop := ∃ (A : Nat → Option Addr) (L C : Nat → Nat) (Z : Nat → List Int), (0 < len → ∃ b o, a = some ⟨b, o, none⟩ ∧ b < w.heap.size ∧ ∀ r, r < len → w.cell? ⟨b, o + r, none⟩ = some (.slice (A r) (L r) (C r))) ∧
  ∀ r, r < len → L r ≤ C r ∧ C r ≤ maxLen ∧ Rd w w.heap.size (A r) (L r) (I64 (Z r))
theorem rows_i64 {w : World} {a : Option Addr} {len cap : Nat}
    (h : (a = none ∧ len = 0 ∧ cap = 0) ∨
      ∃ (x : Addr) (RA : Nat → Option Addr) (RL RC : Nat → Nat) (RZ : Nat → List Int), a = some x ∧ len ≤ cap ∧ cap ≤ maxLen ∧ ∀ r, r < cap → w.cell? (x.add r) = some (.slice (RA r) (RL r) (RC r)) ∧ RL r ≤ RC r ∧ RC r ≤ maxLen ∧ (RZ r).length = RC r ∧
        (∀ n ∈ RZ r, (Lit.int .i64 n).wf = true) ∧ (RA r = none → RC r = 0) ∧ ∀ a', RA r = some a' → ∀ c, c < RC r → w.cell? (a'.add c) = some (.int .i64 ((RZ r).getD c 0))) :
    len ≤ cap ∧ cap ≤ maxLen ∧ Rows64 w a len := by
  rcases h with ⟨rfl, rfl, rfl⟩ | ⟨x, RA, RL, RC, RZ, rfl, hl, hm, hrow⟩
  · exact ⟨Nat.le_refl _, Nat.zero_le _, fun _ => none, fun _ => 0, fun _ => 0, fun _ => [], fun h => absurd h (by omega), fun r hr => absurd hr (by omega)⟩
  · refine ⟨hl, hm, RA, RL, RC, fun r => (RZ r).take (RL r), fun h0 => ?_, fun r hr => ?_⟩
    · obtain ⟨b, o, sp⟩ := x
      obtain rfl : sp = none := by simpa [Addr.add] using World.cell?_spot (hrow 0 (by omega)).1
      refine ⟨b, o, rfl, World.block_lt_of_cell? _ _ (hrow 0 (by omega)).1, fun r hr => ?_⟩
      have e : (⟨b, o, none⟩ : Addr).add r = ⟨b, o + r, none⟩ := by unfold Addr.add; split <;> simp_all
      rw [← e]
      exact (hrow r (by omega)).1
    · obtain ⟨_, r2, r3, r4, r5, r6, r7⟩ := hrow r (by omega)
      refine ⟨r2, r3, by simp [I64]; omega, fun h0 => ?_⟩
      cases hA : RA r with
      | none => have := r6 hA; omega
      | some a' =>
        have hc := r7 a' hA
        obtain ⟨b, o, sp⟩ := a'
        obtain rfl : sp = none := by simpa [Addr.add] using World.cell?_spot (hc 0 (by omega))
        refine ⟨b, o, rfl, World.block_lt_of_cell? _ _ (hc 0 (by omega)), fun j hj => ?_⟩
        have hj' : j < RL r := by simp [I64] at hj; omega
        have := hc j (by omega)
        have e : (⟨b, o, none⟩ : Addr).add j = ⟨b, o + j, none⟩ := by unfold Addr.add; split <;> simp_all
        rw [e] at this
        rw [this]
        have hjz : j < (RZ r).length := by omega
        simp [I64, List.getD_eq_getElem?_getD, List.getElem?_eq_getElem hjz]
/-- A row of ints elsewhere does not matter to a word. -/
theorem WordAt.off {w w' : World} {B g : Nat} {ks : List Nat} {S : Nat → Prop} (h : WordAt w B g ks) (md : Mod S w w') (hS : ∀ i, S i → ∃ cs, Blk w i 3 cs) : WordAt w' B g ks := by
  obtain ⟨h1, h2, gv, A, h3, h4, h5, h6⟩ := h.sep hS
  refine ⟨h1, h2, gv, A, h3, h4.mod md fun hg => ?_, h5.mod md fun i hi hs => h6 i hi hs⟩
  obtain ⟨cs, hb⟩ := hS g hg
  exact absurd (blk_ty h4 hb) (by decide)
theorem ofN_toN {z : List Int} (h : ∀ x ∈ z, Kd x) : ofNB (toN z) = z := by
  unfold ofNB toN
  rw [List.map_map]
  conv => rhs; rw [← List.map_id z]
  refine List.map_congr_left fun x hx => ?_
  have := (h x hx).1
  simp; omega
theorem toN_kds {z : List Int} (h : ∀ x ∈ z, Kd x) : Kds (toN z) := fun k hk => by
  unfold toN at hk
  obtain ⟨x, hx, rfl⟩ := List.mem_map.1 hk
  have := h x hx
  have h1 := this.1
  have h2 := this.2
  omega
/-- Are all of them letters? -/
def gdz (z : List Int) : Bool := decide (∀ x ∈ z, Kd x)
theorem gdz_next (z : List Int) (j : Nat) (hj : j < z.length) : gdz (z.take (j + 1)) = (gdz (z.take j) && (decide (0 ≤ z.getD j 0) && decide (z.getD j 0 < 4))) := by
  rw [← List.take_append_getElem hj]
  have e : z.getD j 0 = z[j] := by rw [List.getD_eq_getElem?_getD, List.getElem?_eq_getElem hj]; rfl
  rw [e, Bool.eq_iff_iff]
  unfold gdz
  simp only [decide_eq_true_iff, Bool.and_eq_true, List.mem_append, List.mem_singleton]
  constructor
  · intro h
    exact ⟨fun x hx => h x (.inl hx), h _ (.inr rfl)⟩
  · rintro ⟨h1, h2⟩ x (hx | rfl)
    · exact h1 x hx
    · exact h2
/-- The good letters so far, the word and the row of all. -/
structure ASt (w1 W : World) (g : Nat) (ks : List Nat) (A : Option Addr) (c k : Nat) : Prop where
  wd : WordAt W w1.heap.size g ks
  ow : W.ownsRow w1.heap.size 3 1 (.slice A ks.length c) ks.length (I64 (ofNB ks))
  bel : Below w1.heap.size w1 W
  len : ks.length ≤ 20 * k
theorem ASt.below {w1 W W' : World} {g : Nat} {ks : List Nat} {A : Option Addr} {c k : Nat} (h : ASt w1 W g ks A c k) (b : Below W.heap.size W W') : ASt w1 W' g ks A c k :=
  ⟨h.wd.below b, own_below h.ow b, h.bel.trans (b.mono h.bel.size), h.len⟩
theorem own_blk_int {w : World} {base n c : Nat} {A : Option Addr} {xs : List Value} (h : w.ownsRow base 3 1 (.slice A n c) n xs) (i : Nat) (hi : (Value.slice A n c).ownBlock = some i) : ∃ cs, Blk w i 3 cs := by
  rcases h.2 with ⟨h1, h2⟩ | ⟨g, cap, cur, hv, hb, hg, _⟩
  · simp only [Value.slice.injEq] at h1
    rw [h1.1] at hi; simp [Value.ownBlock] at hi
  · simp only [Value.slice.injEq] at hv
    rw [hv.1] at hi
    simp [Value.ownBlock] at hi
    subst hi
    exact ⟨cur, hg⟩
set_option maxRecDepth 100000 in
set_option maxHeartbeats 16000000 in
theorem mixedAdds_walk (a : Option Addr) (len cap : Nat) (odd : Bool) (w : World) (hT : MTabs w) (h : Rows64 w a len) (hlc : len ≤ cap) (hcm : cap ≤ maxLen) :
    Calls Tryz.prog 4 #[.slice a len cap, .bool odd] w fun e w' => e = .returned (.bool true) ∧ Below w.heap.size w w' := by
  unfold maxLen at hcm
  obtain ⟨A, L, C, Z, hrow, hrows⟩ := h
  obtain ⟨i0, hi0, hz0, hz1, hz2⟩ := info_parts info_int
  have AW := Lib.hid (awake4_p w hT)
  have HROW := Lib.hid hrow
  have HROWS := Lib.hid hrows
  have MN := Lib.hid mnew_p
  clear hrow hrows hT
  go_enter Tryz.func4, Tryz.ntmps4
  go_wp2_with fail
  refine AW.out.mono ?_
  rintro e w1 ⟨rfl, b1⟩
  have B1 := Lib.hid b1
  clear b1 AW
  go_wp2_with fail
  refine (MN.out w1).mono ?_
  rintro e w2 ⟨g, rfl, hw2, b2⟩
  have S2 : Hid (ASt w1 w2 g [] none 0 0) := ⟨hw2, World.ownsRow_nil _ _ _ _, b2, by simp⟩
  clear hw2 b2 MN
  go_wp2_with fail
  go_loopw [6, 21] (fun v i wr => ∃ (k c : Nat) (ks : List Nat) (A : Option Addr), k ≤ len ∧ k ≤ 10 ∧ i = .int .i64 (k : Int) ∧ v = .slice A ks.length c ∧ Hid (ASt w1 wr g ks A c k)) (fun _ i _ => len - (intOf i).toNat)
  case atStart => exact ⟨0, 0, [], none, by omega, by omega, rfl, rfl, S2⟩
  case round =>
    clear S2
    obtain ⟨k, c5, ks, A5, hk, hk10, rfl, rfl, HS⟩ := hrel
    by_cases hgo : k < len ∧ k < 10
    · obtain ⟨hlt, h10⟩ := hgo
      obtain ⟨b, o, rfl, hbB, hc⟩ := HROW.out (by omega)
      have hcell : wr.cell? ⟨b, o + k, none⟩ = some (.slice (A k) (L k) (C k)) := ((B1.out.trans (HS.out.bel.mono B1.out.size)).cell (p := ⟨b, o + k, none⟩) hbB).trans (hc k hlt)
      obtain ⟨hLC, hCM, hrd⟩ := HROWS.out k hlt
      clear hc
      generalize A k = Ak at *
      generalize L k = Lk at *
      generalize C k = Ck at *
      generalize Z k = z0 at *
      unfold maxLen at hCM
      obtain ⟨m, hm⟩ : ∃ m, m = min Lk 20 := ⟨_, rfl⟩
      have hmin : ∀ W, (Builtin.min_ #[3, 3] 3 #[.int .i64 (Lk : Int), .int .i64 20]).run Tryz.prog W = .ok (.int .i64 (m : Int)) W := fun W => by
        simp [Builtin.min_, Builtin.min2]
        repeat' split
        all_goals omega
      have hmL : m ≤ Lk := by omega
      have hm20 : m ≤ 20 := by omega
      have rz := ((hrd.below (B1.out.trans (HS.out.bel.mono B1.out.size))).cutI64 m hmL)
      have hzl : (z0.take m).length = m := by have := rz.len; rw [I64_len] at this; exact this
      generalize z0.take m = z at *
      have CL := Lib.hid (cloneI_any Ak m Ck _ z wr rz (by omega))
      have HZL := Lib.hid hzl
      clear hm hrd rz hzl
      go_wp2_with fail
      refine CL.out.mono ?_
      rintro e w3 ⟨A3, c3, rfl, hc3, hm3, own3, b3⟩
      rw [HZL.out] at hc3 own3 ⊢
      have S3 := Lib.hid (HS.out.below b3)
      have O3 := Lib.hid own3
      have hm39 : c3 ≤ 9223372036854775807 := by unfold maxLen at hm3; omega
      have HZ3 := Lib.hid b3.size
      clear own3 b3 CL HS hmin hm3
      go_wp2_with fail
      go_loop [9, 36] (fun q i => ∃ j : Nat, j ≤ m ∧ i = .int .i64 (j : Int) ∧ q = .bool (gdz (z.take j))) (fun _ i => m - (intOf i).toNat)
      case atStart => exact ⟨0, by omega, rfl, rfl⟩
      case round =>
        obtain ⟨j, hj, rfl, rfl⟩ := hrel
        by_cases hjl : j < m
        · obtain ⟨b', o', e, _, k1⟩ := (Rd.ofOwn O3.out).i64 (by omega)
          subst e
          have t1 := k1 j hjl
          have NX := gdz_next z j (by rw [HZL.out]; exact hjl)
          have HN := Lib.hid NX
          generalize z.getD j 0 = x at *
          generalize gdz (z.take j) = q at *
          clear k1 NX
          by_cases x0 : 0 ≤ x
          · have d0 : decide (0 ≤ x) = true := decide_eq_true x0
            by_cases x4 : x < 4
            · have d4 : decide (x < 4) = true := decide_eq_true x4
              cases q with
              | true =>
                go_wp2_with fail
                go_round
                case rel => exact ⟨j + 1, by omega, by go_num, by rw [HN.out, d0, d4]; rfl⟩
                case measure => simp [intOf]; omega
              | false =>
                go_wp2_with fail
                go_round
                case rel => exact ⟨j + 1, by omega, by go_num, by rw [HN.out]; rfl⟩
                case measure => simp [intOf]; omega
            · have d4 : decide (x < 4) = false := decide_eq_false x4
              cases q with
              | true =>
                go_wp2_with fail
                go_round
                case rel => exact ⟨j + 1, by omega, by go_num, by rw [HN.out, d0, d4]; rfl⟩
                case measure => simp [intOf]; omega
              | false =>
                go_wp2_with fail
                go_round
                case rel => exact ⟨j + 1, by omega, by go_num, by rw [HN.out]; rfl⟩
                case measure => simp [intOf]; omega
          · have d0 : decide (0 ≤ x) = false := decide_eq_false x0
            cases q with
            | true =>
              go_wp2_with fail
              go_round
              case rel => exact ⟨j + 1, by omega, by go_num, by rw [HN.out, d0]; rfl⟩
              case measure => simp [intOf]; omega
            | false =>
              go_wp2_with fail
              go_round
              case rel => exact ⟨j + 1, by omega, by go_num, by rw [HN.out]; rfl⟩
              case measure => simp [intOf]; omega
        · obtain rfl : j = m := by omega
          rw [List.take_of_length_le (by rw [HZL.out]; exact Nat.le_refl _)]
          -- what Add may not touch
          have SEP : Hid (∀ i, (inBlk A3 i ∨ (Value.slice A5 ks.length c5).ownBlock = some i) → ∃ cs, Blk w3 i 3 cs) := fun i hi => by
            rcases hi with q | q
            · exact own_inBlk O3.out i q
            · exact own_blk_int S3.out.ow i q
          have hkl : ks.length + j ≤ 400000 := by have := S3.out.len; omega
          have ad := madd_s w1.heap.size g ks A3 j c3 z w3 _ (S3.out.wd.sep SEP.out) (Rd.ofOwn O3.out) (fun i hi => .inl hi) (fun i hi => by obtain ⟨cs, hb⟩ := SEP.out i hi; exact hb.lt) hkl
          by_cases hg : ∀ x ∈ z, Kd x
          · rw [if_pos hg, if_pos hg] at ad
            have AD := Lib.hid ad
            have HG := Lib.hid hg
            rw [show gdz z = true from decide_eq_true hg]
            clear ad hg
            go_wp2_with fail
            refine AD.out.mono ?_
            rintro e w4 ⟨rfl, hw4, b4, m4⟩
            have O4 := Lib.hid (own_mod O3.out m4 fun i hi hn => hn (.inl (by
              obtain ⟨g3, e3, h3⟩ : ∃ g3, A3 = some ⟨g3, 0, none⟩ ∧ i = g3 := by
                rcases O3.out.2 with ⟨h1, h2⟩ | ⟨g, cap, cur, hv, hb, hg, _⟩
                · simp only [Value.slice.injEq] at h1; rw [h1.1] at hi; simp [Value.ownBlock] at hi
                · simp only [Value.slice.injEq] at hv
                  rw [hv.1] at hi
                  simp [Value.ownBlock] at hi
                  exact ⟨g, hv.1, hi.symm⟩
              exact ⟨⟨g3, 0, none⟩, e3, h3.symm⟩)))
            have P4 := Lib.hid (own_mod S3.out.ow m4 fun i hi hn => hn (.inr hi))
            have W4 := Lib.hid hw4
            have B4 : Hid (Below w1.heap.size w1 w4) := S3.out.bel.trans b4
            have ea : I64 (ofNB ks) ++ I64 z = I64 (ofNB (ks ++ toN z)) := by rw [ofN_appendB, ofN_toN HG.out, I64_append]
            have EA := Lib.hid ea
            have hkl2 : (ks ++ toN z).length = ks.length + j := by rw [List.length_append, toN_len, HZL.out]
            have HKL := Lib.hid hkl2
            have t1 : ks.length + j ≤ maxLen := by simp only [maxLen]; omega
            have t2 : (ks.length + j) * 8 ≤ 140737488355328 := by omega
            have t3 : w1.heap.size ≤ w4.heap.size := B4.out.size
            have P4o := P4.out
            have O4o := Rd.ofOwn O4.out
            clear hw4 b4 m4 AD ea hkl2 SEP
            go_wp2_with (first
              | (at_builtin; go_must (refine wpList_append_rd _ rfl _ _ 27 rfl w1.heap.size 3 i0 (.int .i64 0) 8 Tryz.underlying27 hi0 hz0 hz1 hz2 rfl (.slice A5 ks.length c5) ks.length (I64 (ofNB ks)) rfl P4o w4.heap.size A3 j c3 (I64 z) rfl O4o (I64_one _) t1 t2 t3 ?_)))
            intro A7 c7 w7 hc7 hm7 hown7 hg7 _
            have S7 : Hid (ASt w1 w7 g (ks ++ toN z) A7 c7 (k + 1)) := by
              refine ⟨W4.out.off (Mod.ofGrown hg7) (fun i hi => own_blk_int P4.out i hi.symm), ?_, B4.out.trans (Below.appended P4.out hg7 t3), ?_⟩
              · rw [HKL.out, ← EA.out]; exact hown7
              · rw [HKL.out]; have := S3.out.len; omega
            clear hown7 hg7 t1 t2 t3 P4o O4o
            rw [← HKL.out]
            go_wp2_with fail
            go_roundw
            case rel => exact ⟨k + 1, c7, ks ++ toN z, A7, by omega, by omega, by go_num, rfl, S7⟩
            case measure => simp [intOf]; omega
          · rw [if_neg hg, if_neg hg] at ad
            have AD := Lib.hid ad
            rw [show gdz z = false from decide_eq_false hg]
            clear ad hg
            go_wp2_with fail
            refine AD.out.mono ?_
            rintro e w4 ⟨rfl, hw4, b4, m4⟩
            have S4 : Hid (ASt w1 w4 g ks A5 c5 (k + 1)) := ⟨hw4, own_mod S3.out.ow m4 fun i hi hn => hn (.inr hi), S3.out.bel.trans b4, by have := S3.out.len; omega⟩
            clear hw4 b4 m4 AD SEP
            go_wp2_with fail
            go_roundw
            case rel => exact ⟨k + 1, c5, ks, A5, by omega, by omega, by go_num, rfl, S4⟩
            case measure => simp [intOf]; omega
    · by_cases hlt : k < len
      · obtain rfl : k = 10 := by omega
        obtain ⟨b, o, rfl, hbB, hc⟩ := HROW.out (by omega)
        have hcell : wr.cell? ⟨b, o + 10, none⟩ = some (.slice (A 10) (L 10) (C 10)) := ((B1.out.trans (HS.out.bel.mono B1.out.size)).cell (p := ⟨b, o + 10, none⟩) hbB).trans (hc 10 hlt)
        clear hc hgo
        have BT := Lib.hid (mbits_p _ g ks wr HS.out.wd (by have := HS.out.len; omega))
        have hkl : ks.length ≤ 200 := by have := HS.out.len; omega
        have HKD := Lib.hid HS.out.wd.1
        cases odd with
        | true =>
          go_wp2_with fail
          refine BT.out.mono ?_
          rintro e w3 ⟨gv, Av, rfl, hv, b3, hgv⟩
          have HV := Lib.hid hv
          have B3 := Lib.hid b3
          have A1 := Lib.hid (add1_p gv (wbits ks) Av 1 w3 hv (by decide) (by rw [wbits_len]; omega))
          clear hv b3 BT
          go_wp2_with fail
          refine A1.out.mono ?_
          rintro e w4 ⟨rfl, A', hv4, m4, _⟩
          have hl4 : (wbits ks ++ [1]).length = 2 * ks.length + 1 := by rw [List.length_append, wbits_len]; rfl
          rw [hl4] at hv4
          have MO := Lib.hid (mof_odd gv _ ks.length A' w4 hv4)
          have S4 := Lib.hid (HS.out.below (B3.out.trans (m4.belowB B3.out.size fun i hi hf => by
            rcases HV.out.foot_le hf with q | q
            · omega
            · omega)))
          have LK := Lib.hid (like4_p _ g ks A5 ks.length c5 w4 S4.out.wd (Rd.ofOwn S4.out.ow) (by omega))
          have B4 : Hid (Below w.heap.size w w4) := B1.out.trans (S4.out.bel.mono B1.out.size)
          clear hv4 m4 hl4 A1 HV B3 HS S4
          go_wp2_with fail
          refine MO.out.mono ?_
          rintro e w5 ⟨rfl, rfl⟩
          go_wp2_with fail
          refine LK.out.mono ?_
          rintro e w6 ⟨rfl, b6⟩
          have B6 : Hid (Below w.heap.size w w6) := B4.out.trans (b6.mono B4.out.size)
          clear b6 LK
          go_wp2_with fail
          go_ret
          exact ⟨rfl, B6.out⟩
        | false =>
          go_wp2_with fail
          refine BT.out.mono ?_
          rintro e w3 ⟨gv, Av, rfl, hv, b3, hgv⟩
          have MO := Lib.hid (mof_p gv Av ks w3 HKD.out hv (by omega))
          have S3 := Lib.hid (HS.out.below b3)
          clear hv b3 BT HS
          go_wp2_with fail
          refine MO.out.mono ?_
          rintro e w4 ⟨g2, rfl, hw4, b4⟩
          have S4 := Lib.hid (S3.out.below b4)
          have LK := Lib.hid (like4_p _ g2 ks A5 ks.length c5 w4 hw4 (Rd.ofOwn S4.out.ow) (by omega))
          clear hw4 b4 MO S3
          go_wp2_with fail
          refine LK.out.mono ?_
          rintro e w5 ⟨rfl, b5⟩
          have S5 := Lib.hid (S4.out.below b5)
          have LK2 := Lib.hid (like4_p _ g ks A5 ks.length c5 w5 S5.out.wd (Rd.ofOwn S5.out.ow) (by omega))
          have B5 : Hid (Below w.heap.size w w5) := B1.out.trans (S5.out.bel.mono B1.out.size)
          clear b5 LK S4 S5
          go_wp2_with fail
          refine LK2.out.mono ?_
          rintro e w6 ⟨rfl, b6⟩
          have B6 : Hid (Below w.heap.size w w6) := B5.out.trans (b6.mono B5.out.size)
          clear b6 LK2
          go_wp2_with fail
          go_ret
          exact ⟨rfl, B6.out⟩
      · obtain rfl : k = len := by omega
        clear hgo hlt
        have BT := Lib.hid (mbits_p _ g ks wr HS.out.wd (by have := HS.out.len; omega))
        have hkl : ks.length ≤ 200 := by have := HS.out.len; omega
        have HKD := Lib.hid HS.out.wd.1
        cases odd with
        | true =>
          go_wp2_with fail
          refine BT.out.mono ?_
          rintro e w3 ⟨gv, Av, rfl, hv, b3, hgv⟩
          have HV := Lib.hid hv
          have B3 := Lib.hid b3
          have A1 := Lib.hid (add1_p gv (wbits ks) Av 1 w3 hv (by decide) (by rw [wbits_len]; omega))
          clear hv b3 BT
          go_wp2_with fail
          refine A1.out.mono ?_
          rintro e w4 ⟨rfl, A', hv4, m4, _⟩
          have hl4 : (wbits ks ++ [1]).length = 2 * ks.length + 1 := by rw [List.length_append, wbits_len]; rfl
          rw [hl4] at hv4
          have MO := Lib.hid (mof_odd gv _ ks.length A' w4 hv4)
          have S4 := Lib.hid (HS.out.below (B3.out.trans (m4.belowB B3.out.size fun i hi hf => by
            rcases HV.out.foot_le hf with q | q
            · omega
            · omega)))
          have LK := Lib.hid (like4_p _ g ks A5 ks.length c5 w4 S4.out.wd (Rd.ofOwn S4.out.ow) (by omega))
          have B4 : Hid (Below w.heap.size w w4) := B1.out.trans (S4.out.bel.mono B1.out.size)
          clear hv4 m4 hl4 A1 HV B3 HS S4
          go_wp2_with fail
          refine MO.out.mono ?_
          rintro e w5 ⟨rfl, rfl⟩
          go_wp2_with fail
          refine LK.out.mono ?_
          rintro e w6 ⟨rfl, b6⟩
          have B6 : Hid (Below w.heap.size w w6) := B4.out.trans (b6.mono B4.out.size)
          clear b6 LK
          go_wp2_with fail
          go_ret
          exact ⟨rfl, B6.out⟩
        | false =>
          go_wp2_with fail
          refine BT.out.mono ?_
          rintro e w3 ⟨gv, Av, rfl, hv, b3, hgv⟩
          have MO := Lib.hid (mof_p gv Av ks w3 HKD.out hv (by omega))
          have S3 := Lib.hid (HS.out.below b3)
          clear hv b3 BT HS
          go_wp2_with fail
          refine MO.out.mono ?_
          rintro e w4 ⟨g2, rfl, hw4, b4⟩
          have S4 := Lib.hid (S3.out.below b4)
          have LK := Lib.hid (like4_p _ g2 ks A5 ks.length c5 w4 hw4 (Rd.ofOwn S4.out.ow) (by omega))
          clear hw4 b4 MO S3
          go_wp2_with fail
          refine LK.out.mono ?_
          rintro e w5 ⟨rfl, b5⟩
          have S5 := Lib.hid (S4.out.below b5)
          have LK2 := Lib.hid (like4_p _ g ks A5 ks.length c5 w5 S5.out.wd (Rd.ofOwn S5.out.ow) (by omega))
          have B5 : Hid (Below w.heap.size w w5) := B1.out.trans (S5.out.bel.mono B1.out.size)
          clear b5 LK S4 S5
          go_wp2_with fail
          refine LK2.out.mono ?_
          rintro e w6 ⟨rfl, b6⟩
          have B6 : Hid (Below w.heap.size w w6) := B5.out.trans (b6.mono B5.out.size)
          clear b6 LK2
          go_wp2_with fail
          go_ret
          exact ⟨rfl, B6.out⟩
end Go.Proofs.YtagpdpacaoianaaGreatDoor
