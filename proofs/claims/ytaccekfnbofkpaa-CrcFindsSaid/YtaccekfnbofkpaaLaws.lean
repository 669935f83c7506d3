/- The walks of the statements on the checksum's sums and turns. -/
import Derived.Test.YtaccekfnbofkpaaAwake
import Derived.Test.YtaccekfnbofkpaaRegion
import Derived.BigRegion
namespace Go.Proofs.Ytaccekfnbofkpaa
open Go.RowKit
set_option linter.unusedVariables false

/-- A first part of a slice of bytes. -/
theorem Rd.cutU8 {w : World} {B n : Nat} {A : Option Addr} {bs : List Nat} (h : Rd w B A n (U8 bs)) (k : Nat) (hk : k ≤ n) : Rd w B A k (U8 (bs.take k)) := by
  have := h.take k hk
  rwa [U8, ← List.map_take] at this

theorem fill_next (X : List Nat) (k m : Nat) (hX : X.length = m) (hk : k < m) :
    ((U8 (X.take k ++ List.replicate (m - k) 0)).toArray).setIfInBounds k (.int .u8 ((X.getD k 0 : Nat) : Int)) = (U8 (X.take (k + 1) ++ List.replicate (m - (k + 1)) 0)).toArray := by
  rw [show X.getD k 0 = X[k] by simp [List.getD_eq_getElem?_getD, List.getElem?_eq_getElem (show k < X.length by omega)]]
  apply Array.toList_inj.1
  rw [Array.toList_setIfInBounds]
  show (U8 (X.take k ++ List.replicate (m - k) 0)).set k _ = U8 _
  have e1 : List.replicate (m - k) 0 = 0 :: List.replicate (m - (k + 1)) 0 := by
    rw [show m - k = (m - (k + 1)) + 1 by omega, List.replicate_succ]
  rw [e1, U8_append, ← List.take_append_getElem (by omega : k < X.length), List.append_assoc, U8_append, List.set_append_right _ _ (by rw [U8_len, List.length_take]; omega)]
  have e2 : k - (U8 (X.take k)).length = 0 := by rw [U8_len, List.length_take]; omega
  rw [e2]
  rfl
theorem xor_u8 (a b : Nat) (ha : a < 256) (hb : b < 256) : bits .xor .u8 (a : Int) (b : Int) = ((a ^^^ b : Nat) : Int) := u8_xor_nat a b ha hb
theorem xor_lt8 (a b : Nat) (ha : a < 256) (hb : b < 256) : a ^^^ b < 256 := Nat.xor_lt_two_pow (n := 8) ha hb
theorem xor_u32 (a b : Nat) (ha : a < 4294967296) (hb : b < 4294967296) : bits .xor .u32 (a : Int) (b : Int) = ((a ^^^ b : Nat) : Int) := u32_xor_nat a b ha hb
theorem xor3_lt (l : List Nat) : ∀ (m n : List Nat), (∀ b ∈ l, b < 256) → (∀ b ∈ m, b < 256) → (∀ b ∈ n, b < 256) → ∀ b ∈ xor3 l m n, b < 256 := by
  induction l with
  | nil => intro m n _ _ _ b hb; simp [xor3] at hb
  | cons a l ih =>
    intro m n h1 h2 h3 b hb
    match m, n, h2, h3, hb with
    | [], _, _, _, hb => simp [xor3] at hb
    | _ :: _, [], _, _, hb => simp [xor3] at hb
    | c :: m, d :: n, h2, h3, hb =>
      simp only [xor3, List.mem_cons] at hb
      rcases hb with rfl | hb
      · exact xor_lt8 _ _ (xor_lt8 _ _ (h1 a (by simp)) (h2 c (by simp))) (h3 d (by simp))
      · exact ih m n (fun x hx => h1 x (by simp [hx])) (fun x hx => h2 x (by simp [hx])) (fun x hx => h3 x (by simp [hx])) b hb

theorem getD_lt (l : List Nat) (h : ∀ b ∈ l, b < 256) (k : Nat) : l.getD k 0 < 256 := by
  rw [List.getD_eq_getElem?_getD]
  by_cases hk : k < l.length
  · rw [List.getElem?_eq_getElem hk]; exact h _ (List.getElem_mem _)
  · rw [List.getElem?_eq_none (by omega)]; simp
theorem Rd.u8 {w : World} {B n : Nat} {A : Option Addr} {bs : List Nat} (h : Rd w B A n (U8 bs)) (h0 : 0 < n) :
    ∃ b o, A = some ⟨b, o, none⟩ ∧ b < B ∧ ∀ k, k < n → w.cell? ⟨b, o + k, none⟩ = some (.int .u8 ((bs.getD k 0 : Nat) : Int)) := by
  obtain ⟨b, o, e, hb, hc⟩ := h.at_ h0
  refine ⟨b, o, e, hb, fun k hk => ?_⟩
  have hl : bs.length = n := by rw [← h.len, U8_len]
  rw [hc k (by rw [U8_len]; omega), U8_get]
  simp [List.getD_eq_getElem?_getD, List.getElem?_eq_getElem (show k < bs.length by omega)]
/-- What the three parts come to. -/
theorem sums_prep (m n1 n2 n3 : Nat) (A1 A2 A3 : Option Addr) (l1 l2 l3 : List Nat) (w : World) (B : Nat) (hm1 : m ≤ n1) (hm2 : m ≤ n2) (hm3 : m ≤ n3)
    (h1 : Rd w B A1 n1 (U8 l1)) (h2 : Rd w B A2 n2 (U8 l2)) (h3 : Rd w B A3 n3 (U8 l3)) (b1 : ∀ b ∈ l1, b < 256) (b2 : ∀ b ∈ l2, b < 256) (b3 : ∀ b ∈ l3, b < 256) :
    ∃ x1 x2 x3 X : List Nat, Rd w B A1 m (U8 x1) ∧ Rd w B A2 m (U8 x2) ∧ Rd w B A3 m (U8 x3) ∧ (∀ b ∈ x1, b < 256) ∧ (∀ b ∈ x2, b < 256) ∧ (∀ b ∈ x3, b < 256) ∧ (∀ b ∈ X, b < 256) ∧
      Hid (X.length = m) ∧ Hid (∀ k, k < m → X.getD k 0 = x1.getD k 0 ^^^ x2.getD k 0 ^^^ x3.getD k 0) ∧ Hid (crcSum X = crcSum x1 ^^^ crcSum x2 ^^^ crcSum x3) := by
  have q1 := h1.cutU8 m hm1
  have q2 := h2.cutU8 m hm2
  have q3 := h3.cutU8 m hm3
  have e1 : (l1.take m).length = m := by rw [← U8_len, q1.len]
  have e2 : (l2.take m).length = m := by rw [← U8_len, q2.len]
  have e3 : (l3.take m).length = m := by rw [← U8_len, q3.len]
  have p1 : ∀ b ∈ l1.take m, b < 256 := fun b hb => b1 b (List.mem_of_mem_take hb)
  have p2 : ∀ b ∈ l2.take m, b < 256 := fun b hb => b2 b (List.mem_of_mem_take hb)
  have p3 : ∀ b ∈ l3.take m, b < 256 := fun b hb => b3 b (List.mem_of_mem_take hb)
  have hXl := xor3_lt _ _ _ p1 p2 p3
  refine ⟨l1.take m, l2.take m, l3.take m, xor3 (l1.take m) (l2.take m) (l3.take m), q1, q2, q3, p1, p2, p3, hXl, ?_, fun k hk => ?_, ?_⟩
  · show _ = _
    rw [xor3_length _ _ _ (by omega) (by omega)]; exact e1
  · have := xor3_get (l1.take m) (l2.take m) (l3.take m) k (by omega) (by omega) (by omega)
    rw [List.getD_eq_getElem?_getD, this, List.getD_eq_getElem?_getD, List.getD_eq_getElem?_getD, List.getD_eq_getElem?_getD, List.getElem?_eq_getElem (by omega), List.getElem?_eq_getElem (by omega), List.getElem?_eq_getElem (by omega)]
    rfl
  · exact crcSum_xor3 _ _ _ (by omega) (by omega) p1 p2 p3 hXl

set_option maxHeartbeats 1000000 in
theorem crcSums_walk (A1 A2 A3 : Option Addr) (n1 n2 n3 c1 c2 c3 : Nat) (l1 l2 l3 : List Nat) (w : World)
    (h1 : Rd w w.heap.size A1 n1 (U8 l1)) (h2 : Rd w w.heap.size A2 n2 (U8 l2)) (h3 : Rd w w.heap.size A3 n3 (U8 l3))
    (b1 : ∀ b ∈ l1, b < 256) (b2 : ∀ b ∈ l2, b < 256) (b3 : ∀ b ∈ l3, b < 256)
    (hn1 : n1 ≤ c1) (hn2 : n2 ≤ c2) (hn3 : n3 ≤ c3) (hc1 : c1 ≤ maxLen) (hc2 : c2 ≤ maxLen) (hc3 : c3 ≤ maxLen) :
    Calls Try.prog 6 #[.slice A1 n1 c1, .slice A2 n2 c2, .slice A3 n3 c3] w fun e w' => e = .returned (.bool true) ∧ Below w.heap.size w w' := by
  unfold maxLen at hc1 hc2 hc3
  obtain ⟨m, hm1, hm2, hm3, hm4, hmin⟩ : ∃ m : Nat, m ≤ n1 ∧ m ≤ n2 ∧ m ≤ n3 ∧ m ≤ 60 ∧ ∀ w, (Builtin.min_ #[3, 3, 3, 3] 3 #[.int .i64 n1, .int .i64 n2, .int .i64 n3, .int .i64 60]).run Try.prog w = .ok (.int .i64 (m : Int)) w := by
    refine ⟨min (min (min n1 n2) n3) 60, by omega, by omega, by omega, by omega, fun w => ?_⟩
    simp [Builtin.min_, Builtin.min2]
    repeat' split
    all_goals omega
  obtain ⟨x1, x2, x3, X, q1, q2, q3, p1, p2, p3, hXl, HX, HXG, HXS⟩ := sums_prep m n1 n2 n3 A1 A2 A3 l1 l2 l3 w w.heap.size hm1 hm2 hm3 h1 h2 h3 b1 b2 b3
  clear h1 h2 h3 b1 b2 b3
  obtain ⟨i0, hi0, hz0, hz1, hz2⟩ := info_parts info_u8
  have hmk := run_make_one (P := Try.prog) 26 5 i0 (.int .u8 0) 1 Try.underlying26 hi0 hz0 hz1 hz2 rfl .i64 .i64 m (by omega) (by omega)
  go_enter Try.func6, Try.ntmps6
  go_wp2_with fail
  refine (awake_any _).mono ?_
  rintro e w1 ⟨rfl, hb1⟩
  go_wp2_with fail
  go_loopw [23] (fun i wr => ∃ k : Nat, k ≤ m ∧ i = .int .i64 k ∧ Blk wr w1.heap.size 5 (U8 (X.take k ++ List.replicate (m - k) 0)).toArray ∧ Below w1.heap.size w1 wr) (fun i _ => m - (intOf i).toNat)
  case atStart =>
    refine ⟨0, by omega, rfl, ?_, (Below.refl _ _).alloc (Nat.le_refl _) _⟩
    have := Blk.new w1 5 (Array.replicate m (.int .u8 0))
    simpa [U8] using this
  case round =>
    obtain ⟨k, hk, rfl, hbk, hbl⟩ := hrel
    by_cases hlt : k < m
    · obtain ⟨g1, o1, rfl, hB1, k1⟩ := q1.u8 (by omega)
      obtain ⟨g2, o2, rfl, hB2, k2⟩ := q2.u8 (by omega)
      obtain ⟨g3, o3, rfl, hB3, k3⟩ := q3.u8 (by omega)
      have hw1 := hb1.size
      have t1 := ((hbl.cell (p := ⟨g1, o1 + k, none⟩) (show g1 < _ by omega)).trans (hb1.cell (p := ⟨g1, o1 + k, none⟩) hB1)).trans (k1 k hlt)
      have t2 := ((hbl.cell (p := ⟨g2, o2 + k, none⟩) (show g2 < _ by omega)).trans (hb1.cell (p := ⟨g2, o2 + k, none⟩) hB2)).trans (k2 k hlt)
      have t3 := ((hbl.cell (p := ⟨g3, o3 + k, none⟩) (show g3 < _ by omega)).trans (hb1.cell (p := ⟨g3, o3 + k, none⟩) hB3)).trans (k3 k hlt)
      have v1 := getD_lt x1 p1 k
      have v2 := getD_lt x2 p2 k
      have v3 := getD_lt x3 p3 k
      have hf := fill_next X k m HX.out hlt
      rw [HXG.out k hlt] at hf
      have HFX := Lib.hid hf
      clear hf k1 k2 k3
      generalize x1.getD k 0 = y1 at *
      generalize x2.getD k 0 = y2 at *
      generalize x3.getD k 0 = y3 at *
      have HX1 := Lib.hid (xor_u8 y1 y2 v1 v2)
      have HX2 := Lib.hid (xor_u8 (y1 ^^^ y2) y3 (xor_lt8 y1 y2 v1 v2) v3)
      obtain ⟨z, hz⟩ : ∃ z, (U8 (X.take k ++ List.replicate (m - k) 0)).toArray[k]? = some z := ⟨_, Array.getElem?_eq_getElem (by simp [U8_len]; have := HX.out; omega)⟩
      have tz : wr.cell? ⟨w1.heap.size, k, none⟩ = some z := (hbk.cell k).trans hz
      have fz : wr.frozen? ⟨w1.heap.size, k, none⟩ = false := hbk.frozen k
      clear hz
      go_wp2
      go_region
      go_wp2
      go_roundw
      case rel =>
        refine ⟨k + 1, by omega, by go_num, ?_, (hbl.setCell (Nat.le_refl _) _).drew⟩
        have := hbk.set_ k (.int .u8 ((y1 ^^^ y2 ^^^ y3 : Nat) : Int))
        rw [HFX.out] at this
        rw [HX1.out, HX2.out]
        exact this
      case measure => simp [intOf]; omega
    · obtain rfl : k = m := by omega
      have hend : Rd wr (w1.heap.size + 1) (some ⟨w1.heap.size, 0, none⟩) k (U8 X) := by
        rw [Nat.sub_self, List.replicate_zero, List.append_nil, List.take_of_length_le (by rw [HX.out]; exact Nat.le_refl _)] at hbk
        refine ⟨by rw [U8_len, HX.out], fun _ => ⟨_, _, rfl, Nat.lt_succ_self _, fun j hj => ?_⟩⟩
        rw [Nat.zero_add, hbk.cell]
        simp at hj ⊢
      have hgs : w1.heap.size < wr.heap.size := hbk.lt
      have hbw : Below w.heap.size w wr := hb1.trans (hbl.mono hb1.size)
      have r1 := q1.below hbw
      have r2 := q2.below hbw
      have r3 := q3.below hbw
      have hs := hb1.size
      have HX1 := Lib.hid (xor_u32 (crcSum x1) (crcSum x2) (crcSum_lt _) (crcSum_lt _))
      have HX2 := Lib.hid (xor_u32 (crcSum x1 ^^^ crcSum x2) (crcSum x3) (Nat.xor_lt_two_pow (n := 32) (crcSum_lt _) (crcSum_lt _)) (crcSum_lt _))
      clear hbk
      have call : ∀ (A : Option Addr) (c B : Nat) (x : List Nat), Rd wr B A k (U8 x) → B ≤ wr.heap.size → (∀ b ∈ x, b < 256) → Hid (∀ w', Below wr.heap.size wr w' →
          Calls Try.prog 15 #[.slice A k c] w' fun e w'' => e = .returned (.int .u32 (crcSum x : Nat)) ∧ Below wr.heap.size wr w'') := fun A c B x hr hB hx w' hb =>
        (of_any A k c B x w' (hr.below (hb.mono hB)) (Nat.le_trans hB hb.size) hx (by omega)).mono fun e w'' ⟨he, h2⟩ => ⟨he, hb.trans (h2.mono hb.size)⟩
      have C0 := call _ k _ X hend hgs hXl
      have C1 := call _ c1 _ x1 r1 hbw.size p1
      have C2 := call _ c2 _ x2 r2 hbw.size p2
      have C3 := call _ c3 _ x3 r3 hbw.size p3
      clear call
      have u1 : k ≤ c1 := by omega
      have u2 : k ≤ c2 := by omega
      have u3 : k ≤ c3 := by omega
      go_wp2
      refine region_class (Below wr.heap.size wr) (by kernel_rfl) (by kernel_rfl) (Below.refl _ _).drew ?_
      repeat (
        refine wpQuiet_step (fun K hK => ?_)
        go_simp
        first
          | (refine hK _ ?_; clear hK K)
          | ((with_reducible refine ⟨_, C0.out, hK _ ?_⟩); clear hK K)
          | ((with_reducible refine ⟨_, C1.out, hK _ ?_⟩); clear hK K)
          | ((with_reducible refine ⟨_, C2.out, hK _ ?_⟩); clear hK K)
          | ((with_reducible refine ⟨_, C3.out, hK _ ?_⟩); clear hK K)
          | (refine ⟨_, fun _ _ => rfl, hK _ ?_⟩; clear hK K))
      refine wpQuiet_nil ?_
      intro w8 hb8
      go_wp2
      go_ret
      refine ⟨?_, hbw.trans (hb8.mono hbw.size)⟩
      refine congrArg (fun b => Ending.returned (.bool b)) ?_
      rw [HX1.out, HX2.out, HXS.out]
      simp

/-! ### A turned part of four bytes -/
theorem found (cs q : List Nat) (p : Nat) (hl : q.length = cs.length) (h1 : ∀ b ∈ cs, b < 256) (h2 : ∀ b ∈ q, b < 256) (ha : ∀ i, ¬ (p ≤ i ∧ i < p + 4) → q[i]? = cs[i]?) :
    (decide (cs = q) == (((crcSum cs : Nat) : Int) == ((crcSum q : Nat) : Int))) = true := by
  by_cases e : cs = q
  · subst e; simp
  · have hne : crcSum cs ≠ crcSum q := fun h => e (crcSum_window cs q p hl.symm h1 h2 ha h)
    have hi : ¬ ((crcSum cs : Nat) : Int) = ((crcSum q : Nat) : Int) := by omega
    simp [e, hi]

set_option maxHeartbeats 1000000 in
theorem crcFinds_walk (A : Option Addr) (n c pos by_ : Nat) (l : List Nat) (w : World)
    (h1 : Rd w w.heap.size A n (U8 l)) (b1 : ∀ b ∈ l, b < 256) (hn1 : n ≤ c) (hc1 : c ≤ maxLen) (hp : pos < 65536) (hy : by_ < 4294967296) :
    Calls Try.prog 4 #[.slice A n c, .int .u16 (pos : Int), .int .u32 (by_ : Int)] w fun e w' => e = .returned (.bool true) ∧ Below w.heap.size w w' := by
  unfold maxLen at hc1
  have hcut : ∀ m ≤ n, ∃ cs : List Nat, Hid (cs.length = m) ∧ (∀ b ∈ cs, b < 256) ∧ Rd w w.heap.size A m (U8 cs) := fun m hm =>
    ⟨l.take m, by show _ = _; rw [← U8_len, (h1.cutU8 m hm).len], fun b hb => b1 b (List.mem_of_mem_take hb), h1.cutU8 m hm⟩
  clear h1 b1
  go_enter Try.func4, Try.ntmps4
  go_wp2_with fail
  refine (awake_any _).mono ?_
  rintro e w1 ⟨rfl, hb1⟩
  go_wp2_with fail
  case' inl => have hh := hcut 100 (by omega)
  case' inr => have hh := hcut n (by omega)
  all_goals
    obtain ⟨cs, hcl, hcb, hr⟩ := hh
    have hc100 : cs.length ≤ 100 := by rw [hcl.out]; omega
    refine (clone_any A _ _ _ cs _ (hr.below hb1) (by omega)).mono ?_
    clear hr hcut hcl
    rintro e w2 ⟨A2, k2, rfl, hk2, hm2, hown2, hb2⟩
    have r2 := Rd.ofOwn hown2
    by_cases hz : cs.length = 0
    · have hz1 : ((cs.length : Int) == 0) = true := by rw [hz]; rfl
      clear hz
      go_wp2_with (go_at_call 15; refine (of_any none 0 0 _ [] _ (Rd.nil _ _ _) (Nat.zero_le _) (by simp) (by omega)).mono ?_; rintro e w3 ⟨rfl, hb3⟩)
      go_ret
      exact ⟨rfl, (hb1.trans (hb2.mono hb1.size)).trans (hb3.mono (Nat.le_trans hb1.size hb2.size))⟩
    · have hz1 : ((cs.length : Int) == 0) = false := by simpa using hz
      have hz2 : 0 < cs.length := by omega
      have hz3 : (0 : Int) < (cs.length : Int) := by omega
      clear hz
      by_cases hy0 : by_ = 0
      · have hy1 : ((by_ : Int) == 0) = true := by rw [hy0]; rfl
        clear hy0
        go_wp2_with (go_at_call 15; refine (of_any none 0 0 _ [] _ (Rd.nil _ _ _) (Nat.zero_le _) (by simp) (by omega)).mono ?_; rintro e w3 ⟨rfl, hb3⟩)
        go_ret
        exact ⟨rfl, (hb1.trans (hb2.mono hb1.size)).trans (hb3.mono (Nat.le_trans hb1.size hb2.size))⟩
      · have hy1 : ((by_ : Int) == 0) = false := by simpa using hy0
        clear hy0
        go_wp2_with fail
        refine (clone_any A2 _ _ _ cs _ r2 (by omega)).mono ?_
        rintro e w3 ⟨A3, k3, rfl, hk3, hm3, hown3, hb3⟩
        go_wp2_with fail
        refine (four_any by_ _ hy).mono ?_
        rintro e w4 ⟨A4, k4, rfl, hk4, hm4, hown4, hb4⟩
        have hl4 : (four by_).length = 4 := rfl
        rw [hl4] at hown4 ⊢
        clear hl4
        obtain ⟨g4, rfl, hg4, hg4'⟩ := own_some hown4 (by omega)
        obtain ⟨g3, rfl, hg3, hg3'⟩ := own_some hown3 hz2
        have c4 : ∀ j, j < 4 → w4.cell? ⟨g4, j, none⟩ = some (.int .u8 (((four by_).getD j 0 : Nat) : Int)) := fun j hj => by
          obtain ⟨b, o, e, _, hc⟩ := (Rd.ofOwn hown4).u8 (by omega)
          simp only [Option.some.injEq, Addr.mk.injEq, and_true] at e
          obtain ⟨rfl, rfl⟩ := e
          have := hc j hj
          rwa [Nat.zero_add] at this
        have d4 := getD_lt (four by_) (four_lt by_)
        generalize (four by_) = D at *
        have hown34 : w4.ownsRow w2.heap.size 5 1 (.slice (some ⟨g3, 0, none⟩) cs.length k3) cs.length (U8 cs) := hown3.kept (row := none) ⟨hb4.os, hb4.tape, hb4.output, hb4.size, fun k hk _ => hb4.block k hk⟩ (.inr (by simp [Value.ownBlock]))
        have hbl24 : Below w2.heap.size w2 w4 := hb3.trans (hb4.mono hb3.size)
        obtain ⟨p, hpp⟩ : ∃ p : Nat, (pos : Int) % (cs.length : Int) = (p : Int) := ⟨pos % cs.length, by omega⟩
        have hpl : p < cs.length := by
          have := Int.emod_lt_of_pos (pos : Int) hz3
          omega
        have HP := Lib.hid hpp
        clear hpp hown4
        go_wp2
        rw [HP.out]
        have hg4w : g4 < w4.heap.size := hg4'
        go_loopw [38] (fun i wr => ∃ (k : Nat) (q : List Nat), k ≤ 4 ∧ i = .int .i64 k ∧ Hid (q.length = cs.length) ∧ (∀ b ∈ q, b < 256) ∧ Hid (∀ i, ¬ (p ≤ i ∧ i < p + 4) → q[i]? = cs[i]?) ∧
          wr.ownsRow w2.heap.size 5 1 (.slice (some ⟨g3, 0, none⟩) cs.length k3) cs.length (U8 q) ∧ Hid (∀ j, j < 4 → wr.cell? ⟨g4, j, none⟩ = some (.int .u8 ((D.getD j 0 : Nat) : Int))) ∧ Below w2.heap.size w2 wr) (fun i _ => 4 - (intOf i).toNat)
        case atStart => exact ⟨0, cs, by omega, rfl, rfl, hcb, fun _ _ => rfl, hown34, c4, hbl24⟩
        case round =>
          clear hown34 hbl24 c4
          obtain ⟨k, q, hk, rfl, hql, hqb, hqa, hownr, hD, hblr⟩ := hrel
          by_cases hlt : k < 4
          · have cD := hD.out k hlt
            have vD := d4 k
            by_cases hin : p + k < cs.length
            · have hcell : wr.cell? ⟨g3, p + k, none⟩ = some (.int .u8 ((q.getD (p + k) 0 : Nat) : Int)) := by
                rw [hownr.cellAt (p + k) (by omega)]
                simp [U8, List.getD_eq_getElem?_getD, List.getElem?_eq_getElem (show p + k < q.length by rw [hql.out]; exact hin)]
              have hfr : wr.frozen? ⟨g3, p + k, none⟩ = false := hownr.frozenAt (p + k)
              have vq := getD_lt q hqb (p + k)
              have hst := hownr.stored (p + k) (.int .u8 ((q.getD (p + k) 0 ^^^ D.getD k 0 : Nat) : Int))
              have hqn : ∀ b ∈ q.set (p + k) (q.getD (p + k) 0 ^^^ D.getD k 0), b < 256 := fun b hb => by
                rcases List.mem_or_eq_of_mem_set hb with h | rfl
                · exact hqb b h
                · exact xor_lt8 _ _ vq vD
              have hU : (U8 q).set (p + k) (.int .u8 ((q.getD (p + k) 0 ^^^ D.getD k 0 : Nat) : Int)) = U8 (q.set (p + k) (q.getD (p + k) 0 ^^^ D.getD k 0)) := by simp [U8, List.map_set]
              rw [hU] at hst
              have HST := Lib.hid hst
              clear hst hU
              have HX := Lib.hid (xor_u8 (q.getD (p + k) 0) (D.getD k 0) vq vD)
              have HQ : Hid (∀ x, (∀ b ∈ q.set (p + k) x, b < 256) → (q.set (p + k) x).length = cs.length ∧ ∀ i, ¬ (p ≤ i ∧ i < p + 4) → (q.set (p + k) x)[i]? = cs[i]?) := fun x _ =>
                ⟨by rw [List.length_set]; exact hql.out, fun i hi => by rw [List.getElem?_set_ne (by omega)]; exact hqa.out i hi⟩
              generalize q.getD (p + k) 0 = y at *
              generalize D.getD k 0 = z at *
              go_wp2
              go_roundw
              case rel =>
                rw [HX.out]
                have hne : (⟨g3, p + k, none⟩ : Addr).block ≠ g4 := by show g3 ≠ g4; omega
                refine ⟨k + 1, q.set (p + k) (y ^^^ z), by omega, by go_num, (HQ.out _ hqn).1, hqn, (HQ.out _ hqn).2, HST.out.1, ?_, hblr.setCell hg3 _⟩
                intro j hj
                rw [World.cell?_setCell_other _ _ _ _ (by intro e; exact hne (by rw [e]))]
                exact hD.out j hj
              case measure => simp [intOf]; omega
            · go_wp2
              go_roundw
              case rel => exact ⟨k + 1, q, by omega, by go_num, hql, hqb, hqa, hownr, hD, hblr⟩
              case measure => simp [intOf]; omega
          · obtain rfl : k = 4 := by omega
            have rq := Rd.ofOwn hownr
            have rc := r2.below hblr
            have hw := Nat.le_trans hb1.size hb2.size
            have hbw : Below w.heap.size w wr := (hb1.trans (hb2.mono hb1.size)).trans (hblr.mono hw)
            have HF := Lib.hid (found cs q p hql.out hcb hqb hqa.out)
            clear hD hownr
            go_wp2_with fail
            refine (equal_any _ _ _ _ _ _ _ _ cs q _ rc rq hcb hqb).mono ?_
            rintro e w5 ⟨rfl, rfl⟩
            generalize decide (cs = q) = eqb at *
            go_wp2_with fail
            refine (of_any _ _ _ _ cs _ rc hblr.size hcb (by omega)).mono ?_
            rintro e w6 ⟨rfl, hb6⟩
            go_wp2_with fail
            refine (of_any _ _ _ _ q _ (rq.below hb6) hb6.size hqb (by omega)).mono ?_
            rintro e w7 ⟨rfl, hb7⟩
            go_wp2
            go_ret
            refine ⟨?_, (hbw.trans (hb6.mono hbw.size)).trans (hb7.mono (Nat.le_trans hbw.size hb6.size))⟩
            exact congrArg (fun b => Ending.returned (.bool b)) HF.out
end Go.Proofs.Ytaccekfnbofkpaa
