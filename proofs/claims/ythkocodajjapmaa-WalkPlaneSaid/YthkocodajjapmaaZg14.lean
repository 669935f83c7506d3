/- Right: steps that are the walk. The document's text of letters; the darts that were seen. -/
import Derived.Test.YthkocodajjapmaaZg6
import Derived.BigQuiet
import Derived.Test.YthkocodajjapmaaZWRef
import Derived.Laws.Concat
namespace Go.Proofs.Ythkocodajjapmaa
set_option maxRecDepth 20000
open Go.RowKit
set_option linter.unusedVariables false
set_option maxHeartbeats 4000000 in
theorem equalS_p (A1 A2 : Option Addr) (c1 c2 n B1 B2 : Nat) (L : List Int) (w : World) (h1 : RdS w B1 A1 n L) (h2 : RdS w B2 A2 n L) (hb1 : B1 ≤ w.heap.size) (hb2 : B2 ≤ w.heap.size) (hn : n ≤ 1000000) :
    Calls Try.prog 34 #[.slice A1 n c1, .slice A2 n c2] w fun e w' => e = .returned (.bool true) ∧ Below w.heap.size w w' := by
  have H1 := Lib.hid (h1.up hb1)
  have H2 := Lib.hid (h2.up hb2)
  clear h1 h2
  go_enter Try.func34, Try.ntmps34
  go_wp2_with fail
  go_loopw [13] (fun i wr => ∃ (k : Nat), k ≤ n ∧ i = .int .i64 (k : Int) ∧ Hid (Below w.heap.size w wr)) (fun i _ => n - (intOf i).toNat)
  case atStart => exact ⟨0, by omega, rfl, Below.refl _ _⟩
  case round =>
    obtain ⟨k, hk, rfl, HB⟩ := hrel
    by_cases hlt : k < n
    · obtain ⟨g1, rfl, _, k1⟩ := (H1.out.below HB.out).2 (show 0 < n by omega)
      obtain ⟨g2, rfl, _, k2⟩ := (H2.out.below HB.out).2 (show 0 < n by omega)
      have hdk : decide (k < n) = true := by rw [decide_eq_true_iff]; exact hlt
      have a0 := k1 (k * 2) (by omega)
      have a1 := k1 (k * 2 + 1) (by omega)
      have b0 := k2 (k * 2) (by omega)
      have b1 := k2 (k * 2 + 1) (by omega)
      clear k1 k2
      generalize L.getD (k * 2) 0 = v0 at *
      generalize L.getD (k * 2 + 1) 0 = v1 at *
      go_wp2_with fail
      go_quiet (fail)
      go_wp2_with fail
      go_roundw
      case rel => exact ⟨k + 1, by omega, by go_num, below_draws HB.out _⟩
      case measure => simp [intOf]; omega
    · obtain rfl : k = n := by omega
      have hdk : decide (k < k) = false := by simp
      go_wp2_with fail
      go_ret
      exact ⟨rfl, HB.out⟩
theorem right_out (g : Nat) (l b : List Nat) (root lone i : Int) (v : Value) (w : World) (h : MapAt w g l b root lone) (hi : i < 0 ∨ (l.length : Int) ≤ i) :
    Calls Try.prog 11 #[.pointer (some ⟨g, 0, none⟩), .int .i64 i, v] w fun e w' => e = .returned (.bool false) ∧ Below w.heap.size w w' := by
  have OP := Lib.hid (walkOf_out g l b root lone i w h hi)
  clear h hi
  go_enter Try.func11, Try.ntmps11
  go_wp2_with fail
  refine OP.out.mono ?_
  rintro e w1 ⟨rfl, z⟩
  go_wp2_with fail
  go_ret
  exact ⟨rfl, z⟩
set_option maxHeartbeats 2000000 in
theorem right_p (g : Nat) (l b : List Nat) (root lone : Int) (r m V : Nat) (A1 : Option Addr) (c1 B : Nat) (w : World) (h : MapAt w g l b root lone) (hi : Inv l b) (hr : r < l.length) (hm : m = l.length / 2) (hV : (V : Int) = ((sizes l).length : Int) + lone)
    (hs : RdS w B A1 (wN (sgL l) (nameOf l) m V r) (wst (sgL l) (nameOf l) m V r (wN (sgL l) (nameOf l) m V r))) (hB : B ≤ w.heap.size) (hN : wN (sgL l) (nameOf l) m V r ≤ 1000000) :
    Calls Try.prog 11 #[.pointer (some ⟨g, 0, none⟩), .int .i64 (r : Int), .slice A1 (wN (sgL l) (nameOf l) m V r) c1] w fun e w' => e = .returned (.bool true) ∧ Below w.heap.size w w' := by
  have OP := Lib.hid (walkOf_p g l b root lone r m V w h hi hr hm hV)
  have HS := Lib.hid hs
  clear h hi hr hm hV hs
  generalize wst (sgL l) (nameOf l) m V r (wN (sgL l) (nameOf l) m V r) = L at *
  generalize wN (sgL l) (nameOf l) m V r = N at *
  go_enter Try.func11, Try.ntmps11
  go_wp2_with fail
  refine OP.out.mono ?_
  rintro e w1 ⟨A, c, rfl, own, z⟩
  have EP := Lib.hid (equalS_p A1 A c1 c N _ _ L w1 (HS.out.below (z.mono hB)) (RdS.own own) (Nat.le_trans hB z.size) (Nat.le_refl _) hN)
  have Z := Lib.hid z
  clear own z
  go_wp2_with fail
  refine EP.out.mono ?_
  rintro e w2 ⟨rfl, z⟩
  have Z2 := Lib.hid (Z.out.trans (z.mono Z.out.size))
  clear z
  go_wp2_with fail
  go_ret
  exact ⟨rfl, Z2.out⟩
end Go.Proofs.Ythkocodajjapmaa
namespace Go.Proofs.Ythkocodajjapmaa
set_option maxRecDepth 20000
open Go.RowKit Go.Maps
set_option linter.unusedVariables false
theorem textM_size (l : List Nat) : (textM l).size = l.length := by rw [textM, strOfNums_size, List.length_map]
theorem textM_next (l : List Nat) (b : Nat) : textM (l ++ [b]) = textM l ++ ⟨#[UInt8.ofNat (signN b)]⟩ := by
  apply ByteArray.ext
  rw [ByteArray.data_append]
  simp [textM, strOfNums]
theorem take_oneW (l : List Nat) (k : Nat) (h : k < l.length) : l.take (k + 1) = l.take k ++ [l.getD k 0] := by
  rw [← List.take_append_getElem h, List.getD_eq_getElem?_getD, List.getElem?_eq_getElem h]; rfl
set_option maxHeartbeats 2000000 in
theorem refText4_p (A : Option Addr) (n c B : Nat) (l : List Nat) (w : World) (h : Rd w B A n (I64 (ofN l))) (hb : ∀ x ∈ l, x < 4) (hn : n ≤ 1000000) :
    Calls Try.prog 16 #[.slice A n c] w fun e w' => e = .returned (.string (textM l)) ∧ w = w' := by
  have hl : l.length = n := by rw [← ofN_len, ← I64_len, h.len]
  have HL := Lib.hid hl
  have HBN := Lib.hid hb
  clear hl hb
  go_enter Try.func16, Try.ntmps16
  go_wp2
  go_loopw [3, 8] (fun x i wr => ∃ (k : Nat) (t : ByteArray), k ≤ n ∧ i = .int .i64 (k : Int) ∧ Hid (t = textM (l.take k)) ∧ x = .string t ∧ wr = w) (fun _ i _ => n - (intOf i).toNat)
  case atStart => exact ⟨0, _, by omega, rfl, rfl, rfl, rfl⟩
  case round =>
    obtain ⟨k, t, hk, rfl, ht, rfl, rfl⟩ := hrel
    have hts : t.size ≤ 1000000 := by rw [ht.out, textM_size, List.length_take]; omega
    by_cases hlt : k < n
    · obtain ⟨b, o, rfl, _, k1⟩ := h.i64 (by omega)
      have t1 := k1 k hlt
      rw [ofN_get] at t1
      have hkl : k < l.length := by rw [HL.out]; exact hlt
      have hb2 : l.getD k 0 < 4 := HBN.out _ (by rw [List.getD_eq_getElem?_getD, List.getElem?_eq_getElem hkl]; exact List.getElem_mem hkl)
      have hnx : textM (l.take (k + 1)) = t ++ ⟨#[UInt8.ofNat (signN (l.getD k 0))]⟩ := by
        rw [take_oneW l k hkl, textM_next, ht.out]
      have HNX := Lib.hid hnx
      clear k1 hnx hkl
      generalize l.getD k 0 = x at *
      rcases (show x = 0 ∨ x = 1 ∨ x = 2 ∨ x = 3 by omega) with rfl | rfl | rfl | rfl
      · have hcat : ∀ W, (Op.stringOp .add t ⟨#[40]⟩).run Try.prog W = .ok (.string (t ++ ⟨#[40]⟩)) W := fun W => run_string_add W _ _ (by omega) (by decide)
        clear hb2
        go_wp2_with fail
        go_roundw
        case rel => exact ⟨k + 1, _, by omega, by go_num, HNX.out.symm, rfl, trivial⟩
        case measure => simp [intOf]; omega
      · have hcat : ∀ W, (Op.stringOp .add t ⟨#[41]⟩).run Try.prog W = .ok (.string (t ++ ⟨#[41]⟩)) W := fun W => run_string_add W _ _ (by omega) (by decide)
        clear hb2
        go_wp2_with fail
        go_roundw
        case rel => exact ⟨k + 1, _, by omega, by go_num, HNX.out.symm, rfl, trivial⟩
        case measure => simp [intOf]; omega
      · have hcat : ∀ W, (Op.stringOp .add t ⟨#[91]⟩).run Try.prog W = .ok (.string (t ++ ⟨#[91]⟩)) W := fun W => run_string_add W _ _ (by omega) (by decide)
        clear hb2
        go_wp2_with fail
        go_roundw
        case rel => exact ⟨k + 1, _, by omega, by go_num, HNX.out.symm, rfl, trivial⟩
        case measure => simp [intOf]; omega
      · have hcat : ∀ W, (Op.stringOp .add t ⟨#[93]⟩).run Try.prog W = .ok (.string (t ++ ⟨#[93]⟩)) W := fun W => run_string_add W _ _ (by omega) (by decide)
        clear hb2
        go_wp2_with fail
        go_roundw
        case rel => exact ⟨k + 1, _, by omega, by go_num, HNX.out.symm, rfl, trivial⟩
        case measure => simp [intOf]; omega
    · obtain rfl : k = n := by omega
      have e1 : l.take k = l := List.take_of_length_le (by rw [HL.out]; exact Nat.le_refl _)
      rw [e1] at ht
      go_wp2_with fail
      go_ret
      exact ⟨by rw [← ht.out]; rfl, rfl⟩
/-- The kinds as numbers. -/
def wkn (sg nm : Nat → Nat) (m V r : Nat) : Nat → List Nat
  | 0 => []
  | j + 1 => wkn sg nm m V r j ++ [(wrun sg nm m V r j).k nm]
theorem wkl_wkn (sg nm : Nat → Nat) (m V r : Nat) : ∀ j, wkl sg nm m V r j = ofN (wkn sg nm m V r j)
  | 0 => rfl
  | j + 1 => by
    unfold wkl wkn
    rw [wkl_wkn sg nm m V r j, ofN_append]; rfl
theorem wk_lt (sg nm : Nat → Nat) (m V r j : Nat) : (wrun sg nm m V r j).k nm < 4 := by
  rcases (wrun sg nm m V r j).kinds (nm := nm) with ⟨a, _⟩ | ⟨a, _⟩ | ⟨a, _⟩ | ⟨a, _⟩ <;> omega
theorem wkn_lt (sg nm : Nat → Nat) (m V r : Nat) : ∀ j, ∀ x ∈ wkn sg nm m V r j, x < 4
  | 0, x, h => by simp [wkn] at h
  | j + 1, x, h => by
    unfold wkn at h
    rcases List.mem_append.1 h with y | y
    · exact wkn_lt sg nm m V r j x y
    · simp at y; rw [y]; exact wk_lt sg nm m V r j
theorem wstk_mono (sg nm : Nat → Nat) (m V r i : Nat) : ∀ N k, k ≤ N → i < 2 * k → (wst sg nm m V r N).getD i 0 = (wst sg nm m V r k).getD i 0
  | 0, k, h, hi => by omega
  | N + 1, k, h, hi => by
    rcases Nat.lt_or_ge N k with c | c
    · rw [show k = N + 1 by omega]
    · rw [← wstk_mono sg nm m V r i N k c hi]
      have := wst_len sg nm m V r N
      rw [show wst sg nm m V r (N + 1) = wst sg nm m V r N ++ [((wrun sg nm m V r N).d : Int), (((wrun sg nm m V r N).k nm : Nat) : Int)] from rfl]
      rw [List.getD_eq_getElem?_getD, List.getElem?_append_left (by omega), ← List.getD_eq_getElem?_getD]
theorem wst_dk (sg nm : Nat → Nat) (m V r : Nat) {N k : Nat} (h : k < N) : (wst sg nm m V r N).getD (2 * k) 0 = ((wrun sg nm m V r k).d : Int) ∧ (wst sg nm m V r N).getD (2 * k + 1) 0 = (((wrun sg nm m V r k).k nm : Nat) : Int) := by
  rw [wstk_mono sg nm m V r _ N (k + 1) (by omega) (by omega), wstk_mono sg nm m V r _ N (k + 1) (by omega) (by omega)]
  have := wst_len sg nm m V r k
  unfold wst
  constructor
  · rw [List.getD_eq_getElem?_getD, List.getElem?_append_right (by omega), this, Nat.sub_self]; rfl
  · rw [List.getD_eq_getElem?_getD, List.getElem?_append_right (by omega), this, show 2 * k + 1 - 2 * k = 1 by omega]; rfl
theorem kindsN_wkn (sg nm : Nat → Nat) (m V r N : Nat) : ∀ k, k ≤ N → kindsN (wst sg nm m V r N) k = wkn sg nm m V r k
  | 0, _ => rfl
  | k + 1, h => by
    have h2 := (wst_dk sg nm m V r (show k < N by omega)).2
    have h4 := wk_lt sg nm m V r k
    unfold kindsN wkn
    rw [h2, if_pos ⟨by omega, by omega⟩, kindsN_wkn sg nm m V r N k (by omega), Int.toNat_natCast]
theorem wdl_get (sg nm : Nat → Nat) (m V r : Nat) : ∀ N k, k < N → (wdl sg nm m V r N).getD k 0 = ((wrun sg nm m V r k).d : Int)
  | 0, k, h => by omega
  | N + 1, k, h => by
    have hl := wdl_len sg nm m V r N
    unfold wdl
    rcases Nat.lt_or_ge k N with c | c
    · rw [List.getD_eq_getElem?_getD, List.getElem?_append_left (by omega), ← List.getD_eq_getElem?_getD]
      exact wdl_get sg nm m V r N k c
    · obtain rfl : k = N := by omega
      rw [List.getD_eq_getElem?_getD, List.getElem?_append_right (by omega), hl, Nat.sub_self]; rfl
theorem wkl_get (sg nm : Nat → Nat) (m V r : Nat) : ∀ N k, k < N → (wkl sg nm m V r N).getD k 0 = (((wrun sg nm m V r k).k nm : Nat) : Int)
  | 0, k, h => by omega
  | N + 1, k, h => by
    have hl := wkl_len sg nm m V r N
    unfold wkl
    rcases Nat.lt_or_ge k N with c | c
    · rw [List.getD_eq_getElem?_getD, List.getElem?_append_left (by omega), ← List.getD_eq_getElem?_getD]
      exact wkl_get sg nm m V r N k c
    · obtain rfl : k = N := by omega
      rw [List.getD_eq_getElem?_getD, List.getElem?_append_right (by omega), hl, Nat.sub_self]; rfl
open Classical in
/-- A map that has counted the first j darts, all of them apart. -/
structure MSn (D : DataW Unit) (f : Nat → Nat) (j : Nat) : Prop where
  tidy : Tidy D
  has_ : ∀ x, Maps.has D (kI x) = decide (∃ i, i < j ∧ f i = x)
  size_ : Maps.size D = j
  at_ : ∀ x, D.atKey (kI x) (.lit (.int .i64 0)) = .lit (.int .i64 (if ∃ i, i < j ∧ f i = x then 1 else 0))
open Classical in
theorem MSn.zero (f : Nat → Nat) : MSn (.map []) f 0 where
  tidy := tidy_empty
  has_ := fun x => by simp [Maps.has]
  size_ := rfl
  at_ := fun x => by simp [DataW.atKey]
open Classical in
theorem MSn.step {D : DataW Unit} {f : Nat → Nat} {j : Nat} (h : MSn D f j) (hf : ∀ i, i < j → f i ≠ f j) : MSn (D.put (kI (f j)) (.lit (.int .i64 1))) f (j + 1) where
  tidy := h.tidy.put (kI_key _) _
  has_ := fun x => by
    by_cases c : x = f j
    · subst c
      rw [has_put_same h.tidy.isMap (kI_key _)]
      exact (decide_eq_true ⟨j, by omega, rfl⟩).symm
    · rw [has_put_other (kI_ne c), h.has_, decide_eq_decide]
      constructor
      · rintro ⟨i, hi, e⟩; exact ⟨i, by omega, e⟩
      · rintro ⟨i, hi, e⟩
        refine ⟨i, ?_, e⟩
        rcases Nat.lt_or_ge i j with q | q
        · exact q
        · exact absurd (by rw [← e, show i = j by omega]) c
  size_ := by
    rw [size_put h.tidy, h.has_, h.size_, if_neg]
    rw [decide_eq_true_iff]
    rintro ⟨i, hi, e⟩
    exact hf i hi e
  at_ := fun x => by
    by_cases c : x = f j
    · subst c
      rw [atKey_put_same h.tidy.isMap (kI_key _), if_pos ⟨j, by omega, rfl⟩]
    · rw [atKey_put_other (kI_ne c), h.at_]
      by_cases q : ∃ i, i < j ∧ f i = x
      · obtain ⟨i, hi, e⟩ := q
        rw [if_pos ⟨i, hi, e⟩, if_pos ⟨i, by omega, e⟩]
      · rw [if_neg q, if_neg]
        rintro ⟨i, hi, e⟩
        rcases Nat.lt_or_ge i j with y | y
        · exact q ⟨i, y, e⟩
        · exact c (by rw [← e, show i = j by omega])
theorem look_s {w : World} {g n j : Nat} {f : Nat → Nat} {D : DataW Unit} (h : OwnM w g n D) (hm : MSn D f j) (hf : ∀ i, i < j → f i ≠ f j) (hj : f j ≤ 1000000) :
    (Instr.lookup 38 (.map (some g)) (.int .i64 ((f j : Nat) : Int)) false).run Try.prog w = .ok (.int .i64 0) w := by
  obtain ⟨c, hrun, hat, _⟩ := World.ownsMap.lookup_int h mlaw Try.underlying38 Try.underlying3 (mzero _) (mkey (f j) hj)
  rw [hm.at_ (f j), if_neg (by rintro ⟨i, hi, e⟩; exact hf i hi e)] at hat
  simp only [DataW.lit.injEq, Lit.int.injEq, true_and] at hat
  rw [hat]; exact hrun
end Go.Proofs.Ythkocodajjapmaa
