/- The library's Split at one byte: its pieces, each within what came in. -/
import Derived.Test.YtohlkhffljjodaaDoorZRNum
import Derived.Test.YtohlkhffljjodaaDoorZRShelf
namespace Go.Proofs.YtohlkhffljjodaaDoor
open Go.RowKit
set_option linter.unusedVariables false
set_option maxRecDepth 20000

/-- Bytes, parted at each c. -/
def headL (b : Int) : List (List Int) → List (List Int)
  | [] => [[b]]
  | x :: r => (b :: x) :: r
def splitL (c : Int) : List Int → List (List Int)
  | [] => [[]]
  | b :: l => if b = c then [] :: splitL c l else headL b (splitL c l)
def headU (b : UInt8) : List (List UInt8) → List (List UInt8)
  | [] => [[b]]
  | x :: r => (b :: x) :: r
def splitU (c : UInt8) : List UInt8 → List (List UInt8)
  | [] => [[]]
  | b :: l => if b = c then [] :: splitU c l else headU b (splitU c l)
theorem splitL_ne (c : Int) : ∀ l, splitL c l ≠ [] := by
  intro l
  cases l with
  | nil => simp [splitL]
  | cons b l =>
    unfold splitL
    split
    · simp
    · cases splitL c l <;> simp [headL]
theorem splitU_is (c : UInt8) : ∀ l : List UInt8, Lib.splitK [c] 0 (l.count c) l = splitU c l := by
  intro l
  induction l with
  | nil => simp [Lib.splitK, splitU]
  | cons b l ih =>
    by_cases e : b = c
    · subst e
      rw [List.count_cons_self]
      have hi : Lib.index (b :: l) [b] = 0 := by rw [Lib.index_one]; simp [Lib.indexByte]
      unfold Lib.splitK splitU
      rw [hi, if_neg (by decide), if_pos rfl]
      simp only [List.length_singleton]
      show [] :: Lib.splitK [b] 0 (l.count b) l = _
      rw [ih]
    · rw [List.count_cons_of_ne (by simpa using e)]
      have hc : (b == c) = false := beq_eq_false_iff_ne.2 e
      unfold splitU
      rw [if_neg e, ← ih]
      have hx : Lib.index (b :: l) [c] = if Lib.index l [c] == -1 then -1 else Lib.index l [c] + 1 := by
        rw [Lib.index_one, Lib.index_one]
        conv => lhs; unfold Lib.indexByte
        rw [hc]; rfl
      have hge := Lib.index_ge l [c]
      cases hk : l.count c with
      | zero => simp [Lib.splitK, headU]
      | succ k =>
        unfold Lib.splitK
        rw [hx]
        by_cases hm : Lib.index l [c] = -1
        · rw [hm]; simp [headU]
        · have h1 : (Lib.index l [c] == -1) = false := beq_eq_false_iff_ne.2 hm
          rw [h1]
          obtain ⟨i, hi⟩ : ∃ i : Nat, Lib.index l [c] = (i : Int) := ⟨(Lib.index l [c]).toNat, by omega⟩
          rw [hi]
          have h2 : (((i : Int) + 1 == -1) : Bool) = false := beq_eq_false_iff_ne.2 (by omega)
          simp [h2, headU, show ((i : Int) + 1).toNat = i + 1 by omega]
theorem splitU_len (c : UInt8) : ∀ l : List UInt8, (splitU c l).length = l.count c + 1 := by
  intro l
  induction l with
  | nil => simp [splitU]
  | cons b l ih =>
    unfold splitU
    by_cases e : b = c
    · subst e; rw [if_pos rfl, List.length_cons, ih, List.count_cons_self]
    · rw [if_neg e, List.count_cons_of_ne (by simpa using e), ← ih]
      cases hs : splitU c l with
      | nil => rw [hs] at ih; simp at ih
      | cons x r => simp [headU]
theorem Byt.tail {b : Int} {l : List Int} (h : Byt (b :: l)) : Byt l := fun x hx => h x (by simp [hx])
theorem splitL_bytes (c : Int) (hc : 0 ≤ c ∧ c < 256) : ∀ l, Byt l → (splitL c l).map Lib.bytesOf = splitU (UInt8.ofNat c.toNat) (Lib.bytesOf l) := by
  intro l
  induction l with
  | nil => intro _; simp [splitL, splitU, Lib.bytesOf]
  | cons b l ih =>
    intro h
    have hb := h b (by simp)
    have e : Lib.bytesOf (b :: l) = UInt8.ofNat b.toNat :: Lib.bytesOf l := by simp [Lib.bytesOf]
    have ei : (UInt8.ofNat b.toNat = UInt8.ofNat c.toNat) ↔ b = c := by
      constructor
      · intro q
        have := congrArg UInt8.toNat q
        simp only [UInt8.toNat_ofNat'] at this
        omega
      · rintro rfl; rfl
    rw [e]
    unfold splitL splitU
    by_cases q : b = c
    · rw [if_pos q, if_pos (ei.2 q), List.map_cons, ih h.tail]
      simp [Lib.bytesOf]
    · rw [if_neg q, if_neg fun z => q (ei.1 z), ← ih h.tail]
      cases splitL c l with
      | nil => simp [headL, headU, Lib.bytesOf]
      | cons x r => simp [headL, headU, Lib.bytesOf]
theorem splitL_byt (c : Int) : ∀ l, Byt l → ∀ x ∈ splitL c l, Byt x := by
  intro l
  induction l with
  | nil => intro _ x hx; simp [splitL] at hx; subst hx; intro b hb; simp at hb
  | cons b l ih =>
    intro h x hx
    have hb := h b (by simp)
    unfold splitL at hx
    split at hx
    · rcases List.mem_cons.1 hx with rfl | hx
      · intro b hb; simp at hb
      · exact ih h.tail x hx
    · cases hs : splitL c l with
      | nil => exact absurd hs (splitL_ne c l)
      | cons y r =>
        rw [hs] at hx
        rcases List.mem_cons.1 hx with rfl | hx
        · intro z hz
          rcases List.mem_cons.1 hz with rfl | hz
          · exact hb
          · exact ih h.tail y (by rw [hs]; simp) z hz
        · exact ih h.tail x (by rw [hs]; simp [hx])
theorem splitV_cap (sep : List UInt8) (hsep : sep ≠ []) : ∀ (k : Nat) (a : Addr) (cap : Nat) (l : List UInt8), l.length ≤ cap → ∀ v ∈ Lib.splitV sep 0 k a cap l, ∃ a' len cp, v = .slice (some a') len cp ∧ cp ≤ cap := by
  intro k
  induction k with
  | zero => intro a cap l hl v hv; simp [Lib.splitV] at hv; exact ⟨_, _, _, hv, Nat.le_refl _⟩
  | succ k ih =>
    intro a cap l hl v hv
    unfold Lib.splitV at hv
    split at hv
    · simp at hv; exact ⟨_, _, _, hv, Nat.le_refl _⟩
    · rename_i hm
      have hge := Lib.index_ge l sep
      obtain ⟨i, hi⟩ : ∃ i : Nat, Lib.index l sep = (i : Int) := ⟨(Lib.index l sep).toNat, by
        have : Lib.index l sep ≠ -1 := fun e => hm (by rw [e]; rfl)
        omega⟩
      have hle := Lib.index_le l sep
      rw [hi] at hv hle
      rcases List.mem_cons.1 hv with rfl | hv
      · exact ⟨_, _, _, rfl, by simp; omega⟩
      · obtain ⟨a', len, cp, e, hc⟩ := ih _ _ _ (by rw [List.length_drop]; omega) v hv
        exact ⟨a', len, cp, e, by omega⟩

/-- Values that are slices of bytes: these, each within old blocks. -/
structure Pieces (w : World) (B : Nat) (vs : List Value) (ls : List (List Int)) : Prop where
  len : vs.length = ls.length
  at_ : ∀ j, j < vs.length → ∃ A n c, vs[j]? = some (.slice A n c) ∧ n ≤ c ∧ c ≤ maxLen ∧ (A = none → c = 0) ∧ Rd w B A n (Z8 (ls.getD j []))
theorem Pieces.mod {w w' : World} {B : Nat} {vs : List Value} {ls : List (List Int)} (h : Pieces w B vs ls) (m : Below B w w') : Pieces w' B vs ls :=
  ⟨h.len, fun j hj => by
    obtain ⟨A, n, c, e, h1, h2, h3, h4⟩ := h.at_ j hj
    exact ⟨A, n, c, e, h1, h2, h3, h4.below m⟩⟩
theorem bytesOf_len (l : List Int) : (Lib.bytesOf l).length = l.length := by simp [Lib.bytesOf]
theorem bytesOf_cut (l : List Int) (a b : Nat) : ((Lib.bytesOf l).drop a).take b = Lib.bytesOf ((l.drop a).take b) := by simp [Lib.bytesOf, List.map_drop, List.map_take]
def SplitPost (B : Nat) (l : List Int) (s : Int) (w : World) (e : Ending) (w' : World) : Prop :=
  ∃ vs q, e = .returned (.slice (some ⟨w.heap.size, 0, none⟩) vs.length vs.length) ∧ w' = (w.alloc (.cells vs.toArray 22)).drewN q ∧ Pieces w B vs (splitL s l) ∧ vs.length ≤ l.length + 1
theorem splitL_len (c : Int) : ∀ l, (splitL c l).length ≤ l.length + 1 := by
  intro l
  induction l with
  | nil => simp [splitL]
  | cons b l ih =>
    unfold splitL
    split
    · simp; omega
    · cases hs : splitL c l with
      | nil => simp [headL]
      | cons x r => rw [hs] at ih; simp [headL] at ih ⊢; omega
theorem split_p (A : Option Addr) (n c B g : Nat) (l : List Int) (s m : Int) (w : World) (h : Rd w B A n (Z8 l)) (hl8 : Byt l) (hnc : n ≤ c) (hc : c ≤ maxLen) (hA : A = none → c = 0) (hs : n < 4294967281) (hsb : 0 ≤ s ∧ s < 256)
    (hg : w.cell? ⟨g, 0, none⟩ = some (.int .u8 s)) (hm : w.cell? ⟨0, 0, none⟩ = some (.int .i64 m)) :
    Calls Tryd.prog 45 #[.slice A n c, .slice (some ⟨g, 0, none⟩) 1 1] w (SplitPost B l s w) := by
  have hl : l.length = n := by rw [← h.len, Z8_len]
  cases A with
  | none =>
    obtain rfl : n = 0 := h.none_
    obtain rfl : l = [] := List.eq_nil_of_length_eq_zero hl
    obtain rfl : c = 0 := hA rfl
    refine (Any.bytes_Split_nil Tryd.lays7 (some ⟨g, 0, none⟩) 1 1 w (by omega) (by omega) (fun _ => ⟨g, 0, s, rfl, hg⟩)).mono ?_
    rintro e w1 ⟨rfl, rfl⟩
    refine ⟨[.slice none 0 0], 0, rfl, rfl, ⟨rfl, fun j hj => ?_⟩, by simp⟩
    obtain rfl : j = 0 := by simp at hj; omega
    exact ⟨none, 0, 0, rfl, by omega, by simp [maxLen], fun _ => rfl, Rd.nil _ _ _⟩
  | some a =>
    have hcm : c ≤ 9223372036854775807 := by simpa [maxLen] using hc
    have hcell : ∀ i, i < n → w.cell? (a.add i) = some (.int .u8 (l.getD i 0)) := by
      intro i hi
      obtain ⟨b, o, e, _, hh⟩ := h.z8 (by omega)
      obtain rfl := Option.some.inj e
      have := hh i hi
      unfold Addr.add
      by_cases h0 : i = 0
      · subst h0; simpa using this
      · rw [if_neg h0]; exact this
    refine (Any.bytes_Split Tryd.lays7 a ⟨g, 0, none⟩ n c 1 1 l [s] m w hl rfl hl8 (by intro y hy; simp at hy; rw [hy]; exact hsb) hcell (fun i hi => by
      obtain rfl : i = 0 := by omega
      simpa [Addr.add] using hg) hnc hs (by omega) hcm (by omega) hm).mono ?_
    rintro e w1 ⟨rfl, q, rfl⟩
    have es : Lib.bytesOf [s] = [UInt8.ofNat s.toNat] := rfl
    have hsp : Lib.splitK (Lib.bytesOf [s]) 0 (Lib.count (Lib.bytesOf l) (Lib.bytesOf [s])) (Lib.bytesOf l) = (splitL s l).map Lib.bytesOf := by
      rw [es, Lib.count_one, splitU_is, splitL_bytes s hsb l hl8]
    have hk : (splitL s l).length = Lib.count (Lib.bytesOf l) (Lib.bytesOf [s]) + 1 := by
      rw [es, Lib.count_one, ← splitU_len, ← splitL_bytes s hsb l hl8, List.length_map]
    generalize Lib.count (Lib.bytesOf l) (Lib.bytesOf [s]) = k at *
    have hspec := Lib.splitV_spec (Lib.bytesOf [s]) 0 (by rw [es]; simp) (by omega) k a c (Lib.bytesOf l) (by rw [bytesOf_len]; omega)
    have hcap := splitV_cap (Lib.bytesOf [s]) (by rw [es]; simp) k a c (Lib.bytesOf l) (by rw [bytesOf_len]; omega)
    have hvl := Lib.splitV_length (Lib.bytesOf [s]) 0 k a c (Lib.bytesOf l)
    rw [hsp] at hspec hvl
    rw [List.length_map] at hvl
    refine ⟨Lib.splitV (Lib.bytesOf [s]) 0 k a c (Lib.bytesOf l), q, by rw [hvl, hk], rfl, ⟨hvl, fun j hj => ?_⟩, by rw [hvl]; exact splitL_len s l⟩
    have hj2 : j < (splitL s l).length := by omega
    obtain ⟨a', off, len, cp, e, h1, h2, h3, h4⟩ := hspec j _ (List.getElem?_eq_getElem hj)
    obtain ⟨a2, len2, cp2, e2, h5⟩ := hcap _ (List.getElem_mem hj)
    rw [e] at e2
    simp only [Value.slice.injEq] at e2
    obtain ⟨_, _, rfl⟩ := e2
    rw [bytesOf_len] at h2
    have hx : (splitL s l).getD j [] = (l.drop off).take len := by
      rw [List.getElem?_map, List.getElem?_eq_getElem hj2, Option.map_some, bytesOf_cut, Option.some.injEq] at h3
      rw [List.getD_eq_getElem?_getD, List.getElem?_eq_getElem hj2]
      exact bytesOf_inj (splitL_byt s l hl8 _ (List.getElem_mem hj2)) (fun x hx => hl8 x (List.mem_of_mem_drop (List.mem_of_mem_take hx))) h3
    refine ⟨some a', len, cp, by rw [List.getElem?_eq_getElem hj, e], h1, by omega, fun e => by simp at e, ?_⟩
    rw [hx]
    refine ⟨by rw [Z8_len, List.length_take, List.length_drop]; omega, fun h0 => ?_⟩
    obtain ⟨b, o, ea, hb, hh⟩ := h.z8 (by omega)
    obtain rfl := Option.some.inj ea
    have a0 := h4 0 h0
    have ea' : a' = ⟨b, o + off, none⟩ := by
      have l1 : a'.add 0 = a' := by simp [Addr.add]
      rw [l1] at a0
      rw [a0]
      unfold Addr.add
      by_cases z : off + 0 = 0
      · rw [if_pos z]; simp; try omega
      · rw [if_neg z]; rfl
    refine ⟨b, o + off, by rw [ea'], hb, fun j hj => ?_⟩
    have hjl : j < len := by rw [Z8_len, List.length_take, List.length_drop] at hj; omega
    rw [Nat.add_assoc, hh (off + j) (by omega), Z8_get]
    congr 2
    rw [List.getElem_take, List.getElem_drop, List.getD_eq_getElem?_getD, List.getElem?_eq_getElem (by omega)]
    rfl
end Go.Proofs.YtohlkhffljjodaaDoor
