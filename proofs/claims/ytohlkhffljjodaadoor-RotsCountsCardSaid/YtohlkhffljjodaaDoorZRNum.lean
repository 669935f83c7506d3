/- A word read as a number. -/
import Derived.Test.YtohlkhffljjodaaDoorZDMap2
import Derived.ArgAppend
import Derived.Lib.Bytes
import Derived.RegionTactic
import Derived.Deep.QuietTactic
import Derived.BigQuiet
namespace Go.Proofs.YtohlkhffljjodaaDoor
open Go.RowKit
set_option linter.unusedVariables false
set_option maxRecDepth 20000

def Byt (l : List Int) : Prop := ∀ b ∈ l, 0 ≤ b ∧ b < 256
theorem Z8_len (l : List Int) : (Z8 l).length = l.length := by simp [Z8]
theorem Z8_get (l : List Int) (j : Nat) (h : j < (Z8 l).length) : (Z8 l)[j] = .int .u8 (l[j]'(by simpa [Z8] using h)) := by simp [Z8]
theorem Rd.z8 {w : World} {B n : Nat} {A : Option Addr} {bs : List Int} (h : Rd w B A n (Z8 bs)) (h0 : 0 < n) :
    ∃ b o, A = some ⟨b, o, none⟩ ∧ b < B ∧ ∀ k, k < n → w.cell? ⟨b, o + k, none⟩ = some (.int .u8 (bs.getD k 0)) := by
  obtain ⟨b, o, e, hb, hc⟩ := h.at_ h0
  refine ⟨b, o, e, hb, fun k hk => ?_⟩
  have hl : bs.length = n := by rw [← h.len, Z8_len]
  rw [hc k (by rw [Z8_len]; omega), Z8_get]
  simp [List.getD_eq_getElem?_getD, List.getElem?_eq_getElem (show k < bs.length by omega)]
theorem Byt.get {l : List Int} (h : Byt l) (k : Nat) : 0 ≤ l.getD k 0 ∧ l.getD k 0 < 256 := by
  rw [List.getD_eq_getElem?_getD]
  cases hq : l[k]? with
  | none => simp
  | some v => simp; exact h v (List.mem_of_getElem? hq)
theorem conv8 (A : Option Addr) (n c B : Nat) (bs : List Int) (w : World) (h : Rd w B A n (Z8 bs)) :
    (convert 22 9 (.slice A n c)).run Tryd.prog w = .ok (.string (strOfNums bs)) w := by
  have hl : bs.length = n := by rw [← h.len, Z8_len]
  rcases Nat.eq_zero_or_pos n with h0 | h0
  · subst h0
    obtain rfl : bs = [] := List.eq_nil_of_length_eq_zero hl
    rw [run_convert_bytes_string w 22 9 5 _ 0 c Tryd.underlying22 Tryd.underlying5 Tryd.underlying9]
    cases A <;> simp [Conv.bytesToString, loadCells, loadCellsFrom, strOfNums] <;> rfl
  · obtain ⟨b, o, rfl, _, hc⟩ := h.at_ h0
    refine run_convert_bytes_arg (P := Tryd.prog) w 22 5 Tryd.underlying22 Tryd.underlying5 b o n c _ hl (fun i hi => ?_) 9 Tryd.underlying9
    rw [hc i (by rw [Z8_len]; omega), Z8_get]
    simp [List.getD_eq_getElem?_getD, List.getElem?_eq_getElem (show i < bs.length by omega)]
theorem bytesOf_inj : ∀ {l m : List Int}, Byt l → Byt m → Lib.bytesOf l = Lib.bytesOf m → l = m := by
  intro l
  induction l with
  | nil => intro m _ _ h; cases m with
    | nil => rfl
    | cons b m => simp [Lib.bytesOf] at h
  | cons a l ih =>
    intro m ha hm h
    cases m with
    | nil => simp [Lib.bytesOf] at h
    | cons b m =>
      simp only [Lib.bytesOf, List.map_cons, List.cons.injEq] at h
      have h1 := congrArg UInt8.toNat h.1
      simp only [UInt8.toNat_ofNat'] at h1
      have := ha a (by simp)
      have := hm b (by simp)
      rw [ih (fun x hx => ha x (by simp [hx])) (fun x hx => hm x (by simp [hx])) h.2]
      rw [show a = b by omega]

/-- A digit. -/
def Dig (b : Int) : Prop := 48 ≤ b ∧ b ≤ 57
instance (b : Int) : Decidable (Dig b) := inferInstanceAs (Decidable (_ ∧ _))
/-- What digits say. -/
def decL (l : List Int) : Int := l.foldl (fun x b => 10 * x + (b - 48)) 0
theorem decL_snoc (l : List Int) (b : Int) : decL (l ++ [b]) = 10 * decL l + (b - 48) := by simp [decL]
/-- The number that a word is, if it is one. -/
def numR (l : List Int) : Option Int :=
  if l = [45, 49] then some (-1)
  else if l = [] ∨ 9 < l.length ∨ (l.getD 0 0 = 48 ∧ 1 < l.length) then none
  else if ∀ b ∈ l, Dig b then some (decL l) else none
def optV : Option Int → Value
  | some x => .tuple #[.int .i64 x, .bool true]
  | none => .tuple #[.int .i64 0, .bool false]
theorem numR_no {l : List Int} (h1 : l ≠ [45, 49]) (h : l = [] ∨ 9 < l.length ∨ (l.getD 0 0 = 48 ∧ 1 < l.length)) : numR l = none := by
  unfold numR; rw [if_neg h1, if_pos h]
theorem numR_bad {l : List Int} (h1 : l ≠ [45, 49]) (k : Nat) (hk : k < l.length) (h : ¬ Dig (l.getD k 0)) : numR l = none := by
  unfold numR
  rw [if_neg h1]
  split
  · rfl
  · refine if_neg fun ha => h ?_
    rw [List.getD_eq_getElem?_getD, List.getElem?_eq_getElem hk]
    exact ha _ (List.getElem_mem _)
theorem numR_dec {l : List Int} (h1 : l ≠ [45, 49]) (h : ¬ (l = [] ∨ 9 < l.length ∨ (l.getD 0 0 = 48 ∧ 1 < l.length))) (ha : ∀ k, k < l.length → Dig (l.getD k 0)) : numR l = some (decL l) := by
  unfold numR
  rw [if_neg h1, if_neg h, if_pos]
  intro b hb
  obtain ⟨k, hk, rfl⟩ := List.getElem_of_mem hb
  have := ha k hk
  rwa [List.getD_eq_getElem?_getD, List.getElem?_eq_getElem hk] at this
theorem decF_lt : ∀ (l : List Int) (x : Int) (m : Nat), 0 ≤ x → x < ((10 ^ m : Nat) : Int) → (∀ b ∈ l, Dig b) → 0 ≤ l.foldl (fun x b => 10 * x + (b - 48)) x ∧ l.foldl (fun x b => 10 * x + (b - 48)) x < ((10 ^ (m + l.length) : Nat) : Int) := by
  intro l
  induction l with
  | nil => intro x m h0 h1 _; exact ⟨h0, by simpa using h1⟩
  | cons b l ih =>
    intro x m h0 h1 h
    have hb := h b (by simp)
    unfold Dig at hb
    have e : (10 ^ (m + 1) : Nat) = 10 * 10 ^ m := by rw [Nat.pow_succ, Nat.mul_comm]
    have := ih (10 * x + (b - 48)) (m + 1) (by omega) (by rw [e]; omega) fun y hy => h y (by simp [hy])
    rw [List.foldl_cons, List.length_cons, show m + (l.length + 1) = m + 1 + l.length by omega]
    exact this
/-- Digits' number is below 10 to their number. -/
theorem decL_lt (l : List Int) (h : ∀ b ∈ l, Dig b) : 0 ≤ decL l ∧ decL l < ((10 ^ l.length : Nat) : Int) := by
  have := decF_lt l 0 0 (by omega) (by decide) h
  rwa [Nat.zero_add] at this
theorem take_snoc (l : List Int) (k : Nat) (h : k < l.length) : l.take (k + 1) = l.take k ++ [l.getD k 0] := by
  rw [List.take_add_one, List.getElem?_eq_getElem h, List.getD_eq_getElem?_getD, List.getElem?_eq_getElem h]; rfl
theorem decTake (l : List Int) (k : Nat) (h : k < l.length) (hd : ∀ j, j ≤ k → Dig (l.getD j 0)) (h9 : k < 9) :
    decL (l.take (k + 1)) = 10 * decL (l.take k) + (l.getD k 0 - 48) ∧ 0 ≤ decL (l.take k) ∧ decL (l.take k) < 1000000000 := by
  refine ⟨by rw [take_snoc l k h, decL_snoc], ?_⟩
  have := decL_lt (l.take k) (fun b hb => by
    obtain ⟨j, hj, rfl⟩ := List.getElem_of_mem hb
    have hj' : j < k := by simp at hj; omega
    have := hd j (by omega)
    rw [List.getElem_take]
    rwa [List.getD_eq_getElem?_getD, List.getElem?_eq_getElem (by omega)] at this)
  have hk : (l.take k).length = k := by rw [List.length_take]; omega
  rw [hk] at this
  have : 10 ^ k ≤ 10 ^ 9 := Nat.pow_le_pow_right (by omega) (by omega)
  omega

set_option maxHeartbeats 2000000 in
theorem number_p (A : Option Addr) (n c B : Nat) (l : List Int) (w : World) (h : Rd w B A n (Z8 l)) (hl8 : Byt l) (hn : n ≤ 4294967296) :
    Calls Tryd.prog 56 #[.slice A n c] w fun e w' => e = .returned (optV (numR l)) ∧ w = w' := by
  have hl : l.length = n := by rw [← h.len, Z8_len]
  have kc := conv8 A n c B l w h
  obtain ⟨T, hT⟩ : ∃ T, strOfNums l = T := ⟨_, rfl⟩
  rw [hT] at kc
  have tl : T.toList = Lib.bytesOf l := by rw [← hT, Lib.strOfNums_toList]
  clear hT
  by_cases h1 : l = [45, 49]
  · have d1 : (T.toList == [45, 49]) = true := by rw [tl, h1]; rfl
    have R : optV (numR l) = .tuple #[.int .i64 (-1), .bool true] := by rw [h1]; rfl
    rw [R]
    clear R tl h hl8 h1 hl
    go_enter Tryd.func56, Tryd.ntmps56
    go_wp2_with fail
    go_ret2
    exact ⟨rfl, rfl⟩
  · have d1 : (T.toList == [45, 49]) = false := by
      rw [tl]
      refine beq_eq_false_iff_ne.2 fun e => h1 (bytesOf_inj hl8 (by intro b hb; simp at hb; omega) (e.trans rfl))
    have R0 := Lib.hid (fun hh => numR_no h1 hh)
    have R1 := Lib.hid (fun k hk hh => numR_bad h1 k hk hh)
    have R2 := Lib.hid (fun hh ha => numR_dec h1 hh ha)
    have HL := Lib.hid hl
    have H8 := Lib.hid hl8
    clear tl h1
    by_cases h0 : n = 0
    · subst h0
      have R : optV (numR l) = .tuple #[.int .i64 0, .bool false] := by rw [R0.out (.inl (List.eq_nil_of_length_eq_zero hl))]; rfl
      rw [R]
      clear R h hl8 hl
      go_enter Tryd.func56, Tryd.ntmps56
      go_wp2_with fail
      go_ret2
      exact ⟨rfl, rfl⟩
    · by_cases h9 : 9 < n
      · have R : optV (numR l) = .tuple #[.int .i64 0, .bool false] := by rw [R0.out (.inr (.inl (by omega)))]; rfl
        rw [R]
        clear R h hl8 hl
        go_enter Tryd.func56, Tryd.ntmps56
        go_wp2_with fail
        go_ret2
        exact ⟨rfl, rfl⟩
      · obtain ⟨b, o, rfl, hb, hc⟩ := h.z8 (by omega)
        have c0 := hc 0 (by omega)
        have HC := Lib.hid hc
        clear hc h hl8
        by_cases h48 : l.getD 0 0 = 48 ∧ 1 < n
        · have R : optV (numR l) = .tuple #[.int .i64 0, .bool false] := by rw [R0.out (.inr (.inr ⟨h48.1, by omega⟩))]; rfl
          rw [R]
          obtain ⟨h48, h2⟩ := h48
          rw [h48, Nat.add_zero] at c0
          clear R hl h48
          have n0 : 0 < n := by omega
          have n0' : (0 : Int) < (n : Int) := by omega
          go_enter Tryd.func56, Tryd.ntmps56
          go_wp2_with fail
          go_ret2
          exact ⟨rfl, rfl⟩
        · have HN : Hid (¬ (l = [] ∨ 9 < l.length ∨ (l.getD 0 0 = 48 ∧ 1 < l.length))) := by
            rintro (e | e | e)
            · rw [e] at hl; simp at hl; omega
            · omega
            · exact h48 ⟨e.1, by omega⟩
          rw [Nat.add_zero] at c0
          have q1 : l.getD 0 0 ≠ 48 ∨ n ≤ 1 := by
            by_cases e : l.getD 0 0 = 48
            · exact .inr (by have := fun h => h48 ⟨e, h⟩; omega)
            · exact .inl e
          have qb := H8.out.get 0
          clear h48 hl
          generalize l.getD 0 0 = d at c0 q1 qb
          have n0 : 0 < n := by omega
          have n0' : (0 : Int) < (n : Int) := by omega
          have n0e : ((n : Int) == 0) = false := beq_eq_false_iff_ne.2 (by omega)
          have n9 : n ≤ 9 := by omega
          have q2 : d = 48 → n ≤ 1 := fun e => by omega
          have Q2 := Lib.hid q2
          clear q1 q2
          by_cases d48 : d = 48
          all_goals (
            have q3 : Hid (d = 48 → n ≤ 1) := Q2
            have q4 : ¬ 1 < n ∨ d ≠ 48 := by
              by_cases e : d = 48
              · exact .inl (by have := q3.out e; omega)
              · exact .inr e
            clear Q2 q3
            first
            | (have n1 : ¬ 1 < n := by omega
               subst d48
               clear q4)
            | clear q4
            go_enter Tryd.func56, Tryd.ntmps56
            go_wp2_with fail
            go_loopw [4, 31] (fun x i wr => ∃ (k : Nat) (a : Int), i = .int .i64 (k : Int) ∧ x = .int .i64 a ∧ k ≤ n ∧ 0 ≤ a ∧ Hid (a = decL (l.take k)) ∧ Hid (∀ j, j < k → Dig (l.getD j 0)) ∧ wr = w) (fun _ i _ => n - (intOf i).toNat)
            case atStart => exact ⟨0, 0, rfl, rfl, by omega, by omega, rfl, fun j hj => absurd hj (by omega), rfl⟩
            case round =>
              obtain ⟨k, a, rfl, rfl, hk, ha0, ha, hdg, rfl⟩ := hrel
              by_cases hlt : k < n
              · have hltI : (k : Int) < (n : Int) := by omega
                have ck := HC.out k hlt
                have q8 := H8.out.get k
                by_cases e1 : l.getD k 0 < 48
                · have HR := Lib.hid (R1.out k (by rw [HL.out]; exact hlt) (by unfold Dig; omega))
                  generalize l.getD k 0 = x at ck q8 e1
                  go_wp2_with fail
                  go_ret2
                  exact ⟨by rw [HR.out]; rfl, rfl⟩
                · by_cases e2 : 57 < l.getD k 0
                  · have HR := Lib.hid (R1.out k (by rw [HL.out]; exact hlt) (by unfold Dig; omega))
                    generalize l.getD k 0 = x at ck q8 e1 e2
                    go_wp2_with fail
                    go_ret2
                    exact ⟨by rw [HR.out]; rfl, rfl⟩
                  · have dg : ∀ j, j ≤ k → Dig (l.getD j 0) := fun j hj => by
                      by_cases e : j = k
                      · subst e; unfold Dig; omega
                      · exact hdg.out j (by omega)
                    obtain ⟨t1, t2, t3⟩ := decTake l k (by rw [HL.out]; exact hlt) dg (by omega)
                    rw [← ha.out] at t1 t2 t3
                    have T1 := Lib.hid t1
                    have DG := Lib.hid dg
                    clear t1 dg t2
                    generalize l.getD k 0 = x at ck q8 e1 e2 T1
                    have x1 : 48 ≤ x := by omega
                    have x2 : x ≤ 57 := by omega
                    go_wp2_with fail
                    go_roundw
                    case rel =>
                      refine ⟨k + 1, 10 * a + (x - 48), by go_num, by go_num, by omega, by omega, T1.out.symm, fun j hj => DG.out j (by omega), trivial⟩
                    case measure => simp [intOf]; omega
              · obtain rfl : k = n := by omega
                have HR := Lib.hid (R2.out HN.out fun j hj => hdg.out j (by rw [HL.out] at hj; exact hj))
                have e9 := Lib.hid (show a = decL l from by rw [ha.out, List.take_of_length_le (by rw [HL.out]; exact Nat.le_refl _)])
                go_wp2_with fail
                go_ret2
                exact ⟨by rw [HR.out, ← e9.out]; rfl, rfl⟩)
end Go.Proofs.YtohlkhffljjodaaDoor
