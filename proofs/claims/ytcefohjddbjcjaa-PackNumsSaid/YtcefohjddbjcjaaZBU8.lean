/- The library's Clone and Equal of bytes. -/
import Derived.Test.YtcefohjddbjcjaaZBSeq
import Derived.Laws.BytesArg
import Derived.ArgAppend
import Derived.RegionTactic
import Derived.Deep.QuietTactic
import Derived.BigQuiet
import Derived.Test.YtcefohjddbjcjaaZBU8G
namespace Go.Proofs.Ytcefohjddbjcjaa
open Go.RowKit
set_option linter.unusedVariables false
theorem clone_none (c : Nat) (w : World) :
    Calls Try.prog 9 #[.slice none 0 c] w fun e w' => e = .returned (.slice none 0 0) ∧ w = w' := by
  have hq := fun W a n c => Lib.run_eql_slice_nil (P := Try.prog) W 23 5 a n c 0 0 Try.underlying23
  go_enter Try.func9, Try.ntmps9
  go_wp2
  go_ret
  exact ⟨rfl, rfl⟩

/-- An answer in new memory that reads as a list. -/
def NewU8 (w : World) (bs : List Nat) (e : Ending) (w' : World) : Prop :=
  ∃ A c, e = .returned (.slice A bs.length c) ∧ bs.length ≤ c ∧ c ≤ maxLen ∧ w'.ownsRow w.heap.size 5 1 (.slice A bs.length c) bs.length (U8 bs) ∧ Below w.heap.size w w'
theorem NewU8.mk {w w' : World} {bs : List Nat} {e : Ending} {v : Value} (he : e = .returned v) (h : w'.ownsRow w.heap.size 5 1 v bs.length (U8 bs)) (hb : Below w.heap.size w w') : NewU8 w bs e w' := by
  obtain ⟨A, c, rfl, h1, h2⟩ := own_form h
  exact ⟨A, c, he, h1, h2, h, hb⟩

set_option maxHeartbeats 400000 in
theorem clone_any (A : Option Addr) (n c B : Nat) (bs : List Nat) (w : World) (h : Rd w B A n (U8 bs)) (hn : n ≤ 140737488355328) :
    Calls Try.prog 9 #[.slice A n c] w (NewU8 w bs) := by
  have hl : bs.length = n := by rw [← h.len, U8_len]
  cases A with
  | none =>
    obtain rfl : n = 0 := by
      rcases Nat.eq_zero_or_pos n with h' | h'
      · exact h'
      · obtain ⟨b, o, e, _⟩ := h.at_ h'
        cases e
    obtain rfl : bs = [] := List.eq_nil_of_length_eq_zero hl
    exact (clone_none c w).mono fun e w' ⟨he, hw⟩ => .mk he (hw ▸ World.ownsRow_nil _ _ _ _) (hw ▸ Below.refl _ _)
  | some ad =>
    obtain ⟨i0, hi0, hz0, hz1, hz2⟩ := info_parts info_u8
    have hq := fun W a n c => Lib.run_eql_slice_nil (P := Try.prog) W 23 5 a n c 0 0 Try.underlying23
    have hown : (w.alloc (.cells #[] 5)).ownsRow w.heap.size 5 1 (.slice (some ⟨w.heap.size, 0, none⟩) 0 0) 0 [] :=
      World.ownsRow_made w #[] 0 (Nat.le_refl _) (by simp [maxLen]) rfl
    have hrd := h.alloc (.cells #[] 5)
    go_enter Try.func9, Try.ntmps9
    go_wp2_with (first
      | (at_builtin; refine wpList_append_rd _ rfl _ _ 23 rfl w.heap.size 5 i0 (.int .u8 0) 1 Try.underlying23 hi0 hz0 hz1 hz2 rfl _ 0 [] rfl hown B (some ad) n c (U8 bs) rfl hrd (U8_one _) ?c1 ?c2 ?c3 ?_))
    case c1 => simp only [maxLen]; omega
    case c2 => omega
    case c3 => simp
    intro A' c' w' _ _ hown' hg hat
    go_wp2
    go_ret
    refine .mk rfl (by simpa [hl] using hown') ?_
    exact ((Below.refl _ _).alloc (Nat.le_refl _) _).trans (Below.appended hown hg (by simp))
theorem conv_bytes (A : Option Addr) (n c B : Nat) (bs : List Nat) (w : World) (h : Rd w B A n (U8 bs)) :
    (convert 23 9 (.slice A n c)).run Try.prog w = .ok (.string (strOfNums (bs.map fun (b : Nat) => (b : Int)))) w := by
  have hl : bs.length = n := by rw [← h.len, U8_len]
  rcases Nat.eq_zero_or_pos n with h0 | h0
  · subst h0
    obtain rfl : bs = [] := List.eq_nil_of_length_eq_zero hl
    rw [run_convert_bytes_string w 23 9 5 _ 0 c Try.underlying23 Try.underlying5 Try.underlying9]
    cases A <;> simp [Conv.bytesToString, loadCells, loadCellsFrom, strOfNums] <;> rfl
  · obtain ⟨b, o, rfl, _, hc⟩ := h.at_ h0
    refine run_convert_bytes_arg (P := Try.prog) w 23 5 Try.underlying23 Try.underlying5 b o n c _ (by simpa using hl) (fun i hi => ?_) 9 Try.underlying9
    rw [hc i (by rw [U8_len]; omega), U8_get]
    simp [List.getD_eq_getElem?_getD, List.getElem?_eq_getElem (show i < bs.length by omega)]

theorem bytes_inj (cs bs : List Nat) (ha : ∀ b ∈ cs, b < 256) (hb : ∀ b ∈ bs, b < 256) :
    ((cs.map fun (b : Nat) => UInt8.ofNat (b : Int).toNat) = bs.map fun (b : Nat) => UInt8.ofNat (b : Int).toNat) ↔ cs = bs := by
  constructor
  · intro h
    induction cs generalizing bs with
    | nil => cases bs with
      | nil => rfl
      | cons b bs => simp at h
    | cons a cs ih => cases bs with
      | nil => simp at h
      | cons b bs =>
        simp only [List.map_cons, List.cons.injEq] at h
        have h1 := congrArg UInt8.toNat h.1
        simp only [Int.toNat_natCast, UInt8.toNat_ofNat'] at h1
        have := ha a (by simp)
        have := hb b (by simp)
        rw [ih bs (fun x hx => ha x (by simp [hx])) (fun x hx => hb x (by simp [hx])) h.2]
        rw [show a = b by omega]
  · rintro rfl; rfl

theorem equal_any (A1 A2 : Option Addr) (n c m d B1 B2 : Nat) (cs bs : List Nat) (w : World) (h1 : Rd w B1 A1 n (U8 cs)) (h2 : Rd w B2 A2 m (U8 bs)) (ha : ∀ b ∈ cs, b < 256) (hb : ∀ b ∈ bs, b < 256) :
    Calls Try.prog 14 #[.slice A1 n c, .slice A2 m d] w fun e w' => e = .returned (.bool (decide (cs = bs))) ∧ w = w' := by
  have k1 := conv_bytes A1 n c B1 cs w h1
  have k2 := conv_bytes A2 m d B2 bs w h2
  go_enter Try.func14, Try.ntmps14
  go_wp2
  go_ret
  refine ⟨congrArg (fun b => Ending.returned (.bool b)) ?_, rfl⟩
  rw [Bool.eq_iff_iff, beq_iff_eq, decide_eq_true_iff, ← bytes_inj cs bs ha hb]
  rw [ByteArray.toList_eq, ByteArray.toList_eq, strOfNums_data, strOfNums_data]
  simp only [List.map_map]
  exact Iff.rfl

theorem equal_same (A1 A2 : Option Addr) (n c m d B1 B2 : Nat) (bs : List Nat) (w : World) (h1 : Rd w B1 A1 n (U8 bs)) (h2 : Rd w B2 A2 m (U8 bs)) (hb : ∀ b ∈ bs, b < 256) :
    Calls Try.prog 14 #[.slice A1 n c, .slice A2 m d] w fun e w' => e = .returned (.bool true) ∧ w = w' :=
  (equal_any A1 A2 n c m d B1 B2 bs bs w h1 h2 hb hb).mono fun e w' ⟨he, hw⟩ => ⟨by simpa using he, hw⟩

theorem fill_next (X : List Nat) (k m : Nat) (hX : X.length = m) (hk : k < m) :
    ((U8 (X.take k ++ List.replicate (m - k) 0)).toArray).setIfInBounds k (.int .u8 ((X.getD k 0 : Nat) : Int)) = (U8 (X.take (k + 1) ++ List.replicate (m - (k + 1)) 0)).toArray := by
  rw [show X.getD k 0 = X[k] by simp [List.getD_eq_getElem?_getD, List.getElem?_eq_getElem (show k < X.length by omega)]]
  apply Array.toList_inj.1
  rw [Array.toList_setIfInBounds]
  show (U8 (X.take k ++ List.replicate (m - k) 0)).set k _ = U8 _
  have e1 : List.replicate (m - k) 0 = 0 :: List.replicate (m - (k + 1)) 0 := by
    rw [show m - k = (m - (k + 1)) + 1 by omega, List.replicate_succ]
  rw [e1, U8_append, ← List.take_append_getElem (by omega : k < X.length), List.append_assoc, U8_append, List.set_append_right _ _ (by rw [U8_len, List.length_take]; omega)]
  have e2 : k - (U8 (X.take k)).length = 0 := by rw [U8_len, List.length_take]; omega
  rw [e2]
  rfl
end Go.Proofs.Ytcefohjddbjcjaa
