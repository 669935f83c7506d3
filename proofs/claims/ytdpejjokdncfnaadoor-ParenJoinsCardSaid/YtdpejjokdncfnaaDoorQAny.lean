/- The document's balanced ones. -/
import Derived.Test.YtdpejjokdncfnaaDoorQGood
import Derived.Deep.QuietTactic
import Derived.BigQuiet
namespace Go.Proofs.YtdpejjokdncfnaaDoor
open Go.RowKit
set_option linter.unusedVariables false
set_option maxRecDepth 20000
theorem exc_snoc {l : List Nat} (hb : Bin l) {b : Nat} (h2 : b < 2) : ∀ k, k ≤ l.length → exc (val (l ++ [b])) k = exc (val l) k := by
  have hb' : Bin (l ++ [b]) := hb.append fun x hx => by simp at hx; omega
  intro k
  induction k with
  | zero => intro _; rw [(exc_Exc _).zero, (exc_Exc _).zero]
  | succ k ih =>
    intro hk
    rw [exc_list hb', exc_list hb, ih (by omega), List.getD_eq_getElem?_getD, List.getElem?_append_left (by omega), ← List.getD_eq_getElem?_getD]
theorem exc_snoc1 {l : List Nat} (hb : Bin l) {b : Nat} (h2 : b < 2) : exc (val (l ++ [b])) (l.length + 1) = exc (val l) l.length + (2 * (b : Int) - 1) := by
  have hb' : Bin (l ++ [b]) := hb.append fun x hx => by simp at hx; omega
  rw [exc_list hb', exc_snoc hb h2 _ (Nat.le_refl _), List.getD_eq_getElem?_getD, List.getElem?_append_right (Nat.le_refl _), Nat.sub_self]
  rfl
/-- Balanced so far: o stand open, and as many may still be closed. -/
structure Sofar (l : List Nat) (N o : Nat) : Prop where
  bin : Bin l
  len : l.length = N
  open_ : exc (val l) N = (o : Int)
  up : ∀ k, k ≤ N → 0 ≤ exc (val l) k
theorem Sofar.nil : Sofar [] 0 0 := ⟨Bin.nil, rfl, (exc_Exc _).zero, fun k hk => by obtain rfl : k = 0 := by omega
                                                                                    rw [(exc_Exc _).zero]; exact Int.le_refl _⟩
theorem Sofar.push {l : List Nat} {N o : Nat} (h : Sofar l N o) : Sofar (l ++ [1]) (N + 1) (o + 1) := by
  have e := exc_snoc1 h.bin (b := 1) (by omega)
  rw [h.len, h.open_] at e
  refine ⟨h.bin.append fun x hx => by simp at hx; omega, by rw [List.length_append, h.len]; rfl, by rw [e]; omega, fun k hk => ?_⟩
  by_cases hk1 : k = N + 1
  · rw [hk1, e]; omega
  · rw [exc_snoc h.bin (by omega) k (by rw [h.len]; omega)]; exact h.up k (by omega)
theorem Sofar.pop {l : List Nat} {N o : Nat} (h : Sofar l N (o + 1)) : Sofar (l ++ [0]) (N + 1) o := by
  have e := exc_snoc1 h.bin (b := 0) (by omega)
  rw [h.len, h.open_] at e
  refine ⟨h.bin.append fun x hx => by simp at hx; omega, by rw [List.length_append, h.len]; rfl, by rw [e]; omega, fun k hk => ?_⟩
  by_cases hk1 : k = N + 1
  · rw [hk1, e]; omega
  · rw [exc_snoc h.bin (by omega) k (by rw [h.len]; omega)]; exact h.up k (by omega)
def AnyP (w : World) (N : Nat) (e : Ending) (w' : World) : Prop :=
  ∃ l A c, Bin l ∧ l.length = N ∧ Bal (exc (val l)) N ∧ e = .returned (.slice A N c) ∧ N ≤ c ∧ c ≤ maxLen ∧ w'.ownsRow w.heap.size 3 1 (.slice A N c) N (I64 (ofN l)) ∧ Below w.heap.size w w'
set_option maxHeartbeats 8000000 in
theorem any_p (A0 : Option Addr) (n0 c0 P : Nat) (bs : List Nat) (w : World) (h0 : Rd w w.heap.size A0 n0 (U8 bs)) (hbs : ∀ b ∈ bs, b < 256) (hn0 : n0 ≤ 9223372036854775807) (hP : P ≤ 3000) :
    Calls Tryd.prog 17 #[.int .i64 (P : Int), .slice A0 n0 c0] w (AnyP w (2 * P)) := by
  obtain ⟨i0, hi0, hz0, hz1, hz2⟩ := info_parts info_int
  have H0 := Lib.hid h0
  have HBS := Lib.hid hbs
  clear h0 hbs
  go_enter Tryd.func17, Tryd.ntmps17
  go_wp2_with fail
  go_loopw [5, 6, 7] (fun z o i wr => ∃ (N op c : Nat) (l : List Nat) (A : Option Addr), i = .int .i64 (N : Int) ∧ o = .int .i64 (op : Int) ∧ z = .slice A N c ∧ N ≤ 2 * P ∧ op ≤ 2 * P - N ∧ (2 * P - N - op) % 2 = 0 ∧ Hid (Sofar l N op) ∧ Hid (wr.ownsRow w.heap.size 3 1 (.slice A N c) N (I64 (ofN l))) ∧ Hid (Below w.heap.size w wr)) (fun _ _ i _ => 2 * P - (intOf i).toNat)
  case atStart => exact ⟨0, 0, 0, [], none, rfl, rfl, rfl, by omega, by omega, by omega, Sofar.nil, World.ownsRow_nil _ _ _ _, Below.refl _ _⟩
  case round =>
    obtain ⟨N, op, c, l, A, rfl, rfl, rfl, hN, hop, hpar, hs, hown, hbel⟩ := hrel
    by_cases hlt : N < 2 * P
    · have hltI : (N : Int) < 2 * (P : Int) := by omega
      by_cases hn : 0 < n0
      · obtain ⟨b', o, e, hbw, k1⟩ : ∃ b o, A0 = some ⟨b, o, none⟩ ∧ b < w.heap.size ∧ ∀ k, k < n0 → wr.cell? ⟨b, o + k, none⟩ = some (.int .u8 ((bs.getD k 0 : Nat) : Int)) := by
          obtain ⟨b, o, e, hb, hc⟩ := (H0.out.below hbel.out).at_ hn
          refine ⟨b, o, e, hb, fun k hk => ?_⟩
          have hl : bs.length = n0 := by have := H0.out.len; simpa [U8] using this
          have := hc k (by simp [U8]; omega)
          rw [this]
          simp [U8, List.getD_eq_getElem?_getD, List.getElem?_eq_getElem (show k < bs.length by omega)]
        subst e
        obtain ⟨r, hr, hrn⟩ : ∃ r : Nat, (N : Int).tmod (n0 : Int) = (r : Int) ∧ r < n0 := ⟨N % n0, by rw [Int.tmod_eq_emod_of_nonneg (by omega)]; exact (Int.natCast_emod N n0).symm, Nat.mod_lt _ hn⟩
        obtain ⟨d, hd⟩ : ∃ d : Nat, (N : Int).tdiv (n0 : Int) = (d : Int) ∧ d ≤ 10000 := ⟨N / n0, by rw [Int.tdiv_eq_ediv_of_nonneg (by omega)]; exact (Int.natCast_ediv N n0).symm, by have := Nat.div_le_self N n0; omega⟩
        obtain ⟨f, hf, hf3⟩ : ∃ f : Nat, (d : Int).tmod 3 = (f : Int) ∧ f < 3 := ⟨d % 3, by rw [Int.tmod_eq_emod_of_nonneg (by omega)]; omega, by omega⟩
        have t1 := k1 r hrn
        have hx9 : bs.getD r 0 < 256 := by
          rw [List.getD_eq_getElem?_getD]
          cases hq : bs[r]? with
          | none => simp
          | some v => simp; exact HBS.out v (List.mem_of_getElem? hq)
        generalize bs.getD r 0 = x at *
        obtain ⟨q, hq, hq9⟩ : ∃ q : Nat, (x : Int).tdiv (1 + (f : Int)) = (q : Int) ∧ q < 256 := ⟨x / (1 + f), by rw [Int.tdiv_eq_ediv_of_nonneg (by omega), show (1 : Int) + (f : Int) = ((1 + f : Nat) : Int) by omega]; exact (Int.natCast_ediv x (1 + f)).symm, by have := Nat.div_le_self x (1 + f); omega⟩
        have w1 : IntKind.i64.wrap (r : Int) = (r : Int) := by rw [IntKind.wrap_i64]; omega
        have w2 : IntKind.i64.wrap (d : Int) = (d : Int) := by rw [IntKind.wrap_i64]; omega
        have w3 : IntKind.i64.wrap (f : Int) = (f : Int) := by rw [IntKind.wrap_i64]; omega
        have w4 : IntKind.i64.wrap (1 + (f : Int)) = 1 + (f : Int) := by rw [IntKind.wrap_i64]; omega
        have w5 : IntKind.u8.wrap (1 + (f : Int)) = 1 + (f : Int) := by simp [IntKind.wrap, IntKind.signed, IntKind.bits]; omega
        have w6 : IntKind.u8.wrap (q : Int) = (q : Int) := by simp [IntKind.wrap, IntKind.signed, IntKind.bits]; omega
        have hrI : (r : Int) < (n0 : Int) := by omega
        have hnz : (n0 : Int) ≠ 0 := by omega
        have hfz : (1 : Int) + (f : Int) ≠ 0 := by omega
        have hnzb : ((n0 : Int) == 0) = false := by rw [beq_eq_false_iff_ne]; omega
        have hfzb : ((1 : Int) + (f : Int) == 0) = false := by rw [beq_eq_false_iff_ne]; omega
        have hd1 := hd.1
        clear k1
        go_wp2_with fail
        go_quiet (fail)
        have OX : Hid ((wr.drewN nq).ownsRow w.heap.size 3 1 (.slice A N c) N (I64 (ofN l))) := own_below hown.out (below_draws (Below.refl _ _) nq)
        have BX : Hid (Below w.heap.size w (wr.drewN nq)) := below_draws hbel.out nq
        generalize wr.drewN nq = wx at *
        clear w1 w2 w3 w4 w5 w6 hr hd hd1 hf hq hrI hnz hfz hnzb hfzb t1
        have hleft : 2 * (P : Int) - (N : Int) = ((2 * P - N : Nat) : Int) := by omega
        by_cases h0 : op = 0
        · subst h0
          have hs' := hs
          have bA := (Below.refl wx.heap.size wx).alloc (Nat.le_refl _) (.cells #[.int .i64 1] 3)
          have ownA := own_below OX.out bA
          have rA := Rd.new wx 3 #[.int .i64 1] 1 (I64 [1]) (by simp [I64]) (by simp)
          have e1 : N + 1 ≤ maxLen := by simp only [maxLen]; omega
          have e2 : (N + 1) * 8 ≤ 140737488355328 := by omega
          have e3 : w.heap.size ≤ (wx.alloc (.cells #[.int .i64 1] 3)).heap.size := by have := BX.out.size; simp; omega
          go_wp2_with (first
            | (at_builtin; go_must (refine wpList_append_rd _ rfl _ _ 24 rfl w.heap.size 3 i0 (.int .i64 0) 8 Tryd.underlying24 hi0 hz0 hz1 hz2 rfl (.slice A N c) N (I64 (ofN l)) rfl ownA (wx.heap.size + 1) (some ⟨wx.heap.size, 0, none⟩) 1 1 (I64 [1]) rfl rA (I64_one _) e1 e2 e3 ?_)))
          intro A7 c7 w7 hc7 hm7 hown7 hg7 _
          have O7 : Hid (w7.ownsRow w.heap.size 3 1 (.slice A7 (N + 1) c7) (N + 1) (I64 (ofN (l ++ [1])))) := by
            have := hown7
            rw [← I64_append] at this
            rw [ofN_append]
            exact this
          have B7 : Hid (Below w.heap.size w w7) := (BX.out.trans (bA.mono BX.out.size)).trans (Below.appended ownA hg7 e3)
          have S7 : Hid (Sofar (l ++ [1]) (N + 1) (0 + 1)) := hs.out.push
          clear bA ownA rA e1 e2 e3 hown7 hg7
          go_wp2_with fail
          go_roundw
          case rel => exact ⟨N + 1, 0 + 1, c7, _, A7, by go_num, congrArg (Value.int .i64) (by omega), rfl, by omega, by omega, by omega, S7.out, O7.out, B7.out⟩
          case measure => simp [intOf]; omega
        · have hop0 : ((op : Int) == 0) = false := by rw [beq_eq_false_iff_ne]; omega
          have hop1 : (0 : Int) < (op : Int) := by omega
          by_cases hl : op < 2 * P - N
          · have hlI : (op : Int) < 2 * (P : Int) - (N : Int) := by omega
            have hlb : decide ((op : Int) < 2 * (P : Int) - (N : Int)) = true := decide_eq_true hlI
            by_cases hev : (q : Int) % 2 = 0
            · have hev1 : (((q : Int) % 2) == 0) = true := by rw [hev]; rfl
              have bA := (Below.refl wx.heap.size wx).alloc (Nat.le_refl _) (.cells #[.int .i64 1] 3)
              have ownA := own_below OX.out bA
              have rA := Rd.new wx 3 #[.int .i64 1] 1 (I64 [1]) (by simp [I64]) (by simp)
              have e1 : N + 1 ≤ maxLen := by simp only [maxLen]; omega
              have e2 : (N + 1) * 8 ≤ 140737488355328 := by omega
              have e3 : w.heap.size ≤ (wx.alloc (.cells #[.int .i64 1] 3)).heap.size := by have := BX.out.size; simp; omega
              go_wp2_with (first
                | (at_builtin; go_must (refine wpList_append_rd _ rfl _ _ 24 rfl w.heap.size 3 i0 (.int .i64 0) 8 Tryd.underlying24 hi0 hz0 hz1 hz2 rfl (.slice A N c) N (I64 (ofN l)) rfl ownA (wx.heap.size + 1) (some ⟨wx.heap.size, 0, none⟩) 1 1 (I64 [1]) rfl rA (I64_one _) e1 e2 e3 ?_)))
              intro A7 c7 w7 hc7 hm7 hown7 hg7 _
              have O7 : Hid (w7.ownsRow w.heap.size 3 1 (.slice A7 (N + 1) c7) (N + 1) (I64 (ofN (l ++ [1])))) := by
                have := hown7
                rw [← I64_append] at this
                rw [ofN_append]
                exact this
              have B7 : Hid (Below w.heap.size w w7) := (BX.out.trans (bA.mono BX.out.size)).trans (Below.appended ownA hg7 e3)
              have S7 : Hid (Sofar (l ++ [1]) (N + 1) (op + 1)) := hs.out.push
              clear bA ownA rA e1 e2 e3 hown7 hg7
              go_wp2_with fail
              go_roundw
              case rel => exact ⟨N + 1, op + 1, c7, _, A7, by go_num, congrArg (Value.int .i64) (by omega), rfl, by omega, by omega, by omega, S7.out, O7.out, B7.out⟩
              case measure => simp [intOf]; omega
            · have hod : (q : Int) % 2 = 1 := by omega
              clear hev
              obtain ⟨op', rfl⟩ : ∃ op', op = op' + 1 := ⟨op - 1, by omega⟩
              have bA := (Below.refl wx.heap.size wx).alloc (Nat.le_refl _) (.cells #[.int .i64 0] 3)
              have ownA := own_below OX.out bA
              have rA := Rd.new wx 3 #[.int .i64 0] 1 (I64 [0]) (by simp [I64]) (by simp)
              have e1 : N + 1 ≤ maxLen := by simp only [maxLen]; omega
              have e2 : (N + 1) * 8 ≤ 140737488355328 := by omega
              have e3 : w.heap.size ≤ (wx.alloc (.cells #[.int .i64 0] 3)).heap.size := by have := BX.out.size; simp; omega
              go_wp2_with (first
                | (at_builtin; go_must (refine wpList_append_rd _ rfl _ _ 24 rfl w.heap.size 3 i0 (.int .i64 0) 8 Tryd.underlying24 hi0 hz0 hz1 hz2 rfl (.slice A N c) N (I64 (ofN l)) rfl ownA (wx.heap.size + 1) (some ⟨wx.heap.size, 0, none⟩) 1 1 (I64 [0]) rfl rA (I64_one _) e1 e2 e3 ?_)))
              intro A7 c7 w7 hc7 hm7 hown7 hg7 _
              have O7 : Hid (w7.ownsRow w.heap.size 3 1 (.slice A7 (N + 1) c7) (N + 1) (I64 (ofN (l ++ [0])))) := by
                have := hown7
                rw [← I64_append] at this
                rw [ofN_append]
                exact this
              have B7 : Hid (Below w.heap.size w w7) := (BX.out.trans (bA.mono BX.out.size)).trans (Below.appended ownA hg7 e3)
              have S7 : Hid (Sofar (l ++ [0]) (N + 1) op') := hs.out.pop
              clear bA ownA rA e1 e2 e3 hown7 hg7
              go_wp2_with fail
              go_roundw
              case rel => exact ⟨N + 1, op', c7, _, A7, by go_num, congrArg (Value.int .i64) (by omega), rfl, by omega, by omega, by omega, S7.out, O7.out, B7.out⟩
              case measure => simp [intOf]; omega
          · have hlb : decide ((op : Int) < 2 * (P : Int) - (N : Int)) = false := decide_eq_false (by omega)
            obtain ⟨op', rfl⟩ : ∃ op', op = op' + 1 := ⟨op - 1, by omega⟩
            have bA := (Below.refl wx.heap.size wx).alloc (Nat.le_refl _) (.cells #[.int .i64 0] 3)
            have ownA := own_below OX.out bA
            have rA := Rd.new wx 3 #[.int .i64 0] 1 (I64 [0]) (by simp [I64]) (by simp)
            have e1 : N + 1 ≤ maxLen := by simp only [maxLen]; omega
            have e2 : (N + 1) * 8 ≤ 140737488355328 := by omega
            have e3 : w.heap.size ≤ (wx.alloc (.cells #[.int .i64 0] 3)).heap.size := by have := BX.out.size; simp; omega
            go_wp2_with (first
              | (at_builtin; go_must (refine wpList_append_rd _ rfl _ _ 24 rfl w.heap.size 3 i0 (.int .i64 0) 8 Tryd.underlying24 hi0 hz0 hz1 hz2 rfl (.slice A N c) N (I64 (ofN l)) rfl ownA (wx.heap.size + 1) (some ⟨wx.heap.size, 0, none⟩) 1 1 (I64 [0]) rfl rA (I64_one _) e1 e2 e3 ?_)))
            intro A7 c7 w7 hc7 hm7 hown7 hg7 _
            have O7 : Hid (w7.ownsRow w.heap.size 3 1 (.slice A7 (N + 1) c7) (N + 1) (I64 (ofN (l ++ [0])))) := by
              have := hown7
              rw [← I64_append] at this
              rw [ofN_append]
              exact this
            have B7 : Hid (Below w.heap.size w w7) := (BX.out.trans (bA.mono BX.out.size)).trans (Below.appended ownA hg7 e3)
            have S7 : Hid (Sofar (l ++ [0]) (N + 1) op') := hs.out.pop
            clear bA ownA rA e1 e2 e3 hown7 hg7
            go_wp2_with fail
            go_roundw
            case rel => exact ⟨N + 1, op', c7, _, A7, by go_num, congrArg (Value.int .i64) (by omega), rfl, by omega, by omega, by omega, S7.out, O7.out, B7.out⟩
            case measure => simp [intOf]; omega
      · obtain rfl : n0 = 0 := by omega
        have OX := Lib.hid hown.out
        have BX := Lib.hid hbel.out
        by_cases h0 : op = 0
        · subst h0
          have bA := (Below.refl wr.heap.size wr).alloc (Nat.le_refl _) (.cells #[.int .i64 1] 3)
          have ownA := own_below OX.out bA
          have rA := Rd.new wr 3 #[.int .i64 1] 1 (I64 [1]) (by simp [I64]) (by simp)
          have e1 : N + 1 ≤ maxLen := by simp only [maxLen]; omega
          have e2 : (N + 1) * 8 ≤ 140737488355328 := by omega
          have e3 : w.heap.size ≤ (wr.alloc (.cells #[.int .i64 1] 3)).heap.size := by have := BX.out.size; simp; omega
          go_wp2_with (first
            | (at_builtin; go_must (refine wpList_append_rd _ rfl _ _ 24 rfl w.heap.size 3 i0 (.int .i64 0) 8 Tryd.underlying24 hi0 hz0 hz1 hz2 rfl (.slice A N c) N (I64 (ofN l)) rfl ownA (wr.heap.size + 1) (some ⟨wr.heap.size, 0, none⟩) 1 1 (I64 [1]) rfl rA (I64_one _) e1 e2 e3 ?_)))
          intro A7 c7 w7 hc7 hm7 hown7 hg7 _
          have O7 : Hid (w7.ownsRow w.heap.size 3 1 (.slice A7 (N + 1) c7) (N + 1) (I64 (ofN (l ++ [1])))) := by
            have := hown7
            rw [← I64_append] at this
            rw [ofN_append]
            exact this
          have B7 : Hid (Below w.heap.size w w7) := (BX.out.trans (bA.mono BX.out.size)).trans (Below.appended ownA hg7 e3)
          have S7 : Hid (Sofar (l ++ [1]) (N + 1) (0 + 1)) := hs.out.push
          clear bA ownA rA e1 e2 e3 hown7 hg7
          go_wp2_with fail
          go_roundw
          case rel => exact ⟨N + 1, 0 + 1, c7, _, A7, by go_num, congrArg (Value.int .i64) (by omega), rfl, by omega, by omega, by omega, S7.out, O7.out, B7.out⟩
          case measure => simp [intOf]; omega
        · have hop0 : ((op : Int) == 0) = false := by rw [beq_eq_false_iff_ne]; omega
          have hop1 : (0 : Int) < (op : Int) := by omega
          by_cases hl : op < 2 * P - N
          · have hlI : (op : Int) < 2 * (P : Int) - (N : Int) := by omega
            have hlb : decide ((op : Int) < 2 * (P : Int) - (N : Int)) = true := decide_eq_true hlI
            have bA := (Below.refl wr.heap.size wr).alloc (Nat.le_refl _) (.cells #[.int .i64 1] 3)
            have ownA := own_below OX.out bA
            have rA := Rd.new wr 3 #[.int .i64 1] 1 (I64 [1]) (by simp [I64]) (by simp)
            have e1 : N + 1 ≤ maxLen := by simp only [maxLen]; omega
            have e2 : (N + 1) * 8 ≤ 140737488355328 := by omega
            have e3 : w.heap.size ≤ (wr.alloc (.cells #[.int .i64 1] 3)).heap.size := by have := BX.out.size; simp; omega
            go_wp2_with (first
              | (at_builtin; go_must (refine wpList_append_rd _ rfl _ _ 24 rfl w.heap.size 3 i0 (.int .i64 0) 8 Tryd.underlying24 hi0 hz0 hz1 hz2 rfl (.slice A N c) N (I64 (ofN l)) rfl ownA (wr.heap.size + 1) (some ⟨wr.heap.size, 0, none⟩) 1 1 (I64 [1]) rfl rA (I64_one _) e1 e2 e3 ?_)))
            intro A7 c7 w7 hc7 hm7 hown7 hg7 _
            have O7 : Hid (w7.ownsRow w.heap.size 3 1 (.slice A7 (N + 1) c7) (N + 1) (I64 (ofN (l ++ [1])))) := by
              have := hown7
              rw [← I64_append] at this
              rw [ofN_append]
              exact this
            have B7 : Hid (Below w.heap.size w w7) := (BX.out.trans (bA.mono BX.out.size)).trans (Below.appended ownA hg7 e3)
            have S7 : Hid (Sofar (l ++ [1]) (N + 1) (op + 1)) := hs.out.push
            clear bA ownA rA e1 e2 e3 hown7 hg7
            go_wp2_with fail
            go_roundw
            case rel => exact ⟨N + 1, op + 1, c7, _, A7, by go_num, congrArg (Value.int .i64) (by omega), rfl, by omega, by omega, by omega, S7.out, O7.out, B7.out⟩
            case measure => simp [intOf]; omega
          · have hlb : decide ((op : Int) < 2 * (P : Int) - (N : Int)) = false := decide_eq_false (by omega)
            obtain ⟨op', rfl⟩ : ∃ op', op = op' + 1 := ⟨op - 1, by omega⟩
            have bA := (Below.refl wr.heap.size wr).alloc (Nat.le_refl _) (.cells #[.int .i64 0] 3)
            have ownA := own_below OX.out bA
            have rA := Rd.new wr 3 #[.int .i64 0] 1 (I64 [0]) (by simp [I64]) (by simp)
            have e1 : N + 1 ≤ maxLen := by simp only [maxLen]; omega
            have e2 : (N + 1) * 8 ≤ 140737488355328 := by omega
            have e3 : w.heap.size ≤ (wr.alloc (.cells #[.int .i64 0] 3)).heap.size := by have := BX.out.size; simp; omega
            go_wp2_with (first
              | (at_builtin; go_must (refine wpList_append_rd _ rfl _ _ 24 rfl w.heap.size 3 i0 (.int .i64 0) 8 Tryd.underlying24 hi0 hz0 hz1 hz2 rfl (.slice A N c) N (I64 (ofN l)) rfl ownA (wr.heap.size + 1) (some ⟨wr.heap.size, 0, none⟩) 1 1 (I64 [0]) rfl rA (I64_one _) e1 e2 e3 ?_)))
            intro A7 c7 w7 hc7 hm7 hown7 hg7 _
            have O7 : Hid (w7.ownsRow w.heap.size 3 1 (.slice A7 (N + 1) c7) (N + 1) (I64 (ofN (l ++ [0])))) := by
              have := hown7
              rw [← I64_append] at this
              rw [ofN_append]
              exact this
            have B7 : Hid (Below w.heap.size w w7) := (BX.out.trans (bA.mono BX.out.size)).trans (Below.appended ownA hg7 e3)
            have S7 : Hid (Sofar (l ++ [0]) (N + 1) op') := hs.out.pop
            clear bA ownA rA e1 e2 e3 hown7 hg7
            go_wp2_with fail
            go_roundw
            case rel => exact ⟨N + 1, op', c7, _, A7, by go_num, congrArg (Value.int .i64) (by omega), rfl, by omega, by omega, by omega, S7.out, O7.out, B7.out⟩
            case measure => simp [intOf]; omega
    · obtain rfl : N = 2 * P := by omega
      have hx := hs.out.open_
      have hop0 : op = 0 := by omega
      have BL : Hid (Bal (exc (val l)) (2 * P)) := ⟨hs.out.up, by rw [hx, hop0]; rfl⟩
      have hlb : decide (((2 * P : Nat) : Int) < 2 * (P : Int)) = false := decide_eq_false (by omega)
      clear hx
      go_wp2_with fail
      go_ret
      obtain ⟨A', c', e', h1, h2⟩ := own_form hown.out
      cases e'
      exact ⟨l, A, c, hs.out.bin, hs.out.len, BL.out, rfl, h1, h2, hown.out, hbel.out⟩
end Go.Proofs.YtdpejjokdncfnaaDoor
