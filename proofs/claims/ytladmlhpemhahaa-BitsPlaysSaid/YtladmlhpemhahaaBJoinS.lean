/- Join of itself. -/
import Derived.Test.YtladmlhpemhahaaBJoin
namespace Go.Proofs.Ytladmlhpemhahaa
open Go.RowKit
set_option linter.unusedVariables false

theorem numL_pre {l e : List Nat} (hl : Bin l) (he : Bin e) (i s : Nat) (hs : s ≤ 64) (h : 64 * i + s ≤ l.length) : numL (wd (val (l ++ e)) i) s = (l.drop (64 * i)).take s := by
  rw [numL_wd (hl.append he) i s hs (by rw [List.length_append]; omega), List.drop_append_of_le_length (by omega), List.take_append_of_le_length (by rw [List.length_drop]; omega)]
/-- Row b's first q words begin with the bits of l. -/
def LowL (w : World) (b : Nat) (l : List Nat) (q : Nat) : Prop :=
  ∀ i, i < q → ∃ x : Nat, x < 2 ^ 64 ∧ w.cell? ⟨b, i, none⟩ = some (.int .u64 (x : Int)) ∧ ∀ s, s ≤ 64 → 64 * i + s ≤ l.length → numL x s = (l.drop (64 * i)).take s
theorem LowL.next {w w' : World} {g b q : Nat} {l e f : List Nat} {Ak : Option Addr} (h : LowL w b l q) (hl : Bin l) (he : Bin e) (hf : Bin f) (hgb : g ≠ b) (hbw : b < w.heap.size)
    (hA : Ak = some ⟨b, 0, none⟩ ∨ ∃ b', Ak = some ⟨b', 0, none⟩ ∧ b' ≠ b) (hq : q ≤ ((l ++ e).length + 63) / 64) (hm : Mod (foot g Ak) w w') (ho : OldK w' Ak (val (l ++ e)) (val (l ++ f)) (l ++ e).length) : LowL w' b l q := by
  intro i hi
  rcases hA with rfl | ⟨b', rfl, hne⟩
  · rcases ho b rfl i (by omega) with h1 | h1
    · exact ⟨_, wd_lt _ _, h1, fun s hs h2 => numL_pre hl he i s hs h2⟩
    · exact ⟨_, wd_lt _ _, h1, fun s hs h2 => numL_pre hl hf i s hs h2⟩
  · obtain ⟨x, hx, hc, hp⟩ := h i hi
    refine ⟨x, hx, ?_, hp⟩
    rw [hm.cell hbw (fun hf => ?_) i]
    · exact hc
    · rcases hf with h1 | ⟨b2, h1, h2⟩
      · exact hgb h1.symm
      · have : b' = b2 := (Addr.mk.inj (Option.some.inj h1)).1
        omega
set_option maxHeartbeats 2000000 in
theorem join_self (g : Nat) (l : List Nat) (A : Option Addr) (w : World) (hv : VecAt w g (val l) l.length A) (hm : Bin l) (hlen : l.length + l.length + 64 ≤ 1000000) :
    Calls Try.prog 15 #[.pointer (some ⟨g, 0, none⟩), .pointer (some ⟨g, 0, none⟩)] w (NumPost w g (val (l ++ l)) (l ++ l).length A) := by
  have HV := Lib.hid hv
  obtain ⟨hU, hn, c, hb, ho⟩ := hv
  obtain ⟨n, hnn⟩ : ∃ n, n = l.length := ⟨_, rfl⟩
  rw [← hnn] at hb ho hn hU
  obtain ⟨q, hq⟩ : ∃ q, q = (n + 63) / 64 := ⟨_, rfl⟩
  have HQ := Lib.hid hq
  have hq1 : q ≤ 1000000 := by omega
  rw [← hq] at hb ho
  have s0 : w.cell? ⟨g, 0, none⟩ = some (.slice A q c) := hb.cell 0
  have s1 : w.cell? ⟨g, 1, none⟩ = some (.int .i64 (n : Int)) := hb.cell 1
  have HA : Hid (0 < q → ∃ b, A = some ⟨b, 0, none⟩ ∧ g + 1 ≤ b ∧ b < w.heap.size ∧ LowL w b l q) := fun h0 => by
    obtain ⟨b, e, h1, h2⟩ := own_some ho h0
    subst e
    refine ⟨b, rfl, h1, h2, fun i hi => ⟨wd (val l) i, wd_lt _ _, ?_, fun s hs hsl => numL_wd hm i s hs hsl⟩⟩
    rw [ho.cellAt i (by omega), U64_get _ _ (by rw [words_len]; exact hi), words_get _ _ _ hi]
  have HM := Lib.hid hm
  have HN := Lib.hid hnn
  clear hb ho hq hU hm hnn
  go_enter Try.func15, Try.ntmps15
  go_wp2_with fail
  go_loopw [18] (fun i wr => ∃ (k : Nat) (Ak : Option Addr), k ≤ q ∧ i = .int .i64 (k : Int) ∧ Hid (VecAt wr g (val (l ++ l.take (64 * k))) (l ++ l.take (64 * k)).length Ak) ∧ Hid (Mod (foot g A) w wr) ∧ Hid (Ak = A ∨ ∃ b, Ak = some ⟨b, 0, none⟩ ∧ w.heap.size ≤ b) ∧ Hid (∀ b, A = some ⟨b, 0, none⟩ → LowL wr b l q)) (fun i _ => q - (intOf i).toNat)
  case atStart =>
    refine ⟨0, A, by omega, rfl, by show VecAt _ _ _ _ _; simpa using HV.out, Mod.refl _ _, .inl rfl, fun b hb i hi => ?_⟩
    obtain ⟨b2, e, _, _, h4⟩ := HA.out (by omega)
    rw [hb] at e
    have : b = b2 := (Addr.mk.inj (Option.some.inj e)).1
    subst this
    exact h4 i hi
  case round =>
    obtain ⟨k, Ak, hk, rfl, hvk, hmo, hak, hlo⟩ := hrel
    by_cases hlt : k < q
    · obtain ⟨b, rfl, hgb, hbw, _⟩ := HA.out (by omega)
      obtain ⟨x, hx, t1, hxs⟩ := hlo.out b rfl k hlt
      have h64 : 64 * k < n := by have := HQ.out; omega
      obtain ⟨s, hs, hs1, hs64, hmin⟩ := min_64 n k h64 hn
      have hsl : 64 * k + s ≤ l.length := by have := hs.out; have := HN.out; omega
      have hta : l.take (64 * (k + 1)) = l.take (64 * k) ++ (l.drop (64 * k)).take s := by
        rw [Nat.mul_add, Nat.mul_one, List.take_add]
        congr 1
        by_cases h7 : s = 64
        · rw [h7]
        · have h1 := hs.out
          have h2 := HN.out
          rw [List.take_of_length_le (by rw [List.length_drop]; omega), List.take_of_length_le (by rw [List.length_drop]; omega)]
      have hll : (l ++ l.take (64 * k)).length + 64 ≤ 1000000 := by rw [List.length_append, List.length_take]; omega
      have NM := num_pk g (val (l ++ l.take (64 * k))) (l ++ l.take (64 * k)).length x (s : Int) Ak wr hvk.out hx (by omega) hll
      rw [cnt64_nat hs64, put_numL, hxs s hs64 hsl, List.append_assoc, ← hta, show (l ++ l.take (64 * k)).length + s = (l ++ l.take (64 * (k + 1))).length by rw [hta, List.length_append, List.length_append, List.length_append, List.length_take (i := s), List.length_drop]; omega] at NM
      have NMH := Lib.hid NM
      clear NM hta hll hsl hxs hx
      go_wp2_with fail
      refine NMH.out.mono ?_
      rintro e w2 ⟨rfl, A2, hv2, hm2, ha2, ho2⟩
      have hp : NumPost wr g (val (l ++ l.take (64 * (k + 1)))) (l ++ l.take (64 * (k + 1))).length Ak (.returned (.tuple #[])) w2 := ⟨rfl, A2, hv2, hm2, ha2⟩
      have hnx : LowL w2 b l q := by
        refine LowL.next (hlo.out b rfl) HM.out (HM.out.take _) (HM.out.take _) (by omega) (Nat.lt_of_lt_of_le hbw hmo.out.size) ?_ ?_ hm2 ho2
        · rcases hak.out with h1 | ⟨b', h1, h2⟩
          · exact .inl h1
          · exact .inr ⟨b', h1, by omega⟩
        · have := HQ.out
          have := HN.out
          rw [List.length_append]; omega
      obtain ⟨_, A3, hv3, hm3, ha3⟩ := NumPost.trans hmo.out hak.out hp
      have HNX := Lib.hid hnx
      clear hnx hv2 hm2 ha2 ho2 hp
      go_wp2_with fail
      go_roundw
      case rel =>
        refine ⟨k + 1, A3, by omega, by go_num, hv3, hm3, ha3, fun b2 hb2 => ?_⟩
        have : b = b2 := (Addr.mk.inj (Option.some.inj hb2)).1
        subst this
        exact HNX.out
      case measure => simp [intOf]; omega
    · obtain rfl : k = q := by omega
      have e1 : l.take (64 * k) = l := List.take_of_length_le (by have := HQ.out; have := HN.out; omega)
      rw [e1] at hvk
      go_wp2_with fail
      exact bodyPost_end (results_none rfl _ _ _) rfl ⟨rfl, Ak, hvk.out, hmo.out, hak.out⟩
end Go.Proofs.Ytladmlhpemhahaa
