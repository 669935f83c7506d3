/- The bits that bytes begin with: the program's front. -/
import Derived.Test.YtcefohjddbjcjaaZPkPack
import Derived.Test.YtcefohjddbjcjaaZg5
import Derived.Test.YtcefohjddbjcjaaZBBytes
namespace Go.Proofs.Ytcefohjddbjcjaa
set_option maxRecDepth 20000
open Go.RowKit
set_option linter.unusedVariables false
theorem bytesL_inj {V U n : Nat} (hV : V < 2 ^ n) (hU : U < 2 ^ n) (h : bytesL V n = bytesL U n) : V = U := by
  apply Nat.eq_of_testBit_eq
  intro i
  by_cases hi : i < n
  · have hq : i / 8 < (n + 7) / 8 := by omega
    have h1 := congrArg (fun z => z.getD (i / 8) 0) h
    simp only [bytesL, List.getD_eq_getElem?_getD, List.getElem?_map, List.getElem?_range hq, Option.map_some, Option.getD_some] at h1
    have h2 := congrArg (fun z => z.testBit (i % 8)) h1
    simp only [show (256 : Nat) = 2 ^ 8 by decide, Nat.testBit_mod_two_pow, Nat.testBit_div_two_pow] at h2
    have h3 : i % 8 < 8 := Nat.mod_lt _ (by decide)
    simp only [h3, decide_true, Bool.true_and] at h2
    first
      | rwa [show i % 8 + 8 * (i / 8) = i by omega] at h2
      | (have e : 8 * (i / 8) + i % 8 = i := by omega
         simpa [e] using h2)
  · rw [Nat.testBit_lt_two_pow (Nat.lt_of_lt_of_le hV (Nat.pow_le_pow_right (by decide) (by omega))), Nat.testBit_lt_two_pow (Nat.lt_of_lt_of_le hU (Nat.pow_le_pow_right (by decide) (by omega)))]
/-- Bytes that begin with those of so many bits. -/
def Fronts (bs : List Nat) (N : Nat) (l : List Nat) : Prop := Bin l ∧ l.length = N ∧ ∃ rest, bs = bytesL (val l) N ++ rest
theorem fronts_uniq {bs : List Nat} {N : Nat} {l m : List Nat} (h : Fronts bs N l) (k : Fronts bs N m) : l = m := by
  obtain ⟨h1, h2, r, h3⟩ := h
  obtain ⟨k1, k2, s, k3⟩ := k
  rw [h3] at k3
  have e := List.append_inj_left k3 (by rw [bytesL_len, bytesL_len])
  exact val_inj h1 k1 (by rw [h2, k2]) (bytesL_inj (by rw [← h2]; exact val_lt h1) (by rw [← k2]; exact val_lt k1) e)
theorem fronts_last {N V q : Nat} (hV : V < 2 ^ N) (hr : N % 8 ≠ 0) (hq : q = (N + 7) / 8) : (bytesL V N).getD (q - 1) 0 / 2 ^ (N % 8) = 0 := by
  have hlt : q - 1 < (N + 7) / 8 := by omega
  simp only [bytesL, List.getD_eq_getElem?_getD, List.getElem?_map, List.getElem?_range hlt, Option.map_some, Option.getD_some]
  have h1 : V / 2 ^ (8 * (q - 1)) < 2 ^ (N % 8) := by
    rw [Nat.div_lt_iff_lt_mul (Nat.two_pow_pos _), ← Nat.pow_add]
    rwa [show N % 8 + 8 * (q - 1) = N by omega]
  exact Nat.div_eq_of_lt (Nat.lt_of_le_of_lt (Nat.mod_le _ _) h1)
def FrontPost (w : World) (bs : List Nat) (N : Nat) (e : Ending) (w' : World) : Prop :=
  ((∃ l g A, Fronts bs N l ∧ e = .returned (.tuple #[.pointer (some ⟨g, 0, none⟩), .int .i64 0]) ∧ VecAt w' g (val l) N A) ∨
   ((∀ l, ¬ Fronts bs N l) ∧ e = .returned (.tuple #[.pointer none, .int .i64 3]))) ∧ Below w.heap.size w w'
set_option maxHeartbeats 2000000 in
theorem front_p (A : Option Addr) (n c N : Nat) (bs : List Nat) (w : World) (h : Rd w w.heap.size A n (U8 bs)) (hb : ∀ b ∈ bs, b < 256) (hn : n ≤ 10000) (hnc : n ≤ c) (hc : c ≤ 9223372036854775807) (hN : N < 2 ^ 64) :
    Calls Try.prog 38 #[.slice A n c, .int .u64 (N : Int)] w (FrontPost w bs N) := by
  have hl : bs.length = n := by rw [← h.len, U8_len]
  by_cases hov : 8 * n < N
  · have NO : Hid (∀ l, ¬ Fronts bs N l) := fun l hf => by
      obtain ⟨_, _, r, e⟩ := hf
      have := congrArg List.length e
      rw [List.length_append, bytesL_len, hl] at this
      omega
    have e8 : (n : Int) * 8 = ((8 * n : Nat) : Int) := by omega
    have hov2 : ((8 * n : Nat) : Int) < (N : Int) := by omega
    have hov3 : (n : Int) * 8 < (N : Int) := by omega
    clear h hl hN hov e8
    go_enter Try.func38, Try.ntmps38
    go_wp2_with fail
    go_ret2
    exact ⟨.inr ⟨NO.out, rfl⟩, Below.refl _ _⟩
  · obtain ⟨q, hq⟩ : ∃ q, q = (N + 7) / 8 := ⟨_, rfl⟩
    have hqn : q ≤ n := by omega
    obtain ⟨T, hT⟩ : ∃ T, T = bs.take q := ⟨_, rfl⟩
    have hTl : T.length = q := by rw [hT, List.length_take]; omega
    have hTb : ∀ b ∈ T, b < 256 := fun b hb' => hb b (by rw [hT] at hb'; exact List.mem_of_mem_take hb')
    have RT : Rd w w.heap.size A q (U8 T) := by
      have := h.take q hqn
      rwa [show (U8 bs).take q = U8 T by rw [hT]; simp [U8, List.map_take]] at this
    have IFF := bytes_iff T N hTb (by rw [hTl, hq])
    rw [hTl] at IFF
    have OF : Hid (∀ c', Calls Try.prog 44 #[.slice A q c', .int .i64 (N : Int)] w (FrontPost w bs N)) := fun c' => by
      by_cases hx : N % 8 = 0 ∨ T.getD (q - 1) 0 / 2 ^ (N % 8) = 0
      · refine (bof_ok A q c' N w.heap.size T w RT (Nat.le_refl _) hTb (by omega) hq hx).mono fun e w' ⟨g, A', he, hv, _, hbl⟩ => ?_
        have hfl : (few T N).length = N := by rw [few_len, hTl]; omega
        refine ⟨.inl ⟨few T N, g, A', ⟨few_bin _ _, hfl, bs.drop q, ?_⟩, he, hv⟩, hbl⟩
        rw [IFF.2 hx, hT, List.take_append_drop]
      · refine (bof_form A q c' N (N % 8) w.heap.size T w RT (by omega) hq rfl (fun e => hx (.inl e)) (fun e => hx (.inr e))).mono fun e w' ⟨he, hw⟩ => ⟨.inr ⟨fun l hf => ?_, he⟩, hw ▸ Below.refl _ _⟩
        obtain ⟨h1, h2, r, e2⟩ := hf
        have h3 : T = bytesL (val l) N := by
          rw [hT, e2, List.take_append_of_le_length (by rw [bytesL_len]; omega), List.take_of_length_le (by rw [bytesL_len]; omega)]
        exact hx (.inr (by rw [h3]; exact fronts_last (by rw [← h2]; exact val_lt h1) (fun e => hx (.inl e)) hq))
    have e8 : ¬ (n : Int) * 8 < (N : Int) := by omega
    have hNi : (N : Int) + 8 < 18446744073709551616 := by omega
    have eq1 : ((N : Int) + 8 - 1) / 8 = (q : Int) := by omega
    have eq2 : ((N : Int) + 7) / 8 = (q : Int) := by omega
    have hqc : (q : Int) ≤ (c : Int) := by omega
    have hNb : N ≤ 80000 := by omega
    clear IFF RT hTb hTl hT h hl hN hov hb hq
    go_enter Try.func38, Try.ntmps38
    go_wp2_with fail
    refine (OF.out _).mono ?_
    rintro e w1 hp
    obtain ⟨hor, b1⟩ := hp
    rcases hor with ⟨l, g, A', hf, rfl, hv⟩ | ⟨hno, rfl⟩
    · have HF := Lib.hid hf
      have HV := Lib.hid hv
      clear hf hv OF
      go_wp2_with fail
      go_ret2
      exact ⟨.inl ⟨l, g, A', HF.out, rfl, HV.out⟩, b1⟩
    · have HNO := Lib.hid hno
      clear hno OF
      go_wp2_with fail
      go_ret2
      exact ⟨.inr ⟨HNO.out, rfl⟩, b1⟩
end Go.Proofs.Ytcefohjddbjcjaa
