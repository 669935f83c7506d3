/- The walk of the statement on the checksum part by part. -/
import Derived.Test.YtaccekfnbofkpaaLaws
import Derived.Test.YtaccekfnbofkpaaRef
namespace Go.Proofs.Ytaccekfnbofkpaa
open Go.RowKit
set_option linter.unusedVariables false

/-- Block g is the sum of the bytes l. -/
def SumAt (w : World) (g : Nat) (l : List Nat) : Prop := Blk w g 45 #[.int .u32 ((crcRaw 4294967295 l : Nat) : Int), .int .i64 ((l.length : Nat) : Int)]
theorem init_lt (l : List Nat) (h : ∀ b ∈ l, b < 256) : crcRaw 4294967295 l < 4294967296 := crcRaw_lt l _ (by omega) h

theorem new_sum (w : World) : Calls Try.prog 8 #[] w fun e w' => e = .returned (.pointer (some ⟨w.heap.size, 0, none⟩)) ∧ SumAt w' w.heap.size [] ∧ Below w.heap.size w w' :=
  (new_any w).mono fun e w' ⟨he, hw⟩ => ⟨he, by rw [← hw]; exact Blk.new w _ _, by rw [← hw]; exact (Below.refl _ _).alloc (Nat.le_refl _) _⟩
theorem value_sum (g : Nat) (l : List Nat) (w : World) (h : SumAt w g l) (hl : ∀ b ∈ l, b < 256) :
    Calls Try.prog 11 #[.pointer (some ⟨g, 0, none⟩)] w fun e w' => e = .returned (.int .u32 ((crcSum l : Nat) : Int)) ∧ w = w' :=
  value_any g _ _ w (init_lt l hl) h
theorem len_sum (g : Nat) (l : List Nat) (w : World) (h : SumAt w g l) :
    Calls Try.prog 14 #[.pointer (some ⟨g, 0, none⟩)] w fun e w' => e = .returned (.int .i64 ((l.length : Nat) : Int)) ∧ w = w' :=
  len_any g _ _ w h
theorem copy_sum (g : Nat) (l : List Nat) (w : World) (h : SumAt w g l) :
    Calls Try.prog 10 #[.pointer (some ⟨g, 0, none⟩)] w fun e w' => e = .returned (.pointer (some ⟨w.heap.size, 0, none⟩)) ∧ SumAt w' w.heap.size l ∧ Below w.heap.size w w' :=
  copy_any g _ _ w h
theorem add_sum (g : Nat) (A : Option Addr) (n c B : Nat) (l bs : List Nat) (w : World) (h : SumAt w g l) (hl : ∀ b ∈ l, b < 256) (hs : Rd w B A n (U8 bs)) (hB : B ≤ w.heap.size) (hbs : ∀ b ∈ bs, b < 256) (hm : l.length + n ≤ 4611686018427387904) :
    Calls Try.prog 12 #[.pointer (some ⟨g, 0, none⟩), .slice A n c] w fun e w' => e = .returned (.tuple #[]) ∧ SumAt w' g (l ++ bs) ∧ Mod (· = g) w w' := by
  have hn : bs.length = n := by rw [← U8_len, hs.len]
  refine (add_any g A n c _ l.length B bs w h hs hB hbs (init_lt l hl) hm).mono fun e w' ⟨he, h2, h3⟩ => ⟨he, ?_, h3⟩
  unfold SumAt
  rw [crcRaw_append, List.length_append, hn]
  exact h2

/-- A slice of slices of bytes. -/
def Rows8 (w : World) (a : Option Addr) (len : Nat) : Prop := ∃ (A : Nat → Option Addr) (L C : Nat → Nat) (Z : Nat → List Nat), (0 < len → ∃ b o, a = some ⟨b, o, none⟩ ∧ b < w.heap.size ∧ ∀ r, r < len → w.cell? ⟨b, o + r, none⟩ = some (.slice (A r) (L r) (C r))) ∧
  ∀ r, r < len → L r ≤ C r ∧ C r ≤ maxLen ∧ Rd w w.heap.size (A r) (L r) (U8 (Z r)) ∧ ∀ b ∈ Z r, b < 256

set_option maxHeartbeats 1000000 in
theorem crcOf_walk (a : Option Addr) (len cap : Nat) (w : World) (h : Rows8 w a len) (hlc : len ≤ cap) (hcm : cap ≤ maxLen) :
    Calls Try.prog 3 #[.slice a len cap] w fun e w' => e = .returned (.bool true) ∧ Below w.heap.size w w' := by
  unfold maxLen at hcm
  obtain ⟨A, L, C, Z, hrow, hrows⟩ := h
  obtain ⟨i0, hi0, hz0, hz1, hz2⟩ := info_parts info_u8
  go_enter Try.func3, Try.ntmps3
  go_wp2_with fail
  refine (awake_any _).mono ?_
  rintro e w1 ⟨rfl, hb1⟩
  go_wp2_with fail
  refine (new_sum _).mono ?_
  rintro e w2 ⟨rfl, hs2, hb2⟩
  go_wp2
  have HROW := Lib.hid hrow
  have HROWS := Lib.hid hrows
  clear hrow hrows
  go_loopw [4, 14] (fun v i wr => ∃ (k : Nat) (l : List Nat), k ≤ len ∧ k ≤ 8 ∧ i = .int .i64 k ∧ l.length ≤ 40 * k ∧ (∀ b ∈ l, b < 256) ∧ SumAt wr w1.heap.size l ∧
    (∃ A' c', v = .slice A' l.length c' ∧ l.length ≤ c' ∧ wr.ownsRow (w1.heap.size + 1) 5 1 (.slice A' l.length c') l.length (U8 l)) ∧ Below w1.heap.size w1 wr) (fun _ i _ => len - (intOf i).toNat)
  case atStart =>
    exact ⟨0, [], by omega, by omega, rfl, by simp, by simp, hs2, ⟨none, 0, rfl, by simp, World.ownsRow_nil _ _ _ _⟩, hb2⟩
  case round =>
    obtain ⟨k, l, hk, hk8, rfl, hll, hlb, hsr, ⟨A', c', rfl, hlc', hown⟩, hblr⟩ := hrel
    have hbwr : Below w.heap.size w wr := hb1.trans (hblr.mono hb1.size)
    by_cases hlt : k < len
    · by_cases h8 : 8 ≤ k
      · obtain rfl : k = 8 := by omega
        obtain ⟨b, o, rfl, hbB, hc⟩ := HROW.out (by omega)
        have hcell : wr.cell? ⟨b, o + 8, none⟩ = some (.slice (A 8) (L 8) (C 8)) := (hbwr.cell (p := ⟨b, o + 8, none⟩) hbB).trans (hc 8 hlt)
        clear hc
        have rall := Rd.ofOwn hown
        go_wp2_with fail
        refine (of_any _ _ _ _ l _ rall (Nat.le_refl _) hlb (by omega)).mono ?_
        rintro e w8 ⟨rfl, hb8⟩
        go_wp2_with fail
        refine (ref_any _ _ _ _ l _ (rall.below hb8) hb8.size hlb (by omega)).mono ?_
        rintro e w9 ⟨rfl, hb9⟩
        go_wp2
        go_ret
        refine ⟨congrArg (fun b => Ending.returned (.bool b)) (by simp), ?_⟩
        exact hbwr.trans ((hb8.trans (hb9.mono hb8.size)).mono hbwr.size)
      · obtain ⟨b, o, rfl, hbB, hc⟩ := HROW.out (by omega)
        have hcell : wr.cell? ⟨b, o + k, none⟩ = some (.slice (A k) (L k) (C k)) := (hbwr.cell (p := ⟨b, o + k, none⟩) hbB).trans (hc k hlt)
        obtain ⟨hLC, hCM, hrd, hzb⟩ := HROWS.out k hlt
        clear hc
        generalize A k = Ak at *
        generalize L k = Lk at *
        generalize C k = Ck at *
        generalize Z k = z at *
        unfold maxLen at hCM
        have hcut : ∀ m ≤ Lk, ∃ cs : List Nat, Hid (cs.length = m) ∧ (∀ b ∈ cs, b < 256) ∧ Rd w w.heap.size Ak m (U8 cs) := fun m hm =>
          ⟨z.take m, by show _ = _; rw [← U8_len, (hrd.cutU8 m hm).len], fun b hb => hzb b (List.mem_of_mem_take hb), hrd.cutU8 m hm⟩
        clear hrd hzb
        go_wp2_with fail
        case' inl => have hh := hcut 40 (by omega)
        case' inr => have hh := hcut Lk (by omega)
        all_goals
          obtain ⟨cs, hcl, hcb, hr⟩ := hh
          have hc40 : cs.length ≤ 40 := by rw [hcl.out]; omega
          have hGlt : w1.heap.size < wr.heap.size := hsr.lt
          refine (clone_any Ak _ _ _ cs _ (hr.below hbwr) (by omega)).mono ?_
          clear hr hcut hcl
          rintro e w3 ⟨A3, k3, rfl, hk3, hm3, hown3, hb3⟩
          have r3 := Rd.ofOwn hown3
          have hs3 := hsr.below hb3
          have hall3 := own_below hown hb3
          go_wp2_with fail
          refine (copy_sum _ _ _ hs3).mono ?_
          rintro e w4 ⟨rfl, hcp4, hb4⟩
          have hs4 : SumAt w4 w1.heap.size l := Blk.below hs3 hb4
          have hall4 := own_below hall3 hb4
          have r4 := r3.below hb4
          have hG34 : w1.heap.size < w3.heap.size := hs3.lt
          go_wp2_with fail
          refine (value_sum _ _ _ hcp4 hlb).mono ?_
          rintro e w4' ⟨rfl, rfl⟩
          go_wp2_with fail
          refine (add_sum _ _ _ _ _ l cs _ hs4 hlb r4 hb4.size hcb (by omega)).mono ?_
          rintro e w5 ⟨rfl, hs5, hm5⟩
          have hcp5 : SumAt w5 w3.heap.size l := Blk.mod hcp4 hm5 (by omega)
          have hall5 := own_mod hall4 hm5 (fun j hj hx => by have := (hall4.lt j hj).1; omega)
          have hz5 := hm5.size
          have hz4 := hb4.size
          have hz3 := hb3.size
          obtain ⟨g3, hA3⟩ : ∃ g3, ∀ a, A3 = some a → a.block = g3 ∧ wr.heap.size ≤ g3 := by
            rcases hown3.2 with ⟨hv, _⟩ | ⟨g, cap, cur, hv, hbg, _⟩
            · simp only [Value.slice.injEq] at hv
              exact ⟨0, fun a ha => by rw [hv.1] at ha; cases ha⟩
            · simp only [Value.slice.injEq] at hv
              refine ⟨g, fun a ha => ?_⟩
              rw [hv.1] at ha
              cases ha
              exact ⟨rfl, hbg⟩
          have r5 : Rd w5 w3.heap.size A3 cs.length (U8 cs) := r4.mod hm5 hz4 (fun _ j ⟨a, ha, hj⟩ hx => by have := hA3 a ha; omega)
          have s1 : l.length + cs.length ≤ maxLen := by simp only [maxLen]; omega
          have s2 : (l.length + cs.length) * 1 ≤ 140737488355328 := by omega
          have s3 : w1.heap.size + 1 ≤ w5.heap.size := by omega
          go_wp2_with (first
            | (at_builtin; go_must (refine wpList_append_rd _ rfl (.tmp 34) (.tmp 35) 26 rfl (w1.heap.size + 1) 5 i0 (.int .u8 0) 1 Try.underlying26 hi0 hz0 hz1 hz2 rfl (.slice A' l.length c') l.length (U8 l) rfl hall5 w3.heap.size A3 cs.length k3 (U8 cs) rfl r5 (U8_one _) s1 s2 s3 ?_)))
          intro A6 c6 w6 hc6 hm6 hown6 hg6 _
          have hlb6 : ∀ b ∈ l ++ cs, b < 256 := fun b hb => by
            rcases List.mem_append.1 hb with h | h
            · exact hlb b h
            · exact hcb b h
          have hmod6 := Mod.ofGrown hg6
          have hs6 : SumAt w6 w1.heap.size (l ++ cs) := Blk.mod hs5 hmod6 (fun hx => by have := (hall5.lt _ hx.symm).1; omega)
          have hcp6 : SumAt w6 w3.heap.size l := Blk.mod hcp5 hmod6 (fun hx => own_ne hall5 hcp5 (by decide) hx.symm)
          have hz6 := hg6.size
          have hlen6 : (l ++ cs).length = l.length + cs.length := List.length_append
          rw [← U8_append] at hown6
          go_wp2_with fail
          refine (value_sum _ _ _ hcp6 hlb).mono ?_
          rintro e w6' ⟨rfl, rfl⟩
          go_wp2_with fail
          refine (value_sum _ _ _ hs6 hlb6).mono ?_
          rintro e w6' ⟨rfl, rfl⟩
          go_wp2_with fail
          refine (ref_any _ _ _ _ (l ++ cs) _ (Rd.ofOwn hown6) (Nat.le_refl _) hlb6 (by omega)).mono ?_
          rintro e w7 ⟨rfl, hb7⟩
          have hs7 : SumAt w7 w1.heap.size (l ++ cs) := Blk.below hs6 hb7
          have hcp7 : SumAt w7 w3.heap.size l := Blk.below hcp6 hb7
          have hown7 := own_below hown6 hb7
          have r6 : Rd w6 w3.heap.size A3 cs.length (U8 cs) := r5.mod hmod6 (by omega) (fun _ j ⟨a, ha, hj⟩ hx => by
            have h1 := hA3 a ha
            have h2 := (hown.lt j hx.symm).2
            omega)
          have r7 := r6.below (hb7.mono (by omega))
          have hz7 := hb7.size
          go_wp2_with fail
          refine (len_sum _ _ _ hs7).mono ?_
          rintro e w7' ⟨rfl, rfl⟩
          rw [hlen6]
          go_wp2_with fail
          refine (add_sum _ _ _ _ _ l cs _ hcp7 hlb r7 (by omega) hcb (by omega)).mono ?_
          rintro e w8 ⟨rfl, hcp8, hm8⟩
          have hs8 : SumAt w8 w1.heap.size (l ++ cs) := Blk.mod hs7 hm8 (by omega)
          have hown8 := own_mod hown7 hm8 (fun j hj hx => own_ne hown7 hcp7 (by decide) (by rw [hj, hx]))
          go_wp2_with fail
          refine (value_sum _ _ _ hcp8 hlb6).mono ?_
          rintro e w8' ⟨rfl, rfl⟩
          go_wp2_with fail
          refine (value_sum _ _ _ hs8 hlb6).mono ?_
          rintro e w8' ⟨rfl, rfl⟩
          go_wp2_with fail
          refine (len_sum _ _ _ hcp8).mono ?_
          rintro e w8' ⟨rfl, rfl⟩
          go_wp2_with fail
          refine (len_sum _ _ _ hs8).mono ?_
          rintro e w8' ⟨rfl, rfl⟩
          have hblF : Below w1.heap.size w1 w8 := by
            have e1 : Below w1.heap.size w1 w4 := (hblr.trans (hb3.mono (by omega))).trans (hb4.mono (by omega))
            have e2 : Below w1.heap.size w4 w5 := hm5.belowB (by omega) (fun i hi hx => by omega)
            have e3 : Below w1.heap.size w5 w6 := (Below.appended hall5 hg6 (by omega)).mono (by omega)
            have e4 : Below w1.heap.size w7 w8 := hm8.belowB (by omega) (fun i hi hx => by omega)
            exact (((e1.trans e2).trans e3).trans (hb7.mono (by omega))).trans e4
          go_wp2
          go_roundw
          case rel =>
            refine ⟨k + 1, l ++ cs, by omega, by omega, by go_num, by rw [hlen6]; omega, hlb6, hs8, ⟨A6, c6, by rw [hlen6], by rw [hlen6]; exact hc6, ?_⟩, hblF⟩
            rw [hlen6]
            exact hown8
          case measure => simp [intOf]; omega
    · obtain rfl : k = len := by omega
      have rall := Rd.ofOwn hown
      · go_wp2_with fail
        refine (of_any _ _ _ _ l _ rall (Nat.le_refl _) hlb (by omega)).mono ?_
        rintro e w8 ⟨rfl, hb8⟩
        go_wp2_with fail
        refine (ref_any _ _ _ _ l _ (rall.below hb8) hb8.size hlb (by omega)).mono ?_
        rintro e w9 ⟨rfl, hb9⟩
        go_wp2
        go_ret
        refine ⟨congrArg (fun b => Ending.returned (.bool b)) (by simp), ?_⟩
        exact hbwr.trans ((hb8.trans (hb9.mono hb8.size)).mono hbwr.size)

/-- The rows of bytes as the frame of a law tells of them. -/
theorem rows_u8 {w : World} {a : Option Addr} {len cap : Nat}
    (h : (a = none ∧ len = 0 ∧ cap = 0) ∨
      ∃ (x : Addr) (RA : Nat → Option Addr) (RL RC : Nat → Nat) (RZ : Nat → List Int), a = some x ∧ len ≤ cap ∧ cap ≤ maxLen ∧ ∀ r, r < cap → w.cell? (x.add r) = some (.slice (RA r) (RL r) (RC r)) ∧ RL r ≤ RC r ∧ RC r ≤ maxLen ∧ (RZ r).length = RC r ∧
        (∀ n ∈ RZ r, (Lit.int .u8 n).wf = true) ∧ (RA r = none → RC r = 0) ∧ ∀ a', RA r = some a' → ∀ c, c < RC r → w.cell? (a'.add c) = some (.int .u8 ((RZ r).getD c 0))) :
    len ≤ cap ∧ cap ≤ maxLen ∧ Rows8 w a len := by
  rcases h with ⟨rfl, rfl, rfl⟩ | ⟨x, RA, RL, RC, RZ, rfl, hl, hm, hrow⟩
  · exact ⟨Nat.le_refl _, Nat.zero_le _, fun _ => none, fun _ => 0, fun _ => 0, fun _ => [], fun h => absurd h (by omega), fun r hr => absurd hr (by omega)⟩
  · refine ⟨hl, hm, RA, RL, RC, fun r => ((RZ r).take (RL r)).map Int.toNat, fun h0 => ?_, fun r hr => ?_⟩
    · obtain ⟨b, o, sp⟩ := x
      obtain rfl : sp = none := by simpa [Addr.add] using World.cell?_spot (hrow 0 (by omega)).1
      refine ⟨b, o, rfl, World.block_lt_of_cell? _ _ (hrow 0 (by omega)).1, fun r hr => ?_⟩
      have e : (⟨b, o, none⟩ : Addr).add r = ⟨b, o + r, none⟩ := by unfold Addr.add; split <;> simp_all
      rw [← e]
      exact (hrow r (by omega)).1
    · obtain ⟨_, r2, r3, r4, r5, r6, r7⟩ := hrow r (by omega)
      have hb : ∀ n ∈ RZ r, 0 ≤ n ∧ n < 256 := fun n hn => by
        have := r5 n hn
        simp [Lit.wf, IntKind.min, IntKind.max, IntKind.bits, IntKind.signed] at this
        omega
      refine ⟨r2, r3, ⟨by simp [U8]; omega, fun h0 => ?_⟩, fun b hb' => ?_⟩
      · cases hA : RA r with
        | none => have := r6 hA; omega
        | some a' =>
          have hc := r7 a' hA
          obtain ⟨b, o, sp⟩ := a'
          obtain rfl : sp = none := by simpa [Addr.add] using World.cell?_spot (hc 0 (by omega))
          refine ⟨b, o, rfl, World.block_lt_of_cell? _ _ (hc 0 (by omega)), fun j hj => ?_⟩
          have hj' : j < RL r := by simp [U8] at hj; omega
          have := hc j (by omega)
          rw [U8_get]
          have e : (⟨b, o, none⟩ : Addr).add j = ⟨b, o + j, none⟩ := by unfold Addr.add; split <;> simp_all
          rw [e] at this
          rw [this]
          have hjz : j < (RZ r).length := by omega
          have := hb (RZ r)[j] (List.getElem_mem _)
          simp [List.getD_eq_getElem?_getD, List.getElem?_eq_getElem hjz]
          omega
      · simp only [List.mem_map] at hb'
        obtain ⟨n, hn, rfl⟩ := hb'
        have := hb n (List.mem_of_mem_take hn)
        omega
end Go.Proofs.Ytaccekfnbofkpaa
