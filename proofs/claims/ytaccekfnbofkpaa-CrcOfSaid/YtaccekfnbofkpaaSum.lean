/- The checksum's own calls: what each answers and what it turns. -/
import Derived.Test.YtaccekfnbofkpaaStep
import Derived.Test.YtaccekfnbofkpaaBase
namespace Go.Proofs.Ytaccekfnbofkpaa
open Go.RowKit

def U8 (l : List Nat) : List Value := l.map fun (b : Nat) => Value.int .u8 (b : Int)
theorem U8_len (l : List Nat) : (U8 l).length = l.length := by simp [U8]
theorem U8_get (l : List Nat) (j : Nat) (h : j < (U8 l).length) : (U8 l)[j] = .int .u8 ((l[j]'(by simpa [U8] using h) : Nat) : Int) := by simp [U8]

/-- A slice of bytes that came in, as the shell of a law tells of it. -/
theorem row_u8 {w : World} {a : Option Addr} {len cap : Nat} {zs : List Int}
    (h : (a = none ∧ len = 0 ∧ cap = 0 ∧ zs = []) ∨
      ∃ x, a = some x ∧ len ≤ cap ∧ cap ≤ maxLen ∧ zs.length = cap ∧ (∀ i, i < zs.length → w.cell? (x.add i) = some (.int .u8 (zs.getD i 0))) ∧ ∀ n ∈ zs, (Lit.int .u8 n).wf = true) :
    len ≤ cap ∧ cap ≤ maxLen ∧ ∃ bs : List Nat, Rd w w.heap.size a len (U8 bs) ∧ ∀ b ∈ bs, b < 256 := by
  rcases h with ⟨rfl, rfl, rfl, rfl⟩ | ⟨x, rfl, hl, hm, hz, hc, hw⟩
  · exact ⟨Nat.le_refl _, Nat.zero_le _, [], Rd.nil _ _ _, by simp⟩
  · have hb : ∀ n ∈ zs, 0 ≤ n ∧ n < 256 := fun n hn => by
      have := hw n hn
      simp [Lit.wf, IntKind.min, IntKind.max, IntKind.bits, IntKind.signed] at this
      omega
    refine ⟨hl, hm, (zs.take len).map Int.toNat, ⟨by simp [U8]; omega, fun h0 => ?_⟩, ?_⟩
    · obtain ⟨b, o, sp⟩ := x
      obtain rfl : sp = none := by simpa [Addr.add] using World.cell?_spot (hc 0 (by omega))
      refine ⟨b, o, rfl, World.block_lt_of_cell? _ _ (hc 0 (by omega)), fun j hj => ?_⟩
      have hj' : j < len := by simp [U8] at hj; omega
      have := hc j (by omega)
      rw [U8_get]
      have e : (⟨b, o, none⟩ : Addr).add j = ⟨b, o + j, none⟩ := by unfold Addr.add; split <;> simp_all
      rw [e] at this
      rw [this]
      have hjz : j < zs.length := by omega
      have := hb zs[j] (List.getElem_mem _)
      simp [List.getD_eq_getElem?_getD, List.getElem?_eq_getElem hjz]
      omega
    · intro b hb'
      simp only [List.mem_map] at hb'
      obtain ⟨n, hn, rfl⟩ := hb'
      have := hb n (List.mem_of_mem_take hn)
      omega
theorem wf_u32 {x : Int} (h : (Lit.int .u32 x).wf = true) : ∃ n : Nat, x = (n : Int) ∧ n < 4294967296 := by
  simp [Lit.wf, IntKind.min, IntKind.max, IntKind.bits, IntKind.signed] at h
  exact ⟨x.toNat, by omega, by omega⟩
theorem wf_u16 {x : Int} (h : (Lit.int .u16 x).wf = true) : ∃ n : Nat, x = (n : Int) ∧ n < 65536 := by
  simp [Lit.wf, IntKind.min, IntKind.max, IntKind.bits, IntKind.signed] at h
  exact ⟨x.toNat, by omega, by omega⟩

theorem new_any (w : World) :
    Calls Try.prog 8 #[] w fun e w' => e = .returned (.pointer (some ⟨w.heap.size, 0, none⟩)) ∧ w.alloc (.cells #[.int .u32 4294967295, .int .i64 0] 45) = w' := by
  go_enter Try.func8, Try.ntmps8
  go_wp2
  go_ret
  exact ⟨rfl, rfl⟩

theorem value_any (g : Nat) (r : Nat) (m : Int) (w : World) (hr : r < 4294967296) (hb : Blk w g 45 #[.int .u32 (r : Int), .int .i64 m]) :
    Calls Try.prog 11 #[.pointer (some ⟨g, 0, none⟩)] w fun e w' => e = .returned (.int .u32 ((4294967295 - r : Nat) : Int)) ∧ w = w' := by
  have h0 : w.cell? ⟨g, 0, none⟩ = some (.int .u32 r) := hb.cell 0
  have HN := Lib.hid (not_go r hr)
  go_enter Try.func11, Try.ntmps11
  go_wp2
  go_ret
  exact ⟨by rw [← HN.out]; rfl, rfl⟩
theorem value_nil (w : World) :
    Calls Try.prog 11 #[.pointer none] w fun e w' => e = .returned (.int .u32 0) ∧ w = w' := by
  go_enter Try.func11, Try.ntmps11
  go_wp2
  go_ret
  exact ⟨rfl, rfl⟩
theorem len_any (g : Nat) (r m : Int) (w : World) (hb : Blk w g 45 #[.int .u32 r, .int .i64 m]) :
    Calls Try.prog 14 #[.pointer (some ⟨g, 0, none⟩)] w fun e w' => e = .returned (.int .i64 m) ∧ w = w' := by
  have h0 : w.cell? ⟨g, 1, none⟩ = some (.int .i64 m) := hb.cell 1
  go_enter Try.func14, Try.ntmps14
  go_wp2
  go_ret
  exact ⟨rfl, rfl⟩
theorem len_nil (w : World) :
    Calls Try.prog 14 #[.pointer none] w fun e w' => e = .returned (.int .i64 0) ∧ w = w' := by
  go_enter Try.func14, Try.ntmps14
  go_wp2
  go_ret
  exact ⟨rfl, rfl⟩
theorem copy_nil (w : World) :
    Calls Try.prog 10 #[.pointer none] w fun e w' => e = .returned (.pointer none) ∧ w = w' := by
  go_enter Try.func10, Try.ntmps10
  go_wp2
  go_ret
  exact ⟨rfl, rfl⟩
theorem add_nil (A : Option Addr) (n c : Nat) (w : World) :
    Calls Try.prog 12 #[.pointer none, .slice A n c] w fun e w' => e = .returned (.tuple #[]) ∧ w = w' := by
  go_enter Try.func12, Try.ntmps12
  go_wp2
  exact bodyPost_ret (results_none rfl _ _ _) rfl ⟨rfl, rfl⟩

theorem xor_byte (x b : Nat) (hx : x < 4294967296) (hb : b < 256) : bits .xor .u32 (x : Int) (b : Int) = ((x ^^^ b : Nat) : Int) := u32_xor_nat x b hx (by omega)

set_option maxHeartbeats 400000 in
theorem add_any (g : Nat) (A : Option Addr) (n c r m B : Nat) (bs : List Nat) (w : World) (hb : Blk w g 45 #[.int .u32 (r : Int), .int .i64 (m : Int)])
    (hs : Rd w B A n (U8 bs)) (hB : B ≤ w.heap.size) (hbs : ∀ b ∈ bs, b < 256) (hr : r < 4294967296) (hm : m + n ≤ 4611686018427387904) :
    Calls Try.prog 12 #[.pointer (some ⟨g, 0, none⟩), .slice A n c] w fun e w' => e = .returned (.tuple #[]) ∧
      Blk w' g 45 #[.int .u32 (crcRaw r bs : Nat), .int .i64 ((m + n : Nat) : Int)] ∧ Mod (· = g) w w' := by
  have hlen : bs.length = n := by rw [← hs.len, U8_len]
  go_enter Try.func12, Try.ntmps12
  go_wp2
  go_loopw [10] (fun i wr => ∃ k : Nat, k ≤ n ∧ i = .int .i64 k ∧ Blk wr g 45 #[.int .u32 (crcRaw r (bs.take k) : Nat), .int .i64 (m : Int)] ∧ Mod (· = g) w wr) (fun i _ => n - (intOf i).toNat)
  case atStart => exact ⟨0, by omega, rfl, hb, Mod.refl _ _⟩
  case round =>
    obtain ⟨k, hk, rfl, hbk, hmk⟩ := hrel
    have h0 : wr.cell? ⟨g, 0, none⟩ = some (.int .u32 (crcRaw r (bs.take k) : Nat)) := hbk.cell 0
    have h1 : wr.cell? ⟨g, 1, none⟩ = some (.int .i64 (m : Int)) := hbk.cell 1
    have f0 : wr.frozen? ⟨g, 0, none⟩ = false := hbk.frozen 0
    have f1 : wr.frozen? ⟨g, 1, none⟩ = false := hbk.frozen 1
    have hlt' : crcRaw r (bs.take k) < 4294967296 := crcRaw_lt _ _ hr (fun b hb => hbs b (List.mem_of_mem_take hb))
    by_cases hlt : k < n
    · obtain ⟨b, o, rfl, hbB, hc⟩ := hs.at_ (by omega)
      have hkb : k < bs.length := by omega
      have hck := hc k (by rw [U8_len]; omega)
      rw [U8_get] at hck
      have hne : b ≠ g := by
        rintro rfl
        rw [hb.cell] at hck
        generalize o + k = j at hck
        rcases j with _ | _ | j <;> simp at hck
      have hck' : wr.cell? ⟨b, o + k, none⟩ = some (.int .u8 ((bs[k] : Nat) : Int)) := (hmk.cell (by omega) hne _).trans hck
      have hbk256 : bs[k] < 256 := hbs _ (List.getElem_mem _)
      have hnext : crcRaw r (bs.take (k + 1)) = msteps 8 (crcRaw r (bs.take k) ^^^ bs[k]) := by
        rw [← List.take_append_getElem hkb, crcRaw_snoc]; rfl
      have HX := Lib.hid (xor_byte _ _ hlt' hbk256)
      have HN := Lib.hid hnext
      have hxl : crcRaw r (bs.take k) ^^^ bs[k] < 4294967296 := Nat.xor_lt_two_pow (n := 32) hlt' (by omega)
      clear hc hck hnext
      generalize hy : bs[k] = y at *
      generalize hx : crcRaw r (bs.take k) = x at *
      have HY := Lib.hid hy
      have HXX := Lib.hid hx
      clear hy hx hlen
      go_wp2_with fail
      rw [HX.out]
      refine (step_any _ _ hxl).mono ?_
      rintro e w1 ⟨rfl, rfl⟩
      go_wp2
      go_roundw
      case rel =>
        refine ⟨k + 1, by omega, by go_num, ?_, hmk.setCell (fun _ => rfl) _⟩
        rw [HN.out]
        exact hbk.set_ 0 _
      case measure => simp [intOf]; omega
    · obtain rfl : k = n := by omega
      rw [List.take_of_length_le (by omega)] at hbk hlt' h0
      go_wp2
      go_end0
      refine ⟨rfl, ?_, hmk.setCell (fun _ => rfl) _⟩
      exact hbk.set_ 1 _
end Go.Proofs.Ytaccekfnbofkpaa
