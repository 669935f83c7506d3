/- The document's checksum, bit by bit, is the register's. -/
import Derived.Test.YtaccekfnbofkpaaBytes
import Derived.Deep.DeepMust
namespace Go.Proofs.Ytaccekfnbofkpaa
open Go.RowKit
set_option linter.unusedVariables false

def BR (f : Nat → Bool) : Array Value := ((List.range 32).map fun i => Value.bool (f i)).toArray
theorem BR_get (f : Nat → Bool) (i : Nat) (h : i < 32) : (BR f)[i]? = some (.bool (f i)) := by
  simp [BR, h]
theorem BR_set (f : Nat → Bool) (i : Nat) (b : Bool) : (BR f).setIfInBounds i (.bool b) = BR (fun k => if k = i then b else f k) := by
  apply Array.ext_getElem?
  intro k
  rw [Array.getElem?_setIfInBounds]
  simp only [BR, List.getElem?_toArray, List.getElem?_map, List.size_toArray, List.length_map, List.length_range]
  by_cases hk : k < 32
  · rw [List.getElem?_range hk]
    by_cases e : i = k
    · subst e; simp [hk]
    · simp [e, Ne.symm e]
  · rw [List.getElem?_eq_none (by simpa using hk)]
    split <;> simp_all
theorem BR_ext {f g : Nat → Bool} (h : ∀ i, i < 32 → f i = g i) : BR f = BR g := by
  unfold BR
  congr 1
  apply List.map_congr_left
  intro i hi
  rw [h i (by simpa using hi)]

theorem and_bit (r b : Nat) (hb : b < 256) (i : Nat) : (if i < 8 then (r.testBit i != b.testBit i) else r.testBit i) = (r ^^^ b).testBit i := by
  rw [Nat.testBit_xor]
  by_cases h : i < 8
  · rw [if_pos h]
  · rw [if_neg h]
    have : b.testBit i = false := Nat.testBit_lt_two_pow (Nat.lt_of_lt_of_le hb (by
      have : 2 ^ 8 ≤ 2 ^ i := Nat.pow_le_pow_right (by omega) (by omega)
      simpa using this))
    simp [this]
theorem half_bit (r : Nat) (hr : r < 4294967296) (i : Nat) (hi : i < 32) : (if i = 31 then false else if i < 31 then r.testBit (i + 1) else r.testBit i) = (r / 2).testBit i := by
  rw [Nat.testBit_succ]
  by_cases h : i = 31
  · subst h
    rw [if_pos rfl]
    exact (Nat.testBit_lt_two_pow (by omega)).symm
  · rw [if_neg h, if_pos (by omega)]
theorem poly_bit (r : Nat) (hr : r < 4294967296) (i : Nat) (hi : i < 32) : ((r / 2).testBit i != (r.testBit 0 && (3988292384 : Nat).testBit i)) = (mstep r).testBit i := by
  unfold mstep
  rw [Nat.testBit_xor, Nat.testBit_zero]
  by_cases h : r % 2 = 1
  · simp [h]
  · simp [h]
theorem bit_mod (x i : Nat) : (x / 2 ^ i % 2 = 1) ↔ x.testBit i = true := by
  rw [Nat.testBit_eq_decide_div_mod_eq]; simp

theorem comp_next (F q : Nat) (hF : F < 4294967296) (hq : q < 32) :
    (4294967295 - F) / 2 ^ q = (4294967295 - F) / 2 ^ (q + 1) * 2 + (if F.testBit q then 0 else 1) := by
  have h1 : (4294967295 - F).testBit q = !F.testBit q := by
    rw [show 4294967295 - F = 2 ^ 32 - (F + 1) by omega, Nat.testBit_two_pow_sub_succ (by omega)]
    simp [hq]
  have h2 := bit_mod (4294967295 - F) q
  rw [h1] at h2
  rw [Nat.pow_succ, ← Nat.div_div_eq_div_mul]
  generalize (4294967295 - F) / 2 ^ q = V at *
  cases hb : F.testBit q
  · rw [hb] at h2
    have := h2.2 rfl
    simp; omega
  · rw [hb] at h2
    have : ¬ V % 2 = 1 := fun h => by have := h2.1 h; simp at this
    simp; omega

set_option maxHeartbeats 1000000 in
set_option maxRecDepth 100000 in
theorem ref_any (A : Option Addr) (n c B : Nat) (bs : List Nat) (w : World) (h : Rd w B A n (U8 bs)) (hB : B ≤ w.heap.size) (hbs : ∀ b ∈ bs, b < 256) (hn : n ≤ 4611686018427387904) :
    Calls Try.prog 13 #[.slice A n c] w fun e w' => e = .returned (.int .u32 (crcSum bs : Nat)) ∧ Below w.heap.size w w' := by
  have hl : bs.length = n := by rw [← h.len, U8_len]
  have hfull : BR (fun j => decide (j < 32)) = BR (fun j => (4294967295 : Nat).testBit j) := BR_ext fun i hi => by
    rw [show (4294967295 : Nat) = 2 ^ 32 - 1 from rfl, Nat.testBit_two_pow_sub_one]
  have HF := Lib.hid hfull
  clear hfull
  go_enter Try.func13, Try.ntmps13
  go_wp2
  go_loopw [15] (fun i wr => ∃ k : Nat, k ≤ 32 ∧ i = .int .i64 k ∧ Blk wr w.heap.size 47 (BR fun j => decide (j < k)) ∧ Below w.heap.size w wr) (fun i _ => 32 - (intOf i).toNat)
  case atStart => exact ⟨0, by omega, rfl, Blk.new w _ _, (Below.refl _ _).alloc (Nat.le_refl _) _⟩
  case round =>
    obtain ⟨k, hk, rfl, hbk, hbl⟩ := hrel
    by_cases hlt : k < 32
    · have c0 : wr.cell? ⟨w.heap.size, k, none⟩ = some (.bool (decide (k < k))) := (hbk.cell k).trans (BR_get _ k hlt)
      have f0 : wr.frozen? ⟨w.heap.size, k, none⟩ = false := hbk.frozen k
      go_wp2
      go_roundw
      case rel =>
        refine ⟨k + 1, by omega, by go_num, ?_, hbl.setCell (Nat.le_refl _) _⟩
        have := hbk.set_ k (.bool true)
        rw [BR_set] at this
        rw [show (fun j => decide (j < k + 1)) = (fun j => if j = k then true else decide (j < k)) from funext fun j => by
          by_cases e : j = k
          · subst e; simp
          · simp [e]; omega]
        exact this
      case measure => simp [intOf]; omega
    · obtain rfl : k = 32 := by omega
      rw [HF.out] at hbk
      obtain ⟨wo, rfl⟩ : ∃ wo : World, wo = wr := ⟨_, rfl⟩
      go_wp2
      go_loopw [23] (fun i wr => ∃ k : Nat, k ≤ n ∧ i = .int .i64 k ∧ Blk wr w.heap.size 47 (BR fun j => (crcRaw 4294967295 (bs.take k)).testBit j) ∧ Below w.heap.size w wr) (fun i _ => n - (intOf i).toNat)
      case atStart => exact ⟨0, by omega, rfl, hbk, hbl⟩
      case round =>
        clear hbk hbl hlt hk
        obtain ⟨k, hk, rfl, hbk, hbl⟩ := hrel
        by_cases hlt : k < n
        · obtain ⟨b, o, rfl, hbB, hc⟩ := h.at_ (by omega)
          have hkb : k < bs.length := by omega
          have hck := hc k (by rw [U8_len]; omega)
          rw [U8_get] at hck
          have hck' : wr.cell? ⟨b, o + k, none⟩ = some (.int .u8 ((bs[k] : Nat) : Int)) := (hbl.cell (p := ⟨b, o + k, none⟩) (show b < w.heap.size by omega)).trans hck
          have hb256 : bs[k] < 256 := hbs _ (List.getElem_mem _)
          have hr : crcRaw 4294967295 (bs.take k) < 4294967296 := crcRaw_lt _ _ (by omega) (fun b hb => hbs b (List.mem_of_mem_take hb))
          have hnext : crcRaw 4294967295 (bs.take (k + 1)) = msteps 8 (crcRaw 4294967295 (bs.take k) ^^^ bs[k]) := by
            rw [← List.take_append_getElem hkb, crcRaw_snoc]; rfl
          generalize hy : bs[k] = y at *
          generalize hx : crcRaw 4294967295 (bs.take k) = r at *
          have HN := Lib.hid hnext
          clear hnext hc hck hx hy
          obtain ⟨wo2, rfl⟩ : ∃ wo : World, wo = wr := ⟨_, rfl⟩
          go_wp2
          go_loopw [6, 7] (fun v j wr => ∃ q z : Nat, q ≤ 8 ∧ j = .int .i64 q ∧ z = y / 2 ^ q ∧ v = .int .u8 (z : Int) ∧ Blk wr w.heap.size 47 (BR fun i => if i < q then (r.testBit i != y.testBit i) else r.testBit i) ∧ Below w.heap.size w wr) (fun _ j _ => 8 - (intOf j).toNat)
          case atStart => exact ⟨0, y, by omega, rfl, by simp, rfl, by simpa using hbk, hbl⟩
          case round =>
            clear hbk hbl hlt hck'
            obtain ⟨q, z, hq, rfl, hz, rfl, hbk, hbl⟩ := hrel
            have hzl : z < 256 := by rw [hz]; exact Nat.lt_of_le_of_lt (Nat.div_le_self _ _) hb256
            have hzb : (((z : Int) % 2 == 1) : Bool) = y.testBit q := by
              rw [Bool.eq_iff_iff, beq_iff_eq, ← bit_mod, ← hz]; omega
            have hz2 : z / 2 = y / 2 ^ (q + 1) := by rw [hz, Nat.pow_succ, Nat.div_div_eq_div_mul]
            have HZ := Lib.hid hz
            have HZB := Lib.hid hzb
            have HZ2 := Lib.hid hz2
            clear hz hzb hz2
            by_cases hlt : q < 8
            · have c0 : wr.cell? ⟨w.heap.size, q, none⟩ = some (.bool (r.testBit q)) := (hbk.cell q).trans ((BR_get _ q (by omega)).trans (by simp))
              have f0 : wr.frozen? ⟨w.heap.size, q, none⟩ = false := hbk.frozen q
              go_wp2
              go_roundw
              case rel =>
                refine ⟨q + 1, z / 2, by omega, by go_num, HZ2.out, by go_num, ?_, hbl.setCell (Nat.le_refl _) _⟩
                have := hbk.set_ q (.bool (r.testBit q != (((z : Int) % 2 == 1) : Bool)))
                rw [HZB.out, BR_set] at this
                rw [HZB.out]
                rw [show (fun i => if i < q + 1 then (r.testBit i != y.testBit i) else r.testBit i) = (fun i => if i = q then (r.testBit q != y.testBit q) else if i < q then (r.testBit i != y.testBit i) else r.testBit i) from funext fun i => by
                  by_cases e : i = q
                  · subst e; simp
                  · simp only [if_neg e]; by_cases e2 : i < q
                    · rw [if_pos e2, if_pos (by omega)]
                    · rw [if_neg e2, if_neg (by omega)]]
                exact this
              case measure => simp [intOf]; omega
            · obtain rfl : q = 8 := by omega
              rw [show (fun i => if i < 8 then (r.testBit i != y.testBit i) else r.testBit i) = (fun i => (r ^^^ y).testBit i) from funext fun i => and_bit r y hb256 i] at hbk
              have hr' : r ^^^ y < 4294967296 := Nat.xor_lt_two_pow (n := 32) hr (by omega)
              generalize hR : r ^^^ y = R at *
              have HR := Lib.hid hR
              clear hR HZ HZB HZ2 hzl
              obtain ⟨wo3, rfl⟩ : ∃ wo : World, wo = wr := ⟨_, rfl⟩
              go_wp2
              go_loopw [8] (fun j wr => ∃ q : Nat, q ≤ 8 ∧ j = .int .i64 q ∧ Blk wr w.heap.size 47 (BR fun i => (msteps q R).testBit i) ∧ Below w.heap.size w wr) (fun j _ => 8 - (intOf j).toNat)
              case atStart => exact ⟨0, by omega, rfl, hbk, hbl⟩
              case round =>
                clear hbk hbl hlt hq
                obtain ⟨q, hq, rfl, hbk, hbl⟩ := hrel
                have hqr := msteps_lt q R hr'
                have hqs := msteps_succ q R
                have HQS := Lib.hid hqs
                clear hqs
                by_cases hlt : q < 8
                · generalize hS : msteps q R = S at *
                  have HS := Lib.hid hS
                  clear hS
                  have c0 : wr.cell? ⟨w.heap.size, 0, none⟩ = some (.bool (S.testBit 0)) := (hbk.cell 0).trans (BR_get _ 0 (by omega))
                  obtain ⟨wo4, rfl⟩ : ∃ wo : World, wo = wr := ⟨_, rfl⟩
                  generalize hout : S.testBit 0 = out at *
                  have HO := Lib.hid hout
                  clear hout
                  go_wp2
                  go_loopw [10] (fun j wr => ∃ p : Nat, p ≤ 31 ∧ j = .int .i64 p ∧ Blk wr w.heap.size 47 (BR fun i => if i < p then S.testBit (i + 1) else S.testBit i) ∧ Below w.heap.size w wr) (fun j _ => 31 - (intOf j).toNat)
                  case atStart => exact ⟨0, by omega, rfl, by simpa using hbk, hbl⟩
                  case round =>
                    clear hbk hbl hlt c0
                    obtain ⟨p, hp, rfl, hbk, hbl⟩ := hrel
                    by_cases hlt : p < 31
                    · have c0 : wr.cell? ⟨w.heap.size, p, none⟩ = some (.bool (S.testBit p)) := (hbk.cell p).trans ((BR_get _ p (by omega)).trans (by simp))
                      have c1 : wr.cell? ⟨w.heap.size, p + 1, none⟩ = some (.bool (S.testBit (p + 1))) := (hbk.cell (p + 1)).trans ((BR_get _ (p + 1) (by omega)).trans (by rw [if_neg (by omega)]))
                      have f0 : wr.frozen? ⟨w.heap.size, p, none⟩ = false := hbk.frozen p
                      go_wp2
                      go_roundw
                      case rel =>
                        refine ⟨p + 1, by omega, by go_num, ?_, hbl.setCell (Nat.le_refl _) _⟩
                        have := hbk.set_ p (.bool (S.testBit (p + 1)))
                        rw [BR_set] at this
                        rw [show (fun i => if i < p + 1 then S.testBit (i + 1) else S.testBit i) = (fun i => if i = p then S.testBit (p + 1) else if i < p then S.testBit (i + 1) else S.testBit i) from funext fun i => by
                          by_cases e : i = p
                          · subst e; simp
                          · simp only [if_neg e]; by_cases e2 : i < p
                            · rw [if_pos e2, if_pos (by omega)]
                            · rw [if_neg e2, if_neg (by omega)]]
                        exact this
                      case measure => simp [intOf]; omega
                    · obtain rfl : p = 31 := by omega
                      have c31 : wr.cell? ⟨w.heap.size, 31, none⟩ = some (.bool (S.testBit 31)) := (hbk.cell 31).trans ((BR_get _ 31 (by omega)).trans (by simp))
                      have f31 : wr.frozen? ⟨w.heap.size, 31, none⟩ = false := hbk.frozen 31
                      have hbk5 := hbk.set_ 31 (.bool false)
                      rw [BR_set, BR_ext (fun i hi => half_bit S hqr i hi)] at hbk5
                      have hbl5 : Below w.heap.size w (wr.setCell ⟨w.heap.size, 31, none⟩ (.bool false)) := hbl.setCell (Nat.le_refl _) _
                      clear hbk hbl
                      obtain ⟨wo5, rfl⟩ : ∃ wo : World, wo = wr := ⟨_, rfl⟩
                      go_wp2
                      go_loopw [11, 12] (fun v j wr => ∃ p z : Nat, p ≤ 32 ∧ j = .int .i64 p ∧ z = 3988292384 / 2 ^ p ∧ v = .int .u32 (z : Int) ∧ Blk wr w.heap.size 47 (BR fun i => if i < p then ((S / 2).testBit i != (out && (3988292384 : Nat).testBit i)) else (S / 2).testBit i) ∧ Below w.heap.size w wr) (fun _ j _ => 32 - (intOf j).toNat)
                      case atStart => exact ⟨0, 3988292384, by omega, rfl, by simp, rfl, by simpa using hbk5, hbl5⟩
                      case round =>
                        clear hbk5 hbl5 hlt hp c31 f31
                        obtain ⟨p, z, hp, rfl, hz, rfl, hbk, hbl⟩ := hrel
                        have hzl : z < 4294967296 := by rw [hz]; exact Nat.lt_of_le_of_lt (Nat.div_le_self _ _) (by omega)
                        have hzb : (((z : Int) % 2 == 1) : Bool) = (3988292384 : Nat).testBit p := by
                          rw [Bool.eq_iff_iff, beq_iff_eq, ← bit_mod, ← hz]; omega
                        have hz2 : z / 2 = 3988292384 / 2 ^ (p + 1) := by rw [hz, Nat.pow_succ, Nat.div_div_eq_div_mul]
                        have HZ2 := Lib.hid hz2
                        clear hz hz2
                        have hstep : ∀ g : Bool, (fun i => if i < p + 1 then ((S / 2).testBit i != (out && (3988292384 : Nat).testBit i)) else (S / 2).testBit i) = (fun i => if i = p then ((S / 2).testBit p != (out && (3988292384 : Nat).testBit p)) else if i < p then ((S / 2).testBit i != (out && (3988292384 : Nat).testBit i)) else (S / 2).testBit i) := fun _ => funext fun i => by
                          by_cases e : i = p
                          · subst e; simp
                          · simp only [if_neg e]; by_cases e2 : i < p
                            · rw [if_pos e2, if_pos (by omega)]
                            · rw [if_neg e2, if_neg (by omega)]
                        have HST := Lib.hid (hstep true)
                        clear hstep
                        by_cases hlt : p < 32
                        · have c0 : wr.cell? ⟨w.heap.size, p, none⟩ = some (.bool ((S / 2).testBit p)) := (hbk.cell p).trans ((BR_get _ p hlt).trans (by simp))
                          have f0 : wr.frozen? ⟨w.heap.size, p, none⟩ = false := hbk.frozen p
                          have hsame : ∀ f : Nat → Bool, BR f = (BR f).setIfInBounds p (.bool (f p)) := fun f => by
                            rw [BR_set]; exact BR_ext fun i _ => by by_cases e : i = p <;> simp [e]
                          by_cases hyes : (out && (3988292384 : Nat).testBit p) = true
                          · obtain ⟨rfl, hy2⟩ : out = true ∧ (3988292384 : Nat).testBit p = true := by simpa using hyes
                            rw [hy2] at hzb
                            have hset := hbk.set_ p (.bool (!(S / 2).testBit p))
                            have HY := Lib.hid hy2
                            clear hy2 hyes hsame
                            go_wp2
                            go_roundw
                            case rel =>
                              refine ⟨p + 1, z / 2, by omega, by go_num, HZ2.out, by go_num, ?_, hbl.setCell (Nat.le_refl _) _⟩
                              rw [HST.out, HY.out]
                              rw [BR_set] at hset
                              simpa using hset
                            case measure => simp [intOf]; omega
                          · have hno : (out && (3988292384 : Nat).testBit p) = false := by simpa using hyes
                            have hkeep : BR (fun i => if i < p + 1 then ((S / 2).testBit i != (out && (3988292384 : Nat).testBit i)) else (S / 2).testBit i) = BR fun i => if i < p then ((S / 2).testBit i != (out && (3988292384 : Nat).testBit i)) else (S / 2).testBit i := by
                              rw [HST.out]
                              refine BR_ext fun i _ => ?_
                              by_cases e : i = p
                              · subst e; rw [if_pos rfl, hno]; simp
                              · rw [if_neg e]
                            have HK := Lib.hid hkeep
                            clear hkeep hsame hyes HST
                            cases out with
                            | false =>
                              clear hno hzb
                              go_wp2
                              go_roundw
                              case rel =>
                                refine ⟨p + 1, z / 2, by omega, by go_num, HZ2.out, by go_num, ?_, hbl⟩
                                rw [HK.out]
                                exact hbk
                              case measure => simp [intOf]; omega
                            | true =>
                              have hf : (3988292384 : Nat).testBit p = false := by simpa using hno
                              rw [hf] at hzb
                              clear hno hf
                              go_wp2
                              go_roundw
                              case rel =>
                                refine ⟨p + 1, z / 2, by omega, by go_num, HZ2.out, by go_num, ?_, hbl⟩
                                rw [HK.out]
                                exact hbk
                              case measure => simp [intOf]; omega
                        · obtain rfl : p = 32 := by omega
                          have hend : Blk wr w.heap.size 47 (BR fun i => (mstep S).testBit i) := by
                            rw [BR_ext (g := fun i => (mstep S).testBit i) (fun i hi => by rw [if_pos hi, ← HO.out]; exact poly_bit S hqr i hi)] at hbk
                            exact hbk
                          clear hbk hzb HZ2 HST
                          go_wp2
                          go_roundw
                          case rel => exact ⟨q + 1, by omega, by go_num, by rw [HQS.out]; exact hend, hbl⟩
                          case measure => simp [intOf]; omega
                · obtain rfl : q = 8 := by omega
                  go_wp2
                  go_roundw
                  case rel => exact ⟨k + 1, by omega, by go_num, by rw [HN.out]; exact hbk, hbl⟩
                  case measure => simp [intOf]; omega
        · obtain rfl : k = n := by omega
          rw [List.take_of_length_le (by omega)] at hbk
          have hF : crcRaw 4294967295 bs < 4294967296 := crcRaw_lt _ _ (by omega) hbs
          have HC : Hid (crcSum bs = 4294967295 - crcRaw 4294967295 bs) := rfl
          generalize crcRaw 4294967295 bs = F at *
          obtain ⟨wo6, rfl⟩ : ∃ wo : World, wo = wr := ⟨_, rfl⟩
          go_wp2
          go_loop [13, 14] (fun v j => ∃ q z : Nat, q ≤ 32 ∧ j = .int .i64 ((q : Int) - 1) ∧ z = (4294967295 - F) / 2 ^ q ∧ v = .int .u32 (z : Int)) (fun _ j => (intOf j + 1).toNat)
          case atStart => exact ⟨32, 0, by omega, rfl, by rw [Nat.div_eq_of_lt (by omega)], rfl⟩
          case round =>
            obtain ⟨q, z, hq, rfl, hz, rfl⟩ := hrel
            rcases q with _ | q
            · have HZ := Lib.hid hz
              clear hz
              rw [show ((0 : Nat) : Int) - 1 = -1 from rfl]
              go_wp2
              go_ret
              refine ⟨?_, hbl⟩
              rw [HC.out, show 4294967295 - F = z by rw [HZ.out]; simp]
              rfl
            · rw [show ((q + 1 : Nat) : Int) - 1 = (q : Int) from by omega]
              have hnx := comp_next F q hF (by omega)
              rw [← hz] at hnx
              have hz2 : z * 2 + 1 < 4294967297 := by
                have := Nat.div_le_self (4294967295 - F) (2 ^ q)
                have h2 : (if F.testBit q = true then 0 else 1) ≤ 1 := by split <;> omega
                omega
              have c0 : wo6.cell? ⟨w.heap.size, q, none⟩ = some (.bool (F.testBit q)) := (hbk.cell q).trans (BR_get _ q (by omega))
              have HNX := Lib.hid hnx
              clear hz hnx
              cases hbit : F.testBit q with
              | false =>
                rw [hbit] at c0
                have HB := Lib.hid hbit
                clear hbit
                go_wp2
                go_round
                case rel => exact ⟨q, z * 2 + 1, by omega, by go_num, by rw [HNX.out, HB.out]; simp, by go_num⟩
                case measure => simp [intOf]
              | true =>
                rw [hbit] at c0
                have HB := Lib.hid hbit
                clear hbit
                go_wp2
                go_round
                case rel => exact ⟨q, z * 2, by omega, by go_num, by rw [HNX.out, HB.out]; simp, by go_num⟩
                case measure => simp [intOf]
end Go.Proofs.Ytaccekfnbofkpaa
