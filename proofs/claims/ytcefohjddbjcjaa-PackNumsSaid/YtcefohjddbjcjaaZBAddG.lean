/- Few, Add, of: bits out of bytes, and a vector of them. -/
import Derived.Test.YtcefohjddbjcjaaZBU8G
import Derived.Test.YtcefohjddbjcjaaZBList
import Derived.Test.YtcefohjddbjcjaaZBSameG
import Derived.Deep.RegionWith
namespace Go.Proofs.Ytcefohjddbjcjaa
open Go.RowKit
set_option linter.unusedVariables false

theorem NumPost.trans {w w1 w2 : World} {g V2 n2 : Nat} {A A1 : Option Addr} {e' : Ending} (m : Mod (foot g A) w w1) (ha : A1 = A ∨ ∃ b, A1 = some ⟨b, 0, none⟩ ∧ w.heap.size ≤ b)
    (p : NumPost w1 g V2 n2 A1 e' w2) : NumPost w g V2 n2 A e' w2 := by
  obtain ⟨he, A2, h1, m2, h2⟩ := p
  refine ⟨he, A2, h1, m.trans m2 fun i hi hf => ?_, ?_⟩
  · rcases hf with rfl | ⟨b, rfl, rfl⟩
    · exact .inl rfl
    · rcases ha with rfl | ⟨b', e, hb⟩
      · exact .inr ⟨_, rfl, rfl⟩
      · have : i = b' := (Addr.mk.inj (Option.some.inj e)).1
        omega
  · rcases h2 with rfl | ⟨b, rfl, hb⟩
    · exact ha
    · exact .inr ⟨b, rfl, Nat.le_trans m.size hb⟩

set_option maxRecDepth 20000 in
set_option maxHeartbeats 1000000 in
theorem few_p (A : Option Addr) (n c B m : Nat) (bs : List Nat) (w : World) (h : Rd w B A n (U8 bs)) (hb : ∀ b ∈ bs, b < 256) (hB : B ≤ w.heap.size) (hn : n ≤ 9223372036854775807) (hm : m ≤ 1000000) :
    Calls Try.prog 15 #[.slice A n c, .int .i64 (m : Int)] w (NewI64 w (ofNB (few bs m))) := by
  have hl : bs.length = n := by rw [← h.len, U8_len]
  have HL := Lib.hid hl
  have HBS : Hid (∀ k, bs.getD k 0 < 256) := fun k => by
    by_cases hk : k < bs.length
    · rw [List.getD_eq_getElem?_getD, List.getElem?_eq_getElem hk]; exact hb _ (List.getElem_mem hk)
    · rw [List.getD_eq_getElem?_getD, List.getElem?_eq_none (by omega)]; decide
  obtain ⟨i0, hi0, hz0, hz1, hz2⟩ := info_parts info_int
  have H := Lib.hid h
  clear h hl hb
  go_enter Try.func15, Try.ntmps15
  go_wp2
  go_loopw [5, 11] (fun v i wr => ∃ (k q : Nat) (Av : Option Addr) (cv : Nat), k ≤ n ∧ i = .int .i64 (k : Int) ∧ Hid ((fewTo bs m k 0).length = q) ∧ q ≤ m ∧ v = .slice Av q cv ∧ wr.ownsRow w.heap.size 3 1 (.slice Av q cv) q (I64 (ofNB (fewTo bs m k 0))) ∧ Below w.heap.size w wr) (fun _ i _ => n - (intOf i).toNat)
  case atStart => exact ⟨0, 0, none, 0, by omega, rfl, by show _ = _; rw [fewTo_start]; rfl, by omega, rfl, by rw [fewTo_start]; exact World.ownsRow_nil _ _ _ _, Below.refl _ _⟩
  case round =>
    obtain ⟨k, q, Av, cv, hk, rfl, hq, hqm, rfl, hown, hbl⟩ := hrel
    by_cases hlt : k < n
    · have hr := H.out.below (hbl.mono hB)
      obtain ⟨b, o, rfl, _, k1⟩ := hr.u8 (by omega)
      have t1 := k1 k hlt
      have hb0 := HBS.out k
      obtain ⟨y, hy⟩ : ∃ y, y = bs.getD k 0 := ⟨_, rfl⟩
      have HY := Lib.hid hy
      rw [← hy] at t1 hb0
      have HQ0 := hq
      have HOWN0 := Lib.hid hown
      have HBL0 := Lib.hid hbl
      clear hr k1 hy hown hbl hq
      go_wp2
      go_loopw [5, 7, 8] (fun v x i wq => ∃ (j q z : Nat) (Av : Option Addr) (cv : Nat), j ≤ 8 ∧ z = y / 2 ^ j ∧ z < 256 ∧ x = .int .u8 (z : Int) ∧ i = .int .i64 (j : Int) ∧ Hid ((fewTo bs m k j).length = q) ∧ q ≤ m ∧ v = .slice Av q cv ∧ wq.ownsRow w.heap.size 3 1 (.slice Av q cv) q (I64 (ofNB (fewTo bs m k j))) ∧ Below w.heap.size w wq) (fun _ _ i _ => 8 - (intOf i).toNat)
      case atStart => exact ⟨0, q, y, Av, cv, by omega, by simp, hb0, rfl, rfl, HQ0, hqm, rfl, HOWN0.out, HBL0.out⟩
      case round =>
        clear HOWN0 HBL0 HQ0
        obtain ⟨j, q, z, Av, cv, hj, hz, hz8, rfl, rfl, hq, hqm, rfl, hown, hbl⟩ := hrel
        by_cases hj8 : j < 8
        · by_cases hqlt : q < m
          · have HZ := Lib.hid hz
            have hown3' := hown.alloc (.cells #[.int .i64 ((z : Int) % 2)] 3)
            have r3 := Rd.new wr 3 #[.int .i64 ((z : Int) % 2)] 1 (I64 [((z : Int) % 2)]) (by simp [I64]) (by simp)
            have t1 : q + 1 ≤ maxLen := by simp only [maxLen]; omega
            have t2 : (q + 1) * 8 ≤ 140737488355328 := by omega
            have t3 : w.heap.size ≤ (wr.alloc (.cells #[.int .i64 ((z : Int) % 2)] 3)).heap.size := by have := hbl.size; simp; omega
            have WY : Hid (I64 (ofNB (fewTo bs m k j)) ++ I64 [((z : Int) % 2)] = I64 (ofNB (fewTo bs m k (j + 1)))) := by
              show _ = _
              rw [fewTo_bit _ _ _ _ (by rw [hq.out]; exact hqlt), ofN_appendB, I64_append, hz, HY.out]
              simp [ofNB]
            have WL : Hid ((fewTo bs m k (j + 1)).length = q + 1) := by
              show _ = _
              rw [fewTo_bit _ _ _ _ (by rw [hq.out]; exact hqlt), List.length_append, hq.out]; rfl
            have hqi : (q : Int) < (m : Int) := by omega
            clear hz
            go_wp2_with (first
              | (at_builtin; go_must (refine wpList_append_rd _ rfl _ _ 35 rfl w.heap.size 3 i0 (.int .i64 0) 8 Try.underlying35 hi0 hz0 hz1 hz2 rfl (.slice Av q cv) q (I64 (ofNB (fewTo bs m k j))) rfl hown3' (wr.heap.size + 1) (some ⟨wr.heap.size, 0, none⟩) 1 1 (I64 [((z : Int) % 2)]) rfl r3 (I64_one _) t1 t2 t3 ?_)))
            intro A6 c6 w6 hc6 hm6 hown6 hg6 _
            have hb6 : Below w.heap.size wr w6 := ((Below.refl w.heap.size wr).alloc hbl.size _).trans (Below.appended hown3' hg6 t3)
            rw [WY.out] at hown6
            go_wp2
            go_roundw
            case rel => exact ⟨j + 1, q + 1, z / 2, A6, c6, by omega, by rw [HZ.out, Nat.pow_succ, Nat.div_div_eq_div_mul], by omega, by go_num, by go_num, WL, by omega, rfl, hown6, hbl.trans hb6⟩
            case measure => simp [intOf]; omega
          · have hqi : ¬ (q : Int) < (m : Int) := by omega
            have FE : Hid (fewTo bs m (k + 1) 0 = fewTo bs m k j) := by
              show _ = _
              rw [← fewTo_next _ _ _ (by rw [HL.out]; exact hlt)]
              exact fewTo_full bs m k j 8 (by omega) (by rw [hq.out]; exact hqlt)
            go_wp2
            go_roundw
            case rel => exact ⟨k + 1, q, Av, cv, by omega, by go_num, by show _ = _; rw [FE.out]; exact hq.out, hqm, rfl, by rw [FE.out]; exact hown, hbl⟩
            case measure => simp [intOf]; omega
        · obtain rfl : j = 8 := by omega
          have FE : Hid (fewTo bs m (k + 1) 0 = fewTo bs m k 8) := by
            show _ = _
            rw [← fewTo_next _ _ _ (by rw [HL.out]; exact hlt)]
          go_wp2
          go_roundw
          case rel => exact ⟨k + 1, q, Av, cv, by omega, by go_num, by show _ = _; rw [FE.out]; exact hq.out, hqm, rfl, by rw [FE.out]; exact hown, hbl⟩
          case measure => simp [intOf]; omega
    · obtain rfl : k = n := by omega
      have FE : Hid (fewTo bs m k 0 = few bs m) := by show _ = _; rw [← HL.out, fewTo_end]
      rw [FE.out] at hown hq
      go_wp2
      go_ret
      have hq2 : (few bs m).length = q := hq.out
      refine .mk rfl ?_ hbl
      rw [ofN_lenB, hq2]
      exact hown
end Go.Proofs.Ytcefohjddbjcjaa
