/- perm.Of: a list is a permutation, or it is refused. -/
import Derived.Test.YthbhbcakiaaapaaPerm
namespace Go.Proofs.Ythbhbcakiaaapaa
set_option maxRecDepth 20000
open Go.RowKit
set_option linter.unusedVariables false

/-- The blocks of a permutation lie from lo on. -/
def PermLo (lo : Nat) (w : World) (g : Nat) : Prop := ∃ A n c A' n' c', Blk w g 72 #[.slice A n c, .slice A' n' c'] ∧ lo ≤ g ∧ (∀ a : Addr, A = some a → lo ≤ a.block) ∧ (∀ a : Addr, A' = some a → lo ≤ a.block)
theorem PermAt.mod {w w' : World} {g lo : Nat} {l b : List Nat} {S : Nat → Prop} (h : PermAt w g l b) (k : PermLo lo w g) (m : Mod S w w') (hS : ∀ i, S i → i < lo) : PermAt w' g l b := by
  obtain ⟨hi, hl, A, c, A', c', hb, h1, h2⟩ := h
  obtain ⟨D, n, d, D', n', d', kb, k0, k1, k2⟩ := k
  unfold Blk at hb kb
  rw [hb] at kb
  simp only [Option.some.injEq, Obj.cells.injEq, and_true] at kb
  have e := congrArg Array.toList kb
  simp only [List.cons.injEq, Value.slice.injEq, and_true] at e
  obtain ⟨⟨rfl, _, _⟩, ⟨rfl, _, _⟩⟩ := e
  have up : ∀ {n : Nat} {A : Option Addr} {xs : List Value}, Rd w w.heap.size A n xs → (∀ a : Addr, A = some a → lo ≤ a.block) → Rd w' w'.heap.size A n xs := fun hr hlo =>
    (hr.mod m (Nat.le_refl _) (fun _ i ⟨a, ha, hai⟩ hx => by have := hlo a ha; have := hS i hx; omega)).up m.size
  exact ⟨hi, hl, A, c, A', c', Blk.mod hb m (fun hx => by have := hS g hx; omega), up h1 k1, up h2 k2⟩

def OfPost (w : World) (z : List Int) (e : Ending) (w' : World) : Prop :=
  ((∃ g l b, z = ofN l ∧ e = .returned (.tuple #[.pointer (some ⟨g, 0, none⟩), .int .i64 0]) ∧ PermAt w' g l b ∧ PermLo w.heap.size w' g) ∨ (¬ Good z ∧ e = .returned (.tuple #[.pointer none, .int .i64 4]))) ∧ Below w.heap.size w w'

/-- What the way back tells behind k places. -/
def Known (z y : List Int) (k : Nat) : Prop := (∀ i, i < k → 0 ≤ z.getD i 0 ∧ z.getD i 0 < (z.length : Int) ∧ ∀ j, j < i → z.getD j 0 ≠ z.getD i 0) ∧
  ∀ v, v < z.length → (y.getD v 0 = -1 ∧ ∀ j, j < k → z.getD j 0 ≠ (v : Int)) ∨ ∃ j, j < k ∧ y.getD v 0 = (j : Int) ∧ z.getD j 0 = (v : Int)
theorem Known.next {z y : List Int} {k x : Nat} (h : Known z y k) (hy : y.length = z.length) (hk : k < z.length) (hx : z.getD k 0 = (x : Int)) (hxn : x < z.length) (hf : y.getD x 0 = -1) : Known z (y.set x (k : Int)) (k + 1) := by
  have hno : ∀ j, j < k → z.getD j 0 ≠ (x : Int) := by
    rcases h.2 x hxn with h1 | ⟨j, _, h2, _⟩
    · exact h1.2
    · rw [hf] at h2; omega
  refine ⟨fun i hi => ?_, fun v hv => ?_⟩
  · by_cases e : i = k
    · subst e; rw [hx]; exact ⟨by omega, by omega, hno⟩
    · exact h.1 i (by omega)
  · rw [getDI_set y x v _ (by omega)]
    by_cases e : v = x
    · subst e; rw [if_pos rfl]; exact .inr ⟨k, by omega, rfl, hx⟩
    · rw [if_neg e]
      rcases h.2 v hv with ⟨h1, h2⟩ | ⟨j, h1, h2, h3⟩
      · refine .inl ⟨h1, fun j hj => ?_⟩
        by_cases e2 : j = k
        · subst e2; rw [hx]; omega
        · exact h2 j (by omega)
      · exact .inr ⟨j, by omega, h2, h3⟩
theorem Known.bad {z y : List Int} {k x : Nat} (h : Known z y k) (hk : k < z.length) (hx : z.getD k 0 = (x : Int)) (hxn : x < z.length) (hf : y.getD x 0 ≠ -1) : ¬ Good z := by
  intro hg
  rcases h.2 x hxn with h1 | ⟨j, h1, _, h3⟩
  · exact hf h1.1
  · exact (hg k hk).2.2 j h1 (by rw [hx, h3])

set_option maxHeartbeats 1000000 in
theorem of_p (A : Option Addr) (n c B : Nat) (z : List Int) (w : World) (h : Rd w B A n (I64 z)) (hn : n ≤ 1000000) :
    Calls Try.prog 26 #[.slice A n c] w (OfPost w z) := by
  have hlz : z.length = n := by rw [← h.len, I64_len]
  have HLZ := Lib.hid hlz
  obtain ⟨i0, hi0, hz0, hz1, hz2⟩ := info_parts info_int
  have hmk := run_make_one (P := Try.prog) 25 3 i0 (.int .i64 0) 8 Try.underlying25 hi0 hz0 hz1 hz2 rfl .i64 .i64 n (by omega) (by omega)
  have hown := own_made w 3 n (.int .i64 0) (by simp only [maxLen]; omega)
  rw [← I64_replicate] at hown
  clear hlz
  go_enter Try.func26, Try.ntmps26
  go_wp2
  go_loopw [13] (fun i wr => ∃ (k : Nat) (y : List Int), k ≤ n ∧ i = .int .i64 k ∧ Hid (∀ j, j < k → y.getD j 0 = -1) ∧ wr.ownsRow w.heap.size 3 1 (.slice (some ⟨w.heap.size, 0, none⟩) n n) n (I64 y) ∧ Below w.heap.size w wr) (fun i _ => n - (intOf i).toNat)
  case atStart =>
    refine ⟨0, List.replicate n 0, by omega, rfl, fun j hj => absurd hj (by omega), ?_, (Below.refl _ _).alloc (Nat.le_refl _) _⟩
    simpa [I64] using hown
  case round =>
    clear hown
    obtain ⟨k, y, hk, rfl, hy, hown, hbl⟩ := hrel
    by_cases hlt : k < n
    · have hc := own_cellI hown k hlt
      have hf := hown.frozenAt k
      have hyl := own_lenI hown
      have HYL := Lib.hid hyl
      clear hyl
      generalize y.getD k 0 = yk at hc
      go_wp2
      go_roundw
      case rel =>
        refine ⟨k + 1, y.set k (-1), by omega, by go_num, fun j hj => ?_, own_setI hown k _, hbl.setCell (Nat.le_refl _) _⟩
        rw [getDI_set _ _ _ _ (by rw [HYL.out]; exact hlt)]
        by_cases e : j = k
        · rw [if_pos e]
        · rw [if_neg e]; exact hy.out j (by omega)
      case measure => simp [intOf]; omega
    · obtain rfl : k = n := by omega
      obtain ⟨wo, rfl⟩ : ∃ wo : World, wo = wr := ⟨_, rfl⟩
      go_wp2
      go_loopw [22] (fun i wr => ∃ (q : Nat) (y : List Int), q ≤ k ∧ i = .int .i64 q ∧ Hid (Known z y q) ∧ wr.ownsRow w.heap.size 3 1 (.slice (some ⟨w.heap.size, 0, none⟩) k k) k (I64 y) ∧ Below w.heap.size w wr) (fun i _ => k - (intOf i).toNat)
      case atStart =>
        refine ⟨0, y, by omega, rfl, ⟨fun i hi => absurd hi (by omega), fun v hv => .inl ⟨hy.out v (by rw [HLZ.out] at hv; exact hv), fun j hj => absurd hj (by omega)⟩⟩, hown, hbl⟩
      case round =>
        clear hown hy hbl hk hlt
        obtain ⟨q, y, hq, rfl, hkn, hown, hbl⟩ := hrel
        have hyl := own_lenI hown
        have HYL := Lib.hid hyl
        clear hyl
        by_cases hlt : q < k
        · obtain ⟨b, o, rfl, hbB, hcz⟩ := h.i64 (by omega)
          have hcq := hcz q hlt
          have hold : wr.cell? ⟨b, o + q, none⟩ = some (.int .i64 (z.getD q 0)) := (hbl.cell (p := ⟨b, o + q, none⟩) (World.block_lt_of_cell? _ _ hcq)).trans hcq
          clear hcz hcq
          by_cases hneg : z.getD q 0 < 0
          · have hbad : Hid (¬ Good z) := fun hg => by have := (hg q (by rw [HLZ.out]; exact hlt)).1; omega
            generalize z.getD q 0 = x at *
            go_wp2_with fail
            go_ret2
            exact ⟨.inr ⟨hbad.out, rfl⟩, hbl⟩
          · by_cases hbig : (k : Int) ≤ z.getD q 0
            · have hbad : Hid (¬ Good z) := fun hg => by have := (hg q (by rw [HLZ.out]; exact hlt)).2.1; rw [HLZ.out] at this; omega
              generalize z.getD q 0 = x at *
              go_wp2_with fail
              go_ret2
              exact ⟨.inr ⟨hbad.out, rfl⟩, hbl⟩
            · obtain ⟨x, hx⟩ : ∃ x : Nat, z.getD q 0 = (x : Int) := ⟨(z.getD q 0).toNat, by omega⟩
              have hxk : x < k := by omega
              rw [hx] at hold
              have hc := own_cellI hown x hxk
              have hf := hown.frozenAt x
              by_cases hfree : y.getD x 0 = -1
              · have hnext : Hid (Known z (y.set x (q : Int)) (q + 1)) := hkn.out.next (by rw [HYL.out, HLZ.out]) (by rw [HLZ.out]; exact hlt) hx (by rw [HLZ.out]; exact hxk) hfree
                rw [hfree] at hc
                clear hfree hx hneg hbig
                go_wp2
                go_roundw
                case rel => exact ⟨q + 1, y.set x (q : Int), by omega, by go_num, hnext, own_setI hown x _, hbl.setCell (Nat.le_refl _) _⟩
                case measure => simp [intOf]; omega
              · have hbad : Hid (¬ Good z) := hkn.out.bad (by rw [HLZ.out]; exact hlt) hx (by rw [HLZ.out]; exact hxk) hfree
                have hne : (y.getD x 0 != -1) = true := by rw [bne_iff_ne]; exact hfree
                clear hfree hx hneg hbig
                generalize y.getD x 0 = yx at *
                go_wp2
                go_ret2
                exact ⟨.inr ⟨hbad.out, rfl⟩, hbl⟩
        · obtain rfl : q = k := by omega
          have hrz := h.lt.below hbl
          go_wp2_with fail
          refine (cloneI_any A _ _ _ z _ hrz (by omega)).mono ?_
          rintro e w2 ⟨A2, k2, rfl, hk2, hm2, hown2, hb2⟩
          have hfin : Hid (∃ l b, z = ofN l ∧ y = ofN b ∧ Inv l b) := by
            have hg : Good z := fun i hi => hkn.out.1 i (by rw [HLZ.out] at hi; exact hi)
            exact hg.inv y (by rw [HYL.out, HLZ.out]) (fun v hv => by
              rcases hkn.out.2 v hv with ⟨h1, h2⟩ | ⟨j, h1, h2⟩
              · exact .inl ⟨h1, fun j hj => h2 j (by rw [HLZ.out] at hj; exact hj)⟩
              · exact .inr ⟨j, by rw [HLZ.out]; exact h1, h2⟩)
          go_wp2
          go_ret2
          obtain ⟨l, b, hzl, hyb, hinv⟩ := hfin.out
          have hll : l.length = q := by rw [← ofN_len, ← hzl, HLZ.out]
          have hb3 : Below w2.heap.size w2 (w2.alloc (.cells #[.slice A2 z.length k2, .slice (some ⟨w.heap.size, 0, none⟩) q q] 72)) := (Below.refl _ _).alloc (Nat.le_refl _) _
          have hbq : Below w.heap.size w (w2.alloc (.cells #[.slice A2 z.length k2, .slice (some ⟨w.heap.size, 0, none⟩) q q] 72)) := (hbl.trans (hb2.mono hbl.size)).trans (hb3.mono (Nat.le_trans hbl.size hb2.size))
          have hlo : PermLo w.heap.size (w2.alloc (.cells #[.slice A2 z.length k2, .slice (some ⟨w.heap.size, 0, none⟩) q q] 72)) w2.heap.size := by
            refine ⟨A2, z.length, k2, some ⟨w.heap.size, 0, none⟩, q, q, Blk.new _ _ _, Nat.le_trans hbl.size hb2.size, fun a ha => ?_, fun a ha => by cases ha; exact Nat.le_refl _⟩
            subst ha
            have := (hown2.lt a.block rfl).1
            have := hbl.size
            omega
          refine ⟨.inl ⟨w2.heap.size, l, b, hzl, rfl, ⟨hinv, by omega, A2, k2, some ⟨w.heap.size, 0, none⟩, q, ?_, ?_, ?_⟩, hlo⟩, hbq⟩
          · have := Blk.new w2 72 #[.slice A2 z.length k2, .slice (some ⟨w.heap.size, 0, none⟩) q q]
            rw [HLZ.out] at this ⊢
            rw [hll]
            exact this
          · have := (Rd.ofOwn hown2).more hb3
            rw [HLZ.out] at this ⊢
            rw [hll, ← hzl]
            exact this
          · have := ((Rd.ofOwn (own_below hown hb2))).more hb3
            rw [HLZ.out] at this ⊢
            rw [hll, ← hyb]
            exact this
end Go.Proofs.Ythbhbcakiaaapaa
