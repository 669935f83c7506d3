/- The document's from: an orbit without an edge's darts. -/
import Derived.Test.YtnnjjhjohjajnaaZUCut
import Derived.Test.YtnnjjhjohjajnaaZPNames
import Derived.Test.YtnnjjhjohjajnaaZENam
namespace Go.Proofs.Ytnnjjhjohjajnaa
set_option maxRecDepth 100000
open Go.RowKit
set_option linter.unusedVariables false
/-- A list without the darts of the edge e. -/
def fltE (e : Nat) (L : List Nat) : List Nat := L.filter fun x => decide (x / 2 ≠ e)
theorem take_snocE (L : List Nat) {k : Nat} (h : k < L.length) : L.take (k + 1) = L.take k ++ [L.getD k 0] := by
  rw [List.take_add_one, List.getD_eq_getElem?_getD, List.getElem?_eq_getElem h]; rfl
theorem fltE_yes (e : Nat) (L : List Nat) {k : Nat} (h : k < L.length) (c : L.getD k 0 / 2 ≠ e) : fltE e (L.take (k + 1)) = fltE e (L.take k) ++ [L.getD k 0] := by
  unfold fltE; rw [take_snocE L h, List.filter_append, List.filter_cons_of_pos (by rw [decide_eq_true_iff]; exact c)]; rfl
theorem fltE_no (e : Nat) (L : List Nat) {k : Nat} (h : k < L.length) (c : L.getD k 0 / 2 = e) : fltE e (L.take (k + 1)) = fltE e (L.take k) := by
  unfold fltE; rw [take_snocE L h, List.filter_append, List.filter_cons_of_neg (by rw [decide_eq_true_iff]; exact fun h => h c)]; simp
theorem orb_leF {l b : List Nat} (h : Inv l b) {i : Nat} (hi : i < l.length) : (orb l i).length ≤ l.length := by
  unfold orb; rw [way_len]; exact per_le h hi
set_option maxHeartbeats 4000000 in
theorem from_p (A : Option Addr) (c : Nat) (l b : List Nat) (root lone : Int) (d e : Nat) (w : World) (h : Rd w w.heap.size A l.length (I64 (ofN l))) (hinv : Inv l b) (hn : l.length ≤ 100000) (hd : d < l.length) (he : e ≤ 100000) :
    Calls Try.prog 30 #[.agg #[.slice A l.length c, .int .i64 root, .int .i64 lone], .int .i64 (d : Int), .int .i64 (e : Int)] w (NewI64 w (ofN (fltE e (orb l d)))) := by
  have hb0 := (Below.refl w.heap.size w).alloc (Nat.le_refl _) (.cells #[.slice A l.length c, .int .i64 root, .int .i64 lone] 27)
  have HX := Lib.hid (Blk.new w 27 #[.slice A l.length c, .int .i64 root, .int .i64 lone])
  have HR := Lib.hid (h.more hb0)
  have HB0 := Lib.hid hb0
  obtain ⟨i0, hi0, hz0, hz1, hz2⟩ := info_parts info_int
  have RO : Hid (∀ W, Below (w.alloc (.cells #[.slice A l.length c, .int .i64 root, .int .i64 lone] 27)).heap.size (w.alloc (.cells #[.slice A l.length c, .int .i64 root, .int .i64 lone] 27)) W → Calls Try.prog 32 #[.slice A l.length c, .int .i64 (d : Int)] W (NewI64 W (ofN (orb l d)))) := fun W m => rorbit_p A c _ l b d W (HR.out.more m) hinv (by omega) hd
  have HOL : Hid (∀ x, x ∈ orb l d → x < l.length) := fun x hx => by
    obtain ⟨t, ht⟩ := (mem_orb hinv hd).1 hx
    rw [← ht]; exact it_lt hinv hd t
  have HOK : Hid ((orb l d).length ≤ l.length) := orb_leF hinv hd
  clear h hb0 HR
  generalize orb l d = O at *
  go_enter Try.func30, Try.ntmps30
  go_wp2_with fail
  generalize hw3 : w.alloc (.cells #[.slice A l.length c, .int .i64 root, .int .i64 lone] 27) = w3 at *
  have x0 : w3.cell? ⟨w.heap.size, 0, none⟩ = some (.slice A l.length c) := HX.out.cell 0
  clear hw3 HX
  have Z0 := Below.refl w3.heap.size w3
  go_wp2_with fail
  refine (RO.out _ Z0).mono ?_
  rintro en w1 ⟨A1, c1, rfl, hc1, hm1, hown1, b1⟩
  rw [ofN_len] at hc1 hown1 ⊢
  have RD1 := Lib.hid (Rd.ofOwn hown1)
  have B1 := Lib.hid (HB0.out.trans (b1.mono HB0.out.size))
  clear b1 hown1 Z0 x0 RO
  obtain ⟨K, hK⟩ : ∃ K, K = O.length := ⟨_, rfl⟩
  have HKO : Hid (K = O.length) := hK
  have hKn : K ≤ 100000 := by have := HOK.out; omega
  rw [← hK] at RD1 hc1 ⊢
  clear hK
  go_wp2_with fail
  go_loopw [7, 15] (fun s i wr => ∃ (k q : Nat) (Av : Option Addr) (cv : Nat), k ≤ K ∧ q ≤ k ∧ i = .int .i64 (k : Int) ∧ s = .slice Av q cv ∧ Hid (q = (fltE e (O.take k)).length) ∧ Hid (wr.ownsRow w1.heap.size 3 1 (.slice Av q cv) q (I64 (ofN (fltE e (O.take k))))) ∧ Hid (Below w1.heap.size w1 wr)) (fun _ i _ => K - (intOf i).toNat)
  case atStart => exact ⟨0, 0, none, 0, by omega, Nat.le_refl _, rfl, rfl, rfl, World.ownsRow_nil _ _ _ _, Below.refl _ _⟩
  case round =>
    obtain ⟨k, q, Av, cv, hk, hqk, rfl, rfl, HQ, HO, HB⟩ := hrel
    by_cases hlt : k < K
    · have hdk : decide (k < K) = true := by rw [decide_eq_true_iff]; exact hlt
      obtain ⟨b5, o5, rfl, hb5, hcz⟩ := (RD1.out.more HB.out).i64 (by omega)
      have cx := hcz k hlt
      rw [ofN_get] at cx
      have hko : k < O.length := by rw [← HKO.out]; exact hlt
      have hxl : O.getD k 0 < l.length := HOL.out _ (by
        rw [List.getD_eq_getElem?_getD, List.getElem?_eq_getElem hko]; exact List.getElem_mem hko)
      have FY : Hid (O.getD k 0 / 2 ≠ e → fltE e (O.take (k + 1)) = fltE e (O.take k) ++ [O.getD k 0]) := fltE_yes e O hko
      have FN : Hid (O.getD k 0 / 2 = e → fltE e (O.take (k + 1)) = fltE e (O.take k)) := fltE_no e O hko
      generalize O.getD k 0 = x at *
      obtain ⟨x2, hx2⟩ : ∃ x2, x2 = x / 2 := ⟨_, rfl⟩
      rw [← hx2] at FY FN
      have h2 : (x : Int) / 2 = (x2 : Int) := by omega
      have h2t : (x : Int).tdiv 2 = (x2 : Int) := by rw [Int.tdiv_eq_ediv_of_nonneg (by omega)]; exact h2
      have wx : IntKind.i64.wrap (x2 : Int) = (x2 : Int) := by simp [IntKind.wrap, IntKind.signed, IntKind.bits]; omega
      have HBS := HB.out.size
      clear hx2 hcz hb5
      by_cases hxe : x2 = e
      · have hde : decide (x2 = e) = true := decide_eq_true hxe
        have hFN := FN.out hxe
        have HO2 : Hid (wr.ownsRow w1.heap.size 3 1 (.slice Av q cv) q (I64 (ofN (fltE e (O.take (k + 1)))))) := by show World.ownsRow _ _ _ _ _ _ _; rw [hFN]; exact HO.out
        have HQ2 : Hid (q = (fltE e (O.take (k + 1))).length) := by show _ = _; rw [hFN]; exact HQ.out
        clear hFN FY FN HO HQ
        subst hxe
        go_wp2_with fail
        go_roundw
        case rel => exact ⟨k + 1, q, Av, cv, by omega, by omega, by go_num, rfl, HQ2.out, HO2.out, HB.out⟩
        case measure => simp [intOf]; omega
      · have hde : decide (x2 = e) = false := decide_eq_false hxe
        have hFY := FY.out hxe
        have HQ2 : Hid (q + 1 = (fltE e (O.take (k + 1))).length) := by show _ = _; rw [hFY, List.length_append, ← HQ.out]; rfl
        have hR0 : Hid (I64 (ofN (fltE e (O.take k))) ++ I64 [(x : Int)] = I64 (ofN (fltE e (O.take (k + 1))))) := by show _ = _; rw [hFY, ofN_append, I64_append]; rfl
        have hownA := HO.out.alloc (.cells #[.int .i64 (x : Int)] 3)
        have r3 := Rd.new wr 3 #[.int .i64 (x : Int)] 1 (I64 [(x : Int)]) (by simp [I64]) (by simp)
        have t1 : q + 1 ≤ maxLen := by simp only [maxLen]; omega
        have t2 : (q + 1) * 8 ≤ 140737488355328 := by omega
        have t3 : w1.heap.size ≤ (wr.alloc (.cells #[.int .i64 (x : Int)] 3)).heap.size := by simp; omega
        clear hFY FY FN HO HQ
        go_wp2_with (first
          | (at_builtin; go_must (refine wpList_append_rd _ rfl _ _ 25 rfl w1.heap.size 3 i0 (.int .i64 0) 8 Try.underlying25 hi0 hz0 hz1 hz2 rfl (.slice Av q cv) q (I64 (ofN (fltE e (O.take k)))) rfl hownA (wr.heap.size + 1) (some ⟨wr.heap.size, 0, none⟩) 1 1 (I64 [(x : Int)]) rfl r3 (I64_one _) t1 t2 t3 ?_)))
        intro A6 c6 w6 hc6 hm6 hown6 hg6 _
        have hb6 : Below w1.heap.size w1 w6 := (HB.out.trans ((Below.refl w1.heap.size wr).alloc HBS _)).trans (Below.appended hownA hg6 t3)
        rw [hR0.out] at hown6
        clear hownA r3 hg6
        go_wp2_with fail
        go_roundw
        case rel => exact ⟨k + 1, q + 1, A6, c6, by omega, by omega, by go_num, rfl, HQ2.out, hown6, hb6⟩
        case measure => simp [intOf]; omega
    · obtain rfl : k = K := by omega
      have hdk : decide (k < k) = false := by simp
      have HT : Hid (fltE e (O.take k) = fltE e O) := by show _ = _; rw [HKO.out, List.take_length]
      have FIN : Hid (q = (ofN (fltE e O)).length ∧ wr.ownsRow w.heap.size 3 1 (.slice Av q cv) q (I64 (ofN (fltE e O)))) := by
        refine ⟨by rw [ofN_len, ← HT.out]; exact HQ.out, ?_⟩
        rw [← HT.out]; exact HO.out.base_le' B1.out.size
      have BF : Hid (Below w.heap.size w wr) := B1.out.trans (HB.out.mono B1.out.size)
      clear HT HO HQ
      go_wp2_with fail
      go_ret
      have h1 := FIN.out.1
      exact .mk rfl (by rw [← h1]; exact FIN.out.2) BF.out
end Go.Proofs.Ytnnjjhjohjajnaa
