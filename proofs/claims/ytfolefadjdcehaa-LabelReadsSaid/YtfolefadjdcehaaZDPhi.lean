/- A map of numbers, and the document's. made: a map of numbers, and the document's. What maps that are answer: Vertex, Face, Mate, Degree, Rooted; the document's Mate and Phi. The document's Phi. -/
import Derived.Test.YtfolefadjdcehaaZDMap2
import Derived.Laws.ResultCell
import Derived.Deep.RegionLaw
import Derived.Deep.AppendLies
namespace Go.Proofs.Ytfolefadjdcehaa
set_option maxRecDepth 20000
open Go.RowKit
set_option linter.unusedVariables false

theorem info_rmap : (Try.prog.info? 27).map (·.size) = some 3 := by kernel_rfl
/-- The document's map, as a value. -/
def RMap (lo : Nat) (w : World) (l b : List Nat) (root lone : Int) (v : Value) : Prop :=
  Inv l b ∧ ∃ A c, inLo lo A ∧ v = .agg #[.slice A l.length c, .int .i64 root, .int .i64 lone] ∧ l.length ≤ c ∧ c ≤ maxLen ∧ Rd w w.heap.size A l.length (I64 (ofN l))
theorem RMap.below {lo : Nat} {w w' : World} {l b : List Nat} {root lone : Int} {v : Value} (h : RMap lo w l b root lone v) (m : Below w.heap.size w w') : RMap lo w' l b root lone v := by
  obtain ⟨hi, A, c, hlo, e, h1, h2, r⟩ := h
  exact ⟨hi, A, c, hlo, e, h1, h2, r.more m⟩
set_option maxHeartbeats 2000000 in
theorem any_p (k r m c B : Nat) (A : Option Addr) (by_ : List Int) (w : World) (h : Rd w B A m (Z8 by_)) (hb : ∀ x ∈ by_, 0 ≤ x ∧ x < 256) (hB : B ≤ w.heap.size) (hk : k ≤ 100) (hr : r < 256) (hm : m ≤ 9223372036854775807) :
    Calls Try.prog 10 #[.int .i64 (k : Int), .slice A m c, .int .u8 (r : Int)] w fun e w' => ∃ v l b root, e = .returned v ∧ RMap w.heap.size w' l b root 0 v ∧ l.length = 2 * k ∧ RootOk root (2 * k) ∧ Below w.heap.size w w' := by
  have hb0 := (Below.refl w.heap.size w).alloc (Nat.le_refl _) (.cells #[.slice none 0 0, .int .i64 0, .int .i64 0] 27)
  obtain ⟨n2, hn2⟩ : ∃ n2, n2 = 2 * k := ⟨_, rfl⟩
  rw [← hn2]
  have MX := Lib.hid (mix_p n2 m c B A by_ _ (h.below (hb0.mono hB)) hb (by omega) hm)
  have HINF := Lib.hid info_rmap
  have hk2 : 2 * (k : Int) = (n2 : Int) := by omega
  have HN2 := Lib.hid hn2
  clear h hb hn2
  go_enter Try.func10, Try.ntmps10
  go_wp2_with fail
  refine MX.out.mono ?_
  rintro e w2 ⟨l, b, hinv, hl, A2, c2, rfl, hc2, hm2, hown, b2⟩
  have hR : Blk w2 w.heap.size 27 #[.slice none 0 0, .int .i64 0, .int .i64 0] := (b2.block w.heap.size (by simp)).trans (Blk.new w _ _)
  have hs2 : w.heap.size < w2.heap.size := hR.lt
  have B2 : Hid (Below w.heap.size w w2) := hb0.trans (b2.mono (by simp))
  rw [ofN_len, hl] at hown hc2 ⊢
  have HA : Hid (Rd w2 w2.heap.size A2 n2 (I64 (ofN l))) := Rd.ofOwn hown
  have HNA : Hid (0 < n2 → ∃ q, A2 = some ⟨q, 0, none⟩ ∧ w.heap.size < q) := fun h0 => by
    obtain ⟨q, e, h1, _⟩ := own_some hown h0
    refine ⟨q, e, ?_⟩
    simp at h1; omega
  have HLA := Lib.hid ((own_inLo hown).le (show w.heap.size ≤ _ by simp))
  have HI := Lib.hid hinv
  have HL := Lib.hid hl
  have r0 := hR.cell 0
  have r1 := hR.cell 1
  have r2 := hR.cell 2
  have f0 := hR.frozen 0
  have f1 := hR.frozen 1
  have f2 := hR.frozen 2
  simp at r0 r1 r2
  have HR := Lib.hid hR
  have HM2 := Lib.hid hm2
  have hn9 : n2 ≤ 200 := by have := HN2.out; omega
  clear hown b2 hb0 hinv hl hR MX hm2
  have fin : Hid (∀ (root : Int), RootOk root n2 → ∀ o w4, w4 = (((w2.setCell ⟨w.heap.size, 0, none⟩ (.slice A2 n2 c2)).setCell ⟨w.heap.size, 1, none⟩ (.int .i64 root)).setCell ⟨w.heap.size, 2, none⟩ (.int .i64 0)).alloc o →
      Blk w4 w.heap.size 27 #[.slice A2 n2 c2, .int .i64 root, .int .i64 0] ∧ RMap w.heap.size w4 l b root 0 (.agg #[.slice A2 n2 c2, .int .i64 root, .int .i64 0]) ∧ Below w.heap.size w w4) := by
    intro root hroot o w4 hw4
    subst hw4
    have MM : Mod (fun i => i = w.heap.size) w2 (((w2.setCell ⟨w.heap.size, 0, none⟩ (.slice A2 n2 c2)).setCell ⟨w.heap.size, 1, none⟩ (.int .i64 root)).setCell ⟨w.heap.size, 2, none⟩ (.int .i64 0)) :=
      Mod.setCell (p := ⟨w.heap.size, 2, none⟩) (Mod.setCell (p := ⟨w.heap.size, 1, none⟩) (Mod.setCell (p := ⟨w.heap.size, 0, none⟩) (Mod.refl (fun i => i = w.heap.size) w2) (fun _ => rfl) _) (fun _ => rfl) _) (fun _ => rfl) _
    have ba := (Below.refl _ (((w2.setCell ⟨w.heap.size, 0, none⟩ (.slice A2 n2 c2)).setCell ⟨w.heap.size, 1, none⟩ (.int .i64 root)).setCell ⟨w.heap.size, 2, none⟩ (.int .i64 0))).alloc (Nat.le_refl _) o
    have hBw := B2.out.trans (MM.belowB (Nat.le_of_lt hs2) fun i hi hf => by omega)
    refine ⟨?_, ⟨HI.out, A2, c2, HLA.out, by rw [HL.out], by rw [HL.out]; exact hc2, HM2.out, ?_⟩, hBw.trans (ba.mono hBw.size)⟩
    · have := ((HR.out.set_ 0 (.slice A2 n2 c2)).set_ 1 (.int .i64 root)).set_ 2 (.int .i64 0)
      exact Blk.alloc (by simpa using this) o
    · rw [HL.out]
      exact ((HA.out.mod MM (Nat.le_refl _) (fun h0 k hk hf => by
        obtain ⟨q, e, hq⟩ := HNA.out h0
        obtain ⟨a, e2, rfl⟩ := hk
        rw [e] at e2
        cases e2
        simp at hf; omega)).up MM.size).more ba
  rcases Nat.eq_zero_or_pos k with h0 | h0
  · have hkI : ¬ (0 : Int) < (k : Int) := by omega
    have hroot : RootOk (-1) n2 := .inl ⟨by have := HN2.out; omega, rfl⟩
    go_wp2_with fail
    obtain ⟨g1, g2, g3⟩ := fin.out (-1) hroot _ _ rfl
    refine bodyPost_ret (results_cell_row rfl _ _ w.heap.size 27 _ (0, 0) _ rfl g1 Try.underlying27 rfl HINF.out) rfl ?_
    exact ⟨_, l, b, -1, rfl, g2, HL.out, hroot, g3⟩
  · have hkI : (0 : Int) < (k : Int) := by omega
    obtain ⟨q, hq, hqn⟩ : ∃ q : Nat, (r : Int) % (n2 : Int) = (q : Int) ∧ q < n2 := by
      have hn0 : 0 < n2 := by have := HN2.out; omega
      refine ⟨r % n2, by rw [Int.natCast_emod], Nat.mod_lt _ hn0⟩
    have hroot : RootOk (q : Int) n2 := .inr ⟨by omega, by omega, by omega⟩
    have hn0 : ¬ (n2 : Int) = 0 := by omega
    go_wp2_with fail
    obtain ⟨g1, g2, g3⟩ := fin.out (q : Int) hroot _ _ rfl
    refine bodyPost_ret (results_cell_row rfl _ _ w.heap.size 27 _ (0, 0) _ rfl g1 Try.underlying27 rfl HINF.out) rfl ?_
    exact ⟨_, l, b, q, rfl, g2, HL.out, hroot, g3⟩
end Go.Proofs.Ytfolefadjdcehaa
namespace Go.Proofs.Ytfolefadjdcehaa
set_option maxRecDepth 20000
open Go.RowKit
set_option linter.unusedVariables false

theorem results_tmp_cell_row {P : Program} {fn : Func} {p u : Tmp} {ty : TypeId} (h : fn.results = #[.tmp u, .cell p ty]) (tmps : Array Value) (w : World) (g : Nat) (t : TypeId) (cs : Array Value) (fr : Nat × Nat) (d : TypeDesc)
    (hp : tmps.getD p undef = .pointer (some ⟨g, 0, none⟩)) (hg : w.heap[g]? = some (.cells cs t fr))
    (hu : P.underlying ty = some d) (hd : (match d with | .struct _ | .array _ _ => true | _ => false) = true) (hi : (P.info? ty).map (·.size) = some cs.size) :
    (results fn tmps).run P w = .ok (.tuple #[tmps.getD u undef, .agg cs]) w := by
  have hp' : tmps[p]?.getD undef = .pointer (some ⟨g, 0, none⟩) := by simpa using hp
  simp [results, h, hp', asAddr, run_loadVar_row w g t ty cs fr d hg hu hd hi, Result.andThen]
def MadePost (w : World) (k lo : Nat) (e : Ending) (w' : World) : Prop :=
  ∃ g v l b root, e = .returned (.tuple #[.pointer (some ⟨g, 0, none⟩), v]) ∧ MapAt w' g l b root (lo : Int) ∧ RMap w.heap.size w' l b root (lo : Int) v ∧ l.length = 2 * k ∧ RootOk root (2 * k) ∧ Below w.heap.size w w'
end Go.Proofs.Ytfolefadjdcehaa
namespace Go.Proofs.Ytfolefadjdcehaa
set_option maxRecDepth 20000
open Go.RowKit
set_option linter.unusedVariables false

theorem mate_in (g : Nat) (l b : List Nat) (root lone : Int) (i : Nat) (w : World) (h : MapAt w g l b root lone) (hi : i < l.length) :
    Calls Try.prog 58 #[.pointer (some ⟨g, 0, none⟩), .int .i64 (i : Int)] w fun e w' => e = .returned (.int .i64 ((mateN i : Nat) : Int)) ∧ Below w.heap.size w w' := by
  have DS := Lib.hid (darts_p g l b root lone w h)
  have MT := Lib.hid (fun w' => mate_p i w' (by have := h.2.1; omega))
  have hlt : ¬ (l.length : Int) ≤ (i : Int) := by omega
  clear h hi
  generalize mateN i = x at *
  go_enter Try.func58, Try.ntmps58
  go_wp2_with fail
  refine DS.out.mono ?_
  rintro e w1 ⟨rfl, b1⟩
  go_wp2_with fail
  refine (MT.out _).mono ?_
  rintro e w2 ⟨rfl, rfl⟩
  go_wp2_with fail
  go_ret
  exact ⟨rfl, b1⟩
theorem mate_out (g : Nat) (l b : List Nat) (root lone : Int) (i : Int) (w : World) (h : MapAt w g l b root lone) (hi : i < 0 ∨ (l.length : Int) ≤ i) :
    Calls Try.prog 58 #[.pointer (some ⟨g, 0, none⟩), .int .i64 i] w fun e w' => e = .returned (.int .i64 (-1)) ∧ Below w.heap.size w w' := by
  have DS := Lib.hid (darts_p g l b root lone w h)
  clear h
  by_cases h0 : i < 0
  · go_enter Try.func58, Try.ntmps58
    go_wp2_with fail
    go_ret
    exact ⟨rfl, Below.refl _ _⟩
  · have h1 : (l.length : Int) ≤ i := by omega
    clear hi
    go_enter Try.func58, Try.ntmps58
    go_wp2_with fail
    refine DS.out.mono ?_
    rintro e w1 ⟨rfl, b1⟩
    go_wp2_with fail
    go_ret
    exact ⟨rfl, b1⟩
theorem rmate_p (i : Nat) (w : World) (hi : i ≤ 1000000) :
    Calls Try.prog 42 #[.int .i64 (i : Int)] w fun e w' => e = .returned (.int .i64 ((mateN i : Nat) : Int)) ∧ w = w' := by
  rw [mateN_eq]
  by_cases h : i % 2 = 0
  · rw [if_pos h]
    have h1 : (i : Int) % 2 = 0 := by omega
    clear h
    go_enter Try.func42, Try.ntmps42
    go_wp2
    go_ret
    exact ⟨by simp, rfl⟩
  · rw [if_neg h]
    have h1 : (i : Int) % 2 = 1 := by omega
    have h2 : ((i - 1 : Nat) : Int) = (i : Int) - 1 := by omega
    rw [h2]
    clear h h2
    go_enter Try.func42, Try.ntmps42
    go_wp2
    go_ret
    exact ⟨rfl, rfl⟩
end Go.Proofs.Ytfolefadjdcehaa
namespace Go.Proofs.Ytfolefadjdcehaa
set_option maxRecDepth 20000
open Go.RowKit
set_option linter.unusedVariables false

theorem take_oneN (l : List Nat) (k : Nat) (h : k < l.length) : l.take (k + 1) = l.take k ++ [l.getD k 0] := by
  rw [← List.take_append_getElem h, List.getD_eq_getElem?_getD, List.getElem?_eq_getElem h]; rfl
theorem phiL_get (l : List Nat) (k : Nat) (hk : k < l.length) : (phiL l).getD k 0 = l.getD (mateN k) 0 := by
  unfold phiL
  rw [comp_get _ _ _ (by rw [mateL_len]; exact hk), mateL_get _ _ hk]
end Go.Proofs.Ytfolefadjdcehaa
