/- A map of numbers, and the document's. made: a map of numbers, and the document's. What maps that are answer: Vertex, Face, Mate, Degree, Rooted; the document's Mate and Phi. The document's Phi. append(s, make([]T, k)...) onto a row of one's own: with room and without. A map of the document's that was told into memory of its own. -/
import Derived.Test.YtgcbdoljapnecaaZDMap2
import Derived.Laws.ResultCell
import Derived.Deep.RegionLaw
import Derived.Deep.AppendLies
import Derived.Test.YtgcbdoljapnecaaZg1
import Derived.Lib.AppendZerosOnto
import Derived.Test.YtgcbdoljapnecaaZPNames
namespace Go.Proofs.Ytgcbdoljapnecaa
set_option maxRecDepth 20000
open Go.RowKit
set_option linter.unusedVariables false

theorem info_rmap : (Try.prog.info? 27).map (·.size) = some 3 := by kernel_rfl
/-- The document's map, as a value. -/
def RMap (lo : Nat) (w : World) (l b : List Nat) (root lone : Int) (v : Value) : Prop :=
  Inv l b ∧ ∃ A c, inLo lo A ∧ v = .agg #[.slice A l.length c, .int .i64 root, .int .i64 lone] ∧ l.length ≤ c ∧ c ≤ maxLen ∧ Rd w w.heap.size A l.length (I64 (ofN l))
theorem RMap.below {lo : Nat} {w w' : World} {l b : List Nat} {root lone : Int} {v : Value} (h : RMap lo w l b root lone v) (m : Below w.heap.size w w') : RMap lo w' l b root lone v := by
  obtain ⟨hi, A, c, hlo, e, h1, h2, r⟩ := h
  exact ⟨hi, A, c, hlo, e, h1, h2, r.more m⟩
set_option maxHeartbeats 2000000 in
theorem any_p (k r m c B : Nat) (A : Option Addr) (by_ : List Int) (w : World) (h : Rd w B A m (Z8 by_)) (hb : ∀ x ∈ by_, 0 ≤ x ∧ x < 256) (hB : B ≤ w.heap.size) (hk : k ≤ 100) (hr : r < 256) (hm : m ≤ 9223372036854775807) :
    Calls Try.prog 25 #[.int .i64 (k : Int), .slice A m c, .int .u8 (r : Int)] w fun e w' => ∃ v l b root, e = .returned v ∧ RMap w.heap.size w' l b root 0 v ∧ l.length = 2 * k ∧ RootOk root (2 * k) ∧ Below w.heap.size w w' := by
  have hb0 := (Below.refl w.heap.size w).alloc (Nat.le_refl _) (.cells #[.slice none 0 0, .int .i64 0, .int .i64 0] 27)
  obtain ⟨n2, hn2⟩ : ∃ n2, n2 = 2 * k := ⟨_, rfl⟩
  rw [← hn2]
  have MX := Lib.hid (mix_p n2 m c B A by_ _ (h.below (hb0.mono hB)) hb (by omega) hm)
  have HINF := Lib.hid info_rmap
  have hk2 : 2 * (k : Int) = (n2 : Int) := by omega
  have HN2 := Lib.hid hn2
  clear h hb hn2
  go_enter Try.func25, Try.ntmps25
  go_wp2_with fail
  refine MX.out.mono ?_
  rintro e w2 ⟨l, b, hinv, hl, A2, c2, rfl, hc2, hm2, hown, b2⟩
  have hR : Blk w2 w.heap.size 27 #[.slice none 0 0, .int .i64 0, .int .i64 0] := (b2.block w.heap.size (by simp)).trans (Blk.new w _ _)
  have hs2 : w.heap.size < w2.heap.size := hR.lt
  have B2 : Hid (Below w.heap.size w w2) := hb0.trans (b2.mono (by simp))
  rw [ofN_len, hl] at hown hc2 ⊢
  have HA : Hid (Rd w2 w2.heap.size A2 n2 (I64 (ofN l))) := Rd.ofOwn hown
  have HNA : Hid (0 < n2 → ∃ q, A2 = some ⟨q, 0, none⟩ ∧ w.heap.size < q) := fun h0 => by
    obtain ⟨q, e, h1, _⟩ := own_some hown h0
    refine ⟨q, e, ?_⟩
    simp at h1; omega
  have HLA := Lib.hid ((own_inLo hown).le (show w.heap.size ≤ _ by simp))
  have HI := Lib.hid hinv
  have HL := Lib.hid hl
  have r0 := hR.cell 0
  have r1 := hR.cell 1
  have r2 := hR.cell 2
  have f0 := hR.frozen 0
  have f1 := hR.frozen 1
  have f2 := hR.frozen 2
  simp at r0 r1 r2
  have HR := Lib.hid hR
  have HM2 := Lib.hid hm2
  have hn9 : n2 ≤ 200 := by have := HN2.out; omega
  clear hown b2 hb0 hinv hl hR MX hm2
  have fin : Hid (∀ (root : Int), RootOk root n2 → ∀ o w4, w4 = (((w2.setCell ⟨w.heap.size, 0, none⟩ (.slice A2 n2 c2)).setCell ⟨w.heap.size, 1, none⟩ (.int .i64 root)).setCell ⟨w.heap.size, 2, none⟩ (.int .i64 0)).alloc o →
      Blk w4 w.heap.size 27 #[.slice A2 n2 c2, .int .i64 root, .int .i64 0] ∧ RMap w.heap.size w4 l b root 0 (.agg #[.slice A2 n2 c2, .int .i64 root, .int .i64 0]) ∧ Below w.heap.size w w4) := by
    intro root hroot o w4 hw4
    subst hw4
    have MM : Mod (fun i => i = w.heap.size) w2 (((w2.setCell ⟨w.heap.size, 0, none⟩ (.slice A2 n2 c2)).setCell ⟨w.heap.size, 1, none⟩ (.int .i64 root)).setCell ⟨w.heap.size, 2, none⟩ (.int .i64 0)) :=
      Mod.setCell (p := ⟨w.heap.size, 2, none⟩) (Mod.setCell (p := ⟨w.heap.size, 1, none⟩) (Mod.setCell (p := ⟨w.heap.size, 0, none⟩) (Mod.refl (fun i => i = w.heap.size) w2) (fun _ => rfl) _) (fun _ => rfl) _) (fun _ => rfl) _
    have ba := (Below.refl _ (((w2.setCell ⟨w.heap.size, 0, none⟩ (.slice A2 n2 c2)).setCell ⟨w.heap.size, 1, none⟩ (.int .i64 root)).setCell ⟨w.heap.size, 2, none⟩ (.int .i64 0))).alloc (Nat.le_refl _) o
    have hBw := B2.out.trans (MM.belowB (Nat.le_of_lt hs2) fun i hi hf => by omega)
    refine ⟨?_, ⟨HI.out, A2, c2, HLA.out, by rw [HL.out], by rw [HL.out]; exact hc2, HM2.out, ?_⟩, hBw.trans (ba.mono hBw.size)⟩
    · have := ((HR.out.set_ 0 (.slice A2 n2 c2)).set_ 1 (.int .i64 root)).set_ 2 (.int .i64 0)
      exact Blk.alloc (by simpa using this) o
    · rw [HL.out]
      exact ((HA.out.mod MM (Nat.le_refl _) (fun h0 k hk hf => by
        obtain ⟨q, e, hq⟩ := HNA.out h0
        obtain ⟨a, e2, rfl⟩ := hk
        rw [e] at e2
        cases e2
        simp at hf; omega)).up MM.size).more ba
  rcases Nat.eq_zero_or_pos k with h0 | h0
  · have hkI : ¬ (0 : Int) < (k : Int) := by omega
    have hroot : RootOk (-1) n2 := .inl ⟨by have := HN2.out; omega, rfl⟩
    go_wp2_with fail
    obtain ⟨g1, g2, g3⟩ := fin.out (-1) hroot _ _ rfl
    refine bodyPost_ret (results_cell_row rfl _ _ w.heap.size 27 _ (0, 0) _ rfl g1 Try.underlying27 rfl HINF.out) rfl ?_
    exact ⟨_, l, b, -1, rfl, g2, HL.out, hroot, g3⟩
  · have hkI : (0 : Int) < (k : Int) := by omega
    obtain ⟨q, hq, hqn⟩ : ∃ q : Nat, (r : Int) % (n2 : Int) = (q : Int) ∧ q < n2 := by
      have hn0 : 0 < n2 := by have := HN2.out; omega
      refine ⟨r % n2, by rw [Int.natCast_emod], Nat.mod_lt _ hn0⟩
    have hroot : RootOk (q : Int) n2 := .inr ⟨by omega, by omega, by omega⟩
    have hn0 : ¬ (n2 : Int) = 0 := by omega
    go_wp2_with fail
    obtain ⟨g1, g2, g3⟩ := fin.out (q : Int) hroot _ _ rfl
    refine bodyPost_ret (results_cell_row rfl _ _ w.heap.size 27 _ (0, 0) _ rfl g1 Try.underlying27 rfl HINF.out) rfl ?_
    exact ⟨_, l, b, q, rfl, g2, HL.out, hroot, g3⟩
end Go.Proofs.Ytgcbdoljapnecaa
namespace Go.Proofs.Ytgcbdoljapnecaa
set_option maxRecDepth 20000
open Go.RowKit
set_option linter.unusedVariables false

theorem results_tmp_cell_row {P : Program} {fn : Func} {p u : Tmp} {ty : TypeId} (h : fn.results = #[.tmp u, .cell p ty]) (tmps : Array Value) (w : World) (g : Nat) (t : TypeId) (cs : Array Value) (fr : Nat × Nat) (d : TypeDesc)
    (hp : tmps.getD p undef = .pointer (some ⟨g, 0, none⟩)) (hg : w.heap[g]? = some (.cells cs t fr))
    (hu : P.underlying ty = some d) (hd : (match d with | .struct _ | .array _ _ => true | _ => false) = true) (hi : (P.info? ty).map (·.size) = some cs.size) :
    (results fn tmps).run P w = .ok (.tuple #[tmps.getD u undef, .agg cs]) w := by
  have hp' : tmps[p]?.getD undef = .pointer (some ⟨g, 0, none⟩) := by simpa using hp
  simp [results, h, hp', asAddr, run_loadVar_row w g t ty cs fr d hg hu hd hi, Result.andThen]
end Go.Proofs.Ytgcbdoljapnecaa
namespace Go.Proofs.Ytgcbdoljapnecaa
set_option maxRecDepth 20000
open Go.RowKit
set_option linter.unusedVariables false

theorem name_in (p : Nat) (l b : List Nat) (A S : Option Addr) (c k d i : Nat) (w : World) (hp : PermAt w p l b) (hr : Rd w w.heap.size A l.length (I64 (ofN (names l)))) (hi : i < l.length) :
    Calls Try.prog 77 #[.agg #[.pointer (some ⟨p, 0, none⟩), .slice A l.length c, .slice S k d], .int .i64 (i : Int)] w fun e w' => e = .returned (.int .i64 ((nameOf l i : Nat) : Int)) ∧ Below w.heap.size w w' := by
  have hb := (Below.refl w.heap.size w).alloc (Nat.le_refl _) (.cells #[.pointer (some ⟨p, 0, none⟩), .slice A l.length c, .slice S k d] 67)
  have LN := Lib.hid (len_p p l b _ (hp.below hb))
  obtain ⟨b', o, rfl, _, k1⟩ := (hr.more hb).i64 (by omega)
  have t1 := k1 i hi
  rw [ofN_get, names_get _ _ hi] at t1
  have hlt : ¬ (l.length : Int) ≤ (i : Int) := by omega
  have hl9 := hp.2.1
  clear hp hr k1
  generalize nameOf l i = x at *
  go_enter Try.func77, Try.ntmps77
  go_wp2_with fail
  refine LN.out.mono ?_
  rintro e w2 ⟨rfl, rfl⟩
  go_wp2_with fail
  go_ret
  exact ⟨rfl, hb⟩
theorem face_in (g : Nat) (l b : List Nat) (root lone : Int) (i : Nat) (w : World) (h : MapAt w g l b root lone) (hi : i < l.length) :
    Calls Try.prog 50 #[.pointer (some ⟨g, 0, none⟩), .int .i64 (i : Int)] w fun e w' => e = .returned (.int .i64 ((nameOf (phiL l) i : Nat) : Int)) ∧ Below w.heap.size w w' := by
  have VS := Lib.hid (faces_p g l b root lone w h)
  have HLN := Lib.hid (phiL_len l)
  have HI := Lib.hid hi
  clear h hi
  go_enter Try.func50, Try.ntmps50
  go_wp2_with fail
  refine VS.out.mono ?_
  rintro e w1 ⟨p, A, c, S, d, rfl, hp, r1, r2, b1⟩
  have CC := Lib.hid (name_in p (phiL l) _ A S c (sizes (phiL l)).length d i w1 hp r1 (by rw [HLN.out]; exact HI.out))
  clear hp r1 r2
  go_wp2_with fail
  refine CC.out.mono ?_
  rintro e w2 ⟨rfl, b2⟩
  go_wp2_with fail
  go_ret
  exact ⟨rfl, b1.trans (b2.mono b1.size)⟩
theorem mate_in (g : Nat) (l b : List Nat) (root lone : Int) (i : Nat) (w : World) (h : MapAt w g l b root lone) (hi : i < l.length) :
    Calls Try.prog 51 #[.pointer (some ⟨g, 0, none⟩), .int .i64 (i : Int)] w fun e w' => e = .returned (.int .i64 ((mateN i : Nat) : Int)) ∧ Below w.heap.size w w' := by
  have DS := Lib.hid (darts_p g l b root lone w h)
  have MT := Lib.hid (fun w' => mate_p i w' (by have := h.2.1; omega))
  have hlt : ¬ (l.length : Int) ≤ (i : Int) := by omega
  clear h hi
  generalize mateN i = x at *
  go_enter Try.func51, Try.ntmps51
  go_wp2_with fail
  refine DS.out.mono ?_
  rintro e w1 ⟨rfl, b1⟩
  go_wp2_with fail
  refine (MT.out _).mono ?_
  rintro e w2 ⟨rfl, rfl⟩
  go_wp2_with fail
  go_ret
  exact ⟨rfl, b1⟩
theorem rmate_p (i : Nat) (w : World) (hi : i ≤ 1000000) :
    Calls Try.prog 35 #[.int .i64 (i : Int)] w fun e w' => e = .returned (.int .i64 ((mateN i : Nat) : Int)) ∧ w = w' := by
  rw [mateN_eq]
  by_cases h : i % 2 = 0
  · rw [if_pos h]
    have h1 : (i : Int) % 2 = 0 := by omega
    clear h
    go_enter Try.func35, Try.ntmps35
    go_wp2
    go_ret
    exact ⟨by simp, rfl⟩
  · rw [if_neg h]
    have h1 : (i : Int) % 2 = 1 := by omega
    have h2 : ((i - 1 : Nat) : Int) = (i : Int) - 1 := by omega
    rw [h2]
    clear h h2
    go_enter Try.func35, Try.ntmps35
    go_wp2
    go_ret
    exact ⟨rfl, rfl⟩
end Go.Proofs.Ytgcbdoljapnecaa
namespace Go.Proofs.Ytgcbdoljapnecaa
set_option maxRecDepth 20000
open Go.RowKit
set_option linter.unusedVariables false

theorem take_oneN (l : List Nat) (k : Nat) (h : k < l.length) : l.take (k + 1) = l.take k ++ [l.getD k 0] := by
  rw [← List.take_append_getElem h, List.getD_eq_getElem?_getD, List.getElem?_eq_getElem h]; rfl
theorem phiL_get (l : List Nat) (k : Nat) (hk : k < l.length) : (phiL l).getD k 0 = l.getD (mateN k) 0 := by
  unfold phiL
  rw [comp_get _ _ _ (by rw [mateL_len]; exact hk), mateL_get _ _ hk]
set_option maxHeartbeats 4000000 in
theorem rphi_p (A : Option Addr) (c : Nat) (l : List Nat) (root lone : Int) (w : World) (h : Rd w w.heap.size A l.length (I64 (ofN l))) (he : l.length % 2 = 0) (hn : l.length ≤ 100000) :
    Calls Try.prog 32 #[.agg #[.slice A l.length c, .int .i64 root, .int .i64 lone]] w (NewI64 w (ofN (phiL l))) := by
  obtain ⟨i0, hi0, hz0, hz1, hz2⟩ := info_parts info_int
  have hb0 := (Below.refl w.heap.size w).alloc (Nat.le_refl _) (.cells #[.slice A l.length c, .int .i64 root, .int .i64 lone] 27)
  have H := Lib.hid (h.below hb0)
  have HBX := Lib.hid (Blk.new w 27 #[.slice A l.length c, .int .i64 root, .int .i64 lone])
  have HE := Lib.hid he
  have HPL := Lib.hid (phiL_len l)
  clear h he
  go_enter Try.func32, Try.ntmps32
  go_wp2_with fail
  generalize hw1 : w.alloc (.cells #[.slice A l.length c, .int .i64 root, .int .i64 lone] 27) = w1 at *
  have hs1 : w1.heap.size = w.heap.size + 1 := by rw [← hw1]; simp
  clear hw1
  go_loopw [3, 8] (fun v i wr => ∃ (k : Nat) (Av : Option Addr) (cv : Nat), k ≤ l.length ∧ i = .int .i64 (k : Int) ∧ v = .slice Av k cv ∧ Hid (wr.ownsRow (w.heap.size + 1) 3 1 (.slice Av k cv) k (I64 (ofN ((phiL l).take k)))) ∧ Hid (Below (w.heap.size + 1) w1 wr)) (fun _ i _ => l.length - (intOf i).toNat)
  case atStart => exact ⟨0, none, 0, by omega, rfl, rfl, World.ownsRow_nil _ _ _ _, Below.refl _ _⟩
  case round =>
    obtain ⟨k, Av, cv, hk, rfl, rfl, hown, hbl⟩ := hrel
    by_cases hlt : k < l.length
    · have hml := mateN_lt HE.out hlt
      have hr := H.out.below (hbl.out.mono (by omega))
      obtain ⟨b', o, rfl, hb'l, k1⟩ := hr.i64 (by omega)
      have t1 := k1 (mateN k) hml
      rw [ofN_get] at t1
      have hbx := (hbl.out.block w.heap.size (by omega)).trans HBX.out
      have x0 : wr.cell? ⟨w.heap.size, 0, none⟩ = some (.slice (some ⟨b', o, none⟩) l.length c) := Blk.cell hbx 0
      have MT := Lib.hid (fun w' => rmate_p k w' (by omega))
      have NX : Hid (I64 (ofN ((phiL l).take k)) ++ I64 [((l.getD (mateN k) 0 : Nat) : Int)] = I64 (ofN ((phiL l).take (k + 1)))) := by
        show _ = _
        rw [take_oneN _ _ (by rw [HPL.out]; exact hlt), phiL_get _ _ hlt, ofN_append, I64_append]; rfl
      have hsr := hbl.out.size
      have hbw : w.heap.size < wr.heap.size := by omega
      have hbw2 : b' < wr.heap.size := by omega
      have t2 : k + 1 ≤ maxLen := by simp only [maxLen]; omega
      have t3 : (k + 1) * 8 ≤ 140737488355328 := by omega
      have hmI : ((mateN k : Nat) : Int) < (l.length : Int) := by omega
      have hmI0 : (0 : Int) ≤ ((mateN k : Nat) : Int) := Int.natCast_nonneg _
      clear hr k1 hbx
      generalize mateN k = mk at *
      generalize l.getD mk 0 = x at *
      go_wp2_with fail
      go_region_law (first
        | (refine step_append_lies _ (by rfl) _ _ _ (by rfl) (w.heap.size + 1) 3 i0 _ 1 8 Try.underlying25 hi0 hz0 hz1 hz2 rfl (by omega) (.slice Av k cv) k (I64 (ofN ((phiL l).take k))) (by rfl) ((hown.out.alloc _).drew)
            ⟨wr.heap.size, 0, none⟩ 1 1 [.int .i64 (x : Int)] (by rfl) (by rfl) (World.news_of_block (cs := #[.int .i64 (x : Int)]) (t := 3) (fr := (0, 0)) (heap_alloc_new wr _)) (by simp [Value.oneCell'])
            (by omega) t2 t3 (by simp; omega) (wr.heap.size + 1) (by simp) ?_; intro gg cap w3 hown1 hgrow hat hlt3
           have hbx3 : Below (w.heap.size + 1) wr w3 := ((Below.refl _ _).alloc (by omega) (.cells #[.int .i64 (x : Int)] 3)).drew.trans (Below.appended ((hown.out.alloc _).drew) hgrow (by simp; omega))
           have HO3 := Lib.hid hown1
           have HB3 := Lib.hid hbx3
           clear hown1 hgrow hat hbx3)
        | (go_simp; go_at_call 35; refine (MT.out _).mono ?_; rintro e w' ⟨rfl, rfl⟩))
      all_goals (
        go_wp2_with fail
        have HO4 : Hid (w3.ownsRow (w.heap.size + 1) 3 1 (.slice (some ⟨gg, 0, none⟩) (k + 1) cap) (k + 1) (I64 (ofN ((phiL l).take (k + 1))))) := by
          have := HO3.out
          rw [show [Value.int .i64 (x : Int)] = I64 [(x : Int)] from rfl, NX.out] at this
          exact this
        go_roundw
        case rel => exact ⟨k + 1, _, cap, by omega, by go_num, rfl, HO4.out, hbl.out.trans HB3.out⟩
        case measure => simp [intOf]; omega)
    · obtain rfl : k = l.length := by omega
      have e1 : (phiL l).take l.length = phiL l := List.take_of_length_le (by rw [HPL.out]; exact Nat.le_refl _)
      rw [e1] at hown
      have hB : Below w.heap.size w wr := hb0.trans (hbl.out.mono (Nat.le_succ _))
      clear hb0 e1
      go_wp2_with fail
      go_ret
      refine .mk rfl ?_ hB
      rw [ofN_len, HPL.out]
      exact hown.out.base_le' (Nat.le_succ _)
end Go.Proofs.Ytgcbdoljapnecaa
namespace Go.Proofs.Ytgcbdoljapnecaa
set_option maxRecDepth 20000
open Go.RowKit
set_option linter.unusedVariables false
theorem zeroCells_one {z : Value} (hz : z.cells = #[z]) (k : Nat) : (Builtin.zeroCells z.cells k).toList = List.replicate k z := by
  rw [hz]
  apply List.ext_getElem
  · simp [Builtin.zeroCells]
  · intro i h1 h2
    simp [Builtin.zeroCells, Nat.mod_one]
section
variable {P : Program} (w : World)
theorem run_append_zeros (t tn ty e : TypeId) (i : TypeInfo) (z : Value) (kq kn : IntKind) (ht : P.underlying t = some (.slice e)) (htn : P.underlying tn = some (.int kn)) (hi : P.info? e = some i) (hz : i.zero = some z)
    (hsize : i.size = 1) (hzs : z.cells = #[z]) (h1z : z.oneCell' = true) (base : Nat) (v : Value) (n : Nat) (xs : List Value) (hown : w.ownsRow base e 1 v n xs)
    (k : Nat) (h0 : 0 < k) (h63 : n + k ≤ maxLen) (hbytes : (n + k) * i.bytes ≤ 140737488355328) (hbase : base ≤ w.heap.size) :
    ∃ v' w', (Builtin.append_ #[t, tn] ty #[v, .int kq k]).run P w = .ok v' w' ∧ w'.ownsRow base e 1 v' (n + k) (xs ++ List.replicate k z) ∧ w.grownBy w' v.ownBlock ∧
      (v'.ownBlock = v.ownBlock ∨ v'.ownBlock = some w.heap.size) := by
  have hsmall : n + k ≤ 9223372036854775807 := by simp only [maxLen] at h63; omega
  have hlen : (xs ++ List.replicate k z).length = (n + k) * 1 := by rw [List.length_append, hown.1, List.length_replicate]; omega
  have h48 : k * i.bytes ≤ 281474976710656 := by
    have : k * i.bytes ≤ (n + k) * i.bytes := Nat.mul_le_mul_right _ (by omega)
    omega
  have zc := fun m => zeroCells_one hzs m
  have grown : ∀ (old : Nat), old < n + k → ∀ (row : Option Nat) (A : Array Value), A.toList = xs →
      (w.drew.alloc (.cells (A ++ Builtin.zeroCells z.cells k ++ Builtin.zeroCells z.cells (grownCap w (n + k) old e - (n + k))) e)).ownsRow base e 1
        (.slice (some ⟨w.heap.size, 0, none⟩) (n + k) (grownCap w (n + k) old e)) (n + k) (xs ++ List.replicate k z) ∧
      w.grownBy (w.drew.alloc (.cells (A ++ Builtin.zeroCells z.cells k ++ Builtin.zeroCells z.cells (grownCap w (n + k) old e - (n + k))) e)) row := by
    intro old ho row A hA
    have hge := grownCap_ge w (n + k) old e
    have hcm : grownCap w (n + k) old e ≤ maxLen := grownCap_le_maxLen w (n + k) old e h63
    have hAs : A.size = n := by rw [← Array.length_toList, hA, hown.1, Nat.mul_one]
    refine ⟨⟨hlen, .inr ⟨w.heap.size, _, _, rfl, hbase, heap_alloc_new w.drew _, hge, hcm, ?_, ?_⟩⟩, ⟨rfl, rfl, rfl, by simp, fun k hk _ => by first | exact heap_alloc_old w.drew _ k hk | exact heap_alloc_old w.drew _ hk⟩⟩
    · have hz1 : z.cells.size = 1 := by rw [hzs]; rfl
      simp only [Array.size_append, size_zeroCells, hz1, hAs]
      omega
    · simp only [Array.toList_append, hA, zc, List.append_assoc]
      rw [← List.append_assoc, ← hlen]
      exact List.take_left
  rcases hown.2 with ⟨rfl, rfl⟩ | ⟨g, cap, cur, rfl, hbg, hg, hnc, hcm, hcs, htake⟩
  · have hx : xs = [] := List.eq_nil_of_length_eq_zero (by simpa using hown.1)
    subst hx
    have hr := Lib.run_append_nil_zeros (P := P) w t tn ty e i z kq kn ht htn hi hz k h0 (by omega) (by omega) h48
    have hgr := grown 0 (by omega) (Value.ownBlock (.slice none 0 0)) #[] rfl
    simp only [Nat.zero_add, List.nil_append, Array.empty_append] at hgr ⊢
    exact ⟨_, _, hr, hgr.1, hgr.2, .inr rfl⟩
  · by_cases hroom : n + k ≤ cap
    · have hfit : n * i.size + (List.replicate k z).length ≤ cur.size := by rw [hcs, hsize, List.length_replicate]; omega
      have hst := run_storeCells_at P g (n * i.size) e (List.replicate k z) 0 cur w hg (by simpa using hfit) (fun u hu => by rw [List.eq_of_mem_replicate hu]; exact h1z)
      simp only [Nat.add_zero] at hst
      have hk : k ≠ 0 := by omega
      have hw : IntKind.i64.wrap (k : Int) = k := by rw [IntKind.wrap_i64]; omega
      have h48i : ¬ (281474976710656 < (k : Int) * (i.bytes : Int)) := by
        rw [← Int.natCast_mul]
        omega
      have hneg : ¬ ((k : Int) < 0) := by omega
      have hns : ¬ (k * i.size = 0) := Nat.mul_ne_zero hk (by omega)
      have hr : (Builtin.append_ #[t, tn] ty #[.slice (some ⟨g, 0, none⟩) n cap, .int kq k]).run P w = .ok (.slice (some ⟨g, 0, none⟩) (n + k) cap) (w.setRow g (cur.toList.take (n * i.size) ++ List.replicate k z ++ cur.toList.drop (n * i.size + (List.replicate k z).length)).toArray) := by
        simp [Builtin.append_, run_underlying ht, run_underlying htn, sizeOf, typeInfo, zeroValue, hi, hz, asInt, asIntOf, hw, hroom, hneg, hns, h48i, Addr.add_lit, zc, hst]
      refine ⟨_, _, hr, ⟨hlen, .inr ⟨g, cap, _, rfl, hbg, setRow_heap w g cur _ e _ hg, hroom, hcm, ?_, ?_⟩⟩, ⟨rfl, rfl, rfl, by simp, fun k _ hk => setRow_other w g k _ (fun e => hk (by simp [Value.ownBlock, e]))⟩, .inl rfl⟩
      · simp only [List.size_toArray, List.length_append, List.length_take, List.length_drop, Array.length_toList, List.length_replicate, hsize]
        omega
      · rw [hsize, htake, ← hlen]
        exact List.take_left
    · have holds : (Builtin.firstCells i.size n (.slice (some ⟨g, 0, none⟩) n cap)).run P w.drew = .ok xs.toArray w.drew := by
        have hc : ∀ j u, xs[j]? = some u → w.drew.cell? ((⟨g, 0, none⟩ : Addr).add j) = some u := fun j u hu => by
          have := hown.cells (g := g) rfl j u hu
          simpa using this
        exact run_firstCells_some w.drew i.size n ⟨g, 0, none⟩ n cap xs (by rw [hown.1, hsize]) hc
      have hfit : Builtin.nextslicecap (n + k) cap * i.bytes ≤ 281474976710656 := growslice_fits (by omega) hbytes
      have hr := Lib.run_append_grow_zeros (P := P) w t tn ty e i z kq kn ht htn hi hz (some ⟨g, 0, none⟩) n cap xs holds k h0 (by omega) (by omega) (by omega) h48 hfit
      have hgr := grown cap (by omega) (Value.ownBlock (.slice (some ⟨g, 0, none⟩) n cap)) xs.toArray (by simp)
      exact ⟨_, _, hr, hgr.1, hgr.2, .inr rfl⟩
end
end Go.Proofs.Ytgcbdoljapnecaa
namespace Go.Proofs.Ytgcbdoljapnecaa
set_option maxRecDepth 20000
open Go.RowKit
set_option linter.unusedVariables false
/-- A map that was told into memory of its own. -/
def NewRO (w : World) (l : List Nat) (root lone : Int) (e : Ending) (w' : World) : Prop :=
  ∃ A c, e = .returned (.agg #[.slice A l.length c, .int .i64 root, .int .i64 lone]) ∧ l.length ≤ c ∧ c ≤ maxLen ∧ w'.ownsRow w.heap.size 3 1 (.slice A l.length c) l.length (I64 (ofN l)) ∧ Below w.heap.size w w'
/-- What a map's box bears when it was told. -/
theorem box_ret {w wz : World} {g base N cS : Nat} {RT LF : Int} {A : Option Addr} {xs : List Value} (hgw : w.heap.size ≤ g) (hB : Below w.heap.size w wz) (hHY : Blk wz g 27 #[.slice none 0 0, .int .i64 0, .int .i64 0]) (hrd : wz.ownsRow base 3 1 (.slice A N cS) N xs) :
    Blk (((wz.setCell ⟨g, 0, none⟩ (.slice A N cS)).setCell ⟨g, 1, none⟩ (.int .i64 RT)).setCell ⟨g, 2, none⟩ (.int .i64 LF)) g 27 #[.slice A N cS, .int .i64 RT, .int .i64 LF] ∧
    (((wz.setCell ⟨g, 0, none⟩ (.slice A N cS)).setCell ⟨g, 1, none⟩ (.int .i64 RT)).setCell ⟨g, 2, none⟩ (.int .i64 LF)).ownsRow base 3 1 (.slice A N cS) N xs ∧
    Below w.heap.size w (((wz.setCell ⟨g, 0, none⟩ (.slice A N cS)).setCell ⟨g, 1, none⟩ (.int .i64 RT)).setCell ⟨g, 2, none⟩ (.int .i64 LF)) := by
  have MM : Mod (fun i => i = g) wz (((wz.setCell ⟨g, 0, none⟩ (.slice A N cS)).setCell ⟨g, 1, none⟩ (.int .i64 RT)).setCell ⟨g, 2, none⟩ (.int .i64 LF)) :=
    Mod.setCell (p := ⟨g, 2, none⟩) (Mod.setCell (p := ⟨g, 1, none⟩) (Mod.setCell (p := ⟨g, 0, none⟩) (Mod.refl (fun i => i = g) wz) (fun _ => rfl) _) (fun _ => rfl) _) (fun _ => rfl) _
  refine ⟨?_, own_mod hrd MM (fun q hq c => own_ne hrd hHY (by decide) (by rw [hq]; exact congrArg some c)), hB.trans (MM.belowB hB.size fun i hi hf => by omega)⟩
  have := ((hHY.set_ 0 (.slice A N cS)).set_ 1 (.int .i64 RT)).set_ 2 (.int .i64 LF)
  simpa using this
end Go.Proofs.Ytgcbdoljapnecaa
