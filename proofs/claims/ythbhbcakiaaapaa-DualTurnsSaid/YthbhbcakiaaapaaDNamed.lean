/- named: a permutation with its orbits' names and sizes. -/
import Derived.Test.YthbhbcakiaaapaaDMath
import Derived.Test.YthbhbcakiaaapaaPMake
namespace Go.Proofs.Ythbhbcakiaaapaa
set_option maxRecDepth 20000
open Go.RowKit
set_option linter.unusedVariables false

/-- A permutation with its orbits' names and sizes, all of it below or at the heap's end. -/
def inLo (lo : Nat) (A : Option Addr) : Prop := ∀ a : Addr, A = some a → lo ≤ a.block
theorem inLo.le {lo lo' : Nat} {A : Option Addr} (h : inLo lo A) (k : lo' ≤ lo) : inLo lo' A := fun a e => Nat.le_trans k (h a e)
theorem own_inLo {w : World} {base : Nat} {e : TypeId} {A : Option Addr} {m n c : Nat} {xs : List Value} (h : w.ownsRow base e 1 (.slice A m c) n xs) : inLo base A := fun a ha => by
  subst ha
  exact (h.lt a.block rfl).1
def NamesAt (lo : Nat) (w : World) (p : Nat) (l b : List Nat) (v : Value) : Prop :=
  PermAt w p l b ∧ ∃ A c S d, inLo lo A ∧ inLo lo S ∧ v = .agg #[.pointer (some ⟨p, 0, none⟩), .slice A l.length c, .slice S (sizes l).length d] ∧ Rd w w.heap.size A l.length (I64 (ofN (names l))) ∧ Rd w w.heap.size S (sizes l).length (I64 (ofN (sizes l)))
theorem ofN_set (X : List Nat) (p q : Nat) : (ofN X).set p ((q : Int) + 1) = ofN (X.set p (q + 1)) := by simp [ofN, List.map_set]
set_option maxHeartbeats 4000000 in
theorem named_p (g : Nat) (l b : List Nat) (w : World) (h : PermAt w g l b) :
    Calls Try.prog 70 #[.pointer (some ⟨g, 0, none⟩)] w fun e w' => ∃ v, e = .returned v ∧ NamesAt w.heap.size w' g l b v ∧ Below w.heap.size w w' := by
  have hinv := h.1
  have hl := h.2.1
  obtain ⟨i0, hi0, hz0, hz1, hz2⟩ := info_parts info_int
  have NM : Hid (∀ w', Below w.heap.size w w' → Calls Try.prog 80 #[.pointer (some ⟨g, 0, none⟩)] w' (NewI64 w' (ofN (names l)))) := fun w' hb => names_p g l b w' (h.below hb)
  have HP := Lib.hid h
  have HI := Lib.hid hinv
  clear h hinv
  go_enter Try.func70, Try.ntmps70
  go_wp2_with fail
  refine (NM.out _ ?_).mono ?_
  · exact (Below.refl _ _).alloc (Nat.le_refl _) _
  rintro e w2 ⟨A, c, rfl, hc, hm, hown, hb2⟩
  rw [ofN_len, names_len] at hown hc ⊢
  go_wp2_with fail
  have hs2 : w.heap.size < w2.heap.size := by have := hb2.size; simp at this; omega
  have HA := Lib.hid (Rd.ofOwn hown)
  have HLA := Lib.hid ((own_inLo hown).le (show w.heap.size ≤ _ by simp))
  have HNA : Hid (0 < l.length → ∃ q, A = some ⟨q, 0, none⟩ ∧ w.heap.size < q) := fun h0 => by
    obtain ⟨q, e, h1, _⟩ := own_some hown h0
    refine ⟨q, e, ?_⟩
    simp at h1; omega
  have hBR : Blk w2 w.heap.size 62 #[.pointer none, .slice none 0 0, .slice none 0 0] := (hb2.block w.heap.size (by simp)).trans (Blk.new w _ _)
  have HBR := Lib.hid hBR
  have B2 : Hid (Below w.heap.size w w2) := ((Below.refl _ _).alloc (Nat.le_refl _) _).trans (hb2.mono (by simp))
  have hBN := Blk.new w2 62 #[.pointer (some ⟨g, 0, none⟩), .slice A l.length c, .slice none 0 0]
  have HBN := Lib.hid hBN
  have hinfo : (Try.prog.info? 62).map (·.size) = some 3 := by kernel_rfl
  have HINF := Lib.hid hinfo
  have hcl : l.length ≤ c := hc
  clear hown hb2 hBR hBN NM hinfo hm
  go_loopw [13] (fun i wr => ∃ (k m d : Nat) (S : Option Addr), k ≤ l.length ∧ i = .int .i64 (k : Int) ∧ Hid (m = met l k) ∧ m ≤ k ∧ Hid (Blk wr w2.heap.size 62 #[.pointer (some ⟨g, 0, none⟩), .slice A l.length c, .slice S m d]) ∧
    Hid (wr.ownsRow w2.heap.size 3 1 (.slice S m d) m (I64 (ofN (sizesTo l m k)))) ∧ m ≤ d ∧ Hid (Below w2.heap.size w2 wr)) (fun i _ => l.length - (intOf i).toNat)
  case atStart => exact ⟨0, 0, 0, none, by omega, rfl, (met_zero l).symm, by omega, HBN.out, World.ownsRow_nil _ _ _ _, by omega, (Below.refl _ _).alloc (Nat.le_refl _) _⟩
  case round =>
    clear HBN
    obtain ⟨k, m, d, S, hk, rfl, hmet, hmk, hbn, hos, hmd, hbl⟩ := hrel
    by_cases hlt : k < l.length
    · have hr := HA.out.below hbl.out
      obtain ⟨b', o, rfl, _, k1⟩ := hr.i64 (by omega)
      have t1 := k1 k hlt
      rw [ofN_get, names_get _ _ hlt] at t1
      have n1 := hbn.out.cell 1
      have n2 : wr.cell? ⟨w2.heap.size, 2, none⟩ = some (.slice S m d) := hbn.out.cell 2
      have f2 := hbn.out.frozen 2
      have hnl := hbn.out.lt
      clear hr k1 n1
      by_cases hld : Leads l k
      · have hy : nameOf l k = m := by rw [name_lead HI.out hlt hld, hmet.out]
        rw [hy] at t1
        have hown3' := hos.out.alloc (.cells #[.int .i64 0] 3)
        have r3 := Rd.new wr 3 #[.int .i64 0] 1 (I64 [0]) (by simp [I64]) (by simp)
        have t2 : m + 1 ≤ maxLen := by simp only [maxLen]; omega
        have t3 : (m + 1) * 8 ≤ 140737488355328 := by omega
        have t4 : w2.heap.size ≤ (wr.alloc (.cells #[.int .i64 0] 3)).heap.size := by simp; omega
        have WY : Hid (I64 (ofN (sizesTo l m k)) ++ I64 [0] = I64 (ofN (sizesTo l (m + 1) k))) := by
          show _ = _
          have := sizes_new HI.out (Nat.le_of_lt hlt)
          rw [← hmet.out] at this
          rw [← this, ofN_append, I64_append]; rfl
        have hne := own_ne hown3' (hbn.out.alloc _) (by decide)
        have HNE := Lib.hid hne
        have HY := Lib.hid hy
        have HBNA := Lib.hid (hbn.out.alloc (.cells #[.int .i64 0] 3))
        have HBLA : Hid (Below w2.heap.size w2 (wr.alloc (.cells #[.int .i64 0] 3))) := hbl.out.alloc (Nat.le_of_lt hnl) _
        clear hy hne
        go_wp2_with (first
          | (at_builtin; go_must (refine wpList_append_rd _ rfl _ _ 25 rfl w2.heap.size 3 i0 (.int .i64 0) 8 Try.underlying25 hi0 hz0 hz1 hz2 rfl (.slice S m d) m (I64 (ofN (sizesTo l m k))) rfl hown3' (wr.heap.size + 1) (some ⟨wr.heap.size, 0, none⟩) 1 1 (I64 [0]) rfl r3 (I64_one _) t2 t3 t4 ?_)))
        intro A6 c6 w6 hc6 hm6 hown6 hg6 _
        rw [WY.out] at hown6
        obtain ⟨b6, rfl, hb61, hb62⟩ := own_some hown6 (by omega)
        have hbn6 := HBNA.out.mod (Mod.ofGrown hg6) (fun e => HNE.out e.symm)
        have e2 : w6.cell? ⟨w2.heap.size, 2, none⟩ = some (.slice S m d) := hbn6.cell 2
        have g2 := hbn6.frozen 2
        have hb6n : b6 ≠ w2.heap.size := fun e => own_ne hown6 hbn6 (by decide) (by rw [e]; rfl)
        have u1 := own_cellI hown6 m (by omega)
        rw [ofN_get, sizesTo_get _ _ _ _ (by omega)] at u1
        have fu := hown6.frozenAt m
        have hcn := cntN_le l k m
        have hbl6 : Below w2.heap.size w2 w6 := HBLA.out.trans (Below.appended hown3' hg6 t4)
        have hset := own_setI hown6 m ((cntN l k m : Nat) + 1 : Int)
        have HSET := Lib.hid hset
        have HOWN6 := Lib.hid hown6
        have HBN6 := Lib.hid hbn6
        have HBL6 := Lib.hid hbl6
        have hcn9 : cntN l k m ≤ 1000000 := by omega
        clear hown6 hbn6 hbl6 hset hown3' r3 hg6 hcn
        generalize hcg : cntN l k m = q at *
        have HCG := Lib.hid hcg
        clear hcg
        go_wp2_with fail
        have LAST : Hid (((w6.setCell ⟨w2.heap.size, 2, none⟩ (.slice (some ⟨b6, 0, none⟩) (m + 1) c6)).setCell ⟨b6, m, none⟩ (.int .i64 ((q : Int) + 1))).ownsRow w2.heap.size 3 1 (.slice (some ⟨b6, 0, none⟩) (m + 1) c6) (m + 1) (I64 (ofN (sizesTo l (m + 1) (k + 1))))) := by
          have h1 := own_mod HOWN6.out (Mod.setCell (p := ⟨w2.heap.size, 2, none⟩) (Mod.refl (fun i => i = w2.heap.size) w6) (fun _ => rfl) (.slice (some ⟨b6, 0, none⟩) (m + 1) c6)) (fun r hr hx => by
            simp [Value.ownBlock] at hr; omega)
          have h2 := own_setI h1 m ((q : Int) + 1)
          rw [ofN_set] at h2
          have h3 := sizes_set l (m + 1) k m (by omega) HY.out
          rw [HCG.out] at h3
          rwa [h3] at h2
        have LBN : Hid (Blk ((w6.setCell ⟨w2.heap.size, 2, none⟩ (.slice (some ⟨b6, 0, none⟩) (m + 1) c6)).setCell ⟨b6, m, none⟩ (.int .i64 ((q : Int) + 1))) w2.heap.size 62 #[.pointer (some ⟨g, 0, none⟩), .slice (some ⟨b', o, none⟩) l.length c, .slice (some ⟨b6, 0, none⟩) (m + 1) c6]) := by
          have h1 := HBN6.out.set_ 2 (.slice (some ⟨b6, 0, none⟩) (m + 1) c6)
          have h2 := h1.mod (Mod.setCell (p := ⟨b6, m, none⟩) (Mod.refl (fun i => i = b6) _) (fun _ => rfl) (.int .i64 ((q : Int) + 1))) (fun e => hb6n e.symm)
          show Blk _ _ _ _
          simpa using h2
        have MET : Hid (m + 1 = met l (k + 1)) := by show _ = _; rw [met_lead l k hld, hmet.out]
        go_roundw
        case rel => exact ⟨k + 1, m + 1, c6, _, by omega, by go_num, MET.out, by omega, LBN.out, LAST.out, hc6, (HBL6.out.setCell (Nat.le_refl _) _).setCell hb61 _⟩
        case measure => simp [intOf]; omega
      · have hy := name_not HI.out hlt hld
        rw [← hmet.out] at hy
        obtain ⟨y, hyy⟩ : ∃ y, y = nameOf l k := ⟨_, rfl⟩
        rw [← hyy] at t1 hy
        have HY := Lib.hid hyy
        obtain ⟨b6, rfl, hb61, hb62⟩ := own_some hos.out (by omega)
        have hb6n : b6 ≠ w2.heap.size := fun e => own_ne hos.out hbn.out (by decide) (by rw [e]; rfl)
        have u1 := own_cellI hos.out y hy
        rw [ofN_get, sizesTo_get _ _ _ _ hy] at u1
        have fu := hos.out.frozenAt y
        have hcn := cntN_le l k y
        have hcn9 : cntN l k y ≤ 1000000 := by omega
        have hyI : ((y : Int) == (m : Int)) = false := by rw [beq_eq_false_iff_ne]; omega
        clear hyy hcn
        generalize hcg : cntN l k y = q at *
        have HCG := Lib.hid hcg
        clear hcg
        go_wp2_with fail
        have LAST : Hid ((wr.setCell ⟨b6, y, none⟩ (.int .i64 ((q : Int) + 1))).ownsRow w2.heap.size 3 1 (.slice (some ⟨b6, 0, none⟩) m d) m (I64 (ofN (sizesTo l m (k + 1))))) := by
          have h2 := own_setI hos.out y ((q : Int) + 1)
          rw [ofN_set] at h2
          have h3 := sizes_set l m k y hy HY.out.symm
          rw [HCG.out] at h3
          rwa [h3] at h2
        have LBN := Lib.hid (hbn.out.mod (Mod.setCell (p := ⟨b6, y, none⟩) (Mod.refl (fun i => i = b6) _) (fun _ => rfl) (.int .i64 ((q : Int) + 1))) (fun e => hb6n e.symm))
        have MET : Hid (m = met l (k + 1)) := by show _ = _; rw [met_not l k hld, hmet.out]
        go_roundw
        case rel => exact ⟨k + 1, m, d, _, by omega, by go_num, MET.out, by omega, LBN.out, LAST.out, hmd, hbl.out.setCell hb61 _⟩
        case measure => simp [intOf]; omega
    · obtain rfl : k = l.length := by omega
      have hbR : Blk wr w.heap.size 62 #[.pointer none, .slice none 0 0, .slice none 0 0] := (hbl.out.block w.heap.size hs2).trans HBR.out
      have n0 := hbn.out.cell 0
      have n1 := hbn.out.cell 1
      have n2 := hbn.out.cell 2
      have r0 := hbR.cell 0
      have r1 := hbR.cell 1
      have r2 := hbR.cell 2
      have f0 := hbR.frozen 0
      have f1 := hbR.frozen 1
      have f2 := hbR.frozen 2
      simp at n0 n1 n2 r0 r1 r2
      go_wp2_with fail
      have MM : Mod (fun i => i = w.heap.size) wr (((wr.setCell ⟨w.heap.size, 0, none⟩ (.pointer (some ⟨g, 0, none⟩))).setCell ⟨w.heap.size, 1, none⟩ (.slice A l.length c)).setCell ⟨w.heap.size, 2, none⟩ (.slice S m d)) :=
        Mod.setCell (p := ⟨w.heap.size, 2, none⟩) (Mod.setCell (p := ⟨w.heap.size, 1, none⟩) (Mod.setCell (p := ⟨w.heap.size, 0, none⟩) (Mod.refl (fun i => i = w.heap.size) wr) (fun _ => rfl) _) (fun _ => rfl) _) (fun _ => rfl) _
      have hblk : Blk (((wr.setCell ⟨w.heap.size, 0, none⟩ (.pointer (some ⟨g, 0, none⟩))).setCell ⟨w.heap.size, 1, none⟩ (.slice A l.length c)).setCell ⟨w.heap.size, 2, none⟩ (.slice S m d)) w.heap.size 62 #[.pointer (some ⟨g, 0, none⟩), .slice A l.length c, .slice S m d] := by
        have := ((hbR.set_ 0 (.pointer (some ⟨g, 0, none⟩))).set_ 1 (.slice A l.length c)).set_ 2 (.slice S m d)
        simpa using this
      have hsz : m = (sizes l).length := by rw [hmet.out]; exact (sizesTo_len _ _ _).symm
      have hsl : sizesTo l m l.length = sizes l := by rw [hmet.out]; rfl
      have hB : Below w.heap.size w wr := B2.out.trans (hbl.out.mono (Nat.le_of_lt hs2))
      have hB2 := hB.trans (MM.belowB hB.size fun i hi hf => by omega)
      have hA1 : Rd wr wr.heap.size A l.length (I64 (ofN (names l))) := (HA.out.below hbl.out).up hbl.out.size
      have hA2 := hA1.mod MM (Nat.le_refl _) (fun h0 k hk hf => by
        obtain ⟨q, e, hq⟩ := HNA.out h0
        obtain ⟨a, e2, rfl⟩ := hk
        rw [e] at e2
        cases e2
        simp at hf; omega)
      have hS2 := own_mod hos.out MM (fun q hq hf => by have := (hos.out.lt q hq).1; omega)
      rw [hsl] at hS2
      have hS3 := (Rd.ofOwn hS2)
      refine bodyPost_ret (results_cell_row rfl _ _ w.heap.size 62 _ (0, 0) _ rfl hblk Try.underlying62 rfl HINF.out) rfl ?_
      refine ⟨_, rfl, ⟨HP.out.below hB2, A, c, S, d, HLA.out, (own_inLo hos.out).le (Nat.le_of_lt hs2), ?_, hA2.up MM.size, ?_⟩, hB2⟩
      · rw [← hsz]
      · rw [← hsz]; exact hS3
end Go.Proofs.Ythbhbcakiaaapaa
