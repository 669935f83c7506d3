/- The document's examples of layer 9. made: a map of numbers, and the document's (layer 9). Tree of a walk. Steps read one by one; a part's row of numbers. -/
import Derived.Test.YthkocodajjapmaaZg5
import Derived.Test.YthkocodajjapmaaZDPhi
import Derived.Deep.RegionHeld3
import Derived.Deep.DeepCutAuto
namespace Go.Proofs.Ythkocodajjapmaa
set_option maxRecDepth 20000
open Go.RowKit
set_option linter.unusedVariables false
theorem wN_eq {sg nm : Nat → Nat} {m V r N : Nat} (h1 : 1 ≤ N) (h2 : (wrun sg nm m V r N).d = r) (h3 : ∀ j, 1 ≤ j → j < N → (wrun sg nm m V r j).d ≠ r) : wN sg nm m V r = N := by
  have hx : ∃ N, 1 ≤ N ∧ (wrun sg nm m V r N).d = r ∧ ∀ j, 1 ≤ j → j < N → (wrun sg nm m V r j).d ≠ r := ⟨N, h1, h2, h3⟩
  have e : wN sg nm m V r = hx.choose := by unfold wN; rw [dif_pos hx]
  obtain ⟨c1, c2, c3⟩ := hx.choose_spec
  rw [← e] at c1 c2 c3
  rcases Nat.lt_trichotomy (wN sg nm m V r) N with x | x | x
  · exact absurd c2 (h3 _ c1 x)
  · exact x
  · exact absurd h2 (c3 N h1 x)
theorem walk_sw {sg nm : Nat → Nat} {V : Nat} (s0 : sg 0 = 1) (s1 : sg 1 = 0) (hn : nm 1 = nm 0) (hV : nm 0 < V) : wN sg nm 1 V 0 = 2 ∧ wst sg nm 1 V 0 2 = [0, 2, 1, 3] := by
  have hM : ((List.replicate V false).set (nm 0) true).getD (nm 0) false = true := by rw [getB_set _ _ _ _ (by simpa using hV), if_pos rfl]
  have r0 : wrun sg nm 1 V 0 0 = ⟨0, [-1], (List.replicate V false).set (nm 0) true⟩ := rfl
  have k0 : (wrun sg nm 1 V 0 0).k nm = 2 := by
    rw [r0]
    show wKd nm [-1] _ 0 = 2
    unfold wKd
    rw [if_neg (by decide), if_neg (by decide), show mt 0 = 1 from rfl, hn, if_pos hM]
  have r1 : wrun sg nm 1 V 0 1 = ⟨1, [2], (List.replicate V false).set (nm 0) true⟩ := by
    show (wrun sg nm 1 V 0 0).next sg nm = _
    unfold WS.next
    rw [k0, r0]
    show WS.mk (sg 0) _ _ = _
    rw [s0]; simp [wK1, wM1]
  have k1 : (wrun sg nm 1 V 0 1).k nm = 3 := by rw [r1]; simp [WS.k, wKd]
  have d2 : (wrun sg nm 1 V 0 2).d = 0 := by
    show wNx sg (wrun sg nm 1 V 0 1).d ((wrun sg nm 1 V 0 1).k nm) = 0
    rw [k1, r1]
    show sg 1 = 0
    exact s1
  refine ⟨wN_eq (by omega) d2 (fun j j1 j2 => ?_), ?_⟩
  · obtain rfl : j = 1 := by omega
    rw [r1]; simp
  · unfold wst wst wst
    rw [k0, k1, r1, r0]; rfl
theorem walk_id {sg nm : Nat → Nat} {V : Nat} (s0 : sg 0 = 0) (s1 : sg 1 = 1) (hn : nm 1 ≠ nm 0) (hV : nm 0 < V) : wN sg nm 1 V 0 = 2 ∧ wst sg nm 1 V 0 2 = [0, 0, 1, 1] := by
  have hM : ((List.replicate V false).set (nm 0) true).getD (nm 1) false ≠ true := by
    rw [getB_set _ _ _ _ (by simpa using hV), if_neg hn]
    simp [List.getD_eq_getElem?_getD, List.getElem?_replicate]
    split <;> simp
  have r0 : wrun sg nm 1 V 0 0 = ⟨0, [-1], (List.replicate V false).set (nm 0) true⟩ := rfl
  have k0 : (wrun sg nm 1 V 0 0).k nm = 0 := by
    rw [r0]
    show wKd nm [-1] _ 0 = 0
    unfold wKd
    rw [if_neg (by decide), if_neg (by decide), show mt 0 = 1 from rfl, if_neg hM]
  have r1 : wrun sg nm 1 V 0 1 = ⟨1, [0], ((List.replicate V false).set (nm 0) true).set (nm 1) true⟩ := by
    show (wrun sg nm 1 V 0 0).next sg nm = _
    unfold WS.next
    rw [k0, r0]
    show WS.mk (sg 1) _ _ = _
    rw [s1]; simp [wK1, wM1, mt]
  have k1 : (wrun sg nm 1 V 0 1).k nm = 1 := by rw [r1]; simp [WS.k, wKd]
  have d2 : (wrun sg nm 1 V 0 2).d = 0 := by
    show wNx sg (wrun sg nm 1 V 0 1).d ((wrun sg nm 1 V 0 1).k nm) = 0
    rw [k1, r1]
    show sg 0 = 0
    exact s0
  refine ⟨wN_eq (by omega) d2 (fun j j1 j2 => ?_), ?_⟩
  · obtain rfl : j = 1 := by omega
    rw [r1]; simp
  · unfold wst wst wst
    rw [k0, k1, r1, r0]; rfl
def swW : List Nat := [1, 0]
def idW : List Nat := [0, 1]
theorem swW_inv : Inv swW swW := ⟨rfl, by decide, by decide, by decide, by decide⟩
theorem idW_inv : Inv idW idW := ⟨rfl, by decide, by decide, by decide, by decide⟩
theorem sizes_swW : (sizes swW).length = 1 := by rw [sizes_is swW_inv]; decide
theorem sizes_idW : (sizes idW).length = 2 := by rw [sizes_is idW_inv]; decide
theorem nm_swW : nameOf swW 1 = nameOf swW 0 := (nm_ok swW_inv 1 0 (by decide) (by decide)).2 ⟨1, rfl⟩
theorem nm_idW : nameOf idW 1 ≠ nameOf idW 0 := fun e => by
  obtain ⟨k, h⟩ := (nm_ok idW_inv 1 0 (by decide) (by decide)).1 e
  have : ∀ k, itf (sgL idW) k 1 = 1 := fun k => by
    induction k with
    | zero => rfl
    | succ k ih => show sgL idW _ = 1; rw [ih]; rfl
  rw [this] at h
  omega
set_option maxHeartbeats 4000000 in
theorem awake9_p (w : World) :
    Calls Try.prog 8 #[] w fun e w' => e = .returned (.bool true) ∧ Below w.heap.size w w' := by
  have r1 : Rd (w.alloc (.cells #[.int .i64 1, .int .i64 0] 3)) (w.alloc (.cells #[.int .i64 1, .int .i64 0] 3)).heap.size (some ⟨w.heap.size, 0, none⟩) 2 (I64 (ofN swW)) := (Rd.new w 3 #[.int .i64 1, .int .i64 0] 2 _ (by simp [I64, ofN, swW]) (by simp)).up (by simp)
  have N1 := Lib.hid (new_ok _ 2 2 swW swW 0 0 _ r1 swW_inv (by decide) (by omega) (.inr (by omega)) (by omega) (by omega))
  clear r1
  go_enter Try.func8, Try.ntmps8
  go_wp2_with fail
  refine N1.out.mono ?_
  rintro e w1 ⟨a, rfl, hm1, b1, _⟩
  have B1 : Hid (Below w.heap.size w w1) := ((Below.refl _ _).alloc (Nat.le_refl _) _).trans (b1.mono (by simp))
  have r2 : Rd (w1.alloc (.cells #[.int .i64 0, .int .i64 1] 3)) (w1.alloc (.cells #[.int .i64 0, .int .i64 1] 3)).heap.size (some ⟨w1.heap.size, 0, none⟩) 2 (I64 (ofN idW)) := (Rd.new w1 3 #[.int .i64 0, .int .i64 1] 2 _ (by simp [I64, ofN, idW]) (by simp)).up (by simp)
  have N2 := Lib.hid (new_ok _ 2 2 idW idW 0 0 _ r2 idW_inv (by decide) (by omega) (.inr (by omega)) (by omega) (by omega))
  have HMA := Lib.hid hm1
  clear r2 hm1 b1 N1
  go_wp2_with fail
  refine N2.out.mono ?_
  rintro e w2 ⟨b, rfl, hm2, b2, _⟩
  have z0 := (Below.refl w1.heap.size w1).alloc (Nat.le_refl _) (.cells #[.int .i64 0, .int .i64 1] 3)
  have B2' := z0.trans (b2.mono z0.size)
  have B2 : Hid (Below w.heap.size w w2) := B1.out.trans (B2'.mono B1.out.size)
  have O1 := walkOf_p a swW swW 0 0 0 1 1 w2 (HMA.out.below B2') swW_inv (by decide) (by decide) (by rw [sizes_swW]; rfl)
  rw [(walk_sw (sg := sgL swW) (nm := nameOf swW) (V := 1) rfl rfl nm_swW (nm_lt swW_inv (by rw [sizes_swW]; omega) 0 (by decide))).1, (walk_sw (sg := sgL swW) (nm := nameOf swW) (V := 1) rfl rfl nm_swW (nm_lt swW_inv (by rw [sizes_swW]; omega) 0 (by decide))).2] at O1
  have OA := Lib.hid O1
  have HMB := Lib.hid hm2
  clear O1 b2 z0 B2' hm2 HMA N2 B1
  go_wp2_with fail
  refine OA.out.mono ?_
  rintro e w3 ⟨A3, c3, rfl, own3, z3⟩
  have O2 := walkOf_p b idW idW 0 0 0 1 2 w3 (HMB.out.below z3) idW_inv (by decide) (by decide) (by rw [sizes_idW]; rfl)
  rw [(walk_id (sg := sgL idW) (nm := nameOf idW) (V := 2) rfl rfl nm_idW (nm_lt idW_inv (by rw [sizes_idW]; omega) 0 (by decide))).1, (walk_id (sg := sgL idW) (nm := nameOf idW) (V := 2) rfl rfl nm_idW (nm_lt idW_inv (by rw [sizes_idW]; omega) 0 (by decide))).2] at O2
  have OB := Lib.hid O2
  have R3 := Lib.hid (RdS.own own3)
  have B3 := Lib.hid (B2.out.trans (z3.mono B2.out.size))
  clear O2 own3 z3 HMB OA B2
  go_wp2_with fail
  refine OB.out.mono ?_
  rintro e w4 ⟨A4, c4, rfl, own4, z4⟩
  have R4 := Lib.hid (RdS.own own4)
  have WA := Lib.hid (wword_p A3 2 c3 _ _ w4 (R3.out.below z4) z4.size (by omega))
  have B4 := Lib.hid (B3.out.trans (z4.mono B3.out.size))
  have k1 : kindsN [0, 2, 1, 3] 2 = [2, 3] := by decide
  have k2 : kindsN [0, 0, 1, 1] 2 = [0, 1] := by decide
  rw [k1] at WA
  have HK2 := Lib.hid k2
  clear own4 z4 OB B3 R3 k1 k2
  go_wp2_with fail
  refine WA.out.mono ?_
  rintro e w5 ⟨g5, rfl, hw5, z5⟩
  have TA := Lib.hid (mtext_p _ g5 _ w5 hw5 (by decide))
  have B5 := Lib.hid (B4.out.trans (z5.mono B4.out.size))
  have R5 := Lib.hid (R4.out.below z5)
  have hz5 := z5.size
  clear hw5 z5 WA B4 R4
  go_wp2_with fail
  refine TA.out.mono ?_
  rintro e w6 ⟨rfl, z6⟩
  have WB := wword_p A4 2 c4 _ _ w6 (R5.out.below (z6.mono hz5)) (Nat.le_trans hz5 z6.size) (by omega)
  rw [HK2.out] at WB
  have WBB := Lib.hid WB
  have B6 := Lib.hid (B5.out.trans (z6.mono B5.out.size))
  have t1 : textM [2, 3] = { data := #[91, 93] } := by rfl
  have t2 : textM [0, 1] = { data := #[40, 41] } := by rfl
  have HT2 := Lib.hid t2
  rw [t1]
  clear z6 WB R5 B5 TA t1 t2
  go_wp2_with fail
  refine WBB.out.mono ?_
  rintro e w7 ⟨g7, rfl, hw7, z7⟩
  have TB := Lib.hid (mtext_p _ g7 _ w7 hw7 (by decide))
  have B7 := Lib.hid (B6.out.trans (z7.mono B6.out.size))
  clear hw7 z7 WBB B6
  go_wp2_with fail
  refine TB.out.mono ?_
  rintro e w8 ⟨rfl, z8⟩
  have B8 := Lib.hid (B7.out.trans (z8.mono B7.out.size))
  rw [HT2.out]
  clear z8 TB B7
  go_wp2_with fail
  go_ret
  exact ⟨rfl, B8.out⟩
end Go.Proofs.Ythkocodajjapmaa
namespace Go.Proofs.Ythkocodajjapmaa
set_option maxRecDepth 20000
open Go.RowKit
set_option linter.unusedVariables false
set_option maxHeartbeats 4000000 in
theorem made9_p (n m c B : Nat) (A : Option Addr) (by_ : List Int) (w : World) (h : Rd w B A m (Z8 by_)) (hb : ∀ x ∈ by_, 0 ≤ x ∧ x < 256) (hB : B ≤ w.heap.size) (hn : n < 256) (hm : m ≤ 9223372036854775807) :
    Calls Try.prog 9 #[.int .u8 (n : Int), .slice A m c] w (MadePost w (n % 14) 0) := by
  have hb0 := (Below.refl w.heap.size w).alloc (Nat.le_refl _) (.cells #[.slice none 0 0, .int .i64 0, .int .i64 0] 27)
  obtain ⟨k, hk, hk9⟩ : ∃ k, Hid (k = n % 14) ∧ k < 14 := ⟨_, rfl, Nat.mod_lt _ (by decide)⟩
  rw [← hk.out]
  have e1 : (n : Int) % 14 = (k : Int) := by have := hk.out; omega
  have AN := Lib.hid (any_p k 0 m c B A by_ _ (h.below (hb0.mono hB)) hb (Nat.le_trans hB (by simp)) (by omega) (by omega) hm)
  have HINF := Lib.hid info_rmap
  clear h hb
  go_enter Try.func9, Try.ntmps9
  go_wp2_with fail
  refine AN.out.mono ?_
  rintro e w2 ⟨v, l, b, root, rfl, hrm, hl, hroot, b2⟩
  obtain ⟨hinv, A2, c2, hla, rfl, hc2, hm2, r2⟩ := hrm
  have hR : Blk w2 w.heap.size 27 #[.slice none 0 0, .int .i64 0, .int .i64 0] := (b2.block w.heap.size (by simp)).trans (Blk.new w _ _)
  have hs2 : w.heap.size < w2.heap.size := hR.lt
  have B2 : Hid (Below w.heap.size w w2) := hb0.trans (b2.mono (by simp))
  have hbx := (Below.refl w2.heap.size w2).alloc (Nat.le_refl _) (.cells #[.slice A2 l.length c2, .int .i64 root, .int .i64 0] 27)
  have rx : Rd (w2.alloc (.cells #[.slice A2 l.length c2, .int .i64 root, .int .i64 0] 27)) _ A2 l.length (I64 (ofN l)) := r2.more hbx
  have NO := Lib.hid (new_ok A2 l.length c2 l b root 0 _ rx hinv (by rw [hl]; omega) (by omega) (by rw [hl]; exact hroot) (by omega) (by omega))
  have HBX := Lib.hid (Blk.new w2 27 #[.slice A2 l.length c2, .int .i64 root, .int .i64 0])
  have HR2 := Lib.hid (hR.alloc (.cells #[.slice A2 l.length c2, .int .i64 root, .int .i64 0] 27))
  have B3 : Hid (Below w.heap.size w (w2.alloc (.cells #[.slice A2 l.length c2, .int .i64 root, .int .i64 0] 27))) := B2.out.trans (hbx.mono (Nat.le_of_lt hs2))
  have HI := Lib.hid hinv
  have HL := Lib.hid hl
  have HRT := Lib.hid hroot
  have RX := Lib.hid rx
  have HC := Lib.hid (And.intro hc2 hm2)
  have HLA : Hid (inLo (w.heap.size + 1) A2) := hla.le (by simp)
  clear hb0 hinv hl hroot b2 r2 hR rx hbx AN hc2 hm2 hla
  go_wp2_with fail
  refine NO.out.mono ?_
  rintro e w4 ⟨g, rfl, hmap, b4, hmlo⟩
  generalize hw3 : w2.alloc (.cells #[.slice A2 l.length c2, .int .i64 root, .int .i64 0] 27) = w3 at *
  have hs23 : w3.heap.size = w2.heap.size + 1 := by rw [← hw3]; simp
  have hX4 := HBX.out.below b4
  have hR4 := HR2.out.below b4
  have x0 := hX4.cell 0
  have x1 := hX4.cell 1
  have x2 := hX4.cell 2
  have r0 := hR4.cell 0
  have r1 := hR4.cell 1
  have r2 := hR4.cell 2
  have f0 := hR4.frozen 0
  have f1 := hR4.frozen 1
  have f2 := hR4.frozen 2
  simp at x0 x1 x2 r0 r1 r2
  have HM := Lib.hid hmap
  have HML := Lib.hid hmlo
  have HR4 := Lib.hid hR4
  have R4 := Lib.hid (RX.out.more b4)
  have B4 : Hid (Below w.heap.size w w4) := B3.out.trans (b4.mono B3.out.size)
  clear hmap hmlo hX4 hR4 b4 NO HBX HR2 RX B3 hw3
  go_wp2_with fail
  go_region
  all_goals go_wp2_with fail
  have MM : Mod (fun i => i = w.heap.size) w4 (((w4.setCell ⟨w.heap.size, 0, none⟩ (.slice A2 l.length c2)).setCell ⟨w.heap.size, 1, none⟩ (.int .i64 root)).setCell ⟨w.heap.size, 2, none⟩ (.int .i64 0)).drew :=
    Mod.drew (Mod.setCell (p := ⟨w.heap.size, 2, none⟩) (Mod.setCell (p := ⟨w.heap.size, 1, none⟩) (Mod.setCell (p := ⟨w.heap.size, 0, none⟩) (Mod.refl (fun i => i = w.heap.size) w4) (fun _ => rfl) _) (fun _ => rfl) _) (fun _ => rfl) _)
  have hblk : Blk (((w4.setCell ⟨w.heap.size, 0, none⟩ (.slice A2 l.length c2)).setCell ⟨w.heap.size, 1, none⟩ (.int .i64 root)).setCell ⟨w.heap.size, 2, none⟩ (.int .i64 0)).drew w.heap.size 27 #[.slice A2 l.length c2, .int .i64 root, .int .i64 0] := by
    have := ((HR4.out.set_ 0 (.slice A2 l.length c2)).set_ 1 (.int .i64 root)).set_ 2 (.int .i64 0)
    exact Blk.drewN (by simpa using this) 1
  refine bodyPost_ret (results_tmp_cell_row rfl _ _ w.heap.size 27 _ (0, 0) _ rfl hblk Try.underlying27 rfl HINF.out) rfl ?_
  refine ⟨g, _, l, b, root, rfl, HM.out.mod HML.out MM (fun i hi => by omega), ⟨HI.out, A2, c2, HLA.out.le (by omega), rfl, HC.out.1, HC.out.2, ?_⟩, HL.out, HRT.out, B4.out.trans (MM.belowB B4.out.size fun i hi hf => by omega)⟩
  exact (R4.out.mod MM (Nat.le_refl _) (fun h0 i hi hf => by
    obtain ⟨a, e, rfl⟩ := hi
    have := HLA.out a e
    omega)).up MM.size
end Go.Proofs.Ythkocodajjapmaa
namespace Go.Proofs.Ythkocodajjapmaa
set_option maxRecDepth 20000
open Go.RowKit
set_option linter.unusedVariables false
/-- The darts of the first k steps that are Open. -/
def treeL (L : List Int) : Nat → List Int
  | 0 => []
  | k + 1 => if L.getD (2 * k + 1) 0 = 0 then treeL L k ++ [L.getD (2 * k) 0] else treeL L k
theorem treeL_len (L : List Int) : ∀ k, (treeL L k).length ≤ k
  | 0 => by simp [treeL]
  | k + 1 => by
    have := treeL_len L k
    unfold treeL
    split
    · simp; exact this
    · omega
set_option maxHeartbeats 4000000 in
theorem tree_p (A : Option Addr) (n c B : Nat) (L : List Int) (w : World) (h : RdS w B A n L) (hB : B ≤ w.heap.size) (hn : n ≤ 300000) :
    Calls Try.prog 19 #[.slice A n c] w (NewI64 w (treeL L n)) := by
  obtain ⟨i0, hi0, hz0, hz1, hz2⟩ := info_parts info_int
  have HZ := Lib.hid (h.up hB)
  clear h
  go_enter Try.func19, Try.ntmps19
  go_wp2_with fail
  go_loopw [3, 8] (fun s i wr => ∃ (k p cw : Nat) (Av : Option Addr), k ≤ n ∧ i = .int .i64 k ∧ p ≤ k ∧ s = .slice Av p cw ∧ Hid (p = (treeL L k).length) ∧ Hid (wr.ownsRow w.heap.size 3 1 (.slice Av p cw) p (I64 (treeL L k))) ∧ Hid (Below w.heap.size w wr)) (fun _ i _ => n - (intOf i).toNat)
  case atStart => exact ⟨0, 0, 0, none, by omega, rfl, by omega, rfl, rfl, World.ownsRow_nil _ _ _ _, Below.refl _ _⟩
  case round =>
    obtain ⟨k, p, cw, Av, hk, rfl, hpk, rfl, HP, HO, HB⟩ := hrel
    by_cases hlt : k < n
    · obtain ⟨b, rfl, hbB, kk⟩ := (HZ.out.below HB.out).2 (by omega)
      have x0 := kk (2 * k) (by omega)
      have x1 := kk (2 * k + 1) (by omega)
      obtain ⟨y, hy⟩ : ∃ y, y = L.getD (2 * k + 1) 0 := ⟨_, rfl⟩
      obtain ⟨d, hd⟩ : ∃ d, d = L.getD (2 * k) 0 := ⟨_, rfl⟩
      have HN : Hid (treeL L (k + 1) = if y = 0 then treeL L k ++ [d] else treeL L k) := by show _ = _; rw [hy, hd]; rfl
      rw [← hy] at x1
      rw [← hd] at x0
      rw [show 2 * k = k * 2 by omega] at x0 x1
      clear kk hy hd
      have hsw := HB.out.size
      have ZA := Lib.hid ((Below.refl wr.heap.size wr).alloc (Nat.le_refl _) (.cells #[.int .i64 d, .int .i64 y] 40))
      by_cases hy0 : y = 0
      · subst hy0
        have hT := HN.out
        rw [if_pos rfl] at hT
        have HT := Lib.hid hT
        clear hT HN
        have hs1 : (wr.alloc (.cells #[.int .i64 d, .int .i64 0] 40)).heap.size = wr.heap.size + 1 := by simp
        have hown3' := (own_below HO.out ZA.out).alloc (.cells #[.int .i64 d] 3)
        have r3 := Rd.new (wr.alloc (.cells #[.int .i64 d, .int .i64 0] 40)) 3 #[.int .i64 d] 1 (I64 [d]) (by simp [I64]) (by simp)
        rw [hs1] at r3
        have t2 : p + 1 ≤ maxLen := by simp only [maxLen]; omega
        have t3 : (p + 1) * 8 ≤ 140737488355328 := by omega
        have t4 : w.heap.size ≤ ((wr.alloc (.cells #[.int .i64 d, .int .i64 0] 40)).alloc (.cells #[.int .i64 d] 3)).heap.size := by simp; omega
        have HB2 : Hid (Below w.heap.size w ((wr.alloc (.cells #[.int .i64 d, .int .i64 0] 40)).alloc (.cells #[.int .i64 d] 3))) := (HB.out.trans (ZA.out.mono hsw)).alloc (by simp; omega) _
        clear hs1 HO
        go_wp2_with (first
          | (at_builtin; go_must (refine wpList_append_rd _ rfl _ _ 25 rfl w.heap.size 3 i0 (.int .i64 0) 8 Try.underlying25 hi0 hz0 hz1 hz2 rfl (.slice Av p cw) p (I64 (treeL L k)) rfl hown3' (wr.heap.size + 1 + 1) (some ⟨wr.heap.size + 1, 0, none⟩) 1 1 (I64 [d]) rfl r3 (I64_one _) t2 t3 t4 ?_)))
        intro A6 c6 w6 hc6 hm6 hown6 hg6 _
        rw [← I64_append, ← HT.out] at hown6
        have HO6 := Lib.hid hown6
        have HB6 := Lib.hid (HB2.out.trans (Below.appended hown3' hg6 t4))
        have HP6 : Hid (p + 1 = (treeL L (k + 1)).length) := by show _ = _; rw [HT.out, List.length_append, HP.out]; rfl
        clear hown6 hg6 hown3' r3 t2 t3 t4 HB2 HB x0 x1 ZA hc6 hm6
        go_wp2_with fail
        go_roundw
        case rel => exact ⟨k + 1, p + 1, c6, A6, by omega, by go_num, by omega, rfl, HP6.out, HO6.out, HB6.out⟩
        case measure => simp [intOf]; omega
      · have hT := HN.out
        rw [if_neg hy0] at hT
        have HT := Lib.hid hT
        clear hT HN
        have hyb : (y == 0) = false := by rw [beq_eq_false_iff_ne]; exact hy0
        have HO6 := Lib.hid (own_below HO.out ZA.out)
        have HB6 := Lib.hid (HB.out.trans (ZA.out.mono hsw))
        clear HO HB ZA
        go_wp2_with fail
        go_roundw
        case rel => exact ⟨k + 1, p, cw, Av, by omega, by go_num, by omega, rfl, by rw [HT.out]; exact HP.out, by show World.ownsRow _ _ _ _ _ _ _; rw [HT.out]; exact HO6.out, HB6.out⟩
        case measure => simp [intOf]; omega
    · obtain rfl : k = n := by omega
      have hp := HP.out
      have ho := HO.out
      clear HP HO
      go_wp2_with fail
      go_ret
      subst hp
      exact .mk rfl ho HB.out
end Go.Proofs.Ythkocodajjapmaa
namespace Go.Proofs.Ythkocodajjapmaa
set_option maxRecDepth 20000
open Go.RowKit
set_option linter.unusedVariables false
theorem wst_mono (sg nm : Nat → Nat) (m V r : Nat) (i : Nat) : ∀ N k, k ≤ N → i < 2 * k → (wst sg nm m V r N).getD i 0 = (wst sg nm m V r k).getD i 0
  | 0, k, h, hi => by omega
  | N + 1, k, h, hi => by
    rcases Nat.lt_or_ge N k with c | c
    · rw [show k = N + 1 by omega]
    · rw [← wst_mono sg nm m V r i N k c hi]
      have := wst_len sg nm m V r N
      rw [show wst sg nm m V r (N + 1) = wst sg nm m V r N ++ [((wrun sg nm m V r N).d : Int), (((wrun sg nm m V r N).k nm : Nat) : Int)] from rfl]
      rw [List.getD_eq_getElem?_getD, List.getElem?_append_left (by omega), ← List.getD_eq_getElem?_getD]
theorem wst_d (sg nm : Nat → Nat) (m V r : Nat) {N k : Nat} (h : k < N) : (wst sg nm m V r N).getD (2 * k) 0 = ((wrun sg nm m V r k).d : Int) := by
  rw [wst_mono sg nm m V r _ N (k + 1) (by omega) (by omega)]
  have := wst_len sg nm m V r k
  unfold wst
  rw [List.getD_eq_getElem?_getD, List.getElem?_append_right (by omega), this, Nat.sub_self]; rfl
theorem wst_k (sg nm : Nat → Nat) (m V r : Nat) {N k : Nat} (h : k < N) : (wst sg nm m V r N).getD (2 * k + 1) 0 = (((wrun sg nm m V r k).k nm : Nat) : Int) := by
  rw [wst_mono sg nm m V r _ N (k + 1) (by omega) (by omega)]
  have := wst_len sg nm m V r k
  unfold wst
  rw [List.getD_eq_getElem?_getD, List.getElem?_append_right (by omega), this, show 2 * k + 1 - 2 * k = 1 by omega]; rfl
theorem treeL_wcn (sg nm : Nat → Nat) (m V r N : Nat) : ∀ k, k ≤ N → (treeL (wst sg nm m V r N) k).length = wcn sg nm m V r 0 k
  | 0, _ => rfl
  | k + 1, h => by
    have ih := treeL_wcn sg nm m V r N k (by omega)
    have hN := num_next (fun i => (wrun sg nm m V r i).k nm = 0) k
    unfold wcn at ih ⊢
    unfold treeL
    rw [wst_k sg nm m V r (show k < N by omega)]
    by_cases c : (wrun sg nm m V r k).k nm = 0
    · rw [if_pos (by omega), hN.1 c, List.length_append, ih]; rfl
    · rw [if_neg (by omega), hN.2 c, ih]
theorem own_cell5w {w : World} {base g n c : Nat} {e : TypeId} {l : List Nat} (h : w.ownsRow base e 5 (.slice (some ⟨g, 0, none⟩) n c) n (I64 (partsC l n))) (k f : Nat) (hk : k < n) (hf : f < 5) :
    w.cell? ⟨g, k * 5 + f, none⟩ = some (.int .i64 (pcL l (5 * k + f))) := by
  rw [own_cell5 h _ (by omega), Nat.mul_comm k 5, partsC_get _ _ _ _ hk hf]
theorem own_some5w {w : World} {base : Nat} {e : TypeId} {A : Option Addr} {n m c : Nat} {xs : List Value} (h : w.ownsRow base e 5 (.slice A m c) n xs) (hn : 0 < n) : ∃ g, A = some ⟨g, 0, none⟩ := by
  rcases h.2 with ⟨_, h0⟩ | ⟨g, cap, cur, hv, hb, hg, _⟩
  · omega
  · simp only [Value.slice.injEq] at hv
    exact ⟨g, hv.1⟩
end Go.Proofs.Ythkocodajjapmaa
