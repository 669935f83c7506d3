/- RotsTurned: the walk. -/
import Derived.Test.YtohlkhffljjodaaDoorZRTurnM
import Derived.Laws.IdiomStrings
namespace Go.Proofs.YtohlkhffljjodaaDoor
open Go.RowKit
set_option linter.unusedVariables false
set_option maxRecDepth 20000
theorem info_strs : (Tryd.prog.info? 9).map (fun i => (i.zero, i.size, i.bytes)) = some (some (.string ByteArray.empty), 1, 16) := by kernel_rfl
def Ss (ls : List (List Int)) : List Value := ls.map fun x => Value.string (strOfNums x)
theorem Ss_len (ls : List (List Int)) : (Ss ls).length = ls.length := by simp [Ss]
theorem Ss_one (ls : List (List Int)) : ∀ u ∈ Ss ls, u.oneCell' = true := by
  intro u hu
  simp only [Ss, List.mem_map] at hu
  obtain ⟨b, _, rfl⟩ := hu
  rfl
theorem own_cellS {w : World} {base g n c : Nat} {ls : List (List Int)} (h : w.ownsRow base 9 1 (.slice (some ⟨g, 0, none⟩) n c) n (Ss ls)) (k : Nat) (hk : k < n) : w.cell? ⟨g, k, none⟩ = some (.string (strOfNums (ls.getD k []))) := by
  have hl : ls.length = n := by have := h.1; rw [Ss_len] at this; omega
  have := h.cellAt k (by omega)
  rw [this]
  simp [Ss, List.getD_eq_getElem?_getD, List.getElem?_eq_getElem (show k < ls.length by omega)]
theorem own_setS {w : World} {base g n c : Nat} {ls : List (List Int)} (h : w.ownsRow base 9 1 (.slice (some ⟨g, 0, none⟩) n c) n (Ss ls)) (k : Nat) (x : List Int) :
    (w.setCell ⟨g, k, none⟩ (.string (strOfNums x))).ownsRow base 9 1 (.slice (some ⟨g, 0, none⟩) n c) n (Ss (ls.set k x)) := by
  have e : Ss (ls.set k x) = (Ss ls).set k (.string (strOfNums x)) := by simp [Ss, List.map_set]
  rw [e]; exact (h.stored k _).1
/-- What the lines hold: the head, then each vertex's words. -/
noncomputable def LsD (F : List Int) (l D : List Nat) : List (List Int) := F :: D.map fun d => wordsB (ofN (orb l d))
theorem LsD_rows (F : List Int) (l D : List Nat) : F :: (rowsD l D).map wordsB = LsD F l D := by unfold LsD rowsD; rw [List.map_map]; rfl
theorem LsD_get (F : List Int) (l D : List Nat) (j : Nat) (hj : j < D.length) : (LsD F l D).getD (1 + j) [] = wordsB (ofN (orb l (D.getD j 0))) := by
  unfold LsD
  rw [Nat.add_comm, List.getD_cons_succ, List.getD_eq_getElem?_getD, List.getElem?_map, List.getD_eq_getElem?_getD, List.getElem?_eq_getElem hj]; rfl
theorem LsD_swap (F : List Int) (l D : List Nat) (q x : Nat) : ((LsD F l D).set (1 + q) (wordsB (ofN (orb l (D.getD x 0))))).set (1 + x) (wordsB (ofN (orb l (D.getD q 0)))) = LsD F l ((D.set q (D.getD x 0)).set x (D.getD q 0)) := by
  unfold LsD
  rw [Nat.add_comm 1 q, Nat.add_comm 1 x, List.set_cons_succ, List.set_cons_succ, List.map_set, List.map_set]
theorem lines_snoc (rs : List (List Int)) (r : List Int) : linesB (rs ++ [r]) = linesB rs ++ (wordsB r ++ [10]) := by
  unfold linesB; simp [lineB_words]
theorem idx_str (y : List Int) (h : Byt y) (t : Nat) (ht : t < y.length) (W : World) : (Instr.index 9 (.string (strOfNums y)) (.int .i64 (t : Int))).run Tryd.prog W = .ok (.int .u8 (y.getD t 0)) W := by
  rw [run_index_string W 9 _ .i64 (t : Int) Tryd.underlying9]
  have hs : t < (strOfNums y).size := by rw [strOfNums_size]; exact ht
  rw [dif_pos ⟨by omega, by omega⟩]
  have e : ((strOfNums y)[(t : Int).toNat]'(by omega)) = UInt8.ofNat (y.getD t 0).toNat := by
    simp only [Int.toNat_natCast]
    show (strOfNums y).data[t] = _
    simp [strOfNums, List.getD_eq_getElem?_getD, List.getElem?_eq_getElem ht]
  rw [e]
  have := Byt.get h t
  congr 2
  rw [UInt8.toNat_ofNat']
  omega
theorem ext_from (y : List Int) (t : Nat) : (strOfNums y).extract t (strOfNums y).size = strOfNums (y.drop t) := by
  apply ByteArray.ext
  rw [ByteArray.data_extract]
  apply Array.toList_inj.1
  rw [Array.toList_extract]
  simp only [strOfNums_data, strOfNums_size]
  rw [List.extract_eq_take_drop, ← List.map_drop, List.take_of_length_le (by simp)]
theorem ext_to (y : List Int) (t : Nat) : (strOfNums y).extract 0 t = strOfNums (y.take t) := by
  apply ByteArray.ext
  rw [ByteArray.data_extract]
  apply Array.toList_inj.1
  rw [Array.toList_extract]
  simp only [strOfNums_data]
  rw [List.extract_eq_take_drop]
  simp
theorem sl_from (y : List Int) (t : Nat) (ht : t < y.length) (W : World) : (Instr.slice 9 (.string (strOfNums y)) (some (.int .i64 ((t : Int) + 1))) none none).run Tryd.prog W = .ok (.string (strOfNums (y.drop (t + 1)))) W := by
  rw [run_slice_string_l (P := Tryd.prog) W 9 (strOfNums y) Tryd.underlying9 .i64 ((t : Int) + 1) (by omega) (by rw [strOfNums_size]; omega), show ((t : Int) + 1).toNat = t + 1 by omega, ext_from]
theorem sl_to (y : List Int) (t : Nat) (ht : t < y.length) (W : World) : (Instr.slice 9 (.string (strOfNums y)) none (some (.int .i64 (t : Int))) none).run Tryd.prog W = .ok (.string (strOfNums (y.take t))) W := by
  rw [run_slice_string_h (P := Tryd.prog) W 9 (strOfNums y) Tryd.underlying9 .i64 (t : Int) (by omega) (by rw [strOfNums_size]; omega), show ((t : Int)).toNat = t by omega, ext_to]
/-- A line's first blank stands behind its first number. -/
theorem first_blank {x : Int} (hx : -1 ≤ x) {r y : List Int} (hy : y = decB x ++ 32 :: r) {t : Nat} (ht : t < y.length) (h32 : y.getD t 0 = 32) (hno : ∀ s, s < t → y.getD s 0 ≠ 32) : y.take t = decB x ∧ y.drop (t + 1) = r := by
  have hb : ∀ s, s < (decB x).length → y.getD s 0 ≠ 32 := fun s hs e => by
    rw [hy, List.getD_eq_getElem?_getD, List.getElem?_append_left hs, List.getElem?_eq_getElem hs] at e
    have := decB_byt x hx _ (List.getElem_mem hs)
    have e : (decB x)[s] = 32 := e
    omega
  have he : y.getD (decB x).length 0 = 32 := by
    rw [hy, List.getD_eq_getElem?_getD, List.getElem?_append_right (by omega), Nat.sub_self]; rfl
  have htt : t = (decB x).length := by
    rcases Nat.lt_trichotomy t (decB x).length with c | c | c
    · exact absurd h32 (hb t c)
    · exact c
    · exact absurd he (hno _ c)
  subst htt
  rw [hy]
  refine ⟨by simp, ?_⟩
  rw [show decB x ++ 32 :: r = (decB x ++ [32]) ++ r by simp, List.drop_left' (by simp)]
theorem snoc_old (E : List Nat) (e j : Nat) (h : j < E.length) : (E ++ [e]).getD j 0 = E.getD j 0 := by
  rw [List.getD_eq_getElem?_getD, List.getElem?_append_left h, ← List.getD_eq_getElem?_getD]
theorem snoc_new (E : List Nat) (e : Nat) : (E ++ [e]).getD E.length 0 = e := by
  rw [List.getD_eq_getElem?_getD, List.getElem?_append_right (Nat.le_refl _), Nat.sub_self]; rfl
theorem tail_slice (g N c : Nat) (hN : N + 1 ≤ c) : ∃ (A14 : Option Addr) (c14 : Nat), (0 < N → A14 = some ⟨g, 1, none⟩) ∧ ∀ W : World, (Instr.slice 41 (.slice (some ⟨g, 0, none⟩) (N + 1) c) (some (.int .i64 1)) none none).run Tryd.prog W = .ok (.slice A14 N c14) W := by
  have e : ∀ W : World, (Instr.slice 41 (.slice (some ⟨g, 0, none⟩) (N + 1) c) (some (.int .i64 1)) none none).run Tryd.prog W = .ok (sliced (some ⟨g, 0, none⟩) 1 (N + 1) c 1) W := fun W => by
    have h := run_slice_l (P := Tryd.prog) W 41 (some ⟨g, 0, none⟩) (N + 1) c (by kernel_rfl) .i64 1 (by omega) (by omega)
    rw [h]
    have hs : (sizeOf (Tryd.prog.elem 41)).run Tryd.prog W = .ok 1 W := by kernel_rfl
    rw [hs]; rfl
  by_cases hc : c = 1
  · refine ⟨some ⟨g, 0, none⟩, c - 1, fun h => by omega, fun W => ?_⟩
    rw [e W]
    obtain rfl : N = 0 := by omega
    subst hc
    rfl
  · refine ⟨some ⟨g, 1, none⟩, c - 1, fun _ => rfl, fun W => ?_⟩
    rw [e W]
    unfold sliced
    simp [hc, Addr.add]
set_option maxHeartbeats 16000000 in
theorem rotsTurned_walk (n r m c m3 c3 : Nat) (A A3 : Option Addr) (by_ ord : List Int) (mx : Int) (w : World) (h0 : Rd w w.heap.size A m (Z8 by_)) (hb0 : ∀ x ∈ by_, 0 ≤ x ∧ x < 256) (hmc : m ≤ c) (hcm : c ≤ maxLen) (hn : n < 256) (hr : r < 256)
    (h3 : Rd w w.heap.size A3 m3 (Z8 ord)) (hb3 : ∀ x ∈ ord, 0 ≤ x ∧ x < 256) (hmc3 : m3 ≤ c3) (hcm3 : c3 ≤ maxLen)
    (hm : w.cell? ⟨0, 0, none⟩ = some (.int .i64 mx)) (htab : Lib.TabIs Tryd.prog w "internal/strconv.uint64pow10" .u64 Lib.pow10Tab) :
    Calls Tryd.prog 4 #[.int .u8 (n : Int), .slice A m c, .int .u8 (r : Int), .slice A3 m3 c3] w fun e w' => e = .returned (.bool true) ∧ Below w.heap.size w w' := by
  unfold maxLen at hcm hcm3
  have AW := Lib.hid (awake7_p mx w hm)
  have hmlt := World.block_lt_of_cell? _ _ hm
  have HMX := Lib.hid hm
  have HTB := Lib.hid (Lib.tabBelow_of_tabIs htab)
  obtain ⟨k, hk, hk9⟩ : ∃ k, Hid (k = n % 12) ∧ k < 12 := ⟨_, rfl, Nat.mod_lt _ (by decide)⟩
  have e1 : (n : Int) % 12 = (k : Int) := by have := hk.out; omega
  have H0 := Lib.hid h0
  have HB0 := Lib.hid hb0
  have H3 := Lib.hid h3
  have HB3 := Lib.hid hb3
  clear h0 hb0 hm htab h3 hb3
  go_enter Tryd.func4, Tryd.ntmps4
  go_wp2_with fail
  refine AW.out.mono ?_
  rintro e w1 ⟨rfl, b1⟩
  have B1 := Lib.hid b1
  have AN := Lib.hid (any_p k r m c _ A by_ w1 (H0.out.below b1) HB0.out b1.size (by omega) hr (by omega))
  clear b1 AW
  go_wp2_with fail
  refine AN.out.mono ?_
  rintro e w2 ⟨v, l, b, root, rfl, hrm, hl, hroot, b2⟩
  obtain ⟨hinv, A2, c2, hla, rfl, hc2, hm2, r2⟩ := hrm
  have hev : l.length % 2 = 0 := by omega
  have hl28 : l.length ≤ 22 := by omega
  rw [← hl] at hroot
  have hRT := Lib.hid hroot
  have HI := Lib.hid hinv
  have HEV := Lib.hid hev
  have B2 : Hid (Below w.heap.size w w2) := B1.out.trans (b2.mono B1.out.size)
  have hbx := (Below.refl w2.heap.size w2).alloc (Nat.le_refl _) (.cells #[.slice A2 l.length c2, .int .i64 root, .int .i64 0] 26)
  have rx : Rd (w2.alloc (.cells #[.slice A2 l.length c2, .int .i64 root, .int .i64 0] 26)) _ A2 l.length (I64 (ofN l)) := r2.more hbx
  have NO := Lib.hid (new_ok A2 l.length c2 l b root 0 _ rx hinv hev (by omega) hroot (by omega) (by omega))
  have B3 : Hid (Below w.heap.size w (w2.alloc (.cells #[.slice A2 l.length c2, .int .i64 root, .int .i64 0] 26))) := B2.out.trans (hbx.mono B2.out.size)
  clear hla hl hroot b2 r2 rx hbx AN hc2 hm2 hinv B1 hev
  go_wp2_with fail
  refine NO.out.mono ?_
  rintro e w4 ⟨g, rfl, hmap, b4, hmlo⟩
  have HM4 := Lib.hid hmap
  have B4 : Hid (Below w.heap.size w w4) := B3.out.trans (b4.mono B3.out.size)
  have hrb : -1 ≤ root ∧ root ≤ 131072 := by
    have := hRT.out; unfold RootOk at this; omega
  have PR := Lib.hid (print_p g l b root 0 w4 HM4.out (by omega) (HTB.out w4 B4.out))
  clear hmap hmlo b4 NO B3
  go_wp2_with fail
  refine PR.out.mono ?_
  rintro e w5 ⟨A5, c5, rfl, q1, q2, ho5, b5⟩
  have RL := Lib.hid (Reps.leads HI.out)
  rw [textD_leads] at ho5 q1 ⊢
  have hbd : -1 ≤ root ∧ root < 1000000000 := by omega
  have hlb : 0 ≤ (0 : Int) ∧ (0 : Int) < 1000000000 := by omega
  have HBY := Lib.hid (textD_byt HI.out RL.out (by omega) hbd hlb)
  have hTL := textD_len HI.out RL.out (by omega) hbd hlb
  have hDL := RL.out.len_le HI.out
  obtain ⟨rs, hrs⟩ : ∃ rs, rs = [((l.length / 2 : Nat) : Int), root, 0] :: rowsD l (leads l l.length) := ⟨_, rfl⟩
  have HSP : Hid (splitL 10 (textD l (leads l l.length) root 0) = rs.map wordsB ++ [[]]) := by
    show _ = _
    rw [hrs]
    exact lines_split _ fun r hm x hx => by
      rcases List.mem_cons.1 hm with rfl | hm
      · exact (head_small (by omega) hbd hlb x hx).1
      · have := ((rowsD_small HI.out RL.out (by omega) r hm).2 x hx).1; omega
  have HRS := Lib.hid hrs
  obtain ⟨D0, hD0⟩ : ∃ D0, D0 = leads l l.length := ⟨_, rfl⟩
  rw [← hD0] at HSP HRS RL hDL hTL HBY ho5 q1 ⊢
  generalize hT : textD l D0 root 0 = T at *
  have hT5 : T.length ≤ 1000 := by omega
  have B5 : Hid (Below w.heap.size w w5) := B4.out.trans (b5.mono B4.out.size)
  have HO5 := Lib.hid ho5
  have HM5 := Lib.hid (HM4.out.below b5)
  have hq2 : c5 ≤ 9223372036854775807 := by unfold maxLen at q2; omega
  clear ho5 b5 PR HM4 hrs hD0 hT hTL q2
  go_wp2_with fail
  obtain ⟨i0, hi0, hz0, hz1, hz2⟩ := info_parts info_strs
  go_loopw [14, 15, 49] (fun ls f i wr => ∃ (j from_ : Nat) (done : List (List Int)) (A' : Option Addr) (c' : Nat), i = .int .i64 (j : Int) ∧ j ≤ T.length ∧ f = .int .i64 (from_ : Int) ∧ from_ ≤ j ∧ ls = .slice A' done.length c' ∧ done.length ≤ j ∧ Hid (splitL 10 (T.take j) = done ++ [(T.take j).drop from_]) ∧
    Hid (wr.ownsRow w5.heap.size 9 1 (.slice A' done.length c') done.length (Ss done)) ∧ Hid (Below w5.heap.size w5 wr)) (fun _ _ i _ => T.length - (intOf i).toNat)
  case atStart => exact ⟨0, 0, [], none, 0, rfl, by omega, rfl, by omega, rfl, by simp, by show _ = _; simp [splitL], World.ownsRow_nil _ _ _ _, Below.refl _ _⟩
  case round =>
    obtain ⟨j, fr, done, A', c', rfl, hj, rfl, hfr, rfl, hdl, hsp, ho, hb⟩ := hrel
    by_cases hlt : j < T.length
    · have hltI : (j : Int) < (T.length : Int) := by omega
      have hsn := split_snoc 10 (T.getD j 0) (T.take j) done _ hsp.out
      rw [← take_snoc T j hlt] at hsn
      have hrd := Rd.ofOwn (own_below HO5.out hb.out)
      obtain ⟨b9, o9, rfl, hb9, k9⟩ := hrd.z8 (by omega)
      have c9 := k9 j hlt
      by_cases h10 : T.getD j 0 = 10
      · rw [if_pos h10] at hsn
        rw [h10] at c9
        have hcut : Rd wr wr.heap.size (some ⟨b9, o9 + fr, none⟩) (j - fr) (Z8 ((T.take j).drop fr)) := by
          have := (hrd.take j (Nat.le_of_lt hlt)).drop fr
          have e : ((Z8 T).take j).drop fr = Z8 ((T.take j).drop fr) := by simp [Z8]
          rwa [e] at this
        have cv := fun cc => conv8 (some ⟨b9, o9 + fr, none⟩) (j - fr) cc wr.heap.size _ wr hcut
        have hfrI : (fr : Int) ≤ (j : Int) := by omega
        have hjc : (j : Int) ≤ (c5 : Int) := by omega
        have hfc : (fr : Int) ≤ (c5 : Int) := by omega
        have hne : ¬ (fr = c5) := by omega
        have hown1 := ho.out.alloc (.cells #[.string (strOfNums ((T.take j).drop fr))] 9)
        have hrd1 := Rd.new wr 9 #[.string (strOfNums ((T.take j).drop fr))] 1 (Ss [(T.take j).drop fr]) rfl rfl
        have hbw : Below w.heap.size w wr := B5.out.trans (hb.out.mono B5.out.size)
        have HSN : Hid (splitL 10 (T.take (j + 1)) = (done ++ [(T.take j).drop fr]) ++ [(T.take (j + 1)).drop (j + 1)]) := by
          have ed : (T.take (j + 1)).drop (j + 1) = [] := List.drop_of_length_le (by rw [List.length_take]; omega)
          show _ = _
          rw [hsn, ed]
        have HSS : Hid (Ss done ++ Ss [(T.take j).drop fr] = Ss (done ++ [(T.take j).drop fr])) := by show _ = _; simp [Ss]
        have hsz := hb.out.size
        generalize (T.take j).drop fr = cur at *
        generalize strOfNums cur = S at *
        clear k9 hrd hcut hsn h10
        go_wp2_with (first
          | (at_builtin; refine wpList_append_rd _ rfl _ _ 41 rfl w5.heap.size 9 i0 (.string ByteArray.empty) 16 Tryd.underlying41 hi0 hz0 hz1 hz2 rfl _ _ _ rfl hown1 _ _ 1 1 _ rfl hrd1 (Ss_one _) ?c1 ?c2 ?c3 ?_))
        case c1 => simp only [maxLen]; omega
        case c2 => omega
        case c3 => simp; omega
        intro A6 c6 w6 q6 q7 hown6 hgr hat
        have hb6 : Hid (Below w5.heap.size w5 w6) := by
          have h1 : Below w5.heap.size w5 (wr.alloc (.cells #[.string S] 9)) := hb.out.alloc hb.out.size _
          refine ⟨hgr.os.trans h1.os, hgr.tape.trans h1.tape, hgr.output.trans h1.output, Nat.le_trans h1.size hgr.size, fun q hq => ?_⟩
          rw [hgr.block q (Nat.lt_of_lt_of_le hq h1.size) fun e => ?_]
          · exact h1.block q hq
          · have := (hown1.lt q e.symm).1; omega
        rw [HSS.out] at hown6
        have HO6 := Lib.hid hown6
        clear hown1 hrd1 hown6 hgr hat HSS cv
        go_wp2_with fail
        go_roundw
        case rel =>
          have el : (done ++ [cur]).length = done.length + 1 := by simp
          refine ⟨j + 1, j + 1, done ++ [cur], A6, c6, by go_num, by omega, by go_num, by omega, by rw [el], by omega, HSN.out, ?_, hb6.out⟩
          show World.ownsRow _ _ _ _ _ _ _
          rw [el]; exact HO6.out
        case measure => simp [intOf]; omega
      · have hne10 : (T.getD j 0 == 10) = false := beq_eq_false_iff_ne.2 h10
        rw [if_neg h10] at hsn
        have HSN : Hid (splitL 10 (T.take (j + 1)) = done ++ [(T.take (j + 1)).drop fr]) := by
          show _ = _
          rw [hsn, take_snoc T j hlt, List.drop_append_of_le_length (by rw [List.length_take]; omega)]
        clear k9 hrd hsn h10
        generalize T.getD j 0 = x at *
        go_wp2_with fail
        go_roundw
        case rel => exact ⟨j + 1, fr, done, A', c', by go_num, by omega, rfl, by omega, rfl, by omega, HSN.out, ho.out, hb.out⟩
        case measure => simp [intOf]; omega
    · obtain rfl : j = T.length := by omega
      have hs := hsp.out
      rw [List.take_length, HSP.out] at hs
      have hdn : done = wordsB [((l.length / 2 : Nat) : Int), root, 0] :: (rowsD l D0).map wordsB := by
        have := (List.append_inj' hs rfl).1
        rw [← this, HRS.out]; rfl
      obtain ⟨N, hN⟩ : ∃ N, N = D0.length := ⟨_, rfl⟩
      have hdl' : done.length = N + 1 := by rw [hdn, List.length_cons, List.length_map, rowsD_len, hN]
      have hoo := ho.out
      rw [hdl', hdn] at hoo
      rw [hdl']
      obtain ⟨gS, rfl, hg1, hg2⟩ := own_some hoo (by omega)
      have hcN : N + 1 ≤ c' := by
        obtain ⟨A8, c8, e8, l8, _⟩ := own_form hoo
        simp only [Value.slice.injEq] at e8
        obtain ⟨_, _, rfl⟩ := e8
        exact l8
      have HL0 : Hid (wordsB [((l.length / 2 : Nat) : Int), root, 0] ++ [10] = linesB [[((l.length / 2 : Nat) : Int), root, 0]]) := by
        show _ = _
        rw [← lineB_words]; simp [linesB]
      have hF : (wordsB [((l.length / 2 : Nat) : Int), root, 0] ++ [10]).length ≤ 67 := by
        rw [← lineB_words]
        exact lineB_len (zs := [((l.length / 2 : Nat) : Int), root, 0]) (fun k => by
          rcases k with _ | _ | _ | k <;> simp <;> omega)
      have cl0 := own_cellS hoo 0 (by omega)
      rw [List.getD_cons_zero] at cl0
      have HOO := Lib.hid hoo
      obtain ⟨hd0, hhd0⟩ : ∃ hd0, hd0 = [((l.length / 2 : Nat) : Int), root, 0] := ⟨_, rfl⟩
      have HHD := Lib.hid hhd0
      rw [← hhd0] at cl0 HOO HL0 hF
      obtain ⟨F, hF0⟩ : ∃ F, F = wordsB hd0 := ⟨_, rfl⟩
      rw [← hF0] at cl0 HOO HL0 hF
      have cc := fun W => cat_one F 10 (by rw [List.length_append] at hF; omega) W 10 rfl
      obtain ⟨A14, c14, hA14, hsl⟩ := tail_slice gS N c' hcN
      have HA14 := Lib.hid hA14
      have hNl : N ≤ 22 := by omega
      have RL0 : Hid (D0.length = N ∧ Reps l D0) := ⟨hN.symm, RL.out⟩
      clear hs hsp hdn hdl' hoo ho HSP HRS hN RL hdl hfr hj hA14 hhd0 hF0 q1 HBY hT5
      generalize hT0 : F ++ [10] = T0 at *
      generalize hz0 : strOfNums T0 = Z0 at *
      have HZ0 := Lib.hid hz0
      clear hz0 hT0
      obtain ⟨wl, rfl⟩ : ∃ wl, wl = wr := ⟨_, rfl⟩
      go_wp2_with fail
      go_loopw [18, 75] (fun t i wr => ∃ (q : Nat) (tx : List Int) (D E : List Nat), i = .int .i64 (q : Int) ∧ q ≤ N ∧ t = .string (strOfNums tx) ∧ tx.length ≤ 67 + 600 * q ∧ Hid (tx = linesB (hd0 :: rowsD l E)) ∧ Hid (E.length = q) ∧ Hid (D.length = N ∧ Reps l D) ∧ Hid (∀ j, j < q → E.getD j 0 ∈ orb l (D.getD j 0)) ∧
        Hid (wr.ownsRow w5.heap.size 9 1 (.slice (some ⟨gS, 0, none⟩) (N + 1) c') (N + 1) (Ss (F :: (rowsD l D).map wordsB))) ∧ Hid (Below w5.heap.size w5 wr)) (fun _ i _ => N - (intOf i).toNat)
      case atStart => exact ⟨0, T0, D0, [], rfl, by omega, by rw [HZ0.out], by omega, by show _ = _; rw [HL0.out]; rfl, rfl, RL0.out, fun j hj => by omega, HOO.out, hb.out⟩
      case round =>
        obtain ⟨q, tx, D, E, rfl, hq, rfl, htl, htx, hE, hD, hEm, ho, hbl⟩ := hrel
        by_cases hlt : q < N
        · have hltI : (q : Int) < (N : Int) := by omega
          obtain rfl : A14 = some ⟨gS, 1, none⟩ := HA14.out (by omega)
          have hDl := hD.out.1
          have hbw : Below w.heap.size w wr := B5.out.trans (hbl.out.mono B5.out.size)
          have ho' := ho.out
          rw [LsD_rows] at ho'
          have hgsz : w5.heap.size ≤ gS := hg1
          by_cases hi : q < m3
          · obtain ⟨b3, o3, rfl, hbb, k3⟩ := H3.out.z8 (by omega)
            have hcq := (hbw.cell (p := ⟨b3, o3 + q, none⟩) hbb).trans (k3 q hi)
            obtain ⟨hv0, hv1⟩ : 0 ≤ ord.getD q 0 ∧ ord.getD q 0 < 256 := Byt.get (l := ord) HB3.out q
            obtain ⟨v, hv⟩ : ∃ v : Nat, ord.getD q 0 = (v : Int) := ⟨(ord.getD q 0).toNat, by omega⟩
            rw [hv] at hcq hv0 hv1
            clear k3 hv
            have hvq : v % (N - q) < N - q := Nat.mod_lt _ (by omega)
            obtain ⟨x, hx⟩ : ∃ x, x = q + v % (N - q) := ⟨_, rfl⟩
            have hxk : x < N := by omega
            have HX : Hid ((q : Int) + (v : Int) % ((N : Int) - (q : Int)) = (x : Int)) := by
              show _ = _
              rw [hx, show (N : Int) - (q : Int) = ((N - q : Nat) : Int) by omega]
              omega
            clear hx hvq
            have c1 := own_cellS ho' (1 + q) (by omega)
            have c2 := own_cellS ho' (1 + x) (by omega)
            rw [LsD_get F l D q (by omega)] at c1
            rw [LsD_get F l D x (by omega)] at c2
            have f1 := ho'.frozenAt (1 + q)
            have f2 := ho'.frozenAt (1 + x)
            have o1 := own_setS ho' (1 + q) (wordsB (ofN (orb l (D.getD x 0))))
            have o2 := own_setS o1 (1 + x) (wordsB (ofN (orb l (D.getD q 0))))
            have c3 := own_cellS o1 (1 + x) (by omega)
            have f3 := o1.frozenAt (1 + x)
            rw [LsD_swap] at o2
            have hd0 : (0 : Int) ≤ (v : Int) % ((N : Int) - (q : Int)) := Int.emod_nonneg _ (by omega)
            have hd1 : (v : Int) % ((N : Int) - (q : Int)) < (N : Int) - (q : Int) := Int.emod_lt_of_pos _ (by omega)
            have hd2 : (0 : Int) < (N : Int) - (q : Int) := by omega
            have hd3 : ¬ ((N : Int) - (q : Int) = 0) := by omega
            obtain ⟨D2, hD2⟩ : ∃ D2, D2 = (D.set q (D.getD x 0)).set x (D.getD q 0) := ⟨_, rfl⟩
            have HD2 : Hid (D2.length = N ∧ Reps l D2) := by
              show _ ∧ _
              rw [hD2]
              exact ⟨by simp [hDl], hD.out.2.swap (by omega) (by omega)⟩
            have HEM2 : Hid (∀ j, j < q → E.getD j 0 ∈ orb l (D2.getD j 0)) := fun j hj => by
              have hxq : q ≤ x := by have := HX.out; omega
              rw [hD2, getD_set_other (by omega), getD_set_other (by omega)]
              exact hEm.out j hj
            rw [← hD2] at o2
            have hbS : Below w5.heap.size w5 ((wr.setCell ⟨gS, 1 + q, none⟩ (.string (strOfNums (wordsB (ofN (orb l (D.getD x 0))))))).setCell ⟨gS, 1 + x, none⟩ (.string (strOfNums (wordsB (ofN (orb l (D.getD q 0))))))) := (hbl.out.setCell hgsz _).setCell hgsz _
            have HBS := Lib.hid hbS
            have O2 := Lib.hid o2
            have hcq2 : ((wr.setCell ⟨gS, 1 + q, none⟩ (.string (strOfNums (wordsB (ofN (orb l (D.getD x 0))))))).setCell ⟨gS, 1 + x, none⟩ (.string (strOfNums (wordsB (ofN (orb l (D.getD q 0))))))).cell? ⟨b3, o3 + q, none⟩ = some (.int .u8 (v : Int)) := by
              have hbw2 : Below w.heap.size w ((wr.setCell ⟨gS, 1 + q, none⟩ (.string (strOfNums (wordsB (ofN (orb l (D.getD x 0))))))).setCell ⟨gS, 1 + x, none⟩ (.string (strOfNums (wordsB (ofN (orb l (D.getD q 0))))))) := B5.out.trans (hbS.mono B5.out.size)
              have := hbw.cell (p := ⟨b3, o3 + q, none⟩) hbb
              exact ((hbw2.cell (p := ⟨b3, o3 + q, none⟩) hbb).trans this.symm).trans hcq
            have HCQ2 := Lib.hid hcq2
            have hqx : x ≤ N := by omega
            clear o1 o2 ho' ho hbS hcq2 hD2 hEm hD
            have PKX : True := trivial
            by_cases hxq : x = q
            focus (
              have hxq' := hxq.symm
              clear hxq
              subst hxq'
              generalize strOfNums (wordsB (ofN (orb l (D.getD q 0)))) = sx at *
              go_wp2_with fail
              rw [HX.out]
              go_region
              have OW : Hid (World.ownsRow ((wr.setCell ⟨gS, 1 + q, none⟩ (.string sx)).setCell ⟨gS, 1 + q, none⟩ (.string sx)).drew w5.heap.size 9 1 (.slice (some ⟨gS, 0, none⟩) (N + 1) c') (N + 1) (Ss (LsD F l D2))) := O2.out
              have BW : Hid (Below w5.heap.size w5 ((wr.setCell ⟨gS, 1 + q, none⟩ (.string sx)).setCell ⟨gS, 1 + q, none⟩ (.string sx)).drew) := HBS.out.drew
              have CW : ((wr.setCell ⟨gS, 1 + q, none⟩ (.string sx)).setCell ⟨gS, 1 + q, none⟩ (.string sx)).drew.cell? ⟨b3, o3 + q, none⟩ = some (.int .u8 (v : Int)) := HCQ2.out
              generalize ((wr.setCell ⟨gS, 1 + q, none⟩ (.string sx)).setCell ⟨gS, 1 + q, none⟩ (.string sx)).drew = W2 at OW BW CW ⊢)
            rotate_left
            focus (
              generalize strOfNums (wordsB (ofN (orb l (D.getD x 0)))) = sx at *
              generalize strOfNums (wordsB (ofN (orb l (D.getD q 0)))) = sq at *
              go_wp2_with fail
              rw [HX.out]
              go_region
              have OW : Hid (World.ownsRow ((wr.setCell ⟨gS, 1 + q, none⟩ (.string sx)).setCell ⟨gS, 1 + x, none⟩ (.string sq)).drew w5.heap.size 9 1 (.slice (some ⟨gS, 0, none⟩) (N + 1) c') (N + 1) (Ss (LsD F l D2))) := O2.out
              have BW : Hid (Below w5.heap.size w5 ((wr.setCell ⟨gS, 1 + q, none⟩ (.string sx)).setCell ⟨gS, 1 + x, none⟩ (.string sq)).drew) := HBS.out.drew
              have CW : ((wr.setCell ⟨gS, 1 + q, none⟩ (.string sx)).setCell ⟨gS, 1 + x, none⟩ (.string sq)).drew.cell? ⟨b3, o3 + q, none⟩ = some (.int .u8 (v : Int)) := HCQ2.out
              generalize ((wr.setCell ⟨gS, 1 + q, none⟩ (.string sx)).setCell ⟨gS, 1 + x, none⟩ (.string sq)).drew = W2 at OW BW CW ⊢)
            all_goals (
              clear c1 c2 c3 f1 f2 f3 O2 HBS HCQ2 hcq hbw hbl HX hd0 hd1 hd2 hd3 PKX
              have hdl := HD2.out.2.lt q (by have := HD2.out.1; omega)
              have cw := own_cellS OW.out (1 + q) (by omega)
              rw [LsD_get F l D2 q (by have := HD2.out.1; omega)] at cw
              have FIN : Hid (∀ e, e ∈ orb l (D2.getD q 0) → (tx ++ (wordsB (ofN (orb l e)) ++ [10]) = linesB (hd0 :: rowsD l (E ++ [e])) ∧ (E ++ [e]).length = q + 1 ∧ (∀ j, j < q + 1 → (E ++ [e]).getD j 0 ∈ orb l (D2.getD j 0)))) := fun e he => by
                refine ⟨?_, by rw [List.length_append, hE.out]; rfl, fun j hj => ?_⟩
                · rw [htx.out, ← lines_snoc]; unfold rowsD; simp
                · by_cases c : j < q
                  · rw [snoc_old E e j (by rw [hE.out]; exact c)]; exact HEM2.out j c
                  · obtain rfl : j = q := by omega
                    have := snoc_new E e
                    rw [hE.out] at this
                    rw [this]; exact he
              have YL : Hid (∀ e, e < l.length → (wordsB (ofN (orb l e))).length ≤ 484) := fun e he => by
                have h1 := lineB_len (ofN_bd (l := orb l e) (n := l.length) (fun x hx => orb_lt HI.out he hx) (by omega))
                rw [lineB_words, List.length_append, List.length_singleton, ofN_len] at h1
                have := orb_len_le HI.out he
                omega
              have YB : Hid (∀ e, e < l.length → Byt (wordsB (ofN (orb l e)))) := fun e he b hb => by
                have := words_byt (ofN (orb l e)) (fun x hx => by unfold ofN at hx; simp only [List.mem_map] at hx; obtain ⟨y, _, rfl⟩ := hx; omega) b hb
                omega
              have hyl := YL.out _ hdl
              have hyb := YB.out _ hdl
              obtain ⟨d, hd⟩ : ∃ d, d = D2.getD q 0 := ⟨_, rfl⟩
              rw [← hd] at cw FIN hyl hyb hdl
              have WT := Lib.hid (words_turn HI.out hdl)
              have FD := Lib.hid (FIN.out d (orb_self HI.out hdl))
              have FN := Lib.hid (FIN.out (l.getD d 0) ((mem_orb HI.out hdl).2 ⟨1, rfl⟩))
              obtain ⟨y, hy⟩ : ∃ y, y = wordsB (ofN (orb l d)) := ⟨_, rfl⟩
              rw [← hy] at cw hyl hyb WT FD
              have HYB := Lib.hid hyb
              have ISX := Lib.hid (fun t (ht : t < y.length) W => idx_str y hyb t ht W)
              have SLX := Lib.hid (fun t (ht : t < y.length) => And.intro (sl_from y t ht) (sl_to y t ht))
              have hSz : ((strOfNums y).size : Int) = (y.length : Int) := by rw [strOfNums_size]
              obtain ⟨M, hM⟩ : ∃ M, M = y.length := ⟨_, rfl⟩
              rw [← hM] at hSz hyl ISX SLX
              have HM := Lib.hid hM
              obtain ⟨S, hS⟩ : ∃ S, S = strOfNums y := ⟨_, rfl⟩
              rw [← hS] at cw hSz ISX SLX
              have HS := Lib.hid hS
              have HHN := Lib.hid (YL.out _ (HI.out.lt d hdl))
              clear hd hy hyb hM hS FIN YL YB
              by_cases hpar : v % 2 = 0
              · have hp1 : (v : Int) % 2 = 0 := by omega
                have hp2 : (v : Int).tmod 2 = 0 := by rw [Int.tmod_eq_emod_of_nonneg (by omega)]; omega
                clear hpar
                go_wp2_with fail
                go_loopw [21, 114] (fun z i wx => ∃ t : Nat, i = .int .i64 (t : Int) ∧ t ≤ M ∧ z = .string S ∧ wx = W2) (fun _ i _ => M - (intOf i).toNat)
                case atStart => exact ⟨0, rfl, by omega, rfl, rfl⟩
                case round =>
                  obtain ⟨t, rfl, ht, rfl, rfl⟩ := hrel
                  by_cases htM : t < M
                  · have htI : (t : Int) < (M : Int) := by omega
                    have ix := ISX.out t htM
                    generalize y.getD t 0 = yb at *
                    by_cases h32 : yb = 32
                    all_goals (
                      first | subst h32 | skip
                      first | (have hne := beq_eq_false_iff_ne.2 h32; clear h32) | skip
                      go_wp2_with fail
                      go_roundw
                      case rel => exact ⟨t + 1, by go_num, by omega, rfl, trivial⟩
                      case measure => simp [intOf]; omega)
                  · obtain rfl : t = M := by omega
                    have hyl' : y.length ≤ 484 := by rw [← HM.out]; exact hyl
                    have cA := fun W => cat_one y 10 (by omega) W 10 rfl
                    have cB := fun W => cat_run tx (y ++ [10]) (by rw [List.length_append]; simp; omega) W
                    have hl9 : (tx ++ (y ++ [10])).length ≤ 67 + 600 * (q + 1) := by rw [List.length_append, List.length_append]; simp; omega
                    rw [← HS.out] at cA
                    generalize htn : tx ++ (y ++ [10]) = tn at *
                    generalize strOfNums (y ++ [10]) = Sl at *
                    have HTN := Lib.hid htn
                    clear htn
                    clear ISX hSz SLX
                    go_wp2_with fail
                    go_roundw
                    case rel =>
                      refine ⟨q + 1, tn, D2, E ++ [d], by go_num, by omega, rfl, hl9, ?_, FD.out.2.1, HD2.out, FD.out.2.2, ?_, BW.out⟩
                      · show _ = _; exact FD.out.1
                      · show World.ownsRow _ _ _ _ _ _ _; rw [LsD_rows]; exact OW.out
                    case measure => simp [intOf]; omega
              · have hp1 : (v : Int) % 2 = 1 := by omega
                have hp2 : (v : Int).tmod 2 = 1 := by rw [Int.tmod_eq_emod_of_nonneg (by omega)]; omega
                clear hpar
                go_wp2_with fail
                go_loopw [21, 114] (fun z i wx => ∃ t : Nat, i = .int .i64 (t : Int) ∧ t ≤ M ∧ z = .string S ∧ Hid (∀ s, s < t → y.getD s 0 ≠ 32) ∧ wx = W2) (fun _ i _ => M - (intOf i).toNat)
                case atStart => exact ⟨0, rfl, by omega, rfl, fun s hs => by omega, rfl⟩
                case round =>
                  obtain ⟨t, rfl, ht, rfl, hno, rfl⟩ := hrel
                  by_cases htM : t < M
                  · have htI : (t : Int) < (M : Int) := by omega
                    have ix := ISX.out t htM
                    by_cases h32 : y.getD t 0 = 32
                    · rw [h32] at ix
                      obtain ⟨r, hr0, hyr, hyn⟩ : ∃ r, r ≠ [] ∧ y = decB (d : Int) ++ 32 :: r ∧ wordsB (ofN (orb l (l.getD d 0))) = r ++ 32 :: decB (d : Int) := by
                        rcases WT.out with ⟨_, _, e⟩ | h
                        · exfalso
                          have hmem : y.getD t 0 ∈ y := by rw [List.getD_eq_getElem?_getD, List.getElem?_eq_getElem (by rw [← HM.out]; exact htM)]; exact List.getElem_mem _
                          rw [h32, e] at hmem
                          have := decB_byt (d : Int) (by omega) _ hmem
                          omega
                        · exact h
                      obtain ⟨f1, f2⟩ := first_blank (x := (d : Int)) (by omega) hyr (by rw [← HM.out]; exact htM) h32 hno.out
                      obtain ⟨s1, s2⟩ := SLX.out t htM
                      rw [f2] at s1
                      rw [f1] at s2
                      have hlr : r.length ≤ 484 ∧ (decB (d : Int)).length ≤ 484 ∧ r.length + 1 + (decB (d : Int)).length ≤ 484 := by
                        have := hyl
                        rw [HM.out, hyr, List.length_append, List.length_cons] at this
                        omega
                      have k1 := fun W => cat_one r 32 (by omega) W 32 rfl
                      have k2 := fun W => cat_run (r ++ [32]) (decB (d : Int)) (by rw [List.length_append]; simp; omega) W
                      have e2 : r ++ [32] ++ decB (d : Int) = wordsB (ofN (orb l (l.getD d 0))) := by rw [hyn]; simp
                      rw [e2] at k2
                      obtain ⟨y2, hy2⟩ : ∃ y2, y2 = wordsB (ofN (orb l (l.getD d 0))) := ⟨_, rfl⟩
                      have hly2 : y2.length ≤ 484 := by rw [hy2]; exact HHN.out
                      rw [← hy2] at k2 FN
                      obtain ⟨S2, hS2⟩ : ∃ S2, S2 = strOfNums y2 := ⟨_, rfl⟩
                      rw [← hS2] at k2
                      have HS2 := Lib.hid hS2
                      generalize strOfNums (r ++ [32]) = S3 at *
                      generalize strOfNums (decB (d : Int)) = S4 at *
                      generalize strOfNums r = S5 at *
                      have cA := fun W => cat_one y2 10 (by omega) W 10 rfl
                      have cB := fun W => cat_run tx (y2 ++ [10]) (by rw [List.length_append]; simp; omega) W
                      have hl9 : (tx ++ (y2 ++ [10])).length ≤ 67 + 600 * (q + 1) := by rw [List.length_append, List.length_append]; simp; omega
                      rw [← HS2.out] at cA
                      generalize htn : tx ++ (y2 ++ [10]) = tn at *
                      generalize strOfNums (y2 ++ [10]) = Sl at *
                      have HTN := Lib.hid htn
                      clear htn
                      have wt : IntKind.i64.wrap ((t : Int) + 1) = (t : Int) + 1 := by simp [IntKind.wrap, IntKind.signed, IntKind.bits]; omega
                      clear ISX hSz SLX hy2 hS2 e2 hyn hyr f1 f2 h32 hno WT hr0 hlr
                      go_wp2_with fail
                      go_quiet (fail)
                      go_wp2_with fail
                      go_roundw
                      case rel =>
                        refine ⟨q + 1, tn, D2, E ++ [l.getD d 0], by go_num, by omega, rfl, hl9, ?_, FN.out.2.1, HD2.out, FN.out.2.2, ?_, below_draws BW.out _⟩
                        · show _ = _; exact FN.out.1
                        · show World.ownsRow _ _ _ _ _ _ _; rw [LsD_rows]; exact OW.out
                      case measure => simp [intOf]; omega
                    · have hne := beq_eq_false_iff_ne.2 h32
                      have HNO : Hid (∀ s, s < t + 1 → y.getD s 0 ≠ 32) := fun s hs => by
                        by_cases c : s = t
                        · rw [c]; exact h32
                        · exact hno.out s (by omega)
                      clear h32
                      generalize y.getD t 0 = yb at *
                      go_wp2_with fail
                      go_roundw
                      case rel => exact ⟨t + 1, by go_num, by omega, rfl, HNO.out, trivial⟩
                      case measure => simp [intOf]; omega
                  · obtain rfl : t = M := by omega
                    have HD1 : Hid (orb l (l.getD d 0) = orb l d) := by
                      rcases WT.out with ⟨_, e, _⟩ | ⟨r, _, e, _⟩
                      · exact e
                      · exfalso
                        have hlt : (decB (d : Int)).length < y.length := by rw [e]; simp
                        refine hno.out (decB (d : Int)).length (by rw [HM.out]; exact hlt) ?_
                        rw [e, List.getD_eq_getElem?_getD, List.getElem?_append_right (Nat.le_refl _), Nat.sub_self]; rfl
                    have hyl' : y.length ≤ 484 := by rw [← HM.out]; exact hyl
                    have cA := fun W => cat_one y 10 (by omega) W 10 rfl
                    have cB := fun W => cat_run tx (y ++ [10]) (by rw [List.length_append]; simp; omega) W
                    have hl9 : (tx ++ (y ++ [10])).length ≤ 67 + 600 * (q + 1) := by rw [List.length_append, List.length_append]; simp; omega
                    rw [← HS.out] at cA
                    generalize htn : tx ++ (y ++ [10]) = tn at *
                    generalize strOfNums (y ++ [10]) = Sl at *
                    have HTN := Lib.hid htn
                    clear htn
                    clear ISX hSz SLX
                    go_wp2_with fail
                    go_roundw
                    case rel =>
                      refine ⟨q + 1, tn, D2, E ++ [d], by go_num, by omega, rfl, hl9, ?_, FD.out.2.1, HD2.out, FD.out.2.2, ?_, BW.out⟩
                      · show _ = _; exact FD.out.1
                      · show World.ownsRow _ _ _ _ _ _ _; rw [LsD_rows]; exact OW.out
                    case measure => simp [intOf]; omega)
          · have OW := Lib.hid ho'
            have BW := Lib.hid hbl.out
            have HD2 := Lib.hid hD.out
            have HEM2 := Lib.hid hEm.out
            obtain ⟨W2, hW2⟩ : ∃ W2, W2 = wr := ⟨_, rfl⟩
            rw [← hW2] at OW BW ⊢
            obtain ⟨D2, hD2⟩ : ∃ D2, D2 = D := ⟨_, rfl⟩
            rw [← hD2] at OW HD2 HEM2
            clear ho' ho hbl hD hEm hW2 hD2 hbw
            have hdl := HD2.out.2.lt q (by have := HD2.out.1; omega)
            have cw := own_cellS OW.out (1 + q) (by omega)
            rw [LsD_get F l D2 q (by have := HD2.out.1; omega)] at cw
            have FIN : Hid (∀ e, e ∈ orb l (D2.getD q 0) → (tx ++ (wordsB (ofN (orb l e)) ++ [10]) = linesB (hd0 :: rowsD l (E ++ [e])) ∧ (E ++ [e]).length = q + 1 ∧ (∀ j, j < q + 1 → (E ++ [e]).getD j 0 ∈ orb l (D2.getD j 0)))) := fun e he => by
              refine ⟨?_, by rw [List.length_append, hE.out]; rfl, fun j hj => ?_⟩
              · rw [htx.out, ← lines_snoc]; unfold rowsD; simp
              · by_cases c : j < q
                · rw [snoc_old E e j (by rw [hE.out]; exact c)]; exact HEM2.out j c
                · obtain rfl : j = q := by omega
                  have := snoc_new E e
                  rw [hE.out] at this
                  rw [this]; exact he
            have YL : Hid (∀ e, e < l.length → (wordsB (ofN (orb l e))).length ≤ 484) := fun e he => by
              have h1 := lineB_len (ofN_bd (l := orb l e) (n := l.length) (fun x hx => orb_lt HI.out he hx) (by omega))
              rw [lineB_words, List.length_append, List.length_singleton, ofN_len] at h1
              have := orb_len_le HI.out he
              omega
            have YB : Hid (∀ e, e < l.length → Byt (wordsB (ofN (orb l e)))) := fun e he b hb => by
              have := words_byt (ofN (orb l e)) (fun x hx => by unfold ofN at hx; simp only [List.mem_map] at hx; obtain ⟨y, _, rfl⟩ := hx; omega) b hb
              omega
            have hyl := YL.out _ hdl
            have hyb := YB.out _ hdl
            obtain ⟨d, hd⟩ : ∃ d, d = D2.getD q 0 := ⟨_, rfl⟩
            rw [← hd] at cw FIN hyl hyb hdl
            have WT := Lib.hid (words_turn HI.out hdl)
            have FD := Lib.hid (FIN.out d (orb_self HI.out hdl))
            have FN := Lib.hid (FIN.out (l.getD d 0) ((mem_orb HI.out hdl).2 ⟨1, rfl⟩))
            obtain ⟨y, hy⟩ : ∃ y, y = wordsB (ofN (orb l d)) := ⟨_, rfl⟩
            rw [← hy] at cw hyl hyb WT FD
            have HYB := Lib.hid hyb
            have ISX := Lib.hid (fun t (ht : t < y.length) W => idx_str y hyb t ht W)
            have SLX := Lib.hid (fun t (ht : t < y.length) => And.intro (sl_from y t ht) (sl_to y t ht))
            have hSz : ((strOfNums y).size : Int) = (y.length : Int) := by rw [strOfNums_size]
            obtain ⟨M, hM⟩ : ∃ M, M = y.length := ⟨_, rfl⟩
            rw [← hM] at hSz hyl ISX SLX
            have HM := Lib.hid hM
            obtain ⟨S, hS⟩ : ∃ S, S = strOfNums y := ⟨_, rfl⟩
            rw [← hS] at cw hSz ISX SLX
            have HS := Lib.hid hS
            have HHN := Lib.hid (YL.out _ (HI.out.lt d hdl))
            clear hd hy hyb hM hS FIN YL YB
            go_wp2_with fail
            go_loopw [21, 114] (fun z i wx => ∃ t : Nat, i = .int .i64 (t : Int) ∧ t ≤ M ∧ z = .string S ∧ wx = W2) (fun _ i _ => M - (intOf i).toNat)
            case atStart => exact ⟨0, rfl, by omega, rfl, rfl⟩
            case round =>
              obtain ⟨t, rfl, ht, rfl, rfl⟩ := hrel
              by_cases htM : t < M
              · have htI : (t : Int) < (M : Int) := by omega
                have ix := ISX.out t htM
                generalize y.getD t 0 = yb at *
                by_cases h32 : yb = 32
                all_goals (
                  first | subst h32 | skip
                  first | (have hne := beq_eq_false_iff_ne.2 h32; clear h32) | skip
                  go_wp2_with fail
                  go_roundw
                  case rel => exact ⟨t + 1, by go_num, by omega, rfl, trivial⟩
                  case measure => simp [intOf]; omega)
              · obtain rfl : t = M := by omega
                have hyl' : y.length ≤ 484 := by rw [← HM.out]; exact hyl
                have cA := fun W => cat_one y 10 (by omega) W 10 rfl
                have cB := fun W => cat_run tx (y ++ [10]) (by rw [List.length_append]; simp; omega) W
                have hl9 : (tx ++ (y ++ [10])).length ≤ 67 + 600 * (q + 1) := by rw [List.length_append, List.length_append]; simp; omega
                rw [← HS.out] at cA
                generalize htn : tx ++ (y ++ [10]) = tn at *
                generalize strOfNums (y ++ [10]) = Sl at *
                have HTN := Lib.hid htn
                clear htn
                clear ISX hSz SLX
                go_wp2_with fail
                go_roundw
                case rel =>
                  refine ⟨q + 1, tn, D2, E ++ [d], by go_num, by omega, rfl, hl9, ?_, FD.out.2.1, HD2.out, FD.out.2.2, ?_, BW.out⟩
                  · show _ = _; exact FD.out.1
                  · show World.ownsRow _ _ _ _ _ _ _; rw [LsD_rows]; exact OW.out
                case measure => simp [intOf]; omega
        · obtain rfl : q = N := by omega
          have RE : Hid (Reps l E) := hD.out.2.rot HI.out (by rw [hE.out, hD.out.1]) (fun j hj => hEm.out j (by rw [← hD.out.1]; exact hj))
          have htx2 : Hid (tx = textD l E root 0) := by show _ = _; rw [htx.out, HHD.out]; rfl
          have hB2 : Hid (Below w.heap.size w wr) := B5.out.trans (hbl.out.mono B5.out.size)
          have hM2 := Lib.hid (HM5.out.below hbl.out)
          have htb : Byt tx := by rw [htx2.out]; exact textD_byt HI.out RE.out (by omega) hbd hlb
          have HTB2 := Lib.hid htb
          obtain ⟨W9, c9, hcv, hc1, hc2, hb9, hs9, hr9⟩ := conv_str tx htb (by simp only [maxLen]; omega) wr
          have hB9 : Hid (Below w.heap.size w W9) := hB2.out.trans (hb9.mono hB2.out.size)
          have hM9 := Lib.hid (hM2.out.below hb9)
          have hlx : tx.length = (textD l E root 0).length := by rw [htx2.out]
          have PP := parse_text HI.out HEV.out RE.out (by omega) hRT.out (lone := 0) (by omega) (some ⟨wr.heap.size, 0, none⟩) c9 W9.heap.size mx W9 (by rw [← htx2.out]; exact hr9) (by rw [← hlx]; exact hc1) hc2 (fun h => by cases h) (Nat.le_refl _) ((hB9.out.cell (p := ⟨0, 0, none⟩) hmlt).trans HMX.out)
          rw [← hlx] at PP
          have HPP := Lib.hid PP
          clear PP hlx hc1 hc2 hb9 hr9 htb ho htx hE hEm hs9
          generalize strOfNums tx = S9 at *
          generalize tx.length = L9 at *
          go_wp2_with fail
          refine HPP.out.mono ?_
          rintro e w10 ⟨b10, g', b', rfl, hmp', hlo'⟩
          have hM10 := Lib.hid (hM9.out.below b10)
          have hB10 : Hid (Below w.heap.size w w10) := hB9.out.trans (b10.mono hB9.out.size)
          have SM := dsame_p g' g l b' l b root 0 root 0 w10 hmp' hM10.out
          rw [decide_eq_true (show root = root ∧ (0 : Int) = (0 : Int) ∧ l = l from ⟨rfl, rfl, rfl⟩)] at SM
          have HSM := Lib.hid SM
          clear SM b10 hmp' hlo' HPP
          go_wp2_with fail
          refine HSM.out.mono ?_
          rintro e w11 ⟨rfl, b11⟩
          go_wp2_with fail
          go_ret
          exact ⟨rfl, hB10.out.trans (b11.mono hB10.out.size)⟩
end Go.Proofs.YtohlkhffljjodaaDoor
