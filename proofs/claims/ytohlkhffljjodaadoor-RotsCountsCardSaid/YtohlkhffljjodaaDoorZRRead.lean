/- The lines of a text, read. -/
import Derived.Test.YtohlkhffljjodaaDoorZRLine
namespace Go.Proofs.YtohlkhffljjodaaDoor
open Go.RowKit
set_option linter.unusedVariables false
set_option maxRecDepth 20000

/-- A line's numbers, if they may be such a line's. -/
def okRow (x : List Int) (f : Bool) : Option (List Int) := match rowR x with
  | none => none
  | some r => if fitsR r f then some r else none
/-- The numbers of all lines from line k (from 0 on), or the line of the fault (from 1 on). -/
def lineF : Nat → List (List Int) → Except Nat (List (List Int))
  | k, [] => .error (k + 1)
  | k, x :: y :: r => match okRow x (k == 0) with
    | none => .error (k + 1)
    | some v => match lineF (k + 1) (y :: r) with
      | .error e => .error e
      | .ok vs => .ok (v :: vs)
  | k, [x] => if x = [] ∧ k ≠ 0 then .ok [] else .error (k + 1)
theorem lineF_bad : ∀ (ls : List (List Int)) (s k : Nat) (rs : List (List Int)), k + 1 < ls.length → (∀ j, j < k → okRow (ls.getD j []) (s + j == 0) = some (rs.getD j [])) → okRow (ls.getD k []) (s + k == 0) = none → lineF s ls = .error (s + k + 1) := by
  intro ls
  induction ls with
  | nil => intro s k rs hk; simp at hk
  | cons x ls ih =>
    intro s k rs hk h hn
    cases ls with
    | nil => simp at hk
    | cons y r =>
      unfold lineF
      cases k with
      | zero => simp at hn; rw [hn]
      | succ k =>
        have h0 := h 0 (by omega)
        simp only [List.getD_cons_zero, Nat.add_zero] at h0
        rw [h0]
        simp only
        rw [ih (s + 1) k (rs.drop 1) (by simpa using hk) (fun j hj => by
          have := h (j + 1) (by omega)
          rw [List.getD_cons_succ, show s + (j + 1) = s + 1 + j by omega] at this
          rw [this]
          cases rs <;> simp) (by rw [List.getD_cons_succ, show s + (k + 1) = s + 1 + k by omega] at hn; exact hn)]
        simp only [Except.error.injEq]; omega
theorem lineF_end : ∀ (ls : List (List Int)) (s W : Nat) (rs : List (List Int)), ls.length = W + 1 → rs.length = W → (∀ j, j < W → okRow (ls.getD j []) (s + j == 0) = some (rs.getD j [])) →
    lineF s ls = if ls.getD W [] = [] ∧ s + W ≠ 0 then .ok rs else .error (s + W + 1) := by
  intro ls
  induction ls with
  | nil => intro s W rs hl; simp at hl
  | cons x ls ih =>
    intro s W rs hl hr h
    cases ls with
    | nil =>
      obtain rfl : W = 0 := by simp at hl; omega
      rw [List.eq_nil_of_length_eq_zero hr]
      rfl
    | cons y r =>
      cases W with
      | zero => simp at hl
      | succ W =>
        have h0 := h 0 (by omega)
        simp only [List.getD_cons_zero, Nat.add_zero] at h0
        unfold lineF
        rw [h0]
        cases rs with
        | nil => simp at hr
        | cons v rs =>
          rw [ih (s + 1) W rs (by simpa using hl) (by simpa using hr) fun j hj => by
            have := h (j + 1) (by omega)
            rw [List.getD_cons_succ, List.getD_cons_succ, show s + (j + 1) = s + 1 + j by omega] at this
            exact this]
          rw [List.getD_cons_succ, show s + (W + 1) = s + 1 + W by omega]
          by_cases e : (y :: r).getD W [] = [] ∧ s + 1 + W ≠ 0
          · rw [if_pos e, if_pos e]; simp
          · rw [if_neg e, if_neg e]

theorem allNum_len : ∀ (ls : List (List Int)) (r : List Int), allNum ls = some r → r.length = ls.length := by
  intro ls
  induction ls with
  | nil => intro r h; simp [allNum] at h; rw [h]; rfl
  | cons x ls ih =>
    intro r h
    unfold allNum at h
    cases hx : numR x with
    | none => rw [hx] at h; simp at h
    | some v =>
      rw [hx] at h
      simp only [Option.map_eq_some_iff] at h
      obtain ⟨r', h1, rfl⟩ := h
      simp [ih r' h1]
/-- The values vs are slices of their own that read as the lists rs. -/
def RowsI (w : World) (base : Nat) (vs : List Value) (rs : List (List Int)) : Prop :=
  ∀ k, k < rs.length → ∃ A c, vs[k]? = some (.slice A (rs.getD k []).length c) ∧ w.ownsRow base 3 1 (.slice A (rs.getD k []).length c) (rs.getD k []).length (I64 (rs.getD k []))
theorem RowsI.below {w w' : World} {base : Nat} {vs : List Value} {rs : List (List Int)} (h : RowsI w base vs rs) (m : Below w.heap.size w w') : RowsI w' base vs rs :=
  fun k hk => by
    obtain ⟨A, c, h1, h3⟩ := h k hk
    exact ⟨A, c, h1, own_below h3 m⟩
theorem RowsI.put {w : World} {g k : Nat} {vs : List Value} {rs : List (List Int)} (h : RowsI w (g + 1) vs rs) (hk : rs.length = k) (hv : k < vs.length) {A : Option Addr} {c : Nat} {r : List Int} (ho : w.ownsRow (g + 1) 3 1 (.slice A r.length c) r.length (I64 r)) :
    RowsI (w.setCell ⟨g, k, none⟩ (.slice A r.length c)) (g + 1) (vs.set k (.slice A r.length c)) (rs ++ [r]) := by
  intro j hj
  rw [List.length_append] at hj
  simp at hj
  by_cases e : j = k
  · subst e
    have : (rs ++ [r]).getD j [] = r := by rw [List.getD_eq_getElem?_getD, List.getElem?_append_right (by omega), hk, Nat.sub_self]; rfl
    rw [this]
    exact ⟨A, c, by rw [List.getElem?_set_self hv], ownsRow_setCell_below ho (by simp) _⟩
  · have : (rs ++ [r]).getD j [] = rs.getD j [] := by rw [List.getD_eq_getElem?_getD, List.getElem?_append_left (by omega), ← List.getD_eq_getElem?_getD]
    rw [this]
    obtain ⟨A', c', h1, h3⟩ := h j (by omega)
    exact ⟨A', c', by rw [List.getElem?_set_ne (fun z => e z.symm)]; exact h1, ownsRow_setCell_below h3 (by simp) _⟩
def ReadPost (w : World) (l : List Int) (e : Ending) (w' : World) : Prop :=
  Below w.heap.size w w' ∧ match lineF 0 (splitL 10 l) with
  | .error k => e = .returned (.tuple #[.slice none 0 0, .int .i64 (k : Int)])
  | .ok rs => ∃ g vs, e = .returned (.tuple #[.slice (some ⟨g, 0, none⟩) rs.length rs.length, .int .i64 0]) ∧ Blk w' g 24 vs.toArray ∧ vs.length = rs.length ∧ w.heap.size ≤ g ∧ RowsI w' (g + 1) vs rs
set_option maxHeartbeats 4000000 in
theorem read_p (A : Option Addr) (n c B : Nat) (l : List Int) (m : Int) (w : World) (h : Rd w B A n (Z8 l)) (hl8 : Byt l) (hnc : n ≤ c) (hc : c ≤ maxLen) (hA : A = none → c = 0) (hs : n ≤ 1048576) (hB : B ≤ w.heap.size)
    (hm : w.cell? ⟨0, 0, none⟩ = some (.int .i64 m)) :
    Calls Tryd.prog 33 #[.slice A n c] w (ReadPost w l) := by
  obtain ⟨i1, hi1, hz1, hz2, hz3⟩ := info_parts info_ints
  have hln : l.length = n := by rw [← h.len, Z8_len]
  have b0 := (Below.refl w.heap.size w).alloc (Nat.le_refl _) (.cells #[.int .u8 10] 5)
  have SP := Lib.hid (split_p A n c B w.heap.size l 10 m (w.alloc (.cells #[.int .u8 10] 5)) (h.alloc _) hl8 hnc hc hA (by omega) (by omega) (by have := (Blk.new w 5 #[.int .u8 10]).cell 0; rw [this]; rfl)
    ((b0.cell (p := ⟨0, 0, none⟩) (World.block_lt_of_cell? _ _ hm)).trans hm))
  have B0 := Lib.hid b0
  have H8 := Lib.hid hl8
  clear b0 h hl8
  go_enter Tryd.func33, Tryd.ntmps33
  go_wp2_with fail
  refine SP.out.mono ?_
  rintro e w2 ⟨vs, q, rfl, hw2, hp, hvl⟩
  have b2 : Below w.heap.size w w2 := by
    rw [hw2]
    exact below_draws (B0.out.alloc (by simp) _) q
  have r2 : Rd w2 w2.heap.size (some ⟨(w.alloc (.cells #[.int .u8 10] 5)).heap.size, 0, none⟩) vs.length vs := by
    rw [hw2]
    exact ((Rd.new _ 22 vs.toArray vs.length vs (by simp) (by simp)).drewN q).up (by simp [World.drewN])
  have p2 : Pieces w2 B vs (splitL 10 l) := by
    rw [hw2]
    exact hp.mod (below_draws ((Below.refl B _).alloc (by simp; omega) _) q)
  have hls := p2.len
  have hm2 := (b2.cell (p := ⟨0, 0, none⟩) (World.block_lt_of_cell? _ _ hm)).trans hm
  have P2 := Lib.hid p2
  have R2 := Lib.hid r2
  have B2 := Lib.hid b2
  have M2 := Lib.hid hm2
  clear hw2 hp p2 r2 b2 SP B0 hm2 hm
  generalize (w.alloc (.cells #[.int .u8 10] 5)).heap.size = g2 at *
  have hne := splitL_ne 10 l
  obtain ⟨W, hW⟩ : ∃ W, vs.length = W + 1 := ⟨vs.length - 1, by
    have : (splitL 10 l).length ≠ 0 := fun e => hne (List.eq_nil_of_length_eq_zero e)
    omega⟩
  rw [hW] at R2 hls hvl ⊢
  have HLS := Lib.hid hls
  have HW := Lib.hid hW
  have hK2 : W ≤ 1048576 := by omega
  obtain ⟨A9, n9, c9, ev9, q91, q92, q93, q94⟩ := P2.out.at_ W (by omega)
  have tW : w2.cell? ⟨g2, W, none⟩ = some (.slice A9 n9 c9) := by
    obtain ⟨b, o, e, hb, hc⟩ := R2.out.at_ (by omega)
    simp only [Option.some.injEq, Addr.mk.injEq, and_true] at e
    obtain ⟨rfl, rfl⟩ := e
    have := hc W (by omega)
    rw [Nat.zero_add] at this
    rw [this]
    rw [List.getElem?_eq_getElem (by omega)] at ev9
    exact ev9
  clear hvl hW hls hne ev9
  have hl9 : ((splitL 10 l).getD W []).length = n9 := by have := q94.len; rwa [Z8_len] at this
  have H94 := Lib.hid hl9
  clear q94 hl9
  go_wp2_with fail
  go_quiet (fail)
  have B3 : Hid (Below w.heap.size w (w2.drewN nq)) := below_draws B2.out nq
  have P3 : Hid (Pieces (w2.drewN nq) B vs (splitL 10 l)) := P2.out.mod (below_draws (Below.refl B w2) nq)
  have R3 : Hid (Rd (w2.drewN nq) (w2.drewN nq).heap.size (some ⟨g2, 0, none⟩) (W + 1) vs) := R2.out.drewN nq
  have M3 : Hid ((w2.drewN nq).cell? ⟨0, 0, none⟩ = some (.int .i64 m)) := M2.out
  clear R2 P2 B2 M2 tW
  generalize w2.drewN nq = w3 at *
  have hmk := run_make_one (P := Tryd.prog) 63 24 i1 (.slice none 0 0) 24 Tryd.underlying63 hi1 hz1 hz2 hz3 rfl .i64 .i64 W (by omega) (by omega)
  have bk := Blk.new w3 24 (List.replicate W (Value.slice none 0 0)).toArray
  have BK := Lib.hid bk
  have bz : Below w3.heap.size w3 (w3.alloc (.cells (List.replicate W (Value.slice none 0 0)).toArray 24)) := (Below.refl _ _).alloc (Nat.le_refl _) _
  have BZ := Lib.hid bz
  clear bk bz
  go_wp2_with fail
  go_loopw [31] (fun i wr => ∃ (k : Nat) (rs : List (List Int)) (ys : List Value), i = .int .i64 (k : Int) ∧ k ≤ W ∧ Hid (rs.length = k) ∧ Hid (ys.length = W) ∧ Hid (∀ j, j < k → okRow ((splitL 10 l).getD j []) (0 + j == 0) = some (rs.getD j [])) ∧ Hid (Blk wr w3.heap.size 24 ys.toArray) ∧ Hid (RowsI wr (w3.heap.size + 1) ys rs) ∧ Hid (Below w3.heap.size w3 wr)) (fun i _ => W - (intOf i).toNat)
  case atStart => exact ⟨0, [], _, rfl, by omega, rfl, by show _ = _; simp, fun j hj => absurd hj (by omega), BK.out, fun j hj => absurd hj (by simp), BZ.out⟩
  case round =>
    obtain ⟨k, rs, ys, rfl, hk, hrl, hyl, hr, hblk, hrows, hbel⟩ := hrel
    by_cases hlt : k < W
    · have hltI : (k : Int) < (W : Int) := by omega
      obtain ⟨A3, n3, c3, ev, q1, q2, q3, q4⟩ := P3.out.at_ k (by rw [HW.out]; omega)
      have t1 : wr.cell? ⟨g2, k, none⟩ = some (.slice A3 n3 c3) := by
        obtain ⟨b, o, e, hb, hc⟩ := R3.out.at_ (by omega)
        simp only [Option.some.injEq, Addr.mk.injEq, and_true] at e
        obtain ⟨rfl, rfl⟩ := e
        have := hc k (by rw [HW.out]; omega)
        rw [Nat.zero_add] at this
        rw [hbel.out.cell (p := ⟨g2, k, none⟩) hb, this]
        rw [List.getElem?_eq_getElem (by rw [HW.out]; omega)] at ev
        exact ev
      have hin : (splitL 10 l).getD k [] ∈ splitL 10 l := by
        rw [List.getD_eq_getElem?_getD, List.getElem?_eq_getElem (by rw [← HLS.out]; omega)]
        exact List.getElem_mem _
      have hn3 : n3 ≤ 1048576 := by
        have e1 := splitL_le 10 l _ hin
        have e2 := q4.len
        rw [Z8_len] at e2
        omega
      have hpl : ((splitL 10 l).getD k []).length = n3 := by have e2 := q4.len; rwa [Z8_len] at e2
      have HPL := Lib.hid hpl
      have hbw : B ≤ wr.heap.size := by have := B3.out.size; have := hbel.out.size; omega
      have NP := Lib.hid (numbers_p A3 n3 c3 B ((splitL 10 l).getD k []) m wr (q4.below (hbel.out.mono (by have := B3.out.size; omega))) (splitL_byt 10 l H8.out _ hin) q1 q2 q3 (by omega) hbw
        ((hbel.out.cell (p := ⟨0, 0, none⟩) (World.block_lt_of_cell? _ _ M3.out)).trans M3.out))
      have NB : Hid (okRow ((splitL 10 l).getD k []) (0 + k == 0) = none → lineF 0 (splitL 10 l) = .error (k + 1)) := fun z => by
        rw [lineF_bad (splitL 10 l) 0 k rs (by rw [← HLS.out]; omega) hr.out z, Nat.zero_add]
      have bwr : Hid (Below w.heap.size w wr) := B3.out.trans (hbel.out.mono B3.out.size)
      obtain ⟨f, hf⟩ : ∃ f : Bool, ((k : Int) == 0) = f := ⟨_, rfl⟩
      have HF : Hid ((0 + k == 0) = f) := by
        show _ = _
        rw [← hf, Nat.zero_add, Bool.eq_iff_iff, beq_iff_eq, beq_iff_eq]
        omega
      clear ev q4 hin hpl hbw
      cases hv : rowR ((splitL 10 l).getD k []) with
      | none =>
        rw [hv] at NP
        have HR := Lib.hid (NB.out (by unfold okRow; rw [hv]))
        clear hv NB
        go_wp2_with fail
        refine NP.out.mono ?_
        rintro e w5 ⟨b5, rfl⟩
        have B5 := Lib.hid b5
        clear b5
        go_wp2_with fail
        go_ret2
        exact ⟨bwr.out.trans (B5.out.mono bwr.out.size), by rw [HR.out]; rfl⟩
      | some r =>
        rw [hv] at NP
        have HV := Lib.hid hv
        have hrn : r.length ≤ 2000000 := by
          have e1 := allNum_len _ _ hv
          have e2 := splitL_len 32 ((splitL 10 l).getD k [])
          rw [HPL.out] at e2
          omega
        clear hv
        go_wp2_with fail
        refine NP.out.mono ?_
        rintro e w5 ⟨b5, A6, c6, rfl, own6⟩
        have FP := Lib.hid (fits_p A6 r.length c6 w5.heap.size r f w5 (Rd.ofOwn own6) hrn)
        have B5 := Lib.hid b5
        have O6 := Lib.hid own6
        clear b5 own6
        cases hfit : fitsR r f with
        | false =>
          rw [hfit] at FP
          have HR := Lib.hid (NB.out (by unfold okRow; rw [HV.out, HF.out]; simp only [hfit]; rfl))
          clear hfit NB
          go_wp2_with fail
          refine FP.out.mono ?_
          rintro e w6 ⟨rfl, rfl⟩
          go_wp2_with fail
          go_ret2
          exact ⟨bwr.out.trans (B5.out.mono bwr.out.size), by rw [HR.out]; rfl⟩
        | true =>
          rw [hfit] at FP
          have HO : Hid (okRow ((splitL 10 l).getD k []) (0 + k == 0) = some r) := by
            show _ = _
            unfold okRow; rw [HV.out, HF.out]; simp only [hfit]; rfl
          clear hfit NB
          have hb6 : Blk w5 w3.heap.size 24 ys.toArray := hblk.out.below B5.out
          have HB6 := Lib.hid hb6
          have hbz := hblk.out.lt
          have hR6 : Hid (RowsI (w5.setCell ⟨w3.heap.size, k, none⟩ (.slice A6 r.length c6)) (w3.heap.size + 1) (ys.set k (.slice A6 r.length c6)) (rs ++ [r])) :=
            (hrows.out.below B5.out).put hrl.out (by rw [hyl.out]; exact hlt) (own_lowR O6.out (by omega))
          have x1 : w5.cell? ⟨w3.heap.size, k, none⟩ = some (ys.getD k (.slice none 0 0)) := by
            have := hb6.cell k
            rw [this]
            simp [List.getD_eq_getElem?_getD, List.getElem?_eq_getElem (show k < ys.length by rw [hyl.out]; exact hlt)]
          have x2 := hb6.frozen k
          generalize ys.getD k (.slice none 0 0) = y0 at x1
          clear hb6
          go_wp2_with fail
          refine FP.out.mono ?_
          rintro e w6 ⟨rfl, rfl⟩
          go_wp2_with fail
          go_roundw
          case rel =>
            refine ⟨k + 1, rs ++ [r], ys.set k (.slice A6 r.length c6), by go_num, by omega, ?_, ?_, ?_, ?_, hR6.out, ?_⟩
            · show _ = _
              rw [List.length_append, hrl.out]; rfl
            · show _ = _
              rw [List.length_set, hyl.out]
            · intro j hj
              by_cases e : j = k
              · subst e
                rw [HO.out, List.getD_eq_getElem?_getD, List.getElem?_append_right (by rw [hrl.out]; exact Nat.le_refl _), hrl.out, Nat.sub_self]; rfl
              · rw [hr.out j (by omega), List.getD_eq_getElem?_getD, List.getD_eq_getElem?_getD, List.getElem?_append_left (by rw [hrl.out]; omega)]
            · have := HB6.out.set_ k (.slice A6 r.length c6)
              rw [List.setIfInBounds_toArray] at this
              exact this
            · exact ((hbel.out.trans (B5.out.mono hbel.out.size)).setCell (Nat.le_refl _) _)
          case measure => simp [intOf]; omega
    · obtain rfl : k = W := by omega
      have HE := lineF_end (splitL 10 l) 0 k rs (by rw [← HLS.out]) hrl.out hr.out
      have hl9 := H94.out
      have bwr : Hid (Below w.heap.size w wr) := B3.out.trans (hbel.out.mono B3.out.size)
      by_cases h9 : 0 < n9
      · rw [if_neg (by rintro ⟨e, _⟩; rw [e] at hl9; simp at hl9; omega), Nat.zero_add] at HE
        have HR := Lib.hid HE
        clear HE hl9
        go_wp2_with fail
        go_ret2
        exact ⟨bwr.out, by rw [HR.out]; rfl⟩
      · obtain rfl : n9 = 0 := by omega
        by_cases hk0 : k = 0
        · subst hk0
          rw [if_neg (by rintro ⟨_, e⟩; exact e rfl), Nat.zero_add] at HE
          have HR := Lib.hid HE
          clear HE hl9
          go_wp2_with fail
          go_ret2
          exact ⟨bwr.out, by rw [HR.out]; rfl⟩
        · rw [if_pos ⟨List.eq_nil_of_length_eq_zero hl9, by omega⟩] at HE
          have HR := Lib.hid HE
          have hkb : ((k : Int) == 0) = false := beq_eq_false_iff_ne.2 (by omega)
          clear HE hl9
          go_wp2_with fail
          go_ret2
          refine ⟨bwr.out, ?_⟩
          rw [HR.out]
          have h1 := hrl.out
          refine ⟨w3.heap.size, ys, ?_, hblk.out, by rw [hyl.out, h1], B3.out.size, hrows.out⟩
          rw [h1]; rfl
end Go.Proofs.YtohlkhffljjodaaDoor
