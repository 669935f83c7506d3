/- The document's names of a word's places. A struct in a block of its own, some of whose fields are rows of its own, no two in one block. Rows in a row, all of them growing. -/
import Derived.Test.YtgcbdoljapnecaaZg10
import Derived.Test.YtgcbdoljapnecaaZg11
import Derived.BigQuiet
import Derived.Test.YtgcbdoljapnecaaZg1
import Derived.Test.YtgcbdoljapnecaaZPMake
import Derived.Test.YtgcbdoljapnecaaZPNames
namespace Go.Proofs.Ytgcbdoljapnecaa
set_option maxRecDepth 100000
open Go.RowKit
set_option linter.unusedVariables false
def Names12P (w : World) (ks : List Nat) (n : Nat) (e : Ending) (w' : World) : Prop :=
  ∃ tw A c, Prg ks tw ∧ e = .returned (.slice A n c) ∧ n ≤ c ∧ c ≤ maxLen ∧ w'.ownsRow w.heap.size 3 1 (.slice A n c) n (I64 (ofN (nmL ks tw))) ∧ Below w.heap.size w w'
set_option maxHeartbeats 8000000 in
theorem names12_p (A : Option Addr) (n c : Nat) (ks : List Nat) (w : World) (hr : Rd w w.heap.size A n (I64 (ofNB ks))) (hk : Kds ks) (hn : n ≤ 20000) (hB0 : Bal (exc (val (ownL 0 ks))) (ownL 0 ks).length) (hB1 : Bal (exc (val (ownL 1 ks))) (ownL 1 ks).length) :
    Calls Try.prog 80 #[.slice A n c] w (Names12P w ks n) := by
  obtain ⟨i0, hi0, hz0, hz1, hz2⟩ := info_parts info_int
  have hl : ks.length = n := by have := hr.len; rw [I64_len, ofN_lenB] at this; exact this
  have hmk := run_make_one (P := Try.prog) 25 3 i0 (.int .i64 0) 8 Try.underlying25 hi0 hz0 hz1 hz2 rfl .i64 .i64 n (by omega) (by omega) w
  have hrep : (List.replicate n (Value.int .i64 0)).toArray = Array.replicate n (.int .i64 0) := by simp
  rw [hrep] at hmk
  have hal := (Below.refl w.heap.size w).alloc (Nat.le_refl _) (.cells (Array.replicate n (Value.int .i64 0)) 3)
  have hO : (w.alloc (.cells (Array.replicate n (Value.int .i64 0)) 3)).ownsRow w.heap.size 3 1 (.slice (some ⟨w.heap.size, 0, none⟩) n n) n (I64 (List.replicate n 0)) := by
    have := World.ownsRow_lit (base := w.heap.size) (e := 3) (size := 1) w (Array.replicate n (Value.int .i64 0)) n (Nat.le_refl _) (by simp [maxLen]; omega) (by simp)
    rw [show I64 (List.replicate n 0) = List.replicate n (.int .i64 0) by simp [I64]]
    simpa using this
  clear hrep
  have M4 : Hid (Calls Try.prog 87 #[.slice A n c] (w.alloc (.cells (Array.replicate n (Value.int .i64 0)) 3)) (Mates4P (w.alloc (.cells (Array.replicate n (Value.int .i64 0)) 3)) ks n)) :=
    mates4_p A n c ks _ (hr.more hal) hk (by omega) hB0 hB1
  have HO := Lib.hid hO
  have HB := Lib.hid hal
  have HR := Lib.hid hr
  have HK := Lib.hid hk
  have HL := Lib.hid hl
  have HW : Hid ((w.alloc (.cells (Array.replicate n (Value.int .i64 0)) 3)).heap.size = w.heap.size + 1) := by show _ = _; simp
  clear hr hk hB0 hB1 hal hO hl
  go_enter Try.func80, Try.ntmps80
  go_wp2_with fail
  clear hmk
  refine M4.out.mono ?_
  generalize w.alloc (.cells (Array.replicate n (Value.int .i64 0)) 3) = w1 at *
  rintro e w2 ⟨Y, cy, ym, rfl, hY, hM, b2⟩
  obtain ⟨P, hty⟩ := prg_of HK.out ym (by rw [HL.out]; exact hM)
  obtain ⟨tw, htw⟩ : ∃ tw : Nat → Nat, tw = fun j => (ym.getD j 0).toNat := ⟨_, rfl⟩
  rw [← htw] at P
  have hty' : ∀ j, j < n → ym.getD j 0 = ((tw j : Nat) : Int) := fun j hj => by rw [htw]; exact hty j (by rw [HL.out]; exact hj)
  have HP := Lib.hid P
  have HTY := Lib.hid hty'
  have HYO := Lib.hid hY
  have HO2 := Lib.hid (own_below HO.out b2)
  have HB2 := Lib.hid (HB.out.trans (b2.mono HB.out.size))
  clear P hty htw hty' hY hM b2 M4 HO HB
  have hhw : w.heap.size + 1 ≤ w2.heap.size := by have := own_block HO2.out; omega
  have HTK : Hid (∀ j, j < n → ks.getD j 0 < 4 ∧ tw j < n ∧ tw j ≠ j) := fun j hj => ⟨HK.out.getD j, by have := HP.out.lt j (by rw [HL.out]; exact hj); rw [HL.out] at this; exact this, HP.out.ne j (by rw [HL.out]; exact hj)⟩
  go_wp2_with fail
  go_loopw [5, 6, 7, 15] (fun n5 i6 k7 idx wr => ∃ (i : Nat) (y : List Int), i ≤ n ∧ idx = .int .i64 (i : Int) ∧ n5 = .int .i64 ((2 * opN ks i : Nat) : Int) ∧ Hid (y.length = n ∧ NmI ks tw y i ∧ opN ks i ≤ i) ∧
    Hid (wr.ownsRow w.heap.size 3 1 (.slice (some ⟨w.heap.size, 0, none⟩) n n) n (I64 y)) ∧ Hid (Mod (fun k => k = w.heap.size) w2 wr)) (fun _ _ _ i _ => n - (intOf i).toNat)
  case atStart => exact ⟨0, List.replicate n 0, by omega, rfl, rfl, ⟨by simp, fun j hj => by omega, by simp [opN]⟩, HO2.out, Mod.refl _ _⟩
  case round =>
    clear HO2
    obtain ⟨i, y, hi, rfl, rfl, HY, HOW, HMW⟩ := hrel
    by_cases hlt : i < n
    · have hdk : decide (i < n) = true := decide_eq_true hlt
      have hlti : (i : Int) < (n : Int) := by omega
      obtain ⟨ba, oa, rfl, hba, hca⟩ := HR.out.at_ (by omega)
      have cA := hca i (by rw [I64_len, ofN_lenB, HL.out]; exact hlt)
      have BW : Below w.heap.size w wr := HB2.out.trans (HMW.out.belowB HB2.out.size fun k hk e => by omega)
      obtain ⟨gy, hgy, hgy1, _⟩ := own_some HYO.out (by omega)
      subst hgy
      have OY : wr.ownsRow w1.heap.size 3 1 (.slice (some ⟨gy, 0, none⟩) n cy) n (I64 ym) := own_mod HYO.out HMW.out fun k hk e => by
        simp [Value.ownBlock] at hk
        have := HW.out; omega
      obtain ⟨kk, hkk⟩ : ∃ kk, kk = ks.getD i 0 := ⟨_, rfl⟩
      obtain ⟨t, ht⟩ : ∃ t, t = tw i := ⟨_, rfl⟩
      obtain ⟨q, hq⟩ : ∃ q, q = 2 * opN ks i := ⟨_, rfl⟩
      obtain ⟨hk4, ht1, ht2⟩ := HTK.out i hlt
      rw [← hkk] at hk4
      rw [← ht] at ht1 ht2
      have cA' : wr.cell? ⟨ba, oa + i, none⟩ = some (.int .i64 (kk : Int)) := by
        have c0 := (BW.cell (p := ⟨ba, oa + i, none⟩) hba).trans cA
        rw [c0, hkk]; simp [I64, ofNB, List.getD_eq_getElem?_getD, List.getElem?_eq_getElem (show i < ks.length by rw [HL.out]; exact hlt)]
      have cY : wr.cell? ⟨gy, i, none⟩ = some (.int .i64 (t : Int)) := by
        rw [own_cellI OY i hlt, HTY.out i hlt, ht]
      have fO := HOW.out.frozenAt i
      have cO := own_cellI HOW.out i hlt
      have hyl := HY.out.1
      have o1 := own_setI HOW.out i (q : Int)
      have cO2 := own_cellI o1 t ht1
      have fO2 := o1.frozenAt t
      have o2 := own_setI o1 t ((q + 1 : Nat) : Int)
      have M2 : Mod (fun k => k = w.heap.size) w2 ((wr.setCell ⟨w.heap.size, i, none⟩ (.int .i64 (q : Int))).setCell ⟨w.heap.size, t, none⟩ (.int .i64 ((q + 1 : Nat) : Int))) :=
        Mod.setCell (p := ⟨w.heap.size, t, none⟩) (Mod.setCell (p := ⟨w.heap.size, i, none⟩) HMW.out (fun _ => rfl) _) (fun _ => rfl) _
      obtain ⟨r, hr⟩ : ∃ r, r = kk % 2 := ⟨_, rfl⟩
      have r1 : (kk : Int).tmod 2 = (r : Int) := by rw [Int.tmod_eq_emod_of_nonneg (by omega), hr]; rfl
      have r2 : (kk : Int) % 2 = (r : Int) := by rw [hr]; rfl
      have wr2 : IntKind.i64.wrap (r : Int) = (r : Int) := by simp [IntKind.wrap, IntKind.signed, IntKind.bits]; omega
      have hti : (t : Int) < (n : Int) := by omega
      have hqb : q ≤ 40000 := by have := HY.out.2.2; omega
      have hs : (kk % 2 = 0 → opN ks (i + 1) = opN ks i + 1) ∧ (¬ kk % 2 = 0 → opN ks (i + 1) = opN ks i) := by
        show (_ → opN ks i + _ = _) ∧ (_ → opN ks i + _ = _)
        rw [← hkk]
        exact ⟨fun c => by rw [if_pos c], fun c => by rw [if_neg c]; rfl⟩
      have hop := HY.out.2.2
      by_cases hr0 : r = 0
      · have HY1 : Hid (((y.set i (q : Int)).set t ((q + 1 : Nat) : Int)).length = n ∧ NmI ks tw ((y.set i (q : Int)).set t ((q + 1 : Nat) : Int)) (i + 1) ∧ opN ks (i + 1) ≤ i + 1) := by
          refine ⟨by simp [hyl], ?_, by rw [hs.1 (by omega)]; omega⟩
          have := nm_step HP.out (y := y) (i := i) (by rw [hyl, HL.out]) (by rw [HL.out]; exact hlt) (by rw [← hkk]; omega) HY.out.2.1
          rw [← hq, ← ht] at this
          exact this
        have HO3 := Lib.hid o2
        have HM3 := Lib.hid M2
        obtain ⟨q1, hq1⟩ : ∃ q1, q1 = q + 1 := ⟨_, rfl⟩
        obtain ⟨q2, hq2⟩ : ∃ q2, q2 = q + 2 := ⟨_, rfl⟩
        rw [← hq1] at HO3 HM3 HY1
        have t1 : (q : Int) + 1 = (q1 : Int) := by omega
        have t2 : (q : Int) + 2 = (q2 : Int) := by omega
        have w1' : IntKind.i64.wrap (q1 : Int) = (q1 : Int) := by simp [IntKind.wrap, IntKind.signed, IntKind.bits]; omega
        have w2' : IntKind.i64.wrap (q2 : Int) = (q2 : Int) := by simp [IntKind.wrap, IntKind.signed, IntKind.bits]; omega
        have HQ2 : Hid (q2 = 2 * opN ks (i + 1)) := by show _ = _; rw [hs.1 (by omega)]; omega
        rw [← hq]
        subst hr0
        clear o1 o2 M2 HY HOW HMW hs hq hq1 hq2 hkk ht hr BW OY hop hyl cA
        go_wp2_with fail
        go_roundw
        case rel => exact ⟨i + 1, _, by omega, by go_num, by rw [HQ2.out], HY1, HO3, HM3⟩
        case measure => simp [intOf]; omega
      · have hr0' : ¬ (r : Int) = 0 := by omega
        have hrb : ((r : Int) == 0) = false := by simp; omega
        have hrd : decide (r = 0) = false := decide_eq_false hr0
        have HY1 : Hid (y.length = n ∧ NmI ks tw y (i + 1) ∧ opN ks (i + 1) ≤ i + 1) :=
          ⟨hyl, nm_skip (by rw [← hkk]; omega) HY.out.2.1, by rw [hs.2 (by omega)]; omega⟩
        have HQ2 : Hid (q = 2 * opN ks (i + 1)) := by show _ = _; rw [hs.2 (by omega)]; omega
        rw [← hq]
        clear o1 o2 M2 HY hs hq hkk ht BW OY hop hyl cA cO cO2 fO fO2 cY hr
        go_wp2_with fail
        go_roundw
        case rel => exact ⟨i + 1, y, by omega, by go_num, by rw [HQ2.out], HY1, HOW, HMW⟩
        case measure => simp [intOf]; omega
    · obtain rfl : i = n := by omega
      have hdk : decide (i < i) = false := by simp
      have hY := nm_done HP.out (y := y) (by rw [HY.out.1, HL.out]) (by rw [HL.out]; exact HY.out.2.1)
      have BW : Hid (Below w.heap.size w wr) := HB2.out.trans (HMW.out.belowB HB2.out.size fun k hk e => by omega)
      have HF : Hid (wr.ownsRow w.heap.size 3 1 (.slice (some ⟨w.heap.size, 0, none⟩) i i) i (I64 (ofN (nmL ks tw)))) := by
        show World.ownsRow _ _ _ _ _ _ _
        rw [← hY]; exact HOW.out
      clear hY HY HOW HMW
      go_wp2_with fail
      go_ret
      exact ⟨tw, _, i, HP.out, rfl, Nat.le_refl _, by simp [maxLen]; omega, HF.out, BW.out⟩
end Go.Proofs.Ytgcbdoljapnecaa
namespace Go.Proofs.Ytgcbdoljapnecaa
set_option maxRecDepth 100000
open Go.RowKit
set_option linter.unusedVariables false
set_option linter.unusedSimpArgs false
theorem wpList_append_runR {P : Program} {w : World} {ops : Array Oper} {rest : List Oper} {o : Oper} {a : Act} {Q : Exit → Act → World → Prop} (hw : Region.wanted o (yielded ops a.tmps) = true) (s x : Operand) (t : TypeId)
    (ho : o.op = .call { callee := .builtin .append, args := #[s, x], argTypes := #[t, t] }) (v u v' : Value) (w' : World) (hs : a.eval s = v) (hx : a.eval x = u)
    (hr : (Builtin.append_ #[t, t] o.type #[v, u]).run P w = .ok v' w') (h : wpList P ops Q rest (a.put o.dst v') w') : wpList P ops Q (o :: rest) a w :=
  wpList_wanted hw fun K hK => by
    unfold Oper.wp execOp
    simp only [ho, resolve, invoke, builtin, Sem.run_bind, Sem.run_pure, Result.andThen_ok, List.map_toArray, List.map_cons, List.map_nil, hs, hx, hr]
    exact hK _ _ h
abbrev RowX := Option (TypeId × List Value)
/-- At g lies a struct of the cells vs; where xs tells a row, that cell is a slice of a row of its own. -/
structure RowsR (w : World) (Fr : Nat → Prop) (g : Nat) (T : TypeId) (vs : List Value) (xs : List RowX) : Prop where
  bx : Blk w g T vs.toArray
  own : ∀ i t x, xs.getD i none = some (t, x) → w.ownsRow 0 t 1 (vs.getD i (.bool false)) x.length x
  ap : ∀ i j, i ≠ j → xs.getD i none ≠ none → xs.getD j none ≠ none → ∀ k, (vs.getD i (.bool false)).ownBlock = some k → (vs.getD j (.bool false)).ownBlock ≠ some k
  ng : ∀ i, xs.getD i none ≠ none → (vs.getD i (.bool false)).ownBlock ≠ some g
  frg : Fr g
  fr : ∀ i k, xs.getD i none ≠ none → (vs.getD i (.bool false)).ownBlock = some k → Fr k
theorem getD_setR {α : Type} (l : List α) (i j : Nat) (x d : α) (hi : i < l.length) : (l.set i x).getD j d = if j = i then x else l.getD j d := by
  rw [List.getD_eq_getElem?_getD, List.getD_eq_getElem?_getD, List.getElem?_set]
  by_cases h : i = j
  · subst h; simp [hi]
  · simp [h, Ne.symm h]
theorem getD_ltR {l : List RowX} {i : Nat} {v : TypeId × List Value} (h : l.getD i none = some v) : i < l.length := by
  rcases Nat.lt_or_ge i l.length with h1 | h1
  · exact h1
  · rw [List.getD_eq_getElem?_getD, List.getElem?_eq_none h1] at h; cases h
section
variable {w w' : World} {Fr Fr' : Nat → Prop} {g : Nat} {T : TypeId} {vs : List Value} {xs : List RowX}
theorem RowsR.ownLt (h : RowsR w Fr g T vs xs) {i k : Nat} (hx : xs.getD i none ≠ none) (hk : (vs.getD i (.bool false)).ownBlock = some k) : k < w.heap.size := by
  cases e : xs.getD i none with
  | none => exact absurd e hx
  | some p => exact ((h.own i p.1 p.2 e).lt k hk).2
theorem RowsR.mod {S : Nat → Prop} (h : RowsR w Fr g T vs xs) (m : Mod S w w') (hS : ∀ k, S k → ¬ Fr k) : RowsR w' Fr g T vs xs :=
  ⟨h.bx.mod m (fun c => hS _ c h.frg), fun i t x e => own_mod (h.own i t x e) m fun k hk c => hS _ c (h.fr i k (by rw [e]; simp) hk), h.ap, h.ng, h.frg, h.fr⟩
theorem RowsR.below (h : RowsR w Fr g T vs xs) (m : Below w.heap.size w w') : RowsR w' Fr g T vs xs :=
  ⟨h.bx.below m, fun i t x e => own_below (h.own i t x e) m, h.ap, h.ng, h.frg, h.fr⟩
theorem RowsR.drewN (h : RowsR w Fr g T vs xs) (n : Nat) : RowsR (w.drewN n) Fr g T vs xs := h.below (below_draws (Below.refl _ _) n)
theorem RowsR.mono (h : RowsR w Fr g T vs xs) (hs : ∀ k, k < w.heap.size → Fr k → Fr' k) : RowsR w Fr' g T vs xs :=
  ⟨h.bx, h.own, h.ap, h.ng, hs _ h.bx.lt h.frg, fun i k hx hk => hs _ (h.ownLt hx hk) (h.fr i k hx hk)⟩
/-- A cell of a row is set. -/
theorem RowsR.put (h : RowsR w Fr g T vs xs) (i : Nat) {t : TypeId} {x : List Value} {b n c : Nat} (hx : xs.getD i none = some (t, x)) (hv : vs.getD i (.bool false) = .slice (some ⟨b, 0, none⟩) n c) (hn : x.length = n) (j : Nat) (u : Value) :
    RowsR (w.setCell ⟨b, j, none⟩ u) Fr g T vs (xs.set i (some (t, x.set j u))) ∧ Mod (fun k => k = b) w (w.setCell ⟨b, j, none⟩ u) ∧ Mod Fr w (w.setCell ⟨b, j, none⟩ u) := by
  have hil := getD_ltR hx
  have hob : (vs.getD i (.bool false)).ownBlock = some b := by rw [hv]; simp [Value.ownBlock]
  have hne : xs.getD i none ≠ none := by rw [hx]; simp
  have M : Mod (fun k => k = b) w (w.setCell ⟨b, j, none⟩ u) := Mod.setCell (p := ⟨b, j, none⟩) (Mod.refl (fun k => k = b) w) (fun _ => rfl) u
  have same : ∀ j', (xs.set i (some (t, x.set j u))).getD j' none ≠ none → xs.getD j' none ≠ none := fun j' hj' => by
    rw [getD_setR _ _ _ _ _ hil] at hj'
    by_cases e : j' = i
    · rw [e]; exact hne
    · rwa [if_neg e] at hj'
  refine ⟨⟨h.bx.mod M (fun c => h.ng i hne (by rw [hob, c])), fun i' t' x' e => ?_, fun i' j' hij h1 h2 => h.ap i' j' hij (same i' h1) (same j' h2), fun i' h1 => h.ng i' (same i' h1), h.frg, fun i' k h1 => h.fr i' k (same i' h1)⟩, M, M.mono fun k _ c => by rw [c]; exact h.fr i b hne hob⟩
  rw [getD_setR _ _ _ _ _ hil] at e
  by_cases ei : i' = i
  · rw [if_pos ei] at e
    simp only [Option.some.injEq, Prod.mk.injEq] at e
    obtain ⟨rfl, rfl⟩ := e
    have o := h.own i _ _ hx
    rw [hv] at o
    rw [ei, hv, List.length_set, hn]
    rw [hn] at o
    exact (o.stored j u).1
  · rw [if_neg ei] at e
    exact own_mod (h.own i' t' x' e) M fun k hk c => h.ap i i' (Ne.symm ei) hne (by rw [e]; simp) b hob (by rw [hk, c])
/-- A row has grown, in its own block or in a new one, and its field is set. -/
theorem RowsR.app (h : RowsR w Fr g T vs xs) (i : Nat) {t : TypeId} {x y : List Value} (hx : xs.getD i none = some (t, x)) (hiv : i < vs.length) {w1 w2 : World} {v' : Value} (hb : Below w.heap.size w w1)
    (ho : w2.ownsRow 0 t 1 v' y.length y) (hg : w1.grownBy w2 (vs.getD i (.bool false)).ownBlock) (hat : v'.ownBlock = (vs.getD i (.bool false)).ownBlock ∨ v'.ownBlock = some w1.heap.size) (hFr : ∀ k, w.heap.size ≤ k → Fr k) :
    Blk w2 g T vs.toArray ∧ RowsR (w2.setCell ⟨g, i, none⟩ v') Fr g T (vs.set i v') (xs.set i (some (t, y))) ∧ Mod Fr w (w2.setCell ⟨g, i, none⟩ v') := by
  have hil := getD_ltR hx
  have hne : xs.getD i none ≠ none := by rw [hx]; simp
  have h1 := h.below hb
  have MG := Mod.ofGrown hg
  have hgw := h.bx.lt
  have bx2 : Blk w2 g T vs.toArray := h1.bx.mod MG (fun c => h.ng i hne c.symm)
  have MX : Mod (fun k => k = g) w2 (w2.setCell ⟨g, i, none⟩ v') := Mod.setCell (p := ⟨g, i, none⟩) (Mod.refl (fun k => k = g) w2) (fun _ => rfl) v'
  have new : ∀ k, v'.ownBlock = some k → (vs.getD i (.bool false)).ownBlock = some k ∨ w.heap.size ≤ k := fun k hk => by
    rcases hat with q | q
    · exact .inl (by rw [← q]; exact hk)
    · rw [hk] at q
      have := Option.some.inj q
      exact .inr (by have := hb.size; omega)
  have gv : ∀ j, (vs.set i v').getD j (.bool false) = if j = i then v' else vs.getD j (.bool false) := fun j => getD_setR _ _ _ _ _ hiv
  have same : ∀ j, (xs.set i (some (t, y))).getD j none ≠ none → xs.getD j none ≠ none := fun j hj => by
    rw [getD_setR _ _ _ _ _ hil] at hj
    by_cases e : j = i
    · rw [e]; exact hne
    · rwa [if_neg e] at hj
  have nv : v'.ownBlock ≠ some g := fun c => by
    rcases new g c with q | q
    · exact h.ng i hne q
    · omega
  have apn : ∀ j, j ≠ i → xs.getD j none ≠ none → ∀ k, v'.ownBlock = some k → (vs.getD j (.bool false)).ownBlock ≠ some k := fun j hj hjx k hk c => by
    rcases new k hk with q | q
    · exact h.ap i j (Ne.symm hj) hne hjx k q c
    · have := h.ownLt hjx c; omega
  refine ⟨bx2, ⟨?_, fun i' t' x' e => ?_, fun i' j' hij q1 q2 k hk => ?_, fun i' q1 => ?_, h.frg, fun i' k q1 hk => ?_⟩, ?_⟩
  · have := bx2.set_ i v'
    rwa [List.setIfInBounds_toArray] at this
  · rw [getD_setR _ _ _ _ _ hil] at e
    rw [gv]
    by_cases ei : i' = i
    · rw [if_pos ei] at e
      simp only [Option.some.injEq, Prod.mk.injEq] at e
      obtain ⟨rfl, rfl⟩ := e
      rw [if_pos ei]
      exact own_mod ho MX fun k hk c => nv (by rw [hk, c])
    · rw [if_neg ei] at e
      rw [if_neg ei]
      have hx' : xs.getD i' none ≠ none := by rw [e]; simp
      exact own_mod (own_mod (h1.own i' t' x' e) MG fun k hk c => h.ap i i' (Ne.symm ei) hne hx' k c.symm hk) MX fun k hk c => h.ng i' hx' (by rw [hk, c])
  · rw [gv] at hk
    rw [gv]
    by_cases e1 : i' = i
    · rw [if_pos e1] at hk
      rw [if_neg (fun c => hij (e1.trans c.symm))]
      exact apn j' (fun c => hij (e1.trans c.symm)) (same j' q2) k hk
    · rw [if_neg e1] at hk
      by_cases e2 : j' = i
      · rw [if_pos e2]
        exact fun c => apn i' e1 (same i' q1) k c hk
      · rw [if_neg e2]; exact h.ap i' j' hij (same i' q1) (same j' q2) k hk
  · rw [gv]
    by_cases e1 : i' = i
    · rw [if_pos e1]; exact nv
    · rw [if_neg e1]; exact h.ng i' (same i' q1)
  · rw [gv] at hk
    by_cases e1 : i' = i
    · rw [if_pos e1] at hk
      rcases new k hk with q | q
      · exact h.fr i k hne q
      · exact hFr k q
    · rw [if_neg e1] at hk; exact h.fr i' k (same i' q1) hk
  · refine Mod.setCell (p := ⟨g, i, none⟩) ?_ (fun _ => h.frg) v'
    exact (Mod.mono (Mod.none_ hb (fun _ => False)) (fun _ _ c => c.elim)).trans (MG.mono fun k _ c => h.fr i k hne c.symm) fun _ _ q => q
theorem ofN_snocR (L : List Nat) (x : Nat) : I64 (ofN (L ++ [x])) = I64 (ofN L) ++ [.int .i64 (x : Int)] := by simp [I64, ofN]
theorem lenR (L : List Nat) : (I64 (ofN L)).length = L.length := by simp [I64, ofN]
/-- A number is put behind a row of ints: the append's run, and what is then. -/
theorem RowsR.push (h : RowsR w Fr g T vs xs) (i : Nat) {L : List Nat} (hx : xs.getD i none = some (3, I64 (ofN L))) (hiv : i < vs.length) {A : Option Addr} {c : Nat} (hv : vs.getD i (.bool false) = .slice A L.length c) (x : Nat) (hL : L.length ≤ 1000000) (hFr : ∀ k, w.heap.size ≤ k → Fr k) :
    ∃ A1 c1 w1, (Builtin.append_ #[25, 25] 25 #[.slice A L.length c, .slice (some ⟨w.heap.size, 0, none⟩) 1 1]).run Try.prog (w.alloc (.cells #[.int .i64 (x : Int)] 3)) = .ok (.slice A1 (L.length + 1) c1) w1 ∧
      Blk w1 g T vs.toArray ∧ RowsR (w1.setCell ⟨g, i, none⟩ (.slice A1 (L.length + 1) c1)) Fr g T (vs.set i (.slice A1 (L.length + 1) c1)) (xs.set i (some (3, I64 (ofN (L ++ [x]))))) ∧ Mod Fr w (w1.setCell ⟨g, i, none⟩ (.slice A1 (L.length + 1) c1)) := by
  obtain ⟨i0, hi0, hz0, hz1, hz2⟩ := info_parts info_int
  have hal : Below w.heap.size w (w.alloc (.cells #[.int .i64 (x : Int)] 3)) := (Below.refl _ _).alloc (Nat.le_refl _) _
  have ho := h.own i _ _ hx
  rw [lenR, hv] at ho
  have ho1 := own_below ho hal
  have rd := Rd.new w 3 #[.int .i64 (x : Int)] 1 [.int .i64 (x : Int)] rfl rfl
  obtain ⟨v', w1, hrun, hnew, hgr, hob⟩ := run_append_rd (P := Try.prog) (w.alloc (.cells #[.int .i64 (x : Int)] 3)) 0 25 25 3 i0 (.int .i64 0) 8 Try.underlying25 hi0 hz0 hz1 hz2 rfl _ L.length _ ho1 (w.heap.size + 1) (some ⟨w.heap.size, 0, none⟩) 1 1 _ rd (by simp [Value.oneCell']) (by simp only [maxLen]; omega) (by omega) (Nat.zero_le _)
  obtain ⟨A1, c1, rfl, hc1, hm1⟩ := own_form hnew
  have hnew' : w1.ownsRow 0 3 1 (.slice A1 (L.length + 1) c1) (I64 (ofN (L ++ [x]))).length (I64 (ofN (L ++ [x]))) := by
    rw [ofN_snocR, List.length_append, lenR]; exact hnew
  have := h.app i hx hiv hal hnew' (by rw [hv]; exact hgr) (by rw [hv]; exact hob) hFr
  exact ⟨A1, c1, w1, hrun, this.1, this.2.1, this.2.2⟩
theorem RowsR.rd (h : RowsR w Fr g T vs xs) (i : Nat) {t : TypeId} {x : List Value} {A : Option Addr} {n c : Nat} (hx : xs.getD i none = some (t, x)) (hv : vs.getD i (.bool false) = .slice A n c) (hn : x.length = n) : Rd w w.heap.size A n x := by
  have o := h.own i _ _ hx
  rw [hv, hn] at o
  exact Rd.ofOwn o
end
end Go.Proofs.Ytgcbdoljapnecaa
namespace Go.Proofs.Ytgcbdoljapnecaa
set_option maxRecDepth 100000
open Go.RowKit
set_option linter.unusedVariables false
set_option linter.unusedSimpArgs false
abbrev GEl := Value × List Nat
abbrev gE0 : GEl := (Value.bool false, [])
def gcs (ps : List GEl) : List Value := ps.map (·.1)
theorem gcs_get (ps : List GEl) (j : Nat) (h : j < ps.length) : (gcs ps)[j]? = some (ps.getD j gE0).1 := by
  unfold gcs
  rw [List.getElem?_map, List.getD_eq_getElem?_getD, List.getElem?_eq_getElem h]; rfl
theorem gcs_set (ps : List GEl) (j : Nat) (v : Value) (D : List Nat) : (gcs ps).set j v = gcs (ps.set j (v, D)) := by
  unfold gcs; rw [List.map_set]
theorem own_own_neG {w : World} {b b' : Nat} {e e' : TypeId} {s s' n n' : Nat} {v v' : Value} {xs xs' : List Value} (h : w.ownsRow b e s v n xs) (h' : w.ownsRow b' e' s' v' n' xs') (hne : e ≠ e') {q : Nat} (hq : v.ownBlock = some q) (hq' : v'.ownBlock = some q) : False := by
  rcases h.2 with ⟨rfl, _⟩ | ⟨g, c, cur, rfl, _, hg, _⟩
  · simp [Value.ownBlock] at hq
  · rcases h'.2 with ⟨rfl, _⟩ | ⟨g', c', cur', rfl, _, hg', _⟩
    · simp [Value.ownBlock] at hq'
    · simp [Value.ownBlock] at hq hq'
      subst hq; subst hq'
      rw [hg] at hg'
      simp at hg'
      exact hne hg'.2
/-- The rows so far, in memory of the call's own. -/
structure GRow (w : World) (base : Nat) (A : Option Addr) (c : Nat) (ps : List GEl) : Prop where
  own : w.ownsRow base 25 1 (.slice A ps.length c) ps.length (gcs ps)
  inn : ∀ j, j < ps.length → (∃ A' c', (ps.getD j gE0).1 = .slice A' (ps.getD j gE0).2.length c') ∧ w.ownsRow base 3 1 (ps.getD j gE0).1 (ps.getD j gE0).2.length (I64 (ofN (ps.getD j gE0).2))
  dj : ∀ i j, i < ps.length → j < ps.length → i ≠ j → ∀ k, (ps.getD i gE0).1.ownBlock = some k → (ps.getD j gE0).1.ownBlock ≠ some k
section
variable {w w' : World} {base c : Nat} {A : Option Addr} {ps : List GEl}
theorem GRow.below (h : GRow w base A c ps) (m : Below w.heap.size w w') : GRow w' base A c ps :=
  ⟨own_below h.own m, fun j hj => ⟨(h.inn j hj).1, own_below (h.inn j hj).2 m⟩, h.dj⟩
theorem GRow.one (w : World) (hb : base ≤ w.heap.size) : GRow (w.alloc (.cells #[.slice none 0 0] 25)) base (some ⟨w.heap.size, 0, none⟩) 1 [(.slice none 0 0, [])] := by
  refine ⟨?_, fun j hj => ?_, fun i j hi hj hij => ?_⟩
  · exact (World.ownsRow_lit (base := w.heap.size) (e := 25) (size := 1) w #[.slice none 0 0] 1 (by omega) (by simp [maxLen]) (by simp)).base_le' hb
  · obtain rfl : j = 0 := by simp at hj; omega
    exact ⟨⟨none, 0, rfl⟩, World.ownsRow_nil _ _ _ _⟩
  · simp at hi hj; omega
/-- A row more, without numbers yet. -/
theorem GRow.snocM (h : GRow w base A c ps) (hbase : base ≤ w.heap.size) (hn : ps.length ≤ 1000000) :
    ∃ A1 c1 w2, (Builtin.append_ #[59, 59] 59 #[.slice A ps.length c, .slice (some ⟨w.heap.size, 0, none⟩) 1 1]).run Try.prog (w.alloc (.cells #[.slice none 0 0] 25)) = .ok (.slice A1 (ps.length + 1) c1) w2 ∧
      GRow w2 base A1 c1 (ps ++ [(.slice none 0 0, [])]) ∧ Below base w w2 ∧ Mod (fun q => some q = (Value.slice A ps.length c).ownBlock) w w2 := by
  obtain ⟨i0, hi0, hz0, hz1, hz2⟩ := info_parts info_ints
  have hal : Below w.heap.size w (w.alloc (.cells #[.slice none 0 0] 25)) := (Below.refl _ _).alloc (Nat.le_refl _) _
  have h1 := h.below hal
  have rd := Rd.new w 25 #[.slice none 0 0] 1 [.slice none 0 0] rfl rfl
  obtain ⟨v', w2, hrun, hnew, hgr, hob⟩ := run_append_rd (P := Try.prog) (w.alloc (.cells #[.slice none 0 0] 25)) base 59 59 25 i0 (.slice none 0 0) 24 Try.underlying59 hi0 hz0 hz1 hz2 rfl _ ps.length _ h1.own (w.heap.size + 1) (some ⟨w.heap.size, 0, none⟩) 1 1 _ rd (by intro u hu; rw [List.mem_singleton] at hu; subst hu; rfl) (by simp only [maxLen]; omega) (by omega) (by simp; omega)
  obtain ⟨A1, c1, rfl, _, _⟩ := own_form hnew
  have MG := Mod.ofGrown hgr
  have hl : (ps ++ [((.slice none 0 0, []) : GEl)]).length = ps.length + 1 := by simp
  have gl : ∀ j, j < ps.length → (ps ++ [((.slice none 0 0, []) : GEl)]).getD j gE0 = ps.getD j gE0 := fun j hj => by rw [List.getD_eq_getElem?_getD, List.getElem?_append_left hj, ← List.getD_eq_getElem?_getD]
  have gr : (ps ++ [((.slice none 0 0, []) : GEl)]).getD ps.length gE0 = (.slice none 0 0, []) := by simp [List.getD_eq_getElem?_getD]
  refine ⟨A1, c1, w2, hrun, ⟨?_, fun j hj => ?_, fun i j hi hj hij k hk => ?_⟩, ?_⟩
  · rw [hl]
    have : gcs (ps ++ [((.slice none 0 0, []) : GEl)]) = gcs ps ++ [.slice none 0 0] := by simp [gcs]
    rw [this]; exact hnew
  · rw [hl] at hj
    by_cases e : j < ps.length
    · rw [gl j e]
      exact ⟨(h.inn j e).1, own_mod (h1.inn j e).2 MG fun k hk q => own_own_neG (h1.inn j e).2 h1.own (by decide) hk q.symm⟩
    · obtain rfl : j = ps.length := by omega
      rw [gr]
      exact ⟨⟨none, 0, rfl⟩, World.ownsRow_nil _ _ _ _⟩
  · rw [hl] at hi hj
    by_cases e1 : i < ps.length
    · rw [gl i e1] at hk
      by_cases e2 : j < ps.length
      · rw [gl j e2]; exact h.dj i j e1 e2 hij k hk
      · obtain rfl : j = ps.length := by omega
        rw [gr]; simp [Value.ownBlock]
    · obtain rfl : i = ps.length := by omega
      rw [gr] at hk
      simp [Value.ownBlock] at hk
  · exact ⟨((Below.refl base w).alloc hbase _).trans (Below.appended h1.own hgr (by simp; omega)), (Mod.none_ hal _).trans MG fun _ _ q => q⟩
/-- A number is put to a row. -/
theorem GRow.grow {g : Nat} (h : GRow w base (some ⟨g, 0, none⟩) c ps) (hbase : base ≤ w.heap.size) {j d : Nat} (hj : j < ps.length) (hn : (ps.getD j gE0).2.length ≤ 1000000) :
    ∃ A1 cj A2 c2 w2, (ps.getD j gE0).1 = .slice A1 (ps.getD j gE0).2.length cj ∧ (Builtin.append_ #[25, 25] 25 #[.slice A1 (ps.getD j gE0).2.length cj, .slice (some ⟨w.heap.size, 0, none⟩) 1 1]).run Try.prog (w.alloc (.cells #[.int .i64 (d : Int)] 3)) = .ok (.slice A2 ((ps.getD j gE0).2.length + 1) c2) w2 ∧
      w2.cell? ⟨g, j, none⟩ = some (.slice A1 (ps.getD j gE0).2.length cj) ∧ w2.frozen? ⟨g, j, none⟩ = false ∧
      GRow (w2.setCell ⟨g, j, none⟩ (.slice A2 ((ps.getD j gE0).2.length + 1) c2)) base (some ⟨g, 0, none⟩) c (ps.set j (.slice A2 ((ps.getD j gE0).2.length + 1) c2, (ps.getD j gE0).2 ++ [d])) ∧
      Below base w (w2.setCell ⟨g, j, none⟩ (.slice A2 ((ps.getD j gE0).2.length + 1) c2)) ∧ Mod (fun q => q = g ∨ some q = (ps.getD j gE0).1.ownBlock) w (w2.setCell ⟨g, j, none⟩ (.slice A2 ((ps.getD j gE0).2.length + 1) c2)) ∧
      (∀ q, (Value.slice A2 ((ps.getD j gE0).2.length + 1) c2).ownBlock = some q → (ps.getD j gE0).1.ownBlock = some q ∨ w.heap.size ≤ q) := by
  obtain ⟨i0, hi0, hz0, hz1, hz2⟩ := info_parts info_int
  obtain ⟨⟨A1, cj, e1⟩, oj⟩ := h.inn j hj
  have hal : Below w.heap.size w (w.alloc (.cells #[.int .i64 (d : Int)] 3)) := (Below.refl _ _).alloc (Nat.le_refl _) _
  have h1 := h.below hal
  have oj1 := own_below oj hal
  rw [e1] at oj1
  have rd := Rd.new w 3 #[.int .i64 (d : Int)] 1 [.int .i64 (d : Int)] rfl rfl
  obtain ⟨v', w2, hrun, hnew, hgr, hob⟩ := run_append_rd (P := Try.prog) (w.alloc (.cells #[.int .i64 (d : Int)] 3)) base 25 25 3 i0 (.int .i64 0) 8 Try.underlying25 hi0 hz0 hz1 hz2 rfl _ _ _ oj1 (w.heap.size + 1) (some ⟨w.heap.size, 0, none⟩) 1 1 _ rd (by simp [Value.oneCell']) (by simp only [maxLen]; omega) (by omega) (by simp; omega)
  obtain ⟨A2, c2, rfl, _, _⟩ := own_form hnew
  have MG := Mod.ofGrown hgr
  have ow1 := h1.own
  have ow2 := own_mod ow1 MG fun k hk q => own_own_neG oj1 ow1 (by decide) q.symm hk
  have hgw := (own_block h.own)
  have hcell := ow2.cellAt j (by omega)
  rw [gcs_get ps j hj, e1] at hcell
  have hfz := ow2.frozenAt j
  have MX : Mod (fun k => k = g) w2 (w2.setCell ⟨g, j, none⟩ (.slice A2 ((ps.getD j gE0).2.length + 1) c2)) := Mod.setCell (p := ⟨g, j, none⟩) (Mod.refl (fun k => k = g) w2) (fun _ => rfl) _
  have new : ∀ k, (Value.slice A2 ((ps.getD j gE0).2.length + 1) c2).ownBlock = some k → (ps.getD j gE0).1.ownBlock = some k ∨ w.heap.size ≤ k := fun k hk => by
    rcases hob with q | q
    · exact .inl (by rw [e1, ← q]; exact hk)
    · rw [hk] at q
      have := Option.some.inj q
      exact .inr (by simp at this; omega)
  have gs : ∀ i, (ps.set j (.slice A2 ((ps.getD j gE0).2.length + 1) c2, (ps.getD j gE0).2 ++ [d])).getD i gE0 = if i = j then (.slice A2 ((ps.getD j gE0).2.length + 1) c2, (ps.getD j gE0).2 ++ [d]) else ps.getD i gE0 := fun i => getD_setR _ _ _ _ _ hj
  have ilt : ∀ i, i < ps.length → ∀ k, (ps.getD i gE0).1.ownBlock = some k → k < w.heap.size := fun i hi k hk => ((h.inn i hi).2.lt k hk).2
  refine ⟨A1, cj, A2, c2, w2, e1, hrun, hcell, hfz, ⟨?_, fun i hi => ?_, fun i k hi hk hik q hq => ?_⟩, ?_⟩
  · rw [List.length_set]
    have := (ow2.stored j (.slice A2 ((ps.getD j gE0).2.length + 1) c2)).1
    rw [gcs_set ps j _ ((ps.getD j gE0).2 ++ [d])] at this
    exact this
  · rw [List.length_set] at hi
    rw [gs]
    by_cases e : i = j
    · rw [if_pos e]
      refine ⟨⟨A2, c2, by simp⟩, ?_⟩
      have hl : ((ps.getD j gE0).2 ++ [d]).length = (ps.getD j gE0).2.length + 1 := by simp
      show World.ownsRow _ _ _ _ _ _ _
      rw [hl, ofN_snocR]
      exact own_mod hnew MX fun k hk q => own_own_neG hnew ow2 (by decide) hk (by rw [q]; simp [Value.ownBlock])
    · rw [if_neg e]
      have oi := (h1.inn i hi).2
      have oi2 := own_mod oi MG fun k hk q => h.dj i j hi hj e k hk (by rw [e1]; exact q.symm)
      exact ⟨(h.inn i hi).1, own_mod oi2 MX fun k hk q => own_own_neG oi2 ow2 (by decide) hk (by rw [q]; simp [Value.ownBlock])⟩
  · rw [List.length_set] at hi hk
    rw [gs] at hq ⊢
    by_cases e1' : i = j
    · rw [if_pos e1'] at hq
      rw [if_neg (fun c => hik (e1'.trans c.symm))]
      rcases new q hq with n1 | n1
      · exact h.dj j k hj hk (fun c => hik (e1'.trans c)) q n1
      · intro c; have := ilt k hk q c; omega
    · rw [if_neg e1'] at hq
      by_cases e2' : k = j
      · rw [if_pos e2']
        intro c
        rcases new q c with n1 | n1
        · exact h.dj i j hi hj e1' q hq n1
        · have := ilt i hi q hq; omega
      · rw [if_neg e2']; exact h.dj i k hi hk hik q hq
  · refine ⟨?_, Mod.setCell (p := ⟨g, j, none⟩) ((Mod.none_ hal (fun q => q = g ∨ some q = (ps.getD j gE0).1.ownBlock)).trans MG fun q _ hq => .inr (by rw [e1]; exact hq)) (fun _ => .inl rfl) _, new⟩
    have b1 : Below base w (w.alloc (.cells #[.int .i64 (d : Int)] 3)) := (Below.refl _ _).alloc hbase _
    exact (b1.trans (Below.appended oj1 hgr (by simp; omega))).setCell (p := ⟨g, j, none⟩) hgw.1 _
end
end Go.Proofs.Ytgcbdoljapnecaa
