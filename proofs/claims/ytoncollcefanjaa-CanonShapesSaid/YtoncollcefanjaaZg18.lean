/- The sorts' part. The vertices' degrees, those without darts too; no program in sight. Counting by a Go map: what its datum is when the first k numbers' names have been counted; no walk. A Go map of integers that bears a set of numbers. -/
import Derived.Test.YtoncollcefanjaaZg17
import Derived.Test.YtoncollcefanjaaZg15
import Derived.Maps.OwnSet
import Derived.Test.YtoncollcefanjaaZg3
namespace Go.Proofs.Ytoncollcefanjaa
set_option maxRecDepth 100000
open Go.RowKit
set_option linter.unusedVariables false
set_option linter.unusedSimpArgs false
section
variable {n : Nat} {D P O F Z C : List Nat} {X Y : Nat → Prop}
theorem Cho.congr (H : Cho n P O F Z C X) (h : ∀ x, x < n → (X x ↔ Y x)) : Cho n P O F Z C Y := ⟨H.len, H.le, fun d hd => (H.is d hd).trans (h d hd)⟩
theorem Cho.pos (S : Srt n D P O F Z) (H : Cho n P O F Z C X) {s : Nat} (hs : s < F.length) : 0 < C.getD s 0 ↔ ∃ x, x < n ∧ X x ∧ O.getD x 0 = s := by
  have hfz := S.fz s hs
  have hz := S.pos s hs
  constructor
  · intro h
    have h1 : F.getD s 0 < n := by omega
    have hO := (S.ins (F.getD s 0) s h1 hs).2 ⟨Nat.le_refl _, by omega⟩
    refine ⟨D.getD (F.getD s 0) 0, S.dlt h1, (H.is _ (S.dlt h1)).1 ?_, hO⟩
    rw [hO, S.pd h1]; omega
  · rintro ⟨x, hx, h1, h2⟩
    have := (H.is x hx).2 h1
    have h3 := (S.at_ hx hs).1 h2
    rw [h2] at this
    omega
end
theorem drop_consT (T : List Nat) (i : Nat) (h : i < T.length) : T.drop i = T.getD i 0 :: T.drop (i + 1) := by
  rw [List.drop_eq_getElem_cons h, List.getD_eq_getElem?_getD, List.getElem?_eq_getElem h]; rfl
def PartPost (w : World) (Fr : Nat → Prop) (g n gD gP gO cD cP cO : Nat) (O F : List Nat) (ds : List Nat) (st : Nat → Nat) (e : Ending) (w' : World) : Prop :=
  e = .returned (.tuple #[]) ∧ ∃ D' P' O' F' Z' C', SrtM w' Fr g n gD gP gO cD cP cO D' P' O' F' Z' C' ∧ Srt n D' P' O' F' Z' ∧ Cho n P' O' F' Z' C' (fun _ => False) ∧ F.length ≤ F'.length ∧
    (∀ R : Nat → Nat → Prop, (∀ d e, d < n → e < n → R d e → O.getD d 0 = O.getD e 0) → (∀ d e, d < n → e < n → R d e → (d ∈ ds.map st ↔ e ∈ ds.map st)) → ∀ d e, d < n → e < n → R d e → O'.getD d 0 = O'.getD e 0) ∧ Mod Fr w w'
/-- The first of part's two loops: what is chosen, and the sorts that were touched. -/
structure Pt1 (w W : World) (Fr : Nat → Prop) (g n gD gP gO cD cP cO : Nat) (O F Z : List Nat) (X : Nat → Prop) (AT : Option Addr) (cT : Nat) (T D P C : List Nat) : Prop where
  m : SrtM W (fun k => Fr k ∧ k < w.heap.size) g n gD gP gO cD cP cO D P O F Z C
  s : Srt n D P O F Z
  c : Cho n P O F Z C X
  nd : T.Nodup
  tk : ∀ s, s ∈ T ↔ ∃ x, x < n ∧ X x ∧ O.getD x 0 = s
  ow : W.ownsRow w.heap.size 3 1 (.slice AT T.length cT) T.length (I64 (ofN T))
  mo : Mod Fr w W
/-- The second: what is still to be parted. -/
structure Pt2 (w W : World) (Fr : Nat → Prop) (g n gD gP gO cD cP cO : Nat) (O F : List Nat) (X : Nat → Prop) (vT : Value) (T D P O' F' Z' C' : List Nat) (i : Nat) : Prop where
  m : SrtM W (fun k => Fr k ∧ vT.ownBlock ≠ some k) g n gD gP gO cD cP cO D P O' F' Z' C'
  s : Srt n D P O' F' Z'
  c : Cho n P O' F' Z' C' (fun x => X x ∧ O'.getD x 0 ∈ T.drop i)
  le : F.length ≤ F'.length
  tp : ∀ s, s ∈ T.drop i → s < F.length ∧ 0 < C'.getD s 0
  fi : ∀ R : Nat → Nat → Prop, (∀ d e, d < n → e < n → R d e → O.getD d 0 = O.getD e 0) → (∀ d e, d < n → e < n → R d e → (X d ↔ X e)) → ∀ d e, d < n → e < n → R d e → O'.getD d 0 = O'.getD e 0
  ow : W.ownsRow w.heap.size 3 1 vT T.length (I64 (ofN T))
  mo : Mod Fr w W
section
variable {w W W' : World} {Fr : Nat → Prop} {g n gD gP gO cD cP cO cT : Nat} {O F Z : List Nat} {X Y : Nat → Prop} {AT : Option Addr} {T D P C : List Nat}
theorem Pt1.below (h : Pt1 w W Fr g n gD gP gO cD cP cO O F Z X AT cT T D P C) (m : Below W.heap.size W W') : Pt1 w W' Fr g n gD gP gO cD cP cO O F Z X AT cT T D P C :=
  ⟨h.m.below m, h.s, h.c, h.nd, h.tk, own_below h.ow m, h.mo.trans (Mod.none_ m (fun _ => False)) fun _ _ c => c.elim⟩
/-- choose, of a dart whose sort is touched already. -/
theorem Pt1.next (h : Pt1 w W Fr g n gD gP gO cD cP cO O F Z X AT cT T D P C) {t : Nat} (ht : t < n) (hT : O.getD t 0 ∈ T) {D' P' C' : List Nat} (m : SrtM W' (fun k => Fr k ∧ k < w.heap.size) g n gD gP gO cD cP cO D' P' O F Z C') (s : Srt n D' P' O F Z) (c : Cho n P' O F Z C' (fun x => X x ∨ x = t))
    (hm : Mod (fun k => Fr k ∧ k < w.heap.size) W W') : Pt1 w W' Fr g n gD gP gO cD cP cO O F Z (fun x => X x ∨ x = t) AT cT T D' P' C' := by
  refine ⟨m, s, c, h.nd, fun s' => ⟨fun q => ?_, ?_⟩, own_mod h.ow hm fun k hk q => by have := (h.ow.lt k hk).1; omega, h.mo.trans hm fun _ _ q => q.1⟩
  · obtain ⟨x, h1, h2, h3⟩ := (h.tk s').1 q
    exact ⟨x, h1, .inl h2, h3⟩
  · rintro ⟨x, h1, h2, h3⟩
    rcases h2 with h2 | h2
    · exact (h.tk s').2 ⟨x, h1, h2, h3⟩
    · rw [← h3, h2]; exact hT
/-- A sort is touched. -/
theorem Pt1.touch (h : Pt1 w W Fr g n gD gP gO cD cP cO O F Z X AT cT T D P C) {t : Nat} (ht : t < n) (hT : O.getD t 0 ∉ T) {D' P' C' : List Nat} {W1 : World} {A' : Option Addr} {c' : Nat} (m : SrtM W' (fun k => Fr k ∧ k < w.heap.size) g n gD gP gO cD cP cO D' P' O F Z C') (s : Srt n D' P' O F Z) (c : Cho n P' O F Z C' (fun x => X x ∨ x = t))
    (hm1 : Mod (fun k => w.heap.size ≤ k) W W1) (hm : Mod (fun k => Fr k ∧ k < w.heap.size) W1 W') (ho : W1.ownsRow w.heap.size 3 1 (.slice A' (T.length + 1) c') (T.length + 1) (I64 (ofN T) ++ [.int .i64 ((O.getD t 0 : Nat) : Int)])) :
    Pt1 w W' Fr g n gD gP gO cD cP cO O F Z (fun x => X x ∨ x = t) A' c' (T ++ [O.getD t 0]) D' P' C' := by
  refine ⟨m, s, c, List.nodup_append.2 ⟨h.nd, by simp, fun a ha b hb => by rw [List.mem_singleton] at hb; rw [hb]; exact fun e => hT (by rw [← e]; exact ha)⟩, fun s' => ⟨fun q => ?_, ?_⟩, ?_, (h.mo.trans hm1 fun i hi q => by omega).trans hm fun _ _ q => q.1⟩
  · rcases List.mem_append.1 q with q | q
    · obtain ⟨x, h1, h2, h3⟩ := (h.tk s').1 q
      exact ⟨x, h1, .inl h2, h3⟩
    · simp at q
      exact ⟨t, ht, .inr rfl, q.symm⟩
  · rintro ⟨x, h1, h2, h3⟩
    rcases h2 with h2 | h2
    · exact List.mem_append_left _ ((h.tk s').2 ⟨x, h1, h2, h3⟩)
    · rw [← h3, h2]; simp
  · rw [List.length_append, ofN_snocR]
    exact own_mod ho hm fun k hk q => by have := (ho.lt k hk).1; omega
theorem Pt2.next {vT : Value} {O' F' Z' C' : List Nat} {i : Nat} (h : Pt2 w W Fr g n gD gP gO cD cP cO O F X vT T D P O' F' Z' C' i) (hi : i < T.length) (nd : T.Nodup) {e : Ending} (hp : HalvePost W (fun k => Fr k ∧ vT.ownBlock ≠ some k) g n gD gP gO cD cP cO D P O' F' Z' C' (fun x => X x ∧ O'.getD x 0 ∈ T.drop i) (T.getD i 0) e W') :
    ∃ O2 F2 Z2 C2, Pt2 w W' Fr g n gD gP gO cD cP cO O F X vT T D P O2 F2 Z2 C2 (i + 1) := by
  obtain ⟨_, O2, F2, Z2, C2, m2, s2, c2, l2, o2, k2, f2, mo2⟩ := hp
  have hd := drop_consT T i hi
  have hndd : (T.drop i).Nodup := nd.sublist (List.drop_sublist i T)
  rw [hd] at hndd
  have hnot : T.getD i 0 ∉ T.drop (i + 1) := (List.nodup_cons.1 hndd).1
  have hsub : ∀ s, s ∈ T.drop (i + 1) → s ∈ T.drop i := fun s hs => by rw [hd]; exact List.mem_cons_of_mem _ hs
  refine ⟨O2, F2, Z2, C2, m2, s2, c2.congr fun x hx => ?_, by have := h.le; omega, fun s hs => ?_, fun R h1 h2 d e hd' he' r => ?_, own_mod h.ow mo2 fun k hk q => q.2 hk, h.mo.trans mo2 fun _ _ q => q.1⟩
  · rw [hd]
    constructor
    · rintro ⟨⟨q1, q2⟩, q3⟩
      rcases List.mem_cons.1 q2 with q2 | q2
      · exact absurd q2 q3
      · rcases o2 x hx with q | q
        · exact ⟨q1, by rw [q]; exact q2⟩
        · exact absurd q.1 q3
    · rintro ⟨q1, q2⟩
      rcases o2 x hx with q | q
      · rw [q] at q2
        exact ⟨⟨q1, List.mem_cons_of_mem _ q2⟩, fun c => hnot (by rw [← c]; exact q2)⟩
      · have := (h.tp _ (hsub _ q2)).1
        have := h.le
        omega
  · have := h.tp s (hsub s hs)
    have hle := h.le
    exact ⟨this.1, by rw [k2 s (by omega) (fun c => hnot (by rw [← c]; exact hs))]; exact this.2⟩
  · refine f2 R (h.fi R h1 h2) (fun d e hd2 he2 r2 hs => ?_) d e hd' he' r
    have e1 := h.fi R h1 h2 d e hd2 he2 r2
    show (X d ∧ O'.getD d 0 ∈ _) ↔ (X e ∧ O'.getD e 0 ∈ _)
    rw [e1, h2 d e hd2 he2 r2]
end
theorem Pt1.cells {w W : World} {Fr : Nat → Prop} {g n gD gP gO cD cP cO cT : Nat} {O F Z : List Nat} {X : Nat → Prop} {AT : Option Addr} {T D P C : List Nat} (h : Pt1 w W Fr g n gD gP gO cD cP cO O F Z X AT cT T D P C) {t : Nat} (ht : t < n) :
    ∃ gC cC, W.cell? ⟨g, 2, none⟩ = some (ivS gO n cO) ∧ W.cell? ⟨g, 5, none⟩ = some (ivS gC F.length cC) ∧ W.cell? ⟨gO, t, none⟩ = some (.int .i64 ((O.getD t 0 : Nat) : Int)) ∧ W.cell? ⟨gC, O.getD t 0, none⟩ = some (.int .i64 ((C.getD (O.getD t 0) 0 : Nat) : Int)) := by
  obtain ⟨AF, cF, AZ, cZ, AC, cC, m, hZl, hCl⟩ := h.m
  have hs := h.s.olt t ht
  obtain ⟨gC, rfl⟩ := m.somN 5 rfl rfl hCl (by omega)
  have r2 := m.bx.cell 2
  have r5 := m.bx.cell 5
  simp at r2 r5
  exact ⟨gC, cC, r2, r5, (m.cellN 2 rfl rfl h.s.ol t ht).1, (m.cellN 5 rfl rfl hCl _ hs).1⟩
set_option maxHeartbeats 8000000 in
theorem cspart_p (Fr : Nat → Prop) (B0 : Nat) (w0 : World) (g n gD gP gO cD cP cO : Nat) (D P O F Z C : List Nat) (A : Option Addr) (m c : Nat) (ds : List Nat) (fid : FuncId) (recv : Value) (st : Nat → Nat) (w : World)
    (h : SrtM w Fr g n gD gP gO cD cP cO D P O F Z C) (hFr : ∀ k, w.heap.size ≤ k → Fr k) (hB : ∀ k, Fr k → B0 ≤ k) (hB0 : B0 ≤ w.heap.size) (hw0 : Below B0 w0 w)
    (S : Srt n D P O F Z) (H : Cho n P O F Z C (fun _ => False)) (hr : Rd w w.heap.size A m (I64 (ofN ds))) (hA : ∀ k, inBlk A k → ¬ Fr k) (hds : ∀ d ∈ ds, d < n) (hnd : ds.Nodup)
    (hst : ∀ d, d < n → st d < n) (hinj : ∀ d e, d < n → e < n → st d = st e → d = e)
    (STEP : Hid (∀ (W : World), Below B0 w0 W → ∀ d : Nat, d < n → Calls Try.prog fid #[recv, .int .i64 (d : Int)] W fun e w' => e = .returned (.int .i64 ((st d : Nat) : Int)) ∧ Below W.heap.size W w')) (hC : ∀ (args : Array Value) (w : World), Sem.run Try.prog (callFunc fid args) w = .ok (.enter fid args) w) (hn : n ≤ 500000) (hm : m ≤ 500000) :
    Calls Try.prog 66 #[.pointer (some ⟨g, 0, none⟩), .slice A m c, .func (.func fid) #[recv] #[]] w (PartPost w Fr g n gD gP gO cD cP cO O F ds st) := by
  have hdl : ds.length = m := by have := hr.len; rwa [lenR] at this
  have ST : Hid (∀ (W : World) (AT : Option Addr) (cT : Nat) (T D' P' C' : List Nat) (X : Nat → Prop), Pt1 w W Fr g n gD gP gO cD cP cO O F Z X AT cT T D' P' C' → ∀ d : Nat, d < n → Calls Try.prog fid #[recv, .int .i64 (d : Int)] W fun e w' => e = .returned (.int .i64 ((st d : Nat) : Int)) ∧ Pt1 w w' Fr g n gD gP gO cD cP cO O F Z X AT cT T D' P' C') := fun W AT cT T D' P' C' X q d hd =>
    (STEP.out W (hw0.trans (q.mo.belowB hB0 (fun i hi hf => by have := hB i hf; omega))) d hd).mono fun e w' ⟨h1, h2⟩ => ⟨h1, q.below h2⟩
  have RD : Hid (∀ (W : World), Mod Fr w W → ∀ j, j < m → ∃ b o, A = some ⟨b, o, none⟩ ∧ W.cell? ⟨b, o + j, none⟩ = some (.int .i64 ((ds.getD j 0 : Nat) : Int))) := fun W M j hj => by
    obtain ⟨b, o, hA', hb, hc⟩ := hr.i64 (by omega)
    refine ⟨b, o, hA', ?_⟩
    rw [M.cell hb (hA b ⟨_, hA', rfl⟩), hc j hj, ofN_get]
  have S0 : Hid (Pt1 w w Fr g n gD gP gO cD cP cO O F Z (fun x => x ∈ (ds.take 0).map st) none 0 [] D P C) :=
    ⟨h.mono fun k hk q => ⟨q, hk⟩, S, H.congr fun x hx => by simp, by simp, fun s => by simp, World.ownsRow_nil _ _ _ _, Mod.refl _ _⟩
  have HDS := Lib.hid (And.intro hds (And.intro hnd (And.intro hst (And.intro hinj hdl))))
  have HFR := Lib.hid hFr
  have hkn : F.length ≤ n := S.few
  obtain ⟨i0, hi0, hz0, hz1, hz2⟩ := info_parts info_int
  clear h S H hr hA hds hnd hst hinj STEP hdl hFr hB hB0 hw0
  go_enter Try.func66, Try.ntmps66
  go_wp2_with fail
  go_loopw [6, 14] (fun v i wr => ∃ (j : Nat) (AT : Option Addr) (cT : Nat) (T D' P' C' : List Nat), j ≤ m ∧ T.length ≤ 500000 ∧ v = .slice AT T.length cT ∧ i = .int .i64 (j : Int) ∧ Hid (Pt1 w wr Fr g n gD gP gO cD cP cO O F Z (fun x => x ∈ (ds.take j).map st) AT cT T D' P' C')) (fun _ i _ => m - (intOf i).toNat)
  case atStart => exact ⟨0, none, 0, [], D, P, C, Nat.zero_le _, by simp, rfl, rfl, S0⟩
  case round =>
    clear S0
    obtain ⟨j, AT, cT, T, D', P', C', hj, hTl, rfl, rfl, PT⟩ := hrel
    by_cases hlt : j < m
    · have hdj : decide (j < m) = true := decide_eq_true hlt
      obtain ⟨b, o, rfl, hcell⟩ := RD.out _ PT.out.mo j hlt
      obtain ⟨d, hd⟩ : ∃ d, d = ds.getD j 0 := ⟨_, rfl⟩
      rw [← hd] at hcell
      have hdm : d ∈ ds := by rw [hd]; exact getD_orb_mem (by rw [HDS.out.2.2.2.2]; exact hlt)
      have hdn := HDS.out.1 d hdm
      have SC := Lib.hid (ST.out _ _ _ _ _ _ _ _ PT.out d hdn)
      obtain ⟨t, ht⟩ : ∃ t, t = st d := ⟨_, rfl⟩
      rw [← ht] at SC
      have htn : t < n := by rw [ht]; exact HDS.out.2.2.1 d hdn
      have hTK : ds.take (j + 1) = ds.take j ++ [d] := by rw [take_oneN ds j (by rw [HDS.out.2.2.2.2]; exact hlt), ← hd]
      have HXN : Hid (∀ x, (x ∈ (ds.take j).map st ∨ x = t) ↔ x ∈ (ds.take (j + 1)).map st) := fun x => by rw [hTK, List.map_append, List.mem_append, List.map_cons, List.map_nil, List.mem_singleton, ht]
      have HNX : Hid (t ∉ (ds.take j).map st) := fun q => by
        obtain ⟨y, hy, e⟩ := List.mem_map.1 q
        have hy' := List.mem_of_mem_take hy
        have := HDS.out.2.2.2.1 y d (HDS.out.1 y hy') hdn (e.trans ht)
        have nd := HDS.out.2.1.sublist (List.take_sublist (j + 1) ds)
        rw [hTK, List.nodup_append] at nd
        exact nd.2.2 y hy d (by simp) this
      clear PT hd hdm ht hTK
      go_wp2_with fail
      refine SC.out.mono ?_
      rintro e w1 ⟨rfl, pt⟩
      have PT := Lib.hid pt
      clear pt
      obtain ⟨gC, cC, r2, r5, c2, c5⟩ := PT.out.cells htn
      obtain ⟨s, hs⟩ : ∃ s, s = O.getD t 0 := ⟨_, rfl⟩
      have hsk : s < F.length := by rw [hs]; exact PT.out.s.olt t htn
      have HPOS : Hid (0 < C'.getD s 0 ↔ s ∈ T) := (Cho.pos PT.out.s PT.out.c hsk).trans (PT.out.tk s).symm
      rw [← hs] at c2 c5
      obtain ⟨cs, hcs⟩ : ∃ x, x = C'.getD s 0 := ⟨_, rfl⟩
      rw [← hcs] at HPOS c5
      have HS := Lib.hid hs
      have hti : (t : Int) < (n : Int) := by omega
      obtain ⟨k, hk⟩ : ∃ k, k = F.length := ⟨_, rfl⟩
      rw [← hk] at r5 hsk hkn
      have hsi : (s : Int) < (k : Int) := by omega
      have HKK := Lib.hid hk
      clear hs hcs hk
      by_cases hc0 : cs = 0
      · have dc : ((cs : Int) == 0) = true := by rw [beq_iff_eq]; omega
        have HNT : Hid (s ∉ T) := fun q => by have := HPOS.out.2 q; omega
        clear hc0
        go_wp2_with fail
        go_quiet (fail)
        have PT2 := Lib.hid (PT.out.below (below_draws (Below.refl _ _) nq))
        clear r2 r5 c2 c5 PT
        generalize w1.drewN nq = w2 at *
        obtain ⟨_, _, r2, _, c2, _⟩ := PT2.out.cells htn
        rw [← HS.out] at c2
        have HTN : Hid (T.length + 1 ≤ 500000) := by
          have hh : ∀ x ∈ T ++ [s], x < n := fun x hx => by
            rcases List.mem_append.1 hx with q | q
            · obtain ⟨y, hy, _, e⟩ := (PT2.out.tk x).1 q
              have := PT2.out.s.olt y hy
              have := PT2.out.s.few
              omega
            · rw [List.mem_singleton] at q; omega
          have nd : (T ++ [s]).Nodup := List.nodup_append.2 ⟨PT2.out.nd, by simp, fun a ha b hb => by rw [List.mem_singleton] at hb; rw [hb]; exact fun e => HNT.out (by rw [← e]; exact ha)⟩
          have := (List.Nodup.length_le_of_subset nd (l₂ := List.range n) fun x hx => List.mem_range.2 (hh x hx))
          rw [List.length_append, List.length_range] at this
          show _ ≤ _
          have e1 : [s].length = 1 := rfl
          omega
        have hal : Below w2.heap.size w2 (w2.alloc (.cells #[.int .i64 (s : Int)] 3)) := (Below.refl _ _).alloc (Nat.le_refl _) _
        have hT1 := own_below PT2.out.ow hal
        have rd := Rd.new w2 3 #[.int .i64 (s : Int)] 1 [.int .i64 (s : Int)] rfl rfl
        have hbw : w.heap.size ≤ (w2.alloc (.cells #[.int .i64 (s : Int)] 3)).heap.size := by have := PT2.out.mo.size; simp; omega
        obtain ⟨v', w3, hrun, hnew, hgr, hob⟩ := run_append_rd (P := Try.prog) (w2.alloc (.cells #[.int .i64 (s : Int)] 3)) w.heap.size 24 24 3 i0 (.int .i64 0) 8 Try.underlying24 hi0 hz0 hz1 hz2 rfl _ T.length _ hT1 (w2.heap.size + 1) (some ⟨w2.heap.size, 0, none⟩) 1 1 _ rd (by simp [Value.oneCell']) (by simp only [maxLen]; omega) (by omega) hbw
        obtain ⟨A2, c2', rfl, _, _⟩ := own_form hnew
        have M12 : Hid (Mod (fun k => w.heap.size ≤ k) w2 w3) := (Mod.none_ hal (fun k => w.heap.size ≤ k)).trans (Mod.appended hT1 hgr) fun _ _ q => q
        have SM2 := PT2.out.m.mod M12.out (fun k q c => by omega)
        have CH := Lib.hid (cschoose_p _ g n gD gP gO cD cP cO D' P' O F Z C' _ t w3 SM2 PT2.out.s PT2.out.c htn HNX.out (by omega))
        have HNEW := Lib.hid hnew
        clear hal hT1 rd hbw hnew hgr hob SM2
        go_upto_region 7 with (first
          | (at_builtin; go_must (refine wpList_append_runR rfl _ _ _ rfl _ _ _ _ rfl rfl hrun ?_)))
        go_wp2_with fail
        refine CH.out.mono ?_
        rintro e w4 ⟨rfl, D2, P2, C2, t1, t2, t3, t4⟩
        have NX2 : Hid (Pt1 w w4 Fr g n gD gP gO cD cP cO O F Z (fun x => x ∈ (ds.take (j + 1)).map st) A2 c2' (T ++ [s]) D2 P2 C2) := by
          have q := PT2.out.touch htn (by rw [← HS.out]; exact HNT.out) t1 t2 t3 M12.out t4 (by rw [← HS.out]; exact HNEW.out)
          rw [← HS.out] at q
          exact ⟨q.m, q.s, q.c.congr fun x _ => HXN.out x, q.nd, fun s' => (q.tk s').trans ⟨fun ⟨x, h1, h2, h3⟩ => ⟨x, h1, (HXN.out x).1 h2, h3⟩, fun ⟨x, h1, h2, h3⟩ => ⟨x, h1, (HXN.out x).2 h2, h3⟩⟩, q.ow, q.mo⟩
        clear t1 t2 t3 t4 CH HNEW PT2
        go_wp2_with fail
        go_roundw
        case rel => exact ⟨j + 1, A2, c2', T ++ [s], D2, P2, C2, by omega, by have := HTN.out; rw [List.length_append]; exact this, by rw [List.length_append]; rfl, by go_num, NX2⟩
        case measure => simp [intOf]; omega
      · have dc : ((cs : Int) == 0) = false := by rw [beq_eq_false_iff_ne]; omega
        have HNT : Hid (s ∈ T) := HPOS.out.1 (by omega)
        clear hc0
        go_wp2_with fail
        go_quiet (fail)
        have PT2 := Lib.hid (PT.out.below (below_draws (Below.refl _ _) nq))
        clear r2 r5 c2 c5 PT
        generalize w1.drewN nq = w2 at *
        have CH := Lib.hid (cschoose_p _ g n gD gP gO cD cP cO D' P' O F Z C' _ t w2 PT2.out.m PT2.out.s PT2.out.c htn HNX.out (by omega))
        go_wp2_with fail
        refine CH.out.mono ?_
        rintro e w4 ⟨rfl, D2, P2, C2, t1, t2, t3, t4⟩
        have NX2 : Hid (Pt1 w w4 Fr g n gD gP gO cD cP cO O F Z (fun x => x ∈ (ds.take (j + 1)).map st) AT cT T D2 P2 C2) := by
          have q := PT2.out.next htn (by rw [← HS.out]; exact HNT.out) t1 t2 t3 t4
          exact ⟨q.m, q.s, q.c.congr fun x _ => HXN.out x, q.nd, fun s' => (q.tk s').trans ⟨fun ⟨x, h1, h2, h3⟩ => ⟨x, h1, (HXN.out x).1 h2, h3⟩, fun ⟨x, h1, h2, h3⟩ => ⟨x, h1, (HXN.out x).2 h2, h3⟩⟩, q.ow, q.mo⟩
        clear t1 t2 t3 t4 CH PT2
        go_wp2_with fail
        go_roundw
        case rel => exact ⟨j + 1, AT, cT, T, D2, P2, C2, by omega, hTl, rfl, by go_num, NX2⟩
        case measure => simp [intOf]; omega
    · obtain rfl : j = m := by omega
      have hdj : decide (j < j) = false := by simp
      have hTj : ds.take j = ds := List.take_of_length_le (by rw [HDS.out.2.2.2.2]; exact Nat.le_refl _)
      rw [hTj] at PT
      have hTJ := Lib.hid hTj
      clear hTj
      obtain ⟨q, hq⟩ : ∃ q, q = T.length := ⟨_, rfl⟩
      have HQ := Lib.hid hq
      have P0 : Hid (Pt2 w wr Fr g n gD gP gO cD cP cO O F (fun x => x ∈ ds.map st) (.slice AT T.length cT) T D' P' O F Z C' 0) := by
        have p := PT.out
        refine ⟨p.m.mono fun k _ q => ⟨q.1, fun c => ?_⟩, p.s, p.c.congr fun x hx => ⟨fun c => ⟨c, (p.tk _).2 ⟨x, hx, c, rfl⟩⟩, fun c => c.1⟩, Nat.le_refl _, fun s hs => ?_, fun R h1 _ => h1, p.ow, p.mo⟩
        · have := (p.ow.lt k c).1; omega
        · obtain ⟨x, h1, h2, h3⟩ := (p.tk s).1 hs
          have hsl : s < F.length := by rw [← h3]; exact p.s.olt x h1
          exact ⟨hsl, (Cho.pos p.s p.c hsl).2 ⟨x, h1, h2, h3⟩⟩
      have HND : Hid T.Nodup := PT.out.nd
      have HV : Hid (∀ W O' F' Z' C' i, Pt2 w W Fr g n gD gP gO cD cP cO O F (fun x => x ∈ ds.map st) (.slice AT T.length cT) T D' P' O' F' Z' C' i → i < T.length → Calls Try.prog 82 #[.pointer (some ⟨g, 0, none⟩), .int .i64 ((T.getD i 0 : Nat) : Int)] W (HalvePost W (fun k => Fr k ∧ (Value.slice AT T.length cT).ownBlock ≠ some k) g n gD gP gO cD cP cO D' P' O' F' Z' C' (fun x => x ∈ ds.map st ∧ O'.getD x 0 ∈ T.drop i) (T.getD i 0))) := fun W O' F' Z' C' i p hi => by
        have hin : T.getD i 0 ∈ T.drop i := by rw [drop_consT T i hi]; exact List.mem_cons_self
        have := p.tp _ hin
        have hle := p.le
        exact cshalve_p _ g n gD gP gO cD cP cO D' P' O' F' Z' C' _ _ W p.m (fun k hk => ⟨HFR.out k (by have := p.mo.size; omega), fun c => by have := (p.ow.lt k c).2; omega⟩) p.s p.c (by omega) this.2 hn
      clear PT hq
      obtain ⟨qT, hqT⟩ : ∃ q, q = T.length := ⟨_, rfl⟩
      have HQT := Lib.hid hqT
      rw [← hqT] at P0 HV hTl ⊢
      clear hqT
      go_wp2_with fail
      go_loopw [51] (fun x wr => ∃ (i : Nat) (O' F' Z' C' : List Nat), i ≤ qT ∧ x = .int .i64 (i : Int) ∧ Hid (Pt2 w wr Fr g n gD gP gO cD cP cO O F (fun x => x ∈ ds.map st) (.slice AT qT cT) T D' P' O' F' Z' C' i)) (fun x _ => qT - (intOf x).toNat)
      case atStart => exact ⟨0, O, F, Z, C', Nat.zero_le _, rfl, P0⟩
      case round =>
        clear P0
        obtain ⟨i, O', F', Z', C2, hi, rfl, PT⟩ := hrel
        by_cases hlt : i < qT
        · have hdi : decide (i < qT) = true := decide_eq_true hlt
          have HC := Lib.hid (HV.out _ _ _ _ _ i PT.out hlt)
          obtain ⟨gT, e1, e2, e3⟩ := own_some PT.out.ow (by rw [← HQT.out]; omega)
          subst e1
          have ct := own_cellI (by have := PT.out.ow; rw [← HQT.out] at this; exact this) i hlt
          rw [ofN_get] at ct
          obtain ⟨s, hs⟩ : ∃ s, s = T.getD i 0 := ⟨_, rfl⟩
          rw [← hs] at ct HC
          have HS := Lib.hid hs
          clear hs
          go_wp2_with fail
          refine HC.out.mono ?_
          intro e w5 hp
          have NX := Lib.hid (PT.out.next (by rw [← HQT.out]; exact hlt) HND.out (by rw [← HS.out]; exact hp))
          obtain ⟨rfl, _⟩ := hp
          obtain ⟨O3, F3, Z3, C3, NX⟩ := NX.out
          have NX := Lib.hid NX
          clear HC PT
          go_wp2_with fail
          go_roundw
          case rel => exact ⟨i + 1, O3, F3, Z3, C3, by omega, by go_num, NX⟩
          case measure => simp [intOf]; omega
        · obtain rfl : i = qT := by omega
          have hdi : decide (i < i) = false := by simp
          have FIN : Hid (PartPost w Fr g n gD gP gO cD cP cO O F ds st (.returned (.tuple #[])) wr) := by
            have p := PT.out
            refine ⟨rfl, _, _, _, _, _, _, p.m.mono fun k _ q => q.1, p.s, p.c.congr fun x hx => ⟨fun c => ?_, fun c => c.elim⟩, p.le, p.fi, p.mo⟩
            have := c.2
            rw [HQT.out, List.drop_length] at this
            simp at this
          clear PT HV
          go_wp2_with fail
          refine bodyPost_end (results_none rfl _ _ _) rfl ?_
          exact FIN.out
end Go.Proofs.Ytoncollcefanjaa
namespace Go.Proofs.Ytoncollcefanjaa
set_option maxRecDepth 20000
set_option linter.unusedVariables false

theorem sum_bump (f : Nat → Nat) (p m : Nat) : ((List.range m).map fun j => f j + (if p = j then 1 else 0)).sum = ((List.range m).map f).sum + (if p < m then 1 else 0) := by
  induction m with
  | zero => simp
  | succ m ih =>
    rw [List.range_succ, List.map_append, List.map_append, List.sum_append, List.sum_append, ih]
    simp only [List.map_cons, List.map_nil, List.sum_cons, List.sum_nil]
    by_cases h1 : p < m
    · rw [if_pos h1, if_neg (by omega), if_pos (by omega)]; omega
    · by_cases h2 : p = m
      · rw [if_neg h1, if_pos h2, if_pos (by omega)]; omega
      · rw [if_neg h1, if_neg h2, if_neg (by omega)]; omega
theorem degs_sum {l b : List Nat} (h : Inv l b) (M : Nat) (hM : (sizes l).length ≤ M) (k : Nat) (hk : k ≤ l.length) : (sizesTo l M k).sum = k := by
  induction k with
  | zero =>
    unfold sizesTo
    have : (List.range M).map (cntN l 0) = (List.range M).map fun _ => 0 := List.map_congr_left fun i _ => by simp [cntN]
    rw [this]
    have z : ∀ L : List Nat, (L.map fun _ => 0).sum = 0 := fun L => by
      induction L with
      | nil => rfl
      | cons a L ih => rw [List.map_cons, List.sum_cons, ih]
    exact z _
  | succ k ih =>
    have ih := ih (by omega)
    have e : sizesTo l (M) (k + 1) = (List.range M).map fun j => cntN l k j + (if nameOf l k = j then 1 else 0) := by
      unfold sizesTo
      exact List.map_congr_left fun i _ => cntN_next l k i
    rw [e, sum_bump]
    have h1 : nameOf l k < (sizes l).length := by rw [sizes_len]; exact name_lt h (by omega)
    rw [if_pos (by omega)]
    unfold sizesTo at ih
    rw [ih]
theorem degs_zero (l : List Nat) (M : Nat) : sizesTo l M 0 = List.replicate M 0 := by
  unfold sizesTo
  apply List.ext_getElem (by simp)
  intro i h1 h2
  simp [cntN]
theorem cnt_out {l b : List Nat} (h : Inv l b) (j : Nat) (hj : (sizes l).length ≤ j) : cntN l l.length j = 0 := by
  unfold cntN
  rw [List.length_eq_zero_iff, List.filter_eq_nil_iff]
  intro i hi
  rw [List.mem_range] at hi
  have := name_lt h hi
  rw [sizes_len] at hj
  simp; omega
theorem degs_get {l b : List Nat} (h : Inv l b) (q j : Nat) (hj : j < (sizes l).length + q) : (((sizesTo l ((sizes l).length + q) l.length).getD j 0 : Nat) : Int) = degOf l q j := by
  rw [sizesTo_get _ _ _ _ hj]
  unfold degOf
  rw [if_neg (by omega)]
  by_cases h1 : ((sizes l).length : Int) ≤ (j : Int)
  · rw [if_pos h1, cnt_out h j (by omega)]; rfl
  · rw [if_neg h1, Int.toNat_natCast]
    have hz : (sizes l).length = met l l.length := by unfold sizes; rw [sizesTo_len]
    unfold sizes
    rw [sizesTo_get _ _ _ _ (by omega)]
theorem sum_take (L : List Nat) (i : Nat) (h : i < L.length) : (L.take (i + 1)).sum = (L.take i).sum + L.getD i 0 := by
  rw [← List.take_append_getElem h, List.sum_append, List.getD_eq_getElem?_getD, List.getElem?_eq_getElem h]
  simp
theorem sum_take_le (L : List Nat) (i : Nat) : (L.take i).sum ≤ L.sum := by
  have h := congrArg List.sum (List.take_append_drop i L)
  rw [List.sum_append] at h
  omega
end Go.Proofs.Ytoncollcefanjaa
namespace Go.Proofs.Ytoncollcefanjaa
set_option maxRecDepth 20000
open Go.RowKit Go.Maps
set_option linter.unusedVariables false

theorem name_inj {l b : List Nat} (h : Inv l b) {x y : Nat} (hx : x < l.length) (hy : y < l.length) (e : nameOf l x = nameOf l y) : lead l x = lead l y := by
  have h1 := (lead_is h hx).2.1
  have h2 := (lead_is h hy).2.1
  rcases Nat.lt_trichotomy (lead l x) (lead l y) with hlt | heq | hgt
  · have := leads_lt l _ _ h1 hlt
    unfold nameOf at e; omega
  · exact heq
  · have := leads_lt l _ _ h2 hgt
    unfold nameOf at e; omega
theorem cnt_orb {l b : List Nat} (h : Inv l b) {d : Nat} (hd : d < l.length) : cntN l l.length (nameOf l d) = (orb l d).length := by
  unfold cntN
  apply List.Perm.length_eq
  refine (List.perm_ext_iff_of_nodup (List.Pairwise.filter _ List.nodup_range) (orb_nodup h hd)).2 fun x => ?_
  rw [List.mem_filter, List.mem_range, decide_eq_true_iff]
  constructor
  · rintro ⟨h1, h2⟩
    exact mem_of_lead h h1 hd (name_inj h h1 hd h2)
  · intro hx
    refine ⟨orb_lt h hd hx, ?_⟩
    unfold nameOf
    rw [lead_of_mem h hd hx]

def kI (j : Nat) : Lit := .int .i64 (j : Int)
theorem kI_ne {i j : Nat} (h : i ≠ j) : kI i ≠ kI j := by
  intro e
  unfold kI at e
  simp only [Lit.int.injEq, true_and] at e
  omega
theorem kI_key (j : Nat) : WideAt.IsKeyLit (kI j) := by
  unfold kI; simp [WideAt.IsKeyLit]
/-- The datum of a map that has counted the names of the first k numbers. -/
structure MC {H : Type} (D : DataW H) (l : List Nat) (k : Nat) : Prop where
  tidy : Tidy D
  has_ : ∀ j : Nat, Maps.has D (kI j) = decide (j < met l k)
  size_ : Maps.size D = met l k
  at_ : ∀ j : Nat, D.atKey (kI j) (.lit (.int .i64 0)) = .lit (.int .i64 ((cntN l k j : Nat) : Int))
theorem MC.zero {H : Type} (l : List Nat) : MC (H := H) (.map []) l 0 where
  tidy := tidy_empty
  has_ := fun j => by rw [met_zero]; simp [Maps.has]
  size_ := by rw [met_zero]; rfl
  at_ := fun j => by simp [DataW.atKey, cntN]
theorem MC.step {H : Type} {D : DataW H} {l b : List Nat} (hi : Inv l b) {k : Nat} (hk : k < l.length) (h : MC D l k) :
    MC (D.put (kI (nameOf l k)) (.lit (.int .i64 ((cntN l k (nameOf l k) : Nat) + 1 : Int)))) l (k + 1) where
  tidy := h.tidy.put (kI_key _) _
  has_ := fun j => by
    by_cases hj : j = nameOf l k
    · subst hj
      rw [has_put_same h.tidy.isMap (kI_key _)]
      exact (decide_eq_true (name_met hi hk (Nat.lt_succ_self k))).symm
    · rw [has_put_other (kI_ne hj), h.has_]
      rw [decide_eq_decide]
      by_cases hl : Leads l k
      · have := name_lead hi hk hl
        rw [met_lead l k hl]; omega
      · rw [met_not l k hl]
  size_ := by
    rw [size_put h.tidy, h.has_, h.size_]
    by_cases hl : Leads l k
    · have := name_lead hi hk hl
      rw [met_lead l k hl, if_neg (by simp; omega)]
    · have := name_not hi hk hl
      rw [met_not l k hl, if_pos (by simpa using this)]
  at_ := fun j => by
    by_cases hj : j = nameOf l k
    · subst hj
      rw [atKey_put_same h.tidy.isMap (kI_key _), cntN_next, if_pos rfl]; rfl
    · rw [atKey_put_other (kI_ne hj), h.at_, cntN_next, if_neg (fun e => hj e.symm)]; rfl
theorem own_map_below {H : Type} {P : Program} {k : TypeId} {R : Value → Option (DataW H × List MemPlace)} {w w' : World} {b n : Nat} {D : DataW H} (h : w.ownsMap P k R b n D) (m : Below w.heap.size w w') : w'.ownsMap P k R b n D := by
  have hlt := h.lt
  obtain ⟨es, clock, hb, F, hs, hD⟩ := h
  exact ⟨es, clock, (m.block b hlt).trans hb, F, hs, hD⟩
theorem mlaw : Keyed Try.prog 3 := int_keyed Try.underlying3
theorem mzero (w : World) : (zeroValue 3).run Try.prog w = .ok (.int .i64 0) w := by kernel_rfl
theorem mkey (j : Nat) (hj : j ≤ 1000000) : keyOf Try.prog 3 (.int .i64 (j : Int)) = some (kI j) := keyOf_int_mk Try.underlying3 (by simp [Lit.wf, IntKind.min, IntKind.max, IntKind.bits, IntKind.signed]; omega)
abbrev OwnM (w : World) (g n : Nat) (D : DataW Unit) : Prop := w.ownsMap Try.prog 3 (plainElem Try.prog 3) g n D
theorem look_m {w : World} {g n k : Nat} {D : DataW Unit} {l : List Nat} (h : OwnM w g n D) (hm : MC D l k) (j : Nat) (hj : j ≤ 1000000) :
    (Instr.lookup 65 (.map (some g)) (.int .i64 (j : Int)) false).run Try.prog w = .ok (.int .i64 ((cntN l k j : Nat) : Int)) w := by
  obtain ⟨c, hrun, hat, _⟩ := World.ownsMap.lookup_int h mlaw Try.underlying65 Try.underlying3 (mzero _) (mkey j hj)
  rw [hm.at_] at hat
  simp only [DataW.lit.injEq, Lit.int.injEq, true_and] at hat
  rw [hat]; exact hrun
end Go.Proofs.Ytoncollcefanjaa
namespace Go.Proofs.Ytoncollcefanjaa
set_option maxRecDepth 20000
open Go.RowKit Go.Maps
set_option linter.unusedVariables false
/-- A map bears the vertices that were met. -/
structure MM (D : DataW Unit) (M : List Bool) : Prop where
  tidy : Tidy D
  at_ : ∀ v, v < M.length → D.atKey (kI v) (.lit (.int .i64 0)) = .lit (.int .i64 (if M.getD v false = true then 1 else 0))
theorem MM.zero (V : Nat) : MM (.map []) (List.replicate V false) where
  tidy := tidy_empty
  at_ := fun v hv => by
    have : (List.replicate V false).getD v false = false := by simp [List.getD_eq_getElem?_getD, List.getElem?_replicate]; split <;> rfl
    rw [this]; simp [DataW.atKey]
theorem MM.put {D : DataW Unit} {M : List Bool} (h : MM D M) {v : Nat} (hv : v < M.length) : MM (D.put (kI v) (.lit (.int .i64 1))) (M.set v true) where
  tidy := h.tidy.put (kI_key _) _
  at_ := fun j hj => by
    rw [List.length_set] at hj
    rw [getB_set _ _ _ _ hv]
    by_cases c : j = v
    · subst c
      rw [atKey_put_same h.tidy.isMap (kI_key _), if_pos rfl, if_pos rfl]
    · rw [atKey_put_other (kI_ne c), h.at_ j hj, if_neg c]
theorem look_met {w : World} {g n : Nat} {D : DataW Unit} {M : List Bool} (h : OwnM w g n D) (hm : MM D M) (v : Nat) (hv : v < M.length) (hj : v ≤ 1000000) :
    (Instr.lookup 65 (.map (some g)) (.int .i64 (v : Int)) false).run Try.prog w = .ok (.int .i64 (if M.getD v false = true then 1 else 0)) w := by
  obtain ⟨c, hrun, hat, _⟩ := World.ownsMap.lookup_int h mlaw Try.underlying65 Try.underlying3 (mzero _) (mkey v hj)
  rw [hm.at_ v hv] at hat
  simp only [DataW.lit.injEq, Lit.int.injEq, true_and] at hat
  rw [hat]; exact hrun
theorem put_m {w : World} {g n : Nat} {D : DataW Unit} (h : OwnM w g n D) (hn : n < 1000000) (e : Nat) (hj : e ≤ 1000000) (v : Int) (hv : -9223372036854775808 ≤ v ∧ v ≤ 9223372036854775807) :
    ∃ w', (Instr.mapUpdate 65 (.map (some g)) (.int .i64 (e : Int)) (.int .i64 v)).run Try.prog w = .ok () w' ∧ OwnM w' g (n + 1) (D.put (kI e) (.lit (.int .i64 v))) ∧ w.grownBy w' (some g) :=
  World.ownsMap.update h mlaw Try.underlying65 (by unfold maxLen; omega) (mkey e hj) (plainElem_int Try.underlying3 (WalkArith.wf_i64 (by omega)))
theorem own_map_ne {w : World} {base : Nat} {e : TypeId} {size n g m : Nat} {v : Value} {xs : List Value} {D : DataW Unit} (h : w.ownsRow base e size v n xs) (hm : OwnM w g m D) : v.ownBlock ≠ some g := fun q => by
  obtain ⟨es, clock, hb, _⟩ := hm
  rcases h.2 with ⟨h0, _⟩ | ⟨k, cap, cur, rfl, hb', hg, _⟩
  · rw [h0] at q; simp [Value.ownBlock] at q
  · simp [Value.ownBlock] at q
    subst q
    rw [hb] at hg
    simp at hg
end Go.Proofs.Ytoncollcefanjaa
