/- All orbits. -/
import Derived.Test.YthbhbcakiaaapaaPOrbit
namespace Go.Proofs.Ythbhbcakiaaapaa
set_option maxRecDepth 20000
open Go.RowKit
set_option linter.unusedVariables false

def Bl (y : List Bool) : List Value := y.map fun b => Value.bool b
theorem Bl_len (y : List Bool) : (Bl y).length = y.length := by simp [Bl]
theorem Bl_set (y : List Bool) (k : Nat) (v : Bool) : Bl (y.set k v) = (Bl y).set k (.bool v) := by simp [Bl, List.map_set]
theorem getDB_set (y : List Bool) (k j : Nat) (v : Bool) (hk : k < y.length) : (y.set k v).getD j false = if j = k then v else y.getD j false := by
  rw [List.getD_eq_getElem?_getD, List.getD_eq_getElem?_getD, List.getElem?_set]
  by_cases h : k = j
  · subst h; simp [hk]
  · simp [h, Ne.symm h]
theorem own_setB {w : World} {base : Nat} {g n c : Nat} {y : List Bool} (h : w.ownsRow base 4 1 (.slice (some ⟨g, 0, none⟩) n c) n (Bl y)) (k : Nat) (v : Bool) :
    (w.setCell ⟨g, k, none⟩ (.bool v)).ownsRow base 4 1 (.slice (some ⟨g, 0, none⟩) n c) n (Bl (y.set k v)) := by
  rw [Bl_set]; exact (h.stored k _).1
theorem own_lenB {w : World} {base : Nat} {v : Value} {n : Nat} {y : List Bool} (h : w.ownsRow base 4 1 v n (Bl y)) : y.length = n := by
  have := h.1; rw [Bl_len] at this; omega
theorem own_cellB {w : World} {base : Nat} {g n c : Nat} {y : List Bool} (h : w.ownsRow base 4 1 (.slice (some ⟨g, 0, none⟩) n c) n (Bl y)) (k : Nat) (hk : k < n) :
    w.cell? ⟨g, k, none⟩ = some (.bool (y.getD k false)) := by
  have hl := own_lenB h
  rw [h.cellAt k (by omega)]
  simp [Bl, List.getD_eq_getElem?_getD, List.getElem?_eq_getElem (show k < y.length by omega)]
theorem own_own_ne {w : World} {base base' : Nat} {e e' : TypeId} {size size' n n' : Nat} {v v' : Value} {xs xs' : List Value} (h : w.ownsRow base e size v n xs) (h' : w.ownsRow base' e' size' v' n' xs') (hne : e ≠ e') (g : Nat) (hg : v.ownBlock = some g) : v'.ownBlock ≠ some g := by
  intro hg'
  rcases h.2 with ⟨rfl, _⟩ | ⟨a, cap, cur, rfl, _, ha, _⟩
  · simp [Value.ownBlock] at hg
  · rcases h'.2 with ⟨rfl, _⟩ | ⟨a', cap', cur', rfl, _, ha', _⟩
    · simp [Value.ownBlock] at hg'
    · simp [Value.ownBlock] at hg hg'
      subst hg hg'
      rw [ha] at ha'
      simp at ha'
      exact hne ha'.2

/-- The values vs are slices of their own that read as the lists os. -/
def RowsOwn (w : World) (base : Nat) (vs : List Value) (os : List (List Nat)) : Prop :=
  vs.length = os.length ∧ ∀ k, k < os.length → ∃ A c, vs[k]? = some (.slice A (os.getD k []).length c) ∧ (os.getD k []).length ≤ c ∧ w.ownsRow base 3 1 (.slice A (os.getD k []).length c) (os.getD k []).length (I64 (ofN (os.getD k [])))
theorem RowsOwn.mod {w w' : World} {base : Nat} {vs : List Value} {os : List (List Nat)} {S : Nat → Prop} (h : RowsOwn w base vs os) (m : Mod S w w')
    (hn : ∀ A n c xs k, w.ownsRow base 3 1 (.slice A n c) n xs → (Value.slice A n c).ownBlock = some k → ¬ S k) : RowsOwn w' base vs os :=
  ⟨h.1, fun k hk => by
    obtain ⟨A, c, h1, h2, h3⟩ := h.2 k hk
    exact ⟨A, c, h1, h2, own_mod h3 m (fun j hj => hn _ _ _ _ j h3 hj)⟩⟩
theorem RowsOwn.below {w w' : World} {base : Nat} {vs : List Value} {os : List (List Nat)} (h : RowsOwn w base vs os) (m : Below w.heap.size w w') : RowsOwn w' base vs os :=
  ⟨h.1, fun k hk => by
    obtain ⟨A, c, h1, h2, h3⟩ := h.2 k hk
    exact ⟨A, c, h1, h2, own_below h3 m⟩⟩
theorem RowsOwn.snoc {w : World} {base : Nat} {vs : List Value} {os : List (List Nat)} (h : RowsOwn w base vs os) {A : Option Addr} {c : Nat} {l : List Nat} (hc : l.length ≤ c) (ho : w.ownsRow base 3 1 (.slice A l.length c) l.length (I64 (ofN l))) :
    RowsOwn w base (vs ++ [.slice A l.length c]) (os ++ [l]) := by
  refine ⟨by simp [h.1], fun k hk => ?_⟩
  rw [List.length_append] at hk
  simp at hk
  by_cases e : k < os.length
  · obtain ⟨A', c', h1, h2, h3⟩ := h.2 k e
    rw [show (os ++ [l]).getD k [] = os.getD k [] by simp [List.getD_eq_getElem?_getD, List.getElem?_append_left e]]
    exact ⟨A', c', by rw [List.getElem?_append_left (by rw [h.1]; exact e)]; exact h1, h2, h3⟩
  · obtain rfl : k = os.length := by omega
    rw [show (os ++ [l]).getD os.length [] = l by simp [List.getD_eq_getElem?_getD]]
    exact ⟨A, c, by rw [← h.1]; simp, hc, ho⟩

theorem info_ints : (Try.prog.info? 25).map (fun i => (i.zero, i.size, i.bytes)) = some (some (.slice none 0 0), 1, 24) := by kernel_rfl
theorem info_bool : (Try.prog.info? 4).map (fun i => (i.zero, i.size, i.bytes)) = some (some (.bool false), 1, 1) := by kernel_rfl

/-- An answer that is all orbits. -/
def NewRows (w : World) (os : List (List Nat)) (e : Ending) (w' : World) : Prop :=
  ∃ A c vs, e = .returned (.slice A os.length c) ∧ os.length ≤ c ∧ w'.ownsRow w.heap.size 25 1 (.slice A os.length c) os.length vs ∧ RowsOwn w' w.heap.size vs os ∧ Below w.heap.size w w'

set_option maxHeartbeats 2000000 in
theorem orbits_p (g : Nat) (l b : List Nat) (w : World) (h : PermAt w g l b) :
    Calls Try.prog 83 #[.pointer (some ⟨g, 0, none⟩)] w (NewRows w (orbits l)) := by
  have hinv := h.1
  have hl := h.2.1
  have HP := Lib.hid h
  have LP := Lib.hid (len_p g l b w h)
  obtain ⟨i0, hi0, hz0, hz1, hz2⟩ := info_parts info_ints
  obtain ⟨j0, ji0, jz0, jz1, jz2⟩ := info_parts info_bool
  have hmk := run_make_one (P := Try.prog) 38 4 j0 (.bool false) 1 Try.underlying38 ji0 jz0 jz1 jz2 rfl .i64 .i64 l.length (by omega) (by omega)
  have hown := own_made w 4 l.length (.bool false) (by simp only [maxLen]; omega)
  rw [show List.replicate l.length (Value.bool false) = Bl (List.replicate l.length false) by simp [Bl]] at hown
  have HINV := Lib.hid hinv
  clear h hinv
  go_enter Try.func83, Try.ntmps83
  go_wp2_with (go_at_call 51; refine LP.out.mono ?_; rintro e w' ⟨rfl, rfl⟩)
  go_loopw [3, 14] (fun v i wr => ∃ (k : Nat) (y : List Bool) (Av : Option Addr) (m cv : Nat) (vs : List Value), k ≤ l.length ∧ i = .int .i64 k ∧ v = .slice Av m cv ∧ Hid (m = (leads l k).length) ∧ m ≤ l.length ∧ Hid (∀ x, x < l.length → y.getD x false = decide (lead l x < k)) ∧
    wr.ownsRow w.heap.size 4 1 (.slice (some ⟨w.heap.size, 0, none⟩) l.length l.length) l.length (Bl y) ∧
    wr.ownsRow (w.heap.size + 1) 25 1 (.slice Av m cv) m vs ∧ Hid (RowsOwn wr (w.heap.size + 1) vs ((leads l k).map (orb l))) ∧ Below w.heap.size w wr) (fun _ i _ => l.length - (intOf i).toNat)
  case atStart =>
    refine ⟨0, List.replicate l.length false, none, 0, 0, [], by omega, rfl, rfl, by show 0 = _; simp [leads], by omega, fun x hx => ?_, ?_, World.ownsRow_nil _ _ _ _, ⟨by simp [leads], fun k hk => by simp [leads] at hk⟩, (Below.refl _ _).alloc (Nat.le_refl _) _⟩
    · simp [List.getD_eq_getElem?_getD, hx]
    · simpa [Bl] using hown
  case round =>
    clear hown
    obtain ⟨k, y, Av, m, cv, vs, hk, rfl, rfl, hm, hml, hy, hown, hov, hrows, hbl⟩ := hrel
    by_cases hlt : k < l.length
    · have hc := own_cellB hown k hlt
      rw [hy.out k hlt] at hc
      by_cases hL : Leads l k
      · have hlk : lead l k = k := (leads_iff HINV.out hlt).1 hL
        rw [decide_eq_false (by omega)] at hc
        have hpk := HP.out.below (hbl.mono (Nat.le_refl _))
        have HL := Lib.hid hL
        have HLK := Lib.hid hlk
        clear hL hlk
        go_wp2_with fail
        refine (orbit_p g l b k _ hpk hlt).mono ?_
        rintro e w3 ⟨A3, k3, rfl, hk3, hm3, hown3, hb3⟩
        rw [ofN_len] at hown3 hk3 ⊢
        have hown' := own_below hown hb3
        have hov' := own_below hov hb3
        have hrows' : Hid (RowsOwn w3 (w.heap.size + 1) vs ((leads l k).map (orb l))) := hrows.out.below hb3
        have hG0 := own_block hown
        have hbl3 := hbl.trans (hb3.mono hbl.size)
        clear hrows hown hov hc hpk
        obtain ⟨P, hP⟩ : ∃ P, P = (orb l k).length := ⟨_, rfl⟩
        have hPo : Hid (orb l k = way l k P) := by show _ = _; rw [hP]; unfold orb; rw [way_len]
        have hPle : P ≤ l.length := by rw [hP]; unfold orb; rw [way_len]; exact per_le HINV.out hlt
        have HPP := Lib.hid hP
        rw [← hP] at hown3 hk3 ⊢
        clear hP
        have hsz3 := hb3.size
        go_wp2
        go_loopw [26] (fun i wr => ∃ (j : Nat) (y : List Bool), j ≤ P ∧ i = .int .i64 j ∧ Hid (∀ x, x < l.length → (y.getD x false = true ↔ lead l x < k ∨ x ∈ way l k j)) ∧
          wr.ownsRow w.heap.size 4 1 (.slice (some ⟨w.heap.size, 0, none⟩) l.length l.length) l.length (Bl y) ∧ Mod (· = w.heap.size) w3 wr) (fun i _ => P - (intOf i).toNat)
        case atStart =>
          refine ⟨0, y, by omega, rfl, fun x hx => ?_, hown', Mod.refl _ _⟩
          rw [hy.out x hx]
          simp [way]
        case round =>
          rename_i wr0 _
          clear hown'
          obtain ⟨j, y', hj, rfl, hy', hown', hmd⟩ := hrel
          by_cases hjP : j < P
          · obtain ⟨g3, rfl, hg3, hg3'⟩ := own_some hown3 (by omega)
            have hcx := own_cellI hown3 j hjP
            rw [ofN_get, hPo.out, way_get l k P j hjP] at hcx
            have hcx' := (hmd.cell hg3' (by omega) j).trans hcx
            have hxl := it_lt HINV.out hlt j
            have hcm := own_cellB hown' _ hxl
            have hfm := hown'.frozenAt (it l j k)
            have hyl := own_lenB hown'
            have hset := own_setB hown' (it l j k) true
            have NX : Hid (∀ x, x < l.length → ((y'.set (it l j k) true).getD x false = true ↔ lead l x < k ∨ x ∈ way l k (j + 1))) := fun x hx => by
              rw [getDB_set _ _ _ _ (by rw [hyl]; exact hxl), way_next, List.mem_append]
              by_cases e : x = it l j k
              · subst e; simp
              · rw [if_neg e, hy'.out x hx]
                simp [e]
            have HSET := Lib.hid hset
            clear hset hyl hcx
            generalize it l j k = x at *
            generalize y'.getD x false = yx at hcm
            go_wp2
            go_roundw
            case rel => exact ⟨j + 1, _, by omega, by go_num, NX.out, HSET.out, hmd.setCell (fun _ => rfl) _⟩
            case measure => simp [intOf]; omega
          · obtain rfl : j = P := by omega
            have hovw := own_mod hov' hmd (fun q hq hx => by have := (hov'.lt q hq).1; omega)
            have hrw : RowsOwn wr (w.heap.size + 1) vs ((leads l k).map (orb l)) := hrows'.out.mod hmd (fun A n c xs q ho hq hx => by have := (ho.lt q hq).1; omega)
            have h3w := own_mod hown3 hmd (fun q hq hx => by have := (hown3.lt q hq).1; omega)
            have hszw := hmd.size
            have hblw : Below w.heap.size w wr := hbl3.trans (hmd.belowB (by have := hbl3.size; omega) (fun i hi hx => by omega))
            have hov'' := hovw.alloc (.cells #[.slice A3 j k3] 25)
            have r3 := Rd.new wr 25 #[.slice A3 j k3] 1 [.slice A3 j k3] (by simp) (by simp)
            have t1 : m + 1 ≤ maxLen := by simp only [maxLen]; omega
            have t2 : (m + 1) * 24 ≤ 140737488355328 := by omega
            have t3 : w.heap.size + 1 ≤ (wr.alloc (.cells #[.slice A3 j k3] 25)).heap.size := by have := hblw.size; simp; omega
            have h1s : ∀ u ∈ [Value.slice A3 j k3], u.oneCell' = true := by intro u hu; simp at hu; subst hu; rfl
            clear hov' hown3 hrows' hb3
            go_wp2_with (first
              | (at_builtin; go_must (refine wpList_append_rd _ rfl _ _ 80 rfl (w.heap.size + 1) 25 i0 (.slice none 0 0) 24 Try.underlying80 hi0 hz0 hz1 hz2 rfl (.slice Av m cv) m vs rfl hov'' (wr.heap.size + 1) (some ⟨wr.heap.size, 0, none⟩) 1 1 [.slice A3 j k3] rfl r3 h1s t1 t2 t3 ?_)))
            intro A6 c6 w6 hc6 hm6 hown6 hg6 _
            have m6 := Mod.ofGrown hg6
            have hb5 : Below wr.heap.size wr (wr.alloc (.cells #[.slice A3 j k3] 25)) := (Below.refl _ _).alloc (Nat.le_refl _) _
            have hblF : Below w.heap.size w w6 := (hblw.trans (hb5.mono hblw.size)).trans ((Below.appended hov'' hg6 t3).mono (by omega))
            have hmet : w6.ownsRow w.heap.size 4 1 (.slice (some ⟨w.heap.size, 0, none⟩) l.length l.length) l.length (Bl y') :=
              own_mod (own_below hown' hb5) m6 (fun q hq hx => own_own_ne (own_below hown' hb5) hov'' (by decide) q hq hx.symm)
            have hrF : RowsOwn w6 (w.heap.size + 1) (vs ++ [.slice A3 j k3]) ((leads l (k + 1)).map (orb l)) := by
              have hr5 := (hrw.below hb5).mod m6 (fun A n c xs q ho hq hx => own_own_ne ho hov'' (by decide) q hq hx.symm)
              have h35 := own_mod (own_below h3w hb5) m6 (fun q hq hx => own_own_ne (own_below h3w hb5) hov'' (by decide) q hq hx.symm)
              rw [leads_next, if_pos HL.out, List.map_append]
              have hjl : j = (orb l k).length := HPP.out
              have h35' := h35.base_le' (show w.heap.size + 1 ≤ _ by omega)
              rw [hjl] at h35' ⊢
              exact hr5.snoc (by rw [← hjl]; exact hk3) h35'
            have hmN : m + 1 = (leads l (k + 1)).length := by rw [leads_next, if_pos HL.out, List.length_append, hm.out]; rfl
            have hmL : m + 1 ≤ l.length := by
              rw [hmN]
              have := List.length_filter_le (fun i => decide (Leads l i)) (List.range (k + 1))
              rw [List.length_range] at this
              unfold leads
              omega
            have hyN : ∀ x, x < l.length → y'.getD x false = decide (lead l x < k + 1) := fun x hx => by
              rw [Bool.eq_iff_iff, hy'.out x hx, decide_eq_true_iff, ← hPo.out]
              constructor
              · rintro (h1 | h1)
                · omega
                · have := lead_of_mem HINV.out hlt h1; rw [HLK.out] at this; omega
              · intro h1
                by_cases e : lead l x = k
                · right; exact mem_of_lead HINV.out hx hlt (by rw [e, HLK.out])
                · left; omega
            have HMN := Lib.hid hmN
            clear hmN
            go_wp2
            go_roundw
            case rel => exact ⟨k + 1, y', A6, m + 1, c6, _, by omega, by go_num, rfl, HMN, hmL, hyN, hmet, hown6, hrF, hblF⟩
            case measure => simp [intOf]; omega
      · have hlk : lead l k < k := by
          have := (lead_is HINV.out hlt).1
          have h2 : lead l k ≠ k := fun e => hL ((leads_iff HINV.out hlt).2 e)
          omega
        rw [decide_eq_true hlk] at hc
        have HN : Hid (leads l (k + 1) = leads l k) := by show _ = _; rw [leads_next, if_neg hL, List.append_nil]
        have hyN : Hid (∀ x, x < l.length → y.getD x false = decide (lead l x < k + 1)) := fun x hx => by
          rw [hy.out x hx, decide_eq_decide]
          constructor
          · omega
          · intro h1
            by_cases e : lead l x = k
            · exact absurd (by rw [← e]; exact (lead_is HINV.out hx).2.1) hL
            · omega
        clear hL hlk
        go_wp2
        go_roundw
        case rel => exact ⟨k + 1, y, Av, m, cv, vs, by omega, by go_num, rfl, by rw [HN.out]; exact hm, hml, hyN, hown, hov, by rw [HN.out]; exact hrows, hbl⟩
        case measure => simp [intOf]; omega
    · obtain rfl : k = l.length := by omega
      have ho : (orbits l).length = m := by unfold orbits; rw [List.length_map, hm.out]
      have HO := Lib.hid ho
      clear ho
      have hmc : m ≤ cv := by
        obtain ⟨_, _, e, h1, _⟩ := own_form hov
        simp at e
        omega
      go_wp2
      go_ret
      refine ⟨Av, cv, vs, by rw [HO.out]; rfl, by rw [HO.out]; exact hmc, by rw [HO.out]; exact hov.base_le' (by omega), ?_, hbl⟩
      obtain ⟨r1, r2⟩ := hrows.out
      exact ⟨r1, fun q hq => by
        obtain ⟨A, c, h1, h2, h3⟩ := r2 q hq
        exact ⟨A, c, h1, h2, h3.base_le' (by omega)⟩⟩
end Go.Proofs.Ythbhbcakiaaapaa
