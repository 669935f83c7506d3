/- The places of orbits, as the program and as the document tell them. -/
import Derived.Test.YthbhbcakiaaapaaPOrbits
namespace Go.Proofs.Ythbhbcakiaaapaa
set_option maxRecDepth 20000
open Go.RowKit
set_option linter.unusedVariables false

theorem getD_mem (L : List Nat) (j : Nat) (hj : j < L.length) : L.getD j 0 ∈ L := by
  rw [List.getD_eq_getElem?_getD, List.getElem?_eq_getElem hj]; exact List.getElem_mem _
theorem orbits_get (l : List Nat) (k : Nat) (hk : k < (orbits l).length) : (orbits l).getD k [] = orb l ((leads l l.length).getD k 0) := by
  unfold orbits at *
  rw [List.length_map] at hk
  simp [List.getD_eq_getElem?_getD, List.getElem?_eq_getElem hk]
theorem lead_get {l : List Nat} {k : Nat} (hk : k < (orbits l).length) : (leads l l.length).getD k 0 < l.length ∧ Leads l ((leads l l.length).getD k 0) := by
  unfold orbits at hk
  rw [List.length_map] at hk
  have : (leads l l.length).getD k 0 ∈ leads l l.length := by
    rw [List.getD_eq_getElem?_getD, List.getElem?_eq_getElem hk]; exact List.getElem_mem _
  exact mem_leads.1 this
theorem name_row {l b : List Nat} (h : Inv l b) {k x : Nat} (hk : k < (orbits l).length) (hx : x < l.length) : nameOf l x = k ↔ x ∈ (orbits l).getD k [] := by
  rw [orbits_get l k hk]
  obtain ⟨h1, h2⟩ := lead_get hk
  have hp := leads_place l l.length k (by unfold orbits at hk; rwa [List.length_map] at hk)
  constructor
  · intro e
    have h3 := lead_is h hx
    have : lead l x = (leads l l.length).getD k 0 := by
      unfold nameOf at e
      rcases Nat.lt_trichotomy (lead l x) ((leads l l.length).getD k 0) with h4 | h4 | h4
      · have := leads_lt l _ _ h3.2.1 h4; omega
      · exact h4
      · have := leads_lt l _ _ h2 h4; omega
    rw [← this]; exact h3.2.2
  · intro hm
    unfold nameOf
    rw [lead_eq h hx h1 h2 hm]
    exact hp
theorem name_lt {l b : List Nat} (h : Inv l b) {x : Nat} (hx : x < l.length) : nameOf l x < (orbits l).length := by
  unfold orbits
  rw [List.length_map]
  have := lead_is h hx
  exact leads_lt l _ _ this.2.1 (by omega)

set_option maxHeartbeats 2000000 in
theorem names_p (g : Nat) (l b : List Nat) (w : World) (h : PermAt w g l b) :
    Calls Try.prog 80 #[.pointer (some ⟨g, 0, none⟩)] w (NewI64 w (ofN (names l))) := by
  have hinv := h.1
  have hl := h.2.1
  have HP := Lib.hid h
  have LP := Lib.hid (len_p g l b w h)
  obtain ⟨i0, hi0, hz0, hz1, hz2⟩ := info_parts info_int
  have hmk := run_make_one (P := Try.prog) 25 3 i0 (.int .i64 0) 8 Try.underlying25 hi0 hz0 hz1 hz2 rfl .i64 .i64 l.length (by omega) (by omega)
  have hown := own_made w 3 l.length (.int .i64 0) (by simp only [maxLen]; omega)
  rw [← I64_replicate] at hown
  have HINV := Lib.hid hinv
  clear h hinv
  have hb1 : Below w.heap.size w (w.alloc (.cells (List.replicate l.length (Value.int .i64 0)).toArray 3)) := (Below.refl _ _).alloc (Nat.le_refl _) _
  have hpw : PermAt (w.alloc (.cells (Array.replicate l.length (Value.int .i64 0)) 3)) g l b := by
    have := HP.out.below hb1
    simpa using this
  have HPw := Lib.hid hpw
  clear hpw
  have hown1 : (w.alloc (.cells (Array.replicate l.length (Value.int .i64 0)) 3)).ownsRow w.heap.size 3 1 (.slice (some ⟨w.heap.size, 0, none⟩) l.length l.length) l.length (I64 (List.replicate l.length 0)) := by
    simpa [I64] using hown
  have hb1' : Below w.heap.size w (w.alloc (.cells (Array.replicate l.length (Value.int .i64 0)) 3)) := by simpa using hb1
  clear hown hb1
  go_enter Try.func80, Try.ntmps80
  go_wp2_with (go_at_call 51; refine LP.out.mono ?_; rintro e w' ⟨rfl, rfl⟩)
  refine (orbits_p g l b _ HPw.out).mono ?_
  rintro e w2 ⟨Ao, co, vs, rfl, hco, hov, hrows, hb2⟩
  have hown2 := own_below hown1 hb2
  have hbl2 := hb1'.trans (hb2.mono (by simp))
  have HM : Hid (∀ x, x < l.length → nameOf l x < (orbits l).length) := fun x hx => name_lt HINV.out hx
  have HR : Hid (∀ k x, k < (orbits l).length → x < l.length → (nameOf l x = k ↔ x ∈ (orbits l).getD k [])) := fun k x hk hx => name_row HINV.out hk hx
  have HLT : Hid (∀ k, k < (orbits l).length → ∀ j, j < ((orbits l).getD k []).length → ((orbits l).getD k []).getD j 0 < l.length ∧ ((orbits l).getD k []).getD j 0 ∈ (orbits l).getD k []) := fun k hk j hj => by
    rw [orbits_get l k hk] at hj ⊢
    have hm := getD_mem _ j hj
    exact ⟨orb_lt HINV.out (lead_get hk).1 hm, hm⟩
  have HLEN : Hid (∀ k, k < (orbits l).length → ((orbits l).getD k []).length ≤ l.length) := fun k hk => by
    rw [orbits_get l k hk]; unfold orb; rw [way_len]; exact per_le HINV.out (lead_get hk).1
  have hsz2 := hb2.size
  rw [World.size_alloc] at hsz2
  have hosz : (orbits l).length ≤ l.length := by
    unfold orbits leads
    rw [List.length_map]
    have := List.length_filter_le (fun i => decide (Leads l i)) (List.range l.length)
    rw [List.length_range] at this
    exact this
  have HROWS := Lib.hid hrows
  clear hrows hown1 hb1' hb2
  generalize orbits l = os at *
  generalize hmm : os.length = m at *
  have HMM := Lib.hid hmm
  clear hmm
  rw [World.size_alloc] at hov HROWS
  go_wp2
  go_loopw [14] (fun i wr => ∃ (k : Nat) (y : List Int), k ≤ m ∧ i = .int .i64 k ∧ Hid (∀ x, x < l.length → nameOf l x < k → y.getD x 0 = ((nameOf l x : Nat) : Int)) ∧
    wr.ownsRow w.heap.size 3 1 (.slice (some ⟨w.heap.size, 0, none⟩) l.length l.length) l.length (I64 y) ∧ Mod (· = w.heap.size) w2 wr) (fun i _ => m - (intOf i).toNat)
  case atStart =>
    exact ⟨0, List.replicate l.length 0, by omega, rfl, fun x hx h => absurd h (by omega), hown2, Mod.refl _ _⟩
  case round =>
    clear hown2
    obtain ⟨k, y, hk, rfl, hy, hown, hmd⟩ := hrel
    by_cases hlt : k < m
    · obtain ⟨go, rfl, hgo, hgo'⟩ := own_some hov (by omega)
      obtain ⟨Ar, cr, hv, hcr, hor⟩ := HROWS.out.2 k (by rw [HMM.out]; exact hlt)
      have hvc : w2.cell? ⟨go, k, none⟩ = some (.slice Ar (os.getD k []).length cr) := by rw [hov.cellAt k (by omega)]; exact hv
      have hvr := (hmd.cell hgo' (by omega) k).trans hvc
      have horr := own_mod hor hmd (fun q hq hx => by have := (hor.lt q hq).1; omega)
      have HRk := Lib.hid (HR.out k)
      have HLk := Lib.hid (HLT.out k hlt)
      have hPle := HLEN.out k hlt
      clear hv hvc hor
      generalize os.getD k [] = row at *
      obtain ⟨P, hP⟩ : ∃ P, P = row.length := ⟨_, rfl⟩
      have HPR := Lib.hid hP
      have horr' : wr.ownsRow (w.heap.size + 1) 3 1 (.slice Ar P cr) P (I64 (ofN row)) := by rw [hP]; exact horr
      rw [← hP] at hvr hPle
      clear hP horr
      obtain ⟨wo, hwo⟩ : ∃ wo : World, wo = wr := ⟨_, rfl⟩
      have hmd' : Mod (· = w.heap.size) w2 wo := hwo ▸ hmd
      have hszr := hmd.size
      subst hwo
      go_wp2
      go_loopw [21] (fun i wr => ∃ (j : Nat) (y : List Int), j ≤ P ∧ i = .int .i64 j ∧ Hid (∀ x, x < l.length → (nameOf l x < k ∨ ∃ q, q < j ∧ row.getD q 0 = x) → y.getD x 0 = ((nameOf l x : Nat) : Int)) ∧
        wr.ownsRow w.heap.size 3 1 (.slice (some ⟨w.heap.size, 0, none⟩) l.length l.length) l.length (I64 y) ∧ wr.ownsRow (w.heap.size + 1) 3 1 (.slice Ar P cr) P (I64 (ofN row)) ∧ Mod (· = w.heap.size) w2 wr) (fun i _ => P - (intOf i).toNat)
      case atStart => exact ⟨0, y, by omega, rfl, fun x hx h => hy.out x hx (by rcases h with h | ⟨q, hq, _⟩ <;> omega), hown, horr', hmd⟩
      case round =>
        clear hown horr' hmd hvr
        obtain ⟨j, y', hj, rfl, hy', hown, horr, hmd⟩ := hrel
        by_cases hjP : j < P
        · obtain ⟨gr, rfl, hgr, hgr'⟩ := own_some horr (by omega)
          have hcx := own_cellI horr j hjP
          rw [ofN_get] at hcx
          obtain ⟨hxl, hxm⟩ := HLk.out j (by rw [← HPR.out]; exact hjP)
          have hname := (HRk.out _ (by omega) hxl).2 hxm
          have hcm := own_cellI hown _ hxl
          have hfm := hown.frozenAt (row.getD j 0)
          have hyl := own_lenI hown
          have hset := own_setI hown (row.getD j 0) (k : Int)
          have hor2 : (wr.setCell ⟨w.heap.size, row.getD j 0, none⟩ (.int .i64 (k : Int))).ownsRow (w.heap.size + 1) 3 1 (.slice (some ⟨gr, 0, none⟩) P cr) P (I64 (ofN row)) :=
            own_mod (S := fun q => q = w.heap.size) horr ((Mod.refl (fun q => q = w.heap.size) wr).setCell (p := ⟨w.heap.size, row.getD j 0, none⟩) (fun _ => rfl) _) (fun q hq hx => by simp [Value.ownBlock] at hq; omega)
          have NX : Hid (∀ x, x < l.length → (nameOf l x < k ∨ ∃ q, q < j + 1 ∧ row.getD q 0 = x) → (y'.set (row.getD j 0) (k : Int)).getD x 0 = ((nameOf l x : Nat) : Int)) := fun x hx h => by
            rw [getDI_set _ _ _ _ (by rw [hyl]; exact hxl)]
            by_cases e : x = row.getD j 0
            · rw [if_pos e, e, hname]
            · rw [if_neg e]
              refine hy'.out x hx ?_
              rcases h with h | ⟨q, hq, hqx⟩
              · exact .inl h
              · refine .inr ⟨q, ?_, hqx⟩
                by_cases e2 : q = j
                · subst e2; exact absurd hqx.symm e
                · omega
          have HSET := Lib.hid hset
          have HOR2 := Lib.hid hor2
          clear hset hor2 hyl hxm hname
          generalize row.getD j 0 = x at *
          generalize y'.getD x 0 = yx at hcm
          go_wp2
          go_roundw
          case rel => exact ⟨j + 1, _, by omega, by go_num, NX.out, HSET.out, HOR2.out, hmd.setCell (fun _ => rfl) _⟩
          case measure => simp [intOf]; omega
        · obtain rfl : j = P := by omega
          have NX : Hid (∀ x, x < l.length → nameOf l x < k + 1 → y'.getD x 0 = ((nameOf l x : Nat) : Int)) := fun x hx h => by
            refine hy'.out x hx ?_
            by_cases e : nameOf l x = k
            · right
              have hm := (HRk.out x (by omega) hx).1 e
              obtain ⟨q, hq, hqx⟩ := List.getElem_of_mem hm
              exact ⟨q, by rw [HPR.out]; exact hq, by rw [List.getD_eq_getElem?_getD, List.getElem?_eq_getElem hq]; exact hqx⟩
            · left; omega
          go_wp2
          go_roundw
          case rel => exact ⟨k + 1, y', by omega, by go_num, NX.out, hown, hmd⟩
          case measure => simp [intOf]; omega
    · obtain rfl : k = m := by omega
      have hyl := own_lenI hown
      have hfin : Hid (y = ofN (names l)) := getDI_ext (by rw [hyl, ofN_len, names_len]) fun x hx => by
        rw [hyl] at hx
        rw [hy.out x hx (HM.out x hx), ofN_get, names_get l x hx]
      clear hyl
      go_wp2
      go_ret
      refine .mk rfl ?_ (hbl2.trans (hmd.belowB (by omega) (fun i hi hx => by omega)))
      rw [ofN_len, names_len, ← hfin.out]
      exact hown
end Go.Proofs.Ythbhbcakiaaapaa
