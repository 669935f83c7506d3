/- The document's own answers on permutations. -/
import Derived.Test.YthbhbcakiaaapaaPNames
namespace Go.Proofs.Ythbhbcakiaaapaa
set_option maxRecDepth 20000
open Go.RowKit
set_option linter.unusedVariables false

set_option maxHeartbeats 1000000 in
theorem rinverse_p (A : Option Addr) (c B : Nat) (l b : List Nat) (w : World) (h1 : Rd w B A l.length (I64 (ofN l))) (hinv : Inv l b) (hl : l.length ≤ 1000000) :
    Calls Try.prog 48 #[.slice A l.length c] w (NewI64 w (ofN b)) := by
  obtain ⟨i0, hi0, hz0, hz1, hz2⟩ := info_parts info_int
  have hmk := run_make_one (P := Try.prog) 25 3 i0 (.int .i64 0) 8 Try.underlying25 hi0 hz0 hz1 hz2 rfl .i64 .i64 l.length (by omega) (by omega)
  have hown := own_made w 3 l.length (.int .i64 0) (by simp only [maxLen]; omega)
  rw [← I64_replicate] at hown
  have HINV := Lib.hid hinv
  have h1l := h1.lt
  clear hinv h1
  go_enter Try.func48, Try.ntmps48
  go_wp2
  go_loopw [11] (fun i wr => ∃ (k : Nat) (y : List Int), k ≤ l.length ∧ i = .int .i64 k ∧ Hid (∀ j, j < k → y.getD (l.getD j 0) 0 = (j : Int)) ∧ wr.ownsRow w.heap.size 3 1 (.slice (some ⟨w.heap.size, 0, none⟩) l.length l.length) l.length (I64 y) ∧ Below w.heap.size w wr) (fun i _ => l.length - (intOf i).toNat)
  case atStart =>
    refine ⟨0, List.replicate l.length 0, by omega, rfl, fun j hj => absurd hj (by omega), ?_, (Below.refl _ _).alloc (Nat.le_refl _) _⟩
    simpa [I64] using hown
  case round =>
    clear hown
    obtain ⟨k, y, hk, rfl, hy, hown, hbl⟩ := hrel
    have hyl := own_lenI hown
    have HYL := Lib.hid hyl
    clear hyl
    by_cases hlt : k < l.length
    · obtain ⟨ba, o, rfl, hba, hc⟩ := h1l.i64 (by omega)
      have hck := hc k hlt
      rw [ofN_get] at hck
      have hck' := (hbl.cell (p := ⟨ba, o + k, none⟩) hba).trans hck
      have hx := HINV.out.lt k hlt
      have hcx := own_cellI hown _ hx
      have hfx := hown.frozenAt (l.getD k 0)
      have NX : Hid (∀ j, j < k + 1 → (y.set (l.getD k 0) (k : Int)).getD (l.getD j 0) 0 = (j : Int)) := fun j hj => by
        rw [getDI_set _ _ _ _ (by rw [HYL.out]; exact hx)]
        by_cases e : j = k
        · subst e; rw [if_pos rfl]
        · rw [if_neg (fun e2 => e (HINV.out.inj j k (by omega) hlt e2))]
          exact hy.out j (by omega)
      have HS := Lib.hid (own_setI hown (l.getD k 0) (k : Int))
      clear hc hck
      generalize l.getD k 0 = x at *
      generalize y.getD x 0 = yx at hcx
      go_wp2
      go_roundw
      case rel => exact ⟨k + 1, _, by omega, by go_num, NX.out, HS.out, hbl.setCell (Nat.le_refl _) _⟩
      case measure => simp [intOf]; omega
    · obtain rfl : k = l.length := by omega
      have hfin : Hid (y = ofN b) := getDI_ext (by rw [HYL.out, ofN_len, HINV.out.len]) fun v hv => by
        rw [HYL.out] at hv
        rw [ofN_get]
        have := hy.out (b.getD v 0) (HINV.out.lt' v hv)
        rwa [HINV.out.bl v hv] at this
      go_wp2
      go_ret
      refine .mk rfl ?_ hbl
      rw [ofN_len, HINV.out.len, ← hfin.out]
      exact hown

set_option maxHeartbeats 2000000 in
theorem rnames_p (A : Option Addr) (c B : Nat) (l b : List Nat) (w : World) (h1 : Rd w B A l.length (I64 (ofN l))) (hinv : Inv l b) (hl : l.length ≤ 1000000) :
    Calls Try.prog 38 #[.slice A l.length c] w (NewI64 w (ofN (names l))) := by
  obtain ⟨i0, hi0, hz0, hz1, hz2⟩ := info_parts info_int
  have hmk := run_make_one (P := Try.prog) 25 3 i0 (.int .i64 0) 8 Try.underlying25 hi0 hz0 hz1 hz2 rfl .i64 .i64 l.length (by omega) (by omega)
  have hown := own_made w 3 l.length (.int .i64 0) (by simp only [maxLen]; omega)
  rw [← I64_replicate] at hown
  have HINV := Lib.hid hinv
  have h1l := h1.lt
  clear hinv h1
  go_enter Try.func38, Try.ntmps38
  go_wp2
  go_loopw [14] (fun i wr => ∃ (k : Nat) (y : List Int), k ≤ l.length ∧ i = .int .i64 k ∧ Hid (∀ j, j < k → y.getD j 0 = -1) ∧ wr.ownsRow w.heap.size 3 1 (.slice (some ⟨w.heap.size, 0, none⟩) l.length l.length) l.length (I64 y) ∧ Below w.heap.size w wr) (fun i _ => l.length - (intOf i).toNat)
  case atStart =>
    refine ⟨0, List.replicate l.length 0, by omega, rfl, fun j hj => absurd hj (by omega), ?_, (Below.refl _ _).alloc (Nat.le_refl _) _⟩
    simpa [I64] using hown
  case round =>
    clear hown
    obtain ⟨k, y, hk, rfl, hy, hown, hbl⟩ := hrel
    have hyl := own_lenI hown
    have HYL := Lib.hid hyl
    clear hyl
    by_cases hlt : k < l.length
    · have hc := own_cellI hown k hlt
      have hf := hown.frozenAt k
      generalize y.getD k 0 = yk at hc
      go_wp2
      go_roundw
      case rel =>
        refine ⟨k + 1, y.set k (-1), by omega, by go_num, fun j hj => ?_, own_setI hown k _, hbl.setCell (Nat.le_refl _) _⟩
        rw [getDI_set _ _ _ _ (by rw [HYL.out]; exact hlt)]
        by_cases e : j = k
        · rw [if_pos e]
        · rw [if_neg e]; exact hy.out j (by omega)
      case measure => simp [intOf]; omega
    · obtain rfl : k = l.length := by omega
      obtain ⟨wo, rfl⟩ : ∃ wo : World, wo = wr := ⟨_, rfl⟩
      go_wp2
      go_loopw [5, 23] (fun v i wr => ∃ (k m : Nat) (y : List Int), k ≤ l.length ∧ i = .int .i64 k ∧ v = .int .i64 m ∧ Hid (m = (leads l k).length) ∧ m ≤ k ∧ Hid (∀ x, x < l.length → y.getD x 0 = if lead l x < k then ((nameOf l x : Nat) : Int) else -1) ∧
        wr.ownsRow w.heap.size 3 1 (.slice (some ⟨w.heap.size, 0, none⟩) l.length l.length) l.length (I64 y) ∧ Below w.heap.size w wr) (fun _ i _ => l.length - (intOf i).toNat)
      case atStart => exact ⟨0, 0, y, by omega, rfl, rfl, by show _ = _; simp [leads], by omega, fun x hx => by rw [hy.out x hx]; simp, hown, hbl⟩
      case round =>
        clear hown hy hbl hlt hk HYL
        obtain ⟨k, m, y, hk, rfl, rfl, hm, hmk2, hy, hown, hbl⟩ := hrel
        by_cases hlt : k < l.length
        · have hc := own_cellI hown k hlt
          rw [hy.out k hlt] at hc
          by_cases hL : Leads l k
          · have hlk : lead l k = k := (leads_iff HINV.out hlt).1 hL
            rw [if_neg (by omega)] at hc
            have HL := Lib.hid hL
            have HLK := Lib.hid hlk
            clear hL hlk
            have hrd := h1l.below hbl
            go_wp2_with fail
            refine (rorbit_p A c _ l b k _ hrd HINV.out hl hlt).mono ?_
            rintro e w3 ⟨A3, k3, rfl, hk3, hm3, hown3, hb3⟩
            rw [ofN_len] at hown3 hk3 ⊢
            have hown' := own_below hown hb3
            have hG0 := own_block hown
            have hbl3 := hbl.trans (hb3.mono hbl.size)
            clear hown hc hrd
            obtain ⟨P, hP⟩ : ∃ P, P = (orb l k).length := ⟨_, rfl⟩
            have hPo : Hid (orb l k = way l k P) := by show _ = _; rw [hP]; unfold orb; rw [way_len]
            have hPle : P ≤ l.length := by rw [hP]; unfold orb; rw [way_len]; exact per_le HINV.out hlt
            rw [← hP] at hown3 hk3 ⊢
            clear hP
            have hnm : Hid (∀ x, x < l.length → x ∈ orb l k → nameOf l x = m) := fun x hx hxm => by
              unfold nameOf
              rw [lead_of_mem HINV.out hlt hxm, HLK.out, hm.out]
            go_wp2
            go_loopw [35] (fun i wr => ∃ (j : Nat) (y : List Int), j ≤ P ∧ i = .int .i64 j ∧ Hid (∀ x, x < l.length → (x ∈ way l k j → y.getD x 0 = (m : Int)) ∧ (x ∉ way l k j → y.getD x 0 = if lead l x < k then ((nameOf l x : Nat) : Int) else -1)) ∧
              wr.ownsRow w.heap.size 3 1 (.slice (some ⟨w.heap.size, 0, none⟩) l.length l.length) l.length (I64 y) ∧ Mod (· = w.heap.size) w3 wr) (fun i _ => P - (intOf i).toNat)
            case atStart => exact ⟨0, y, by omega, rfl, fun x hx => ⟨fun h => by simp [way] at h, fun _ => hy.out x hx⟩, hown', Mod.refl _ _⟩
            case round =>
              clear hown'
              obtain ⟨j, y', hj, rfl, hy', hown', hmd⟩ := hrel
              by_cases hjP : j < P
              · obtain ⟨g3, rfl, hg3, hg3'⟩ := own_some hown3 (by omega)
                have hcx := own_cellI hown3 j hjP
                rw [ofN_get, hPo.out, way_get l k P j hjP] at hcx
                have hcx' := (hmd.cell hg3' (by omega) j).trans hcx
                have hxl := it_lt HINV.out hlt j
                have hcm := own_cellI hown' _ hxl
                have hfm := hown'.frozenAt (it l j k)
                have hyl := own_lenI hown'
                have NX : Hid (∀ x, x < l.length → (x ∈ way l k (j + 1) → (y'.set (it l j k) (m : Int)).getD x 0 = (m : Int)) ∧ (x ∉ way l k (j + 1) → (y'.set (it l j k) (m : Int)).getD x 0 = if lead l x < k then ((nameOf l x : Nat) : Int) else -1)) := fun x hx => by
                  rw [getDI_set _ _ _ _ (by rw [hyl]; exact hxl), way_next, List.mem_append]
                  by_cases e : x = it l j k
                  · subst e; simp
                  · rw [if_neg e]
                    constructor
                    · rintro (h | h)
                      · exact (hy'.out x hx).1 h
                      · simp at h; exact absurd h e
                    · intro h
                      exact (hy'.out x hx).2 (fun h' => h (.inl h'))
                have HS := Lib.hid (own_setI hown' (it l j k) (m : Int))
                clear hcx hyl
                generalize it l j k = x at *
                generalize y'.getD x 0 = yx at hcm
                go_wp2
                go_roundw
                case rel => exact ⟨j + 1, _, by omega, by go_num, NX.out, HS.out, hmd.setCell (fun _ => rfl) _⟩
                case measure => simp [intOf]; omega
              · obtain rfl : j = P := by omega
                have hszb := hbl3.size
                have hblF : Below w.heap.size w wr := hbl3.trans (hmd.belowB (by omega) (fun i hi hx => by omega))
                have NX : Hid (∀ x, x < l.length → y'.getD x 0 = if lead l x < k + 1 then ((nameOf l x : Nat) : Int) else -1) := fun x hx => by
                  by_cases e : x ∈ orb l k
                  · have e2 := e
                    rw [hPo.out] at e2
                    rw [(hy'.out x hx).1 e2, if_pos (by rw [lead_of_mem HINV.out hlt e, HLK.out]; omega), hnm.out x hx e]
                  · have e2 := e
                    rw [hPo.out] at e2
                    rw [(hy'.out x hx).2 e2]
                    have hne : lead l x ≠ k := fun h => e (mem_of_lead HINV.out hx hlt (by rw [h, HLK.out]))
                    by_cases e3 : lead l x < k
                    · rw [if_pos e3, if_pos (by omega)]
                    · rw [if_neg e3, if_neg (by omega)]
                have HMN : Hid (m + 1 = (leads l (k + 1)).length) := by show _ = _; rw [leads_next, if_pos HL.out, List.length_append, hm.out]; rfl
                go_wp2
                go_roundw
                case rel => exact ⟨k + 1, m + 1, y', by omega, by go_num, by go_num, HMN.out, by omega, NX.out, hown', hblF⟩
                case measure => simp [intOf]; omega
          · have hlk : lead l k < k := by
              have := (lead_is HINV.out hlt).1
              have h2 : lead l k ≠ k := fun e => hL ((leads_iff HINV.out hlt).2 e)
              omega
            rw [if_pos hlk] at hc
            have HN : Hid (leads l (k + 1) = leads l k) := by show _ = _; rw [leads_next, if_neg hL, List.append_nil]
            have NX : Hid (∀ x, x < l.length → y.getD x 0 = if lead l x < k + 1 then ((nameOf l x : Nat) : Int) else -1) := fun x hx => by
              rw [hy.out x hx]
              have hne : lead l x ≠ k := fun h => hL (by rw [← h]; exact (lead_is HINV.out hx).2.1)
              by_cases e3 : lead l x < k
              · rw [if_pos e3, if_pos (by omega)]
              · rw [if_neg e3, if_neg (by omega)]
            have hpos : (0 : Int) ≤ ((nameOf l k : Nat) : Int) := by omega
            clear hL hlk
            generalize nameOf l k = nk at *
            go_wp2
            go_roundw
            case rel => exact ⟨k + 1, m, y, by omega, by go_num, rfl, by rw [HN.out]; exact hm, by omega, NX.out, hown, hbl⟩
            case measure => simp [intOf]; omega
        · obtain rfl : k = l.length := by omega
          have hyl := own_lenI hown
          have hfin : Hid (y = ofN (names l)) := getDI_ext (by rw [hyl, ofN_len, names_len]) fun x hx => by
            rw [hyl] at hx
            rw [hy.out x hx, ofN_get, names_get l x hx, if_pos (by have := (lead_is HINV.out hx).1; omega)]
          clear hyl
          go_wp2
          go_ret
          refine .mk rfl ?_ hbl
          rw [ofN_len, names_len, ← hfin.out]
          exact hown
end Go.Proofs.Ythbhbcakiaaapaa
