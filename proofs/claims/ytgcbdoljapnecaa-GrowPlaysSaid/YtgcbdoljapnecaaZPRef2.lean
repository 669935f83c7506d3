/- The document's own answers on permutations. The document's own answers on permutations, more: how many orbits; the least of a list; a permutation by swaps. -/
import Derived.Test.YtgcbdoljapnecaaZPNames
namespace Go.Proofs.Ytgcbdoljapnecaa
set_option maxRecDepth 20000
open Go.RowKit
set_option linter.unusedVariables false

set_option maxHeartbeats 1000000 in
theorem rinverse_p (A : Option Addr) (c B : Nat) (l b : List Nat) (w : World) (h1 : Rd w B A l.length (I64 (ofN l))) (hinv : Inv l b) (hl : l.length ≤ 1000000) :
    Calls Try.prog 34 #[.slice A l.length c] w (NewI64 w (ofN b)) := by
  obtain ⟨i0, hi0, hz0, hz1, hz2⟩ := info_parts info_int
  have hmk := run_make_one (P := Try.prog) 25 3 i0 (.int .i64 0) 8 Try.underlying25 hi0 hz0 hz1 hz2 rfl .i64 .i64 l.length (by omega) (by omega)
  have hown := own_made w 3 l.length (.int .i64 0) (by simp only [maxLen]; omega)
  rw [← I64_replicate] at hown
  have HINV := Lib.hid hinv
  have h1l := h1.lt
  clear hinv h1
  go_enter Try.func34, Try.ntmps34
  go_wp2
  go_loopw [11] (fun i wr => ∃ (k : Nat) (y : List Int), k ≤ l.length ∧ i = .int .i64 k ∧ Hid (∀ j, j < k → y.getD (l.getD j 0) 0 = (j : Int)) ∧ wr.ownsRow w.heap.size 3 1 (.slice (some ⟨w.heap.size, 0, none⟩) l.length l.length) l.length (I64 y) ∧ Below w.heap.size w wr) (fun i _ => l.length - (intOf i).toNat)
  case atStart =>
    refine ⟨0, List.replicate l.length 0, by omega, rfl, fun j hj => absurd hj (by omega), ?_, (Below.refl _ _).alloc (Nat.le_refl _) _⟩
    simpa [I64] using hown
  case round =>
    clear hown
    obtain ⟨k, y, hk, rfl, hy, hown, hbl⟩ := hrel
    have hyl := own_lenI hown
    have HYL := Lib.hid hyl
    clear hyl
    by_cases hlt : k < l.length
    · obtain ⟨ba, o, rfl, hba, hc⟩ := h1l.i64 (by omega)
      have hck := hc k hlt
      rw [ofN_get] at hck
      have hck' := (hbl.cell (p := ⟨ba, o + k, none⟩) hba).trans hck
      have hx := HINV.out.lt k hlt
      have hcx := own_cellI hown _ hx
      have hfx := hown.frozenAt (l.getD k 0)
      have NX : Hid (∀ j, j < k + 1 → (y.set (l.getD k 0) (k : Int)).getD (l.getD j 0) 0 = (j : Int)) := fun j hj => by
        rw [getDI_set _ _ _ _ (by rw [HYL.out]; exact hx)]
        by_cases e : j = k
        · subst e; rw [if_pos rfl]
        · rw [if_neg (fun e2 => e (HINV.out.inj j k (by omega) hlt e2))]
          exact hy.out j (by omega)
      have HS := Lib.hid (own_setI hown (l.getD k 0) (k : Int))
      clear hc hck
      generalize l.getD k 0 = x at *
      generalize y.getD x 0 = yx at hcx
      go_wp2
      go_roundw
      case rel => exact ⟨k + 1, _, by omega, by go_num, NX.out, HS.out, hbl.setCell (Nat.le_refl _) _⟩
      case measure => simp [intOf]; omega
    · obtain rfl : k = l.length := by omega
      have hfin : Hid (y = ofN b) := getDI_ext (by rw [HYL.out, ofN_len, HINV.out.len]) fun v hv => by
        rw [HYL.out] at hv
        rw [ofN_get]
        have := hy.out (b.getD v 0) (HINV.out.lt' v hv)
        rwa [HINV.out.bl v hv] at this
      go_wp2
      go_ret
      refine .mk rfl ?_ hbl
      rw [ofN_len, HINV.out.len, ← hfin.out]
      exact hown

set_option maxHeartbeats 2000000 in
theorem rnames_p (A : Option Addr) (c B : Nat) (l b : List Nat) (w : World) (h1 : Rd w B A l.length (I64 (ofN l))) (hinv : Inv l b) (hl : l.length ≤ 1000000) :
    Calls Try.prog 33 #[.slice A l.length c] w (NewI64 w (ofN (names l))) := by
  obtain ⟨i0, hi0, hz0, hz1, hz2⟩ := info_parts info_int
  have hmk := run_make_one (P := Try.prog) 25 3 i0 (.int .i64 0) 8 Try.underlying25 hi0 hz0 hz1 hz2 rfl .i64 .i64 l.length (by omega) (by omega)
  have hown := own_made w 3 l.length (.int .i64 0) (by simp only [maxLen]; omega)
  rw [← I64_replicate] at hown
  have HINV := Lib.hid hinv
  have h1l := h1.lt
  clear hinv h1
  go_enter Try.func33, Try.ntmps33
  go_wp2
  go_loopw [14] (fun i wr => ∃ (k : Nat) (y : List Int), k ≤ l.length ∧ i = .int .i64 k ∧ Hid (∀ j, j < k → y.getD j 0 = -1) ∧ wr.ownsRow w.heap.size 3 1 (.slice (some ⟨w.heap.size, 0, none⟩) l.length l.length) l.length (I64 y) ∧ Below w.heap.size w wr) (fun i _ => l.length - (intOf i).toNat)
  case atStart =>
    refine ⟨0, List.replicate l.length 0, by omega, rfl, fun j hj => absurd hj (by omega), ?_, (Below.refl _ _).alloc (Nat.le_refl _) _⟩
    simpa [I64] using hown
  case round =>
    clear hown
    obtain ⟨k, y, hk, rfl, hy, hown, hbl⟩ := hrel
    have hyl := own_lenI hown
    have HYL := Lib.hid hyl
    clear hyl
    by_cases hlt : k < l.length
    · have hc := own_cellI hown k hlt
      have hf := hown.frozenAt k
      generalize y.getD k 0 = yk at hc
      go_wp2
      go_roundw
      case rel =>
        refine ⟨k + 1, y.set k (-1), by omega, by go_num, fun j hj => ?_, own_setI hown k _, hbl.setCell (Nat.le_refl _) _⟩
        rw [getDI_set _ _ _ _ (by rw [HYL.out]; exact hlt)]
        by_cases e : j = k
        · rw [if_pos e]
        · rw [if_neg e]; exact hy.out j (by omega)
      case measure => simp [intOf]; omega
    · obtain rfl : k = l.length := by omega
      obtain ⟨wo, rfl⟩ : ∃ wo : World, wo = wr := ⟨_, rfl⟩
      go_wp2
      go_loopw [5, 23] (fun v i wr => ∃ (k m : Nat) (y : List Int), k ≤ l.length ∧ i = .int .i64 k ∧ v = .int .i64 m ∧ Hid (m = (leads l k).length) ∧ m ≤ k ∧ Hid (∀ x, x < l.length → y.getD x 0 = if lead l x < k then ((nameOf l x : Nat) : Int) else -1) ∧
        wr.ownsRow w.heap.size 3 1 (.slice (some ⟨w.heap.size, 0, none⟩) l.length l.length) l.length (I64 y) ∧ Below w.heap.size w wr) (fun _ i _ => l.length - (intOf i).toNat)
      case atStart => exact ⟨0, 0, y, by omega, rfl, rfl, by show _ = _; simp [leads], by omega, fun x hx => by rw [hy.out x hx]; simp, hown, hbl⟩
      case round =>
        clear hown hy hbl hlt hk HYL
        obtain ⟨k, m, y, hk, rfl, rfl, hm, hmk2, hy, hown, hbl⟩ := hrel
        by_cases hlt : k < l.length
        · have hc := own_cellI hown k hlt
          rw [hy.out k hlt] at hc
          by_cases hL : Leads l k
          · have hlk : lead l k = k := (leads_iff HINV.out hlt).1 hL
            rw [if_neg (by omega)] at hc
            have HL := Lib.hid hL
            have HLK := Lib.hid hlk
            clear hL hlk
            have hrd := h1l.below hbl
            go_wp2_with fail
            refine (rorbit_p A c _ l b k _ hrd HINV.out hl hlt).mono ?_
            rintro e w3 ⟨A3, k3, rfl, hk3, hm3, hown3, hb3⟩
            rw [ofN_len] at hown3 hk3 ⊢
            have hown' := own_below hown hb3
            have hG0 := own_block hown
            have hbl3 := hbl.trans (hb3.mono hbl.size)
            clear hown hc hrd
            obtain ⟨P, hP⟩ : ∃ P, P = (orb l k).length := ⟨_, rfl⟩
            have hPo : Hid (orb l k = way l k P) := by show _ = _; rw [hP]; unfold orb; rw [way_len]
            have hPle : P ≤ l.length := by rw [hP]; unfold orb; rw [way_len]; exact per_le HINV.out hlt
            rw [← hP] at hown3 hk3 ⊢
            clear hP
            have hnm : Hid (∀ x, x < l.length → x ∈ orb l k → nameOf l x = m) := fun x hx hxm => by
              unfold nameOf
              rw [lead_of_mem HINV.out hlt hxm, HLK.out, hm.out]
            go_wp2
            go_loopw [35] (fun i wr => ∃ (j : Nat) (y : List Int), j ≤ P ∧ i = .int .i64 j ∧ Hid (∀ x, x < l.length → (x ∈ way l k j → y.getD x 0 = (m : Int)) ∧ (x ∉ way l k j → y.getD x 0 = if lead l x < k then ((nameOf l x : Nat) : Int) else -1)) ∧
              wr.ownsRow w.heap.size 3 1 (.slice (some ⟨w.heap.size, 0, none⟩) l.length l.length) l.length (I64 y) ∧ Mod (· = w.heap.size) w3 wr) (fun i _ => P - (intOf i).toNat)
            case atStart => exact ⟨0, y, by omega, rfl, fun x hx => ⟨fun h => by simp [way] at h, fun _ => hy.out x hx⟩, hown', Mod.refl _ _⟩
            case round =>
              clear hown'
              obtain ⟨j, y', hj, rfl, hy', hown', hmd⟩ := hrel
              by_cases hjP : j < P
              · obtain ⟨g3, rfl, hg3, hg3'⟩ := own_some hown3 (by omega)
                have hcx := own_cellI hown3 j hjP
                rw [ofN_get, hPo.out, way_get l k P j hjP] at hcx
                have hcx' := (hmd.cell hg3' (by omega) j).trans hcx
                have hxl := it_lt HINV.out hlt j
                have hcm := own_cellI hown' _ hxl
                have hfm := hown'.frozenAt (it l j k)
                have hyl := own_lenI hown'
                have NX : Hid (∀ x, x < l.length → (x ∈ way l k (j + 1) → (y'.set (it l j k) (m : Int)).getD x 0 = (m : Int)) ∧ (x ∉ way l k (j + 1) → (y'.set (it l j k) (m : Int)).getD x 0 = if lead l x < k then ((nameOf l x : Nat) : Int) else -1)) := fun x hx => by
                  rw [getDI_set _ _ _ _ (by rw [hyl]; exact hxl), way_next, List.mem_append]
                  by_cases e : x = it l j k
                  · subst e; simp
                  · rw [if_neg e]
                    constructor
                    · rintro (h | h)
                      · exact (hy'.out x hx).1 h
                      · simp at h; exact absurd h e
                    · intro h
                      exact (hy'.out x hx).2 (fun h' => h (.inl h'))
                have HS := Lib.hid (own_setI hown' (it l j k) (m : Int))
                clear hcx hyl
                generalize it l j k = x at *
                generalize y'.getD x 0 = yx at hcm
                go_wp2
                go_roundw
                case rel => exact ⟨j + 1, _, by omega, by go_num, NX.out, HS.out, hmd.setCell (fun _ => rfl) _⟩
                case measure => simp [intOf]; omega
              · obtain rfl : j = P := by omega
                have hszb := hbl3.size
                have hblF : Below w.heap.size w wr := hbl3.trans (hmd.belowB (by omega) (fun i hi hx => by omega))
                have NX : Hid (∀ x, x < l.length → y'.getD x 0 = if lead l x < k + 1 then ((nameOf l x : Nat) : Int) else -1) := fun x hx => by
                  by_cases e : x ∈ orb l k
                  · have e2 := e
                    rw [hPo.out] at e2
                    rw [(hy'.out x hx).1 e2, if_pos (by rw [lead_of_mem HINV.out hlt e, HLK.out]; omega), hnm.out x hx e]
                  · have e2 := e
                    rw [hPo.out] at e2
                    rw [(hy'.out x hx).2 e2]
                    have hne : lead l x ≠ k := fun h => e (mem_of_lead HINV.out hx hlt (by rw [h, HLK.out]))
                    by_cases e3 : lead l x < k
                    · rw [if_pos e3, if_pos (by omega)]
                    · rw [if_neg e3, if_neg (by omega)]
                have HMN : Hid (m + 1 = (leads l (k + 1)).length) := by show _ = _; rw [leads_next, if_pos HL.out, List.length_append, hm.out]; rfl
                go_wp2
                go_roundw
                case rel => exact ⟨k + 1, m + 1, y', by omega, by go_num, by go_num, HMN.out, by omega, NX.out, hown', hblF⟩
                case measure => simp [intOf]; omega
          · have hlk : lead l k < k := by
              have := (lead_is HINV.out hlt).1
              have h2 : lead l k ≠ k := fun e => hL ((leads_iff HINV.out hlt).2 e)
              omega
            rw [if_pos hlk] at hc
            have HN : Hid (leads l (k + 1) = leads l k) := by show _ = _; rw [leads_next, if_neg hL, List.append_nil]
            have NX : Hid (∀ x, x < l.length → y.getD x 0 = if lead l x < k + 1 then ((nameOf l x : Nat) : Int) else -1) := fun x hx => by
              rw [hy.out x hx]
              have hne : lead l x ≠ k := fun h => hL (by rw [← h]; exact (lead_is HINV.out hx).2.1)
              by_cases e3 : lead l x < k
              · rw [if_pos e3, if_pos (by omega)]
              · rw [if_neg e3, if_neg (by omega)]
            have hpos : (0 : Int) ≤ ((nameOf l k : Nat) : Int) := by omega
            clear hL hlk
            generalize nameOf l k = nk at *
            go_wp2
            go_roundw
            case rel => exact ⟨k + 1, m, y, by omega, by go_num, rfl, by rw [HN.out]; exact hm, by omega, NX.out, hown, hbl⟩
            case measure => simp [intOf]; omega
        · obtain rfl : k = l.length := by omega
          have hyl := own_lenI hown
          have hfin : Hid (y = ofN (names l)) := getDI_ext (by rw [hyl, ofN_len, names_len]) fun x hx => by
            rw [hyl] at hx
            rw [hy.out x hx, ofN_get, names_get l x hx, if_pos (by have := (lead_is HINV.out hx).1; omega)]
          clear hyl
          go_wp2
          go_ret
          refine .mk rfl ?_ hbl
          rw [ofN_len, names_len, ← hfin.out]
          exact hown
end Go.Proofs.Ytgcbdoljapnecaa
namespace Go.Proofs.Ytgcbdoljapnecaa
set_option maxRecDepth 20000
open Go.RowKit
set_option linter.unusedVariables false

theorem good_inv {l : List Nat} (h : Good (ofN l)) : ∃ b, Inv l b := by
  have hs : ∀ v, ∃ i, v < l.length → i < l.length ∧ l.getD i 0 = v := fun v => by
    by_cases hv : v < l.length
    · obtain ⟨i, h1, h2⟩ := h.surj v (by rw [ofN_len]; exact hv)
      rw [ofN_len] at h1
      rw [ofN_get] at h2
      exact ⟨i, fun _ => ⟨h1, by omega⟩⟩
    · exact ⟨0, fun h' => absurd h' hv⟩
  let f : Nat → Nat := fun v => Classical.choose (hs v)
  have hf : ∀ v, v < l.length → f v < l.length ∧ l.getD (f v) 0 = v := fun v hv => Classical.choose_spec (hs v) hv
  have hlt : ∀ i, i < l.length → l.getD i 0 < l.length := fun i hi => by
    have := (h i (by rw [ofN_len]; exact hi)).2.1
    rw [ofN_get, ofN_len] at this
    omega
  have hg : ∀ v, v < l.length → ((List.range l.length).map f).getD v 0 = f v := fun v hv => by simp [List.getD_eq_getElem?_getD, hv]
  refine ⟨(List.range l.length).map f, by simp, hlt, fun i hi => ?_, fun i hi => ?_, fun i hi => ?_⟩
  · rw [hg i hi]; exact (hf i hi).1
  · rw [hg _ (hlt i hi)]
    have := hf _ (hlt i hi)
    exact h.inj _ _ (by rw [ofN_len]; exact this.1) (by rw [ofN_len]; exact hi) (by rw [ofN_get, ofN_get, this.2])
  · rw [hg i hi]; exact (hf i hi).2
theorem good_one (n : Nat) : Good (ofN (List.range n)) := (oneL_inv n).good
theorem good_swap {z : List Int} (h : Good z) {i k : Nat} (hi : i < z.length) (hk : k < z.length) : Good ((z.set i (z.getD k 0)).set k (z.getD i 0)) := by
  have hl : ((z.set i (z.getD k 0)).set k (z.getD i 0)).length = z.length := by simp
  have hget : ∀ j, ((z.set i (z.getD k 0)).set k (z.getD i 0)).getD j 0 = z.getD (if j = k then i else if j = i then k else j) 0 := fun j => by
    rw [getDI_set _ _ _ _ (by simpa using hk), getDI_set _ _ _ _ hi]
    by_cases e : j = k
    · rw [if_pos e, if_pos e]
    · rw [if_neg e, if_neg e]
      by_cases e2 : j = i
      · rw [if_pos e2, if_pos e2]
      · rw [if_neg e2, if_neg e2]
  have hs : ∀ j, j < z.length → (if j = k then i else if j = i then k else j) < z.length := fun j hj => by
    split
    · exact hi
    · split
      · exact hk
      · exact hj
  intro j hj
  rw [hl] at hj ⊢
  rw [hget]
  have hr := h _ (hs j hj)
  refine ⟨hr.1, hr.2.1, fun q hq e => ?_⟩
  rw [hget] at e
  have := h.inj _ _ (hs q (by omega)) (hs j hj) e
  repeat' split at this
  all_goals omega

/-- An answer that is some permutation of n. -/
def SomeP (w : World) (n : Nat) (e : Ending) (w' : World) : Prop := ∃ l b, Inv l b ∧ l.length = n ∧ NewI64 w (ofN l) e w'

set_option maxHeartbeats 2000000 in
theorem mix_p (n m c B : Nat) (A : Option Addr) (by_ : List Int) (w : World) (h : Rd w B A m (by_.map fun (x : Int) => Value.int .u8 x)) (hb : ∀ x ∈ by_, 0 ≤ x ∧ x < 256) (hn : n ≤ 1000) (hm : m ≤ 9223372036854775807) :
    Calls Try.prog 59 #[.int .i64 (n : Int), .slice A m c] w (SomeP w n) := by
  obtain ⟨i0, hi0, hz0, hz1, hz2⟩ := info_parts info_int
  have hlb : by_.length = m := by have := h.len; rwa [List.length_map] at this
  have hcell : 0 < m → ∃ b o, A = some ⟨b, o, none⟩ ∧ b < w.heap.size ∧ ∀ k, k < m → w.cell? ⟨b, o + k, none⟩ = some (.int .u8 (by_.getD k 0)) := fun h0 => by
    obtain ⟨b, o, e, hbB, hc⟩ := h.lt.at_ h0
    refine ⟨b, o, e, hbB, fun k hk => ?_⟩
    rw [hc k (by rw [List.length_map]; omega)]
    simp [List.getD_eq_getElem?_getD, List.getElem?_eq_getElem (show k < by_.length by omega)]
  have hval : ∀ k, k < m → 0 ≤ by_.getD k 0 ∧ by_.getD k 0 < 256 := fun k hk => by
    refine hb _ ?_
    rw [List.getD_eq_getElem?_getD, List.getElem?_eq_getElem (show k < by_.length by omega)]; exact List.getElem_mem _
  have HCELL := Lib.hid hcell
  have HVAL := Lib.hid hval
  clear hlb hcell hval hb h
  go_enter Try.func59, Try.ntmps59
  go_wp2
  go_loopw [5, 6] (fun v i wr => ∃ (k : Nat) (Av : Option Addr) (cv : Nat), k ≤ n ∧ i = .int .i64 k ∧ v = .slice Av k cv ∧ wr.ownsRow w.heap.size 3 1 (.slice Av k cv) k (I64 (ofN (List.range k))) ∧ Below w.heap.size w wr) (fun _ i _ => n - (intOf i).toNat)
  case atStart => exact ⟨0, none, 0, by omega, rfl, rfl, World.ownsRow_nil _ _ _ _, Below.refl _ _⟩
  case round =>
    obtain ⟨k, Av, cv, hk, rfl, rfl, hown, hbl⟩ := hrel
    by_cases hlt : k < n
    · have hown' := hown.alloc (.cells #[.int .i64 (k : Int)] 3)
      have r3 := Rd.new wr 3 #[.int .i64 (k : Int)] 1 (I64 [(k : Int)]) (by simp [I64]) (by simp)
      have t1 : k + 1 ≤ maxLen := by simp only [maxLen]; omega
      have t2 : (k + 1) * 8 ≤ 140737488355328 := by omega
      have t3 : w.heap.size ≤ (wr.alloc (.cells #[.int .i64 (k : Int)] 3)).heap.size := by have := hbl.size; simp; omega
      go_wp2_with (first
        | (at_builtin; go_must (refine wpList_append_rd _ rfl _ _ 25 rfl w.heap.size 3 i0 (.int .i64 0) 8 Try.underlying25 hi0 hz0 hz1 hz2 rfl (.slice Av k cv) k (I64 (ofN (List.range k))) rfl hown' (wr.heap.size + 1) (some ⟨wr.heap.size, 0, none⟩) 1 1 (I64 [(k : Int)]) rfl r3 (I64_one _) t1 t2 t3 ?_)))
      intro A6 c6 w6 hc6 hm6 hown6 hg6 _
      have hb6 : Below w.heap.size w w6 := (hbl.trans ((Below.refl w.heap.size wr).alloc hbl.size _)).trans (Below.appended hown' hg6 t3)
      have hR : I64 (ofN (List.range k)) ++ I64 [(k : Int)] = I64 (ofN (List.range (k + 1))) := by rw [List.range_succ, ofN_append, I64_append]; rfl
      rw [hR] at hown6
      clear hR
      go_wp2
      go_roundw
      case rel => exact ⟨k + 1, A6, c6, by omega, by go_num, rfl, hown6, hb6⟩
      case measure => simp [intOf]; omega
    · obtain rfl : k = n := by omega
      obtain ⟨wo, rfl⟩ : ∃ wo : World, wo = wr := ⟨_, rfl⟩
      by_cases h0 : k = 0
      · subst h0
        go_wp2
        go_loopw [20] (fun i wr => i = .int .i64 0 ∧ wr = wo) (fun _ _ => 0)
        case atStart => exact ⟨rfl, rfl⟩
        case round =>
          obtain ⟨rfl, rfl⟩ := hrel
          go_wp2
          go_ret
          exact ⟨[], [], ⟨rfl, by simp, by simp, by simp, by simp⟩, rfl, .mk rfl hown hbl⟩
      · obtain ⟨gv, rfl, hgv, hgv'⟩ := own_some hown (by omega)
        have hkk : 0 < k := by omega
        clear h0
        go_wp2
        go_loopw [20] (fun i wr => ∃ (q : Nat) (l : List Nat), q ≤ k ∧ i = .int .i64 q ∧ Hid (Good (ofN l)) ∧ wr.ownsRow w.heap.size 3 1 (.slice (some ⟨gv, 0, none⟩) k cv) k (I64 (ofN l)) ∧ Below w.heap.size w wr) (fun i _ => k - (intOf i).toNat)
        case atStart => exact ⟨0, List.range k, by omega, rfl, good_one k, hown, hbl⟩
        case round =>
          clear hown hbl hk hlt
          obtain ⟨q, l, hq, rfl, hgood, hown, hbl⟩ := hrel
          have hll := own_lenI hown
          rw [ofN_len] at hll
          have HLL := Lib.hid hll
          clear hll
          by_cases hlt : q < k
          · by_cases hqm : q < m
            · obtain ⟨bb, bo, rfl, hbb, hc⟩ := HCELL.out (by omega)
              have hcq := (hbl.cell (p := ⟨bb, bo + q, none⟩) hbb).trans (hc q hqm)
              obtain ⟨hv0, hv1⟩ := HVAL.out q hqm
              obtain ⟨v, hv⟩ : ∃ v : Nat, by_.getD q 0 = (v : Int) := ⟨(by_.getD q 0).toNat, by omega⟩
              rw [hv] at hcq hv0 hv1
              clear hc hv
              have hvq : v % (k - q) < k - q := Nat.mod_lt _ (by omega)
              obtain ⟨x, hx⟩ : ∃ x, x = q + v % (k - q) := ⟨_, rfl⟩
              have hxk : x < k := by omega
              have HX : Hid ((q : Int) + (v : Int) % ((k : Int) - (q : Int)) = (x : Int)) := by
                show _ = _
                rw [hx, show (k : Int) - (q : Int) = ((k - q : Nat) : Int) by omega]
                omega
              clear hx hvq
              have c1 := own_cellI hown q hlt
              have c2 := own_cellI hown x hxk
              have f1 := hown.frozenAt q
              have f2 := hown.frozenAt x
              rw [ofN_get] at c1 c2
              have o1 := own_setI hown q ((l.getD x 0 : Nat) : Int)
              have o2 := own_setI o1 x ((l.getD q 0 : Nat) : Int)
              have c3 := own_cellI o1 x hxk
              have f3 := o1.frozenAt x
              have hgs := good_swap hgood.out (i := q) (k := x) (by rw [ofN_len, HLL.out]; exact hlt) (by rw [ofN_len, HLL.out]; exact hxk)
              rw [ofN_get, ofN_get] at hgs
              have hN : (((ofN l).set q ((l.getD x 0 : Nat) : Int)).set x ((l.getD q 0 : Nat) : Int)) = ofN ((l.set q (l.getD x 0)).set x (l.getD q 0)) := by simp [ofN, List.map_set]
              rw [hN] at o2 hgs
              have O2 := Lib.hid o2
              have HGS := Lib.hid hgs
              have hblS : Hid (Below w.heap.size w ((wr.setCell ⟨gv, q, none⟩ (.int .i64 ((l.getD x 0 : Nat) : Int))).setCell ⟨gv, x, none⟩ (.int .i64 ((l.getD q 0 : Nat) : Int)))) := (hbl.setCell hgv _).setCell hgv _
              have hd0 : (0 : Int) ≤ (v : Int) % ((k : Int) - (q : Int)) := Int.emod_nonneg _ (by omega)
              have hd1 : (v : Int) % ((k : Int) - (q : Int)) < (k : Int) - (q : Int) := Int.emod_lt_of_pos _ (by omega)
              have hd2 : (0 : Int) < (k : Int) - (q : Int) := by omega
              have hd3 : ¬ ((k : Int) - (q : Int) = 0) := by omega
              clear o1 o2 hgs hN hown
              generalize ((ofN l).set q ((l.getD x 0 : Nat) : Int)).getD x 0 = z3 at *
              generalize (l.set q (l.getD x 0)).set x (l.getD q 0) = l2 at *
              by_cases hxq : x = q
              · subst hxq
                generalize l.getD x 0 = lx at *
                go_wp2
                rw [HX.out]
                go_region
                go_wp2
                go_roundw
                case rel => exact ⟨x + 1, l2, by omega, by go_num, HGS.out, O2.out, ⟨hblS.out.os, hblS.out.tape, hblS.out.output, hblS.out.size, hblS.out.block⟩⟩
                case measure => simp [intOf]; omega
              · generalize l.getD x 0 = lx at *
                generalize l.getD q 0 = lq at *
                go_wp2
                rw [HX.out]
                go_region
                go_wp2
                go_roundw
                case rel => exact ⟨q + 1, l2, by omega, by go_num, HGS.out, O2.out, ⟨hblS.out.os, hblS.out.tape, hblS.out.output, hblS.out.size, hblS.out.block⟩⟩
                case measure => simp [intOf]; omega
            · go_wp2
              go_roundw
              case rel => exact ⟨q + 1, l, by omega, by go_num, hgood, hown, hbl⟩
              case measure => simp [intOf]; omega
          · obtain rfl : q = k := by omega
            go_wp2
            go_ret
            obtain ⟨b, hinv⟩ := good_inv hgood.out
            refine ⟨l, b, hinv, HLL.out, .mk rfl ?_ hbl⟩
            rw [ofN_len, HLL.out]
            exact hown
end Go.Proofs.Ytgcbdoljapnecaa
