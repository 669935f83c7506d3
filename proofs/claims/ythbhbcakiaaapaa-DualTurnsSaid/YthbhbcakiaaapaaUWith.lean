/- A map without an edge. -/
import Derived.Test.YthbhbcakiaaapaaUEdge
namespace Go.Proofs.Ythbhbcakiaaapaa
set_option maxRecDepth 20000
open Go.RowKit
set_option linter.unusedVariables false
/-- What stands in place of x, when the edge e is taken out and z tells what goes on behind its darts. -/
def outN (z : List Nat) (e x : Nat) : Nat := if x / 2 ≠ e then x else if z.getD x 0 / 2 ≠ e then z.getD x 0 else z.getD (z.getD x 0) 0
def woTo (l z : List Nat) (e k : Nat) : List Nat := ((List.range k).filter fun d => decide (d / 2 ≠ e)).map fun d => calN e (outN z e (l.getD d 0))
def woN (l z : List Nat) (e : Nat) : List Nat := woTo l z e l.length
theorem woTo_yes (l z : List Nat) (e k : Nat) (h : k / 2 ≠ e) : woTo l z e (k + 1) = woTo l z e k ++ [calN e (outN z e (l.getD k 0))] := by
  unfold woTo; rw [List.range_succ, List.filter_append, List.map_append]; simp [h]
theorem woTo_no (l z : List Nat) (e k : Nat) (h : k / 2 = e) : woTo l z e (k + 1) = woTo l z e k := by
  unfold woTo; rw [List.range_succ, List.filter_append, List.map_append]; simp [h]
theorem woTo_len (l z : List Nat) (e k : Nat) : (woTo l z e k).length ≤ k := by
  unfold woTo; rw [List.length_map]; exact Nat.le_trans (List.length_filter_le _ _) (by simp)
section
variable {l b : List Nat}
/-- Cut: behind the edge's darts goes on what stands behind them. -/
theorem out_s (h : Inv l b) {e d : Nat} (hd : d < l.length) (he : d / 2 ≠ e) (hl : e < l.length / 2) : outN l e (l.getD d 0) / 2 ≠ e := by
  have h0 := h.lt d hd
  have h1 := h.lt _ h0
  have h2 := h.lt _ h1
  unfold outN
  by_cases c : l.getD d 0 / 2 = e
  · rw [if_neg (by omega)]
    by_cases c1 : l.getD (l.getD d 0) 0 / 2 = e
    · rw [if_neg (by omega)]
      intro c2
      have n1 : l.getD (l.getD d 0) 0 ≠ l.getD d 0 := fun q => by
        have := h.inj _ _ h0 hd q
        rw [this] at c; exact he c
      have n2 : l.getD (l.getD (l.getD d 0) 0) 0 ≠ l.getD (l.getD d 0) 0 := fun q => n1 (h.inj _ _ h1 h0 q)
      have n3 : l.getD (l.getD (l.getD d 0) 0) 0 ≠ l.getD d 0 := fun q => by
        have := h.inj _ _ h1 hd q
        rw [this] at c1; exact he c1
      omega
    · rw [if_pos c1]; exact c1
  · rw [if_pos c]; exact c
/-- Shrink: what stands behind the edge's other dart. -/
theorem out_f (h : Inv l b) (hev : l.length % 2 = 0) {e d : Nat} (hd : d < l.length) (he : d / 2 ≠ e) (hl : e < l.length / 2) : outN (phiL l) e (l.getD d 0) / 2 ≠ e := by
  have h0 := h.lt d hd
  obtain ⟨x, hx⟩ : ∃ x, x = l.getD d 0 := ⟨_, rfl⟩
  rw [← hx] at h0 ⊢
  unfold outN
  by_cases c : x / 2 = e
  · rw [if_neg (by omega)]
    have m0 : mateN x < l.length := mateN_lt hev h0
    have e1 : (phiL l).getD x 0 = l.getD (mateN x) 0 := phiL_get l x h0
    have mx : mateN x / 2 = e ∧ mateN x ≠ x := by rw [mateN_eq]; split <;> omega
    obtain ⟨y, hy⟩ : ∃ y, y = l.getD (mateN x) 0 := ⟨_, rfl⟩
    have hyl : y < l.length := by rw [hy]; exact h.lt _ m0
    rw [e1, ← hy]
    by_cases c1 : y / 2 = e
    · rw [if_neg (by omega)]
      have e2 : (phiL l).getD y 0 = l.getD (mateN y) 0 := phiL_get l y hyl
      rw [e2]
      have n1 : y ≠ x := fun q => by
        have := h.inj _ _ m0 hd (by rw [← hy, ← hx]; exact q)
        rw [this] at mx; exact he mx.1
      have my : mateN y = x := by
        have := mx.1
        have := mx.2
        rw [mateN_eq] at *
        split at * <;> split <;> omega
      rw [my]
      intro c2
      have n2 : l.getD x 0 ≠ x := fun q => by
        have := h.inj _ _ h0 hd (by rw [← hx]; exact q)
        rw [this] at c; exact he c
      have n3 : l.getD x 0 ≠ y := fun q => mx.2 (h.inj _ _ m0 h0 (by rw [← hy]; exact q.symm))
      omega
    · rw [if_pos c1]; exact c1
  · rw [if_pos c]; exact c
end
set_option maxHeartbeats 8000000 in
theorem without_s (g : Nat) (l b z b' : List Nat) (r e : Nat) (lone x : Int) (w : World) (h : MapAt w g l b (r : Int) lone) (hi : Inv l b) (hr : r < l.length) (he : e < l.length / 2)
    (hz : ∀ k, k < l.length → z.getD k 0 < l.length)
    (hf : ∀ k, k < l.length → ∀ W, Below w.heap.size w W → Calls Try.prog 31 #[.pointer (some ⟨g, 0, none⟩), .int .i64 (k : Int)] W fun e w' => e = .returned (.int .i64 ((z.getD k 0 : Nat) : Int)) ∧ Below W.heap.size W w')
    (ho : ∀ d, d < l.length → d / 2 ≠ e → outN z e (l.getD d 0) / 2 ≠ e)
    (hi' : Inv (woN l z e) b') (hev : (woN l z e).length % 2 = 0) (hrt : RootOk (heirN l b r e) (woN l z e).length) (hx0 : 0 ≤ lone + x) (hx1 : lone + x ≤ 65536) :
    Calls Try.prog 61 #[.pointer (some ⟨g, 0, none⟩), .int .i64 (e : Int), .func (.func 31) #[.pointer (some ⟨g, 0, none⟩)] #[], .int .i64 x] w (NewMap w (woN l z e) b' (heirN l b r e) (lone + x)) := by
  have hln := h.2.1
  have HM := Lib.hid h
  have DP : Hid (∀ W, Below w.heap.size w W → Calls Try.prog 17 #[.pointer (some ⟨g, 0, none⟩)] W fun e w' => e = .returned (.int .i64 (l.length : Int)) ∧ Below W.heap.size W w') := fun W m => darts_p g l b r lone W (h.below m)
  have LP : Hid (∀ W, Below w.heap.size w W → Calls Try.prog 22 #[.pointer (some ⟨g, 0, none⟩)] W fun e w' => e = .returned (.int .i64 lone) ∧ W = w') := fun W m => lone_p g l b r lone W (h.below m)
  have HP : Hid (∀ W, Below w.heap.size w W → Calls Try.prog 78 #[.pointer (some ⟨g, 0, none⟩), .int .i64 (e : Int)] W fun en w' => en = .returned (.int .i64 (heirN l b r e)) ∧ Below W.heap.size W w') := fun W m => heir_p g l b r e lone W (h.below m) hi hr he
  have SP : Hid (∀ k, k < l.length → ∀ W, Below w.heap.size w W → Calls Try.prog 31 #[.pointer (some ⟨g, 0, none⟩), .int .i64 (k : Int)] W fun e w' => e = .returned (.int .i64 ((l.getD k 0 : Nat) : Int)) ∧ Below W.heap.size W w') := fun k hk W m => sigma_in g l b r lone k W (h.below m) hk
  have IT : Hid (∀ (d : Nat) (W : World), d / 2 = e → d ≤ 1000000 → Calls Try.prog 76 #[.int .i64 (d : Int), .int .i64 (e : Int)] W fun en w' => en = .returned (.bool true) ∧ W = w') := fun d W h1 h2 => isOf_t d e W h1 h2
  have IF : Hid (∀ (d : Nat) (W : World), d / 2 ≠ e → d ≤ 1000000 → Calls Try.prog 76 #[.int .i64 (d : Int), .int .i64 (e : Int)] W fun en w' => en = .returned (.bool false) ∧ W = w') := fun d W h1 h2 => isOf_f d e W h1 h2
  have CP : Hid (∀ (d : Nat) (W : World), d ≤ 1000000 → Calls Try.prog 77 #[.int .i64 (d : Int), .int .i64 (e : Int)] W fun en w' => en = .returned (.int .i64 ((calN e d : Nat) : Int)) ∧ W = w') := fun d W h2 => called_p d e W h2
  have HF := Lib.hid hf
  have HO := Lib.hid ho
  have HZ := Lib.hid hz
  have HI := Lib.hid hi
  have hwl : (woN l z e).length ≤ l.length := woTo_len _ _ _ _
  have NP : Hid (∀ A c W, Rd W W.heap.size A (woN l z e).length (I64 (ofN (woN l z e))) → Calls Try.prog 43 #[.slice A (woN l z e).length c, .int .i64 (heirN l b r e), .int .i64 (lone + x)] W (NewMap W (woN l z e) b' (heirN l b r e) (lone + x))) := fun A c W hrd => new_ok A _ c (woN l z e) b' (heirN l b r e) (lone + x) W hrd hi' hev (by omega) hrt hx0 hx1
  obtain ⟨c2, hc2⟩ : ∃ c2 : Nat, (l.length : Int) - 2 = (c2 : Int) := ⟨l.length - 2, by omega⟩
  obtain ⟨i0, hi0, hz0, hz1, hz2⟩ := info_parts info_int
  have hc2b : i0.bytes * c2 ≤ 281474976710656 := by rw [hz2]; omega
  have hc2m : c2 ≤ maxLen := by simp only [maxLen]; omega
  have wl : IntKind.i64.wrap (lone + x) = lone + x := by simp [IntKind.wrap, IntKind.signed, IntKind.bits]; omega
  have wc : IntKind.i64.wrap ((l.length : Int) - 2) = (c2 : Int) := by rw [hc2]; simp [IntKind.wrap, IntKind.signed, IntKind.bits]; omega
  have Z0 := Below.refl w.heap.size w
  have W0 : Hid (woTo l z e 0 = []) := rfl
  have WE : Hid (woTo l z e l.length = woN l z e) := rfl
  clear h hf ho hz hi hi' hev hrt
  generalize heirN l b r e = HR at *
  generalize woN l z e = WN at *
  go_enter Try.func61, Try.ntmps61
  go_wp2_with fail
  refine (DP.out _ Z0).mono ?_
  rintro en w1 ⟨rfl, z1⟩
  have Z1 := Z0.trans (z1.mono Z0.size)
  clear z1
  go_wp2_with (first
    | (at_make; go_must (refine wpList_make_own _ rfl _ _ 25 rfl w.heap.size 3 i0 (.int .i64 0) 1 Try.underlying25 hi0 hz0 hz1 .i64 .i64 _ c2 rfl rfl rfl hc2b hc2m Z1.size ?_)))
  intro w2 hown2 hg2
  have Z2 := Z1.trans (Below.appended (World.ownsRow_nil w1 w.heap.size 3 1) hg2 Z1.size)
  have HO2 := Lib.hid hown2
  clear hown2 hg2 Z1
  go_wp2_with fail
  refine (DP.out _ Z2).mono ?_
  rintro en w3 ⟨rfl, z⟩
  have HO3 := Lib.hid (own_below HO2.out z)
  have Z3 := Lib.hid (Z2.trans (z.mono Z2.size))
  clear z HO2 Z2 Z0
  generalize w1.heap.size = B1 at *
  go_wp2_with fail
  go_loopw [10, 19] (fun s i wr => ∃ (k q : Nat) (Av : Option Addr) (cv : Nat), k ≤ l.length ∧ q ≤ k ∧ i = .int .i64 (k : Int) ∧ s = .slice Av q cv ∧ Hid (q = (woTo l z e k).length) ∧ Hid (wr.ownsRow w.heap.size 3 1 (.slice Av q cv) q (I64 (ofN (woTo l z e k)))) ∧ Hid (Below w.heap.size w wr)) (fun _ i _ => l.length - (intOf i).toNat)
  case atStart => exact ⟨0, 0, _, _, by omega, by omega, rfl, rfl, by rw [W0.out]; rfl, by rw [W0.out]; exact HO3.out, Z3.out⟩
  case round =>
    clear HO3 Z3
    obtain ⟨k, q, Av, cv, hk, hqk, rfl, rfl, HQ, HOW, HB⟩ := hrel
    by_cases hlt : k < l.length
    · have hdk : decide (k < l.length) = true := by rw [decide_eq_true_iff]; exact hlt
      by_cases hke : k / 2 = e
      · have NX := Lib.hid (woTo_no l z e k hke)
        go_wp2_with fail
        refine (IT.out k _ hke (by omega)).mono ?_
        rintro en w' ⟨rfl, rfl⟩
        go_wp2_with fail
        go_roundw
        case rel => exact ⟨k + 1, q, Av, cv, by omega, by omega, by go_num, rfl, by rw [NX.out]; exact HQ.out, by rw [NX.out]; exact HOW.out, HB.out⟩
        case measure => simp [intOf]; omega
      · obtain ⟨v, hv⟩ : ∃ v, v = l.getD k 0 := ⟨_, rfl⟩
        have NX := Lib.hid (woTo_yes l z e k hke)
        have HOO := Lib.hid (HO.out k hlt hke)
        have SK := Lib.hid (SP.out k hlt)
        have hvl : v < l.length := by rw [hv]; exact HI.out.lt k hlt
        rw [← hv] at NX HOO SK
        obtain ⟨v1, hv1⟩ : ∃ v1, v1 = z.getD v 0 := ⟨_, rfl⟩
        have hv1l : v1 < l.length := by rw [hv1]; exact HZ.out v hvl
        obtain ⟨v2, hv2⟩ : ∃ v2, v2 = z.getD v1 0 := ⟨_, rfl⟩
        have hv2l : v2 < l.length := by rw [hv2]; exact HZ.out v1 hv1l
        have HU : Hid (outN z e v = if v / 2 ≠ e then v else if v1 / 2 ≠ e then v1 else v2) := by show _ = _; unfold outN; rw [← hv1, ← hv2]
        have HV1 := Lib.hid hv1
        have HV2 := Lib.hid hv2
        have HD : Hid ((v / 2 = e → v1 / 2 = e → v2 / 2 ≠ e) ∧ (v / 2 = e → v1 ≠ v)) := by
          have h0 := HOO.out
          rw [HU.out] at h0
          refine ⟨fun a c => by rw [if_neg (by omega), if_neg (by omega)] at h0; exact h0, fun a c => ?_⟩
          have e2 : v2 = v1 := by rw [hv2, c, ← hv1]; exact c
          rw [if_neg (by omega), if_neg (by omega)] at h0
          rw [e2, c] at h0
          exact h0 a
        clear hv hv1 hv2
        go_wp2_with fail
        refine (IF.out k _ hke (by omega)).mono ?_
        rintro en w' ⟨rfl, rfl⟩
        go_wp2_with fail
        refine (SK.out _ HB.out).mono ?_
        rintro en w4 ⟨rfl, zz⟩
        have HOW4 := Lib.hid (own_below HOW.out zz)
        have HB4 := Lib.hid (HB.out.trans (zz.mono HB.out.size))
        clear zz
        go_wp2_with fail
        go_loopw [12] (fun s wx => ∃ y : Nat, s = .int .i64 (y : Int) ∧ y < l.length ∧ (y = v ∨ (y = v1 ∧ v / 2 = e) ∨ (y = v2 ∧ v / 2 = e ∧ v1 / 2 = e)) ∧ Hid (Below w4.heap.size w4 wx)) (fun s _ => if intOf s = (v : Int) then 2 else if intOf s = (v1 : Int) then 1 else 0)
        case atStart => exact ⟨v, rfl, hvl, .inl rfl, Below.refl _ _⟩
        case round =>
          obtain ⟨y, rfl, hyl, hst, HX⟩ := hrel
          have HBX := Lib.hid (HB4.out.trans (HX.out.mono HB4.out.size))
          by_cases hye : y / 2 = e
          · have hbd : ∃ t, Hid (t = z.getD y 0) ∧ t < l.length ∧ ((t = v1 ∧ y = v ∧ v / 2 = e) ∨ (t = v2 ∧ y = v1 ∧ v / 2 = e ∧ v1 / 2 = e)) := by
              rcases hst with rfl | ⟨rfl, h1⟩ | ⟨rfl, h1, h2⟩
              · exact ⟨v1, HV1.out, hv1l, .inl ⟨rfl, rfl, hye⟩⟩
              · exact ⟨v2, HV2.out, hv2l, .inr ⟨rfl, rfl, h1, hye⟩⟩
              · exact absurd hye (HD.out.1 h1 h2)
            obtain ⟨t, ht, htl, hc⟩ := hbd
            have HC := Lib.hid hc
            have FP : Hid (∀ W, Below w.heap.size w W → Calls Try.prog 31 #[.pointer (some ⟨g, 0, none⟩), .int .i64 (y : Int)] W fun e w' => e = .returned (.int .i64 (t : Int)) ∧ Below W.heap.size W w') := fun W m => by rw [ht.out]; exact HF.out y hyl W m
            clear hst hc ht
            go_wp2_with fail
            refine (IT.out y _ hye (by omega)).mono ?_
            rintro en w' ⟨rfl, rfl⟩
            go_wp2_with fail
            refine (FP.out _ HBX.out).mono ?_
            rintro en w5 ⟨rfl, zz⟩
            have HX5 := Lib.hid (HX.out.trans (zz.mono HX.out.size))
            clear zz
            go_wp2_with fail
            go_roundw
            case rel =>
              refine ⟨t, rfl, htl, ?_, HX5.out⟩
              rcases HC.out with ⟨h1, h2, h3⟩ | ⟨h1, h2, h3, h4⟩
              · exact .inr (.inl ⟨h1, h3⟩)
              · exact .inr (.inr ⟨h1, h3, h4⟩)
            case measure =>
              show (if (t : Int) = (v : Int) then 2 else if (t : Int) = (v1 : Int) then 1 else 0) < (if (y : Int) = (v : Int) then 2 else if (y : Int) = (v1 : Int) then 1 else 0)
              rcases HC.out with ⟨h1, h2, h3⟩ | ⟨h1, h2, h3, h4⟩
              · have := HD.out.2 h3
                rw [if_neg (by omega), if_pos (by omega), if_pos (by omega)]; omega
              · have h5 := HD.out.2 h3
                have h6 := HD.out.1 h3 h4
                have h7 : v2 ≠ v := fun c => by rw [c] at h6; exact h6 h3
                have h8 : v2 ≠ v1 := fun c => by rw [c] at h6; exact h6 h4
                rw [if_neg (by omega), if_neg (by omega), if_neg (by omega), if_pos (by omega)]; omega
          · have HYO : Hid (outN z e v = y) := by
              show _ = _
              rw [HU.out]
              rcases hst with rfl | ⟨rfl, h1⟩ | ⟨rfl, h1, h2⟩
              · rw [if_pos hye]
              · rw [if_neg (by omega), if_pos hye]
              · rw [if_neg (by omega), if_neg (by omega)]
            clear hst
            obtain ⟨cy, hcy⟩ : ∃ cy, cy = calN e y := ⟨_, rfl⟩
            have CY : Hid (∀ W : World, Calls Try.prog 77 #[.int .i64 (y : Int), .int .i64 (e : Int)] W fun en w' => en = .returned (.int .i64 (cy : Int)) ∧ W = w') := fun W => by rw [hcy]; exact CP.out y W (by omega)
            have NX2 : Hid (ofN (woTo l z e (k + 1)) = ofN (woTo l z e k) ++ [(cy : Int)]) := by show _ = _; rw [NX.out, HYO.out, ← hcy, ofN_append]; rfl
            have NX3 : Hid ((woTo l z e (k + 1)).length = q + 1) := by show _ = _; rw [NX.out, List.length_append, ← HQ.out]; rfl
            have HOX := Lib.hid (own_below HOW4.out HX.out)
            have hown' := HOX.out.alloc (.cells #[.int .i64 (cy : Int)] 3)
            have r3 := Rd.new wr 3 #[.int .i64 (cy : Int)] 1 (I64 [(cy : Int)]) (by simp [I64]) (by simp)
            have t1 : q + 1 ≤ maxLen := by simp only [maxLen]; omega
            have t2 : (q + 1) * 8 ≤ 140737488355328 := by omega
            have t3 : w.heap.size ≤ (wr.alloc (.cells #[.int .i64 (cy : Int)] 3)).heap.size := by have := HBX.out.size; simp; omega
            clear hcy
            go_wp2_with fail
            refine (IF.out y _ hye (by omega)).mono ?_
            rintro en w' ⟨rfl, rfl⟩
            go_wp2_with fail
            refine (CY.out _).mono ?_
            rintro en w' ⟨rfl, rfl⟩
            go_wp2_with (first
              | (at_builtin; go_must (refine wpList_append_rd _ rfl _ _ 25 rfl w.heap.size 3 i0 (.int .i64 0) 8 Try.underlying25 hi0 hz0 hz1 hz2 rfl (.slice Av q cv) q (I64 (ofN (woTo l z e k))) rfl hown' (wr.heap.size + 1) (some ⟨wr.heap.size, 0, none⟩) 1 1 (I64 [(cy : Int)]) rfl r3 (I64_one _) t1 t2 t3 ?_)))
            intro A6 c6 w6 hc6 hm6 hown6 hg6 _
            have hb6 : Below w.heap.size w w6 := (HBX.out.trans ((Below.refl w.heap.size wr).alloc HBX.out.size _)).trans (Below.appended hown' hg6 t3)
            rw [← I64_append, ← NX2.out] at hown6
            have HO6 := Lib.hid hown6
            have HB6 := Lib.hid hb6
            clear hown6 hb6 hg6 r3 hown'
            go_wp2_with fail
            go_roundw
            case rel => exact ⟨k + 1, q + 1, A6, c6, by omega, by omega, by go_num, rfl, NX3.out.symm, HO6.out, HB6.out⟩
            case measure => simp [intOf]; omega
    · obtain rfl : k = l.length := by omega
      have hdk : decide (l.length < l.length) = false := by simp
      rw [WE.out] at HQ HOW
      have hq := HQ.out
      subst hq
      have HR := Lib.hid (Rd.ofOwn HOW.out)
      clear HQ
      go_wp2_with fail
      refine (HP.out _ HB.out).mono ?_
      rintro en w4 ⟨rfl, zz⟩
      have HB4 := Lib.hid (HB.out.trans (zz.mono HB.out.size))
      have HR4 := Lib.hid (HR.out.more zz)
      clear zz HR
      go_wp2_with fail
      refine (LP.out _ HB4.out).mono ?_
      rintro en w' ⟨rfl, rfl⟩
      go_wp2_with fail
      refine (NP.out _ _ _ HR4.out).mono ?_
      rintro en w5 ⟨g5, rfl, hm, b5, hlo⟩
      have HMM := Lib.hid hm
      have hs := HB4.out.size
      have HLO := Lib.hid (show MapLo w.heap.size w5 g5 from by
        obtain ⟨p, A, n, c, S, k, d, q, A', n', c', S', k', d', rt, ln, hb, h1, h2, h3, h4, h5, h6, h7⟩ := hlo
        exact ⟨p, A, n, c, S, k, d, q, A', n', c', S', k', d', rt, ln, hb, Nat.le_trans hs h1, h2.le hs, h3.le hs, h4.le hs, h5.le hs, h6.le hs, h7.le hs⟩)
      have BB := Lib.hid (HB4.out.trans (b5.mono hs))
      clear hm hlo b5
      go_wp2_with fail
      go_ret2
      exact ⟨g5, rfl, HMM.out, BB.out, HLO.out⟩
set_option maxHeartbeats 8000000 in
theorem without_f (g : Nat) (l b z b' : List Nat) (r e : Nat) (lone x : Int) (w : World) (h : MapAt w g l b (r : Int) lone) (hi : Inv l b) (hr : r < l.length) (he : e < l.length / 2)
    (hz : ∀ k, k < l.length → z.getD k 0 < l.length)
    (hf : ∀ k, k < l.length → ∀ W, Below w.heap.size w W → Calls Try.prog 32 #[.pointer (some ⟨g, 0, none⟩), .int .i64 (k : Int)] W fun e w' => e = .returned (.int .i64 ((z.getD k 0 : Nat) : Int)) ∧ Below W.heap.size W w')
    (ho : ∀ d, d < l.length → d / 2 ≠ e → outN z e (l.getD d 0) / 2 ≠ e)
    (hi' : Inv (woN l z e) b') (hev : (woN l z e).length % 2 = 0) (hrt : RootOk (heirN l b r e) (woN l z e).length) (hx0 : 0 ≤ lone + x) (hx1 : lone + x ≤ 65536) :
    Calls Try.prog 61 #[.pointer (some ⟨g, 0, none⟩), .int .i64 (e : Int), .func (.func 32) #[.pointer (some ⟨g, 0, none⟩)] #[], .int .i64 x] w (NewMap w (woN l z e) b' (heirN l b r e) (lone + x)) := by
  have hln := h.2.1
  have HM := Lib.hid h
  have DP : Hid (∀ W, Below w.heap.size w W → Calls Try.prog 17 #[.pointer (some ⟨g, 0, none⟩)] W fun e w' => e = .returned (.int .i64 (l.length : Int)) ∧ Below W.heap.size W w') := fun W m => darts_p g l b r lone W (h.below m)
  have LP : Hid (∀ W, Below w.heap.size w W → Calls Try.prog 22 #[.pointer (some ⟨g, 0, none⟩)] W fun e w' => e = .returned (.int .i64 lone) ∧ W = w') := fun W m => lone_p g l b r lone W (h.below m)
  have HP : Hid (∀ W, Below w.heap.size w W → Calls Try.prog 78 #[.pointer (some ⟨g, 0, none⟩), .int .i64 (e : Int)] W fun en w' => en = .returned (.int .i64 (heirN l b r e)) ∧ Below W.heap.size W w') := fun W m => heir_p g l b r e lone W (h.below m) hi hr he
  have SP : Hid (∀ k, k < l.length → ∀ W, Below w.heap.size w W → Calls Try.prog 31 #[.pointer (some ⟨g, 0, none⟩), .int .i64 (k : Int)] W fun e w' => e = .returned (.int .i64 ((l.getD k 0 : Nat) : Int)) ∧ Below W.heap.size W w') := fun k hk W m => sigma_in g l b r lone k W (h.below m) hk
  have IT : Hid (∀ (d : Nat) (W : World), d / 2 = e → d ≤ 1000000 → Calls Try.prog 76 #[.int .i64 (d : Int), .int .i64 (e : Int)] W fun en w' => en = .returned (.bool true) ∧ W = w') := fun d W h1 h2 => isOf_t d e W h1 h2
  have IF : Hid (∀ (d : Nat) (W : World), d / 2 ≠ e → d ≤ 1000000 → Calls Try.prog 76 #[.int .i64 (d : Int), .int .i64 (e : Int)] W fun en w' => en = .returned (.bool false) ∧ W = w') := fun d W h1 h2 => isOf_f d e W h1 h2
  have CP : Hid (∀ (d : Nat) (W : World), d ≤ 1000000 → Calls Try.prog 77 #[.int .i64 (d : Int), .int .i64 (e : Int)] W fun en w' => en = .returned (.int .i64 ((calN e d : Nat) : Int)) ∧ W = w') := fun d W h2 => called_p d e W h2
  have HF := Lib.hid hf
  have HO := Lib.hid ho
  have HZ := Lib.hid hz
  have HI := Lib.hid hi
  have hwl : (woN l z e).length ≤ l.length := woTo_len _ _ _ _
  have NP : Hid (∀ A c W, Rd W W.heap.size A (woN l z e).length (I64 (ofN (woN l z e))) → Calls Try.prog 43 #[.slice A (woN l z e).length c, .int .i64 (heirN l b r e), .int .i64 (lone + x)] W (NewMap W (woN l z e) b' (heirN l b r e) (lone + x))) := fun A c W hrd => new_ok A _ c (woN l z e) b' (heirN l b r e) (lone + x) W hrd hi' hev (by omega) hrt hx0 hx1
  obtain ⟨c2, hc2⟩ : ∃ c2 : Nat, (l.length : Int) - 2 = (c2 : Int) := ⟨l.length - 2, by omega⟩
  obtain ⟨i0, hi0, hz0, hz1, hz2⟩ := info_parts info_int
  have hc2b : i0.bytes * c2 ≤ 281474976710656 := by rw [hz2]; omega
  have hc2m : c2 ≤ maxLen := by simp only [maxLen]; omega
  have wl : IntKind.i64.wrap (lone + x) = lone + x := by simp [IntKind.wrap, IntKind.signed, IntKind.bits]; omega
  have wc : IntKind.i64.wrap ((l.length : Int) - 2) = (c2 : Int) := by rw [hc2]; simp [IntKind.wrap, IntKind.signed, IntKind.bits]; omega
  have Z0 := Below.refl w.heap.size w
  have W0 : Hid (woTo l z e 0 = []) := rfl
  have WE : Hid (woTo l z e l.length = woN l z e) := rfl
  clear h hf ho hz hi hi' hev hrt
  generalize heirN l b r e = HR at *
  generalize woN l z e = WN at *
  go_enter Try.func61, Try.ntmps61
  go_wp2_with fail
  refine (DP.out _ Z0).mono ?_
  rintro en w1 ⟨rfl, z1⟩
  have Z1 := Z0.trans (z1.mono Z0.size)
  clear z1
  go_wp2_with (first
    | (at_make; go_must (refine wpList_make_own _ rfl _ _ 25 rfl w.heap.size 3 i0 (.int .i64 0) 1 Try.underlying25 hi0 hz0 hz1 .i64 .i64 _ c2 rfl rfl rfl hc2b hc2m Z1.size ?_)))
  intro w2 hown2 hg2
  have Z2 := Z1.trans (Below.appended (World.ownsRow_nil w1 w.heap.size 3 1) hg2 Z1.size)
  have HO2 := Lib.hid hown2
  clear hown2 hg2 Z1
  go_wp2_with fail
  refine (DP.out _ Z2).mono ?_
  rintro en w3 ⟨rfl, z⟩
  have HO3 := Lib.hid (own_below HO2.out z)
  have Z3 := Lib.hid (Z2.trans (z.mono Z2.size))
  clear z HO2 Z2 Z0
  generalize w1.heap.size = B1 at *
  go_wp2_with fail
  go_loopw [10, 19] (fun s i wr => ∃ (k q : Nat) (Av : Option Addr) (cv : Nat), k ≤ l.length ∧ q ≤ k ∧ i = .int .i64 (k : Int) ∧ s = .slice Av q cv ∧ Hid (q = (woTo l z e k).length) ∧ Hid (wr.ownsRow w.heap.size 3 1 (.slice Av q cv) q (I64 (ofN (woTo l z e k)))) ∧ Hid (Below w.heap.size w wr)) (fun _ i _ => l.length - (intOf i).toNat)
  case atStart => exact ⟨0, 0, _, _, by omega, by omega, rfl, rfl, by rw [W0.out]; rfl, by rw [W0.out]; exact HO3.out, Z3.out⟩
  case round =>
    clear HO3 Z3
    obtain ⟨k, q, Av, cv, hk, hqk, rfl, rfl, HQ, HOW, HB⟩ := hrel
    by_cases hlt : k < l.length
    · have hdk : decide (k < l.length) = true := by rw [decide_eq_true_iff]; exact hlt
      by_cases hke : k / 2 = e
      · have NX := Lib.hid (woTo_no l z e k hke)
        go_wp2_with fail
        refine (IT.out k _ hke (by omega)).mono ?_
        rintro en w' ⟨rfl, rfl⟩
        go_wp2_with fail
        go_roundw
        case rel => exact ⟨k + 1, q, Av, cv, by omega, by omega, by go_num, rfl, by rw [NX.out]; exact HQ.out, by rw [NX.out]; exact HOW.out, HB.out⟩
        case measure => simp [intOf]; omega
      · obtain ⟨v, hv⟩ : ∃ v, v = l.getD k 0 := ⟨_, rfl⟩
        have NX := Lib.hid (woTo_yes l z e k hke)
        have HOO := Lib.hid (HO.out k hlt hke)
        have SK := Lib.hid (SP.out k hlt)
        have hvl : v < l.length := by rw [hv]; exact HI.out.lt k hlt
        rw [← hv] at NX HOO SK
        obtain ⟨v1, hv1⟩ : ∃ v1, v1 = z.getD v 0 := ⟨_, rfl⟩
        have hv1l : v1 < l.length := by rw [hv1]; exact HZ.out v hvl
        obtain ⟨v2, hv2⟩ : ∃ v2, v2 = z.getD v1 0 := ⟨_, rfl⟩
        have hv2l : v2 < l.length := by rw [hv2]; exact HZ.out v1 hv1l
        have HU : Hid (outN z e v = if v / 2 ≠ e then v else if v1 / 2 ≠ e then v1 else v2) := by show _ = _; unfold outN; rw [← hv1, ← hv2]
        have HV1 := Lib.hid hv1
        have HV2 := Lib.hid hv2
        have HD : Hid ((v / 2 = e → v1 / 2 = e → v2 / 2 ≠ e) ∧ (v / 2 = e → v1 ≠ v)) := by
          have h0 := HOO.out
          rw [HU.out] at h0
          refine ⟨fun a c => by rw [if_neg (by omega), if_neg (by omega)] at h0; exact h0, fun a c => ?_⟩
          have e2 : v2 = v1 := by rw [hv2, c, ← hv1]; exact c
          rw [if_neg (by omega), if_neg (by omega)] at h0
          rw [e2, c] at h0
          exact h0 a
        clear hv hv1 hv2
        go_wp2_with fail
        refine (IF.out k _ hke (by omega)).mono ?_
        rintro en w' ⟨rfl, rfl⟩
        go_wp2_with fail
        refine (SK.out _ HB.out).mono ?_
        rintro en w4 ⟨rfl, zz⟩
        have HOW4 := Lib.hid (own_below HOW.out zz)
        have HB4 := Lib.hid (HB.out.trans (zz.mono HB.out.size))
        clear zz
        go_wp2_with fail
        go_loopw [12] (fun s wx => ∃ y : Nat, s = .int .i64 (y : Int) ∧ y < l.length ∧ (y = v ∨ (y = v1 ∧ v / 2 = e) ∨ (y = v2 ∧ v / 2 = e ∧ v1 / 2 = e)) ∧ Hid (Below w4.heap.size w4 wx)) (fun s _ => if intOf s = (v : Int) then 2 else if intOf s = (v1 : Int) then 1 else 0)
        case atStart => exact ⟨v, rfl, hvl, .inl rfl, Below.refl _ _⟩
        case round =>
          obtain ⟨y, rfl, hyl, hst, HX⟩ := hrel
          have HBX := Lib.hid (HB4.out.trans (HX.out.mono HB4.out.size))
          by_cases hye : y / 2 = e
          · have hbd : ∃ t, Hid (t = z.getD y 0) ∧ t < l.length ∧ ((t = v1 ∧ y = v ∧ v / 2 = e) ∨ (t = v2 ∧ y = v1 ∧ v / 2 = e ∧ v1 / 2 = e)) := by
              rcases hst with rfl | ⟨rfl, h1⟩ | ⟨rfl, h1, h2⟩
              · exact ⟨v1, HV1.out, hv1l, .inl ⟨rfl, rfl, hye⟩⟩
              · exact ⟨v2, HV2.out, hv2l, .inr ⟨rfl, rfl, h1, hye⟩⟩
              · exact absurd hye (HD.out.1 h1 h2)
            obtain ⟨t, ht, htl, hc⟩ := hbd
            have HC := Lib.hid hc
            have FP : Hid (∀ W, Below w.heap.size w W → Calls Try.prog 32 #[.pointer (some ⟨g, 0, none⟩), .int .i64 (y : Int)] W fun e w' => e = .returned (.int .i64 (t : Int)) ∧ Below W.heap.size W w') := fun W m => by rw [ht.out]; exact HF.out y hyl W m
            clear hst hc ht
            go_wp2_with fail
            refine (IT.out y _ hye (by omega)).mono ?_
            rintro en w' ⟨rfl, rfl⟩
            go_wp2_with fail
            refine (FP.out _ HBX.out).mono ?_
            rintro en w5 ⟨rfl, zz⟩
            have HX5 := Lib.hid (HX.out.trans (zz.mono HX.out.size))
            clear zz
            go_wp2_with fail
            go_roundw
            case rel =>
              refine ⟨t, rfl, htl, ?_, HX5.out⟩
              rcases HC.out with ⟨h1, h2, h3⟩ | ⟨h1, h2, h3, h4⟩
              · exact .inr (.inl ⟨h1, h3⟩)
              · exact .inr (.inr ⟨h1, h3, h4⟩)
            case measure =>
              show (if (t : Int) = (v : Int) then 2 else if (t : Int) = (v1 : Int) then 1 else 0) < (if (y : Int) = (v : Int) then 2 else if (y : Int) = (v1 : Int) then 1 else 0)
              rcases HC.out with ⟨h1, h2, h3⟩ | ⟨h1, h2, h3, h4⟩
              · have := HD.out.2 h3
                rw [if_neg (by omega), if_pos (by omega), if_pos (by omega)]; omega
              · have h5 := HD.out.2 h3
                have h6 := HD.out.1 h3 h4
                have h7 : v2 ≠ v := fun c => by rw [c] at h6; exact h6 h3
                have h8 : v2 ≠ v1 := fun c => by rw [c] at h6; exact h6 h4
                rw [if_neg (by omega), if_neg (by omega), if_neg (by omega), if_pos (by omega)]; omega
          · have HYO : Hid (outN z e v = y) := by
              show _ = _
              rw [HU.out]
              rcases hst with rfl | ⟨rfl, h1⟩ | ⟨rfl, h1, h2⟩
              · rw [if_pos hye]
              · rw [if_neg (by omega), if_pos hye]
              · rw [if_neg (by omega), if_neg (by omega)]
            clear hst
            obtain ⟨cy, hcy⟩ : ∃ cy, cy = calN e y := ⟨_, rfl⟩
            have CY : Hid (∀ W : World, Calls Try.prog 77 #[.int .i64 (y : Int), .int .i64 (e : Int)] W fun en w' => en = .returned (.int .i64 (cy : Int)) ∧ W = w') := fun W => by rw [hcy]; exact CP.out y W (by omega)
            have NX2 : Hid (ofN (woTo l z e (k + 1)) = ofN (woTo l z e k) ++ [(cy : Int)]) := by show _ = _; rw [NX.out, HYO.out, ← hcy, ofN_append]; rfl
            have NX3 : Hid ((woTo l z e (k + 1)).length = q + 1) := by show _ = _; rw [NX.out, List.length_append, ← HQ.out]; rfl
            have HOX := Lib.hid (own_below HOW4.out HX.out)
            have hown' := HOX.out.alloc (.cells #[.int .i64 (cy : Int)] 3)
            have r3 := Rd.new wr 3 #[.int .i64 (cy : Int)] 1 (I64 [(cy : Int)]) (by simp [I64]) (by simp)
            have t1 : q + 1 ≤ maxLen := by simp only [maxLen]; omega
            have t2 : (q + 1) * 8 ≤ 140737488355328 := by omega
            have t3 : w.heap.size ≤ (wr.alloc (.cells #[.int .i64 (cy : Int)] 3)).heap.size := by have := HBX.out.size; simp; omega
            clear hcy
            go_wp2_with fail
            refine (IF.out y _ hye (by omega)).mono ?_
            rintro en w' ⟨rfl, rfl⟩
            go_wp2_with fail
            refine (CY.out _).mono ?_
            rintro en w' ⟨rfl, rfl⟩
            go_wp2_with (first
              | (at_builtin; go_must (refine wpList_append_rd _ rfl _ _ 25 rfl w.heap.size 3 i0 (.int .i64 0) 8 Try.underlying25 hi0 hz0 hz1 hz2 rfl (.slice Av q cv) q (I64 (ofN (woTo l z e k))) rfl hown' (wr.heap.size + 1) (some ⟨wr.heap.size, 0, none⟩) 1 1 (I64 [(cy : Int)]) rfl r3 (I64_one _) t1 t2 t3 ?_)))
            intro A6 c6 w6 hc6 hm6 hown6 hg6 _
            have hb6 : Below w.heap.size w w6 := (HBX.out.trans ((Below.refl w.heap.size wr).alloc HBX.out.size _)).trans (Below.appended hown' hg6 t3)
            rw [← I64_append, ← NX2.out] at hown6
            have HO6 := Lib.hid hown6
            have HB6 := Lib.hid hb6
            clear hown6 hb6 hg6 r3 hown'
            go_wp2_with fail
            go_roundw
            case rel => exact ⟨k + 1, q + 1, A6, c6, by omega, by omega, by go_num, rfl, NX3.out.symm, HO6.out, HB6.out⟩
            case measure => simp [intOf]; omega
    · obtain rfl : k = l.length := by omega
      have hdk : decide (l.length < l.length) = false := by simp
      rw [WE.out] at HQ HOW
      have hq := HQ.out
      subst hq
      have HR := Lib.hid (Rd.ofOwn HOW.out)
      clear HQ
      go_wp2_with fail
      refine (HP.out _ HB.out).mono ?_
      rintro en w4 ⟨rfl, zz⟩
      have HB4 := Lib.hid (HB.out.trans (zz.mono HB.out.size))
      have HR4 := Lib.hid (HR.out.more zz)
      clear zz HR
      go_wp2_with fail
      refine (LP.out _ HB4.out).mono ?_
      rintro en w' ⟨rfl, rfl⟩
      go_wp2_with fail
      refine (NP.out _ _ _ HR4.out).mono ?_
      rintro en w5 ⟨g5, rfl, hm, b5, hlo⟩
      have HMM := Lib.hid hm
      have hs := HB4.out.size
      have HLO := Lib.hid (show MapLo w.heap.size w5 g5 from by
        obtain ⟨p, A, n, c, S, k, d, q, A', n', c', S', k', d', rt, ln, hb, h1, h2, h3, h4, h5, h6, h7⟩ := hlo
        exact ⟨p, A, n, c, S, k, d, q, A', n', c', S', k', d', rt, ln, hb, Nat.le_trans hs h1, h2.le hs, h3.le hs, h4.le hs, h5.le hs, h6.le hs, h7.le hs⟩)
      have BB := Lib.hid (HB4.out.trans (b5.mono hs))
      clear hm hlo b5
      go_wp2_with fail
      go_ret2
      exact ⟨g5, rfl, HMM.out, BB.out, HLO.out⟩
end Go.Proofs.Ythbhbcakiaaapaa
