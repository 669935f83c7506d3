/- least, Low. -/
import Derived.Test.YtdpejjokdncfnaaDoorQMate
import Derived.Test.YtdpejjokdncfnaaDoorQOver
import Derived.Deep.RegionHeld3
namespace Go.Proofs.YtdpejjokdncfnaaDoor
open Go.RowKit
set_option linter.unusedVariables false
set_option maxRecDepth 20000
theorem mn_bnd {E : Nat → Int} (hE : Exc E) {n : Nat} (hn : n ≤ 1000000) (a k : Nat) (h : a + k ≤ n) : -1000000 ≤ mn E a k ∧ mn E a k ≤ 1000000 := by
  obtain ⟨i, h1, h2, h3⟩ := mn_at E a k
  have := hE.bound i
  omega
section
variable (p g V n q : Nat) (d : Bool) (w : World)
def LeastP (w : World) (p g V n q : Nat) (d : Bool) (x : Int) (e : Ending) (w' : World) : Prop := e = .returned (.int .i64 x) ∧ PAt w' p g V n d (q + 1) ∧ Mod (fun i => i = g) w w'
set_option maxHeartbeats 4000000 in
theorem least_p (a b : Nat) (h : PAt w p g V n d q) (hab : a ≤ b) (hbn : b ≤ n) (hq : q ≤ 1000000) :
    Calls Tryd.prog 37 #[.pointer (some ⟨p, 0, none⟩), .int .i64 (a : Int), .int .i64 (b : Int)] w (LeastP w p g V n q d (mn (exc V) a (b - a))) := by
  have hn := h.n9
  have EX := Lib.hid (excess_p p g V n q d w a h (by omega) hq)
  have HE := Lib.hid (exc_Exc V)
  clear h
  go_enter Tryd.func37, Tryd.ntmps37
  go_wp2_with fail
  refine EX.out.mono ?_
  rintro e w2 ⟨rfl, h2, m2⟩
  have H2 := Lib.hid h2
  have M2 := Lib.hid m2
  have hbd := HE.out.bound a
  obtain ⟨y0, hy0⟩ : ∃ y0, exc V a = y0 := ⟨_, rfl⟩
  rw [hy0] at hbd ⊢
  have HY0 := Lib.hid hy0
  clear h2 m2 EX hy0
  go_wp2_with fail
  go_loop [7, 8, 9] (fun z lo v => ∃ (i : Nat) (y l : Int), v = .int .i64 (i : Int) ∧ z = .int .i64 y ∧ lo = .int .i64 l ∧ a ≤ i ∧ i ≤ b ∧ -1000000 ≤ y ∧ y ≤ 1000000 ∧ Hid (exc V i = y) ∧ Hid (mn (exc V) a (i - a) = l)) (fun _ _ v => b - (intOf v).toNat)
  case atStart => exact ⟨a, y0, y0, rfl, rfl, rfl, by omega, by omega, by omega, by omega, HY0.out, by show mn _ _ _ = _; rw [Nat.sub_self]; exact HY0.out⟩
  case round =>
    clear hbd HY0
    obtain ⟨i, y, l, rfl, rfl, rfl, hai, hib, hy1, hy2, hy, hl⟩ := hrel
    by_cases hlt : i < b
    · have CH := Lib.hid (change_f p g V n (q + 1) w2 i H2.out.ix (by omega))
      obtain ⟨s, hs⟩ : ∃ s, exc V (i + 1) - exc V i = s := ⟨_, rfl⟩
      rw [hs] at CH
      have hst := HE.out.step i
      have hs1 : -1 ≤ s ∧ s ≤ 1 := by omega
      have HS : Hid (exc V (i + 1) = y + s) := by show _ = _; have := hy.out; omega
      have hbd := HE.out.bound (i + 1)
      rw [HS.out] at hbd
      have NM : Hid (mn (exc V) a (i + 1 - a) = if y + s < l then y + s else l) := by
        show _ = _
        rw [show i + 1 - a = (i - a) + 1 by omega]
        show min (mn (exc V) a (i - a)) (exc V (a + (i - a) + 1)) = _
        rw [show a + (i - a) + 1 = i + 1 by omega, hl.out, HS.out]
        split <;> omega
      clear hs hst
      by_cases hc : y + s < l
      · rw [if_pos hc] at NM
        go_wp2_with (go_at_call 28; refine CH.out.mono ?_; rintro e w' ⟨rfl, rfl⟩)
        go_round
        case rel => exact ⟨i + 1, y + s, y + s, by go_num, rfl, rfl, by omega, by omega, by omega, by omega, HS.out, NM.out⟩
        case measure => simp [intOf]; omega
      · rw [if_neg hc] at NM
        go_wp2_with (go_at_call 28; refine CH.out.mono ?_; rintro e w' ⟨rfl, rfl⟩)
        go_round
        case rel => exact ⟨i + 1, y + s, l, by go_num, rfl, rfl, by omega, by omega, by omega, by omega, HS.out, NM.out⟩
        case measure => simp [intOf]; omega
    · obtain rfl : i = b := by omega
      go_wp2_with fail
      go_ret
      exact ⟨by rw [hl.out]; rfl, H2.out, M2.out⟩
theorem low_nil (a b : Int) (w : World) : Calls Tryd.prog 22 #[.pointer none, .int .i64 a, .int .i64 b] w fun e w' => e = .returned (.tuple #[.int .i64 0, .int .i64 2]) ∧ w = w' := by
  have LN := Lib.hid fun w' => plen_nil w'
  have RN := Lib.hid fun w' => ready_nil a b 0 w'
  go_enter Tryd.func22, Tryd.ntmps22
  go_wp2_with (first
    | (go_at_call 15; refine (LN.out _).mono ?_; rintro e w' ⟨rfl, rfl⟩)
    | (go_at_call 31; refine (RN.out _).mono ?_; rintro e w' ⟨rfl, rfl⟩))
  go_ret2
  exact ⟨rfl, rfl⟩
theorem low_no (a b : Int) (h : PAt w p g V n d q) (hi : a < 0 ∨ b < a ∨ (n : Int) < b) :
    Calls Tryd.prog 22 #[.pointer (some ⟨p, 0, none⟩), .int .i64 a, .int .i64 b] w fun e w' => e = .returned (.tuple #[.int .i64 0, .int .i64 1]) ∧ w = w' := by
  have LN := Lib.hid (plen_p p g V n q w h.ix)
  have RN := Lib.hid (ready_no p a b (n : Int) w (by omega))
  clear h
  go_enter Tryd.func22, Tryd.ntmps22
  go_wp2_with (first
    | (go_at_call 15; refine LN.out.mono ?_; rintro e w' ⟨rfl, rfl⟩)
    | (go_at_call 31; refine RN.out.mono ?_; rintro e w' ⟨rfl, rfl⟩))
  go_ret2
  exact ⟨rfl, rfl⟩
set_option maxHeartbeats 8000000 in
theorem low_yes (a b : Nat) (hN : Nul w) (hpn : p ≠ 0) (hgn : g ≠ 0) (h : PAt w p g V n d q) (hab : a ≤ b) (hbn : b ≤ n) (hq : q ≤ 990000) :
    Calls Tryd.prog 22 #[.pointer (some ⟨p, 0, none⟩), .int .i64 (a : Int), .int .i64 (b : Int)] w (AskP w p g V n (q + 4) (fun x => x = mn (exc V) a (b - a))) := by
  have hn := h.n9
  have LN := Lib.hid (plen_p p g V n q w h.ix)
  have RO := Lib.hid (ready_ok p g V n q d (a : Int) (b : Int) (n : Int) w hN h hpn (by omega) (by omega) (by omega))
  have HE := Lib.hid (exc_Exc V)
  have HN := Lib.hid hN
  have BF := Lib.hid fun w' => blocksFor_p w' a (by omega)
  obtain ⟨f, hf⟩ : ∃ f, (a + 511) / 512 = f := ⟨_, rfl⟩
  rw [hf] at BF
  obtain ⟨t, ht, ht2⟩ : ∃ t : Nat, (b : Int) / 512 = (t : Int) ∧ t = b / 512 := ⟨b / 512, by omega, rfl⟩
  have hf1 : a ≤ 512 * f ∧ 512 * f < a + 512 := by omega
  have ht1 : 512 * t ≤ b := by omega
  have hmb := mn_bnd HE.out hn a (b - a) (by omega)
  clear h hN hf ht2
  go_enter Tryd.func22, Tryd.ntmps22
  go_wp2_with (go_at_call 15; refine LN.out.mono ?_; rintro e w' ⟨rfl, rfl⟩)
  refine RO.out.mono ?_
  rintro e w2 ⟨rfl, h2, m2⟩
  obtain ⟨S, M, K, T, c4, htr⟩ := h2.tr
  have n2 : Nul w2 := HN.out.mod m2 fun e => hpn e.symm
  have OV := Lib.hid (over_p w2 (exc V) HE.out n2 n S K M T htr hn M f t (by omega) (by omega))
  have H2 := Lib.hid h2
  have M2 : Hid (Mod (Two2 g p) w w2) := mod_p m2
  have N2 := Lib.hid n2
  clear h2 m2 RO LN htr n2 HN
  go_wp2_with (go_at_call 35; refine (BF.out _).mono ?_; rintro e w' ⟨rfl, rfl⟩)
  refine OV.out.mono ?_
  rintro e w3 ⟨rfl, b3⟩
  have H3 := Lib.hid (H2.out.below b3)
  have M3 : Hid (Mod (Two2 g p) w w3) := M2.out.two (Mod.none_ b3 _)
  have N3 := Lib.hid (N2.out.bel b3)
  have n31 := N3.out.s
  have n32 := N3.out.l
  have hz3 := N3.out.lt
  clear b3 OV M2 N2 H2 c4
  by_cases hft : f < t
  · have hre := nd_real (E := exc V) (n := n) (a := f) (b := t) (by omega) hft
    rw [Nat.min_eq_left (by omega)] at hre
    have hlow := nd_low (E := exc V) (n := n) (a := f) (b := t) (by omega) hft
    have hfits := nd_fits HE.out hn f t
    obtain ⟨⟨s, l⟩, hu⟩ : ∃ u, nd (exc V) n f t = u := ⟨_, rfl⟩
    rw [hu] at hlow hfits hre ⊢
    have hl0 : l ≤ 0 := hlow
    have hl1 : -2000000 ≤ l := hfits.b1
    have gl : (l == 2147483647) = false := by rw [beq_eq_false_iff_ne]; omega
    have hle : l = mn (exc V) (512 * f) (512 * t - 512 * f) - exc V (512 * f) := by
      have := congrArg Prod.snd hre
      exact this
    have ha1 : Hid (PAt (w3.alloc (.cells #[.int .i32 s, .int .i32 l] 82)) p g V n true q) := H3.out.below ((Below.refl _ _).alloc (Nat.le_refl _) _)
    have HB11 := Lib.hid (Blk.new w3 82 #[.int .i32 s, .int .i32 l])
    have hg3 : g < w3.heap.size := by have := H3.out.1; have := H3.out.lt; omega
    have M3a : Hid (Mod (Two2 g p) w (w3.alloc (.cells #[.int .i32 s, .int .i32 l] 82))) := M3.out.alloc _
    obtain ⟨ff, hff⟩ : ∃ ff, 512 * f = ff := ⟨_, rfl⟩
    obtain ⟨tt, htt⟩ : ∃ tt, 512 * t = tt := ⟨_, rfl⟩
    have eff : (f : Int) * 512 = (ff : Int) := by omega
    have ett : (t : Int) * 512 = (tt : Int) := by omega
    rw [hff, htt] at hle
    rw [hff] at hf1
    rw [htt] at ht1
    have hfft : ff ≤ tt := by omega
    obtain ⟨u1, hu1⟩ : ∃ u, mn (exc V) a (ff - a) = u := ⟨_, rfl⟩
    obtain ⟨u2, hu2⟩ : ∃ u, exc V ff = u := ⟨_, rfl⟩
    obtain ⟨u3, hu3⟩ : ∃ u, mn (exc V) tt (b - tt) = u := ⟨_, rfl⟩
    have hb2 := HE.out.bound ff
    rw [hu2] at hb2
    have hmid : mn (exc V) ff (tt - ff) = u2 + l := by rw [hu2] at hle; omega
    have hj1 := mn_join (exc V) a (ff - a) (b - ff)
    have hj2 := mn_join (exc V) ff (tt - ff) (b - tt)
    rw [show ff - a + (b - ff) = b - a by omega, show a + (ff - a) = ff by omega, hu1] at hj1
    rw [show tt - ff + (b - tt) = b - ff by omega, show ff + (tt - ff) = tt by omega, hmid, hu3] at hj2
    rw [hj2] at hj1
    have FIN := Lib.hid hj1
    have L1 : Hid (∀ w', PAt w' p g V n true q → Calls Tryd.prog 37 #[.pointer (some ⟨p, 0, none⟩), .int .i64 (a : Int), .int .i64 (ff : Int)] w' (LeastP w' p g V n q true u1)) := fun w' h' => by
      have := least_p p g V n q true w' a ff h' (by omega) (by omega) (by omega)
      rw [hu1] at this; exact this
    have X1 : Hid (∀ w', PAt w' p g V n true (q + 1) → Calls Tryd.prog 33 #[.pointer (some ⟨p, 0, none⟩), .int .i64 (ff : Int)] w' (LeastP w' p g V n (q + 1) true u2)) := fun w' h' => by
      have := excess_p p g V n (q + 1) true w' ff h' (by omega) (by omega)
      rw [hu2] at this; exact this
    have L2 : Hid (∀ w', PAt w' p g V n true (q + 2) → Calls Tryd.prog 37 #[.pointer (some ⟨p, 0, none⟩), .int .i64 (tt : Int), .int .i64 (b : Int)] w' (LeastP w' p g V n (q + 2) true u3)) := fun w' h' => by
      have := least_p p g V n (q + 2) true w' tt b h' (by omega) (by omega) (by omega)
      rw [hu3] at this; exact this
    clear hre hlow hfits hu hle hu1 hu2 hu3 hmid hj1 hj2 hff htt
    unfold ndv
    go_upto_region 6 with fail
    generalize hw4 : w3.alloc (.cells #[.int .i32 s, .int .i32 l] 82) = w4 at *
    have hz4 : 0 < w4.heap.size := by rw [← hw4]; simp
    have n41 : w4.cell? ⟨0, 0, none⟩ = some (.int .i32 0) := by rw [← hw4]; exact (World.cell?_alloc_lt _ _ _ hz3).trans n31
    have n42 : w4.cell? ⟨0, 1, none⟩ = some (.int .i32 2147483647) := by rw [← hw4]; exact (World.cell?_alloc_lt _ _ _ hz3).trans n32
    have d40 : w4.cell? ⟨w3.heap.size, 0, none⟩ = some (.int .i32 s) := HB11.out.cell 0
    have d41 : w4.cell? ⟨w3.heap.size, 1, none⟩ = some (.int .i32 l) := HB11.out.cell 1
    have hs34 : w3.heap.size < w4.heap.size := by rw [← hw4]; simp
    have HW4 := Lib.hid hw4
    clear n31 n32 hz3 hw4
    go_wp2_with fail
    have wl : IntKind.i64.wrap l = l := by rw [IntKind.wrap_i64]; omega
    have wul : IntKind.i64.wrap (u2 + l) = u2 + l := by rw [IntKind.wrap_i64]; omega
    generalize w3.heap.size = g11 at *
    have d41d : w4.drew.cell? ⟨g11, 1, none⟩ = some (.int .i32 l) := d41
    go_region_held3 (fun w' => w'.cell? ⟨g11, 1, none⟩ = some (.int .i32 l))
      (assumption)
      (first
      | (go_at_call 37; (with_reducible refine (L1.out _ (ha1.out.below (Below.refl _ _).drew)).mono ?_); rintro e w5 ⟨rfl, h5, m5⟩; have c5 : w5.cell? ⟨g11, 1, none⟩ = some (.int .i32 l) := (m5.cell (b := g11) (by first | exact hs34 | (show g11 < w4.heap.size; exact hs34)) (by omega) 1).trans d41; have hs5 : g11 < w5.heap.size := Nat.lt_of_lt_of_le hs34 m5.size; have H5 := Lib.hid h5; have M5 := Lib.hid m5; clear h5 m5)
      | (go_at_call 33; (with_reducible refine (X1.out _ H5.out).mono ?_); rintro e w6 ⟨rfl, h6, m6⟩; have c6 : w6.cell? ⟨g11, 1, none⟩ = some (.int .i32 l) := (m6.cell (b := g11) hs5 (by omega) 1).trans c5; have hs6 : g11 < w6.heap.size := Nat.lt_of_lt_of_le hs5 m6.size; have H6 := Lib.hid h6; have M6 := Lib.hid m6; clear h6 m6)
      | (go_at_call 37; (with_reducible refine (L2.out _ H6.out).mono ?_); rintro e w7 ⟨rfl, h7, m7⟩; have c7 : w7.cell? ⟨g11, 1, none⟩ = some (.int .i32 l) := (m7.cell (b := g11) hs6 (by omega) 1).trans c6; have H7 := Lib.hid h7; have M7 := Lib.hid m7; clear h7 m7))
    all_goals (
      have HV : (if u3 < (if u2 + l < u1 then u2 + l else u1) then u3 else (if u2 + l < u1 then u2 + l else u1)) = mn (exc V) a (b - a) := by
        rw [FIN.out]
        repeat' split
        all_goals omega
      rw [HV]
      have MF : Hid (Mod (Two2 g p) w w7) := ((((M3a.out.drew).two (mod_g M5.out)).two (mod_g M6.out)).two (mod_g M7.out))
      clear wl wul HV
      go_wp2_with fail
      go_ret2
      exact ⟨H7.out.le (by omega), MF.out, _, rfl, rfl, hmb.1, hmb.2⟩)
  · have hnu := nd_nul (E := exc V) (n := n) (a := f) (b := t) (.inr (by omega))
    rw [hnu]
    have ha1 : Hid (PAt (w3.alloc (.cells #[.int .i32 0, .int .i32 2147483647] 82)) p g V n true q) := H3.out.below ((Below.refl _ _).alloc (Nat.le_refl _) _)
    have M3a : Hid (Mod (Two2 g p) w (w3.alloc (.cells #[.int .i32 0, .int .i32 2147483647] 82))) := M3.out.alloc _
    have L1 := Lib.hid (least_p p g V n q true _ a b ha1.out hab hbn (by omega))
    unfold ndv nul
    clear hnu
    go_wp2_with fail
    refine L1.out.mono ?_
    rintro e w5 ⟨rfl, h5, m5⟩
    have H5 := Lib.hid h5
    have M5 : Hid (Mod (Two2 g p) w w5) := M3a.out.two (mod_g m5)
    clear h5 m5 L1
    go_wp2_with fail
    go_ret2
    exact ⟨H5.out.le (by omega), M5.out, _, rfl, rfl, hmb.1, hmb.2⟩
end
end Go.Proofs.YtdpejjokdncfnaaDoor
