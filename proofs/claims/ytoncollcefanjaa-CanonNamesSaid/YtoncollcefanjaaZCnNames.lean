/- CanonNames: the walk. -/
import Derived.Test.YtoncollcefanjaaZg21
import Derived.Test.YtoncollcefanjaaZCnRCanon
import Derived.Test.YtoncollcefanjaaZg1
import Derived.Deep.RegionHeld3
namespace Go.Proofs.Ytoncollcefanjaa
set_option maxRecDepth 100000
open Go.RowKit
set_option linter.unusedVariables false
set_option linter.unusedSimpArgs false
theorem canA_root0 {l b : List Nat} {r : Nat} {P Q : List Nat} (h : CanA l r P Q) (hl : Inv l b) (hr : r < l.length) : sgL P r = 0 := by
  have he := h.nam.ev
  obtain ⟨ds, e⟩ := wlk_head hl he hr
  have hlt := looks_lt hl he hr
  have e2 : (starts l r).flatMap (wlk l) = r :: (ds ++ (starts l r).tail.flatMap (wlk l)) := by
    show (r :: (starts l r).tail).flatMap (wlk l) = _
    rw [List.flatMap_cons, e]; rfl
  have k := (LK.start l.length).first he (ds ++ (starts l r).tail.flatMap (wlk l)) hr (fun d hd => hlt d (by rw [e2]; exact List.mem_cons_of_mem _ hd)) (by simp [List.getD_eq_getElem?_getD, hr])
  have g : (lookL l.length ((starts l r).flatMap (wlk l))).1.getD r 0 = ((0 : Nat) : Int) := by rw [e2]; exact k
  rw [h.is, ofN_get] at g
  have : ((sgL P r : Nat) : Int) = ((0 : Nat) : Int) := g
  omega
theorem canO_root {l b : List Nat} {root : Int} {P Q : List Nat} (hl : Inv l b) (h : CanO l root P Q) : reRoot P root = min 0 ((l.length : Int) - 1) := by
  rcases h with ⟨h0, rfl, rfl, rfl⟩ | ⟨r, rfl, hr, h⟩
  · rw [h0]; rfl
  · rw [reRoot_nat, canA_root0 h hl hr]; omega
set_option maxHeartbeats 16000000 in
theorem canonNames_walk (A0 : Option Addr) (n m0 c0 rr lo : Nat) (by_ : List Int) (w : World) (hn : n < 256) (hrr : rr < 256) (hlo : lo < 256)
    (h0 : Rd w w.heap.size A0 m0 (Z8 by_)) (hb0 : ∀ x ∈ by_, 0 ≤ x ∧ x < 256) (hmc0 : m0 ≤ c0) (hcm0 : c0 ≤ maxLen) :
    Calls Try.prog 3 #[.int .u8 (n : Int), .slice A0 m0 c0, .int .u8 (rr : Int), .int .u8 (lo : Int)] w fun e w' => e = .returned (.bool true) ∧ Below w.heap.size w w' := by
  have hcm0' : c0 ≤ 9223372036854775807 := by unfold maxLen at hcm0; omega
  have AW := Lib.hid (awake11_p w)
  have H0 := Lib.hid h0
  have HB0 := Lib.hid hb0
  obtain ⟨kk, hkk⟩ : ∃ kk, kk = n % 12 := ⟨_, rfl⟩
  have hkb : kk < 12 := by omega
  have y1 : (n : Int) % 12 = (kk : Int) := by omega
  have y2 : (n : Int).tmod 12 = (kk : Int) := by rw [Int.tmod_eq_emod_of_nonneg (by omega)]; omega
  obtain ⟨q, hq⟩ : ∃ q, q = lo % 4 := ⟨_, rfl⟩
  have hqb : q < 4 := by omega
  have y3 : (lo : Int) % 4 = (q : Int) := by omega
  have y4 : (lo : Int).tmod 4 = (q : Int) := by rw [Int.tmod_eq_emod_of_nonneg (by omega)]; omega
  clear h0 hb0 hkk hcm0 hq
  go_enter Try.func3, Try.ntmps3
  go_wp2_with fail
  refine AW.out.mono ?_
  rintro e w1 ⟨rfl, b1⟩
  have B1 := Lib.hid b1
  have AN := Lib.hid (any_p kk rr m0 c0 w.heap.size A0 by_ w1 (H0.out.below b1) HB0.out b1.size (by omega) hrr (by omega))
  clear b1 AW H0 HB0
  go_wp2_with fail
  refine AN.out.mono ?_
  rintro e w2 ⟨v, l, b, root, rfl, hrm, hl, hroot, b2⟩
  obtain ⟨hinv, A, cA, hla, rfl, hlc, hcA, hrA⟩ := hrm
  obtain ⟨N, hN⟩ : ∃ N, N = l.length := ⟨_, rfl⟩
  have HNN := Lib.hid hN
  have hN2 : N = 2 * kk := by omega
  have HN2 := Lib.hid hN2
  rw [← hN] at hrA ⊢
  rw [← hN2] at hroot
  have HRT : Hid (RootOk root l.length) := by rw [← hN]; exact hroot
  have HEV : Hid (l.length % 2 = 0) := by show _ = _; omega
  have HI := Lib.hid hinv
  have HNi := Lib.hid info_rmap
  have bx := (Below.refl w2.heap.size w2).alloc (Nat.le_refl _) (.cells #[.slice A N cA, .int .i64 root, .int .i64 (q : Int)] 26)
  have XB := Lib.hid (Blk.new w2 26 #[.slice A N cA, .int .i64 root, .int .i64 (q : Int)])
  have B2a := B1.out.trans (b2.mono B1.out.size)
  have B3 : Hid (Below w.heap.size w (w2.alloc (.cells #[.slice A N cA, .int .i64 root, .int .i64 (q : Int)] 26))) := B2a.trans (bx.mono B2a.size)
  have hN22 : N ≤ 22 := by omega
  have RA := Lib.hid (hrA.more bx)
  clear hinv hla hlc hcA hrA b2 bx B2a B1 AN hl hroot hN2
  obtain ⟨P, Q, hC⟩ := canO_is (b := b) HI.out HEV.out HRT.out
  have HC := Lib.hid hC
  have hnam : Nam l.length P Q := CanO.nam (b := b) hC
  have HPL : Hid (P.length = N) := by show _ = _; rw [hN]; exact hnam.len
  have hcl : (cjL P Q l).length = N := by rw [cjL_len, hN]
  have HCL := Lib.hid hcl
  have HRM : Hid (reRoot P root = min 0 ((N : Int) - 1)) := by rw [hN]; exact canO_root HI.out hC
  clear hN hC hnam hcl
  go_upto_region 5 with fail
  generalize w2.alloc (.cells #[.slice A N cA, .int .i64 root, .int .i64 (q : Int)] 26) = w3 at *
  generalize w2.heap.size = gx at *
  have OFX : Hid (∀ W, Below w3.heap.size w3 W → Calls Try.prog 12 #[.agg #[.slice A N cA, .int .i64 root, .int .i64 (q : Int)]] W fun e w' => ∃ g, e = .returned (.pointer (some ⟨g, 0, none⟩)) ∧ MapAt w' g l b root (q : Int) ∧ Below W.heap.size W w') := fun W mm => by
    have := of11_p A cA l b root (q : Int) W (by have := RA.out.more mm; rwa [HNN.out] at this) HI.out HEV.out (by have := HNN.out; omega) HRT.out (by omega) (by omega)
    rwa [← HNN.out] at this
  have RCX : Hid (∀ W, Below w3.heap.size w3 W → Calls Try.prog 13 #[.agg #[.slice A N cA, .int .i64 root, .int .i64 (q : Int)]] W (RCPost W N l P Q root (q : Int))) := fun W mm => by
    have := rcanon_p A cA l b root (q : Int) P Q W (by have := RA.out.more mm; rwa [HNN.out] at this) HI.out HEV.out (by have := HNN.out; omega) HRT.out HC.out
    rwa [← HNN.out] at this
  have RNX : Hid (∀ W, Below w3.heap.size w3 W → Calls Try.prog 16 #[.agg #[.slice A N cA, .int .i64 root, .int .i64 (q : Int)]] W (NewI64 W (ofN P))) := fun W mm => by
    have := rcnames_p A cA l b root (q : Int) P Q W (by have := RA.out.more mm; rwa [HNN.out] at this) HI.out HEV.out (by have := HNN.out; omega) HRT.out HC.out
    rwa [← HNN.out] at this
  have x0 := XB.out.cell 0
  have x1 := XB.out.cell 1
  have x2 := XB.out.cell 2
  simp at x0 x1 x2
  go_wp2_with fail
  refine (OFX.out _ (Below.refl _ _)).mono ?_
  rintro e w4 ⟨g, rfl, m4, z⟩
  have Z4 := Lib.hid z
  have C1 := Lib.hid (canon_any g l b root (q : Int) P Q w4 m4 HI.out HC.out)
  clear z m4 x0 x1 x2
  go_wp2_with fail
  refine C1.out.mono ?_
  rintro e w5 ⟨gc, gp, rfl, m5, k5, z⟩
  have Z5 := Lib.hid (Z4.out.trans (z.mono Z4.out.size))
  have M5 := Lib.hid m5
  have K5 := Lib.hid k5
  have XB5 := XB.out.below Z5.out
  have x0 := XB5.cell 0
  have x1 := XB5.cell 1
  have x2 := XB5.cell 2
  simp at x0 x1 x2
  clear z m5 k5 C1 Z4 XB5
  go_wp2_with fail
  refine (RCX.out _ Z5.out).mono ?_
  rintro e w6 ⟨AY, cY, rfl, hcY, hcY2, oY, z⟩
  obtain ⟨ry, hry⟩ : ∃ ry, ry = reRoot P root := ⟨_, rfl⟩
  rw [← hry] at M5 HRM ⊢
  have HRY := Lib.hid hry
  have bx := (Below.refl w6.heap.size w6).alloc (Nat.le_refl _) (.cells #[.slice AY N cY, .int .i64 ry, .int .i64 (q : Int)] 26)
  have YB := Lib.hid (Blk.new w6 26 #[.slice AY N cY, .int .i64 ry, .int .i64 (q : Int)])
  have zb := z.trans (bx.mono z.size)
  have Z6 := Lib.hid (Z5.out.trans (zb.mono Z5.out.size))
  have M6 := Lib.hid (M5.out.below zb)
  have K6 := Lib.hid (K5.out.below zb)
  have RY := Lib.hid ((Rd.ofOwn oY).more bx)
  have yy0 := YB.out.cell 0
  have yy1 := YB.out.cell 1
  have yy2 := YB.out.cell 2
  simp at yy0 yy1 yy2
  clear hry z zb bx oY Z5 M5 K5 hcY hcY2 x0 x1 x2 RCX yy0 yy1 yy2
  go_upto_region 7 with fail
  generalize w6.alloc (.cells #[.slice AY N cY, .int .i64 ry, .int .i64 (q : Int)] 26) = wa at *
  generalize w6.heap.size = gy at *
  have hgx := (XB.out.below Z6.out).lt
  have hgy := YB.out.lt
  have XBA := XB.out.below Z6.out
  have x0 := XBA.cell 0
  have x1 := XBA.cell 1
  have x2 := XBA.cell 2
  have yy0 := YB.out.cell 0
  have yy1 := YB.out.cell 1
  have yy2 := YB.out.cell 2
  simp at x0 x1 x2 yy0 yy1 yy2
  obtain ⟨own, hown⟩ : ∃ own : Bool, own = decide (root = ry ∧ l = cjL P Q l) := ⟨_, rfl⟩
  have HOWN := Lib.hid hown
  have EQ : Hid (Calls Try.prog 14 #[.slice A N cA, .slice AY N cY] wa fun e w' => e = .returned (.bool (decide (l = cjL P Q l))) ∧ Below wa.heap.size wa w') :=
    (equalI_any A AY N cA N cY _ _ (ofN l) (ofN (cjL P Q l)) wa (RA.out.more Z6.out) RY.out (by omega) (by omega)).mono fun e w' ⟨he, j, hw⟩ => ⟨by
      rw [he]
      have : decide (ofN l = ofN (cjL P Q l)) = decide (l = cjL P Q l) := decide_eq_decide.2 ⟨ofN_injC, fun e => by rw [← e]⟩
      rw [this], by rw [hw]; exact below_draws (Below.refl _ _) j⟩
  have SK : Hid (∀ W, Below wa.heap.size wa W → Below wa.heap.size wa W ∧ W.cell? ⟨gx, 0, none⟩ = some (.slice A N cA) ∧ W.cell? ⟨gx, 1, none⟩ = some (.int .i64 root) ∧ W.cell? ⟨gx, 2, none⟩ = some (.int .i64 (q : Int)) ∧ W.cell? ⟨gy, 0, none⟩ = some (.slice AY N cY) ∧ W.cell? ⟨gy, 1, none⟩ = some (.int .i64 ry)) := fun W m => ⟨m, (m.cell (p := ⟨gx, 0, none⟩) hgx).trans x0, (m.cell (p := ⟨gx, 1, none⟩) hgx).trans x1, (m.cell (p := ⟨gx, 2, none⟩) hgx).trans x2, (m.cell (p := ⟨gy, 0, none⟩) hgy).trans yy0, (m.cell (p := ⟨gy, 1, none⟩) hgy).trans yy1⟩
  clear XBA hgx hgy yy2
  go_cut [14] (fun s wx => s = .bool own ∧ Hid (Below wa.heap.size wa wx))
  case first =>
    by_cases hq : l = cjL P Q l
    · rw [decide_eq_true hq] at EQ
      have hbb : ((root : Int) == ry) = own := by
        rw [hown]
        by_cases c : root = ry
        · rw [decide_eq_true ⟨c, hq⟩, c]; simp
        · rw [decide_eq_false fun h => c h.1, beq_eq_false_iff_ne]; exact c
      clear hq hown
      go_wp2_with fail
      refine EQ.out.mono ?_
      rintro e wb ⟨rfl, z⟩
      have Z := Lib.hid z
      obtain ⟨_, v0, v1, v2, v3, v4⟩ := SK.out _ z
      clear z x0 x1 x2 yy0 yy1
      go_wp2_with fail
      go_meet
      exact ⟨by simp [hbb], Z⟩
    · rw [decide_eq_false hq] at EQ
      have hof : own = false := by rw [hown]; exact decide_eq_false fun h => hq h.2
      clear hq hown
      go_wp2_with fail
      refine EQ.out.mono ?_
      rintro e wb ⟨rfl, z⟩
      have Z := Lib.hid z
      clear z x0 x1 x2 yy0 yy1
      go_wp2_with fail
      go_meet
      exact ⟨by rw [hof], Z⟩
  case rest =>
    obtain ⟨rfl, HB⟩ := hcut
    obtain ⟨wd, rfl⟩ : ∃ wd, wd = wc := ⟨_, rfl⟩
    have ZD := Lib.hid (Z6.out.trans (HB.out.mono Z6.out.size))
    have BD := Lib.hid (B3.out.trans (ZD.out.mono B3.out.size))
    have SKD : Hid (∀ W, Below wd.heap.size wd W → Below wd.heap.size wd W ∧ W.cell? ⟨gx, 0, none⟩ = some (.slice A N cA) ∧ W.cell? ⟨gx, 1, none⟩ = some (.int .i64 root) ∧ W.cell? ⟨gx, 2, none⟩ = some (.int .i64 (q : Int)) ∧ W.cell? ⟨gy, 0, none⟩ = some (.slice AY N cY) ∧ W.cell? ⟨gy, 1, none⟩ = some (.int .i64 ry)) := fun W m => ⟨m, (SK.out W (HB.out.trans (m.mono HB.out.size))).2⟩
    have MD := Lib.hid (M6.out.below HB.out)
    have KD := Lib.hid (K6.out.below HB.out)
    have RYD := Lib.hid (RY.out.more HB.out)
    have K1 : Hid (∀ W, Below wd.heap.size wd W → Calls Try.prog 15 #[.pointer (some ⟨gp, 0, none⟩)] W fun e w' => ∃ A9 c9, e = .returned (.slice A9 N c9) ∧ Rd w' w'.heap.size A9 N (I64 (ofN P)) ∧ Below wd.heap.size wd w') := fun W mm => by
      refine (list_p gp P Q W (KD.out.below mm)).mono ?_
      rintro e w' ⟨A9, c9, rfl, _, _, o, z⟩
      rw [ofN_len, HPL.out] at o ⊢
      exact ⟨A9, c9, rfl, Rd.ofOwn o, mm.trans (z.mono mm.size)⟩
    have K2 : Hid (∀ W, Below wd.heap.size wd W → Calls Try.prog 16 #[.agg #[.slice A N cA, .int .i64 root, .int .i64 (q : Int)]] W fun e w' => ∃ A9 c9, e = .returned (.slice A9 N c9) ∧ Rd w' w'.heap.size A9 N (I64 (ofN P)) ∧ Below W.heap.size W w' ∧ Below wd.heap.size wd w') := fun W mm => by
      refine (RNX.out W (ZD.out.trans (mm.mono ZD.out.size))).mono ?_
      rintro e w' ⟨A9, c9, rfl, _, _, o, z⟩
      rw [ofN_len, HPL.out] at o ⊢
      exact ⟨A9, c9, rfl, Rd.ofOwn o, z, mm.trans (z.mono mm.size)⟩
    have K3 : Hid (∀ A9 A10 c9 c10 W, Rd W W.heap.size A9 N (I64 (ofN P)) → Rd W W.heap.size A10 N (I64 (ofN P)) → Below wd.heap.size wd W → Calls Try.prog 14 #[.slice A9 N c9, .slice A10 N c10] W fun e w' => e = .returned (.bool true) ∧ Below wd.heap.size wd w') := fun A9 A10 c9 c10 W h1 h2 hb =>
      (equalI_any A9 A10 N c9 N c10 _ _ (ofN P) (ofN P) W h1 h2 (by omega) (by omega)).mono fun e w'' ⟨he, j, hw⟩ => ⟨by rw [he, decide_eq_true rfl], by rw [hw]; exact below_draws hb j⟩
    have K4 : Hid (∀ W, Below wd.heap.size wd W → Calls Try.prog 17 #[.pointer (some ⟨gc, 0, none⟩)] W fun e w' => ∃ A9 c9, e = .returned (.slice A9 N c9) ∧ Rd w' w'.heap.size A9 N (I64 (ofN (cjL P Q l))) ∧ Below wd.heap.size wd w') := fun W mm => by
      refine (mlist_p gc _ _ _ _ W (MD.out.below mm)).mono ?_
      rintro e w' ⟨A9, c9, rfl, _, _, o, z⟩
      rw [ofN_len, HCL.out] at o ⊢
      exact ⟨A9, c9, rfl, Rd.ofOwn o, mm.trans (z.mono mm.size)⟩
    have K5 : Hid (∀ A9 c9 W, Rd W W.heap.size A9 N (I64 (ofN (cjL P Q l))) → Below wd.heap.size wd W → Calls Try.prog 14 #[.slice A9 N c9, .slice AY N cY] W fun e w' => e = .returned (.bool true) ∧ Below wd.heap.size wd w') := fun A9 c9 W h1 hb =>
      (equalI_any A9 AY N c9 N cY _ _ (ofN (cjL P Q l)) (ofN (cjL P Q l)) W h1 (RYD.out.more hb) (by omega) (by omega)).mono fun e w'' ⟨he, j, hw⟩ => ⟨by rw [he, decide_eq_true rfl], by rw [hw]; exact below_draws hb j⟩
    have K6R : Hid (∀ W, Below wd.heap.size wd W → Calls Try.prog 18 #[.pointer (some ⟨gc, 0, none⟩)] W fun e w' => e = .returned (.int .i64 ry) ∧ Below wd.heap.size wd w') := fun W m => (root_p gc _ _ _ _ W (MD.out.below m)).mono fun e w' ⟨h1, h2⟩ => ⟨h1, h2 ▸ m⟩
    have K7 : Hid (∀ W, Below wd.heap.size wd W → Calls Try.prog 19 #[.pointer (some ⟨gc, 0, none⟩)] W fun e w' => e = .returned (.int .i64 (q : Int)) ∧ Below wd.heap.size wd w') := fun W m => (lone_p gc _ _ _ _ W (MD.out.below m)).mono fun e w' ⟨h1, h2⟩ => ⟨h1, h2 ▸ m⟩
    have K8 : Hid (∀ W, Below wd.heap.size wd W → Calls Try.prog 12 #[.agg #[.slice A N cA, .int .i64 root, .int .i64 (q : Int)]] W fun e w' => ∃ g, e = .returned (.pointer (some ⟨g, 0, none⟩)) ∧ MapAt w' g l b root (q : Int) ∧ Below wd.heap.size wd w') := fun W mm => (OFX.out W (ZD.out.trans (mm.mono ZD.out.size))).mono fun e w' ⟨g, h1, h2, h3⟩ => ⟨g, h1, h2, mm.trans (h3.mono mm.size)⟩
    have K9 : Hid (∀ g W, MapAt W g l b root (q : Int) → Below wd.heap.size wd W → Calls Try.prog 20 #[.pointer (some ⟨g, 0, none⟩)] W fun e w' => e = .returned (.bool own) ∧ Below wd.heap.size wd w') := fun g W h1 mm => by
      have h2 := cis_p g l b root (q : Int) P Q W h1 HI.out HC.out
      rw [← HRY.out, ← HOWN.out] at h2
      exact h2.mono fun e w' ⟨h3, h4⟩ => ⟨h3, mm.trans (h4.mono mm.size)⟩
    have wq : IntKind.i64.wrap ((N : Int) - 1) = (N : Int) - 1 := by simp [IntKind.wrap, IntKind.signed, IntKind.bits]; omega
    have hmin : ∀ W ty, (Builtin.min_ #[3, 3] ty #[.int .i64 0, .int .i64 ((N : Int) - 1)]).run Try.prog W = .ok (.int .i64 ry) W := fun W ty => by
      rw [HRM.out]
      simp [Builtin.min_, Builtin.min2]
      split <;> omega
    have hba0 := Below.refl wd.heap.size wd
    have hba1 := hba0.drew
    clear x0 x1 x2 yy0 yy1 OFX RNX EQ SK HB hown
    obtain ⟨_, x0, x1, x2, yy0, yy1⟩ := SKD.out _ hba0
    obtain ⟨_, zx0, zx1, zx2, zy0, zy1⟩ := SKD.out _ hba1
    go_upto_region 8 with fail
    go_region_held3 (fun W => Below wd.heap.size wd W ∧ W.cell? ⟨gx, 0, none⟩ = some (.slice A N cA) ∧ W.cell? ⟨gx, 1, none⟩ = some (.int .i64 root) ∧ W.cell? ⟨gx, 2, none⟩ = some (.int .i64 (q : Int)) ∧ W.cell? ⟨gy, 0, none⟩ = some (.slice AY N cY) ∧ W.cell? ⟨gy, 1, none⟩ = some (.int .i64 ry))
      (exact SKD.out _ (by assumption))
      (first
      | (go_at_call 20; (with_reducible refine (K9.out _ _ hm2 (by assumption)).mono ?_); rintro e wz ⟨rfl, hend⟩)
      | (go_at_call 12; (with_reducible refine (K8.out _ (by assumption)).mono ?_); rintro e wz ⟨gh, rfl, hm2, hq8⟩)
      | (go_at_call 18; (with_reducible refine (K6R.out _ (by assumption)).mono ?_); rintro e wz ⟨rfl, hq6⟩)
      | (go_at_call 19; (with_reducible refine (K7.out _ (by assumption)).mono ?_); rintro e wz ⟨rfl, hq7⟩)
      | (go_at_call 14; (with_reducible refine (K5.out _ _ _ r11 (by assumption)).mono ?_); rintro e wz ⟨rfl, hq5⟩)
      | (go_at_call 17; (with_reducible refine (K4.out _ (by assumption)).mono ?_); rintro e wz ⟨A11, c11, rfl, r11, hq4⟩)
      | (go_at_call 14; (with_reducible refine (K3.out _ _ _ _ _ r9b r10 (by assumption)).mono ?_); rintro e wz ⟨rfl, hq3⟩)
      | (go_at_call 16; (with_reducible refine (K2.out _ (by assumption)).mono ?_); rintro e wz ⟨A10, c10, rfl, r10, hbr, hq2⟩; have r9b := r9.more hbr; clear hbr)
      | (go_at_call 15; (with_reducible refine (K1.out _ (by assumption)).mono ?_); rintro e wz ⟨A9, c9, rfl, r9, hq1⟩))
    all_goals (
      go_wp2_with fail
      go_ret
      exact ⟨by simp, BD.out.trans (hend.mono BD.out.size)⟩)
end Go.Proofs.Ytoncollcefanjaa
