/- of: a map of numbers as a map (layer 11). The canonical map of a canonical map, and of a map with another root: mathematics. CanonRoots: the walk. -/
import Derived.Test.YtoncollcefanjaaZg17
import Derived.Test.YtoncollcefanjaaZg20
import Derived.Test.YtoncollcefanjaaZDPhi
import Derived.Test.YtoncollcefanjaaZg19
import Derived.Test.YtoncollcefanjaaZg5
import Derived.Deep.RegionHeld3
namespace Go.Proofs.Ytoncollcefanjaa
set_option maxRecDepth 100000
open Go.RowKit
set_option linter.unusedVariables false
set_option linter.unusedSimpArgs false
set_option maxHeartbeats 2000000 in
theorem of11_p (A : Option Addr) (c : Nat) (l b : List Nat) (root lone : Int) (w : World) (h : Rd w w.heap.size A l.length (I64 (ofN l))) (hinv : Inv l b) (he : l.length % 2 = 0) (hn : l.length ≤ 1000) (hr : RootOk root l.length) (h0 : 0 ≤ lone) (h1 : lone ≤ 65536) :
    Calls Try.prog 12 #[.agg #[.slice A l.length c, .int .i64 root, .int .i64 lone]] w fun e w' => ∃ g, e = .returned (.pointer (some ⟨g, 0, none⟩)) ∧ MapAt w' g l b root lone ∧ Below w.heap.size w w' := by
  have hb0 := (Below.refl w.heap.size w).alloc (Nat.le_refl _) (.cells #[.slice A l.length c, .int .i64 root, .int .i64 lone] 26)
  have HX := Lib.hid (Blk.new w 26 #[.slice A l.length c, .int .i64 root, .int .i64 lone])
  have NO := Lib.hid (new_ok A l.length c l b root lone _ (h.more hb0) hinv he (by omega) hr h0 h1)
  have B0 := Lib.hid hb0
  have x0 := HX.out.cell 0
  have x1 := HX.out.cell 1
  have x2 := HX.out.cell 2
  simp at x0 x1 x2
  clear h hinv he hr hb0
  go_enter Try.func12, Try.ntmps12
  go_wp2_with fail
  refine NO.out.mono ?_
  rintro e w2 ⟨g, rfl, hm, b2, _⟩
  have HM := Lib.hid hm
  have B2 : Hid (Below w.heap.size w w2) := B0.out.trans (b2.mono (by simp))
  clear hm b2 NO B0
  go_wp2_with fail
  go_ret
  exact ⟨g, rfl, HM.out, B2.out⟩
end Go.Proofs.Ytoncollcefanjaa
namespace Go.Proofs.Ytoncollcefanjaa
set_option maxRecDepth 20000
open Go.RowKit
set_option linter.unusedVariables false
set_option linter.unusedSimpArgs false
theorem canO_again {l b : List Nat} {root : Int} {P Q P' Q' : List Nat} (hl : Inv l b) (h : CanO l root P Q) (h' : CanO (cjL P Q l) (reRoot P root) P' Q') :
    P' = List.range l.length ∧ cjL P' Q' (cjL P Q l) = cjL P Q l ∧ reRoot P' (reRoot P root) = reRoot P root := by
  rcases h with ⟨h0, rfl, rfl, rfl⟩ | ⟨r, rfl, hr, h⟩
  · have hl0 : l = [] := List.eq_nil_of_length_eq_zero h0
    subst hl0
    rcases h' with ⟨_, _, rfl, rfl⟩ | ⟨r, h1, _⟩
    · exact ⟨rfl, rfl, rfl⟩
    · exact absurd h1 (by show ¬ ((-1 : Int) = (r : Int)); omega)
  · rw [reRoot_nat] at h' ⊢
    rcases h' with ⟨h0, _⟩ | ⟨r', h1, hr', h'⟩
    · rw [cjL_len] at h0; omega
    · obtain rfl : sgL P r = r' := by omega
      have e := h.again h' hl hr
      refine ⟨e, h.own h' hl hr, ?_⟩
      rw [reRoot_nat, e]
      have := h.nam.lt hr
      simp [sgL, List.getD_eq_getElem?_getD] at this ⊢
      simp [this]
theorem canA_same {l b : List Nat} {r : Nat} {P Q P' Q' : List Nat} (h : CanA l r P Q) (h' : CanA l r P' Q') : P = P' ∧ Q = Q' := by
  have e : P = P' := ofN_injC (by rw [← h.is, ← h'.is])
  subst e
  exact ⟨rfl, Inv.unique h.nam.inv h'.nam.inv⟩
theorem turns_one {l b : List Nat} (hl : Inv l b) (he : l.length % 2 = 0) {r k : Nat} (hr : r < l.length) (hk : k < l.length) (h1 : num (TurnsTo l r) l.length = 1) (t : TurnsTo l r k) : k = r := by
  by_cases c : k = r
  · exact c
  · exfalso
    have e := num_mem (n := l.length) (Q := [r, k]) (by simp; omega) (by intro x hx; simp at hx; omega)
    have tr := (turns_eqv hl he).refl r hr
    have := num_inj (A := fun x => x ∈ [r, k]) (B := TurnsTo l r) (n := l.length) id (fun x hx hm => ⟨hx, by
      simp only [List.mem_cons, List.not_mem_nil, or_false] at hm
      rcases hm with rfl | rfl
      · exact tr
      · exact t⟩) (fun _ _ _ _ _ _ e => e)
    rw [e, h1] at this
    simp at this
/-- With another root, of a part that has one turn alone, it is another one. -/
theorem roots_iso {l b : List Nat} (hl : Inv l b) (he : l.length % 2 = 0) {r k : Nat} (hr : r < l.length) (hk : k < l.length) (hp : ∀ i j, i < l.length → j < l.length → part l i j) (h1 : num (TurnsTo l r) l.length = 1)
    {P Q P' Q' : List Nat} (h : CanO l (k : Int) P Q) (h' : CanO l (r : Int) P' Q') :
    (reRoot P (k : Int) = reRoot P' (r : Int) ∧ (0 : Int) = 0 ∧ cjL P Q l = cjL P' Q' l) ↔ k = r := by
  rcases h with ⟨h0, _⟩ | ⟨k2, e2, _, h⟩
  · omega
  obtain rfl : k2 = k := by omega
  rcases h' with ⟨h0, _⟩ | ⟨r2, e3, _, h'⟩
  · omega
  obtain rfl : r2 = r := by omega
  constructor
  · rintro ⟨_, _, e⟩
    obtain ⟨p, q, t⟩ := (CanN.iff (h'.one hl hr fun j hj => hp _ _ hr hj) (h.one hl hk fun j hj => hp _ _ hk hj) hl hl hr hk).1 e
    exact turns_one hl he hr hk h1 ⟨p, q, t⟩
  · rintro rfl
    obtain ⟨rfl, rfl⟩ := canA_same (b := b) h h'
    exact ⟨rfl, rfl, rfl⟩
end Go.Proofs.Ytoncollcefanjaa
namespace Go.Proofs.Ytoncollcefanjaa
set_option maxRecDepth 100000
open Go.RowKit
set_option linter.unusedVariables false
set_option linter.unusedSimpArgs false
set_option maxHeartbeats 16000000 in
theorem canonRoots_walk (A0 : Option Addr) (n m0 c0 rr k0 : Nat) (by_ : List Int) (w : World) (hn : n < 256) (hrr : rr < 256) (hk0 : k0 < 256)
    (h0 : Rd w w.heap.size A0 m0 (Z8 by_)) (hb0 : ∀ x ∈ by_, 0 ≤ x ∧ x < 256) (hmc0 : m0 ≤ c0) (hcm0 : c0 ≤ maxLen) :
    Calls Try.prog 8 #[.int .u8 (n : Int), .slice A0 m0 c0, .int .u8 (rr : Int), .int .u8 (k0 : Int)] w fun e w' => e = .returned (.bool true) ∧ Below w.heap.size w w' := by
  have hcm0' : c0 ≤ 9223372036854775807 := by unfold maxLen at hcm0; omega
  have AW := Lib.hid (awake11_p w)
  have H0 := Lib.hid h0
  have HB0 := Lib.hid hb0
  obtain ⟨kk, hkk⟩ : ∃ kk, kk = n % 9 := ⟨_, rfl⟩
  have hkb : kk < 9 := by omega
  have y1 : (n : Int) % 9 = (kk : Int) := by omega
  have y2 : (n : Int).tmod 9 = (kk : Int) := by rw [Int.tmod_eq_emod_of_nonneg (by omega)]; omega
  clear h0 hb0 hkk hcm0
  go_enter Try.func8, Try.ntmps8
  go_wp2_with fail
  refine AW.out.mono ?_
  rintro e w1 ⟨rfl, b1⟩
  have B1 := Lib.hid b1
  have AN := Lib.hid (any_p kk rr m0 c0 w.heap.size A0 by_ w1 (H0.out.below b1) HB0.out b1.size (by omega) hrr (by omega))
  clear b1 AW H0 HB0
  go_wp2_with fail
  refine AN.out.mono ?_
  rintro e w2 ⟨v, l, b, root, rfl, hrm, hl, hroot, b2⟩
  obtain ⟨hinv, A, cA, hla, rfl, hlc, hcA, hrA⟩ := hrm
  obtain ⟨N, hN⟩ : ∃ N, N = l.length := ⟨_, rfl⟩
  have HNN := Lib.hid hN
  have hN2 : N = 2 * kk := by omega
  have HN2 := Lib.hid hN2
  rw [← hN] at hrA ⊢
  rw [← hN2] at hroot
  have HRT : Hid (RootOk root l.length) := by rw [← hN]; exact hroot
  have HEV : Hid (l.length % 2 = 0) := by show _ = _; omega
  have HI := Lib.hid hinv
  have bx := (Below.refl w2.heap.size w2).alloc (Nat.le_refl _) (.cells #[.slice A N cA, .int .i64 root, .int .i64 0] 26)
  have XB := Lib.hid (Blk.new w2 26 #[.slice A N cA, .int .i64 root, .int .i64 0])
  have B2a := B1.out.trans (b2.mono B1.out.size)
  have B3 : Hid (Below w.heap.size w (w2.alloc (.cells #[.slice A N cA, .int .i64 root, .int .i64 0] 26))) := B2a.trans (bx.mono B2a.size)
  have hN16 : N ≤ 16 := by omega
  have RA := Lib.hid (hrA.more bx)
  have OFP : Hid (∀ W, Below (w2.alloc (.cells #[.slice A N cA, .int .i64 root, .int .i64 0] 26)).heap.size (w2.alloc (.cells #[.slice A N cA, .int .i64 root, .int .i64 0] 26)) W → Calls Try.prog 12 #[.agg #[.slice A N cA, .int .i64 root, .int .i64 0]] W fun e w' => ∃ g, e = .returned (.pointer (some ⟨g, 0, none⟩)) ∧ MapAt w' g l b root 0 ∧ Below W.heap.size W w') := fun W mm => by
    rw [hN]
    exact of11_p A cA l b root 0 W (by have := RA.out.more mm; rwa [hN] at this) HI.out HEV.out (by omega) HRT.out (by omega) (by omega)
  have RPP : Hid (∀ W, Below (w2.alloc (.cells #[.slice A N cA, .int .i64 root, .int .i64 0] 26)).heap.size (w2.alloc (.cells #[.slice A N cA, .int .i64 root, .int .i64 0] 26)) W → Calls Try.prog 22 #[.agg #[.slice A N cA, .int .i64 root, .int .i64 0]] W (NewQt W (pN l) (partsC l (pN l)))) := fun W mm => by
    rw [hN]
    exact reparts_p A cA l b root 0 W (by have := RA.out.more mm; rwa [hN] at this) HI.out HEV.out (by omega) (by omega)
  obtain ⟨P, Q, hC⟩ := canO_is (b := b) HI.out HEV.out HRT.out
  have hCn : Nam l.length P Q := CanO.nam (b := b) hC
  obtain ⟨P', Q', hC'⟩ := canO_is (l := cjL P Q l) (b := cjL P Q b) (root := reRoot P root) (cj_inv hCn HI.out) (by rw [cjL_len]; exact HEV.out) (by rw [cjL_len]; exact reRoot_ok hCn HRT.out)
  obtain ⟨g1, g2, g3⟩ := canO_again HI.out hC hC'
  have hP' : ∀ i, i < N → P'.getD i 0 = i := fun i hi => by rw [g1]; rw [hN] at hi; simp [List.getD_eq_getElem?_getD, hi]
  have hPl : P'.length = N := by rw [g1, hN]; simp
  have HC := Lib.hid hC
  have HC2 := Lib.hid hC'
  have HG := Lib.hid (And.intro g2 g3)
  have HP := Lib.hid (And.intro hP' hPl)
  have HIC := Lib.hid (cj_inv hCn HI.out)
  clear hN hinv hla hlc hcA hrA b2 bx B2a B1 AN hl hroot hC hC' g1 g2 g3 hP' hPl RA hN2 hCn
  go_wp2_with fail
  generalize hw3 : w2.alloc (.cells #[.slice A N cA, .int .i64 root, .int .i64 0] 26) = w3 at *
  generalize w2.heap.size = gx at *
  clear hw3
  refine (OFP.out _ (Below.refl _ _)).mono ?_
  rintro e w4 ⟨g, rfl, m4, z⟩
  have Z4 := Lib.hid z
  have M4 := Lib.hid m4
  have C1 := Lib.hid (canon_any g l b root 0 P Q w4 m4 HI.out HC.out)
  clear z m4 OFP
  go_wp2_with fail
  refine C1.out.mono ?_
  rintro e w5 ⟨gc, gp, rfl, m5, _, z⟩
  have Z5 := Lib.hid (Z4.out.trans (z.mono Z4.out.size))
  have M5 := Lib.hid (M4.out.below z)
  have MC := Lib.hid m5
  have C2 := Lib.hid (canon_any gc (cjL P Q l) (cjL P Q b) (reRoot P root) 0 P' Q' w5 m5 HIC.out HC2.out)
  clear z m5 C1 Z4 M4
  go_wp2_with fail
  refine C2.out.mono ?_
  rintro e w6 ⟨gd, gq, rfl, m6, k6, z⟩
  have Z6 := Lib.hid (Z5.out.trans (z.mono Z5.out.size))
  have M6 := Lib.hid (M5.out.below z)
  have K6 := Lib.hid k6
  have S1 : Hid (Calls Try.prog 24 #[.pointer (some ⟨gc, 0, none⟩), .pointer (some ⟨gd, 0, none⟩)] w6 fun e w' => e = .returned (.bool true) ∧ Below w6.heap.size w6 w') := by
    have h1 := dsame_p gc gd _ _ _ _ _ _ _ _ w6 (MC.out.below z) m6
    rwa [decide_eq_true (show reRoot P root = reRoot P' (reRoot P root) ∧ (0 : Int) = 0 ∧ cjL P Q l = cjL P' Q' (cjL P Q l) from ⟨HG.out.2.symm, rfl, HG.out.1.symm⟩)] at h1
  clear z m6 k6 C2 Z5 M5 MC
  go_wp2_with fail
  refine S1.out.mono ?_
  rintro e w7 ⟨rfl, z⟩
  have Z7 := Lib.hid (Z6.out.trans (z.mono Z6.out.size))
  have M7 := Lib.hid (M6.out.below z)
  have ATP : Hid (∀ W, Below w7.heap.size w7 W → ∀ i, i < N → Calls Try.prog 23 #[.pointer (some ⟨gq, 0, none⟩), .int .i64 (i : Int)] W fun e w' => e = .returned (.int .i64 (i : Int)) ∧ W = w') := fun W mm i hi => by
    have h1 := at_in gq P' Q' i W ((K6.out.below z).below mm) (by rw [HP.out.2]; exact hi)
    rwa [HP.out.1 i hi] at h1
  have XB7 := XB.out.below Z7.out
  have xx0 := XB7.cell 0
  have xx1 := XB7.cell 1
  have xx2 := XB7.cell 2
  simp at xx0 xx1 xx2
  clear z S1 Z6 M6 K6 XB7
  go_wp2_with fail
  go_loopw [58] (fun i wr => ∃ (j : Nat), j ≤ N ∧ i = .int .i64 (j : Int) ∧ Hid (Below w7.heap.size w7 wr)) (fun i _ => N - (intOf i).toNat)
  case atStart => exact ⟨0, by omega, rfl, Below.refl _ _⟩
  case round =>
    obtain ⟨j, hj, rfl, HB⟩ := hrel
    by_cases hlt : j < N
    · have hdj : decide (j < N) = true := by rw [decide_eq_true_iff]; exact hlt
      have AT := Lib.hid (ATP.out wr HB.out j hlt)
      go_wp2_with fail
      refine AT.out.mono ?_
      rintro e w' ⟨rfl, rfl⟩
      go_wp2_with fail
      go_roundw
      case rel => exact ⟨j + 1, by omega, by go_num, HB⟩
      case measure => simp [intOf]; omega
    · obtain rfl : j = N := by omega
      have ZR := Lib.hid (Z7.out.trans (HB.out.mono Z7.out.size))
      have BR := Lib.hid (B3.out.trans (ZR.out.mono B3.out.size))
      have MR := Lib.hid (M7.out.below HB.out)
      have XBR := Lib.hid (XB.out.below ZR.out)
      have xx0 := XBR.out.cell 0
      have xx1 := XBR.out.cell 1
      have xx2 := XBR.out.cell 2
      simp at xx0 xx1 xx2
      clear HB ATP M7 Z7 xx0 xx1 xx2
      have xx0 := XBR.out.cell 0
      have xx1 := XBR.out.cell 1
      have xx2 := XBR.out.cell 2
      simp at xx0 xx1 xx2
      by_cases hN0 : j = 0
      · have hNb : ((j : Int) == 0) = true := by simp [hN0]
        clear HNN hlt
        go_wp2_with fail
        go_ret
        exact ⟨rfl, BR.out⟩
      · have hNb : ((j : Int) == 0) = false := by simp [hN0]
        have hNf : ¬ (j : Int) = 0 := by omega
        have R1 := Lib.hid (RPP.out wr ZR.out)
        obtain ⟨np, hnp⟩ : ∃ np, np = pN l := ⟨_, rfl⟩
        rw [← hnp] at R1
        have HNP := Lib.hid hnp
        obtain ⟨r, hr, hrd⟩ : ∃ r : Nat, root = (r : Int) ∧ r < j := by
          rcases HRT.out with ⟨e, _⟩ | ⟨_, e1, e2⟩
          · have := HNN.out; omega
          · exact ⟨root.toNat, by omega, by have := HNN.out; omega⟩
        subst hr
        have HRD := Lib.hid hrd
        have HNJ := Lib.hid hN0
        clear hnp RPP hlt hrd
        go_wp2_with fail
        refine R1.out.mono ?_
        rintro e wa ⟨Aq, cq, rfl, _, _, _, z⟩
        have MA := Lib.hid (MR.out.below z)
        have XBA := Lib.hid (XBR.out.below z)
        have BA := Lib.hid (BR.out.trans (z.mono BR.out.size))
        clear z R1 MR XBR BR xx0 xx1 xx2 ZR
        have xx0 := XBA.out.cell 0
        have xx1 := XBA.out.cell 1
        have xx2 := XBA.out.cell 2
        simp at xx0 xx1 xx2
        by_cases h1 : np = 1
        · have hb1 : ((np : Int) != 1) = false := by rw [h1]; rfl
          have SH := Lib.hid (cshape_p g l b r 0 wa MA.out HI.out (fun _ => by have := HNN.out; have := HRD.out; omega))
          obtain ⟨sh, hsh⟩ : ∃ sh, sh = shpN l r 0 := ⟨_, rfl⟩
          rw [← hsh] at SH
          have HSH := Lib.hid hsh
          have HN1 : Hid (pN l = 1) := by show _ = _; rw [← HNP.out]; exact h1
          clear hsh h1
          go_wp2_with fail
          refine SH.out.mono ?_
          rintro e wb ⟨rfl, z⟩
          have MB := Lib.hid (MA.out.below z)
          have XBB := Lib.hid (XBA.out.below z)
          have BB := Lib.hid (BA.out.trans (z.mono BA.out.size))
          clear z SH MA XBA BA xx0 xx1 xx2
          have xx0 := XBB.out.cell 0
          have xx1 := XBB.out.cell 1
          have xx2 := XBB.out.cell 2
          simp at xx0 xx1 xx2
          by_cases h2 : sh = 1
          · have hb2 : ((sh : Int) != 1) = false := by rw [h2]; rfl
            have HS1 : Hid (num (TurnsTo l r) l.length = 1) := by
              show _ = _
              have h3 := HSH.out
              unfold shpN at h3
              rw [if_neg (by have := HN1.out; have := HNN.out; omega)] at h3
              rw [← h3]; exact h2
            obtain ⟨q, hq, hqn⟩ : ∃ q : Nat, (k0 : Int) % (j : Int) = (q : Int) ∧ q < j := ⟨k0 % j, by rw [Int.natCast_emod], Nat.mod_lt _ (by omega)⟩
            have hq2 : (k0 : Int).tmod (j : Int) = (q : Int) := by rw [Int.tmod_eq_emod_of_nonneg (by omega)]; exact hq
            have hql : q < l.length := by have := HNN.out; omega
            have RT := Lib.hid (rooted_in g l b r 0 q wb MB.out hql)
            obtain ⟨P2, Q2, hC2⟩ := canO_is (b := b) (root := (q : Int)) HI.out HEV.out (.inr ⟨by omega, by omega, by omega⟩)
            have IPP : Hid (∀ W go, MapAt W go l b (q : Int) 0 → MapAt W g l b (r : Int) 0 → Calls Try.prog 25 #[.pointer (some ⟨go, 0, none⟩), .pointer (some ⟨g, 0, none⟩)] W fun e w' => e = .returned (.bool (decide (q = r))) ∧ Below W.heap.size W w') := fun W go k1 k2 => by
              have h1 := ciso_p go g l b l b (q : Int) 0 (r : Int) 0 P2 Q2 P Q W k1 k2 HI.out HI.out hC2 HC.out
              rwa [decide_eq_decide.2 (roots_iso HI.out HEV.out (r := r) (k := q) (by have := HNN.out; have := HRD.out; omega) hql (fun i k hi hk => one_of_pN HI.out HEV.out HN1.out hi hk) HS1.out hC2 HC.out)] at h1
            have hgx := XBB.out.lt
            clear h2 hC2 hql hqn
            go_wp2_with fail
            refine RT.out.mono ?_
            rintro e wc ⟨go, rfl, mo, z⟩
            have IP : Hid (∀ W, Below wc.heap.size wc W → Calls Try.prog 25 #[.pointer (some ⟨go, 0, none⟩), .pointer (some ⟨g, 0, none⟩)] W fun e w' => e = .returned (.bool (decide (q = r))) ∧ Below W.heap.size W w') := fun W mm => IPP.out W go (mo.below mm) ((MB.out.below z).below mm)
            have BC := Lib.hid (BB.out.trans (z.mono BB.out.size))
            have xc := (z.cell (p := ⟨gx, 1, none⟩) hgx).trans xx1
            have hgc : gx < wc.heap.size := Nat.lt_of_lt_of_le hgx z.size
            have SK : Hid (∀ W, Below wc.heap.size wc W → Below wc.heap.size wc W ∧ W.cell? ⟨gx, 1, none⟩ = some (.int .i64 (r : Int))) := fun W m => ⟨m, (m.cell (p := ⟨gx, 1, none⟩) hgc).trans xc⟩
            have hqr : ((q : Int) == (r : Int)) = decide (q = r) := by
              by_cases c : q = r
              · rw [c]; simp
              · rw [decide_eq_false c, beq_eq_false_iff_ne]; omega
            have hba0 := Below.refl wc.heap.size wc
            have hba1 := hba0.drew
            obtain ⟨_, z1⟩ := SK.out _ hba0
            obtain ⟨_, z2⟩ := SK.out _ hba1
            clear z mo RT IPP MB XBB BB xx0 xx1 xx2 xc hgx hgc
            generalize decide (q = r) = bq at *
            go_upto_region 19 with fail
            go_region_held3 (fun W => Below wc.heap.size wc W ∧ W.cell? ⟨gx, 1, none⟩ = some (.int .i64 (r : Int)))
              (exact SK.out _ (by assumption))
              (first
              | (go_at_call 25; (with_reducible refine (IP.out _ (by assumption)).mono ?_); rintro e wf ⟨rfl, hbf⟩; have hba := hba1.trans (hbf.mono hba1.size)))
            all_goals (
              go_wp2_with fail
              go_ret
              exact ⟨by simp, BC.out.trans (hba.mono BC.out.size)⟩)
          · have hb2 : ((sh : Int) != 1) = true := by rw [bne_iff_ne]; omega
            clear h2
            go_wp2_with fail
            go_ret
            exact ⟨rfl, BB.out⟩
        · have hb1 : ((np : Int) != 1) = true := by rw [bne_iff_ne]; omega
          clear h1
          go_wp2_with fail
          go_ret
          exact ⟨rfl, BA.out⟩
end Go.Proofs.Ytoncollcefanjaa
