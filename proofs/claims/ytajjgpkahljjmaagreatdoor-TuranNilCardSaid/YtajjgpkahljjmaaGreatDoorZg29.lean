/- The document's examples of layer 12. TuranNil: of nil; of a lone vertex. -/
import Derived.Test.YtajjgpkahljjmaaGreatDoorZg25
import Derived.Test.YtajjgpkahljjmaaGreatDoorZg28
import Derived.Test.YtajjgpkahljjmaaGreatDoorZg23
namespace Go.Proofs.YtajjgpkahljjmaaGreatDoor
set_option maxRecDepth 20000
open Go.RowKit
set_option linter.unusedVariables false
set_option linter.unusedSimpArgs false
theorem Wrd.word {ks : List Nat} {tw f : Nat → Nat} {l b : List Nat} {m V : Nat} (h : Wrd ks tw f l) (hi : Inv l b) (he : l.length = 2 * m) (hV : ∀ x, x < l.length → nameOf l x < V) (hl : l.length = ks.length) (hR : RightW ks tw) :
    wkn (sgL l) (nameOf l) m V (f 0) l.length = ks := by
  have W := (h.walk hi he hV hR ks.length (Nat.le_refl _)).1
  apply List.ext_getElem
  · rw [wkn_length, hl]
  · intro i h1 h2
    have g : ∀ (v : List Nat) k (hk : k < v.length), v[k] = v.getD k 0 := fun v k hk => by rw [List.getD_eq_getElem?_getD, List.getElem?_eq_getElem hk]; rfl
    rw [g _ _ h1, g _ _ h2, wkn_get _ _ _ _ _ _ i (by rw [hl]; exact h2)]
    exact (W i h2).2
def triL : List Nat := [5, 2, 1, 4, 3, 0]
theorem triL_inv : Inv triL [5, 2, 1, 4, 3, 0] := ⟨rfl, by decide, by decide, by decide, by decide⟩
def triK : List Nat := [0, 0, 2, 1, 1, 3]
def triT (j : Nat) : Nat := [4, 3, 5, 1, 0, 2].getD j 0
def triF (j : Nat) : Nat := [0, 2, 4, 3, 1, 5].getD j 0
theorem nx_dec {ks : List Nat} {tw : Nat → Nat} {s : Nat} (h : ∀ i, i < ks.length → ∀ k, k < ks.length → ¬ (i < k ∧ k < tw i ∧ tw i < tw k ∧ ks.getD i 0 / 2 = s ∧ ks.getD k 0 / 2 = s)) : NX ks tw s :=
  fun i k a b c hi hk p q => h i hi k hk ⟨a, b, c, p, q⟩
def crK : List Nat := [2, 0, 3, 1]
theorem triK_kd : Kds triK := (by decide : ∀ k ∈ triK, k < 4)
theorem crK_kd : Kds crK := (by decide : ∀ k ∈ crK, k < 4)
theorem tri_inj : ∀ i, i < triK.length → ∀ j, j < triK.length → triF i = triF j → i = j := by decide
theorem tri_wrd : Wrd triK triT triF triL :=
  ⟨⟨triK_kd, by decide, by decide, by decide, by decide, by decide⟩, nx_dec (by decide), nx_dec (by decide), by decide, by decide, fun i j hi hj => tri_inj i hi j hj, by decide, by decide⟩
theorem tri_right : RightW triK triT := by
  rw [right_back]; decide
theorem tri_err : ErrM triL 0 0 := by
  obtain ⟨h1, h2⟩ := one_part triL_inv (by decide) (by decide) (oneB_ok triL_inv (by decide) (k := 6) (by decide))
  refine .inr (.inr ⟨by omega, ?_, rfl⟩)
  have e1 : metB triL = 3 := by decide
  have e2 : metB (phiL triL) = 2 := by decide
  have e3 : triL.length / 2 = 3 := rfl
  omega
theorem tri_word : wordL triL 0 = [0, 0, 2, 1, 1, 3] := by
  have := tri_wrd.word triL_inv (m := 3) rfl (nm_ltW triL_inv (V := (sizes triL).length) (Nat.le_refl _)) rfl tri_right
  exact this
def crT (j : Nat) : Nat := [2, 3, 0, 1].getD j 0
theorem cr_wd : Wd crK crT := Wd.nx ⟨crK_kd, by decide, by decide, by decide, by decide, by decide⟩ (nx_dec (by decide)) (nx_dec (by decide))
theorem cr_not : ¬ RightW crK crT := by
  rw [right_back]; decide
theorem cr_err {E : Int} (h : ErrW crK E) : E = 10 := by
  rcases h with ⟨_, tw, hw, hr⟩ | ⟨_, hb⟩ | ⟨h, _⟩
  · exact absurd (hr.uniq hw cr_wd) cr_not
  · exact absurd ⟨cr_wd.bal 0, cr_wd.bal 1⟩ hb
  · exact h
theorem parse_exT (w : World) : Calls Tryz.prog 47 #[.string { data := #[91, 40, 93, 41] }] w fun e w' => ∃ g, e = .returned (.tuple #[.pointer (some ⟨g, 0, none⟩), .int .i64 4, .int .i64 0]) ∧ WordAt w' w.heap.size g crK ∧ Below w.heap.size w w' := by
  refine (parse_p { data := #[91, 40, 93, 41] } w (by decide)).mono ?_
  have e1 : bytesS { data := #[91, 40, 93, 41] } = [91, 40, 93, 41] := rfl
  rw [e1]
  rintro e w' (⟨i, hi, hk, _⟩ | ⟨g, _, he, hw, hb⟩)
  · exfalso
    have : ∀ i : Fin 4, ¬ kb ([91, 40, 93, 41].getD i.val 0) = -1 := by decide
    exact this ⟨i, hi⟩ hk
  · exact ⟨g, he, hw, hb⟩
set_option maxHeartbeats 8000000 in
theorem tawake_p (w : World) (hT : MTabs w) : Calls Tryz.prog 9 #[] w fun e w' => e = .returned (.bool true) ∧ Below w.heap.size w w' := by
  have hal := (Below.refl w.heap.size w).alloc (Nat.le_refl _) (.cells #[.int .i64 5, .int .i64 2, .int .i64 1, .int .i64 4, .int .i64 3, .int .i64 0] 3)
  have hR := Rd.new w 3 #[.int .i64 5, .int .i64 2, .int .i64 1, .int .i64 4, .int .i64 3, .int .i64 0] 6 (I64 (ofN triL)) rfl rfl
  obtain ⟨w1, hw1⟩ : ∃ w1, w1 = w.alloc (.cells #[.int .i64 5, .int .i64 2, .int .i64 1, .int .i64 4, .int .i64 3, .int .i64 0] 3) := ⟨_, rfl⟩
  have hs1 : w1.heap.size = w.heap.size + 1 := by rw [hw1]; simp
  rw [← hw1] at hal hR
  rw [← hs1] at hR
  have NW := Lib.hid (new_ok (some ⟨w.heap.size, 0, none⟩) 6 6 triL _ 0 0 w1 hR triL_inv rfl (by omega) (.inr ⟨by omega, by omega, by omega⟩) (by omega) (by omega))
  have B1 := Lib.hid hal
  have HT := Lib.hid hT
  clear hT hal hR hs1
  go_enter Tryz.func9, Tryz.ntmps9
  go_wp2_with fail
  rw [← hw1]
  clear hw1
  refine NW.out.mono ?_
  rintro e w2 ⟨g, rfl, hm, b2, _⟩
  have EN := Lib.hid (tenc_p g triL _ 0 0 0 w2 hm triL_inv (.inr ⟨by decide, by omega, by decide⟩) tri_err)
  have B2 := Lib.hid (B1.out.trans (b2.mono B1.out.size))
  clear b2 hm NW
  go_wp2_with fail
  refine EN.out.mono ?_
  rintro e w3 (⟨h, _⟩ | ⟨_, gw, rfl, hw, b3⟩)
  · exact absurd rfl h
  rw [tri_word] at hw
  have B3 := Lib.hid (B2.out.trans (b3.mono B2.out.size))
  have PE := Lib.hid (parse_exT w3)
  have HW := Lib.hid hw
  clear b3 hw EN
  go_wp2_with fail
  refine PE.out.mono ?_
  rintro e w4 ⟨gu, rfl, hu, b4⟩
  have TX := Lib.hid (mtext_p _ gw _ w4 (HW.out.below b4) (by decide))
  have B4 := Lib.hid (B3.out.trans (b4.mono B3.out.size))
  have hT4 := HT.out.below B4.out
  have CK : Hid (∀ W, Below w4.heap.size w4 W → Calls Tryz.prog 28 #[.pointer (some ⟨gu, 0, none⟩)] W fun e w' => e = .returned (.int .i64 10) ∧ Below W.heap.size W w') := fun W z =>
    (tcheck_p (some ⟨gu, 0, none⟩) crK W crK_kd (hT4.below z) (tells_belowT (tells_word _ gu crK w4 hu (by decide)) z) 4 rfl (by omega)).mono fun e w' ⟨E, h1, h2, h3⟩ => ⟨by rw [h2, cr_err h1], h3⟩
  obtain ⟨T, hTt⟩ : ∃ T, T = textM [0, 0, 2, 1, 1, 3] := ⟨_, rfl⟩
  rw [← hTt] at TX
  have hTv : T = { data := #[40, 40, 91, 41, 41, 93] } := by rw [hTt]; rfl
  subst hTv
  clear b4 hu hT4 PE hTt
  go_wp2_with fail
  refine TX.out.mono ?_
  rintro e w5 ⟨rfl, b5⟩
  have CK5 := Lib.hid (CK.out w5 b5)
  have B5 := Lib.hid (B4.out.trans (b5.mono B4.out.size))
  clear b5 CK TX
  go_wp2_with fail
  refine CK5.out.mono ?_
  rintro e w6 ⟨rfl, b6⟩
  have B6 := Lib.hid (B5.out.trans (b6.mono B5.out.size))
  clear b6
  go_wp2_with fail
  go_ret
  exact ⟨rfl, B6.out⟩
end Go.Proofs.YtajjgpkahljjmaaGreatDoor
namespace Go.Proofs.YtajjgpkahljjmaaGreatDoor
set_option maxRecDepth 20000
open Go.RowKit
set_option linter.unusedVariables false
set_option linter.unusedSimpArgs false
theorem wd_nil : Wd [] (fun _ => 0) :=
  Wd.nx ⟨fun k h => by simp at h, fun _ h => absurd h (by simp), fun _ h => absurd h (by simp), fun _ h => absurd h (by simp), fun _ h => absurd h (by simp), fun _ h => absurd h (by simp)⟩ (fun _ _ _ _ _ h => absurd h (by simp)) (fun _ _ _ _ _ h => absurd h (by simp))
theorem right_nil (tw : Nat → Nat) : RightW [] tw := fun _ h => absurd h (by simp)
theorem errW_nil {E : Int} (h : ErrW [] E) : E = 0 := by
  rcases h with ⟨h, _⟩ | ⟨_, hb⟩ | ⟨_, tw, _, hr⟩
  · exact h
  · exact absurd ⟨wd_nil.bal 0, wd_nil.bal 1⟩ hb
  · exact absurd (right_nil tw) hr
theorem pN_nilT : pN [] = 0 := by have := pN_le []; simpa using this
theorem genus_nilT : genusN [] = 0 := by unfold genusN; rw [pN_nilT]; rfl
theorem inv_nilT : Inv [] [] := ⟨rfl, fun _ h => absurd h (by simp), fun _ h => absurd h (by simp), fun _ h => absurd h (by simp), fun _ h => absurd h (by simp)⟩
set_option maxHeartbeats 8000000 in
theorem turanNil_walk (n : Nat) (w : World) (hT : MTabs w) (hn : n < 256) :
    Calls Tryz.prog 7 #[.int .u8 (n : Int)] w fun e w' => e = .returned (.bool true) ∧ Below w.heap.size w w' := by
  have AW := Lib.hid (tawake_p w hT)
  have HT := Lib.hid hT
  clear hT
  obtain ⟨k, hk⟩ : ∃ k, k = n % 4 := ⟨_, rfl⟩
  have hk4 : k < 4 := by omega
  have hk1 : (n : Int) % 4 = (k : Int) := by omega
  have hk2 : (n : Int).tmod 4 = (k : Int) := by rw [Int.tmod_eq_emod_of_nonneg (by omega)]; exact hk1
  have wk : IntKind.u8.wrap (k : Int) = (k : Int) := by simp [IntKind.wrap, IntKind.signed, IntKind.bits]; omega
  have wk2 : IntKind.i64.wrap (k : Int) = (k : Int) := by simp [IntKind.wrap, IntKind.signed, IntKind.bits]; omega
  clear hk
  go_enter Tryz.func7, Tryz.ntmps7
  go_wp2_with fail
  refine AW.out.mono ?_
  rintro e w1 ⟨rfl, b1⟩
  have B1 := Lib.hid b1
  have EN := Lib.hid (tenc_nil w1)
  clear b1 AW
  go_wp2_with fail
  refine EN.out.mono ?_
  rintro e w1 ⟨rfl, rfl⟩
  have BN := Lib.hid (tbits_nil w1)
  clear EN
  go_wp2_with fail
  refine BN.out.mono ?_
  rintro e w1 ⟨rfl, rfl⟩
  have DN := Lib.hid (tdecode_p none [] w1 (fun k h => by simp at h) (HT.out.below B1.out) (tells_nil w1) 0 rfl (by omega))
  clear BN
  go_wp2_with fail
  refine DN.out.mono ?_
  rintro e w2 (⟨tw, l, b, _, _, ht, hi, g, rfl, hm, b2, _⟩ | ⟨E, h0, hE, _⟩)
  rotate_left
  · exact absurd (errW_nil hE) h0
  have hl : l = [] := List.eq_nil_of_length_eq_zero ht.1
  subst hl
  have hm1 : MapAt w2 g [] b (-1) 1 := hm
  have B2 := Lib.hid (B1.out.trans (b2.mono B1.out.size))
  have HM := Lib.hid hm1
  have NM := Lib.hid (tnamesP_p none [] w2 (fun k h => by simp at h) (HT.out.below B2.out) (tells_nil w2) 0 rfl (by omega))
  clear DN ht hi hm hm1 b2
  go_wp2_with fail
  refine NM.out.mono ?_
  rintro e w3 (⟨tw', A, c, _, _, rfl, hc, hcm, ho, b3⟩ | ⟨E, h0, hE, _⟩)
  rotate_left
  · exact absurd (errW_nil hE) h0
  have B3 := Lib.hid (B2.out.trans (b3.mono B2.out.size))
  have HM3 := Lib.hid (HM.out.below b3)
  have NW := Lib.hid (new_ok none 0 0 [] [] (-1) (k : Int) w3 (Rd.nil _ _ _) inv_nilT rfl (by omega) (.inl ⟨rfl, rfl⟩) (by omega) (by omega))
  clear NM hc hcm ho b3 HM
  go_wp2_with fail
  refine NW.out.mono ?_
  rintro e w4 ⟨g4, rfl, hm4, b4, _⟩
  have B4 := Lib.hid (B3.out.trans (b4.mono B3.out.size))
  have HM4 := Lib.hid (HM3.out.below b4)
  obtain ⟨E, hE⟩ := errM_ex [] k
  have hE1 : (k = 1 → E = 0) ∧ (k ≠ 1 → E = 8) := by
    unfold ErrM at hE
    rw [pN_nilT, genus_nilT] at hE
    omega
  have EN := Lib.hid (tenc_p g4 [] [] (-1) k E w4 hm4 inv_nilT (.inl ⟨rfl, rfl⟩) hE)
  clear hE hm4 b4 NW HM3
  go_wp2_with fail
  refine EN.out.mono ?_
  rintro e w5 h5
  have key : ∃ pv : Option Addr, e = .returned (.tuple #[.pointer pv, .int .i64 E]) ∧ Below w4.heap.size w4 w5 ∧ ∀ W, Below w5.heap.size w5 W → Calls Tryz.prog 20 #[.pointer pv] W fun e w' => e = .returned (.int .i64 0) ∧ W = w' := by
    rcases h5 with ⟨_, h, hb⟩ | ⟨h0, gw, h, hw, hb⟩
    · exact ⟨none, h, hb, fun W _ => mlen_nil W⟩
    · refine ⟨some ⟨gw, 0, none⟩, by rw [h0]; exact h, hb, fun W z => ?_⟩
      have := mlen_p _ gw _ W (hw.below z)
      rw [wordL_len] at this
      exact this
  obtain ⟨pv, rfl, b5, LN⟩ := key
  have B5 := Lib.hid (B4.out.trans (b5.mono B4.out.size))
  have LO : Hid (∀ W, Below w5.heap.size w5 W → Calls Tryz.prog 34 #[.pointer (some ⟨g, 0, none⟩)] W fun e w' => e = .returned (.int .i64 1) ∧ W = w') := fun W z => lone_p g [] b (-1) 1 W ((HM4.out.below b5).below z)
  have DA : Hid (∀ W, Below w5.heap.size w5 W → Calls Tryz.prog 40 #[.pointer (some ⟨g, 0, none⟩)] W fun e w' => e = .returned (.int .i64 0) ∧ Below W.heap.size W w') := fun W z => darts_p g [] b (-1) 1 W ((HM4.out.below b5).below z)
  have CK : Hid (∀ W, Below w5.heap.size w5 W → Calls Tryz.prog 28 #[.pointer none] W fun e w' => e = .returned (.int .i64 0) ∧ Below W.heap.size W w') := fun W z =>
    (tcheck_p none [] W (fun k h => by simp at h) (HT.out.below (B5.out.trans (z.mono B5.out.size))) (tells_nil W) 0 rfl (by omega)).mono fun e w' ⟨E, h1, h2, h3⟩ => ⟨by rw [h2, errW_nil h1], h3⟩
  have HLN := Lib.hid LN
  have LO1 := Lib.hid (LO.out w5 (Below.refl _ _))
  have DA1 := Lib.hid (DA.out w5 (Below.refl _ _))
  clear LN b5 h5 EN HM4 LO DA
  have fin : ∀ wz, Below w5.heap.size w5 wz → Below w.heap.size w wz := fun wz z => B5.out.trans (z.mono B5.out.size)
  have FIN := Lib.hid fin
  clear fin
  by_cases c1 : k = 1
  · obtain rfl := hE1.1 c1
    subst c1
    clear hE1
    go_wp2_with fail
    refine LO1.out.mono ?_
    rintro e w6 ⟨rfl, rfl⟩
    go_wp2_with fail
    refine DA1.out.mono ?_
    rintro e w6 ⟨rfl, b6⟩
    have B6 := Lib.hid b6
    have CK6 := Lib.hid (CK.out w6 b6)
    clear b6 CK
    go_wp2_with fail
    refine CK6.out.mono ?_
    rintro e w7 ⟨rfl, b7⟩
    have B7 := Lib.hid (B6.out.trans (b7.mono B6.out.size))
    have LN7 := Lib.hid (HLN.out w7 B7.out)
    clear b7 CK6 HLN
    go_wp2_with fail
    refine LN7.out.mono ?_
    rintro e w8 ⟨rfl, rfl⟩
    go_wp2_with fail
    go_ret
    exact ⟨rfl, FIN.out _ B7.out⟩
  · obtain rfl := hE1.2 c1
    have c1I : ¬ (k : Int) = 1 := by omega
    have c1b : ((k : Int) == 1) = false := by simp; omega
    have c1d : decide (k = 1) = false := decide_eq_false c1
    clear hE1
    go_wp2_with fail
    refine LO1.out.mono ?_
    rintro e w6 ⟨rfl, rfl⟩
    go_wp2_with fail
    refine DA1.out.mono ?_
    rintro e w6 ⟨rfl, b6⟩
    have B6 := Lib.hid b6
    have CK6 := Lib.hid (CK.out w6 b6)
    clear b6 CK
    go_wp2_with fail
    refine CK6.out.mono ?_
    rintro e w7 ⟨rfl, b7⟩
    have B7 := Lib.hid (B6.out.trans (b7.mono B6.out.size))
    have LN7 := Lib.hid (HLN.out w7 B7.out)
    clear b7 CK6 HLN
    go_wp2_with fail
    refine LN7.out.mono ?_
    rintro e w8 ⟨rfl, rfl⟩
    go_wp2_with fail
    go_ret
    exact ⟨rfl, FIN.out _ B7.out⟩
end Go.Proofs.YtajjgpkahljjmaaGreatDoor
