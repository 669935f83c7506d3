/- Is and Iso. The sorts' add and all. The sorts' halve. -/
import Derived.Test.YtoncollcefanjaaZg16
import Derived.Test.YtoncollcefanjaaZg15
namespace Go.Proofs.Ytoncollcefanjaa
set_option maxRecDepth 100000
open Go.RowKit
set_option linter.unusedVariables false
set_option linter.unusedSimpArgs false
/-- The canonical names of a map, with darts or without. -/
def CanO (l : List Nat) (root : Int) (P Q : List Nat) : Prop := (l.length = 0 ∧ root = -1 ∧ P = [] ∧ Q = []) ∨ ∃ r : Nat, root = (r : Int) ∧ r < l.length ∧ CanA l r P Q
theorem canO_is {l b : List Nat} {root : Int} (hi : Inv l b) (he : l.length % 2 = 0) (hr : RootOk root l.length) : ∃ P Q, CanO l root P Q := by
  rcases hr with ⟨h0, h1⟩ | ⟨h0, h1, h2⟩
  · exact ⟨[], [], .inl ⟨h0, h1, rfl, rfl⟩⟩
  · have hrl : root.toNat < l.length := by omega
    obtain ⟨P, Q, h⟩ := canA_is hi he hrl
    exact ⟨P, Q, .inr ⟨root.toNat, by omega, hrl, h⟩⟩
theorem CanO.nam {l b : List Nat} {root : Int} {P Q : List Nat} (h : CanO l root P Q) : Nam l.length P Q := by
  rcases h with ⟨h0, _, rfl, rfl⟩ | ⟨r, _, _, h⟩
  · rw [h0]
    exact ⟨⟨rfl, fun i h => absurd h (by simp), fun i h => absurd h (by simp), fun i h => absurd h (by simp), fun i h => absurd h (by simp)⟩, rfl, rfl, fun d hd => absurd hd (by omega)⟩
  · exact h.nam
/-- Canon's answer of any map. -/
def CanonAny (w : World) (l b P Q : List Nat) (root lone : Int) (e : Ending) (w' : World) : Prop :=
  ∃ g' gp, e = .returned (.tuple #[.pointer (some ⟨g', 0, none⟩), .pointer (some ⟨gp, 0, none⟩), .int .i64 0]) ∧ MapAt w' g' (cjL P Q l) (cjL P Q b) (reRoot P root) lone ∧ PermAt w' gp P Q ∧ Below w.heap.size w w'
theorem canon_any (g : Nat) (l b : List Nat) (root lone : Int) (P Q : List Nat) (w : World) (h : MapAt w g l b root lone) (hi : Inv l b) (hC : CanO l root P Q) :
    Calls Try.prog 11 #[.pointer (some ⟨g, 0, none⟩)] w (CanonAny w l b P Q root lone) := by
  rcases hC with ⟨h0, rfl, rfl, rfl⟩ | ⟨r, rfl, hr, hC⟩
  · have hl : l = [] := List.eq_nil_of_length_eq_zero h0
    subst hl
    have hb : b = [] := List.eq_nil_of_length_eq_zero hi.len
    subst hb
    refine (canon_e g [] [] lone w h hi h0).mono ?_
    rintro e w' ⟨g', gp, h1, h2, h3, h4⟩
    exact ⟨g', gp, h1, h2, h3, h4⟩
  · refine (canon_p g l b r lone P Q w h hi hr hC).mono ?_
    rintro e w' ⟨g', gp, h1, h2, h3, h4⟩
    rw [← reRoot_nat] at h2
    exact ⟨g', gp, h1, h2, h3, h4⟩
theorem cis_p (g : Nat) (l b : List Nat) (root lone : Int) (P Q : List Nat) (w : World) (h : MapAt w g l b root lone) (hi : Inv l b) (hC : CanO l root P Q) :
    Calls Try.prog 20 #[.pointer (some ⟨g, 0, none⟩)] w fun e w' => e = .returned (.bool (decide (root = reRoot P root ∧ l = cjL P Q l))) ∧ Below w.heap.size w w' := by
  have CP := Lib.hid (canon_any g l b root lone P Q w h hi hC)
  have HM : Hid (∀ W, Below w.heap.size w W → MapAt W g l b root lone) := fun W m => h.below m
  clear h hi hC
  go_enter Try.func20, Try.ntmps20
  go_wp2_with fail
  refine CP.out.mono ?_
  rintro e w1 ⟨g', gp, rfl, m1, _, b1⟩
  have SP := Lib.hid (dsame_p g g' _ _ _ _ _ _ _ _ w1 (HM.out w1 b1) m1)
  have B1 := Lib.hid b1
  clear m1 b1 CP HM
  go_wp2_with fail
  refine SP.out.mono ?_
  rintro e w2 ⟨rfl, b2⟩
  have B2 := Lib.hid (B1.out.trans (b2.mono B1.out.size))
  clear b2 B1 SP
  go_wp2_with fail
  go_ret
  refine ⟨?_, B2.out⟩
  simp
theorem cis_nil (w : World) : Calls Try.prog 20 #[.pointer none] w fun e w' => e = .returned (.bool false) ∧ w = w' := by
  have CP := Lib.hid (canon_none w)
  go_enter Try.func20, Try.ntmps20
  go_wp2_with fail
  refine CP.out.mono ?_
  rintro e w1 ⟨rfl, rfl⟩
  go_wp2_with fail
  go_ret
  exact ⟨rfl, rfl⟩
theorem ciso_p (g g2 : Nat) (l b l2 b2 : List Nat) (root lone root2 lone2 : Int) (P Q P2 Q2 : List Nat) (w : World) (h : MapAt w g l b root lone) (h2 : MapAt w g2 l2 b2 root2 lone2) (hi : Inv l b) (hi2 : Inv l2 b2) (hC : CanO l root P Q) (hC2 : CanO l2 root2 P2 Q2) :
    Calls Try.prog 25 #[.pointer (some ⟨g, 0, none⟩), .pointer (some ⟨g2, 0, none⟩)] w fun e w' => e = .returned (.bool (decide (reRoot P root = reRoot P2 root2 ∧ lone = lone2 ∧ cjL P Q l = cjL P2 Q2 l2))) ∧ Below w.heap.size w w' := by
  have CP := Lib.hid (canon_any g l b root lone P Q w h hi hC)
  have CP2 : Hid (∀ W, Below w.heap.size w W → Calls Try.prog 11 #[.pointer (some ⟨g2, 0, none⟩)] W (CanonAny W l2 b2 P2 Q2 root2 lone2)) := fun W m => canon_any g2 l2 b2 root2 lone2 P2 Q2 W (h2.below m) hi2 hC2
  clear h h2 hi hi2 hC hC2
  go_enter Try.func25, Try.ntmps25
  go_wp2_with fail
  refine CP.out.mono ?_
  rintro e w1 ⟨g', gp, rfl, m1, _, b1⟩
  have C2 := Lib.hid (CP2.out w1 b1)
  have B1 := Lib.hid b1
  have M1 := Lib.hid m1
  clear m1 b1 CP CP2
  go_wp2_with fail
  refine C2.out.mono ?_
  rintro e w2 ⟨g3, gp3, rfl, m2, _, z⟩
  have B2 := Lib.hid (B1.out.trans (z.mono B1.out.size))
  have SP := Lib.hid (dsame_p g' g3 _ _ _ _ _ _ _ _ w2 (M1.out.below z) m2)
  clear m2 z C2 M1 B1
  go_wp2_with fail
  refine SP.out.mono ?_
  rintro e w3 ⟨rfl, z⟩
  have B3 := Lib.hid (B2.out.trans (z.mono B2.out.size))
  clear z SP B2
  go_wp2_with fail
  go_ret
  refine ⟨?_, B3.out⟩
  simp
theorem ciso_nil1 (g : Nat) (l b : List Nat) (root lone : Int) (P Q : List Nat) (w : World) (h : MapAt w g l b root lone) (hi : Inv l b) (hC : CanO l root P Q) :
    Calls Try.prog 25 #[.pointer (some ⟨g, 0, none⟩), .pointer none] w fun e w' => e = .returned (.bool false) ∧ Below w.heap.size w w' := by
  have CP := Lib.hid (canon_any g l b root lone P Q w h hi hC)
  clear h hi hC
  go_enter Try.func25, Try.ntmps25
  go_wp2_with fail
  refine CP.out.mono ?_
  rintro e w1 ⟨g', gp, rfl, m1, _, b1⟩
  have B1 := Lib.hid b1
  have C2 := Lib.hid (canon_none w1)
  have SP := Lib.hid (dsame_nil1 g' (cjL P Q l) (cjL P Q b) root lone w1)
  clear m1 b1 CP
  go_wp2_with fail
  refine C2.out.mono ?_
  rintro e w2 ⟨rfl, rfl⟩
  go_wp2_with fail
  refine SP.out.mono ?_
  rintro e w3 ⟨rfl, z⟩
  have B3 := Lib.hid (B1.out.trans (z.mono B1.out.size))
  clear z SP B1
  go_wp2_with fail
  go_ret
  exact ⟨rfl, B3.out⟩
theorem ciso_nil (w : World) : Calls Try.prog 25 #[.pointer none, .pointer none] w fun e w' => e = .returned (.bool true) ∧ Below w.heap.size w w' := by
  have C1 := Lib.hid (canon_none w)
  have SP := Lib.hid (dsame_nil w)
  go_enter Try.func25, Try.ntmps25
  go_wp2_with fail
  refine C1.out.mono ?_
  rintro e w1 ⟨rfl, rfl⟩
  go_wp2_with fail
  refine C1.out.mono ?_
  rintro e w2 ⟨rfl, rfl⟩
  go_wp2_with fail
  refine SP.out.mono ?_
  rintro e w3 ⟨rfl, z⟩
  have B3 := Lib.hid z
  clear z
  go_wp2_with fail
  go_ret
  exact ⟨rfl, B3.out⟩
end Go.Proofs.Ytoncollcefanjaa
namespace Go.Proofs.Ytoncollcefanjaa
set_option maxRecDepth 100000
open Go.RowKit
set_option linter.unusedVariables false
set_option linter.unusedSimpArgs false
set_option maxHeartbeats 4000000 in
theorem csadd_p (Fr : Nat → Prop) (g n gD gP gO cD cP cO : Nat) (D P O F Z C : List Nat) (f z : Nat) (w : World)
    (h : SrtM w Fr g n gD gP gO cD cP cO D P O F Z C) (hFr : ∀ k, w.heap.size ≤ k → Fr k) (hn : F.length ≤ 1000000) :
    Calls Try.prog 78 #[.pointer (some ⟨g, 0, none⟩), .int .i64 (f : Int), .int .i64 (z : Int)] w fun e w' => e = .returned (.int .i64 (F.length : Int)) ∧
      SrtM w' Fr g n gD gP gO cD cP cO D P O (F ++ [f]) (Z ++ [z]) (C ++ [0]) ∧ Mod Fr w w' := by
  obtain ⟨AF, cF, AZ, cZ, AC, cC, h, hZl, hCl⟩ := h
  obtain ⟨k, hk⟩ : ∃ k, k = F.length := ⟨_, rfl⟩
  rw [← hk] at h hZl hCl hn ⊢
  have vF : (.slice AF k cF : Value) = .slice AF F.length cF := by rw [hk]
  have r3 := h.bx.cell 3
  simp at r3
  obtain ⟨A1, c1, w1, hrun1, hb1, s1, m1⟩ := h.push 3 rfl (by simp) (by rw [← hk]; rfl) f (by omega) hFr
  rw [← hk] at hrun1 s1 m1
  have f1 := hb1.frozen 3
  have e1 := hb1.cell 3
  simp at e1
  generalize hw1 : w1.setCell ⟨g, 3, none⟩ (.slice A1 (k + 1) c1) = v1 at *
  have hs1 := m1.size
  have r4 := s1.bx.cell 4
  simp at r4
  obtain ⟨A2, c2, w2, hrun2, hb2, s2, m2⟩ := s1.push 4 rfl (by simp) (by rw [hZl]; rfl) z (by omega) (fun j hj => hFr j (by omega))
  rw [hZl] at hrun2 s2 m2
  have f2 := hb2.frozen 4
  have e2 := hb2.cell 4
  simp at e2
  generalize hw2 : w2.setCell ⟨g, 4, none⟩ (.slice A2 (k + 1) c2) = v2 at *
  have hs2 := m2.size
  have r5 := s2.bx.cell 5
  simp at r5
  obtain ⟨A3, c3, w3, hrun3, hb3, s3, m3⟩ := s2.push 5 rfl (by simp) (by rw [hCl]; rfl) 0 (by omega) (fun j hj => hFr j (by omega))
  rw [hCl] at hrun3 s3 m3
  have f3 := hb3.frozen 5
  have e3 := hb3.cell 5
  simp at e3
  generalize hw3 : w3.setCell ⟨g, 5, none⟩ (.slice A3 (k + 1) c3) = v3 at *
  have r3' := s3.bx.cell 3
  simp at r3'
  have FIN : Hid (SrtM v3 Fr g n gD gP gO cD cP cO D P O (F ++ [f]) (Z ++ [z]) (C ++ [0]) ∧ Mod Fr w v3) :=
    ⟨SrtM.of s3 ⟨by simp [hk], by simp [hZl], by simp [hCl]⟩, (m1.trans m2 fun _ _ q => q).trans m3 fun _ _ q => q⟩
  have wk : IntKind.i64.wrap (k : Int) = (k : Int) := by simp [IntKind.wrap, IntKind.signed, IntKind.bits]; omega
  have hrun3' : (Builtin.append_ #[24, 24] 24 #[.slice AC k cC, .slice (some ⟨v2.heap.size, 0, none⟩) 1 1]).run Try.prog (v2.alloc (.cells #[.int .i64 0] 3)) = .ok (.slice A3 (k + 1) c3) w3 := hrun3
  clear h s1 m1 hs1 s2 m2 hs2 s3 m3 hb1 hb2 hb3 hZl hCl hk vF hrun3
  go_enter Try.func78, Try.ntmps78
  go_upto_region 2 with (first | (at_builtin; go_must (refine wpList_append_runR rfl _ _ _ rfl _ _ _ _ rfl rfl hrun1 ?_)))
  go_upto_region 3 with (first | (at_builtin; go_must (refine wpList_append_runR rfl _ _ _ rfl _ _ _ _ rfl rfl hrun2 ?_)))
  go_wp2_with (first | (at_builtin; go_must (refine wpList_append_runR rfl _ _ _ rfl _ _ _ _ rfl rfl hrun3' ?_)))
  go_ret
  exact ⟨rfl, FIN.out.1, FIN.out.2⟩
set_option maxHeartbeats 4000000 in
theorem csall_p (Fr : Nat → Prop) (g n gD gP gO cD cP cO : Nat) (D P O F Z C : List Nat) (s : Nat) (w : World)
    (h : SrtM w Fr g n gD gP gO cD cP cO D P O F Z C) (hD : D.length = n) (hs : s < F.length) (hfz : F.getD s 0 + Z.getD s 0 ≤ n) (hz : 0 < Z.getD s 0) (hn : n ≤ 1000000) (hk : F.length ≤ 1000000) :
    Calls Try.prog 64 #[.pointer (some ⟨g, 0, none⟩), .int .i64 (s : Int)] w fun e w' => ∃ c, e = .returned (.slice (some ⟨gD, F.getD s 0, none⟩) (Z.getD s 0) c) ∧
      Rd w' w'.heap.size (some ⟨gD, F.getD s 0, none⟩) (Z.getD s 0) (I64 (ofN (atL D (F.getD s 0) (Z.getD s 0)))) ∧ (∃ j, w' = w.drewN j) := by
  obtain ⟨AF, cF, AZ, cZ, AC, cC, h, hZl, hCl⟩ := h
  obtain ⟨k, hk⟩ : ∃ k, k = F.length := ⟨_, rfl⟩
  rw [← hk] at h hZl hCl hs
  obtain ⟨gF, rfl⟩ := h.somN 3 rfl rfl hk.symm (by omega)
  obtain ⟨gZ, rfl⟩ := h.somN 4 rfl rfl hZl (by omega)
  have r0 := h.bx.cell 0
  have r3 := h.bx.cell 3
  have r4 := h.bx.cell 4
  simp at r0 r3 r4
  obtain ⟨c3, _⟩ := h.cellN 3 rfl rfl hk.symm s hs
  obtain ⟨c4, _⟩ := h.cellN 4 rfl rfl hZl s hs
  have hcap := h.capN 0 rfl rfl (by rw [lenR, hD])
  have HR : Hid (∀ j, Rd (w.drewN j) (w.drewN j).heap.size (some ⟨gD, F.getD s 0, none⟩) (Z.getD s 0) (I64 (ofN (atL D (F.getD s 0) (Z.getD s 0))))) := fun j => by
    have := (h.rd 0 rfl rfl (by rw [lenR, hD])).drop (F.getD s 0)
    have := (this.take (Z.getD s 0) (by omega)).drewN j
    have e : ((I64 (ofN D)).drop (F.getD s 0)).take (Z.getD s 0) = I64 (ofN (atL D (F.getD s 0) (Z.getD s 0))) := by simp [I64, ofN, atL, List.map_take, List.map_drop]
    rw [e, Nat.zero_add] at this
    exact this
  have hsi : (s : Int) < (k : Int) := by omega
  generalize F.getD s 0 = f at *
  generalize Z.getD s 0 = z at *
  have hfc : ¬ (cD = f) := by omega
  have hfc2 : ¬ (f = cD) := by omega
  have hfn : (f : Int) ≤ (n : Int) := by omega
  have hzc : (z : Int) ≤ (cD : Int) - (f : Int) := by omega
  have hm : cD ≤ 9223372036854775807 := by have := hcap.2; simp only [maxLen] at this; omega
  clear h hk hZl hCl
  go_enter Try.func64, Try.ntmps64
  go_wp2_with fail
  go_quiet (fail)
  go_wp2_with fail
  go_ret
  exact ⟨_, rfl, HR.out _, _, rfl⟩
end Go.Proofs.Ytoncollcefanjaa
namespace Go.Proofs.Ytoncollcefanjaa
set_option maxRecDepth 100000
open Go.RowKit
set_option linter.unusedVariables false
set_option linter.unusedSimpArgs false
def HalvePost (w : World) (Fr : Nat → Prop) (g n gD gP gO cD cP cO : Nat) (D P O F Z C : List Nat) (X : Nat → Prop) (s : Nat) (e : Ending) (w' : World) : Prop :=
  e = .returned (.tuple #[]) ∧ ∃ O' F' Z' C', SrtM w' Fr g n gD gP gO cD cP cO D P O' F' Z' C' ∧ Srt n D P O' F' Z' ∧ Cho n P O' F' Z' C' (fun x => X x ∧ O.getD x 0 ≠ s) ∧ F.length ≤ F'.length ∧
    (∀ x, x < n → O'.getD x 0 = O.getD x 0 ∨ O.getD x 0 = s ∧ F.length ≤ O'.getD x 0) ∧ (∀ t, t < F.length → t ≠ s → C'.getD t 0 = C.getD t 0) ∧
    (∀ R : Nat → Nat → Prop, (∀ d e, d < n → e < n → R d e → O.getD d 0 = O.getD e 0) → (∀ d e, d < n → e < n → R d e → O.getD d 0 = s → (X d ↔ X e)) → ∀ d e, d < n → e < n → R d e → O'.getD d 0 = O'.getD e 0) ∧ Mod Fr w w'
theorem halve_end {w w' : World} {Fr : Nat → Prop} {g n gD gP gO cD cP cO k s f z f0 : Nat} {D P O F Z C : List Nat} {X : Nat → Prop} {AF AZ AC : Option Addr} {cF cZ cC : Nat} (S : Srt n D P O F Z) (H : Cho n P O F Z C X) (hk : k = F.length) (hs : s < k) (hz : 0 < z) (hzz : z < Z.getD s 0)
    (hf : f = F.getD s 0 ∧ f0 = F.getD s 0 + z ∧ z = C.getD s 0 ∨ f = F.getD s 0 + C.getD s 0 ∧ f0 = F.getD s 0 ∧ z = Z.getD s 0 - C.getD s 0)
    (h : RowsR w' Fr g 98 [ivS gD n cD, ivS gP n cP, ivS gO n cO, .slice AF (k + 1) cF, .slice AZ (k + 1) cZ, .slice AC (k + 1) cC] [irS D, irS P, irS (setAll O (atL D f z) k), irS (F.set s f0 ++ [f]), irS (Z.set s (Z.getD s 0 - z) ++ [z]), irS (C.set s 0 ++ [0])]) (m : Mod Fr w w') :
    HalvePost w Fr g n gD gP gO cD cP cO D P O F Z C X s (.returned (.tuple #[])) w' := by
  have hcz := H.le s (by omega)
  have hsl : s < F.length := by omega
  have hfz := S.fz s hsl
  have hfn : f + z ≤ n := by omega
  have hO : ∀ x, x < n → (setAll O (atL D f z) k).getD x 0 = if f ≤ P.getD x 0 ∧ P.getD x 0 < f + z then F.length else O.getD x 0 := fun x hx => by
    rcases setAll_get k (atL D f z) O (fun d hd => by rw [S.ol]; exact ((S.atL_mem hfn).1 hd).1) x with ⟨h1, h2⟩ | ⟨h1, h2⟩
    · rw [if_pos ((S.atL_mem hfn).1 h2).2, h1, hk]
    · rw [if_neg (fun c => h2 ((S.atL_mem hfn).2 ⟨hx, c⟩)), h1]
  obtain ⟨S', H'⟩ := S.halve H hsl hz hzz (f := f) (f0 := f0) (by omega) (O' := setAll O (atL D f z) k) (by rw [setAll_len, S.ol]) hO
  refine ⟨rfl, _, _, _, _, SrtM.of h ⟨by simp [hk], by simp [S.zl, hk], by simp [H.len, hk]⟩, S', H', by simp, fun x hx => ?_, fun t ht hts => ?_, fun R hR hX => ?_, m⟩
  · rw [hO x hx]
    split
    · rename_i c; exact .inr ⟨(S.at_ hx hsl).2 (by omega), Nat.le_refl _⟩
    · exact .inl rfl
  · rw [getD_snoc, List.length_set, H.len, if_neg (by omega), getDN_set _ _ _ _ (by rw [H.len]; exact hsl), if_neg hts]
  · exact halve_finer S H hsl hR hX (by omega) hO
set_option maxHeartbeats 8000000 in
theorem cshalve_p (Fr : Nat → Prop) (g n gD gP gO cD cP cO : Nat) (D P O F Z C : List Nat) (X : Nat → Prop) (s : Nat) (w : World)
    (h : SrtM w Fr g n gD gP gO cD cP cO D P O F Z C) (hFr : ∀ k, w.heap.size ≤ k → Fr k) (S : Srt n D P O F Z) (H : Cho n P O F Z C X) (hs : s < F.length) (hc : 0 < C.getD s 0) (hn : n ≤ 500000) :
    Calls Try.prog 82 #[.pointer (some ⟨g, 0, none⟩), .int .i64 (s : Int)] w (HalvePost w Fr g n gD gP gO cD cP cO D P O F Z C X s) := by
  obtain ⟨AF, cF, AZ, cZ, AC, cC, h, hZl, hCl⟩ := h
  obtain ⟨k, hk⟩ : ∃ k, k = F.length := ⟨_, rfl⟩
  have hkn : k ≤ n := by rw [hk]; exact S.few
  have hcz := H.le s hs
  have hfz := S.fz s hs
  rw [← hk] at h hZl hCl hs
  obtain ⟨c, hcc⟩ : ∃ c, c = C.getD s 0 := ⟨_, rfl⟩
  obtain ⟨zs, hzs⟩ : ∃ c, c = Z.getD s 0 := ⟨_, rfl⟩
  obtain ⟨fs, hfs⟩ : ∃ c, c = F.getD s 0 := ⟨_, rfl⟩
  rw [← hcc] at hc hcz
  rw [← hzs] at hcz hfz
  rw [← hfs] at hfz
  obtain ⟨gF, rfl⟩ := h.somN 3 rfl rfl hk.symm (by omega)
  obtain ⟨gZ, rfl⟩ := h.somN 4 rfl rfl hZl (by omega)
  obtain ⟨gC, rfl⟩ := h.somN 5 rfl rfl hCl (by omega)
  have r4 := h.bx.cell 4
  have r5 := h.bx.cell 5
  simp at r4 r5
  obtain ⟨c4, _⟩ := h.cellN 4 rfl rfl hZl s hs
  obtain ⟨c5, fr5⟩ := h.cellN 5 rfl rfl hCl s hs
  rw [← hzs] at c4
  rw [← hcc] at c5
  obtain ⟨v1, hv1⟩ : ∃ v1, w.setCell ⟨gC, s, none⟩ (.int .i64 0) = v1 := ⟨_, rfl⟩
  have s1 : RowsR v1 Fr g 98 [ivS gD n cD, ivS gP n cP, ivS gO n cO, ivS gF k cF, ivS gZ k cZ, ivS gC k cC] [irS D, irS P, irS O, irS F, irS Z, irS (C.set s 0)] := by rw [← hv1]; exact (h.putN 5 rfl rfl hCl s 0 rfl).1
  have m1 : Mod Fr w v1 := by rw [← hv1]; exact (h.putN 5 rfl rfl hCl s 0 rfl).2
  have hs1 := m1.size
  have HSI : Hid ((s : Int) < (k : Int)) := by show _ < _; omega
  have hsi := HSI.out
  obtain ⟨rest, hrest⟩ : ∃ r, r = zs - c := ⟨_, rfl⟩
  have wr1 : IntKind.i64.wrap ((zs : Int) - (c : Int)) = (rest : Int) := by rw [hrest]; simp [IntKind.wrap, IntKind.signed, IntKind.bits]; omega
  by_cases hr0 : rest = 0
  · have d0 : ((rest : Int) == 0) = true := by rw [beq_iff_eq]; omega
    have FIN : Hid (HalvePost w Fr g n gD gP gO cD cP cO D P O F Z C X s (.returned (.tuple #[])) v1) := by
      refine ⟨rfl, O, F, Z, C.set s 0, SrtM.of s1 ⟨hk, hZl, by simpa using hCl⟩, S, S.keep H (by omega), Nat.le_refl _, fun x hx => .inl rfl, fun t ht hts => ?_, fun R hR _ => hR, m1⟩
      rw [getDN_set _ _ _ _ (by rw [H.len]; omega), if_neg hts]
    clear h S H s1 m1 hk hZl hCl hcc hzs hfs hrest hr0 hFr
    go_enter Try.func82, Try.ntmps82
    go_wp2_with fail
    refine bodyPost_ret (results_none rfl _ _ _) rfl ?_
    exact FIN.out
  · have d0 : ((rest : Int) == 0) = false := by rw [beq_eq_false_iff_ne]; omega
    have r3 := s1.bx.cell 3
    have r4' := s1.bx.cell 4
    simp at r3 r4'
    obtain ⟨c3, f3⟩ := s1.cellN 3 rfl rfl hk.symm s hs
    rw [← hfs] at c3
    by_cases hle : c ≤ rest
    · have dle : decide (c ≤ rest) = true := decide_eq_true hle
      have hmin : ∀ w, (Builtin.min_ #[3, 3] 3 #[.int .i64 (c : Int), .int .i64 (rest : Int)]).run Try.prog w = .ok (.int .i64 (c : Int)) w := fun w => by
        simp [Builtin.min_, Builtin.min2]; omega
      obtain ⟨f1, hf1⟩ : ∃ f1, f1 = fs + c := ⟨_, rfl⟩
      have wf1 : IntKind.i64.wrap ((fs : Int) + (c : Int)) = (f1 : Int) := by rw [hf1]; simp [IntKind.wrap, IntKind.signed, IntKind.bits]; omega
      obtain ⟨s2, m2⟩ := s1.putN 3 rfl rfl hk.symm s f1 rfl
      have hs2 := m2.size
      generalize hv2 : v1.setCell ⟨gF, s, none⟩ (.int .i64 (f1 : Int)) = v2 at *
      have hF2 : (F.set s f1).length = k := by simp [hk]
      have r4b := s2.bx.cell 4
      simp at r4b
      obtain ⟨c4b, f4b⟩ := s2.cellN 4 rfl rfl hZl s hs
      rw [← hzs] at c4b
      obtain ⟨s3, m3⟩ := s2.putN 4 rfl rfl hZl s rest rfl
      have hs3 := m3.size
      generalize hv3 : v2.setCell ⟨gZ, s, none⟩ (.int .i64 (rest : Int)) = v3 at *
      have MM3 : Mod Fr w v3 := (m1.trans m2 fun _ _ q => q).trans m3 fun _ _ q => q
      have SM3 : SrtM v3 Fr g n gD gP gO cD cP cO D P O (F.set s f1) (Z.set s rest) (C.set s 0) := SrtM.of s3 ⟨hF2.symm, by simpa using hZl, by simpa using hCl⟩
      have ADD := Lib.hid (csadd_p Fr g n gD gP gO cD cP cO D P O (F.set s f1) (Z.set s rest) (C.set s 0) fs c v3 SM3 (fun j hj => hFr j (by have := MM3.size; omega)) (by rw [hF2]; omega))
      rw [← hF2.symm] at ADD
      have HM3 := Lib.hid MM3
      have END : Hid (∀ (W : World) (AF AZ AC : Option Addr) (cF cZ cC : Nat), RowsR W Fr g 98 [ivS gD n cD, ivS gP n cP, ivS gO n cO, .slice AF (k + 1) cF, .slice AZ (k + 1) cZ, .slice AC (k + 1) cC] [irS D, irS P, irS (setAll O (atL D fs c) k), irS (F.set s f1 ++ [fs]), irS (Z.set s rest ++ [c]), irS (C.set s 0 ++ [0])] → Mod Fr w W →
          HalvePost w Fr g n gD gP gO cD cP cO D P O F Z C X s (.returned (.tuple #[])) W) := fun W AF AZ AC cF cZ cC hR hM => by
        rw [hf1, hfs, hrest, hzs] at hR
        exact halve_end S H hk hs (by omega) (by omega) (by omega) hR hM
      have hfln : fs + c ≤ n := by omega
      have HAL : Hid (∀ W, SrtM W Fr g n gD gP gO cD cP cO D P O (F.set s f1 ++ [fs]) (Z.set s rest ++ [c]) (C.set s 0 ++ [0]) → Calls Try.prog 64 #[.pointer (some ⟨g, 0, none⟩), .int .i64 (k : Int)] W fun e w' => ∃ c8, e = .returned (.slice (some ⟨gD, fs, none⟩) c c8) ∧ (∃ j, w' = W.drewN j)) := fun W hW => by
        have gF9 : (F.set s f1 ++ [fs]).getD k 0 = fs := by rw [getD_snoc, if_pos hF2.symm]
        have gZ9 : (Z.set s rest ++ [c]).getD k 0 = c := by rw [getD_snoc, if_pos (by simp [hZl])]
        have := csall_p Fr g n gD gP gO cD cP cO D P O (F.set s f1 ++ [fs]) (Z.set s rest ++ [c]) (C.set s 0 ++ [0]) k W hW S.dl (by rw [List.length_append, ← hF2.symm]; simp) (by rw [gF9, gZ9]; exact hfln) (by rw [gZ9]; omega) (by omega) (by rw [List.length_append, ← hF2.symm]; simp; omega)
        rw [gF9, gZ9] at this
        exact this.mono fun e w' ⟨c8, h1, _, h3⟩ => ⟨c8, h1, h3⟩
      have HL : Hid (k + 1 = (F.set s f1 ++ [fs]).length) := by show _ = _; rw [List.length_append, ← hF2.symm]; rfl
      have HDL : Hid (D.length = n ∧ O.length = n ∧ (∀ i, i < c → D.getD (fs + i) 0 < n) ∧ fs + c ≤ n) := ⟨S.dl, S.ol, fun i hi => S.dlt (by omega), hfln⟩
      have wk : IntKind.i64.wrap (k : Int) = (k : Int) := by simp [IntKind.wrap, IntKind.signed, IntKind.bits]; omega
      obtain ⟨OX, hOX⟩ : ∃ OX, OX = atL D fs c := ⟨_, rfl⟩
      have HOX : Hid (OX.length = c ∧ ∀ i, i < c → OX.getD i 0 = D.getD (fs + i) 0) := ⟨by rw [hOX]; exact atL_len D _ _ (by rw [S.dl]; exact hfln), fun i hi => by rw [hOX]; exact atL_get D _ _ i hi⟩
      rw [← hOX] at END
      have hl9 : c ≤ 500000 := by omega
      generalize (F.set s f1 ++ [fs]) = F9 at *
      generalize (Z.set s rest ++ [c]) = Z9 at *
      generalize (C.set s 0 ++ [0]) = C9 at *
      have HKN := Lib.hid hkn
      clear h S H s1 m1 s3 m3 SM3 MM3 hk hZl hCl hcc hzs hfs hrest hr0 hFr hs1 hs3 hfln hOX hfz hcz s2 m2 hs2 hF2 hf1
      go_enter Try.func82, Try.ntmps82
      go_wp2_with fail
      refine ADD.out.mono ?_
      rintro e w4 ⟨rfl, t4, m4⟩
      have T4 := Lib.hid t4
      have M4 := Lib.hid (HM3.out.trans m4 fun _ _ q => q)
      clear t4 m4 ADD HM3
      go_wp2_with fail
      refine (HAL.out w4 T4.out).mono ?_
      rintro e w5 ⟨c9, rfl, j, rfl⟩
      obtain ⟨AF, cF, AZ, cZ, AC, cC, t5, q1, q2⟩ := T4.out
      rw [← HL.out] at t5 q1 q2
      have T5 := Lib.hid (t5.drewN j)
      have M5 := Lib.hid (M4.out.drewN j)
      clear t5 q1 q2 T4 M4 HAL
      generalize w4.drewN j = w5 at *
      go_wp2_with fail
      go_loopw [79] (fun i wr => ∃ i' : Nat, i' ≤ c ∧ i = .int .i64 (i' : Int) ∧ Hid (RowsR wr Fr g 98 [ivS gD n cD, ivS gP n cP, ivS gO n cO, .slice AF (k + 1) cF, .slice AZ (k + 1) cZ, .slice AC (k + 1) cC] [irS D, irS P, irS (setAll O (OX.take i') k), irS F9, irS Z9, irS C9]) ∧ Hid (Mod Fr w wr)) (fun i _ => c - (intOf i).toNat)
      case atStart => exact ⟨0, Nat.zero_le _, rfl, T5, M5⟩
      case round =>
        clear T5 M5
        obtain ⟨i', hi', rfl, T6, M6⟩ := hrel
        by_cases hlt : i' < c
        · have hdl : decide (i' < c) = true := decide_eq_true hlt
          obtain ⟨h61, _⟩ := T6.out.cellN 0 rfl rfl HDL.out.1 (fs + i') (by have := HDL.out.2.2.2; omega)
          have hdn := HDL.out.2.2.1 i' hlt
          obtain ⟨y, hy⟩ : ∃ y, y = D.getD (fs + i') 0 := ⟨_, rfl⟩
          rw [← hy] at h61 hdn
          have r62 := T6.out.bx.cell 2
          simp at r62
          obtain ⟨h62, f62⟩ := T6.out.cellN 2 rfl rfl (by rw [setAll_len]; exact HDL.out.2.1) y hdn
          obtain ⟨T7, M7⟩ := T6.out.putN 2 rfl rfl (by rw [setAll_len]; exact HDL.out.2.1) y k rfl
          have TK : OX.take (i' + 1) = OX.take i' ++ [y] := by rw [take_oneN OX i' (by rw [HOX.out.1]; exact hlt), HOX.out.2 i' hlt, ← hy]
          have T8 : Hid (RowsR (wr.setCell ⟨gO, y, none⟩ (.int .i64 (k : Int))) Fr g 98 [ivS gD n cD, ivS gP n cP, ivS gO n cO, .slice AF (k + 1) cF, .slice AZ (k + 1) cZ, .slice AC (k + 1) cC] [irS D, irS P, irS (setAll O (OX.take (i' + 1)) k), irS F9, irS Z9, irS C9]) := by
            rw [TK, setAll_snoc]; exact T7
          have M8 := Lib.hid (M6.out.trans M7 fun _ _ q => q)
          have hyi : (y : Int) < (n : Int) := by omega
          clear hy TK T7 M7 T6 M6 hdn
          go_wp2_with fail
          go_roundw
          case rel => exact ⟨i' + 1, by omega, by go_num, T8, M8⟩
          case measure => simp [intOf]; omega
        · obtain rfl : i' = c := by omega
          have hdl : decide (i' < i') = false := by simp
          have T7 := T6.out
          rw [List.take_of_length_le (by rw [HOX.out.1]; exact Nat.le_refl _)] at T7
          have FIN := Lib.hid (END.out wr _ _ _ _ _ _ T7 M6.out)
          clear T7 T6 M6 END
          go_wp2_with fail
          refine bodyPost_end (results_none rfl _ _ _) rfl ?_
          exact FIN.out
    · have dle : decide (c ≤ rest) = false := decide_eq_false hle
      have hmin : ∀ w, (Builtin.min_ #[3, 3] 3 #[.int .i64 (c : Int), .int .i64 (rest : Int)]).run Try.prog w = .ok (.int .i64 (rest : Int)) w := fun w => by
        simp [Builtin.min_, Builtin.min2]; omega
      obtain ⟨f1, hf1⟩ : ∃ f1, f1 = fs + c := ⟨_, rfl⟩
      have wf1 : IntKind.i64.wrap ((fs : Int) + (c : Int)) = (f1 : Int) := by rw [hf1]; simp [IntKind.wrap, IntKind.signed, IntKind.bits]; omega
      have hFF : F.set s fs = F := by
        refine getDN_extC (by simp) fun i hi => ?_
        rw [getDN_set _ _ _ _ (by omega)]
        split
        · rename_i e; rw [e, hfs]
        · rfl
      have r4b := s1.bx.cell 4
      simp at r4b
      obtain ⟨c4b, f4b⟩ := s1.cellN 4 rfl rfl hZl s hs
      rw [← hzs] at c4b
      obtain ⟨zn, hzn⟩ : ∃ x, x = zs - rest := ⟨_, rfl⟩
      have wzn : IntKind.i64.wrap ((zs : Int) - (rest : Int)) = (zn : Int) := by rw [hzn]; simp [IntKind.wrap, IntKind.signed, IntKind.bits]; omega
      obtain ⟨s3, m3⟩ := s1.putN 4 rfl rfl hZl s zn rfl
      have hs3 := m3.size
      generalize hv3 : v1.setCell ⟨gZ, s, none⟩ (.int .i64 (zn : Int)) = v3 at *
      have MM3 : Mod Fr w v3 := m1.trans m3 fun _ _ q => q
      have SM3 : SrtM v3 Fr g n gD gP gO cD cP cO D P O (F) (Z.set s zn) (C.set s 0) := SrtM.of s3 ⟨hk, by simpa using hZl, by simpa using hCl⟩
      have ADD := Lib.hid (csadd_p Fr g n gD gP gO cD cP cO D P O (F) (Z.set s zn) (C.set s 0) f1 rest v3 SM3 (fun j hj => hFr j (by have := MM3.size; omega)) (by omega))
      rw [← hk] at ADD
      have HM3 := Lib.hid MM3
      have END : Hid (∀ (W : World) (AF AZ AC : Option Addr) (cF cZ cC : Nat), RowsR W Fr g 98 [ivS gD n cD, ivS gP n cP, ivS gO n cO, .slice AF (k + 1) cF, .slice AZ (k + 1) cZ, .slice AC (k + 1) cC] [irS D, irS P, irS (setAll O (atL D f1 rest) k), irS (F ++ [f1]), irS (Z.set s zn ++ [rest]), irS (C.set s 0 ++ [0])] → Mod Fr w W →
          HalvePost w Fr g n gD gP gO cD cP cO D P O F Z C X s (.returned (.tuple #[])) W) := fun W AF AZ AC cF cZ cC hR hM => by
        rw [← hFF, hfs, hzn, hzs] at hR
        exact halve_end S H hk hs (by omega) (by omega) (by omega) hR hM
      have hfln : f1 + rest ≤ n := by omega
      have HAL : Hid (∀ W, SrtM W Fr g n gD gP gO cD cP cO D P O (F ++ [f1]) (Z.set s zn ++ [rest]) (C.set s 0 ++ [0]) → Calls Try.prog 64 #[.pointer (some ⟨g, 0, none⟩), .int .i64 (k : Int)] W fun e w' => ∃ c8, e = .returned (.slice (some ⟨gD, f1, none⟩) rest c8) ∧ (∃ j, w' = W.drewN j)) := fun W hW => by
        have gF9 : (F ++ [f1]).getD k 0 = f1 := by rw [getD_snoc, if_pos hk]
        have gZ9 : (Z.set s zn ++ [rest]).getD k 0 = rest := by rw [getD_snoc, if_pos (by simp [hZl])]
        have := csall_p Fr g n gD gP gO cD cP cO D P O (F ++ [f1]) (Z.set s zn ++ [rest]) (C.set s 0 ++ [0]) k W hW S.dl (by rw [List.length_append, ← hk]; simp) (by rw [gF9, gZ9]; exact hfln) (by rw [gZ9]; omega) (by omega) (by rw [List.length_append, ← hk]; simp; omega)
        rw [gF9, gZ9] at this
        exact this.mono fun e w' ⟨c8, h1, _, h3⟩ => ⟨c8, h1, h3⟩
      have HL : Hid (k + 1 = (F ++ [f1]).length) := by show _ = _; rw [List.length_append, ← hk]; rfl
      have HDL : Hid (D.length = n ∧ O.length = n ∧ (∀ i, i < rest → D.getD (f1 + i) 0 < n) ∧ f1 + rest ≤ n) := ⟨S.dl, S.ol, fun i hi => S.dlt (by omega), hfln⟩
      have wk : IntKind.i64.wrap (k : Int) = (k : Int) := by simp [IntKind.wrap, IntKind.signed, IntKind.bits]; omega
      obtain ⟨OX, hOX⟩ : ∃ OX, OX = atL D f1 rest := ⟨_, rfl⟩
      have HOX : Hid (OX.length = rest ∧ ∀ i, i < rest → OX.getD i 0 = D.getD (f1 + i) 0) := ⟨by rw [hOX]; exact atL_len D _ _ (by rw [S.dl]; exact hfln), fun i hi => by rw [hOX]; exact atL_get D _ _ i hi⟩
      rw [← hOX] at END
      have hl9 : rest ≤ 500000 := by omega
      generalize (F ++ [f1]) = F9 at *
      generalize (Z.set s zn ++ [rest]) = Z9 at *
      generalize (C.set s 0 ++ [0]) = C9 at *
      have HKN := Lib.hid hkn
      clear h S H s1 m1 s3 m3 SM3 MM3 hk hZl hCl hcc hzs hfs hrest hr0 hFr hs1 hs3 hfln hOX hfz hcz hFF hf1 hzn
      go_enter Try.func82, Try.ntmps82
      go_wp2_with fail
      refine ADD.out.mono ?_
      rintro e w4 ⟨rfl, t4, m4⟩
      have T4 := Lib.hid t4
      have M4 := Lib.hid (HM3.out.trans m4 fun _ _ q => q)
      clear t4 m4 ADD HM3
      go_wp2_with fail
      refine (HAL.out w4 T4.out).mono ?_
      rintro e w5 ⟨c9, rfl, j, rfl⟩
      obtain ⟨AF, cF, AZ, cZ, AC, cC, t5, q1, q2⟩ := T4.out
      rw [← HL.out] at t5 q1 q2
      have T5 := Lib.hid (t5.drewN j)
      have M5 := Lib.hid (M4.out.drewN j)
      clear t5 q1 q2 T4 M4 HAL
      generalize w4.drewN j = w5 at *
      go_wp2_with fail
      go_loopw [79] (fun i wr => ∃ i' : Nat, i' ≤ rest ∧ i = .int .i64 (i' : Int) ∧ Hid (RowsR wr Fr g 98 [ivS gD n cD, ivS gP n cP, ivS gO n cO, .slice AF (k + 1) cF, .slice AZ (k + 1) cZ, .slice AC (k + 1) cC] [irS D, irS P, irS (setAll O (OX.take i') k), irS F9, irS Z9, irS C9]) ∧ Hid (Mod Fr w wr)) (fun i _ => rest - (intOf i).toNat)
      case atStart => exact ⟨0, Nat.zero_le _, rfl, T5, M5⟩
      case round =>
        clear T5 M5
        obtain ⟨i', hi', rfl, T6, M6⟩ := hrel
        by_cases hlt : i' < rest
        · have hdl : decide (i' < rest) = true := decide_eq_true hlt
          obtain ⟨h61, _⟩ := T6.out.cellN 0 rfl rfl HDL.out.1 (f1 + i') (by have := HDL.out.2.2.2; omega)
          have hdn := HDL.out.2.2.1 i' hlt
          obtain ⟨y, hy⟩ : ∃ y, y = D.getD (f1 + i') 0 := ⟨_, rfl⟩
          rw [← hy] at h61 hdn
          have r62 := T6.out.bx.cell 2
          simp at r62
          obtain ⟨h62, f62⟩ := T6.out.cellN 2 rfl rfl (by rw [setAll_len]; exact HDL.out.2.1) y hdn
          obtain ⟨T7, M7⟩ := T6.out.putN 2 rfl rfl (by rw [setAll_len]; exact HDL.out.2.1) y k rfl
          have TK : OX.take (i' + 1) = OX.take i' ++ [y] := by rw [take_oneN OX i' (by rw [HOX.out.1]; exact hlt), HOX.out.2 i' hlt, ← hy]
          have T8 : Hid (RowsR (wr.setCell ⟨gO, y, none⟩ (.int .i64 (k : Int))) Fr g 98 [ivS gD n cD, ivS gP n cP, ivS gO n cO, .slice AF (k + 1) cF, .slice AZ (k + 1) cZ, .slice AC (k + 1) cC] [irS D, irS P, irS (setAll O (OX.take (i' + 1)) k), irS F9, irS Z9, irS C9]) := by
            rw [TK, setAll_snoc]; exact T7
          have M8 := Lib.hid (M6.out.trans M7 fun _ _ q => q)
          have hyi : (y : Int) < (n : Int) := by omega
          clear hy TK T7 M7 T6 M6 hdn
          go_wp2_with fail
          go_roundw
          case rel => exact ⟨i' + 1, by omega, by go_num, T8, M8⟩
          case measure => simp [intOf]; omega
        · obtain rfl : i' = rest := by omega
          have hdl : decide (i' < i') = false := by simp
          have T7 := T6.out
          rw [List.take_of_length_le (by rw [HOX.out.1]; exact Nat.le_refl _)] at T7
          have FIN := Lib.hid (END.out wr _ _ _ _ _ _ T7 M6.out)
          clear T7 T6 M6 END
          go_wp2_with fail
          refine bodyPost_end (results_none rfl _ _ _) rfl ?_
          exact FIN.out
end Go.Proofs.Ytoncollcefanjaa
