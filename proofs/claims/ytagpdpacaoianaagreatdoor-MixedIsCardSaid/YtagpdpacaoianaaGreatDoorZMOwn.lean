/- Owner of a mixed index. -/
import Derived.Test.YtagpdpacaoianaaGreatDoorZMIdx
namespace Go.Proofs.YtagpdpacaoianaaGreatDoor
set_option maxRecDepth 20000
open Go.RowKit
set_option linter.unusedVariables false
/-- The round letter that opens the pair around the i-th letter, among the round ones alone; -1: none. -/
def OwnZ (ks : List Nat) (i : Nat) (z : Int) : Prop :=
  if ks.getD i 0 = 1 then MateOK (exc (val (ownL 0 ks))) (ah 0 ks i) z
  else if ah 0 ks i = 0 then z = -1
  else if (ownL 0 ks).getD (ah 0 ks i - 1) 0 = 1 then z = ((ah 0 ks i - 1 : Nat) : Int)
  else RoundOK (exc (val (ownL 0 ks))) (ah 0 ks i - 1) z
def OwnAt (ks : List Nat) (i : Nat) (r : Int) : Prop := ∃ z, OwnZ ks i z ∧ ((z = -1 ∧ r = -1) ∨ ∃ p : Nat, r = (p : Int) ∧ p < ks.length ∧ ks.getD p 0 / 2 = 0 ∧ z = ((ah 0 ks p : Nat) : Int))
section
variable {w0 w : World} {m gx p0 g0 p1 g1 q : Nat} {ks : List Nat}
set_option maxHeartbeats 8000000 in
theorem owner_q (h : Mx w0 w m gx p0 g0 p1 g1 ks q) (i : Nat) (hi : i < ks.length) (hq : q ≤ 800000) :
    Calls Tryz.prog 63 #[.pointer (some ⟨m, 0, none⟩), .int .i64 (i : Int)] w fun e w' => ∃ z : Int, OwnZ ks i z ∧ (z = -1 ∨ ∃ y : Nat, z = (y : Int) ∧ y < (ownL 0 ks).length) ∧ MxP w0 w m gx p0 g0 p1 g1 ks (q + 6) (.returned (.int .i64 z)) e w' := by
  have AP := Lib.hid (ahead_p h 0 i (by decide) (by omega) (by omega))
  have AE := Lib.hid (ah_end 0 ks i (by omega))
  have hy9 : ah 0 ks i ≤ 1000000 := by have h1 := ah_le 0 ks i (by omega); have h2 := h.n9; omega
  have AL := Lib.hid (fun (hs : ks.getD i 0 / 2 = 0) => ah_lt 0 ks i hi hs)
  have hk4 := h.kd.getD i
  have c1 := h.c1
  have OZ : Hid (∀ z, OwnZ ks i z ↔ (if ks.getD i 0 = 1 then MateOK (exc (val (ownL 0 ks))) (ah 0 ks i) z
      else if ah 0 ks i = 0 then z = -1
      else if (ownL 0 ks).getD (ah 0 ks i - 1) 0 = 1 then z = ((ah 0 ks i - 1 : Nat) : Int)
      else RoundOK (exc (val (ownL 0 ks))) (ah 0 ks i - 1) z)) := fun z => Iff.rfl
  obtain ⟨y, hy⟩ : ∃ y, y = ah 0 ks i := ⟨_, rfl⟩
  rw [← hy] at AP AE AL OZ hy9
  obtain ⟨k, hk⟩ : ∃ k, k = ks.getD i 0 := ⟨_, rfl⟩
  rw [← hk] at OZ AL hk4
  have IAT : Hid (∀ {w1 : World} {q1 : Nat}, Mx w0 w1 m gx p0 g0 p1 g1 ks q1 → q1 ≤ 1000000 → Calls Tryz.prog 27 #[.pointer (some ⟨m, 0, none⟩), .int .i64 (i : Int)] w1 (MxP w0 w1 m gx p0 g0 p1 g1 ks (q1 + 1) (.returned (.int .i64 (k : Int))))) := fun h1 hq1 => by
    rw [hk]; exact iat_p h1 i hi hq1
  clear h hy hk
  go_enter Tryz.func63, Tryz.ntmps63
  go_wp2_with fail
  refine AP.out.mono ?_
  rintro e w1 ⟨rfl, h1, m1⟩
  have IA := Lib.hid (IAT.out h1 (by omega))
  have M1 := Lib.hid m1
  have c3 := h1.c1
  clear h1 m1 AP IAT c1
  go_wp2_with fail
  refine IA.out.mono ?_
  rintro e w2 ⟨rfl, h2, m2⟩
  have H2 := Lib.hid h2
  have M2 := Lib.hid (M1.out.trans m2 fun _ _ h => h)
  have c1 := h2.c1
  clear h2 m2 IA M1 c3
  by_cases hk1 : k = 1
  · have ym := AL.out (by omega)
    have MP := Lib.hid (imate_p H2.out 0 y (by decide) ym (by omega))
    have OZ1 : Hid (∀ z, MateOK (exc (val (ownL 0 ks))) y z → OwnZ ks i z) := fun z hz => (OZ.out _).2 (by rw [if_pos hk1]; exact hz)
    subst hk1
    clear AL AE ym hk4 OZ
    go_wp2_with fail
    refine MP.out.mono ?_
    rintro e w3 ⟨z, hz, hmo, rfl, h3, m3⟩
    have H3 := Lib.hid h3
    have M3 := Lib.hid (M2.out.trans m3 fun _ _ h => h)
    have HMO := Lib.hid hmo
    clear h3 m3 M2 MP hmo
    go_wp2_with fail
    go_ret
    exact ⟨(z : Int), OZ1.out _ HMO.out, .inr ⟨z, rfl, hz⟩, rfl, H3.out.le (by omega), M3.out⟩
  · have hkb : ((k : Int) == 1) = false := by rw [beq_eq_false_iff_ne]; omega
    have hki : ¬ (k : Int) = 1 := by omega
    by_cases hy0 : y = 0
    · subst hy0
      have OZ2 : Hid (OwnZ ks i (-1)) := (OZ.out _).2 (by rw [if_neg hk1, if_pos rfl])
      clear hk1 AL AE OZ
      go_wp2_with fail
      go_ret
      exact ⟨-1, OZ2.out, .inl rfl, rfl, H2.out.le (by omega), M2.out⟩
    · obtain ⟨x, rfl⟩ : ∃ x, y = x + 1 := ⟨y - 1, by omega⟩
      have hxl : x < (ownL 0 ks).length := by have := AE.out; omega
      have hsub : (x : Int) + 1 - 1 = (x : Int) := by omega
      have hyb : (((x : Int) + 1) == 0) = false := by rw [beq_eq_false_iff_ne]; omega
      have hyi : ¬ ((x : Int) + 1) = 0 := by omega
      have OP := Lib.hid (H2.out.open_ x hxl)
      rw [show x + 1 - 1 = x by omega] at OZ
      by_cases ho : (ownL 0 ks).getD x 0 = 1
      · have OZ2 : Hid (OwnZ ks i (x : Int)) := (OZ.out _).2 (by rw [if_neg hk1, if_neg hy0, if_pos ho])
        rw [decide_eq_true ho] at OP
        have HXL := Lib.hid hxl
        clear hk1 hy0 AL AE OZ ho hxl
        go_wp2_with fail
        refine OP.out.mono ?_
        rintro e w3 ⟨rfl, rfl⟩
        go_wp2_with fail
        go_ret
        exact ⟨(x : Int), OZ2.out, .inr ⟨x, rfl, HXL.out⟩, rfl, H2.out.le (by omega), M2.out⟩
      · obtain ⟨d, ha⟩ := H2.out.pa
        have RY := Lib.hid (round_yes p0 g0 _ _ (q + 1 + 1) d w2 x H2.out.nulw H2.out.hp0 ha H2.out.b0 hxl (by omega))
        have OZ2 : Hid (∀ z, RoundOK (exc (val (ownL 0 ks))) x z → OwnZ ks i z) := fun z hz => (OZ.out _).2 (by rw [if_neg hk1, if_neg hy0, if_neg ho]; exact hz)
        rw [decide_eq_false ho] at OP
        have HXL := Lib.hid hxl
        clear hk1 hy0 AL AE OZ ho hxl ha
        go_wp2_with fail
        refine OP.out.mono ?_
        rintro e w3 ⟨rfl, rfl⟩
        go_wp2_with fail
        refine RY.out.mono ?_
        rintro e w3 ⟨hp, md, z, rfl, hz, _, _⟩
        have H3 := Lib.hid (H2.out.askA hp (by omega) md)
        have M3 : Hid (Mod (MxS gx p0 g0 p1 g1) w w3) := M2.out.trans (two_mx0 md) fun _ _ h => h
        have HZ := Lib.hid hz
        have HZ2 : Hid (z = -1 ∨ ∃ y : Nat, z = (y : Int) ∧ y < (ownL 0 ks).length) := by
          obtain ⟨a, ha, hax⟩ : ∃ a, (exc (val (ownL 0 ks)) (x + 1) = exc (val (ownL 0 ks)) x + 1 ∧ a = x ∨ exc (val (ownL 0 ks)) (x + 1) = exc (val (ownL 0 ks)) x - 1 ∧ a = x + 1) ∧ a ≤ x + 1 := by
            rcases (exc_Exc (val (ownL 0 ks))).step x with h | h
            · exact ⟨x, .inl ⟨h, rfl⟩, by omega⟩
            · exact ⟨x + 1, .inr ⟨h, rfl⟩, Nat.le_refl _⟩
          have hz2 := hz a ha
          split at hz2
          · exact .inl hz2
          · obtain ⟨o, rfl, ho⟩ := hz2
            exact .inr ⟨o, rfl, by have := HXL.out; have := ho.lt; omega⟩
        clear hp md hz RY OP M2
        go_wp2_with fail
        go_ret
        exact ⟨z, OZ2.out z HZ.out, HZ2.out, rfl, H3.out.le (by omega), M3.out⟩
set_option maxHeartbeats 1000000 in
theorem ownerI_p (h : Mx w0 w m gx p0 g0 p1 g1 ks q) (i : Nat) (hi : i < ks.length) (hq : q ≤ 700000) :
    Calls Tryz.prog 26 #[.pointer (some ⟨m, 0, none⟩), .int .i64 (i : Int)] w fun e w' => ∃ r : Int, OwnAt ks i r ∧ MxP w0 w m gx p0 g0 p1 g1 ks (q + 7) (.returned (.tuple #[.int .i64 r, .int .i64 0])) e w' := by
  have LN := Lib.hid (ilen_p h)
  have hn9 := h.n9
  have RD := Lib.hid (ready4_ok ⟨m, 0, none⟩ (i : Int) ((ks.length : Int) - 1) w (by omega) (by omega))
  have OQ := Lib.hid (owner_q h i hi (by omega))
  clear h
  go_enter Tryz.func26, Tryz.ntmps26
  go_wp2_with fail
  refine LN.out.mono ?_
  rintro e w1 ⟨rfl, rfl⟩
  go_wp2_with fail
  refine RD.out.mono ?_
  rintro e w1 ⟨rfl, rfl⟩
  go_wp2_with fail
  refine OQ.out.mono ?_
  rintro e w2 ⟨z, hz, hor, rfl, h2, m2⟩
  have HZ := Lib.hid hz
  have M2 := Lib.hid m2
  have H2 := Lib.hid h2
  clear hz m2 OQ h2
  rcases hor with rfl | ⟨y, rfl, hy⟩
  · go_wp2_with fail
    go_ret2
    exact ⟨-1, ⟨-1, HZ.out, .inl ⟨rfl, rfl⟩⟩, rfl, H2.out.le (by omega), M2.out⟩
  · have hyb : ((y : Int) == -1) = false := by rw [beq_eq_false_iff_ne]; omega
    have hyi : ¬ (y : Int) = -1 := by omega
    have PP := Lib.hid (place_q H2.out 0 y (by decide) hy (by omega))
    clear hy
    go_wp2_with fail
    refine PP.out.mono ?_
    rintro e w3 ⟨p, hp, hps, hpa, rfl, h3, m3⟩
    have H3 := Lib.hid h3
    have M3 := Lib.hid (M2.out.trans m3 fun _ _ h => h)
    have HP : Hid (p < ks.length ∧ ks.getD p 0 / 2 = 0 ∧ ah 0 ks p = y) := ⟨hp, hps, hpa⟩
    clear h3 m3 M2 PP hp hps hpa
    go_wp2_with fail
    go_ret2
    exact ⟨(p : Int), ⟨(y : Int), HZ.out, .inr ⟨p, rfl, HP.out.1, HP.out.2.1, by rw [HP.out.2.2]⟩⟩, rfl, H3.out.le (by omega), M3.out⟩
theorem ownerI_no (h : Mx w0 w m gx p0 g0 p1 g1 ks q) (i : Int) (hi : i < 0 ∨ (ks.length : Int) ≤ i) :
    Calls Tryz.prog 26 #[.pointer (some ⟨m, 0, none⟩), .int .i64 i] w fun e w' => e = .returned (.tuple #[.int .i64 0, .int .i64 1]) ∧ w = w' := by
  have LN := Lib.hid (ilen_p h)
  have hn9 := h.n9
  have RD := Lib.hid (ready4_no ⟨m, 0, none⟩ i ((ks.length : Int) - 1) w (by omega))
  clear h hi
  go_enter Tryz.func26, Tryz.ntmps26
  go_wp2_with fail
  refine LN.out.mono ?_
  rintro e w1 ⟨rfl, rfl⟩
  go_wp2_with fail
  refine RD.out.mono ?_
  rintro e w1 ⟨rfl, rfl⟩
  go_wp2_with fail
  go_ret2
  exact ⟨rfl, rfl⟩
end
end Go.Proofs.YtagpdpacaoianaaGreatDoor
