/- dart.New: the map of a permutation. -/
import Derived.Test.YthbhbcakiaaapaaDMate
namespace Go.Proofs.Ythbhbcakiaaapaa
set_option maxRecDepth 20000
open Go.RowKit
set_option linter.unusedVariables false

/-- May root be the root of a map of n darts? -/
def RootOk (root : Int) (n : Nat) : Prop := (n = 0 ∧ root = -1) ∨ (0 < n ∧ 0 ≤ root ∧ root < (n : Int))
instance (root : Int) (n : Nat) : Decidable (RootOk root n) := by unfold RootOk; exact inferInstance
theorem isRoot_p (root : Int) (n : Nat) (w : World) (hn : n ≤ 1000000) :
    Calls Try.prog 67 #[.int .i64 root, .int .i64 (n : Int)] w fun e w' => e = .returned (.bool (decide (RootOk root n))) ∧ w = w' := by
  rcases Nat.eq_zero_or_pos n with h0 | h0
  · subst h0
    have hd : decide (RootOk root 0) = (root == -1) := by
      rw [Bool.eq_iff_iff, decide_eq_true_iff, beq_iff_eq]
      unfold RootOk
      constructor
      · rintro (⟨_, h⟩ | ⟨h, _⟩)
        · exact h
        · omega
      · intro h; exact .inl ⟨rfl, h⟩
    rw [hd]
    clear hd
    go_enter Try.func67, Try.ntmps67
    go_wp2
    go_ret
    exact ⟨rfl, rfl⟩
  · have hne : ((n : Int) == 0) = false := by rw [beq_eq_false_iff_ne]; omega
    by_cases h1 : 0 ≤ root
    · have hd : decide (RootOk root n) = decide (root < (n : Int)) := by
        rw [decide_eq_decide]
        unfold RootOk
        constructor
        · rintro (⟨h, _⟩ | ⟨_, _, h⟩)
          · omega
          · exact h
        · intro h; exact .inr ⟨h0, h1, h⟩
      rw [hd]
      clear hd
      go_enter Try.func67, Try.ntmps67
      go_wp2
      go_ret
      exact ⟨rfl, rfl⟩
    · have hd : decide (RootOk root n) = false := by
        rw [decide_eq_false_iff_not]
        unfold RootOk
        rintro (⟨h, _⟩ | ⟨_, h, _⟩) <;> omega
      rw [hd]
      clear hd
      go_enter Try.func67, Try.ntmps67
      go_wp2
      go_ret
      exact ⟨rfl, rfl⟩
/-- Along the face on the right. -/
def phiL (l : List Nat) : List Nat := comp (mateL l.length) l
def phiB (l b : List Nat) : List Nat := comp b (mateL l.length)
theorem phi_inv {l b : List Nat} (h : Inv l b) (he : l.length % 2 = 0) : Inv (phiL l) (phiB l b) := comp_inv (mateL_inv he) h (mateL_len _)
theorem phiL_len (l : List Nat) : (phiL l).length = l.length := by unfold phiL; rw [comp_len, mateL_len]
/-- At g lies the map of l (with its way back b), root and lone. -/
def MapAt (w : World) (g : Nat) (l b : List Nat) (root lone : Int) : Prop :=
  (l.length % 2 = 0 ∧ 0 ≤ lone ∧ lone ≤ 65536) ∧ l.length ≤ 131072 ∧ ∃ p A c S d q A' c' S' d', Blk w g 64 #[.pointer (some ⟨p, 0, none⟩), .slice A l.length c, .slice S (sizes l).length d, .pointer (some ⟨q, 0, none⟩), .slice A' l.length c', .slice S' (sizes (phiL l)).length d', .int .i64 root, .int .i64 lone] ∧
    PermAt w p l b ∧ PermAt w q (phiL l) (phiB l b) ∧ Rd w w.heap.size A l.length (I64 (ofN (names l))) ∧ Rd w w.heap.size S (sizes l).length (I64 (ofN (sizes l))) ∧
    Rd w w.heap.size A' l.length (I64 (ofN (names (phiL l)))) ∧ Rd w w.heap.size S' (sizes (phiL l)).length (I64 (ofN (sizes (phiL l))))
theorem MapAt.below {w w' : World} {g : Nat} {l b : List Nat} {root lone : Int} (h : MapAt w g l b root lone) (m : Below w.heap.size w w') : MapAt w' g l b root lone := by
  obtain ⟨h1, h2, p, A, c, S, d, q, A', c', S', d', hb, hp, hq, r1, r2, r3, r4⟩ := h
  exact ⟨h1, h2, p, A, c, S, d, q, A', c', S', d', hb.below m, hp.below m, hq.below m, r1.more m, r2.more m, r3.more m, r4.more m⟩
/-- All that a map is made of lies from block lo on. -/
def MapLo (lo : Nat) (w : World) (g : Nat) : Prop :=
  ∃ p A n c S k d q A' n' c' S' k' d' rt ln, Blk w g 64 #[.pointer (some ⟨p, 0, none⟩), .slice A n c, .slice S k d, .pointer (some ⟨q, 0, none⟩), .slice A' n' c', .slice S' k' d', rt, ln] ∧
    lo ≤ g ∧ PermLo lo w p ∧ PermLo lo w q ∧ inLo lo A ∧ inLo lo S ∧ inLo lo A' ∧ inLo lo S'
theorem PermLo.below {lo : Nat} {w w' : World} {g : Nat} (h : PermLo lo w g) (m : Below w.heap.size w w') : PermLo lo w' g := by
  obtain ⟨A, n, c, A', n', c', hb, h1, h2, h3⟩ := h
  exact ⟨A, n, c, A', n', c', hb.below m, h1, h2, h3⟩
theorem PermLo.le {lo lo' : Nat} {w : World} {g : Nat} (h : PermLo lo w g) (k : lo' ≤ lo) : PermLo lo' w g := by
  obtain ⟨A, n, c, A', n', c', hb, h1, h2, h3⟩ := h
  exact ⟨A, n, c, A', n', c', hb, Nat.le_trans k h1, fun a e => Nat.le_trans k (h2 a e), fun a e => Nat.le_trans k (h3 a e)⟩
theorem MapAt.mod {w w' : World} {g lo : Nat} {l b : List Nat} {root lone : Int} {Q : Nat → Prop} (h : MapAt w g l b root lone) (k : MapLo lo w g) (m : Mod Q w w') (hS : ∀ i, Q i → i < lo) : MapAt w' g l b root lone := by
  obtain ⟨h1, h2, p, A, c, S, d, q, A', c', S', d', hb, hp, hq, r1, r2, r3, r4⟩ := h
  obtain ⟨xp, xA, xn, xc, xS, xk, xd, xq, xA', xn', xc', xS', xk', xd', rt, ln, kb, k0, kp, kq, k1, k2, k3, k4⟩ := k
  have hb' := hb
  unfold Blk at hb kb
  rw [hb] at kb
  simp only [Option.some.injEq, Obj.cells.injEq, and_true] at kb
  have e := congrArg Array.toList kb
  simp only [List.cons.injEq, Value.slice.injEq, Value.pointer.injEq, Option.some.injEq, Addr.mk.injEq, and_true] at e
  obtain ⟨rfl, ⟨rfl, _, _⟩, ⟨rfl, _, _⟩, rfl, ⟨rfl, _, _⟩, ⟨rfl, _, _⟩, _, _⟩ := e
  have up : ∀ {n : Nat} {A : Option Addr} {xs : List Value}, Rd w w.heap.size A n xs → inLo lo A → Rd w' w'.heap.size A n xs := fun hr hlo =>
    (hr.mod m (Nat.le_refl _) (fun _ i ⟨a, ha, hai⟩ hx => by have := hlo a ha; have := hS i hx; omega)).up m.size
  exact ⟨h1, h2, p, A, c, S, d, q, A', c', S', d', hb'.mod m (fun hx => by have := hS g hx; omega), hp.mod kp m hS, hq.mod kq m hS, up r1 k1, up r2 k2, up r3 k3, up r4 k4⟩
def NewMap (w : World) (l b : List Nat) (root lone : Int) (e : Ending) (w' : World) : Prop :=
  ∃ g, e = .returned (.tuple #[.pointer (some ⟨g, 0, none⟩), .int .i64 0]) ∧ MapAt w' g l b root lone ∧ Below w.heap.size w w' ∧ MapLo w.heap.size w' g
set_option maxHeartbeats 4000000 in
theorem new_ok (A : Option Addr) (n c : Nat) (l b : List Nat) (root lone : Int) (w : World) (h : Rd w w.heap.size A n (I64 (ofN l))) (hinv : Inv l b) (he : n % 2 = 0) (hn : n ≤ 131072) (hr : RootOk root n) (hl0 : 0 ≤ lone) (hl1 : lone ≤ 65536) :
    Calls Try.prog 43 #[.slice A n c, .int .i64 root, .int .i64 lone] w (NewMap w l b root lone) := by
  have hl : l.length = n := by rw [← ofN_len, ← I64_len, h.len]
  have OF := Lib.hid (of_p A n c _ (ofN l) w h (by omega))
  have HI := Lib.hid hinv
  have HL := Lib.hid hl
  have HE := Lib.hid he
  have IR : Hid (∀ w', Calls Try.prog 67 #[.int .i64 root, .int .i64 (n : Int)] w' fun e w'' => e = .returned (.bool true) ∧ w' = w'') := fun w' => by
    have := isRoot_p root n w' (by omega)
    rwa [decide_eq_true hr] at this
  have he2 : (n : Int) % 2 = 0 := by omega
  have hlo : ¬ lone < 0 := by omega
  have hn2 : ¬ (65536 : Int) < (n : Int) / 2 := by omega
  have hl2 : ¬ (65536 : Int) < lone := by omega
  have HLO : Hid (0 ≤ lone ∧ lone ≤ 65536) := ⟨hl0, hl1⟩
  clear h hinv hl he hr hl0 hl1
  go_enter Try.func43, Try.ntmps43
  go_wp2_with fail
  refine OF.out.mono ?_
  rintro e w1 ⟨hc, b1⟩
  rcases hc with ⟨gp, l', b', hl', rfl, hp, hplo⟩ | ⟨hng, _⟩
  · have hlm := ofN_inj hl'
    subst hlm
    have hbb := hp.1.unique HI.out
    rw [hbb] at hp
    have HP1 := Lib.hid hp
    have B1 := Lib.hid b1
    have PLO := Lib.hid hplo
    clear hp b1 hbb hl' OF hplo
    go_wp2_with fail
    refine (IR.out _).mono ?_
    rintro e w2 ⟨rfl, rfl⟩
    have MT := Lib.hid (mates_p n w1 (by omega) HE.out)
    go_wp2_with fail
    refine MT.out.mono ?_
    rintro e w2 ⟨gm, rfl, hp2, b2⟩
    have PLO2 := Lib.hid (PLO.out.below b2)
    have TH := Lib.hid (then_lo gm gp _ _ _ _ w2 hp2 (HP1.out.below b2) (by rw [mateL_len, HL.out]))
    have HP2 := HP1.out.below b2
    have B2 : Hid (Below w.heap.size w w2) := B1.out.trans (b2.mono B1.out.size)
    have HPP := Lib.hid HP2
    clear hp2 b2 HP1 HP2 MT B1 PLO
    go_wp2_with fail
    refine TH.out.mono ?_
    rintro e w3 ⟨gq, rfl, hq3, hqlo, b3⟩
    have PLO3 := Lib.hid (PLO2.out.below b3)
    have QLO3 := Lib.hid (hqlo.le B2.out.size)
    clear hqlo PLO2
    have hq3' : PermAt w3 gq (phiL l) (phiB l b) := by unfold phiL phiB; rw [HL.out]; exact hq3
    have HQ3 := Lib.hid hq3'
    have HP3 := Lib.hid (HPP.out.below b3)
    have B3 : Hid (Below w.heap.size w w3) := B2.out.trans (b3.mono B2.out.size)
    clear hq3 hq3' b3 TH HPP B2
    have ND1 := Lib.hid (named_p gp l b w3 HP3.out)
    go_wp2_with fail
    refine ND1.out.mono ?_
    rintro e w4 ⟨v1, rfl, hv1, b4⟩
    have ND2 := Lib.hid (named_p gq _ _ w4 (HQ3.out.below b4))
    have B4 : Hid (Below w.heap.size w w4) := B3.out.trans (b4.mono B3.out.size)
    have HV1 := Lib.hid hv1
    have PLO4 := Lib.hid (PLO3.out.below b4)
    have QLO4 := Lib.hid (QLO3.out.below b4)
    have hs3 := B3.out.size
    have hs4 := B4.out.size
    clear hv1 b4 ND1 B3 HP3 HQ3 PLO3 QLO3
    go_wp2_with fail
    refine ND2.out.mono ?_
    rintro e w5 ⟨v2, rfl, hv2, b5⟩
    obtain ⟨hpp, A1, c1, S1, d1, i1, i2, rfl, r1, r2⟩ := HV1.out
    obtain ⟨hpq, A2, c2, S2, d2, i3, i4, rfl, r3, r4⟩ := hv2
    have I1 := Lib.hid (i1.le hs3)
    have I2 := Lib.hid (i2.le hs3)
    have I3 := Lib.hid (i3.le hs4)
    have I4 := Lib.hid (i4.le hs4)
    have PLO5 := Lib.hid (PLO4.out.below b5)
    have QLO5 := Lib.hid (QLO4.out.below b5)
    clear i1 i2 i3 i4 PLO4 QLO4
    have hpp5 := hpp.below b5
    have r15 := r1.more b5
    have r25 := r2.more b5
    have B5 : Hid (Below w.heap.size w w5) := B4.out.trans (b5.mono B4.out.size)
    have H1 := Lib.hid hpp5
    have H2 := Lib.hid hpq
    have R1 := Lib.hid r15
    have R2 := Lib.hid r25
    have R3 := Lib.hid r3
    have R4 := Lib.hid r4
    clear hpp r1 r2 r3 r4 b5 HV1 ND2 hpp5 hpq r15 r25 B4
    go_wp2_with fail
    go_ret2
    rw [phiL_len] at R3
    have hb := (Below.refl w5.heap.size w5).alloc (Nat.le_refl _) (.cells #[.pointer (some ⟨gp, 0, none⟩), .slice A1 l.length c1, .slice S1 (sizes l).length d1, .pointer (some ⟨gq, 0, none⟩), .slice A2 (phiL l).length c2, .slice S2 (sizes (phiL l)).length d2, .int .i64 root, .int .i64 lone] 64)
    refine ⟨w5.heap.size, rfl, ⟨⟨by rw [HL.out]; exact HE.out, HLO.out.1, HLO.out.2⟩, by rw [HL.out]; exact hn, gp, A1, c1, S1, d1, gq, A2, c2, S2, d2, ?_, H1.out.below hb, H2.out.below hb, R1.out.more hb, R2.out.more hb, R3.out.more hb, R4.out.more hb⟩, B5.out.trans (hb.mono B5.out.size), ⟨gp, A1, _, c1, S1, _, d1, gq, A2, _, c2, S2, _, d2, _, _, Blk.new w5 _ _, B5.out.size, PLO5.out.below hb, QLO5.out.below hb, I1.out, I2.out, I3.out, I4.out⟩⟩
    have := Blk.new w5 64 #[.pointer (some ⟨gp, 0, none⟩), .slice A1 l.length c1, .slice S1 (sizes l).length d1, .pointer (some ⟨gq, 0, none⟩), .slice A2 (phiL l).length c2, .slice S2 (sizes (phiL l)).length d2, .int .i64 root, .int .i64 lone]
    rw [phiL_len] at this
    rw [phiL_len]
    exact this
  · exact absurd HI.out.good hng
end Go.Proofs.Ythbhbcakiaaapaa
