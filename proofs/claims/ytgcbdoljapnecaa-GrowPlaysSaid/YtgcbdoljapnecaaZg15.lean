/- The document's triangulation of numbers. The law's map of numbers: kind 2. The law's map of numbers, of any kind. Darts put behind one another, and taken out: mathematics. -/
import Derived.Test.YtgcbdoljapnecaaZg14
import Derived.Test.YtgcbdoljapnecaaZg2
import Derived.Test.YtgcbdoljapnecaaZg4
import Derived.Test.YtgcbdoljapnecaaZg3
namespace Go.Proofs.Ytgcbdoljapnecaa
set_option maxRecDepth 100000
open Go.RowKit
set_option linter.unusedVariables false
/-- What the loop has when so many vertices are put. -/
structure TriSt (w : World) (k : Nat) (A : Option Addr) (c : Nat) (l b : List Nat) (v : Nat → Nat) (W : World) : Prop where
  len : l.length = 6 * k + 6
  cap : l.length ≤ c
  max : c ≤ maxLen
  inv : Inv l b
  tg : TG l.length (sgL l) v (k + 3)
  box : Blk W (w.heap.size + 2) 27 #[.slice A l.length c, .int .i64 0, .int .i64 0]
  own : W.ownsRow (w.heap.size + 1) 3 1 (.slice A l.length c) l.length (I64 (ofN l))
  res : Blk W w.heap.size 27 #[.slice none 0 0, .int .i64 0, .int .i64 0]
  bel : Below w.heap.size w W
def TriS (w : World) (k : Nat) (W : World) : Prop := ∃ A c l b v, TriSt w k A c l b v W
section
variable {w W W' : World} {k c : Nat} {A : Option Addr} {l b : List Nat} {v : Nat → Nat}
theorem TriSt.store {k2 c2 N : Nat} {A2 : Option Addr} {l2 b2 : List Nat} {v2 : Nat → Nat} {base : Nat} (S : TriSt w k A c l b v W) (hl : l2.length = 6 * k2 + 6) (hN : N = l2.length) (hc : l2.length ≤ c2) (hm : c2 ≤ maxLen) (hi : Inv l2 b2)
    (T : TG l2.length (sgL l2) v2 (k2 + 3)) (ho : W'.ownsRow base 3 1 (.slice A2 l2.length c2) l2.length (I64 (ofN l2))) (hb : w.heap.size + 1 ≤ base) (hW : Below W.heap.size W W') :
    TriS w k2 (((W'.setCell ⟨w.heap.size + 2, 0, none⟩ (.slice A2 N c2)).setCell ⟨w.heap.size + 2, 1, none⟩ (.int .i64 0)).setCell ⟨w.heap.size + 2, 2, none⟩ (.int .i64 0)) := by
  subst hN
  have hx' := S.box.below hW
  have hr' := S.res.below hW
  have MM := box_mod W' (w.heap.size + 2) (.slice A2 l2.length c2) (.int .i64 0) (.int .i64 0)
  refine ⟨A2, c2, l2, b2, v2, hl, hc, hm, hi, T, ?_, (own_mod ho MM (fun i hi hj => own_ne ho hx' (by decide) (by rw [hi, hj]))).base_le' hb, hr'.mod MM (by omega), ?_⟩
  · have := ((hx'.set_ 0 (.slice A2 l2.length c2)).set_ 1 (.int .i64 0)).set_ 2 (.int .i64 0)
    simpa using this
  · exact (S.bel.trans (hW.mono S.bel.size)).trans (MM.belowB (Nat.le_trans S.bel.size hW.size) fun i hi hj => by omega)
theorem TriSt.below (S : TriSt w k A c l b v W) (z : Below W.heap.size W W') : TriSt w k A c l b v W' :=
  ⟨S.len, S.cap, S.max, S.inv, S.tg, S.box.below z, own_below S.own z, S.res.below z, S.bel.trans (z.mono S.bel.size)⟩
theorem TriSt.puts {d : Nat} (S : TriSt w k A c l b v W) (hk : k ≤ 3000) (hd : d < l.length) (hW : Below W.heap.size W W') :
    Calls Try.prog 60 #[.agg #[.slice A l.length c, .int .i64 0, .int .i64 0], .int .i64 (d : Int)] W' fun e w' => ∃ A2 c2, e = .returned (.agg #[.slice A2 (l.length + 6) c2, .int .i64 0, .int .i64 0]) ∧ Below W.heap.size W w' ∧
      Hid (TriS w (k + 1) (((w'.setCell ⟨w.heap.size + 2, 0, none⟩ (.slice A2 (l.length + 6) c2)).setCell ⟨w.heap.size + 2, 1, none⟩ (.int .i64 0)).setCell ⟨w.heap.size + 2, 2, none⟩ (.int .i64 0))) := by
  have hlen := S.len
  obtain ⟨o3, hl6, b', v', hi', T'⟩ := put_tg S.tg S.inv hd
  refine (rtput_p A c l b 0 0 d W' (Rd.ofOwn (own_below S.own hW)) S.inv S.tg.ev (by omega) hd o3).mono ?_
  rintro e wz ⟨A2, c2, rfl, hc2, hm2, hown, hb2⟩
  have z := hW.trans (hb2.mono hW.size)
  refine ⟨A2, c2, by rw [hl6], z, ?_⟩
  exact S.store (by rw [hl6]; omega) hl6.symm hc2 hm2 hi' T' hown (by have := S.box.lt; have := hW.size; omega) z
theorem TriSt.flips {d : Nat} (S : TriSt w k A c l b v W) (hk : k ≤ 3000) (hd : d < l.length) (hW : Below W.heap.size W W') :
    Calls Try.prog 62 #[.agg #[.slice A l.length c, .int .i64 0, .int .i64 0], .int .i64 (d : Int)] W' fun e w' => ∃ A2 c2, e = .returned (.agg #[.slice A2 l.length c2, .int .i64 0, .int .i64 0]) ∧ Below W.heap.size W w' ∧
      Hid (TriS w k (((w'.setCell ⟨w.heap.size + 2, 0, none⟩ (.slice A2 l.length c2)).setCell ⟨w.heap.size + 2, 1, none⟩ (.int .i64 0)).setCell ⟨w.heap.size + 2, 2, none⟩ (.int .i64 0))) := by
  have hlen := S.len
  refine (rtflip_p A c l b 0 0 d W' (Rd.ofOwn (own_below S.own hW)) S.inv S.tg.ev (by omega) hd).mono ?_
  rintro e wz (⟨hj, rfl, hb2⟩ | ⟨hj, A2, c2, rfl, hc2, hm2, hown, hb2⟩)
  · have z := hW.trans (hb2.mono hW.size)
    exact ⟨A, c, rfl, z, S.store S.len rfl S.cap S.max S.inv S.tg (own_below S.own z) (Nat.le_refl _) z⟩
  · have z := hW.trans (hb2.mono hW.size)
    obtain ⟨b', v', hi', T'⟩ := flip_tg S.tg S.inv hd hj
    have hl0 : (flL l b d (mateN d) (topN l d) (topN l (mateN d)) (mateN ((phiL l).getD d 0)) (mateN ((phiL l).getD (mateN d) 0))).length = l.length := by simp [flL]
    exact ⟨A2, c2, by rw [hl0], z, S.store (by rw [hl0]; omega) hl0.symm hc2 hm2 hi' T' hown (by have := S.box.lt; have := hW.size; omega) z⟩
end
theorem tri_start (w : World) : TriS w 0 (((w.alloc (.cells #[.slice none 0 0, .int .i64 0, .int .i64 0] 27)).alloc (.cells #[.int .i64 5, .int .i64 2, .int .i64 1, .int .i64 4, .int .i64 3, .int .i64 0] 3)).alloc
      (.cells #[.slice (some ⟨w.heap.size + 1, 0, none⟩) 6 6, .int .i64 0, .int .i64 0] 27)) := by
  have e1 : (w.alloc (.cells #[.slice none 0 0, .int .i64 0, .int .i64 0] 27)).heap.size = w.heap.size + 1 := by simp
  have e2 : ((w.alloc (.cells #[.slice none 0 0, .int .i64 0, .int .i64 0] 27)).alloc (.cells #[.int .i64 5, .int .i64 2, .int .i64 1, .int .i64 4, .int .i64 3, .int .i64 0] 3)).heap.size = w.heap.size + 2 := by simp
  have ho := World.ownsRow_lit (base := w.heap.size + 1) (e := 3) (size := 1) (w.alloc (.cells #[.slice none 0 0, .int .i64 0, .int .i64 0] 27)) #[.int .i64 5, .int .i64 2, .int .i64 1, .int .i64 4, .int .i64 3, .int .i64 0] 6 (by omega) (by simp [maxLen]) (by simp)
  rw [e1] at ho
  have hx := Blk.new ((w.alloc (.cells #[.slice none 0 0, .int .i64 0, .int .i64 0] 27)).alloc (.cells #[.int .i64 5, .int .i64 2, .int .i64 1, .int .i64 4, .int .i64 3, .int .i64 0] 3)) 27 #[.slice (some ⟨w.heap.size + 1, 0, none⟩) 6 6, .int .i64 0, .int .i64 0]
  rw [e2] at hx
  have bA := (Below.refl ((w.alloc (.cells #[.slice none 0 0, .int .i64 0, .int .i64 0] 27)).alloc (.cells #[.int .i64 5, .int .i64 2, .int .i64 1, .int .i64 4, .int .i64 3, .int .i64 0] 3)).heap.size ((w.alloc (.cells #[.slice none 0 0, .int .i64 0, .int .i64 0] 27)).alloc (.cells #[.int .i64 5, .int .i64 2, .int .i64 1, .int .i64 4, .int .i64 3, .int .i64 0] 3))).alloc (Nat.le_refl _) (.cells #[.slice (some ⟨w.heap.size + 1, 0, none⟩) 6 6, .int .i64 0, .int .i64 0] 27)
  exact ⟨some ⟨w.heap.size + 1, 0, none⟩, 6, tri0, tri0, tri0V, rfl, Nat.le_refl _, by simp [maxLen], tri0_inv, tri0_tg, hx, own_below ho bA,
    ((Blk.new w 27 #[.slice none 0 0, .int .i64 0, .int .i64 0]).alloc _).alloc _,
    (((Below.refl w.heap.size w).alloc (Nat.le_refl _) _).alloc (by omega) _).alloc (by omega) _⟩
set_option maxHeartbeats 8000000 in
theorem rtri_p (A : Option Addr) (m c B : Nat) (by_ : List Int) (inner : Nat) (rt : Nat) (w : World)
    (h : Rd w B A m (Z8 by_)) (hB : B ≤ w.heap.size) (hb : ∀ x ∈ by_, 0 ≤ x ∧ x < 256) (hin : inner ≤ 3000) (hm : m ≤ 9223372036854775807) (hr1 : rt < 256) :
    Calls Try.prog 26 #[.int .i64 (inner : Int), .slice A m c, .int .u8 (rt : Int)] w fun en w' => ∃ l b v, Inv l b ∧ l.length = 6 * inner + 6 ∧ TG l.length (sgL l) v (inner + 3) ∧ NewRO w l ((rt % l.length : Nat) : Int) 0 en w' := by
  have PK : Hid (∀ (W : World) (a : Nat), Below w.heap.size w W → a ≤ 100000 → Calls Try.prog 61 #[.slice A m c, .int .i64 (a : Int)] W fun e w' => e = .returned (.int .i64 ((pkN by_ a : Nat) : Int)) ∧ Below W.heap.size W w') := fun W a b ha =>
    (pick_p A m c w.heap.size by_ a W ((h.up hB).below b) hb ha hm).mono fun e w' ⟨h1, k, h2⟩ => ⟨h1, by rw [h2]; exact below_draws (Below.refl _ _) k⟩
  have HPB : Hid (∀ a : Nat, pkN by_ a ≤ 256 + a) := fun a => by
    unfold pkN
    split
    · omega
    · next hl =>
      have h1 : by_.getD (a % by_.length) 0 < 256 := (hb _ (by rw [List.getD_eq_getElem?_getD, List.getElem?_eq_getElem (Nat.mod_lt _ (by omega))]; exact List.getElem_mem _)).2
      have h2 : a / by_.length ≤ a := Nat.div_le_self _ _
      omega
  have ST0 := Lib.hid (tri_start w)
  clear h hb
  go_enter Try.func26, Try.ntmps26
  go_upto_region 2 with fail
  generalize (((w.alloc (.cells #[.slice none 0 0, .int .i64 0, .int .i64 0] 27)).alloc (.cells #[.int .i64 5, .int .i64 2, .int .i64 1, .int .i64 4, .int .i64 3, .int .i64 0] 3)).alloc
      (.cells #[.slice (some ⟨w.heap.size + 1, 0, none⟩) 6 6, .int .i64 0, .int .i64 0] 27)) = w3 at *
  go_wp2_with fail
  go_loopw [8, 9] (fun at_ i wr => ∃ (k a : Nat), k ≤ inner ∧ a ≤ 3 * k ∧ i = .int .i64 (k : Int) ∧ at_ = .int .i64 (a : Int) ∧ Hid (TriS w k wr)) (fun _ i _ => inner - (intOf i).toNat)
  case atStart => exact ⟨0, 0, by omega, by omega, rfl, rfl, ST0.out⟩
  case round =>
    clear ST0
    obtain ⟨k, a, hk, ha, rfl, rfl, HS⟩ := hrel
    by_cases hlt : k < inner
    · have hdk : decide (k < inner) = true := decide_eq_true hlt
      have hki : (k : Int) < (inner : Int) := by omega
      obtain ⟨A1, c1, l, b, v, S⟩ := HS.out
      obtain ⟨N, hN⟩ : ∃ N, N = l.length := ⟨_, rfl⟩
      have hlen := S.len
      obtain ⟨p, hp⟩ : ∃ p, p = pkN by_ a := ⟨_, rfl⟩
      obtain ⟨d, hd⟩ : ∃ d, d = p % N := ⟨_, rfl⟩
      have hdN : d < N := by rw [hd]; exact Nat.mod_lt _ (by omega)
      have P1 : Hid (∀ W, Below wr.heap.size wr W → Calls Try.prog 61 #[.slice A m c, .int .i64 (a : Int)] W fun e w' => e = .returned (.int .i64 (p : Int)) ∧ Below wr.heap.size wr w') := fun W z => by
        rw [hp]; exact (PK.out W a (S.bel.trans (z.mono S.bel.size)) (by omega)).mono fun e w' ⟨h1, h2⟩ => ⟨h1, z.trans (h2.mono z.size)⟩
      have P2 : Hid (∀ W, Below wr.heap.size wr W → Calls Try.prog 60 #[.agg #[.slice A1 N c1, .int .i64 0, .int .i64 0], .int .i64 (d : Int)] W fun e w' => ∃ A2 c2, e = .returned (.agg #[.slice A2 (N + 6) c2, .int .i64 0, .int .i64 0]) ∧ Below wr.heap.size wr w' ∧
          Hid (TriS w (k + 1) (((w'.setCell ⟨w.heap.size + 2, 0, none⟩ (.slice A2 (N + 6) c2)).setCell ⟨w.heap.size + 2, 1, none⟩ (.int .i64 0)).setCell ⟨w.heap.size + 2, 2, none⟩ (.int .i64 0)))) := fun W z => by
        rw [hN]; exact S.puts (by omega) (by omega) z
      have SK : Hid (∀ W, Below wr.heap.size wr W → (W.cell? ⟨w.heap.size + 2, 0, none⟩ = some (.slice A1 N c1) ∧ W.cell? ⟨w.heap.size + 2, 1, none⟩ = some (.int .i64 0) ∧ W.cell? ⟨w.heap.size + 2, 2, none⟩ = some (.int .i64 0)) ∧
          W.frozen? ⟨w.heap.size + 2, 0, none⟩ = false ∧ W.frozen? ⟨w.heap.size + 2, 1, none⟩ = false ∧ W.frozen? ⟨w.heap.size + 2, 2, none⟩ = false) := fun W z => by
        have hx := S.box.below z
        rw [← hN] at hx
        exact ⟨⟨hx.cell 0, hx.cell 1, hx.cell 2⟩, hx.frozen 0, hx.frozen 1, hx.frozen 2⟩
      have hpb : p ≤ 10000 := by have := HPB.out a; omega
      have hN0 : 0 < N := by omega
      have hNb : N ≤ 20000 := by omega
      have h1t : (p : Int).tmod (N : Int) = (d : Int) := by rw [Int.tmod_eq_emod_of_nonneg (by omega), hd]; rfl
      have h1 : (p : Int) % (N : Int) = (d : Int) := by rw [hd]; rfl
      have hm0 : ¬ (N : Int) = 0 := by omega
      have hm0n : ¬ N = 0 := by omega
      have hmb : ((N : Int) == 0) = false := by simp; omega
      have hmb2 : decide (N = 0) = false := decide_eq_false hm0n
      have w1 : IntKind.i64.wrap (d : Int) = (d : Int) := by simp [IntKind.wrap, IntKind.signed, IntKind.bits]; omega
      clear hd hp hlen S HS hN
      go_upto_region 6 with fail
      go_cut [] from 17 to 26 (fun wx => Hid (TriS w (k + 1) wx))
      case first =>
        have hba0 := Below.refl wr.heap.size wr
        have hba1 := hba0.drew
        obtain ⟨⟨x0, x1, x2⟩, f0, f1, f2⟩ := SK.out _ hba0
        obtain ⟨⟨y0, y1, y2⟩, g0, g1, g2⟩ := SK.out _ hba1
        clear ha hk hlt hki hdk hin hr1
        go_region_with (first
          | (go_at_call 60; (with_reducible refine (P2.out _ (by assumption)).mono ?_); rintro e wb ⟨A2, c2, rfl, hbb, HT⟩; obtain ⟨⟨xb0, xb1, xb2⟩, fb0, fb1, fb2⟩ := SK.out _ hbb)
          | (go_at_call 61; (with_reducible refine (P1.out _ (by assumption)).mono ?_); rintro e wa ⟨rfl, hba⟩; obtain ⟨⟨xa0, xa1, xa2⟩, fa0, fa1, fa2⟩ := SK.out _ hba))
        all_goals (go_wp2_with fail)
        all_goals (go_meet)
        all_goals (exact HT)
      case rest =>
        clear P1 P2 SK h1t h1 hm0 hm0n hmb hmb2 w1 hdN hpb hN0 hNb
        obtain ⟨A2, c2, l2, b2, v2, S2⟩ := hcut.out
        clear hcut
        obtain ⟨a2, ha2⟩ : ∃ a2, a2 = a + 2 := ⟨_, rfl⟩
        obtain ⟨a1, ha1⟩ : ∃ a1, a1 = a + 1 := ⟨_, rfl⟩
        obtain ⟨p2, hp2⟩ : ∃ p2, p2 = pkN by_ a1 := ⟨_, rfl⟩
        obtain ⟨r2, hr2⟩ : ∃ r2, r2 = p2 % 2 := ⟨_, rfl⟩
        have P3 : Hid (Calls Try.prog 61 #[.slice A m c, .int .i64 (a1 : Int)] wc fun e w' => e = .returned (.int .i64 (p2 : Int)) ∧ Below wc.heap.size wc w') := by
          show Calls _ _ _ _ _
          rw [hp2]; exact PK.out wc a1 S2.bel (by omega)
        have hpb2 : p2 ≤ 10000 := by have := HPB.out a1; omega
        have t2 : (a : Int) + 2 = (a2 : Int) := by omega
        have t1 : (a2 : Int) - 1 = (a1 : Int) := by omega
        have w2 : IntKind.i64.wrap (a2 : Int) = (a2 : Int) := by simp [IntKind.wrap, IntKind.signed, IntKind.bits]; omega
        have w1 : IntKind.i64.wrap (a1 : Int) = (a1 : Int) := by simp [IntKind.wrap, IntKind.signed, IntKind.bits]; omega
        have r2t : (p2 : Int).tmod 2 = (r2 : Int) := by rw [Int.tmod_eq_emod_of_nonneg (by omega), hr2]; rfl
        have r2m : (p2 : Int) % 2 = (r2 : Int) := by rw [hr2]; rfl
        have wr2 : IntKind.i64.wrap (r2 : Int) = (r2 : Int) := by simp [IntKind.wrap, IntKind.signed, IntKind.bits]; omega
        have HA2 := Lib.hid ha2
        have HMS : Hid (inner - (k + 1) < inner - k) := by show _ < _; omega
        clear hp2 hr2 ha1 ha2
        have HS2 := Lib.hid S2
        clear S2
        go_wp2_with fail
        refine P3.out.mono ?_
        rintro e wz ⟨rfl, hzz⟩
        have S3 := HS2.out.below hzz
        clear P3 HS2 hzz
        by_cases hr : r2 = 0
        · obtain ⟨N, hN⟩ : ∃ N, N = l2.length := ⟨_, rfl⟩
          have hlen := S3.len
          obtain ⟨p, hp⟩ : ∃ p, p = pkN by_ a2 := ⟨_, rfl⟩
          obtain ⟨d, hd⟩ : ∃ d, d = p % N := ⟨_, rfl⟩
          have hdN : d < N := by rw [hd]; exact Nat.mod_lt _ (by omega)
          have ha2b : a2 ≤ 10000 := by have := HA2.out; omega
          have P1 : Hid (∀ W, Below wz.heap.size wz W → Calls Try.prog 61 #[.slice A m c, .int .i64 (a2 : Int)] W fun e w' => e = .returned (.int .i64 (p : Int)) ∧ Below wz.heap.size wz w') := fun W z => by
            rw [hp]; exact (PK.out W a2 (S3.bel.trans (z.mono S3.bel.size)) (by omega)).mono fun e w' ⟨h1, h2⟩ => ⟨h1, z.trans (h2.mono z.size)⟩
          have P2 : Hid (∀ W, Below wz.heap.size wz W → Calls Try.prog 62 #[.agg #[.slice A2 N c2, .int .i64 0, .int .i64 0], .int .i64 (d : Int)] W fun e w' => ∃ A2 c2, e = .returned (.agg #[.slice A2 N c2, .int .i64 0, .int .i64 0]) ∧ Below wz.heap.size wz w' ∧
              Hid (TriS w (k + 1) (((w'.setCell ⟨w.heap.size + 2, 0, none⟩ (.slice A2 N c2)).setCell ⟨w.heap.size + 2, 1, none⟩ (.int .i64 0)).setCell ⟨w.heap.size + 2, 2, none⟩ (.int .i64 0)))) := fun W z => by
            rw [hN]; exact S3.flips (by omega) (by omega) z
          have SK : Hid (∀ W, Below wz.heap.size wz W → (W.cell? ⟨w.heap.size + 2, 0, none⟩ = some (.slice A2 N c2) ∧ W.cell? ⟨w.heap.size + 2, 1, none⟩ = some (.int .i64 0) ∧ W.cell? ⟨w.heap.size + 2, 2, none⟩ = some (.int .i64 0)) ∧
              W.frozen? ⟨w.heap.size + 2, 0, none⟩ = false ∧ W.frozen? ⟨w.heap.size + 2, 1, none⟩ = false ∧ W.frozen? ⟨w.heap.size + 2, 2, none⟩ = false) := fun W z => by
            have hx := S3.box.below z
            rw [← hN] at hx
            exact ⟨⟨hx.cell 0, hx.cell 1, hx.cell 2⟩, hx.frozen 0, hx.frozen 1, hx.frozen 2⟩
          have hpb : p ≤ 20000 := by have := HPB.out a2; omega
          have hN0 : 0 < N := by omega
          have hNb : N ≤ 20000 := by omega
          have h1t : (p : Int).tmod (N : Int) = (d : Int) := by rw [Int.tmod_eq_emod_of_nonneg (by omega), hd]; rfl
          have h1 : (p : Int) % (N : Int) = (d : Int) := by rw [hd]; rfl
          have hm0 : ¬ (N : Int) = 0 := by omega
          have hm0n : ¬ N = 0 := by omega
          have hmb : ((N : Int) == 0) = false := by simp; omega
          have hmb2 : decide (N = 0) = false := decide_eq_false hm0n
          have wd : IntKind.i64.wrap (d : Int) = (d : Int) := by simp [IntKind.wrap, IntKind.signed, IntKind.bits]; omega
          have HKB := Lib.hid (And.intro hk ha)
          have HLT := Lib.hid (And.intro hlt hin)
          obtain ⟨a3, ha3⟩ : ∃ a3, a3 = a2 + 1 := ⟨_, rfl⟩
          have t3 : (a2 : Int) + 1 = (a3 : Int) := by omega
          have w3' : IntKind.i64.wrap (a3 : Int) = (a3 : Int) := by simp [IntKind.wrap, IntKind.signed, IntKind.bits]; omega
          have HA3 : Hid (a3 = a2 + 1 ∧ a2 = a + 2) := ⟨ha3, HA2.out⟩
          clear hd hp hlen S3 hN ha3
          subst hr
          clear ha hk hlt hki hdk hin hr1
          go_upto_region 9 with fail
          go_cut [] from 34 to 43 (fun wx => Hid (TriS w (k + 1) wx))
          case first =>
            have hba0 := Below.refl wz.heap.size wz
            have hba1 := hba0.drew
            obtain ⟨⟨x0, x1, x2⟩, f0, f1, f2⟩ := SK.out _ hba0
            obtain ⟨⟨y0, y1, y2⟩, g0, g1, g2⟩ := SK.out _ hba1
            go_region_with (first
              | (go_at_call 62; (with_reducible refine (P2.out _ (by assumption)).mono ?_); rintro e wb ⟨A3, c3, rfl, hbb, HT⟩; obtain ⟨⟨xb0, xb1, xb2⟩, fb0, fb1, fb2⟩ := SK.out _ hbb)
              | (go_at_call 61; (with_reducible refine (P1.out _ (by assumption)).mono ?_); rintro e wa ⟨rfl, hba⟩; obtain ⟨⟨xa0, xa1, xa2⟩, fa0, fa1, fa2⟩ := SK.out _ hba))
            all_goals (go_wp2_with fail)
            all_goals (go_meet)
            all_goals (exact HT)
          case rest =>
            clear P1 P2 SK h1t h1 hm0 hm0n hmb hmb2 wd hdN hpb hN0 hNb
            have hkb : k ≤ 3000 := by have := HLT.out; omega
            have w4 : IntKind.i64.wrap ((k : Int) + 1) = (k : Int) + 1 := by simp [IntKind.wrap, IntKind.signed, IntKind.bits]; omega
            go_wp2_with fail
            go_roundw
            case rel => exact ⟨k + 1, a3, by have := HLT.out; omega, by have := HA3.out; have := HKB.out; omega, by go_num, rfl, hcut⟩
            case measure => have := HMS.out; simp [intOf]; omega
        · have hr' : ¬ (r2 : Int) = 0 := by omega
          have hrb : ((r2 : Int) == 0) = false := by simp; omega
          have hrd : decide (r2 = 0) = false := decide_eq_false hr
          have hrdI : decide ((r2 : Int) = 0) = false := decide_eq_false hr'
          have HT : Hid (TriS w (k + 1) wz) := ⟨A2, c2, l2, b2, v2, S3⟩
          have HKB := Lib.hid (And.intro hk ha)
          have HLT := Lib.hid (And.intro hlt hin)
          have w4 : IntKind.i64.wrap ((k : Int) + 1) = (k : Int) + 1 := by simp [IntKind.wrap, IntKind.signed, IntKind.bits]; omega
          clear S3 ha hk hlt hki hdk hin hr1
          go_wp2_with fail
          go_roundw
          case rel => exact ⟨k + 1, a2, by have := HLT.out; omega, by have := HA2.out; have := HKB.out; omega, by go_num, rfl, HT⟩
          case measure => have := HMS.out; simp [intOf]; omega
    · have hke : k = inner := by omega
      subst hke
      have hdk : decide (k < k) = false := decide_eq_false hlt
      obtain ⟨A1, c1, l, b, v, S⟩ := HS.out
      obtain ⟨N, hN⟩ : ∃ N, N = l.length := ⟨_, rfl⟩
      have hlen := S.len
      obtain ⟨r, hr⟩ : ∃ r, r = rt % N := ⟨_, rfl⟩
      have hrN : r < N := by rw [hr]; exact Nat.mod_lt _ (by omega)
      have h1t : (rt : Int).tmod (N : Int) = (r : Int) := by rw [Int.tmod_eq_emod_of_nonneg (by omega), hr]; rfl
      have h1 : (rt : Int) % (N : Int) = (r : Int) := by rw [hr]; rfl
      have hm0 : ¬ (N : Int) = 0 := by omega
      have hm0n : ¬ N = 0 := by omega
      have hmb : ((N : Int) == 0) = false := by simp; omega
      have hmb2 : decide (N = 0) = false := decide_eq_false hm0n
      have wd : IntKind.i64.wrap (r : Int) = (r : Int) := by simp [IntKind.wrap, IntKind.signed, IntKind.bits]; omega
      have wt : IntKind.i64.wrap (rt : Int) = (rt : Int) := by simp [IntKind.wrap, IntKind.signed, IntKind.bits]; omega
      have hx := S.box
      rw [← hN] at hx
      have HFIN : Hid (Inv l b ∧ l.length = 6 * k + 6 ∧ TG l.length (sgL l) v (k + 3) ∧ N = l.length ∧ r = rt % l.length ∧ l.length ≤ c1 ∧ c1 ≤ maxLen) := ⟨S.inv, S.len, S.tg, hN, by rw [← hN]; exact hr, S.cap, S.max⟩
      have MS : Mod (fun i => i = w.heap.size + 2) wr (wr.setCell ⟨w.heap.size + 2, 1, none⟩ (.int .i64 (r : Int))) := Mod.setCell (p := ⟨w.heap.size + 2, 1, none⟩) (Mod.refl (fun i => i = w.heap.size + 2) wr) (fun _ => rfl) _
      have B2 : Hid (Blk (wr.setCell ⟨w.heap.size + 2, 1, none⟩ (.int .i64 (r : Int))) (w.heap.size + 2) 27 #[.slice A1 N c1, .int .i64 (r : Int), .int .i64 0]) := by
        show Blk _ _ _ _
        have := hx.set_ 1 (.int .i64 (r : Int)); simpa using this
      have R2 := Lib.hid (S.res.mod MS (by omega))
      have O2 : Hid ((wr.setCell ⟨w.heap.size + 2, 1, none⟩ (.int .i64 (r : Int))).ownsRow (w.heap.size + 1) 3 1 (.slice A1 N c1) N (I64 (ofN l))) := by
        have := own_mod S.own MS (fun i hi hj => own_ne S.own S.box (by decide) (by rw [hi, hj]))
        rw [← hN] at this; exact this
      have Z2 : Hid (Below w.heap.size w (wr.setCell ⟨w.heap.size + 2, 1, none⟩ (.int .i64 (r : Int)))) := S.bel.trans (MS.belowB S.bel.size fun i hi hj => by omega)
      have x0 := hx.cell 0
      have x1 := hx.cell 1
      have x2 := hx.cell 2
      have f0 := hx.frozen 0
      have f1 := hx.frozen 1
      have f2 := hx.frozen 2
      simp at x0 x1 x2
      have HINF := Lib.hid info_rmap
      clear hlen S HS hN hx MS hr hlt ha hin hk
      go_upto_region 12 with fail
      generalize wr.setCell ⟨w.heap.size + 2, 1, none⟩ (.int .i64 (r : Int)) = wy at *
      clear x0 x1 x2 f0 f1 f2
      have x0 := B2.out.cell 0
      have x1 := B2.out.cell 1
      have x2 := B2.out.cell 2
      have q0 := R2.out.cell 0
      have q1 := R2.out.cell 1
      have q2 := R2.out.cell 2
      have f0 := R2.out.frozen 0
      have f1 := R2.out.frozen 1
      have f2 := R2.out.frozen 2
      simp at x0 x1 x2 q0 q1 q2
      go_wp2_with fail
      obtain ⟨k1, k2, k3⟩ := box_ret (w := w) (g := w.heap.size) (RT := (r : Int)) (LF := 0) (Nat.le_refl _) Z2.out R2.out O2.out
      refine bodyPost_ret (v := .agg #[.slice A1 N c1, .int .i64 (r : Int), .int .i64 0]) ?_ rfl ?_
      · exact results_cell_row rfl _ _ w.heap.size 27 _ (0, 0) _ rfl k1 Try.underlying27 rfl HINF.out
      · obtain ⟨i1, i2, i3, i4, i5, i6, i7⟩ := HFIN.out
        refine ⟨l, b, v, i1, i2, i3, A1, c1, ?_, i6, i7, ?_, k3⟩
        · rw [i4, ← i5]
        · rw [← i4]; exact k2.base_le' (by omega)
end Go.Proofs.Ytgcbdoljapnecaa
namespace Go.Proofs.Ytgcbdoljapnecaa
set_option maxRecDepth 100000
open Go.RowKit
set_option linter.unusedVariables false
def KTri (q : Nat) (l b : List Nat) (lone : Nat) : Prop := lone = 0 ∧ ∃ v, l.length = 6 * q + 6 ∧ TG l.length (sgL l) v (q + 3)
theorem rtri_x (A : Option Addr) (m c B : Nat) (by_ : List Int) (inner : Nat) (rt : Nat) (w : World)
    (h : Rd w B A m (Z8 by_)) (hB : B ≤ w.heap.size) (hb : ∀ x ∈ by_, 0 ≤ x ∧ x < 256) (hin : inner ≤ 100) (hm : m ≤ 9223372036854775807) (hr1 : rt < 256) :
    Calls Try.prog 26 #[.int .i64 (inner : Int), .slice A m c, .int .u8 (rt : Int)] w (XIs (KTri inner) w) := by
  refine (rtri_p A m c B by_ inner rt w h hB hb (by omega) hm hr1).mono ?_
  rintro e w' ⟨l, b, v, hi, hl, T, A2, c2, rfl, hc2, hm2, hown, b2⟩
  have hlt : rt % l.length < l.length := Nat.mod_lt _ (by omega)
  exact ⟨_, l, b, _, 0, rfl, ⟨hi, A2, c2, own_inLo hown, rfl, hc2, hm2, Rd.ofOwn hown⟩, by omega, T.ev, .inr ⟨by omega, by omega, by omega⟩, by omega, ⟨rfl, v, hl, T⟩, b2⟩
set_option maxHeartbeats 4000000 in
theorem made23_2 (kd n r m c B : Nat) (A : Option Addr) (by_ : List Int) (w : World) (h : Rd w B A m (Z8 by_)) (hb : ∀ x ∈ by_, 0 ≤ x ∧ x < 256) (hB : B ≤ w.heap.size) (hkd : kd % 3 = 2) (hn : n < 256) (hr : r < 256) (hm : m ≤ 9223372036854775807) :
    Calls Try.prog 6 #[.int .u8 (kd : Int), .int .u8 (n : Int), .slice A m c, .int .u8 (r : Int)] w (MadeIs (KTri (n % 8)) w) := by
  have hb0 := ((Below.refl w.heap.size w).alloc (Nat.le_refl _) (.cells #[.slice none 0 0, .int .i64 0, .int .i64 0] 27)).alloc (by simp) (.cells #[.slice none 0 0, .int .i64 0, .int .i64 0] 27)
  have hR0 := (Blk.new w 27 #[.slice none 0 0, .int .i64 0, .int .i64 0]).alloc (.cells #[.slice none 0 0, .int .i64 0, .int .i64 0] 27)
  have hX0 := (Blk.new (w.alloc (.cells #[.slice none 0 0, .int .i64 0, .int .i64 0] 27)) 27 #[.slice none 0 0, .int .i64 0, .int .i64 0])
  rw [show (w.alloc (.cells #[.slice none 0 0, .int .i64 0, .int .i64 0] 27)).heap.size = w.heap.size + 1 by simp] at hX0
  obtain ⟨k, hk, hk9⟩ : ∃ k, Hid (k = n % 8) ∧ k < 8 := ⟨_, rfl, Nat.mod_lt _ (by decide)⟩
  have e1 : (n : Int) % 8 = (k : Int) := by have := hk.out; omega
  have e2 : (kd : Int) % 3 = 2 := by omega
  have HBX := Nat.le_trans hB hb0.size
  have AN := Lib.hid (rtri_x A m c B by_ (n % 8) r _ (h.below (hb0.mono hB)) HBX hb (by have := hk.out; omega) hm hr)
  rw [← hk.out] at AN ⊢
  have HINF := Lib.hid info_rmap
  have HR0 := Lib.hid hR0
  have HX0 := Lib.hid hX0
  have HB0 := Lib.hid hb0
  have HW : Hid (((w.alloc (.cells #[.slice none 0 0, .int .i64 0, .int .i64 0] 27)).alloc (.cells #[.slice none 0 0, .int .i64 0, .int .i64 0] 27)).heap.size = w.heap.size + 2) := by show _ = _; simp
  clear h hb hb0 hR0 hX0 hkd HBX
  go_enter Try.func6, Try.ntmps6
  go_wp2_with fail
  refine AN.out.mono ?_
  generalize (w.alloc (.cells #[.slice none 0 0, .int .i64 0, .int .i64 0] 27)).alloc (.cells #[.slice none 0 0, .int .i64 0, .int .i64 0] 27) = w1 at *
  rintro e w2 ⟨v, l, b, root, lone, rfl, hrm, hl, hev, hroot, hlo, hK, b2⟩
  obtain ⟨hinv, A2, c2, hla, rfl, hc2, hm2, r2⟩ := hrm
  have hX := HX0.out.below b2
  have hR := HR0.out.below b2
  have B2 := HB0.out.trans (b2.mono HB0.out.size)
  have M3 := box_mod w2 (w.heap.size + 1) (.slice A2 l.length c2) (.int .i64 root) (.int .i64 (lone : Int))
  have x0 := hX.cell 0
  have x1 := hX.cell 1
  have x2 := hX.cell 2
  have f0 := hX.frozen 0
  have f1 := hX.frozen 1
  have f2 := hX.frozen 2
  simp at x0 x1 x2
  have HX3 : Hid (Blk (((w2.setCell ⟨w.heap.size + 1, 0, none⟩ (.slice A2 l.length c2)).setCell ⟨w.heap.size + 1, 1, none⟩ (.int .i64 root)).setCell ⟨w.heap.size + 1, 2, none⟩ (.int .i64 (lone : Int))) (w.heap.size + 1) 27 #[.slice A2 l.length c2, .int .i64 root, .int .i64 (lone : Int)]) := by
    show Blk _ _ _ _
    have := ((hX.set_ 0 (.slice A2 l.length c2)).set_ 1 (.int .i64 root)).set_ 2 (.int .i64 (lone : Int))
    simpa using this
  have HR3 := Lib.hid (hR.mod M3 (by omega))
  have HB3 : Hid (Below w.heap.size w (((w2.setCell ⟨w.heap.size + 1, 0, none⟩ (.slice A2 l.length c2)).setCell ⟨w.heap.size + 1, 1, none⟩ (.int .i64 root)).setCell ⟨w.heap.size + 1, 2, none⟩ (.int .i64 (lone : Int)))) := B2.trans (M3.belowB B2.size fun i hi hj => by omega)
  have HRD : Hid (Rd (((w2.setCell ⟨w.heap.size + 1, 0, none⟩ (.slice A2 l.length c2)).setCell ⟨w.heap.size + 1, 1, none⟩ (.int .i64 root)).setCell ⟨w.heap.size + 1, 2, none⟩ (.int .i64 (lone : Int))) (((w2.setCell ⟨w.heap.size + 1, 0, none⟩ (.slice A2 l.length c2)).setCell ⟨w.heap.size + 1, 1, none⟩ (.int .i64 root)).setCell ⟨w.heap.size + 1, 2, none⟩ (.int .i64 (lone : Int))).heap.size A2 l.length (I64 (ofN l))) :=
    (r2.mod M3 (Nat.le_refl _) (fun h0 i hi hf => by
      obtain ⟨a, e, rfl⟩ := hi
      have := hla a e
      have := HW.out
      omega)).up M3.size
  have HI := Lib.hid hinv
  have HL := Lib.hid (And.intro hl hev)
  have HRT := Lib.hid hroot
  have HC := Lib.hid (And.intro hc2 hm2)
  have HLA : Hid (inLo (w.heap.size + 1) A2) := hla.le (by rw [HW.out]; omega)
  have HK := Lib.hid hK
  clear hinv hl hev hroot b2 r2 hR hX AN hc2 hm2 hla hK B2 M3 HX0 HR0 HB0
  go_upto_region 8 with fail
  generalize ((w2.setCell ⟨w.heap.size + 1, 0, none⟩ (.slice A2 l.length c2)).setCell ⟨w.heap.size + 1, 1, none⟩ (.int .i64 root)).setCell ⟨w.heap.size + 1, 2, none⟩ (.int .i64 (lone : Int)) = w3 at *
  clear x0 x1 x2 f0 f1 f2
  have x0 := HX3.out.cell 0
  have x1 := HX3.out.cell 1
  have x2 := HX3.out.cell 2
  simp at x0 x1 x2
  have NO := Lib.hid (new_ok A2 l.length c2 l b root (lone : Int) _ HRD.out HI.out HL.out.2 (by have := HL.out.1; omega) HRT.out (by omega) (by omega))
  go_wp2_with fail
  refine NO.out.mono ?_
  rintro e w4 ⟨g, rfl, hmap, b4, hmlo⟩
  have hX4 := HX3.out.below b4
  have hR4 := HR3.out.below b4
  clear x0 x1 x2
  have x0 := hX4.cell 0
  have x1 := hX4.cell 1
  have x2 := hX4.cell 2
  have r0 := hR4.cell 0
  have r1 := hR4.cell 1
  have r2 := hR4.cell 2
  have f0 := hR4.frozen 0
  have f1 := hR4.frozen 1
  have f2 := hR4.frozen 2
  simp at x0 x1 x2 r0 r1 r2
  have HM := Lib.hid hmap
  have HML := Lib.hid hmlo
  have HR4 := Lib.hid hR4
  have R4 := Lib.hid (HRD.out.more b4)
  have B4 : Hid (Below w.heap.size w w4) := HB3.out.trans (b4.mono HB3.out.size)
  have hs3 : w.heap.size + 1 < w3.heap.size := HX3.out.lt
  clear hmap hmlo hX4 hR4 b4 NO HX3 HR3 HRD HB3
  go_wp2_with fail
  go_region
  all_goals go_wp2_with fail
  have MM : Mod (fun i => i = w.heap.size) w4 (((w4.setCell ⟨w.heap.size, 0, none⟩ (.slice A2 l.length c2)).setCell ⟨w.heap.size, 1, none⟩ (.int .i64 root)).setCell ⟨w.heap.size, 2, none⟩ (.int .i64 (lone : Int))).drew :=
    Mod.drew (Mod.setCell (p := ⟨w.heap.size, 2, none⟩) (Mod.setCell (p := ⟨w.heap.size, 1, none⟩) (Mod.setCell (p := ⟨w.heap.size, 0, none⟩) (Mod.refl (fun i => i = w.heap.size) w4) (fun _ => rfl) _) (fun _ => rfl) _) (fun _ => rfl) _)
  have hblk : Blk (((w4.setCell ⟨w.heap.size, 0, none⟩ (.slice A2 l.length c2)).setCell ⟨w.heap.size, 1, none⟩ (.int .i64 root)).setCell ⟨w.heap.size, 2, none⟩ (.int .i64 (lone : Int))).drew w.heap.size 27 #[.slice A2 l.length c2, .int .i64 root, .int .i64 (lone : Int)] := by
    have := ((HR4.out.set_ 0 (.slice A2 l.length c2)).set_ 1 (.int .i64 root)).set_ 2 (.int .i64 (lone : Int))
    exact Blk.drewN (by simpa using this) 1
  refine bodyPost_ret (results_tmp_cell_row rfl _ _ w.heap.size 27 _ (0, 0) _ rfl hblk Try.underlying27 rfl HINF.out) rfl ?_
  refine ⟨g, _, l, b, root, lone, rfl, HM.out.mod HML.out MM (fun i hi => by omega), ⟨HI.out, A2, c2, HLA.out.le (by omega), rfl, HC.out.1, HC.out.2, ?_⟩, HL.out.1, HRT.out, hlo, HK.out, B4.out.trans (MM.belowB B4.out.size fun i hi hf => by omega)⟩
  exact (R4.out.mod MM (Nat.le_refl _) (fun h0 i hi hf => by
    obtain ⟨a, e, rfl⟩ := hi
    have := HLA.out a e
    omega)).up MM.size
end Go.Proofs.Ytgcbdoljapnecaa
namespace Go.Proofs.Ytgcbdoljapnecaa
open Go.RowKit
theorem MadeIs.any {K : List Nat → List Nat → Nat → Prop} {w w' : World} {e : Ending} (h : MadeIs K w e w') : MadeIs (fun _ _ _ => True) w e w' := by
  obtain ⟨g, v, l, b, root, lone, h1, h2, h3, h4, h5, h6, _, h8⟩ := h
  exact ⟨g, v, l, b, root, lone, h1, h2, h3, h4, h5, h6, trivial, h8⟩
theorem made23_any (kd n r m c B : Nat) (A : Option Addr) (by_ : List Int) (w : World) (h : Rd w B A m (Z8 by_)) (hb : ∀ x ∈ by_, 0 ≤ x ∧ x < 256) (hB : B ≤ w.heap.size) (hn : n < 256) (hr : r < 256) (hm : m ≤ 9223372036854775807) :
    Calls Try.prog 6 #[.int .u8 (kd : Int), .int .u8 (n : Int), .slice A m c, .int .u8 (r : Int)] w (MadeIs (fun _ _ _ => True) w) := by
  have hk : kd % 3 = 0 ∨ kd % 3 = 1 ∨ kd % 3 = 2 := by omega
  rcases hk with k | k | k
  · exact (made23_0 kd n r m c B A by_ w h hb hB k hn hr hm).mono fun _ _ q => q.any
  · exact (made23_1 kd n r m c B A by_ w h hb hB k hn hr hm).mono fun _ _ q => q.any
  · exact (made23_2 kd n r m c B A by_ w h hb hB k hn hr hm).mono fun _ _ q => q.any
end Go.Proofs.Ytgcbdoljapnecaa
namespace Go.Proofs.Ytgcbdoljapnecaa
set_option maxRecDepth 20000
open Go.RowKit
set_option linter.unusedVariables false
theorem getDN_set' (y : List Nat) (k j : Nat) (v : Nat) (hk : k < y.length) : (y.set k v).getD j 0 = if j = k then v else y.getD j 0 := by
  by_cases e : j = k
  · subst e; simp [List.getD_eq_getElem?_getD, hk]
  · rw [if_neg e]; simp [List.getD_eq_getElem?_getD, Ne.symm e]
def edgL (l : List Nat) : List Nat := l ++ [l.length, l.length + 1]
def putL (l : List Nat) (d a : Nat) : List Nat := (l.set a d).set d (l.getD a 0)
def putB (l b : List Nat) (d a : Nat) : List Nat := (b.set d a).set (l.getD a 0) d
def takL (l b : List Nat) (d : Nat) : List Nat := (l.set (b.getD d 0) (l.getD d 0)).set d d
def takB (l b : List Nat) (d : Nat) : List Nat := (b.set (l.getD d 0) (b.getD d 0)).set d d
theorem edg_len (l : List Nat) : (edgL l).length = l.length + 2 := by simp [edgL]
theorem put_len (l : List Nat) (d a : Nat) : (putL l d a).length = l.length := by simp [putL]
theorem putB_len (l b : List Nat) (d a : Nat) : (putB l b d a).length = b.length := by simp [putB]
theorem tak_len (l b : List Nat) (d : Nat) : (takL l b d).length = l.length := by simp [takL]
theorem takB_len (l b : List Nat) (d : Nat) : (takB l b d).length = b.length := by simp [takB]
theorem edg_old (l : List Nat) {i : Nat} (hi : i < l.length) : sgL (edgL l) i = sgL l i := by
  show (edgL l).getD i 0 = l.getD i 0
  unfold edgL; simp [List.getD_eq_getElem?_getD, List.getElem?_append_left hi]
theorem edg_new (l : List Nat) {i : Nat} (h1 : l.length ≤ i) (h2 : i < l.length + 2) : sgL (edgL l) i = i := by
  show (edgL l).getD i 0 = i
  unfold edgL
  rw [List.getD_eq_getElem?_getD, List.getElem?_append_right h1]
  have : i = l.length ∨ i = l.length + 1 := by omega
  rcases this with rfl | rfl
  · simp
  · rw [show l.length + 1 - l.length = 1 by omega]; simp
section
variable {l b : List Nat}
theorem put_get (h : Inv l b) {d a : Nat} (hd : d < l.length) (ha : a < l.length) (al : sgL l d = d) (i : Nat) : sgL (putL l d a) i = sgL l (swp d a i) := by
  show (putL l d a).getD i 0 = _
  unfold putL
  rw [getDN_set' _ _ _ _ (by simpa using hd), getDN_set' _ _ _ _ ha]
  unfold swp
  by_cases c : i = d
  · rw [if_pos c, if_pos c]; rfl
  · rw [if_neg c, if_neg c]
    by_cases c2 : i = a
    · rw [if_pos c2, if_pos c2, al]
    · rw [if_neg c2, if_neg c2]; rfl
theorem putB_get (h : Inv l b) {d a : Nat} (hd : d < l.length) (ha : a < l.length) (al : sgL l d = d) {i : Nat} (hi : i < l.length) : sgL (putB l b d a) i = swp d a (sgL b i) := by
  show (putB l b d a).getD i 0 = _
  have hla := h.lt a ha
  have hbd : sgL b d = d := by have := h.lb d hd; rw [show l.getD d 0 = d from al] at this; exact this
  unfold putB
  rw [getDN_set' _ _ _ _ (by simp [h.len]; exact hla), getDN_set' _ _ _ _ (by rw [h.len]; exact hd)]
  unfold swp
  by_cases c : i = l.getD a 0
  · have : sgL b i = a := by rw [c]; exact h.lb a ha
    rw [if_pos c, this]
    by_cases c2 : a = d
    · rw [if_pos c2, c2]
    · rw [if_neg c2, if_pos rfl]
  · rw [if_neg c]
    by_cases c2 : i = d
    · rw [if_pos c2, c2, hbd, if_pos rfl]
    · have n1 : sgL b i ≠ d := fun q => c2 (by have := h.bl i hi; rw [show b.getD i 0 = d from q] at this; rw [← this]; exact al)
      have n2 : sgL b i ≠ a := fun q => c (by have := h.bl i hi; rw [show b.getD i 0 = a from q] at this; exact this.symm)
      rw [if_neg c2, if_neg n1, if_neg n2]; rfl
theorem put_inv (h : Inv l b) {d a : Nat} (hd : d < l.length) (ha : a < l.length) (al : sgL l d = d) : Inv (putL l d a) (putB l b d a) := by
  have g := put_get h hd ha al
  have gb := fun {i} (hi : i < l.length) => putB_get h hd ha al hi
  have hl := put_len l d a
  have sl := h.lt
  have sb := h.lt'
  refine ⟨by rw [putB_len, hl, h.len], fun i hi => ?_, fun i hi => ?_, fun i hi => ?_, fun i hi => ?_⟩
  all_goals rw [hl] at hi
  · show sgL _ i < _
    rw [g, hl]; exact sl _ (swp_lt hd ha hi)
  · show sgL _ i < _
    rw [gb hi, hl]; exact swp_lt hd ha (sb i hi)
  · show sgL _ (sgL _ i) = i
    have h1 := swp_lt hd ha hi
    have h2 : sgL l (swp d a i) < l.length := sl _ h1
    rw [g, gb h2]
    show swp d a (b.getD (l.getD _ 0) 0) = i
    rw [h.lb _ h1, swp_swp]
  · show sgL _ (sgL _ i) = i
    rw [g, gb hi, swp_swp]
    exact h.bl i hi
theorem tak_get (h : Inv l b) {d : Nat} (hd : d < l.length) (i : Nat) : sgL (takL l b d) i = sgL l (swp d (sgL b d) i) := by
  show (takL l b d).getD i 0 = _
  have hbl := h.lt' d hd
  unfold takL
  rw [getDN_set' _ _ _ _ (by simpa using hd), getDN_set' _ _ _ _ hbl]
  unfold swp
  by_cases c : i = d
  · rw [if_pos c, if_pos c]; exact (h.bl d hd).symm
  · rw [if_neg c, if_neg c]
    by_cases c2 : i = b.getD d 0
    · rw [if_pos c2, if_pos (show i = sgL b d from c2)]; rfl
    · rw [if_neg c2, if_neg (show ¬ i = sgL b d from c2)]; rfl
theorem takB_get (h : Inv l b) {d : Nat} (hd : d < l.length) {i : Nat} (hi : i < l.length) : sgL (takB l b d) i = swp d (sgL b d) (sgL b i) := by
  show (takB l b d).getD i 0 = _
  have hll := h.lt d hd
  unfold takB
  rw [getDN_set' _ _ _ _ (by simp [h.len]; exact hd), getDN_set' _ _ _ _ (by rw [h.len]; exact hll)]
  unfold swp
  by_cases c : i = d
  · rw [if_pos c, c]
    by_cases c2 : sgL b d = d
    · rw [if_pos c2, c2]
    · rw [if_neg c2, if_pos rfl]
  · rw [if_neg c]
    by_cases c2 : i = l.getD d 0
    · have : sgL b i = d := by rw [c2]; exact h.lb d hd
      rw [if_pos c2, this, if_pos rfl]; rfl
    · have n1 : sgL b i ≠ d := fun q => c2 (by have := h.bl i hi; rw [show b.getD i 0 = d from q] at this; exact this.symm)
      have n2 : sgL b i ≠ sgL b d := fun q => c (by
        have h1 := h.bl i hi
        have h2 := h.bl d hd
        rw [show b.getD i 0 = b.getD d 0 from q] at h1
        omega)
      rw [if_neg c2, if_neg n1, if_neg n2]; rfl
theorem tak_inv (h : Inv l b) {d : Nat} (hd : d < l.length) : Inv (takL l b d) (takB l b d) := by
  have g := tak_get h hd
  have gb := fun {i} (hi : i < l.length) => takB_get h hd hi
  have hl := tak_len l b d
  have sl := h.lt
  have sb := h.lt'
  have ha := sb d hd
  refine ⟨by rw [takB_len, hl, h.len], fun i hi => ?_, fun i hi => ?_, fun i hi => ?_, fun i hi => ?_⟩
  all_goals rw [hl] at hi
  · show sgL _ i < _
    rw [g, hl]; exact sl _ (swp_lt hd ha hi)
  · show sgL _ i < _
    rw [gb hi, hl]; exact swp_lt hd ha (sb i hi)
  · show sgL _ (sgL _ i) = i
    have h1 : swp d (sgL b d) i < l.length := swp_lt hd ha hi
    have h2 : sgL l (swp d (sgL b d) i) < l.length := sl _ h1
    rw [g, gb h2]
    show swp d _ (b.getD (l.getD _ 0) 0) = i
    rw [h.lb _ h1, swp_swp]
  · show sgL _ (sgL _ i) = i
    rw [g, gb hi, swp_swp]
    exact h.bl i hi
theorem tak_one (h : Inv l b) {d : Nat} (hd : d < l.length) : sgL (takL l b d) d = d := by
  rw [tak_get h hd]
  have : swp d (sgL b d) d = sgL b d := by unfold swp; rw [if_pos rfl]
  rw [this]; exact h.bl d hd
theorem edg_inv (h : Inv l b) : Inv (edgL l) (edgL b) := by
  have hl := edg_len l
  have hbl : b.length = l.length := h.len
  have gl : ∀ i, i < l.length + 2 → sgL (edgL l) i < l.length + 2 := fun i hi => by
    by_cases c : i < l.length
    · rw [edg_old l c]; have := h.lt i c; show l.getD i 0 < _; omega
    · rw [edg_new l (by omega) hi]; exact hi
  refine ⟨by rw [edg_len, edg_len, hbl], fun i hi => ?_, fun i hi => ?_, fun i hi => ?_, fun i hi => ?_⟩
  all_goals rw [hl] at hi
  · rw [hl]; exact gl i hi
  · rw [hl]
    show sgL (edgL b) i < _
    by_cases c : i < b.length
    · rw [edg_old b c]; have := h.lt' i (by omega); show b.getD i 0 < _; omega
    · rw [edg_new b (by omega) (by omega)]; exact hi
  · show sgL (edgL b) (sgL (edgL l) i) = i
    by_cases c : i < l.length
    · rw [edg_old l c, edg_old b (by have := h.lt i c; show l.getD i 0 < _; omega)]; exact h.lb i c
    · rw [edg_new l (by omega) hi, edg_new b (by omega) (by omega)]
  · show sgL (edgL l) (sgL (edgL b) i) = i
    by_cases c : i < b.length
    · rw [edg_old b c, edg_old l (by have := h.lt' i (by omega); show b.getD i 0 < _; omega)]; exact h.bl i (by omega)
    · rw [edg_new b (by omega) (by omega), edg_new l (by omega) hi]
/-- One that stands alone stays so when another is put elsewhere. -/
theorem put_other (h : Inv l b) {d a i : Nat} (hd : d < l.length) (ha : a < l.length) (al : sgL l d = d) (h1 : i ≠ d) (h2 : i ≠ a) : sgL (putL l d a) i = sgL l i := by
  rw [put_get h hd ha al]
  unfold swp
  rw [if_neg h1, if_neg h2]
theorem tak_other (h : Inv l b) {d i : Nat} (hd : d < l.length) (h1 : i ≠ d) (h2 : i ≠ sgL b d) : sgL (takL l b d) i = sgL l i := by
  rw [tak_get h hd]
  unfold swp
  rw [if_neg h1, if_neg h2]
end
end Go.Proofs.Ytgcbdoljapnecaa
