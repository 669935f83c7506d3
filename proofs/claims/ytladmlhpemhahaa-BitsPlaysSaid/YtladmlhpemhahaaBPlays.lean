/- BitsPlays: whatever is added. -/
import Derived.Test.YtladmlhpemhahaaBJoinS
import Derived.Test.YtladmlhpemhahaaBAwake
import Derived.Test.YtladmlhpemhahaaBRow
import Derived.Test.YtladmlhpemhahaaCloneI
namespace Go.Proofs.Ytladmlhpemhahaa
open Go.RowKit
set_option linter.unusedVariables false

/-- The calls that came in. -/
structure ActAt (w : World) (b o i d x : Nat) (k : Int) (A : Option Addr) (m c : Nat) (z : List Int) : Prop where
  c0 : w.cell? ⟨b, o + i * 4, none⟩ = some (.int .u8 (d : Int))
  c1 : w.cell? ⟨b, o + i * 4 + 1, none⟩ = some (.slice A m c)
  c2 : w.cell? ⟨b, o + i * 4 + 2, none⟩ = some (.int .u64 (x : Int))
  c3 : w.cell? ⟨b, o + i * 4 + 3, none⟩ = some (.int .i64 k)
  d8 : d < 256
  x64 : x < 2 ^ 64
  k64 : -9223372036854775808 ≤ k ∧ k ≤ 9223372036854775807
  mc : m ≤ c
  cm : c ≤ maxLen
  rd : Rd w w.heap.size A m (I64 z)
def ActsAt (w : World) (A : Option Addr) (n : Nat) : Prop := 0 < n → ∃ b o, A = some ⟨b, o, none⟩ ∧ b < w.heap.size ∧ ∀ i, i < n → ∃ d x k A m c z, ActAt w b o i d x k A m c z
/-- Rows of ints share no block with a vector. -/
theorem sep_ints {w : World} {base g V n m c : Nat} {Av A : Option Addr} {xs : List Value} (h : w.ownsRow base 3 1 (.slice A m c) m xs) (hv : VecAt w g V n Av) : ∀ i, inBlk A i → ¬ foot g Av i := by
  intro i ⟨a, e, hi⟩ hf
  subst e
  obtain ⟨_, _, cv, hb, ho⟩ := hv
  have hob : (Value.slice (some a) m c).ownBlock = some a.block := rfl
  rcases hf with h1 | ⟨b, h1, h2⟩
  · exact own_ne h hb (by decide) (by rw [hob, hi, h1])
  · subst h1
    rcases ho.2 with ⟨h3, _⟩ | ⟨g2, cap, cur, hv2, _, hg2, _⟩
    · cases h3
    · simp only [Value.slice.injEq, Option.some.injEq, Addr.mk.injEq, and_true, true_and] at hv2
      have hbk : Blk w g2 27 cur := hg2
      exact own_ne h hbk (by decide) (by rw [hob, hi, h2, hv2.1])
/-- What a round of BitsPlays finds and leaves. -/
structure PSt (w0 w : World) (g : Nat) (L : List Nat) (Av A4 : Option Addr) (c4 : Nat) : Prop where
  vec : VecAt w g (val L) L.length Av
  own : w.ownsRow (g + 1) 3 1 (.slice A4 L.length c4) L.length (I64 (ofN L))
  bin : Bin L
  bel : Below w0.heap.size w0 w
  gle : w0.heap.size ≤ g
theorem PSt.below {w0 w w' : World} {g : Nat} {L : List Nat} {Av A4 : Option Addr} {c4 : Nat} (h : PSt w0 w g L Av A4 c4) (m : Below w.heap.size w w') : PSt w0 w' g L Av A4 c4 :=
  ⟨h.vec.below m, own_below h.own m, h.bin, h.bel.trans (m.mono h.bel.size), h.gle⟩
/-- The list has grown by what the vector has grown by. -/
theorem PSt.app {w0 wz w' : World} {g N q cap cap' : Nat} {L e : List Nat} {Av A4 A' : Option Addr} (hv : VecAt wz g (val (L ++ e)) (L ++ e).length Av) (own : wz.ownsRow (g + 1) 3 1 (.slice A4 N cap) N (I64 (ofN L)))
    (hb : Bin L) (he : Bin e) (bel : Below w0.heap.size w0 wz) (gle : w0.heap.size ≤ g) (own' : w'.ownsRow (g + 1) 3 1 (.slice A' (N + q) cap') (N + q) (I64 (ofN L) ++ I64 (ofN e))) (hg : wz.grownBy w' (Value.slice A4 N cap).ownBlock)
    (hN : N = L.length) (hq : q = e.length) : PSt w0 w' g (L ++ e) Av A' cap' := by
  have sp := sep_ints own hv
  refine ⟨VecB.mod hv (Mod.ofGrown hg) fun i hi hx => ?_, ?_, hb.append he, bel.grown hg bel.size fun k hk => ?_, gle⟩
  · cases A4 with
    | none => simp [Value.ownBlock] at hx
    | some a =>
      have : i = a.block := by simpa [Value.ownBlock] using hx
      exact sp i ⟨a, rfl, this.symm⟩ hi
  · rw [List.length_append, ← hN, ← hq, ofN_append, I64_append]
    exact own'
  · have := (own.lt k hk).1
    omega
/-- A vector's turn leaves rows of ints alone. -/
theorem own_num {w w' : World} {base g V n m c : Nat} {Av A : Option Addr} {xs : List Value} (h : w.ownsRow base 3 1 (.slice A m c) m xs) (hv : VecAt w g V n Av) (hm : Mod (foot g Av) w w') : w'.ownsRow base 3 1 (.slice A m c) m xs := by
  have sp := sep_ints h hv
  refine own_mod h hm fun k hk => ?_
  cases A with
  | none => simp [Value.ownBlock] at hk
  | some a => exact sp k ⟨a, rfl, by simpa [Value.ownBlock] using hk⟩
/-- Another row of ints stays, where it was made later. -/
theorem own_other {w w' : World} {base base' m c m' c' : Nat} {A A' : Option Addr} {xs xs' : List Value} (h : w.ownsRow base 3 1 (.slice A m c) m xs) (k : w.ownsRow base' 3 1 (.slice A' m' c') m' xs') (hlt : ∀ i, (Value.slice A' m' c').ownBlock = some i → i < base)
    (hg : w.grownBy w' (Value.slice A' m' c').ownBlock) : w'.ownsRow base 3 1 (.slice A m c) m xs :=
  own_mod h (Mod.ofGrown hg) fun i hi hx => by
    have h1 := (h.lt i hi).1
    have h2 := hlt i hx.symm
    omega
theorem min_40 (m : Nat) (hm : m ≤ 9223372036854775807) : ∀ w, (Builtin.min_ #[3, 3] 3 #[.int .i64 (m : Int), .int .i64 40]).run Try.prog w = .ok (.int .i64 ((min m 40 : Nat) : Int)) w := fun w => by
  simp [Builtin.min_, Builtin.min2]
  repeat' split
  all_goals omega
theorem bits_one (z : List Int) (j : Nat) (h : j < z.length) : (z.map bit1).take (j + 1) = (z.map bit1).take j ++ [bit1 (z.getD j 0)] := by
  rw [← List.map_take, ← List.map_take, take_next (α := Nat) z j h, List.map_append]; rfl
theorem like_pst {w0 wz : World} {g N cap : Nat} {L : List Nat} {Av A4 : Option Addr} (h : PSt w0 wz g L Av A4 cap) (hN : N = L.length) :
    Calls Try.prog 16 #[.pointer (some ⟨g, 0, none⟩), .slice A4 N cap] wz fun e w' => e = .returned (.bool true) ∧ PSt w0 w' g L Av A4 cap := by
  subst hN
  exact (like_p g L Av A4 _ _ cap wz h.vec h.bin (Rd.ofOwn h.own)).mono fun e w' ⟨he, hb⟩ => ⟨he, h.below hb⟩
theorem sep_act {w : World} {g V n bx : Nat} {Av : Option Addr} {cs : Array Value} (hb : Blk w bx 29 cs) (hv : VecAt w g V n Av) : ¬ foot g Av bx := by
  obtain ⟨_, _, c, h1, h2⟩ := hv
  rintro (e | ⟨b, e, e2⟩)
  · subst e
    unfold Blk at hb h1
    rw [hb] at h1
    simp at h1
  · subst e; subst e2
    exact own_ne h2 hb (by decide) rfl
set_option maxRecDepth 20000 in
set_option maxHeartbeats 8000000 in
theorem bitsPlays_walk (A0 : Option Addr) (n c : Nat) (w : World) (h0 : ActsAt w A0 n) (hnc : n ≤ c) (hcm : c ≤ maxLen) :
    Calls Try.prog 3 #[.slice A0 n c] w fun e w' => e = .returned (.bool true) ∧ Below w.heap.size w w' := by
  unfold maxLen at hcm
  obtain ⟨i0, hi0, hz0, hz1, hz2⟩ := info_parts info_int
  have AW := Lib.hid (awake_p w)
  have H0 := Lib.hid h0
  clear h0
  go_enter Try.func3, Try.ntmps3
  go_wp2_with fail
  refine AW.out.mono ?_
  rintro e w1 ⟨rfl, b1⟩
  have NW := Lib.hid (bnew_p w1)
  have hs1 := b1.size
  have B1 := Lib.hid b1
  clear b1 AW
  go_wp2_with fail
  refine NW.out.mono ?_
  rintro e w2 ⟨rfl, hv2, b2⟩
  have hP : PSt w w2 w1.heap.size [] none none 0 := ⟨by simpa [val] using hv2, World.ownsRow_nil _ _ _ _, Bin.nil, B1.out.trans (b2.mono hs1), hs1⟩
  have HP := Lib.hid hP
  generalize w1.heap.size = g at *
  clear hv2 b2 NW B1 hs1 hP
  go_wp2_with fail
  go_loopw [4, 16] (fun s i wr => ∃ (k N : Nat) (L : List Nat) (Av A4 : Option Addr) (c4 : Nat), k ≤ n ∧ i = .int .i64 (k : Int) ∧ s = .slice A4 N c4 ∧ N ≤ 1400 ∧ Hid (N = L.length) ∧ Hid (PSt w wr g L Av A4 c4)) (fun _ i _ => n - (intOf i).toNat)
  case atStart => exact ⟨0, 0, [], none, none, 0, by omega, rfl, rfl, by omega, rfl, HP.out⟩
  case round =>
    clear HP
    obtain ⟨k, N, L, Av, A4, c4, hk, rfl, rfl, hN, hNL, hp⟩ := hrel
    by_cases hlt : k < n
    · obtain ⟨b, o, rfl, hbw, hacts⟩ := H0.out (by omega)
      obtain ⟨d, x, kk, Aa, m, ca, z, hact⟩ := hacts k hlt
      have hcell : ∀ p : Addr, p.block = b → p.spot = none → wr.cell? p = w.cell? p := fun p h1 h2 => hp.out.bel.cell (by rw [h1]; exact hbw)
      have r0 : wr.cell? ⟨b, o + k * 4, none⟩ = some (.int .u8 (d : Int)) := (hp.out.bel.cell (p := ⟨b, o + k * 4, none⟩) hbw).trans hact.c0
      have r1 : wr.cell? ⟨b, o + k * 4 + 1, none⟩ = some (.slice Aa m ca) := (hp.out.bel.cell (p := ⟨b, o + k * 4 + 1, none⟩) hbw).trans hact.c1
      have r2 : wr.cell? ⟨b, o + k * 4 + 2, none⟩ = some (.int .u64 (x : Int)) := (hp.out.bel.cell (p := ⟨b, o + k * 4 + 2, none⟩) hbw).trans hact.c2
      have r3 : wr.cell? ⟨b, o + k * 4 + 3, none⟩ = some (.int .i64 kk) := (hp.out.bel.cell (p := ⟨b, o + k * 4 + 3, none⟩) hbw).trans hact.c3
      have hd8 := hact.d8
      have hx64 : x < 18446744073709551616 := hact.x64
      have hk64 := hact.k64
      have hmc := hact.mc
      have hcm2 := hact.cm
      unfold maxLen at hcm2
      have HRd := Lib.hid hact.rd
      clear hact hacts hcell
      by_cases h25 : 25 ≤ k
      · have h25' : (25 : Int) ≤ (k : Int) := by omega
        have HE := Lib.hid (hp.out.bel.alloc hp.out.bel.size (.cells #[.int .u8 (d : Int), .slice Aa m ca, .int .u64 (x : Int), .int .i64 kk] 29))
        go_wp2_with fail
        go_ret
        exact ⟨rfl, HE.out⟩
      · have h25' : ¬ (25 : Int) ≤ (k : Int) := by omega
        by_cases h700 : 700 < N
        · have h700' : (700 : Int) < (N : Int) := by omega
          have HE := Lib.hid (hp.out.bel.alloc hp.out.bel.size (.cells #[.int .u8 (d : Int), .slice Aa m ca, .int .u64 (x : Int), .int .i64 kk] 29))
          go_wp2_with fail
          go_ret
          exact ⟨rfl, HE.out⟩
        · have h700' : ¬ (700 : Int) < (N : Int) := by omega
          have HBX := Lib.hid (Blk.new wr 29 #[.int .u8 (d : Int), .slice Aa m ca, .int .u64 (x : Int), .int .i64 kk])
          have BQ := (Below.refl wr.heap.size wr).alloc (Nat.le_refl _) (.cells #[.int .u8 (d : Int), .slice Aa m ca, .int .u64 (x : Int), .int .i64 kk] 29)
          have HPQ := Lib.hid (hp.out.below BQ)
          have HRQ : Hid (Rd (wr.alloc (.cells #[.int .u8 (d : Int), .slice Aa m ca, .int .u64 (x : Int), .int .i64 kk] 29)) w.heap.size Aa m (I64 z)) := HRd.out.below HPQ.out.bel
          have HZL : Hid (z.length = m) := by show _ = _; rw [← HRd.out.len, I64_len]
          obtain ⟨y, hy⟩ : ∃ y, y = z.map bit1 := ⟨_, rfl⟩
          have HY := Lib.hid hy
          clear BQ HRd hp hy
          go_wp2_with fail
          generalize hwq : wr.alloc (.cells #[.int .u8 (d : Int), .slice Aa m ca, .int .u64 (x : Int), .int .i64 kk] 29) = wq at *
          have hbx : wr.heap.size < wq.heap.size := by rw [← hwq]; simp
          clear hwq r0 r1 r2 r3 h25 h700
          have hA4 : Hid (∀ i, (Value.slice A4 N c4).ownBlock = some i → i < wq.heap.size) := fun i hi => by
            have := HPQ.out.own
            rw [← hNL.out] at this
            exact (this.lt i hi).2
          generalize wr.heap.size = bx at *
          obtain ⟨wq0, rfl⟩ : ∃ wo : World, wo = wq := ⟨_, rfl⟩
          go_loopw [7, 31] (fun s i wi => ∃ (j q cs : Nat) (S : Option Addr), j ≤ m ∧ i = .int .i64 (j : Int) ∧ s = .slice S q cs ∧ q ≤ 40 ∧ Hid (q = min j 40) ∧ Hid (wi.ownsRow wq0.heap.size 3 1 (.slice S q cs) q (I64 (ofN (y.take q)))) ∧ Below wq0.heap.size wq0 wi) (fun _ i _ => m - (intOf i).toNat)
          case atStart => exact ⟨0, 0, 0, none, by omega, rfl, rfl, by omega, rfl, World.ownsRow_nil _ _ _ _, Below.refl _ _⟩
          case round =>
            obtain ⟨j, q, cs, S, hj, rfl, rfl, hq40, hqj, hos, hbi⟩ := hrel
            by_cases hlj : j < m
            · have hr := HRQ.out.below (hbi.mono HPQ.out.bel.size)
              obtain ⟨bz, oz, rfl, hbz, k1⟩ := hr.i64 (by omega)
              have t1 := k1 j hlj
              clear hr k1
              by_cases h40 : j < 40
              · have hqe : q = j := by have := hqj.out; omega
                subst hqe
                have hsi := hbi.size
                have NX := Lib.hid (bits_one z q (by rw [HZL.out]; exact hlj))
                rw [← HY.out] at NX
                have e1 : q + 1 ≤ maxLen := by simp only [maxLen]; omega
                have e2 : (q + 1) * 8 ≤ 140737488355328 := by omega
                have h40' : (q : Int) < 40 := by omega
                have Q1 : Hid (q + 1 = min (q + 1) 40) := by show _ = _; omega
                by_cases hz0 : z.getD q 0 = 0
                · have hb1 : bit1 (z.getD q 0) = 0 := by rw [hz0]; rfl
                  rw [hb1] at NX
                  rw [hz0] at t1
                  clear hb1 hz0 hqj
                  have hown3 := hos.out.alloc (.cells #[.int .i64 0] 3)
                  have r9 := Rd.new wr 3 #[.int .i64 0] 1 (I64 [0]) (by simp [I64]) (by simp)
                  have e3 : wq0.heap.size ≤ (wr.alloc (.cells #[.int .i64 0] 3)).heap.size := by simp; omega
                  go_wp2_with (first
                    | (at_builtin; go_must (refine wpList_append_rd _ rfl _ _ 26 rfl wq0.heap.size 3 i0 (.int .i64 0) 8 Try.underlying26 hi0 hz0 hz1 hz2 rfl (.slice S q cs) q _ rfl hown3 (wr.heap.size + 1) (some ⟨wr.heap.size, 0, none⟩) 1 1 (I64 [0]) rfl r9 (I64_one _) e1 e2 e3 ?_)))
                  intro A6 c6 w6 hc6 hm6 hown6 hg6 _
                  have hb6 : Below wq0.heap.size wr w6 := ((Below.refl _ wr).alloc hsi _).trans (Below.appended hown3 hg6 e3)
                  have ho6 : w6.ownsRow wq0.heap.size 3 1 (.slice A6 (q + 1) c6) (q + 1) (I64 (ofN (y.take (q + 1)))) := by
                    rw [NX.out, ofN_append, I64_append]; exact hown6
                  have HO6 := Lib.hid ho6
                  clear ho6 hown6 hown3 r9 hg6
                  go_wp2
                  go_roundw
                  case rel => exact ⟨q + 1, q + 1, c6, A6, by omega, by go_num, rfl, by omega, Q1.out, HO6.out, hbi.trans hb6⟩
                  case measure => simp [intOf]; omega
                · have hb1 : bit1 (z.getD q 0) = 1 := by unfold bit1; rw [if_neg hz0]
                  rw [hb1] at NX
                  generalize hzz : z.getD q 0 = zz at *
                  have hbe : (zz == 0) = false := by rw [beq_eq_false_iff_ne]; exact hz0
                  have hbn : (zz != 0) = true := by rw [bne_iff_ne]; exact hz0
                  clear hb1 hz0 hqj hzz
                  have hown3 := hos.out.alloc (.cells #[.int .i64 1] 3)
                  have r9 := Rd.new wr 3 #[.int .i64 1] 1 (I64 [1]) (by simp [I64]) (by simp)
                  have e3 : wq0.heap.size ≤ (wr.alloc (.cells #[.int .i64 1] 3)).heap.size := by simp; omega
                  go_wp2_with (first
                    | (at_builtin; go_must (refine wpList_append_rd _ rfl _ _ 26 rfl wq0.heap.size 3 i0 (.int .i64 0) 8 Try.underlying26 hi0 hz0 hz1 hz2 rfl (.slice S q cs) q _ rfl hown3 (wr.heap.size + 1) (some ⟨wr.heap.size, 0, none⟩) 1 1 (I64 [1]) rfl r9 (I64_one _) e1 e2 e3 ?_)))
                  intro A6 c6 w6 hc6 hm6 hown6 hg6 _
                  have hb6 : Below wq0.heap.size wr w6 := ((Below.refl _ wr).alloc hsi _).trans (Below.appended hown3 hg6 e3)
                  have ho6 : w6.ownsRow wq0.heap.size 3 1 (.slice A6 (q + 1) c6) (q + 1) (I64 (ofN (y.take (q + 1)))) := by
                    rw [NX.out, ofN_append, I64_append]; exact hown6
                  have HO6 := Lib.hid ho6
                  clear ho6 hown6 hown3 r9 hg6
                  go_wp2
                  go_roundw
                  case rel => exact ⟨q + 1, q + 1, c6, A6, by omega, by go_num, rfl, by omega, Q1.out, HO6.out, hbi.trans hb6⟩
                  case measure => simp [intOf]; omega
              · have h40' : ¬ (j : Int) < 40 := by omega
                have Q1 : Hid (q = min (j + 1) 40) := by show _ = _; have := hqj.out; omega
                go_wp2
                go_roundw
                case rel => exact ⟨j + 1, q, cs, S, by omega, by go_num, rfl, by omega, Q1.out, hos.out, hbi⟩
                case measure => simp [intOf]; omega
            · obtain rfl : m = j := by omega
              obtain ⟨wi, rfl⟩ : ∃ wo : World, wo = wr := ⟨_, rfl⟩
              obtain ⟨sm, hsm⟩ : ∃ sm, sm = y.take q := ⟨_, rfl⟩
              have HSM := Lib.hid hsm
              rw [← hsm] at hos
              have HSB : Hid (Bin sm) := by show Bin sm; rw [hsm, HY.out]; exact (bit1_bin _).take _
              have HSL : Hid (q = sm.length) := by
                show _ = _
                rw [hsm, HY.out, List.length_take, List.length_map, HZL.out]
                have := hqj.out; omega
              have HPI := Lib.hid (HPQ.out.below hbi)
              have OWI : Hid (wi.ownsRow (g + 1) 3 1 (.slice A4 N c4) N (I64 (ofN L))) := by
                have := HPI.out.own; rwa [← hNL.out] at this
              have HSZ : Hid ((z.take q).map bit1 = sm) := by show _ = _; rw [hsm, HY.out, List.map_take]
              have hx : Blk wi bx 29 #[.int .u8 (d : Int), .slice Aa m ca, .int .u64 (x : Int), .int .i64 kk] := HBX.out.below hbi
              have x0 : wi.cell? ⟨bx, 0, none⟩ = some (.int .u8 (d : Int)) := hx.cell 0
              have x1 : wi.cell? ⟨bx, 1, none⟩ = some (.slice Aa m ca) := hx.cell 1
              have x2 : wi.cell? ⟨bx, 2, none⟩ = some (.int .u64 (x : Int)) := hx.cell 2
              have x3 : wi.cell? ⟨bx, 3, none⟩ = some (.int .i64 kk) := hx.cell 3
              have hbxi : bx < wi.heap.size := hx.lt
              have HOS := Lib.hid hos
              have HA4i : Hid (∀ i, (Value.slice A4 N c4).ownBlock = some i → i < wq0.heap.size) := hA4
              have HRI : Hid (Rd wi w.heap.size Aa m (I64 z)) := HRQ.out.below (hbi.mono HPQ.out.bel.size)
              have hmin := min_40 m (by omega)
              have HQM : Hid (min m 40 = q) := hqj.out.symm
              rw [HQM.out] at hmin
              have hqm : q ≤ m := by have := HQM.out; omega
              have HXB := Lib.hid hx
              have hgl : g < wi.heap.size := HPI.out.vec.foot_lt (.inl rfl)
              clear hsm hx hos hbi HBX HPQ HRQ
              obtain ⟨r, hr4, hr⟩ : ∃ r : Nat, (d : Int) % 4 = (r : Int) ∧ r < 4 := ⟨d % 4, by omega, Nat.mod_lt _ (by decide)⟩
              have r4 : r = 0 ∨ r = 1 ∨ r = 2 ∨ r = 3 := by omega
              have hhs := hA4
              rcases r4 with rfl | rfl | rfl | rfl
              · have HIN : Hid (0 < q → ∀ i, inBlk Aa i → ¬ foot g Av i) := fun h0 i hi hf => by
                  obtain ⟨b2, o2, e, hb2, _⟩ := HRI.out.at_ (by omega)
                  obtain ⟨a, e2, rfl⟩ := hi
                  rw [e] at e2
                  cases e2
                  have h3 := HPI.out.gle
                  rcases HPI.out.vec.foot_le hf with h4 | h4
                  · simp at h4; omega
                  · simp at h4; omega
                have AD := add_p0 g L Av Aa q ca (z.take q) wi HPI.out.vec (HRI.out.lt.cutI64 q hqm) HIN.out (by rw [← hNL.out]; omega)
                rw [HSZ.out] at AD
                have ADH := Lib.hid AD
                clear AD
                go_wp2_with fail
                refine ADH.out.mono ?_
                rintro e w6 ⟨rfl, Av2, hv2, hm2, ha2⟩
                have OW6 := Lib.hid (own_num OWI.out HPI.out.vec hm2)
                have OS6 := Lib.hid (own_num HOS.out HPI.out.vec hm2)
                have BE6 : Hid (Below w.heap.size w w6) := HPI.out.bel.trans ((NumPost.below ⟨rfl, Av2, hv2, hm2, ha2⟩ HPI.out.vec).mono HPI.out.gle)
                have HV6 := Lib.hid hv2
                have r6 := Rd.ofOwn OS6.out
                have e1 : N + q ≤ maxLen := by simp only [maxLen]; omega
                have e2 : (N + q) * 8 ≤ 140737488355328 := by omega
                have e3 : g + 1 ≤ w6.heap.size := HV6.out.foot_lt (.inl rfl)
                clear hv2 hm2 ha2 ADH x0 x1 x2 x3
                go_wp2_with (first
                  | (at_builtin; go_must (refine wpList_append_rd _ rfl _ _ 26 rfl (g + 1) 3 i0 (.int .i64 0) 8 Try.underlying26 hi0 hz0 hz1 hz2 rfl (.slice A4 N c4) N (I64 (ofN L)) rfl OW6.out w6.heap.size S q cs (I64 (ofN sm)) rfl r6 (I64_one _) e1 e2 e3 ?_)))
                intro A7 c7 w7 hc7 hm7 hown7 hg7 _
                have PS := Lib.hid (PSt.app HV6.out OW6.out HPI.out.bin HSB.out BE6.out HPI.out.gle hown7 hg7 hNL.out HSL.out)
                have LEN : Hid (N + q = (L ++ sm).length) := by show _ = _; rw [List.length_append, ← hNL.out, ← HSL.out]
                have LK := Lib.hid (like_pst PS.out LEN.out)
                clear hown7 hg7 r6 e1 e2 e3 OW6 OS6 hmin
                go_wp2_with fail
                refine LK.out.mono ?_
                rintro e w9 ⟨rfl, hp9⟩
                have HP9 := Lib.hid hp9
                clear hp9
                go_wp2_with fail
                go_roundw
                case rel => exact ⟨k + 1, N + q, L ++ sm, Av2, A7, c7, by omega, by go_num, rfl, by omega, LEN.out, HP9.out⟩
                case measure => simp [intOf]; omega
              · obtain ⟨e1l, he1l⟩ : ∃ e1l, e1l = numL x (cnt64 kk) := ⟨_, rfl⟩
                obtain ⟨q1, hq1⟩ : ∃ q1, q1 = e1l.length := ⟨_, rfl⟩
                have hq64 : q1 ≤ 64 := by
                  rw [hq1, he1l, numL_len]; unfold cnt64; split <;> (try split) <;> omega
                have HEB : Hid (Bin e1l) := by show Bin e1l; rw [he1l]; exact numL_bin _ _
                have NM := num_p g (val L) L.length x kk Av wi HPI.out.vec hx64 hk64 (by rw [← hNL.out]; omega)
                rw [put_numL, ← he1l, show L.length + cnt64 kk = (L ++ e1l).length by rw [List.length_append, he1l, numL_len]] at NM
                have NMH := Lib.hid NM
                have RN : Hid (∀ w' : World, Calls Try.prog 13 #[.int .u64 (x : Int), .int .i64 kk] w' (NewI64 w' (ofN e1l))) := fun w' => by
                  have := rnumL_p x kk w' hx64 hk64
                  rwa [← he1l] at this
                have HQ1 := Lib.hid hq1
                clear NM he1l hq1
                go_wp2_with fail
                refine NMH.out.mono ?_
                rintro e w6 ⟨rfl, Av2, hv2, hm2, ha2⟩
                have OW6 := Lib.hid (own_num OWI.out HPI.out.vec hm2)
                have BE6 : Hid (Below w.heap.size w w6) := HPI.out.bel.trans ((NumPost.below ⟨rfl, Av2, hv2, hm2, ha2⟩ HPI.out.vec).mono HPI.out.gle)
                have HV6 := Lib.hid hv2
                have hx6 := HXB.out.mod hm2 (sep_act HXB.out HPI.out.vec)
                have y2 : w6.cell? ⟨bx, 2, none⟩ = some (.int .u64 (x : Int)) := hx6.cell 2
                have y3 : w6.cell? ⟨bx, 3, none⟩ = some (.int .i64 kk) := hx6.cell 3
                clear hv2 hm2 ha2 NMH x0 x1 x2 x3 hx6
                go_wp2_with fail
                refine (RN.out _).mono ?_
                rintro e w8 ⟨A8, c8, rfl, hc8, hm8, hown8, b8⟩
                rw [ofN_len, ← HQ1.out] at hown8 hc8 ⊢
                have r8 := Rd.ofOwn hown8
                have OW8 := Lib.hid (own_below OW6.out b8)
                have BE8 : Hid (Below w.heap.size w w8) := BE6.out.trans (b8.mono BE6.out.size)
                have HV8 := Lib.hid (HV6.out.below b8)
                have e1 : N + q1 ≤ maxLen := by simp only [maxLen]; omega
                have e2 : (N + q1) * 8 ≤ 140737488355328 := by omega
                have e3 : g + 1 ≤ w8.heap.size := HV8.out.foot_lt (.inl rfl)
                clear hown8 hc8 hm8 b8 RN HV6 BE6 OW6 y2 y3
                go_wp2_with (first
                  | (at_builtin; go_must (refine wpList_append_rd _ rfl _ _ 26 rfl (g + 1) 3 i0 (.int .i64 0) 8 Try.underlying26 hi0 hz0 hz1 hz2 rfl (.slice A4 N c4) N (I64 (ofN L)) rfl OW8.out w8.heap.size A8 q1 c8 (I64 (ofN e1l)) rfl r8 (I64_one _) e1 e2 e3 ?_)))
                intro A7 c7 w7 hc7 hm7 hown7 hg7 _
                have PS := Lib.hid (PSt.app HV8.out OW8.out HPI.out.bin HEB.out BE8.out HPI.out.gle hown7 hg7 hNL.out HQ1.out)
                have LEN : Hid (N + q1 = (L ++ e1l).length) := by show _ = _; rw [List.length_append, ← hNL.out, ← HQ1.out]
                have LK := Lib.hid (like_pst PS.out LEN.out)
                clear hown7 hg7 r8 e1 e2 e3 OW8 hmin
                go_wp2_with fail
                refine LK.out.mono ?_
                rintro e w9 ⟨rfl, hp9⟩
                have HP9 := Lib.hid hp9
                clear hp9
                go_wp2_with fail
                go_roundw
                case rel => exact ⟨k + 1, N + q1, L ++ e1l, Av2, A7, c7, by omega, by go_num, rfl, by omega, LEN.out, HP9.out⟩
                case measure => simp [intOf]; omega
              · have OF := Lib.hid (of_p S q cs sm wi (Rd.ofOwn HOS.out) HSB.out (by omega))
                go_wp2_with fail
                refine OF.out.mono ?_
                rintro e w5 ⟨g2, A2, rfl, hu5, hg2, b5⟩
                have V5 := HPI.out.vec.below b5
                have sp : Sep g Av g2 A2 := fun i hi hj => by
                  have h1 := HPI.out.vec.foot_lt hi
                  have h2 := VecB.foot_le hu5 hj
                  omega
                have JN := Lib.hid (join_p g g2 _ L sm Av A2 w5 V5 hu5 sp HSB.out (by rw [← hNL.out, ← HSL.out]; omega))
                have OW5 := Lib.hid (own_below OWI.out b5)
                have OS5 := Lib.hid (own_below HOS.out b5)
                have HU5 := Lib.hid hu5
                have HV5 := Lib.hid V5
                have SP := Lib.hid sp
                have BE5 : Hid (Below w.heap.size w w5) := HPI.out.bel.trans (b5.mono HPI.out.bel.size)
                clear hu5 b5 V5 sp OF x0 x1 x2 x3
                go_wp2_with fail
                refine JN.out.mono ?_
                rintro e w6 ⟨rfl, Av2, hv2, hm2, ha2⟩
                have OW6 := Lib.hid (own_num OW5.out HV5.out hm2)
                have OS6 := Lib.hid (own_num OS5.out HV5.out hm2)
                have HU6 : Hid (VecB w6 (g2 + 1) g2 (val sm) sm.length A2) := VecB.mod HU5.out hm2 fun i hi hj => SP.out i hj hi
                have BE6 : Hid (Below w.heap.size w w6) := BE5.out.trans ((NumPost.below ⟨rfl, Av2, hv2, hm2, ha2⟩ HV5.out).mono HPI.out.gle)
                have HV6 := Lib.hid hv2
                have r6 := Rd.ofOwn OS6.out
                have e1 : N + q ≤ maxLen := by simp only [maxLen]; omega
                have e2 : (N + q) * 8 ≤ 140737488355328 := by omega
                have e3 : g + 1 ≤ w6.heap.size := HV6.out.foot_lt (.inl rfl)
                clear hv2 hm2 ha2 JN HU5 HV5 OW5 OS5 BE5
                go_wp2_with (first
                  | (at_builtin; go_must (refine wpList_append_rd _ rfl _ _ 26 rfl (g + 1) 3 i0 (.int .i64 0) 8 Try.underlying26 hi0 hz0 hz1 hz2 rfl (.slice A4 N c4) N (I64 (ofN L)) rfl OW6.out w6.heap.size S q cs (I64 (ofN sm)) rfl r6 (I64_one _) e1 e2 e3 ?_)))
                intro A7 c7 w7 hc7 hm7 hown7 hg7 _
                have PS := Lib.hid (PSt.app HV6.out OW6.out HPI.out.bin HSB.out BE6.out HPI.out.gle hown7 hg7 hNL.out HSL.out)
                have LEN : Hid (N + q = (L ++ sm).length) := by show _ = _; rw [List.length_append, ← hNL.out, ← HSL.out]
                have OS7 := own_other OS6.out OW6.out HA4i.out hg7
                have su := sep_ints OW6.out (g := g2) (n := sm.length) (V := val sm) (Av := A2) HU6.out
                have HU7 : VecB w7 (g2 + 1) g2 (val sm) sm.length A2 := VecB.mod HU6.out (Mod.ofGrown hg7) fun i hi hx => by
                  cases A4 with
                  | none => simp [Value.ownBlock] at hx
                  | some a =>
                    have : i = a.block := by simpa [Value.ownBlock] using hx
                    exact su i ⟨a, rfl, this.symm⟩ hi
                have L2 := Lib.hid (like_p g2 sm A2 S _ q cs w7 HU7 HSB.out (Rd.ofOwn OS7))
                clear hown7 hg7 r6 e1 e2 e3 OW6 OS6 hmin OS7 HU7 HU6 su
                go_wp2_with fail
                refine L2.out.mono ?_
                rintro e w8 ⟨rfl, b8⟩
                have PS := Lib.hid (PS.out.below b8)
                clear b8 L2
                have LK := Lib.hid (like_pst PS.out LEN.out)
                
                go_wp2_with fail
                refine LK.out.mono ?_
                rintro e w9 ⟨rfl, hp9⟩
                have HP9 := Lib.hid hp9
                clear hp9
                go_wp2_with fail
                go_roundw
                case rel => exact ⟨k + 1, N + q, L ++ sm, Av2, A7, c7, by omega, by go_num, rfl, by omega, LEN.out, HP9.out⟩
                case measure => simp [intOf]; omega
              · have hr4n : ¬ ((d : Int) % 4 = 0) := by omega
                have JS := Lib.hid (join_self g L Av wi HPI.out.vec HPI.out.bin (by rw [← hNL.out]; omega))
                go_wp2_with fail
                refine JS.out.mono ?_
                rintro e w6 ⟨rfl, Av2, hv2, hm2, ha2⟩
                have OW6 := Lib.hid (own_num OWI.out HPI.out.vec hm2)
                have BE6 : Hid (Below w.heap.size w w6) := HPI.out.bel.trans ((NumPost.below ⟨rfl, Av2, hv2, hm2, ha2⟩ HPI.out.vec).mono HPI.out.gle)
                have HV6 := Lib.hid hv2
                have CL := Lib.hid (cloneI_any A4 N c4 _ (ofN L) w6 (Rd.ofOwn OW6.out) (by omega))
                clear hv2 hm2 ha2 JS x0 x1 x2 x3
                go_wp2_with fail
                refine CL.out.mono ?_
                rintro e w8 ⟨A8, c8, rfl, hc8, hm8, hown8, b8⟩
                rw [ofN_len, ← hNL.out] at hown8 hc8 ⊢
                have r8 := Rd.ofOwn hown8
                have OW8 := Lib.hid (own_below OW6.out b8)
                have BE8 : Hid (Below w.heap.size w w8) := BE6.out.trans (b8.mono BE6.out.size)
                have HV8 := Lib.hid (HV6.out.below b8)
                have e1 : N + N ≤ maxLen := by simp only [maxLen]; omega
                have e2 : (N + N) * 8 ≤ 140737488355328 := by omega
                have e3 : g + 1 ≤ w8.heap.size := HV8.out.foot_lt (.inl rfl)
                clear hown8 hc8 hm8 b8 CL HV6 BE6 OW6
                go_wp2_with (first
                  | (at_builtin; go_must (refine wpList_append_rd _ rfl _ _ 26 rfl (g + 1) 3 i0 (.int .i64 0) 8 Try.underlying26 hi0 hz0 hz1 hz2 rfl (.slice A4 N c4) N (I64 (ofN L)) rfl OW8.out w8.heap.size A8 N c8 (I64 (ofN L)) rfl r8 (I64_one _) e1 e2 e3 ?_)))
                intro A7 c7 w7 hc7 hm7 hown7 hg7 _
                have PS := Lib.hid (PSt.app HV8.out OW8.out HPI.out.bin HPI.out.bin BE8.out HPI.out.gle hown7 hg7 hNL.out hNL.out)
                have LEN : Hid (N + N = (L ++ L).length) := by show _ = _; rw [List.length_append, ← hNL.out]
                have LK := Lib.hid (like_pst PS.out LEN.out)
                clear hown7 hg7 r8 e1 e2 e3 OW8 hmin
                go_wp2_with fail
                refine LK.out.mono ?_
                rintro e w9 ⟨rfl, hp9⟩
                have HP9 := Lib.hid hp9
                clear hp9
                go_wp2_with fail
                go_roundw
                case rel => exact ⟨k + 1, N + N, L ++ L, Av2, A7, c7, by omega, by go_num, rfl, by omega, LEN.out, HP9.out⟩
                case measure => simp [intOf]; omega
    · obtain rfl : k = n := by omega
      have HE := Lib.hid hp.out.bel
      clear hp
      go_wp2_with fail
      go_ret
      exact ⟨rfl, HE.out⟩
end Go.Proofs.Ytladmlhpemhahaa
