/- made: an index of some bits, so many times over. -/
import Derived.Test.YtimhpiancpfdbaaDoorKSel
import Derived.Test.YtimhpiancpfdbaaDoorKNew
import Derived.Test.YtimhpiancpfdbaaDoorBOfG
namespace Go.Proofs.YtimhpiancpfdbaaDoor
open Go.RowKit
set_option linter.unusedVariables false

/-- Rows of ints share no block with a vector. -/
theorem sep_ints {w : World} {base g V n m c : Nat} {Av A : Option Addr} {xs : List Value} (h : w.ownsRow base 3 1 (.slice A m c) m xs) (hv : VecAt w g V n Av) : ∀ i, inBlk A i → ¬ foot g Av i := by
  intro i ⟨a, e, hi⟩ hf
  subst e
  obtain ⟨_, _, cv, hb, ho⟩ := hv
  have hob : (Value.slice (some a) m c).ownBlock = some a.block := rfl
  rcases hf with h1 | ⟨b, h1, h2⟩
  · exact own_ne h hb (by decide) (by rw [hob, hi, h1])
  · subst h1
    rcases ho.2 with ⟨h3, _⟩ | ⟨g2, cap, cur, hv2, _, hg2, _⟩
    · cases h3
    · simp only [Value.slice.injEq, Option.some.injEq, Addr.mk.injEq, and_true, true_and] at hv2
      have hbk : Blk w g2 70 cur := hg2
      exact own_ne h hbk (by decide) (by rw [hob, hi, h2, hv2.1])
/-- What a round of BitsPlays finds and leaves. -/
structure PSt (w0 w : World) (g : Nat) (L : List Nat) (Av A4 : Option Addr) (c4 : Nat) : Prop where
  vec : VecAt w g (val L) L.length Av
  own : w.ownsRow (g + 1) 3 1 (.slice A4 L.length c4) L.length (I64 (ofN L))
  bin : Bin L
  bel : Below w0.heap.size w0 w
  gle : w0.heap.size ≤ g
theorem PSt.below {w0 w w' : World} {g : Nat} {L : List Nat} {Av A4 : Option Addr} {c4 : Nat} (h : PSt w0 w g L Av A4 c4) (m : Below w.heap.size w w') : PSt w0 w' g L Av A4 c4 :=
  ⟨h.vec.below m, own_below h.own m, h.bin, h.bel.trans (m.mono h.bel.size), h.gle⟩
/-- The list has grown by what the vector has grown by. -/
theorem PSt.app {w0 wz w' : World} {g N q cap cap' : Nat} {L e : List Nat} {Av A4 A' : Option Addr} (hv : VecAt wz g (val (L ++ e)) (L ++ e).length Av) (own : wz.ownsRow (g + 1) 3 1 (.slice A4 N cap) N (I64 (ofN L)))
    (hb : Bin L) (he : Bin e) (bel : Below w0.heap.size w0 wz) (gle : w0.heap.size ≤ g) (own' : w'.ownsRow (g + 1) 3 1 (.slice A' (N + q) cap') (N + q) (I64 (ofN L) ++ I64 (ofN e))) (hg : wz.grownBy w' (Value.slice A4 N cap).ownBlock)
    (hN : N = L.length) (hq : q = e.length) : PSt w0 w' g (L ++ e) Av A' cap' := by
  have sp := sep_ints own hv
  refine ⟨VecB.mod hv (Mod.ofGrown hg) fun i hi hx => ?_, ?_, hb.append he, bel.grown hg bel.size fun k hk => ?_, gle⟩
  · cases A4 with
    | none => simp [Value.ownBlock] at hx
    | some a =>
      have : i = a.block := by simpa [Value.ownBlock] using hx
      exact sp i ⟨a, rfl, this.symm⟩ hi
  · rw [List.length_append, ← hN, ← hq, ofN_append, I64_append]
    exact own'
  · have := (own.lt k hk).1
    omega
/-- A vector's turn leaves rows of ints alone. -/
theorem own_num {w w' : World} {base g V n m c : Nat} {Av A : Option Addr} {xs : List Value} (h : w.ownsRow base 3 1 (.slice A m c) m xs) (hv : VecAt w g V n Av) (hm : Mod (foot g Av) w w') : w'.ownsRow base 3 1 (.slice A m c) m xs := by
  have sp := sep_ints h hv
  refine own_mod h hm fun k hk => ?_
  cases A with
  | none => simp [Value.ownBlock] at hk
  | some a => exact sp k ⟨a, rfl, by simpa [Value.ownBlock] using hk⟩
/-- Another row of ints stays, where it was made later. -/
theorem own_other {w w' : World} {base base' m c m' c' : Nat} {A A' : Option Addr} {xs xs' : List Value} (h : w.ownsRow base 3 1 (.slice A m c) m xs) (k : w.ownsRow base' 3 1 (.slice A' m' c') m' xs') (hlt : ∀ i, (Value.slice A' m' c').ownBlock = some i → i < base)
    (hg : w.grownBy w' (Value.slice A' m' c').ownBlock) : w'.ownsRow base 3 1 (.slice A m c) m xs :=
  own_mod h (Mod.ofGrown hg) fun i hi hx => by
    have h1 := (h.lt i hi).1
    have h2 := hlt i hx.symm
    omega
/-- So many times over. -/
def reps (s : List Nat) (k : Nat) : List Nat := (List.replicate k s).flatten
theorem reps_next (s : List Nat) (k : Nat) : reps s (k + 1) = reps s k ++ s := by
  unfold reps
  rw [List.replicate_succ', List.flatten_append]
  simp
theorem reps_bin {s : List Nat} (h : Bin s) (k : Nat) : Bin (reps s k) := fun x hx => by
  unfold reps at hx
  rw [List.mem_flatten] at hx
  obtain ⟨l, hl, h2⟩ := hx
  rw [List.eq_of_mem_replicate hl] at h2
  exact h x h2
theorem reps_len (s : List Nat) (k : Nat) : (reps s k).length = k * s.length := by
  induction k with
  | zero => simp [reps]
  | succ k ih => rw [reps_next, List.length_append, ih, Nat.succ_mul]
/-- What made gives: an index, and the list of its bits in new memory. -/
def MadeX (w : World) (l : List Nat) (e : Ending) (w' : World) : Prop :=
  ∃ g A c, e = .returned (.tuple #[.pointer (some ⟨g, 0, none⟩), .slice A l.length c]) ∧ l.length ≤ c ∧ c ≤ maxLen ∧ IdxAt w' g (val l) l.length false 0 ∧ w'.ownsRow w.heap.size 3 1 (.slice A l.length c) l.length (I64 (ofN l)) ∧ Below w.heap.size w w' ∧ w.heap.size ≤ g
set_option maxRecDepth 20000 in
set_option maxHeartbeats 4000000 in
theorem made_p (A : Option Addr) (n c B m t : Nat) (bs : List Nat) (w : World) (h : Rd w B A n (U8 bs)) (hb : ∀ b ∈ bs, b < 256) (hB : B ≤ w.heap.size) (hn : n ≤ 9223372036854775807) (hm : m < 256) (ht : t < 65536) :
    Calls Tryd.prog 9 #[.slice A n c, .int .u8 (m : Int), .int .u16 (t : Int)] w (MadeX w (reps (few bs m) (t % 40 + 1))) := by
  obtain ⟨i0, hi0, hz0, hz1, hz2⟩ := info_parts info_int
  have FW := Lib.hid (few_p A n c B m bs w h hb hB hn (by omega))
  have HS := Lib.hid (few_bin bs m)
  have hsl : (few bs m).length ≤ 255 := by rw [few_len]; omega
  clear h hb
  generalize few bs m = s at *
  obtain ⟨T, hT⟩ : ∃ T, T = t % 40 := ⟨_, rfl⟩
  have hT9 : T ≤ 39 := by omega
  have hT1 : (t : Int) % 40 = (T : Int) := by omega
  rw [← hT]
  clear hT
  go_enter Tryd.func9, Tryd.ntmps9
  go_wp2_with fail
  refine FW.out.mono ?_
  rintro e w1 ⟨S, cs, rfl, hqc, hcm, own1, b1⟩
  obtain ⟨q, hq⟩ : ∃ q, q = (ofN s).length := ⟨_, rfl⟩
  have hqs : q = s.length := by rw [hq]; simp [ofN]
  rw [← hq] at own1 hqc ⊢
  have NW := Lib.hid (bnew_p w1)
  have hs1 := b1.size
  have R1 := Lib.hid (Rd.ofOwn own1)
  have B1 := Lib.hid b1
  rw [← hqs] at hsl
  have HQ := Lib.hid hqs
  clear own1 b1 hq hqs FW
  go_wp2_with fail
  refine NW.out.mono ?_
  rintro e w2 ⟨rfl, hv2, b2⟩
  have hP : PSt w w2 w1.heap.size [] none none 0 := ⟨by simpa [val] using hv2, World.ownsRow_nil _ _ _ _, Bin.nil, B1.out.trans (b2.mono hs1), hs1⟩
  have HP := Lib.hid hP
  have R2 := Lib.hid (R1.out.below b2)
  have hg2 : w1.heap.size ≤ w2.heap.size := b2.size
  generalize w1.heap.size = g at *
  clear hv2 b2 NW B1 hP R1
  go_wp2_with fail
  clear hT1
  go_loopw [10, 21] (fun v i wr => ∃ (k N : Nat) (Av A4 : Option Addr) (c4 : Nat), k ≤ T + 1 ∧ i = .int .i64 (k : Int) ∧ v = .slice A4 N c4 ∧ N ≤ 10200 ∧ Hid (N = (reps s k).length) ∧ Hid (PSt w wr g (reps s k) Av A4 c4) ∧ Hid (Below g w2 wr)) (fun _ i _ => T + 1 - (intOf i).toNat)
  case atStart => exact ⟨0, 0, none, none, 0, by omega, rfl, rfl, by omega, rfl, HP.out, Below.refl _ _⟩
  case round =>
    obtain ⟨k, N, Av, A4, c4, hk, rfl, rfl, hN, hNL, hp, hbg⟩ := hrel
    by_cases hlt : k < T + 1
    · have rr := R2.out.below hbg.out
      have hgw : g < wr.heap.size := hp.out.vec.foot_lt (.inl rfl)
      have AD := Lib.hid (add_p0 g (reps s k) Av S q cs (ofN s) wr hp.out.vec (rr.up (by omega)) (fun h0 i hi hf => by
        obtain ⟨b, o, e, hb, _⟩ := rr.at_ h0
        obtain ⟨a, ea, ei⟩ := hi
        rw [e] at ea
        obtain rfl := Option.some.inj ea
        have := hp.out.vec.foot_le hf
        have h9 : b = i := ei
        omega) (by rw [← hNL.out]; omega))
      rw [bit1_ofN HS.out] at AD
      have OW : Hid (wr.ownsRow (g + 1) 3 1 (.slice A4 N c4) N (I64 (ofN (reps s k)))) := by
        have := hp.out.own
        rw [← hNL.out] at this
        exact this
      have HR := Lib.hid rr
      clear rr
      go_wp2_with fail
      refine AD.out.mono ?_
      rintro e w3 hp3
      have b3 := hp3.below hp.out.vec
      obtain ⟨rfl, A2, hv3, m3, ha3⟩ := hp3
      have ow3 := own_num OW.out hp.out.vec m3
      have r3 := HR.out.below b3
      have HV3 := Lib.hid hv3
      have BE3 := Lib.hid (hp.out.bel.trans (b3.mono hp.out.gle))
      have BG3 := Lib.hid (hbg.out.trans b3)
      have e1 : N + q ≤ maxLen := by simp only [maxLen]; omega
      have e2 : (N + q) * 8 ≤ 140737488355328 := by omega
      have e3 : g + 1 ≤ w3.heap.size := HV3.out.foot_lt (.inl rfl)
      clear hv3 b3 m3 ha3 AD OW HR
      go_wp2_with (first
        | (at_builtin; go_must (refine wpList_append_rd _ rfl _ _ 26 rfl (g + 1) 3 i0 (.int .i64 0) 8 Tryd.underlying26 hi0 hz0 hz1 hz2 rfl (.slice A4 N c4) N (I64 (ofN (reps s k))) rfl ow3 g S q cs (I64 (ofN s)) rfl r3 (I64_one _) e1 e2 e3 ?_)))
      intro A7 c7 w7 hc7 hm7 hown7 hg7 _
      have b7 := Below.appended ow3 hg7 e3
      have PS := Lib.hid (PSt.app HV3.out ow3 hp.out.bin HS.out BE3.out hp.out.gle hown7 hg7 hNL.out HQ.out)
      rw [← reps_next] at PS
      have LEN : Hid (N + q = (reps s (k + 1)).length) := by show _ = _; rw [reps_next, List.length_append, ← hNL.out, ← HQ.out]
      have BG7 := Lib.hid (BG3.out.trans (b7.mono (by omega)))
      have hNq : N + q ≤ 10200 := by
        have h1 := LEN.out
        have h2 := HQ.out
        rw [reps_len, ← h2] at h1
        have : (k + 1) * q ≤ 40 * 255 := Nat.mul_le_mul (by omega) hsl
        omega
      clear hown7 hg7 r3 ow3 e1 e2 e3 b7 BG3
      go_wp2
      go_roundw
      case rel => exact ⟨k + 1, N + q, A2, A7, c7, by omega, by go_num, rfl, hNq, LEN.out, PS.out, BG7.out⟩
      case measure => simp [intOf]; omega
    · obtain rfl : k = T + 1 := by omega
      have XN := Lib.hid (xnew_p g _ _ _ Av wr hp.out.vec)
      go_wp2_with fail
      refine XN.out.mono ?_
      rintro e w4 ⟨x, rfl, hx, hgx, b4⟩
      have hid4 := hx
      have BX := Lib.hid b4
      have hv4 := hp.out.vec.below b4
      have hn1 : N + 1 + 64 ≤ 1000000 := by omega
      have wr4 : wr.heap.size ≤ w4.heap.size := b4.size
      have hv5 := hv4.below ((Below.refl w4.heap.size w4).alloc (Nat.le_refl _) (.cells #[.int .i64 1] 3))
      have r5 := (Rd.new w4 3 #[.int .i64 1] 1 (I64 [1]) (by simp [I64]) (by simp))
      have AD := Lib.hid (add_p0 g (reps s (T + 1)) Av (some ⟨w4.heap.size, 0, none⟩) 1 1 [1] (w4.alloc (.cells #[.int .i64 1] 3)) hv5 (r5.up (by simp)) (fun _ i hi hf => by
        obtain ⟨a, ea, ei⟩ := hi
        obtain rfl := Option.some.inj ea
        have h1 := hv4.foot_lt hf
        have h2 : w4.heap.size = i := ei
        omega) (by rw [← hNL.out]; exact hn1))
      have OW : Hid ((w4.alloc (.cells #[.int .i64 1] 3)).ownsRow (g + 1) 3 1 (.slice A4 N c4) N (I64 (ofN (reps s (T + 1))))) := by
        have := own_below hp.out.own (b4.alloc wr4 (.cells #[.int .i64 1] 3))
        rw [← hNL.out] at this
        exact this
      have FIN : Hid (∀ w6, Mod (foot g Av) (w4.alloc (.cells #[.int .i64 1] 3)) w6 → Below g (w4.alloc (.cells #[.int .i64 1] 3)) w6 → MadeX w (reps s (T + 1)) (.returned (.tuple #[.pointer (some ⟨x, 0, none⟩), .slice A4 N c4])) w6) := fun w6 m6 b6 => by
        have o6 := own_num OW.out hv5 m6
        obtain ⟨A9, c9, e9, h9, h10⟩ := own_form o6
        cases e9
        have hN2 := hNL.out
        rw [hN2] at o6 h9 ⊢
        refine ⟨x, A4, c4, rfl, h9, h10, (hid4.below ((Below.refl w4.heap.size w4).alloc (Nat.le_refl _) _)).mod m6 fun i hi => ?_, o6.base_le' (by have := hs1; omega), ?_, ?_⟩
        · have := hp.out.vec.foot_lt hi; omega
        · exact (hp.out.bel.trans ((b4.alloc wr4 _).mono (by have := hp.out.bel.size; omega))).trans (b6.mono hs1)
        · have := hp.out.bel.size; omega
      have HV5 := Lib.hid hv5
      clear hid4 hx b4 hv4 hv5 r5 OW XN hgx
      go_wp2_with fail
      refine AD.out.mono ?_
      rintro e w6 hp6
      have b6 := hp6.below HV5.out
      obtain ⟨rfl, A6, _, m6, _⟩ := hp6
      have FF := Lib.hid (FIN.out w6 m6 b6)
      clear b6 m6
      go_wp2_with fail
      go_ret2
      exact FF.out
end Go.Proofs.YtimhpiancpfdbaaDoor
