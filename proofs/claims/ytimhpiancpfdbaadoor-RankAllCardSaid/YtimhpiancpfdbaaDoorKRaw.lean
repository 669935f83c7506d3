/- RankRaw: whatever is asked. -/
import Derived.Test.YtimhpiancpfdbaaDoorKRef
import Derived.Test.YtimhpiancpfdbaaDoorKLaid
namespace Go.Proofs.YtimhpiancpfdbaaDoor
open Go.RowKit
set_option linter.unusedVariables false
theorem wf_u16 {x : Int} (h : (Lit.int .u16 x).wf = true) : ∃ n : Nat, x = (n : Int) ∧ n < 65536 := by
  have : 0 ≤ x ∧ x ≤ 65535 := by simpa [Lit.wf, IntKind.min, IntKind.max, IntKind.signed, IntKind.bits] using h
  exact ⟨x.toNat, by omega, by omega⟩
theorem own_idx {w w' : World} {base g V n q m c : Nat} {d : Bool} {A : Option Addr} {xs : List Value} (h : w.ownsRow base 3 1 (.slice A m c) m xs) (hx : IdxAt w g V n d q) (m1 : Mod (fun i => i = g) w w') : w'.ownsRow base 3 1 (.slice A m c) m xs :=
  own_mod h m1 fun k hk e => by
    subst e
    obtain ⟨_, _, A', c', H, hb, _⟩ := hx
    exact own_ne h hb (by decide) hk
/-- What stands behind made and two questions. -/
structure Asks (w0 w : World) (g q m c : Nat) (l : List Nat) (d : Bool) (A : Option Addr) : Prop where
  idx : IdxAt w g (val l) m d q
  own : w.ownsRow w0.heap.size 3 1 (.slice A m c) m (I64 (ofN l))
  bel : Below w0.heap.size w0 w
  gle : w0.heap.size ≤ g
  bin : Bin l
  len : l.length = m
  mc : m ≤ c
  cm : c ≤ maxLen
  m9 : m ≤ 10200
theorem Asks.ask {w0 w w' : World} {g q q' m c : Nat} {l : List Nat} {d d' : Bool} {A : Option Addr} (h : Asks w0 w g q m c l d A) (hx : IdxAt w' g (val l) m d' q') (m1 : Mod (fun i => i = g) w w') : Asks w0 w' g q' m c l d' A :=
  ⟨hx, own_idx h.own h.idx m1, h.bel.trans (m1.belowB h.bel.size fun i hi e => by have := h.gle; omega), h.gle, h.bin, h.len, h.mc, h.cm, h.m9⟩
theorem Asks.tab {w0 w : World} {g q m c : Nat} {l : List Nat} {d : Bool} {A : Option Addr} (h : Asks w0 w g q m c l d A) (hT : Tab w0) : Tab w := hT.below hT.lt h.bel
theorem asks_of_made {w0 w w' : World} {t : Nat} {bs : List Nat} {m : Nat} {e : Ending} (h : MadeX w (reps (few bs m) (t % 40 + 1)) e w') (hm : m < 256) (hb : Below w0.heap.size w0 w) :
    ∃ g A n c l, e = .returned (.tuple #[.pointer (some ⟨g, 0, none⟩), .slice A n c]) ∧ Asks w0 w' g 0 n c l false A ∧ l = reps (few bs m) (t % 40 + 1) := by
  obtain ⟨g, A, c, he, h1, h2, h3, h4, h5, h6⟩ := h
  refine ⟨g, A, _, c, _, he, ⟨h3, h4.base_le' hb.size, hb.trans (h5.mono hb.size), Nat.le_trans hb.size h6, reps_bin (few_bin _ _) _, rfl, h1, h2, ?_⟩, rfl⟩
  rw [reps_len, few_len]
  have h9 : t % 40 + 1 ≤ 40 := by omega
  calc (t % 40 + 1) * min m (8 * bs.length) ≤ 40 * 255 := Nat.mul_le_mul h9 (by omega)
    _ = 10200 := by decide
set_option maxRecDepth 20000 in
set_option maxHeartbeats 8000000 in
theorem raw_bad (A0 : Option Addr) (n0 c0 m : Nat) (bs : List Nat) (bit i : Int) (w : World) (hT : Tab w)
    (h0 : Rd w w.heap.size A0 n0 (U8 bs)) (hbs : ∀ b ∈ bs, b < 256) (hn0 : n0 ≤ c0) (hc0 : c0 ≤ maxLen) (hm : m < 256) (hi64 : -9223372036854775808 ≤ i ∧ i ≤ 9223372036854775807) (hb : ¬ (bit = 0 ∨ bit = 1)) :
    Calls Tryd.prog 4 #[.slice A0 n0 c0, .int .u8 (m : Int), .int .i64 bit, .int .i64 i] w fun e w' => e = .returned (.bool true) ∧ Below w.heap.size w w' := by
  unfold maxLen at hc0
  have AW := Lib.hid (kawake_p w hT hT.lt)
  have HT := Lib.hid hT
  have H0 := Lib.hid h0
  have HBS := Lib.hid hbs
  clear hT h0 hbs
  go_enter Tryd.func4, Tryd.ntmps4
  go_wp2_with fail
  refine AW.out.mono ?_
  rintro e w1 ⟨rfl, b1⟩
  have MD := Lib.hid (made_p A0 n0 c0 w.heap.size m 0 bs w1 (H0.out.below b1) HBS.out b1.size (by omega) hm (by omega))
  have B1 := Lib.hid b1
  clear b1 AW
  go_wp2_with fail
  refine MD.out.mono ?_
  rintro e w2 hmd
  obtain ⟨g, A, n, c, l, rfl, ha, hl⟩ := asks_of_made hmd hm B1.out
  have HA := Lib.hid ha
  have hn9 := ha.m9
  have hmc := ha.mc
  clear hmd ha MD B1
  have HB := Lib.hid hb
  clear hb
  have RK := Lib.hid (rank_no g (val l) n 0 false bit i w2 HA.out.idx (by omega) (.inl HB.out))
  go_wp2_with fail
  refine RK.out.mono ?_
  rintro e w3 ⟨rfl, h3, m3⟩
  have HA3 := Lib.hid (HA.out.ask h3 m3)
  clear h3 m3 RK
  have SL := Lib.hid (sel_no g (val l) n 1 _ bit i w3 HA3.out.idx (by omega) (.inl HB.out))
  go_wp2_with fail
  refine SL.out.mono ?_
  rintro e w4 ⟨rfl, h4, m4⟩
  have HA4 := Lib.hid (HA3.out.ask h4 m4)
  clear h4 m4 SL HA HA3
  have RR := Lib.hid (rr_no A n c bit i w4 (by omega) (.inl HB.out))
  have RS := Lib.hid (rs_bad A n c _ i bit l w4 (Rd.ofOwn HA4.out.own) HA4.out.bin (by omega) HB.out)
  have AS := Lib.hid (xasked_p g (val l) n 2 _ w4 HA4.out.idx)
  go_wp2_with fail
  refine RR.out.mono ?_
  rintro e w' ⟨rfl, rfl⟩
  go_wp2_with fail
  refine RS.out.mono ?_
  rintro e w' ⟨rfl, rfl⟩
  go_wp2_with (go_at_call 16; refine AS.out.mono ?_; rintro e w' ⟨rfl, rfl⟩)
  go_ret
  exact ⟨rfl, HA4.out.bel⟩
set_option maxRecDepth 20000 in
set_option maxHeartbeats 8000000 in
theorem raw_neg (A0 : Option Addr) (n0 c0 m : Nat) (bs : List Nat) (bit i : Int) (w : World) (hT : Tab w)
    (h0 : Rd w w.heap.size A0 n0 (U8 bs)) (hbs : ∀ b ∈ bs, b < 256) (hn0 : n0 ≤ c0) (hc0 : c0 ≤ maxLen) (hm : m < 256) (hi64 : -9223372036854775808 ≤ i ∧ i ≤ 9223372036854775807) (hb : bit = 0 ∨ bit = 1) (hi : i < 0) :
    Calls Tryd.prog 4 #[.slice A0 n0 c0, .int .u8 (m : Int), .int .i64 bit, .int .i64 i] w fun e w' => e = .returned (.bool true) ∧ Below w.heap.size w w' := by
  unfold maxLen at hc0
  have AW := Lib.hid (kawake_p w hT hT.lt)
  have HT := Lib.hid hT
  have H0 := Lib.hid h0
  have HBS := Lib.hid hbs
  clear hT h0 hbs
  go_enter Tryd.func4, Tryd.ntmps4
  go_wp2_with fail
  refine AW.out.mono ?_
  rintro e w1 ⟨rfl, b1⟩
  have MD := Lib.hid (made_p A0 n0 c0 w.heap.size m 0 bs w1 (H0.out.below b1) HBS.out b1.size (by omega) hm (by omega))
  have B1 := Lib.hid b1
  clear b1 AW
  go_wp2_with fail
  refine MD.out.mono ?_
  rintro e w2 hmd
  obtain ⟨g, A, n, c, l, rfl, ha, hl⟩ := asks_of_made hmd hm B1.out
  have HA := Lib.hid ha
  have hn9 := ha.m9
  have hmc := ha.mc
  clear hmd ha MD B1
  have HB := Lib.hid hb
  clear hb
  have RK := Lib.hid (rank_no g (val l) n 0 false bit i w2 HA.out.idx (by omega) (.inr (.inl hi)))
  go_wp2_with fail
  refine RK.out.mono ?_
  rintro e w3 ⟨rfl, h3, m3⟩
  have HA3 := Lib.hid (HA.out.ask h3 m3)
  clear h3 m3 RK
  have SL := Lib.hid (sel_no g (val l) n 1 _ bit i w3 HA3.out.idx (by omega) (.inr (.inl hi)))
  go_wp2_with fail
  refine SL.out.mono ?_
  rintro e w4 ⟨rfl, h4, m4⟩
  have HA4 := Lib.hid (HA3.out.ask h4 m4)
  clear h4 m4 SL HA HA3
  have RR := Lib.hid (rr_no A n c bit i w4 (by omega) (.inr (.inl hi)))
  have RS := Lib.hid (rs_neg A n c _ i bit l w4 (Rd.ofOwn HA4.out.own) (by omega) HB.out hi64)
  have AS := Lib.hid (xasked_p g (val l) n 2 _ w4 HA4.out.idx)
  go_wp2_with fail
  refine RR.out.mono ?_
  rintro e w' ⟨rfl, rfl⟩
  go_wp2_with fail
  refine RS.out.mono ?_
  rintro e w' ⟨rfl, x, y, rfl, bb, rfl⟩
  have hd : decide ((0 : Int) ≤ i) = false := decide_eq_false (by omega)
  cases bb
  · go_wp2_with (go_at_call 16; refine AS.out.mono ?_; rintro e w' ⟨rfl, rfl⟩)
    go_ret
    exact ⟨rfl, HA4.out.bel⟩
  · go_wp2_with (go_at_call 16; refine AS.out.mono ?_; rintro e w' ⟨rfl, rfl⟩)
    go_ret
    exact ⟨rfl, HA4.out.bel⟩
set_option maxRecDepth 20000 in
set_option maxHeartbeats 8000000 in
theorem raw_out (A0 : Option Addr) (n0 c0 m : Nat) (bs : List Nat) (bit i : Int) (w : World) (hT : Tab w)
    (h0 : Rd w w.heap.size A0 n0 (U8 bs)) (hbs : ∀ b ∈ bs, b < 256) (hn0 : n0 ≤ c0) (hc0 : c0 ≤ maxLen) (hm : m < 256) (hi64 : -9223372036854775808 ≤ i ∧ i ≤ 9223372036854775807) (hb : bit = 0 ∨ bit = 1) (hi : 0 ≤ i) :
    Calls Tryd.prog 4 #[.slice A0 n0 c0, .int .u8 (m : Int), .int .i64 bit, .int .i64 i] w fun e w' => e = .returned (.bool true) ∧ Below w.heap.size w w' := by
  unfold maxLen at hc0
  have AW := Lib.hid (kawake_p w hT hT.lt)
  have HT := Lib.hid hT
  have H0 := Lib.hid h0
  have HBS := Lib.hid hbs
  clear hT h0 hbs
  go_enter Tryd.func4, Tryd.ntmps4
  go_wp2_with fail
  refine AW.out.mono ?_
  rintro e w1 ⟨rfl, b1⟩
  have MD := Lib.hid (made_p A0 n0 c0 w.heap.size m 0 bs w1 (H0.out.below b1) HBS.out b1.size (by omega) hm (by omega))
  have B1 := Lib.hid b1
  clear b1 AW
  go_wp2_with fail
  refine MD.out.mono ?_
  rintro e w2 hmd
  obtain ⟨g, A, n, c, l, rfl, ha, hl⟩ := asks_of_made hmd hm B1.out
  have HA := Lib.hid ha
  have hn9 := ha.m9
  have hmc := ha.mc
  clear hmd ha MD B1
  have HB := Lib.hid hb
  clear hb
  obtain ⟨k, rfl⟩ : ∃ k : Nat, i = (k : Int) := ⟨i.toNat, by omega⟩
  have hcl := cb_le bit (val l) n
  have RSP := Lib.hid (fun w' h' => rs_p A n c w'.heap.size k bit l w' h' HA.out.bin (by omega) HB.out (by omega))
  by_cases hkn : k ≤ n
  · have RK := Lib.hid (rank_yes g (val l) n 0 k false bit w2 HA.out.idx (by omega) HB.out hkn)
    by_cases hks : k < cb bit (val l) n
    · have HKS := Lib.hid hks
      have hck := cb_le bit (val l) k
      clear hks hcl
      go_wp2_with fail
      refine RK.out.mono ?_
      rintro e w3 ⟨rfl, h3, m3⟩
      have HA3 := Lib.hid (HA.out.ask h3 m3)
      clear h3 m3 RK
      have SL := Lib.hid (sel_yes g (val l) n 1 k true bit w3 HA3.out.idx (HA3.out.tab HT.out) (by omega) HB.out HKS.out (by have := HA3.out.gle; have := HT.out.lt; omega))
      go_wp2_with fail
      refine SL.out.mono ?_
      rintro e w4 ⟨p, rfl, hpn, hpI, hpk, h4, m4⟩
      have HA4 := Lib.hid (HA3.out.ask h4 m4)
      clear h4 m4 SL HA HA3
      have HP := Lib.hid (And.intro hpI hpk)
      clear hpI hpk
      have RR := Lib.hid (rr_yes A n c _ k bit l w4 (Rd.ofOwn HA4.out.own) HA4.out.len HA4.out.bin (own_addr HA4.out.own) hmc HA4.out.cm (by omega) HB.out hkn)
      have RS := Lib.hid (RSP.out w4 (Rd.ofOwn HA4.out.own))
      have AS := Lib.hid (xasked_p g (val l) n 2 _ w4 HA4.out.idx)
      go_wp2_with fail
      refine RR.out.mono ?_
      rintro e w' ⟨rfl, rfl⟩
      go_wp2_with fail
      refine RS.out.mono ?_
      rintro e w' ⟨rfl, ⟨p2, hp2, rfl, hI2, hk2⟩ | ⟨rfl, hno⟩⟩
      · obtain rfl : p2 = p := cb_unique hI2 HP.out.1 (by rw [hk2, HP.out.2])
        clear hI2 hk2 hp2
        go_wp2_with (go_at_call 16; refine AS.out.mono ?_; rintro e w' ⟨rfl, rfl⟩)
        go_ret
        exact ⟨rfl, HA4.out.bel⟩
      · exact absurd HKS.out (by omega)
    · have HKS : Hid (cb bit (val l) n ≤ k) := Nat.le_of_not_lt hks
      have hck := cb_le bit (val l) k
      clear hks hcl
      go_wp2_with fail
      refine RK.out.mono ?_
      rintro e w3 ⟨rfl, h3, m3⟩
      have HA3 := Lib.hid (HA.out.ask h3 m3)
      clear h3 m3 RK
      have SL := Lib.hid (sel_no g (val l) n 1 true bit k w3 HA3.out.idx (by omega) (.inr (.inr (by have := HKS.out; omega))))
      go_wp2_with fail
      refine SL.out.mono ?_
      rintro e w4 ⟨rfl, h4, m4⟩
      have HA4 := Lib.hid (HA3.out.ask h4 m4)
      clear h4 m4 SL HA HA3
      have RR := Lib.hid (rr_yes A n c _ k bit l w4 (Rd.ofOwn HA4.out.own) HA4.out.len HA4.out.bin (own_addr HA4.out.own) hmc HA4.out.cm (by omega) HB.out hkn)
      have RS := Lib.hid (RSP.out w4 (Rd.ofOwn HA4.out.own))
      have AS := Lib.hid (xasked_p g (val l) n 2 _ w4 HA4.out.idx)
      go_wp2_with fail
      refine RR.out.mono ?_
      rintro e w' ⟨rfl, rfl⟩
      go_wp2_with fail
      refine RS.out.mono ?_
      rintro e w' ⟨rfl, ⟨p2, hp2, rfl, hI2, hk2⟩ | ⟨rfl, hno⟩⟩
      · exfalso
        have h1 := cb_mono bit (val l) (show p2 + 1 ≤ n by omega)
        rw [cb_next hI2, hk2] at h1
        have := HKS.out
        omega
      · clear hno
        go_wp2_with (go_at_call 16; refine AS.out.mono ?_; rintro e w' ⟨rfl, rfl⟩)
        go_ret
        exact ⟨rfl, HA4.out.bel⟩
  · have RK := Lib.hid (rank_no g (val l) n 0 false bit k w2 HA.out.idx (by omega) (.inr (.inr (by omega))))
    go_wp2_with fail
    refine RK.out.mono ?_
    rintro e w3 ⟨rfl, h3, m3⟩
    have HA3 := Lib.hid (HA.out.ask h3 m3)
    clear h3 m3 RK
    have SL := Lib.hid (sel_no g (val l) n 1 _ bit k w3 HA3.out.idx (by omega) (.inr (.inr (by omega))))
    go_wp2_with fail
    refine SL.out.mono ?_
    rintro e w4 ⟨rfl, h4, m4⟩
    have HA4 := Lib.hid (HA3.out.ask h4 m4)
    clear h4 m4 SL HA HA3
    have RR := Lib.hid (rr_no A n c bit k w4 (by omega) (.inr (.inr (by omega))))
    have RS := Lib.hid (RSP.out w4 (Rd.ofOwn HA4.out.own))
    have AS := Lib.hid (xasked_p g (val l) n 2 _ w4 HA4.out.idx)
    go_wp2_with fail
    refine RR.out.mono ?_
    rintro e w' ⟨rfl, rfl⟩
    go_wp2_with fail
    refine RS.out.mono ?_
    rintro e w' ⟨rfl, ⟨p2, hp2, rfl, hI2, hk2⟩ | ⟨rfl, hno⟩⟩
    · exfalso
      have h1 := cb_mono bit (val l) (show p2 + 1 ≤ n by omega)
      rw [cb_next hI2, hk2] at h1
      omega
    · clear hno
      go_wp2_with (go_at_call 16; refine AS.out.mono ?_; rintro e w' ⟨rfl, rfl⟩)
      go_ret
      exact ⟨rfl, HA4.out.bel⟩
theorem rankRaw_walk (A0 : Option Addr) (n0 c0 m : Nat) (bs : List Nat) (bit i : Int) (w : World) (hT : Tab w)
    (h0 : Rd w w.heap.size A0 n0 (U8 bs)) (hbs : ∀ b ∈ bs, b < 256) (hn0 : n0 ≤ c0) (hc0 : c0 ≤ maxLen) (hm : m < 256) (hi64 : -9223372036854775808 ≤ i ∧ i ≤ 9223372036854775807) :
    Calls Tryd.prog 4 #[.slice A0 n0 c0, .int .u8 (m : Int), .int .i64 bit, .int .i64 i] w fun e w' => e = .returned (.bool true) ∧ Below w.heap.size w w' := by
  by_cases hb : bit = 0 ∨ bit = 1
  · by_cases hi : i < 0
    · exact raw_neg A0 n0 c0 m bs bit i w hT h0 hbs hn0 hc0 hm hi64 hb hi
    · exact raw_out A0 n0 c0 m bs bit i w hT h0 hbs hn0 hc0 hm hi64 hb (by omega)
  · exact raw_bad A0 n0 c0 m bs bit i w hT h0 hbs hn0 hc0 hm hi64 hb
end Go.Proofs.YtimhpiancpfdbaaDoor
