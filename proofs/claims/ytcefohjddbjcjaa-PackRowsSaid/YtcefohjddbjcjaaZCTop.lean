/- Encode and Decode. -/
import Derived.Test.YtcefohjddbjcjaaZCDec
import Derived.Test.YtcefohjddbjcjaaZBSame
namespace Go.Proofs.Ytcefohjddbjcjaa
set_option maxRecDepth 20000
open Go.RowKit
set_option linter.unusedVariables false

theorem encode_v (k g : Nat) (l : List Nat) (B : Nat) (A : Option Addr) (w : World) (h : VecB w B g (val l) l.length A) (hb : BinB l) (hk : k ≤ 8) (hl : l.length ≤ 29000) :
    Calls Try.prog 42 #[.pointer (some ⟨g, 0, none⟩), .int .i64 (k : Int)] w fun e w' => ∃ g A, e = .returned (.pointer (some ⟨g, 0, none⟩)) ∧ VecAt w' g (val (codeOf k l)) (codeOf k l).length A ∧ Below w.heap.size w w' ∧ w.heap.size ≤ g := by
  refine encode_p k _ l w hb hk hl (fun W m => blen_p g _ _ A W (VecB.below h m)) fun i hi W m => ?_
  have h1 := at_p g _ _ i B A W (VecB.below h m) hi
  rwa [val_bit (show Bin l from hb)] at h1
theorem encode_n (k : Nat) (w : World) (hk : k ≤ 8) :
    Calls Try.prog 42 #[.pointer none, .int .i64 (k : Int)] w fun e w' => ∃ g A, e = .returned (.pointer (some ⟨g, 0, none⟩)) ∧ VecAt w' g (val (codeOf k [])) (codeOf k []).length A ∧ Below w.heap.size w w' ∧ w.heap.size ≤ g :=
  encode_p k _ [] w (fun _ h => by cases h) hk (by decide) (fun W m => blen_nil W) (fun i hi => absurd hi (by simp))
/-- Encode of bits, of an order that there is. -/
theorem Encode_p (k g : Nat) (l : List Nat) (B : Nat) (A : Option Addr) (w : World) (h : VecB w B g (val l) l.length A) (hb : BinB l) (hk : k ≤ 8) (hl : l.length ≤ 29000) :
    Calls Try.prog 35 #[.pointer (some ⟨g, 0, none⟩), .int .i64 (k : Int)] w fun e w' => ∃ g A, e = .returned (.tuple #[.pointer (some ⟨g, 0, none⟩), .int .i64 0]) ∧ VecAt w' g (val (codeOf k l)) (codeOf k l).length A ∧ Below w.heap.size w w' ∧ w.heap.size ≤ g := by
  have EV := Lib.hid (encode_v k g l B A w h hb hk hl)
  have IO := Lib.hid (fun W => isOrder_yes k W hk)
  clear h hb hk hl
  go_enter Try.func35, Try.ntmps35
  go_wp2_with fail
  refine (IO.out _).mono ?_
  rintro e w1 ⟨rfl, rfl⟩
  go_wp2_with fail
  refine EV.out.mono ?_
  rintro e w1 ⟨g', A', rfl, h1, b1, l1⟩
  have H1 := Lib.hid h1
  have B1 := Lib.hid b1
  clear h1 b1 EV
  go_wp2_with fail
  go_ret2
  exact ⟨g', A', rfl, H1.out, B1.out, l1⟩
theorem Encode_bad (k : Int) (pv : Option Addr) (w : World) (h : k < 0 ∨ 8 < k) :
    Calls Try.prog 35 #[.pointer pv, .int .i64 k] w fun e w' => e = .returned (.tuple #[.pointer none, .int .i64 15]) ∧ w = w' := by
  have IO := Lib.hid (fun W => isOrder_no k W h)
  clear h
  go_enter Try.func35, Try.ntmps35
  go_wp2_with fail
  refine (IO.out _).mono ?_
  rintro e w1 ⟨rfl, rfl⟩
  go_wp2_with fail
  go_ret2
  exact ⟨rfl, rfl⟩
theorem Decode_bad (k n : Int) (pv : Option Addr) (w : World) (h : k < 0 ∨ 8 < k) :
    Calls Try.prog 39 #[.pointer pv, .int .i64 n, .int .i64 k] w fun e w' => e = .returned (.tuple #[.pointer none, .int .i64 15]) ∧ w = w' := by
  have IO := Lib.hid (fun W => isOrder_no k W h)
  clear h
  go_enter Try.func39, Try.ntmps39
  go_wp2_with fail
  refine (IO.out _).mono ?_
  rintro e w1 ⟨rfl, rfl⟩
  go_wp2_with fail
  go_ret2
  exact ⟨rfl, rfl⟩
theorem Decode_range (k : Nat) (n : Int) (pv : Option Addr) (w : World) (hk : k ≤ 8) (h : n < 0 ∨ 16777216 < n) :
    Calls Try.prog 39 #[.pointer pv, .int .i64 n, .int .i64 (k : Int)] w fun e w' => e = .returned (.tuple #[.pointer none, .int .i64 1]) ∧ w = w' := by
  have IO := Lib.hid (fun W => isOrder_yes k W hk)
  rcases h with h | h
  · go_enter Try.func39, Try.ntmps39
    go_wp2_with fail
    refine (IO.out _).mono ?_
    rintro e w1 ⟨rfl, rfl⟩
    go_wp2_with fail
    go_ret2
    exact ⟨rfl, rfl⟩
  · have h0 : 0 ≤ n := by omega
    go_enter Try.func39, Try.ntmps39
    go_wp2_with fail
    refine (IO.out _).mono ?_
    rintro e w1 ⟨rfl, rfl⟩
    go_wp2_with fail
    go_ret2
    exact ⟨rfl, rfl⟩
/-- Just one list of bits has a code of so many. -/
theorem code_take {k : Nat} {C u l : List Nat} (h : Dec C k u) (hl : BinB l) (hc : codeOf k l = C) (hlen : u.length ≤ l.length) : u = l.take u.length :=
  h.same (hc ▸ Dec.of k l hl) hlen
/-- What Decode comes to. -/
def DecTop (w : World) (C : List Nat) (n k : Nat) (e : Ending) (w' : World) : Prop :=
  ((∃ u gw A, u.length = n ∧ codeOf k u = C ∧ BinB u ∧ e = .returned (.tuple #[.pointer (some ⟨gw, 0, none⟩), .int .i64 0]) ∧ VecAt w' gw (val u) u.length A ∧ w.heap.size ≤ gw) ∨
    ((∀ l, BinB l → l.length = n → codeOf k l ≠ C) ∧ e = .returned (.tuple #[.pointer none, .int .i64 10]))) ∧ Below w.heap.size w w'
set_option maxHeartbeats 1000000 in
theorem Decode_p (k g n : Nat) (C : List Nat) (B : Nat) (A : Option Addr) (w : World) (h : VecB w B g (val C) C.length A) (hC : BinB C) (hk : k ≤ 8) (hn : n ≤ 29000) :
    Calls Try.prog 39 #[.pointer (some ⟨g, 0, none⟩), .int .i64 (n : Int), .int .i64 (k : Int)] w (DecTop w C n k) := by
  have IO := Lib.hid (fun W => isOrder_yes k W hk)
  have DP := Lib.hid (decode_p k g n C w hC (CodeV.of w B g C A h hC) hk hn)
  have H := Lib.hid h
  have HC := Lib.hid hC
  clear h hC
  have hn2 : ¬ 16777216 < (n : Int) := by omega
  go_enter Try.func39, Try.ntmps39
  go_wp2_with fail
  refine (IO.out _).mono ?_
  rintro e w1 ⟨rfl, rfl⟩
  go_wp2_with fail
  refine DP.out.mono ?_
  rintro e w2 ⟨hor, b2⟩
  have B2 := Lib.hid b2
  clear DP b2
  rcases hor with ⟨u, gw, A2, hu, hd, hb, _, rfl, hv, hg⟩ | ⟨u, hu, hd, hb, hlt, rfl⟩
  · have EV := Lib.hid (encode_v k gw u (gw + 1) A2 w2 hv hb hk (by omega))
    have HV := Lib.hid hv
    have HU := Lib.hid hu
    have HD := Lib.hid hd
    have HB := Lib.hid hb
    clear hv hu hd hb hn
    go_wp2_with fail
    refine EV.out.mono ?_
    rintro e w3 ⟨g3, A3, rfl, hv3, b3, l3⟩
    have B3 := Lib.hid (B2.out.trans (b3.mono B2.out.size))
    have SM := Lib.hid (same_vv g3 g _ _ _ _ _ _ _ _ w3 hv3 (VecB.below H.out B3.out))
    have HV3 := Lib.hid (VecB.below HV.out b3)
    clear hv3 b3 HV EV
    by_cases hc : codeOf k u = C
    · have hdc : decide ((codeOf k u).length = C.length ∧ val (codeOf k u) = val C) = true := by rw [hc]; simp
      rw [hdc] at SM
      have HCC := Lib.hid hc
      clear hdc hc
      go_wp2_with fail
      refine SM.out.mono ?_
      rintro e w4 ⟨rfl, j, rfl⟩
      go_wp2_with fail
      go_ret2
      exact ⟨.inl ⟨u, gw, A2, HU.out, HCC.out, HB.out, rfl, VecB.below HV3.out (below_draws (Below.refl _ _) j), hg⟩, below_draws B3.out j⟩
    · have hdc : decide ((codeOf k u).length = C.length ∧ val (codeOf k u) = val C) = false := by
        rw [decide_eq_false_iff_not]
        rintro ⟨h1, h2⟩
        exact hc (val_inj (show Bin _ from code_bin k u) (show Bin C from HC.out) h1 h2)
      rw [hdc] at SM
      have HCC := Lib.hid hc
      clear hdc hc
      go_wp2_with fail
      refine SM.out.mono ?_
      rintro e w4 ⟨rfl, j, rfl⟩
      go_wp2_with fail
      go_ret2
      refine ⟨.inr ⟨fun l hl hln hlc => HCC.out ?_, rfl⟩, below_draws B3.out j⟩
      have := code_take HD.out hl hlc (by rw [HU.out, hln]; exact Nat.le_refl _)
      rw [HU.out, ← hln, List.take_length] at this
      rw [this]; exact hlc
  · have HU := Lib.hid hu
    have HD := Lib.hid hd
    have HL := Lib.hid hlt
    clear hu hd hb hlt hn
    go_wp2_with fail
    go_ret2
    refine ⟨.inr ⟨fun l hl hln hlc => ?_, rfl⟩, B2.out⟩
    have h1 := code_take HD.out hl hlc (by rw [hln]; exact HU.out)
    have h2 := est_ways_take k l u.length
    rw [← h1] at h2
    have h3 := code_len k l
    rw [hlc] at h3
    have := HL.out
    omega
end Go.Proofs.Ytcefohjddbjcjaa
