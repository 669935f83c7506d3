/- Does a permutation take mates to mates: the program. Encode: the program. Decode: the program. -/
import Derived.Test.YtfolefadjdcehaaZLMath
import Derived.Test.YtfolefadjdcehaaZPMake
import Derived.Test.YtfolefadjdcehaaZLWid
import Derived.Test.YtfolefadjdcehaaZg3
namespace Go.Proofs.Ytfolefadjdcehaa
set_option maxRecDepth 20000
open Go.RowKit
set_option linter.unusedVariables false
set_option maxHeartbeats 1000000 in
theorem keeps_p (g : Nat) (l b : List Nat) (w : World) (h : PermAt w g l b) (hl : l.length ≤ 1000) :
    Calls Try.prog 43 #[.pointer (some ⟨g, 0, none⟩)] w fun e w' => (e = .returned (.bool true) ∧ Kp l ∨ e = .returned (.bool false) ∧ ¬ Kp l) ∧ w = w' := by
  have LP := Lib.hid (len_p g l b w h)
  have AT := Lib.hid (fun (i : Nat) (hi : i < l.length) => at_in g l b i w h hi)
  have HLT : Hid (∀ i, i < l.length → l.getD i 0 < l.length) := h.1.lt
  obtain ⟨n, hn⟩ : ∃ n, n = l.length := ⟨_, rfl⟩
  have HN := Lib.hid hn
  rw [← hn] at LP hl
  clear h hn
  go_enter Try.func43, Try.ntmps43
  go_wp2_with fail
  refine LP.out.mono ?_
  rintro e w1 ⟨rfl, rfl⟩
  by_cases ho : n % 2 = 0
  · have ho2 : (n : Int) % 2 = 0 := by omega
    have ho3 : (n : Int).tmod 2 = 0 := by rw [Int.tmod_eq_emod_of_nonneg (by omega)]; omega
    go_wp2_with fail
    go_loopw [3] (fun d wr => ∃ i q : Nat, i ≤ n ∧ Hid (i = 2 * q) ∧ d = .int .i64 (i : Int) ∧ wr = w ∧ Hid (∀ e, e < q → l.getD (2 * e + 1) 0 = mateN (l.getD (2 * e) 0))) (fun d _ => n - (intOf d).toNat)
    case atStart => exact ⟨0, 0, by omega, rfl, rfl, rfl, fun e he => absurd he (by omega)⟩
    case round =>
      obtain ⟨i, q, hi, hq, rfl, rfl, hk⟩ := hrel
      go_wp2_with fail
      refine LP.out.mono ?_
      rintro e w1 ⟨rfl, rfl⟩
      by_cases hlt : i < n
      · have hq0 := hq.out
        have A0 := Lib.hid (AT.out i (by have := HN.out; omega))
        have A1 := Lib.hid (AT.out (i + 1) (by have := HN.out; omega))
        have hx := HLT.out i (by have := HN.out; omega)
        rw [← HN.out] at hx
        have HX : Hid (l.getD (2 * q) 0 = l.getD i 0) := by show _ = _; rw [hq0]
        have HY : Hid (l.getD (2 * q + 1) 0 = l.getD (i + 1) 0) := by show _ = _; rw [hq0]
        have hcx : ((i + 1 : Nat) : Int) = (i : Int) + 1 := by omega
        rw [hcx] at A1
        generalize l.getD i 0 = x at *
        generalize l.getD (i + 1) 0 = y at *
        have hxm := xor_one_i64 x (by omega)
        clear hq0 hcx
        go_wp2_with fail
        refine A0.out.mono ?_
        rintro e w1 ⟨rfl, rfl⟩
        go_wp2_with fail
        refine A1.out.mono ?_
        rintro e w1 ⟨rfl, rfl⟩
        by_cases hc : y = mateN x
        · have hb : (((mateN x : Nat) : Int) != (y : Int)) = false := by rw [hc]; simp
          have NX : Hid (∀ e, e < q + 1 → l.getD (2 * e + 1) 0 = mateN (l.getD (2 * e) 0)) := fun e he => by
            by_cases eq : e = q
            · subst eq; rw [HX.out, HY.out]; exact hc
            · exact hk.out e (by omega)
          clear hc
          generalize mateN x = mx at *
          go_wp2_with fail
          go_roundw
          case rel => exact ⟨i + 2, q + 1, by have := hq.out; omega, by show _ = _; have := hq.out; omega, by go_num, by first | rfl | trivial, NX.out⟩
          case measure => simp [intOf]; omega
        · have hb : (((mateN x : Nat) : Int) != (y : Int)) = true := by rw [bne_iff_ne]; omega
          have NO : Hid (¬ Kp l) := fun K => hc (by
            have := K.2 q (by have := HN.out; have := hq.out; omega)
            rw [HX.out, HY.out] at this
            exact this)
          clear hc
          generalize mateN x = mx at *
          go_wp2_with fail
          go_ret
          exact ⟨.inr ⟨rfl, NO.out⟩, rfl⟩
      · have YES : Hid (Kp l) := ⟨by rw [← HN.out]; exact ho, fun e he => hk.out e (by have := HN.out; have := hq.out; omega)⟩
        go_wp2_with fail
        go_ret
        exact ⟨.inl ⟨rfl, YES.out⟩, rfl⟩
  · have ho2 : (n : Int) % 2 = 1 := by omega
    have ho3 : (n : Int).tmod 2 = 1 := by rw [Int.tmod_eq_emod_of_nonneg (by omega)]; omega
    have NO : Hid (¬ Kp l) := fun K => ho (by rw [HN.out]; exact K.1)
    go_wp2_with fail
    go_ret
    exact ⟨.inr ⟨rfl, NO.out⟩, rfl⟩
end Go.Proofs.Ytfolefadjdcehaa
namespace Go.Proofs.Ytfolefadjdcehaa
set_option maxRecDepth 20000
open Go.RowKit
set_option linter.unusedVariables false
theorem lencode_nil (w : World) :
    Calls Try.prog 12 #[.pointer none] w fun e w' => e = .returned (.tuple #[.pointer none, .int .i64 2]) ∧ w = w' := by
  go_enter Try.func12, Try.ntmps12
  go_wp2_with fail
  go_ret2
  exact ⟨rfl, rfl⟩
theorem lencode_no (g : Nat) (l b : List Nat) (w : World) (h : PermAt w g l b) (hl : l.length ≤ 1000) (hk : ¬ Kp l) :
    Calls Try.prog 12 #[.pointer (some ⟨g, 0, none⟩)] w fun e w' => e = .returned (.tuple #[.pointer none, .int .i64 4]) ∧ w = w' := by
  have KP := Lib.hid ((keeps_p g l b w h hl).mono fun e w' (hh : (e = .returned (.bool true) ∧ Kp l ∨ e = .returned (.bool false) ∧ ¬ Kp l) ∧ w = w') => (show e = .returned (.bool false) ∧ w = w' from by
    rcases hh.1 with c | c
    · exact absurd c.2 hk
    · exact ⟨c.1, hh.2⟩))
  clear h hk
  go_enter Try.func12, Try.ntmps12
  go_wp2_with fail
  refine KP.out.mono ?_
  rintro e w1 ⟨rfl, rfl⟩
  go_wp2_with fail
  go_ret2
  exact ⟨rfl, rfl⟩
theorem cnt_lw {m : Nat} (h : m ≤ 65536) : cnt64 (lw m : Int) = lw m := cnt64_nat (by have := lw_16 h; omega)
/-- Encode of names: their bits. -/
def LEncPost (w : World) (l : List Nat) (e : Ending) (w' : World) : Prop :=
  ∃ g A, e = .returned (.tuple #[.pointer (some ⟨g, 0, none⟩), .int .i64 0]) ∧ VecAt w' g (val (lbl (lw (l.length / 2)) l (l.length / 2))) (lsz (l.length / 2)) A ∧ w.heap.size ≤ g ∧ Below w.heap.size w w'
set_option maxHeartbeats 2000000 in
theorem lencode_p (g : Nat) (l b : List Nat) (w : World) (h : PermAt w g l b) (hl : l.length ≤ 1000) (hk : Kp l) :
    Calls Try.prog 12 #[.pointer (some ⟨g, 0, none⟩)] w (LEncPost w l) := by
  have KP := Lib.hid ((keeps_p g l b w h hl).mono fun e w' (hh : (e = .returned (.bool true) ∧ Kp l ∨ e = .returned (.bool false) ∧ ¬ Kp l) ∧ w = w') => (show e = .returned (.bool true) ∧ w = w' from by
    rcases hh.1 with c | c
    · exact ⟨c.1, hh.2⟩
    · exact absurd hk c.2))
  have H := Lib.hid h
  obtain ⟨n, hn⟩ : ∃ n, n = l.length := ⟨_, rfl⟩
  obtain ⟨m, hm⟩ : ∃ m, m = l.length / 2 := ⟨_, rfl⟩
  have hnm : n = 2 * m := by have := hk.1; omega
  have HN := Lib.hid hn
  have HM := Lib.hid hm
  have HLT : Hid (∀ i, i < l.length → l.getD i 0 < l.length) := h.1.lt
  have WP := Lib.hid (fun W => width_p (m : Int) W (by omega))
  rw [Int.toNat_natCast] at WP
  have h16 := lw_16 (m := m) (by omega)
  have CL := Lib.hid (cnt_lw (m := m) (by omega))
  have HS : Hid (lsz m = m * (lw m + 1)) := rfl
  have BN := Lib.hid bnew_p
  unfold LEncPost
  rw [← hm]
  rw [← hn] at hl
  generalize lw m = k at *
  generalize lsz m = s at *
  have hnd : (n : Int) / 2 = (m : Int) := by omega
  have hnd2 : (n : Int).tdiv 2 = (m : Int) := by rw [Int.tdiv_eq_ediv_of_nonneg (by omega)]; omega
  clear h hk hn hm
  go_enter Try.func12, Try.ntmps12
  go_wp2_with fail
  refine KP.out.mono ?_
  rintro e w1 ⟨rfl, rfl⟩
  go_wp2_with fail
  refine (BN.out _).mono ?_
  rintro e w1 ⟨rfl, hv, b1⟩
  have LP := Lib.hid (len_p g l b w1 (H.out.below b1))
  rw [← HN.out] at LP
  have H1 := Lib.hid (H.out.below b1)
  have HV := Lib.hid hv
  have B1 := Lib.hid b1
  clear hv b1 BN KP
  go_wp2_with fail
  refine LP.out.mono ?_
  rintro e w2 ⟨rfl, rfl⟩
  go_wp2_with fail
  refine (WP.out _).mono ?_
  rintro e w2 ⟨rfl, rfl⟩
  go_wp2_with fail
  go_loopw [21] (fun i wr => ∃ (q : Nat) (A : Option Addr), q ≤ m ∧ i = .int .i64 (q : Int) ∧ Hid (VecAt wr w.heap.size (val (lbl k l q)) (q * (k + 1)) A) ∧ Hid (Below w.heap.size w wr)) (fun i _ => m - (intOf i).toNat)
  case atStart => exact ⟨0, none, by omega, rfl, by show VecAt _ _ _ _ _; simpa [lbl, val] using HV.out, B1.out⟩
  case round =>
    obtain ⟨q, A, hq, rfl, hvq, hbq⟩ := hrel
    clear HV H1 LP B1
    by_cases hlt : q < m
    · have AT := Lib.hid (at_in g l b (2 * q) wr (H.out.below hbq.out) (by have := HN.out; omega))
      have hx := HLT.out (2 * q) (by have := HN.out; omega)
      rw [← HN.out] at hx
      have NXT : Hid (lbl k l (q + 1) = lbl k l q ++ (numL (l.getD (2 * q) 0 / 2) k ++ [l.getD (2 * q) 0 % 2])) := rfl
      have hlen := lbl_len k l q
      have hqk : q * (k + 1) ≤ 500 * 17 := Nat.mul_le_mul (by omega) (by omega)
      obtain ⟨L, hL⟩ : ∃ L, L = lbl k l q := ⟨_, rfl⟩
      have HLL : Hid (L.length = q * (k + 1)) := by show _ = _; rw [hL]; exact hlen
      rw [← hL] at hvq NXT
      generalize l.getD (2 * q) 0 = x at *
      have hc2 : ((2 * q : Nat) : Int) = 2 * (q : Int) := by omega
      rw [hc2] at AT
      obtain ⟨y, hy⟩ : ∃ y, y = x / 2 := ⟨_, rfl⟩
      obtain ⟨z, hz⟩ : ∃ z, z = x % 2 := ⟨_, rfl⟩
      rw [← hy, ← hz] at NXT
      have hxy : (x : Int) / 2 = (y : Int) := by omega
      have hxy2 : (x : Int).tdiv 2 = (y : Int) := by rw [Int.tdiv_eq_ediv_of_nonneg (by omega)]; omega
      have hxz : (x : Int) % 2 = (z : Int) := by omega
      have hxz2 : (x : Int).tmod 2 = (z : Int) := by rw [Int.tmod_eq_emod_of_nonneg (by omega)]; omega
      have hyb : y ≤ 1000 := by omega
      have hzb : z < 2 := by omega
      have hbz : Hid (bit1 (z : Int) = z) := by show _ = _; unfold bit1; rcases (by omega : z = 0 ∨ z = 1) with rfl | rfl <;> rfl
      clear hy hz hc2 hL hlen
      go_wp2_with fail
      refine AT.out.mono ?_
      rintro e w2 ⟨rfl, rfl⟩
      have NM := Lib.hid (num_p w.heap.size (val L) (q * (k + 1)) y (k : Int) A wr hvq.out (by omega) (by omega) (by omega))
      rw [CL.out] at NM
      have PN := put_numL L y k
      rw [HLL.out] at PN
      rw [PN] at NM
      clear PN
      go_wp2_with fail
      refine NM.out.mono ?_
      rintro e w2 hp
      have bp := hp.below hvq.out
      obtain ⟨rfl, A2, hv2, _, _⟩ := hp
      have hlen2 : (L ++ numL y k).length = q * (k + 1) + k := by rw [List.length_append, HLL.out, numL_len]
      rw [← hlen2] at hv2
      have hbn := (Below.refl w2.heap.size w2).alloc (Nat.le_refl _) (.cells #[.int .i64 (z : Int)] 3)
      have AD := Lib.hid (add_p w.heap.size (L ++ numL y k) A2 (some ⟨w2.heap.size, 0, none⟩) 1 1 [(z : Int)] _ (VecB.below hv2 hbn) ((Rd.new w2 3 #[.int .i64 (z : Int)] 1 (I64 [(z : Int)]) (by simp [I64]) (by simp)).up (by simp)) (fun i hi hf => by
        obtain ⟨a, e, rfl⟩ := hi
        cases e
        exact absurd (VecB.foot_lt hv2 hf) (Nat.lt_irrefl _)) (by rw [hlen2]; omega))
      have HV2 := Lib.hid (VecB.below hv2 hbn)
      have hb2 := Below.trans hbq.out (bp.mono (Nat.le_refl _))
      have HB2 := Lib.hid (hb2.alloc hb2.size (.cells #[.int .i64 (z : Int)] 3))
      have HL2 := Lib.hid hlen2
      clear hv2 hbn NM bp hvq hbq hlen2 AT hb2
      go_wp2_with fail
      refine AD.out.mono ?_
      rintro e w3 hp
      have bp := hp.below HV2.out
      obtain ⟨rfl, A3, hv3, _, _⟩ := hp
      have HV3 : Hid (VecAt w3 w.heap.size (val (lbl k l (q + 1))) ((q + 1) * (k + 1)) A3) := by
        have e1 : (L ++ numL y k) ++ [(z : Int)].map bit1 = lbl k l (q + 1) := by rw [NXT.out]; simp only [List.map_cons, List.map_nil, hbz.out, List.append_assoc]
        have e2 : (lbl k l (q + 1)).length = (q + 1) * (k + 1) := lbl_len k l (q + 1)
        rw [e1, e2] at hv3
        exact hv3
      have HB3 := Lib.hid (HB2.out.trans bp)
      clear hv3 bp AD HV2 HB2
      go_wp2_with fail
      go_roundw
      case rel => exact ⟨q + 1, A3, by omega, by go_num, HV3, HB3⟩
      case measure => simp [intOf]; omega
    · obtain rfl : q = m := by omega
      have HV4 : Hid (VecAt wr w.heap.size (val (lbl k l q)) s A) := by show VecAt _ _ _ _ _; rw [HS.out]; exact hvq.out
      go_wp2_with fail
      go_ret2
      exact ⟨w.heap.size, A, rfl, HV4.out, Nat.le_refl _, hbq.out⟩
end Go.Proofs.Ytfolefadjdcehaa
namespace Go.Proofs.Ytfolefadjdcehaa
set_option maxRecDepth 20000
open Go.RowKit
set_option linter.unusedVariables false
theorem ldec_range (v : Option Addr) (m : Int) (w : World) (h : m < 0 ∨ 65536 < m) :
    Calls Try.prog 18 #[.pointer v, .int .i64 m] w fun e w' => e = .returned (.tuple #[.pointer none, .int .i64 1]) ∧ w = w' := by
  rcases h with h | h
  · go_enter Try.func18, Try.ntmps18
    go_wp2_with fail
    go_ret2
    exact ⟨rfl, rfl⟩
  · have h0 : ¬ m < 0 := by omega
    go_enter Try.func18, Try.ntmps18
    go_wp2_with fail
    go_ret2
    exact ⟨rfl, rfl⟩
theorem ldec_len (g V n B m : Nat) (A : Option Addr) (w : World) (h : VecB w B g V n A) (hm : m ≤ 65536) (hn : n ≠ lsz m) :
    Calls Try.prog 18 #[.pointer (some ⟨g, 0, none⟩), .int .i64 (m : Int)] w fun e w' => e = .returned (.tuple #[.pointer none, .int .i64 1]) ∧ w = w' := by
  have LP := Lib.hid (blen_p g V n A w h)
  have SZ := Lib.hid (size_in m w hm)
  have hb : ((n : Int) != (lsz m : Int)) = true := by rw [bne_iff_ne]; omega
  have h1 : ¬ (65536 : Int) < (m : Int) := by omega
  generalize lsz m = s at *
  clear h hn
  go_enter Try.func18, Try.ntmps18
  go_wp2_with fail
  refine LP.out.mono ?_
  rintro e w1 ⟨rfl, rfl⟩
  go_wp2_with fail
  refine SZ.out.mono ?_
  rintro e w1 ⟨rfl, rfl⟩
  go_wp2_with fail
  go_ret2
  exact ⟨rfl, rfl⟩
theorem run_make_ints (k : Nat) (hk : k ≤ 1000000) (w : World) :
    (Instr.makeSlice 25 (.int .i64 0) (.int .i64 (k : Int))).run Try.prog w = .ok (.slice (some ⟨w.heap.size, 0, none⟩) 0 k) (w.alloc (.cells (List.replicate k (.int .i64 0)).toArray 3)) := by
  obtain ⟨i0, hi0, hz0, hz1, hz2⟩ := info_parts info_int
  have hr := run_make (P := Try.prog) w 25 3 i0 (.int .i64 0) Try.underlying25 hi0 hz0 .i64 .i64 0 (k : Int) (by omega) (by omega) (by rw [hz2]; omega) (by omega)
  simp only [Int.toNat_natCast, hz1, Nat.mul_one, show (Value.int .i64 0).cells = #[.int .i64 0] from rfl] at hr
  have hz : madeCells #[Value.int .i64 0] k = (List.replicate k (Value.int .i64 0)).toArray := Array.toList_inj.1 (by rw [toList_madeCells_one])
  rw [hz] at hr
  exact hr
set_option maxHeartbeats 2000000 in
theorem ldec_p (g V B m : Nat) (A : Option Addr) (w : World) (h : VecB w B g V (lsz m) A) (hm : m ≤ 500) :
    Calls Try.prog 18 #[.pointer (some ⟨g, 0, none⟩), .int .i64 (m : Int)] w (OfPost w (ofN (decL (lw m) V m))) := by
  obtain ⟨i0, hi0, hz0, hz1, hz2⟩ := info_parts info_int
  have LP := Lib.hid (blen_p g V _ A w h)
  have SZ := Lib.hid (size_in m w (by omega))
  have WP := Lib.hid (fun W => width_p (m : Int) W (by omega))
  rw [Int.toNat_natCast] at WP
  have RD := Lib.hid (read_p g V _ B A w h)
  have h16 := lw_16 (m := m) (by omega)
  have CL := Lib.hid (cnt_lw (m := m) (by omega))
  have HS : Hid (lsz m = m * (lw m + 1)) := rfl
  have h1 : ¬ (65536 : Int) < (m : Int) := by omega
  clear h
  generalize lw m = k at *
  generalize lsz m = s at *
  obtain ⟨mm, hmm⟩ : ∃ mm, mm = 2 * m := ⟨_, rfl⟩
  have hmi : 2 * (m : Int) = (mm : Int) := by omega
  have HMM := Lib.hid hmm
  have hmb : mm ≤ 1000 := by omega
  clear hmm
  go_enter Try.func18, Try.ntmps18
  go_wp2_with fail
  refine LP.out.mono ?_
  rintro e w1 ⟨rfl, rfl⟩
  go_wp2_with fail
  refine SZ.out.mono ?_
  rintro e w1 ⟨rfl, rfl⟩
  go_wp2_with fail
  refine (WP.out _).mono ?_
  rintro e w1 ⟨rfl, rfl⟩
  go_wp2_with fail
  refine RD.out.mono ?_
  rintro e w1 ⟨r, rfl, hr, b1⟩
  obtain ⟨g1, A1, hg1⟩ := hr.toG
  have hrl : r < w1.heap.size := hg1.2.2.2.2.2.2.lt
  have hfl : Hid (∀ i, foot g1 A1 i → i < w1.heap.size) := fun i hi => hg1.2.2.2.2.2.1.foot_lt hi
  have hmk := run_make_ints mm (by omega) w1
  have hown := World.ownsRow_made (base := w1.heap.size) (e := 3) (size := 1) w1 (Array.replicate mm (Value.int .i64 0)) mm (Nat.le_refl _) (by simp only [maxLen]; omega) (by simp)
  have bb := (Below.refl w1.heap.size w1).alloc (Nat.le_refl _) (.cells (Array.replicate mm (Value.int .i64 0)) 3)
  have HG := Lib.hid (hg1.below bb)
  have HO := Lib.hid hown
  have B1 := Lib.hid (b1.trans (bb.mono b1.size))
  have hbase : Hid (w1.heap.size ≤ (w1.alloc (.cells (Array.replicate mm (Value.int .i64 0)) 3)).heap.size) := by show _ ≤ _; simp
  have hws : Hid (w.heap.size ≤ w1.heap.size) := b1.size
  clear hr hg1 hown bb b1 RD LP SZ
  go_wp2_with fail
  generalize (w1.alloc (.cells (Array.replicate mm (Value.int .i64 0)) 3)) = w2 at *
  generalize hbs : w1.heap.size = base at *
  go_loopw [8, 35] (fun l i wr => ∃ (q p cv : Nat) (Av : Option Addr), q ≤ m ∧ i = .int .i64 (q : Int) ∧ l = .slice Av p cv ∧ p ≤ 1000 ∧ Hid (p = 2 * q) ∧ Hid (wr.ownsRow base 3 1 (.slice Av p cv) p (I64 (ofN (decL k V q)))) ∧ Hid (ReadG wr w.heap.size r V s (q * (k + 1)) g1 A1) ∧ Hid (Below w.heap.size w wr) ∧ base ≤ wr.heap.size) (fun _ i _ => m - (intOf i).toNat)
  case atStart => exact ⟨0, 0, mm, _, by omega, rfl, rfl, by omega, rfl, HO.out, by show ReadG _ _ _ _ _ _ _ _; rw [Nat.zero_mul]; exact HG.out, B1.out, hbase.out⟩
  case round =>
    obtain ⟨q, p, cv, Av, hq, rfl, rfl, hp, hpq, ho, hg, hb, hbw⟩ := hrel
    clear HO HG B1 hbase hmk
    by_cases hlt : q < m
    · have hqs : q * (k + 1) + (k + 1) ≤ s := by
        rw [HS.out, ← Nat.succ_mul]
        exact Nat.mul_le_mul_right _ hlt
      have R1 := Lib.hid (rnum_g w.heap.size r V s (q * (k + 1)) g1 A1 (k : Int) wr hg.out (by omega) (by rw [CL.out]; omega))
      rw [CL.out] at R1
      have hxb : V / 2 ^ (q * (k + 1)) % 2 ^ k < 2 ^ k := Nat.mod_lt _ (Nat.two_pow_pos k)
      have hkk : 2 ^ k ≤ 2 ^ 16 := Nat.pow_le_pow_right (by decide) h16
      have hx65 : V / 2 ^ (q * (k + 1)) % 2 ^ k < 65536 := by omega
      have HDE : Hid (de k V q = 2 * (V / 2 ^ (q * (k + 1)) % 2 ^ k) + V / 2 ^ (q * (k + 1) + k) % 2) := rfl
      have NXT : Hid (decL k V (q + 1) = decL k V q ++ [de k V q, mateN (de k V q)]) := rfl
      have HST : Hid (q * (k + 1) + k + 1 = (q + 1) * (k + 1)) := by show _ = _; rw [Nat.succ_mul]; omega
      generalize V / 2 ^ (q * (k + 1)) % 2 ^ k = x at *
      obtain ⟨t, ht⟩ : ∃ t, t = q * (k + 1) + k := ⟨_, rfl⟩
      rw [← ht] at R1 HDE HST
      have hts : t + 1 ≤ s := by omega
      clear hxb hkk hqs ht
      go_wp2_with fail
      refine R1.out.mono ?_
      rintro e w3 ⟨rfl, hg3, m3⟩
      have HG3 := Lib.hid hg3
      have M3 := Lib.hid m3
      have R2 := Lib.hid (rnum_g w.heap.size r V s t g1 A1 (1 : Int) w3 hg3 (by omega) (by show 1 ≤ _; omega))
      have c1 : cnt64 1 = 1 := by decide
      rw [c1, Nat.pow_one] at R2
      have hyb : V / 2 ^ t % 2 < 2 := Nat.mod_lt _ (by decide)
      generalize V / 2 ^ t % 2 = y at *
      clear hg3 m3 c1 R1
      go_wp2_with fail
      refine R2.out.mono ?_
      rintro e w4 ⟨rfl, hg4, m4⟩
      have M4 : Hid (Mod (fun i => i = r) wr w4) := M3.out.trans m4 (fun i _ h => h)
      have hrB : w.heap.size ≤ r := hg4.2.1
      rw [HST.out] at hg4
      have HG4 := Lib.hid hg4
      have hb4 := Lib.hid (hb.out.trans (M4.out.belowB hb.out.size (fun i hi e => by omega)))
      have ho4 := own_mod ho.out M4.out (fun i hi e => by have := (ho.out.lt i hi).1; omega)
      have hbw4 : base ≤ w4.heap.size := Nat.le_trans hbw M4.out.size
      obtain ⟨d, hd⟩ : ∃ d, d = 2 * x + y := ⟨_, rfl⟩
      have hde : Hid (de k V q = d) := by show _ = _; rw [HDE.out, hd]
      rw [hde.out] at NXT
      have hdb : d < 131072 := by omega
      have hxm := xor_one_i64 d (by omega)
      have hdi : 2 * (x : Int) + (y : Int) = (d : Int) := by omega
      have hmb2 : mateN d < 131072 := by rw [mateN_eq]; split <;> omega
      clear hd hg4 m4 R2 HG3 M3 hx65 hyb hg hb ho
      generalize mateN d = dm at *
      have hownA := ho4.alloc (.cells #[.int .i64 (d : Int), .int .i64 (dm : Int)] 3)
      have r3 := Rd.new w4 3 #[.int .i64 (d : Int), .int .i64 (dm : Int)] 2 (I64 [(d : Int), (dm : Int)]) (by simp [I64]) (by simp)
      have t1 : p + 2 ≤ maxLen := by simp only [maxLen]; omega
      have t2 : (p + 2) * 8 ≤ 140737488355328 := by omega
      have t3 : base ≤ (w4.alloc (.cells #[.int .i64 (d : Int), .int .i64 (dm : Int)] 3)).heap.size := by simp; omega
      go_wp2_with (first
        | (at_builtin; go_must (refine wpList_append_rd _ rfl _ _ 25 rfl base 3 i0 (.int .i64 0) 8 Try.underlying25 hi0 hz0 hz1 hz2 rfl (.slice Av p cv) p (I64 (ofN (decL k V q))) rfl hownA (w4.heap.size + 1) (some ⟨w4.heap.size, 0, none⟩) 2 2 (I64 [(d : Int), (dm : Int)]) rfl r3 (I64_one _) t1 t2 t3 ?_)))
      intro A6 c6 w6 hc6 hm6 hown6 hg6 _
      have hbA : Below base w4 w6 := ((Below.refl base w4).alloc hbw4 _).trans (Below.appended hownA hg6 t3)
      have hb6 : Hid (Below w.heap.size w w6) := hb4.out.trans (hbA.mono hws.out)
      have hR : I64 (ofN (decL k V q)) ++ I64 [(d : Int), (dm : Int)] = I64 (ofN (decL k V (q + 1))) := by rw [NXT.out, ofN_append, I64_append]; rfl
      rw [hR] at hown6
      have HG6 : Hid (ReadG w6 w.heap.size r V s ((q + 1) * (k + 1)) g1 A1) := HG4.out.mod (Mod.ofBelow hbA) (by omega) (fun i hi => by have := hfl.out i hi; omega)
      have hs6 : base ≤ w6.heap.size := Nat.le_trans hbw4 hbA.size
      have HO6 := Lib.hid hown6
      clear hR hownA r3 hg6 hown6 HG4 hb4 hbA ho4 M4
      go_wp2_with fail
      go_roundw
      case rel => exact ⟨q + 1, p + 2, c6, A6, by omega, by go_num, rfl, by have := hpq.out; omega, by show _ = _; have := hpq.out; omega, HO6.out, HG6.out, hb6.out, hs6⟩
      case measure => simp [intOf]; omega
    · obtain rfl : q = m := by omega
      have hl2 := decL_len k V q
      have hpl : p = (ofN (decL k V q)).length := by rw [ofN_len, hl2]; exact hpq.out
      have OF := Lib.hid (of_p Av p cv wr.heap.size (ofN (decL k V q)) wr (Rd.ofOwn ho.out) (by omega))
      clear hl2 hpl ho hg
      go_wp2_with fail
      refine OF.out.mono ?_
      rintro e w3 ⟨hor, b3⟩
      have B3 := Lib.hid (hb.out.trans (b3.mono hb.out.size))
      rcases hor with ⟨gp, l, b, hz, rfl, hpa, hlo⟩ | ⟨hno, rfl⟩
      · have HZ := Lib.hid hz
        have HPA := Lib.hid hpa
        have HLO := Lib.hid hlo
        have hbs := hb.out.size
        clear hz hpa hlo b3 OF
        go_wp2_with fail
        go_ret2
        refine ⟨.inl ⟨gp, l, b, HZ.out, rfl, HPA.out, ?_⟩, B3.out⟩
        obtain ⟨A, n, c, A', n', c', h0, h1, h2, h3⟩ := HLO.out
        exact ⟨A, n, c, A', n', c', h0, by omega, fun a e => by have := h2 a e; omega, fun a e => by have := h3 a e; omega⟩
      · have HNO := Lib.hid hno
        clear hno b3 OF
        go_wp2_with fail
        go_ret2
        exact ⟨.inr ⟨HNO.out, rfl⟩, B3.out⟩
end Go.Proofs.Ytfolefadjdcehaa
