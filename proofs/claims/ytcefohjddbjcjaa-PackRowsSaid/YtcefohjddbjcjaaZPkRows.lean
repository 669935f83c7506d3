/- PackRows: packs one behind the other are read one by one. -/
import Derived.Test.YtcefohjddbjcjaaZPkStrict
namespace Go.Proofs.Ytcefohjddbjcjaa
set_option maxRecDepth 100000
open Go.RowKit
set_option linter.unusedVariables false
def Rows8 (w : World) (a : Option Addr) (len : Nat) : Prop := ∃ (A : Nat → Option Addr) (L C : Nat → Nat) (Z : Nat → List Nat), (0 < len → ∃ b o, a = some ⟨b, o, none⟩ ∧ b < w.heap.size ∧ ∀ r, r < len → w.cell? ⟨b, o + r, none⟩ = some (.slice (A r) (L r) (C r))) ∧
  ∀ r, r < len → L r ≤ C r ∧ C r ≤ maxLen ∧ Rd w w.heap.size (A r) (L r) (U8 (Z r)) ∧ ∀ b ∈ Z r, b < 256
/-- The rows of bytes as the frame of a law tells of them. -/
theorem rows_u8 {w : World} {a : Option Addr} {len cap : Nat}
    (h : (a = none ∧ len = 0 ∧ cap = 0) ∨
      ∃ (x : Addr) (RA : Nat → Option Addr) (RL RC : Nat → Nat) (RZ : Nat → List Int), a = some x ∧ len ≤ cap ∧ cap ≤ maxLen ∧ ∀ r, r < cap → w.cell? (x.add r) = some (.slice (RA r) (RL r) (RC r)) ∧ RL r ≤ RC r ∧ RC r ≤ maxLen ∧ (RZ r).length = RC r ∧
        (∀ n ∈ RZ r, (Lit.int .u8 n).wf = true) ∧ (RA r = none → RC r = 0) ∧ ∀ a', RA r = some a' → ∀ c, c < RC r → w.cell? (a'.add c) = some (.int .u8 ((RZ r).getD c 0))) :
    len ≤ cap ∧ cap ≤ maxLen ∧ Rows8 w a len := by
  rcases h with ⟨rfl, rfl, rfl⟩ | ⟨x, RA, RL, RC, RZ, rfl, hl, hm, hrow⟩
  · exact ⟨Nat.le_refl _, Nat.zero_le _, fun _ => none, fun _ => 0, fun _ => 0, fun _ => [], fun h => absurd h (by omega), fun r hr => absurd hr (by omega)⟩
  · refine ⟨hl, hm, RA, RL, RC, fun r => ((RZ r).take (RL r)).map Int.toNat, fun h0 => ?_, fun r hr => ?_⟩
    · obtain ⟨b, o, sp⟩ := x
      obtain rfl : sp = none := by simpa [Addr.add] using World.cell?_spot (hrow 0 (by omega)).1
      refine ⟨b, o, rfl, World.block_lt_of_cell? _ _ (hrow 0 (by omega)).1, fun r hr => ?_⟩
      have e : (⟨b, o, none⟩ : Addr).add r = ⟨b, o + r, none⟩ := by unfold Addr.add; split <;> simp_all
      rw [← e]
      exact (hrow r (by omega)).1
    · obtain ⟨_, r2, r3, r4, r5, r6, r7⟩ := hrow r (by omega)
      have hb : ∀ n ∈ RZ r, 0 ≤ n ∧ n < 256 := fun n hn => by
        have := r5 n hn
        simp [Lit.wf, IntKind.min, IntKind.max, IntKind.bits, IntKind.signed] at this
        omega
      refine ⟨r2, r3, ⟨by simp [U8]; omega, fun h0 => ?_⟩, fun b hb' => ?_⟩
      · cases hA : RA r with
        | none => have := r6 hA; omega
        | some a' =>
          have hc := r7 a' hA
          obtain ⟨b, o, sp⟩ := a'
          obtain rfl : sp = none := by simpa [Addr.add] using World.cell?_spot (hc 0 (by omega))
          refine ⟨b, o, rfl, World.block_lt_of_cell? _ _ (hc 0 (by omega)), fun j hj => ?_⟩
          have hj' : j < RL r := by simp [U8] at hj; omega
          have := hc j (by omega)
          rw [U8_get]
          have e : (⟨b, o, none⟩ : Addr).add j = ⟨b, o + j, none⟩ := by unfold Addr.add; split <;> simp_all
          rw [e] at this
          rw [this]
          have hjz : j < (RZ r).length := by omega
          have := hb (RZ r)[j] (List.getElem_mem _)
          simp [List.getD_eq_getElem?_getD, List.getElem?_eq_getElem hjz]
          omega
      · simp only [List.mem_map] at hb'
        obtain ⟨n, hn, rfl⟩ := hb'
        have := hb n (List.mem_of_mem_take hn)
        omega

def catF (f : Nat → List Nat) : Nat → List Nat
  | 0 => []
  | k + 1 => catF f k ++ f k
def sufF (f : Nat → List Nat) : Nat → Nat → List Nat
  | k, 0 => []
  | k, j + 1 => f k ++ sufF f (k + 1) j
theorem cat_suf (f : Nat → List Nat) : ∀ j k, catF f k ++ sufF f k j = catF f (k + j)
  | 0, k => by simp [sufF]
  | j + 1, k => by
    have := cat_suf f j (k + 1)
    rw [sufF, ← List.append_assoc]
    rw [show k + (j + 1) = k + 1 + j by omega, ← this, catF]
theorem suf_all (f : Nat → List Nat) (m : Nat) : sufF f 0 m = catF f m := by
  have := cat_suf f m 0
  rwa [catF, List.nil_append, Nat.zero_add] at this
theorem catF_len (f : Nat → List Nat) (c : Nat) (h : ∀ r, (f r).length ≤ c) : ∀ k, (catF f k).length ≤ k * c
  | 0 => by simp [catF]
  | k + 1 => by
    have := catF_len f c h k
    have := h k
    rw [catF, List.length_append, Nat.succ_mul]; omega
theorem sufF_len (f : Nat → List Nat) (c : Nat) (h : ∀ r, (f r).length ≤ c) : ∀ j k, (sufF f k j).length ≤ j * c
  | 0, k => by simp [sufF]
  | j + 1, k => by
    have := sufF_len f c h j (k + 1)
    have := h k
    rw [sufF, List.length_append, Nat.succ_mul]; omega
theorem sufF_lt (f : Nat → List Nat) (h : ∀ r, ∀ b ∈ f r, b < 256) : ∀ j k, ∀ b ∈ sufF f k j, b < 256
  | 0, k => fun b hb => by cases hb
  | j + 1, k => fun b hb => by
    rcases List.mem_append.1 hb with hb | hb
    · exact h k b hb
    · exact sufF_lt f h j (k + 1) b hb
theorem catF_lt (f : Nat → List Nat) (h : ∀ r, ∀ b ∈ f r, b < 256) : ∀ k, ∀ b ∈ catF f k, b < 256
  | 0 => fun b hb => by cases hb
  | k + 1 => fun b hb => by
    rcases List.mem_append.1 hb with hb | hb
    · exact catF_lt f h k b hb
    · exact h k b hb
set_option maxHeartbeats 16000000 in
theorem packRows_walk (A : Option Addr) (n c : Nat) (plain : Bool) (w : World) (h : Rows8 w A n) (hnc : n ≤ c) (hcm : c ≤ maxLen) :
    Calls Try.prog 7 #[.slice A n c, .bool plain] w fun e w' => e = .returned (.bool true) ∧ Below w.heap.size w w' := by
  unfold maxLen at hcm
  obtain ⟨j0, hj0, hy0, hy1, hy2⟩ := info_parts info_u8
  have AW := Lib.hid (awake19_p w)
  obtain ⟨RA, RL, RC, RZ, hcell, hrow⟩ := h
  have hm15 := min_k 5 n (by omega) (by omega)
  obtain ⟨m, hm⟩ : ∃ m, m = min n 5 := ⟨_, rfl⟩
  rw [← hm] at hm15
  have hm5 : ∀ w, (Builtin.min_ #[3, 3] 3 #[.int .i64 (n : Int), .int .i64 5]).run Try.prog w = .ok (.int .i64 (m : Int)) w := hm15
  have hm1 : m ≤ 5 := by omega
  have hm2 : m ≤ n := by omega
  have hmi : (m : Int) ≤ (c : Int) := by omega
  have HCELL := Lib.hid hcell
  have HROW := Lib.hid hrow
  obtain ⟨bits, hbits⟩ : ∃ bits : Nat → List Nat, bits = fun r => few (RZ r) 200 := ⟨_, rfl⟩
  have HBIT : Hid (∀ r, bits r = few (RZ r) 200) := fun r => by rw [hbits]
  have HBB : Hid (∀ r, Bin (bits r)) := fun r => by rw [HBIT.out r]; exact few_bin _ _
  have HBL : Hid (∀ r, (bits r).length ≤ 200) := fun r => by rw [HBIT.out r, few_len]; omega
  obtain ⟨pk, hpk⟩ : ∃ pk : Nat → List Nat, pk = fun r => packB (bits r) plain := ⟨_, rfl⟩
  have HPK : Hid (∀ r, packB (bits r) plain = pk r) := fun r => by rw [hpk]
  have HPL : Hid (∀ r, (pk r).length ≤ 26) := fun r => by rw [← HPK.out r]; have := packB_len (bits r) plain; have := HBL.out r; omega
  have HPT : Hid (∀ r, ∀ b ∈ pk r, b < 256) := fun r => by rw [← HPK.out r]; exact packB_lt _ _
  have VEC : Hid (∀ r W, r < m → Below w.heap.size w W → Calls Try.prog 15 #[.slice (RA r) (RL r) (RC r), .int .i64 200] W (NewI64 W (ofNB (bits r)))) := fun r W hr mm => by
    obtain ⟨q1, q2, q3, q4⟩ := HROW.out r (by omega)
    rw [HBIT.out r]
    unfold maxLen at q2
    exact few_p (RA r) (RL r) (RC r) w.heap.size 200 (RZ r) W (q3.below mm) q4 mm.size (by omega) (by omega)
  clear hcell hrow hbits hpk hm hm15
  go_enter Try.func7, Try.ntmps7
  go_wp2_with fail
  refine AW.out.mono ?_
  rintro e w1 ⟨rfl, b1⟩
  have B1 := Lib.hid b1
  clear b1 AW
  go_wp2_with fail
  go_loopw [5, 24] (fun s i wr => ∃ (k ln cv : Nat) (Av : Option Addr), k ≤ m ∧ i = .int .i64 (k : Int) ∧ s = .slice Av ln cv ∧ ln ≤ 130 ∧ ln ≤ cv ∧ cv ≤ maxLen ∧ Hid (ln = (catF pk k).length) ∧ Hid (wr.ownsRow w1.heap.size 5 1 (.slice Av ln cv) ln (U8 (catF pk k))) ∧ Hid (Below w1.heap.size w1 wr)) (fun _ i _ => m - (intOf i).toNat)
  case atStart => exact ⟨0, 0, 0, none, by omega, rfl, rfl, by omega, by omega, by decide, rfl, World.ownsRow_nil _ _ _ _, Below.refl _ _⟩
  case round =>
    obtain ⟨k, ln, cv, Av, hk, rfl, rfl, hl130, hlc, hcv, hln, ho, hb⟩ := hrel
    by_cases hlt : k < m
    · obtain ⟨b0, o0, rfl, hb0, hc0⟩ := HCELL.out (by omega)
      have ck := ((B1.out.trans (hb.out.mono B1.out.size)).cell (p := ⟨b0, o0 + k, none⟩) hb0).trans (hc0 k (by omega))
      have FW := Lib.hid (VEC.out k wr hlt (B1.out.trans (hb.out.mono B1.out.size)))
      obtain ⟨q1, q2, _, _⟩ := HROW.out k (by omega)
      have hlb := HBL.out k
      have hki : (k : Int) < (m : Int) := by omega
      have NXT : Hid (catF pk (k + 1) = catF pk k ++ pk k) := rfl
      have hbk := HBB.out k
      have HPKk := HPK.out k
      obtain ⟨L, hL⟩ : ∃ L, L = bits k := ⟨_, rfl⟩
      rw [← hL] at FW hlb hbk HPKk
      have HLB : Hid (Bin L) := hbk
      have HPE := Lib.hid HPKk
      obtain ⟨ll, hll⟩ : ∃ ll, ll = L.length := ⟨_, rfl⟩
      have HLL := Lib.hid hll
      rw [← hll] at hlb
      have hfl : (ofNB L).length = ll := by rw [ofN_lenB, hll]
      have HFL := Lib.hid hfl
      generalize RA k = rA at *
      generalize RL k = rL at *
      generalize RC k = rC at *
      clear hc0 hbk HPKk hL hll hfl q1 q2
      go_wp2_with fail
      refine FW.out.mono ?_
      rintro e w3 ⟨A4, c4, rfl, hc4, hm4, ho4, b4⟩
      rw [HFL.out] at ho4 hc4 ⊢
      have VP := Lib.hid (vec19_p L A4 ll c4 w3 (Rd.ofOwn ho4) HLB.out (by rw [← HLL.out]; omega))
      have HB3 := Lib.hid b4
      clear ho4 hc4 hm4 b4 FW
      go_wp2_with fail
      refine VP.out.mono ?_
      rintro e w4 ⟨g5, A5, rfl, hv5, b5, hg5⟩
      have HB4 := Lib.hid (HB3.out.trans (b5.mono HB3.out.size))
      have P0 := Lib.hid (pack_p (some ⟨g5, 0, none⟩) L plain w4 (Packs.of hv5 HLB.out (by rw [← HLL.out]; omega)) (by rw [← HLL.out]; omega))
      rw [HPE.out] at P0
      have HV5 := Lib.hid hv5
      have hg5w : wr.heap.size ≤ g5 := Nat.le_trans HB3.out.size hg5
      clear hv5 b5 VP HB3 hg5
      go_wp2_with fail
      refine P0.out.mono ?_
      rintro e w5 ⟨A6, c6, rfl, hc6, hm6, ho6, b6⟩
      have hpl := HPL.out k
      obtain ⟨pl, hpl2⟩ : ∃ pl, pl = (pk k).length := ⟨_, rfl⟩
      have HPLN := Lib.hid hpl2
      rw [← hpl2] at ho6 hc6 hpl ⊢
      have rd6 := Rd.ofOwn ho6
      have hb5 : Below wr.heap.size wr w5 := HB4.out.trans (b6.mono HB4.out.size)
      have hO5 := own_below ho.out hb5
      have t1 : ln + pl ≤ maxLen := by simp only [maxLen]; omega
      have t2 : (ln + pl) * 1 ≤ 140737488355328 := by omega
      have t3 : w1.heap.size ≤ w5.heap.size := Nat.le_trans hb.out.size hb5.size
      have HV5' := Lib.hid (VecB.below HV5.out b6)
      have hlt5 := ho.out.lt
      clear hc6 hm6 ho6 b6 P0 HV5 hpl2
      go_wp2_with (first
        | (at_builtin; go_loud (refine wpList_append_rd _ rfl _ _ 23 rfl w1.heap.size 5 j0 (.int .u8 0) 1 Try.underlying23 hj0 hy0 hy1 hy2 rfl (.slice Av ln cv) ln (U8 (catF pk k)) rfl hO5 w5.heap.size A6 pl c6 (U8 (pk k)) rfl rd6 (U8_one _) t1 t2 t3 ?_)))
      intro A7 c7 w7 hc7 hm7 hown7 hg7 _
      rw [← U8_append, ← NXT.out] at hown7
      have HO7 := Lib.hid hown7
      have HB7 := Lib.hid ((hb.out.trans (hb5.mono hb.out.size)).trans (Below.appended hO5 hg7 t3))
      have HV7 : Hid (VecAt w7 g5 (val L) L.length A5) := VecB.mod HV5'.out (Mod.ofGrown hg7) (fun i hi e => by
        have h1 := (hlt5 i e.symm).2
        rcases VecB.foot_le HV5'.out hi with h2 | h2 <;> omega)
      have PS : Packs w7 (some ⟨g5, 0, none⟩) L := Packs.of HV7.out HLB.out (by rw [← HLL.out]; omega)
      have PKP : Hid (∀ b W, Below w7.heap.size w7 W → Calls Try.prog 16 #[.pointer (some ⟨g5, 0, none⟩), .bool b] W (NewU8 W (packB L b))) := fun b W mm => pack_p _ L b W (PS.below mm) (by rw [← HLL.out]; omega)
      have BYP : Hid (∀ W, Below w7.heap.size w7 W → Calls Try.prog 22 #[.pointer (some ⟨g5, 0, none⟩)] W (NewU8 W (bytesL (val L) L.length))) := fun W mm => PS.by_ W mm
      have HT : Hid (packB L true = stB L) := by show _ = _; simp [packB]
      have hlf : (packB L false).length ≤ (packB L true).length := by rw [HT.out]; have : packB L false = bestB L 9 := by simp [packB]
                                                                      rw [this]; exact bestB_len L 9
      obtain ⟨lt_, hlt_⟩ : ∃ lt_, lt_ = (packB L true).length := ⟨_, rfl⟩
      obtain ⟨lf, hlf_⟩ : ∃ lf, lf = (packB L false).length := ⟨_, rfl⟩
      have hltb : lt_ = 1 + (ll + 7) / 8 := by rw [hlt_, HT.out, stB_len, HLL.out]
      obtain ⟨ly, hly⟩ : ∃ ly, ly = (bytesL (val L) L.length).length := ⟨_, rfl⟩
      have hlyb : lt_ = 1 + ly := by rw [hltb, hly, bytesL_len, HLL.out]
      have HLT := Lib.hid hlt_
      have HLF := Lib.hid hlf_
      have HLY := Lib.hid hly
      rw [← hlt_, ← hlf_] at hlf
      have hnl : ¬ (lt_ : Int) < (lf : Int) := by omega
      have hne : ((lt_ : Int) != 1 + (ly : Int)) = false := by rw [hlyb]; simp
      have hltbd : lt_ ≤ 30 := by omega
      have hlybd : ly ≤ 30 := by omega
      have hlfbd : lf ≤ 30 := by omega
      have HNE := Lib.hid hne
      clear hown7 hg7 hO5 rd6 t1 t2 t3 hb5 hlt5 HV5' PS hlt_ hlf_ hly hltb hlyb ho hb hlf hne
      have hq1 : ¬ lt_ < lf := by omega
      clear hltbd hlfbd hl130 hpl hlb hg5w hlc
      have Z0 := Below.refl w7.heap.size w7
      have K1 := Lib.hid (PKP.out true w7 Z0)
      go_wp2_with fail
      refine K1.out.mono ?_
      rintro e w8 ⟨A8, c8, rfl, _, _, _, b8⟩
      rw [← HLT.out]
      have K2 := Lib.hid (PKP.out false w8 b8)
      clear K1 Z0
      go_wp2_with fail
      refine K2.out.mono ?_
      rintro e w9 ⟨A9, c9, rfl, _, _, _, b9⟩
      rw [← HLF.out]
      have b79 := b8.trans (b9.mono b8.size)
      have K3 := Lib.hid (PKP.out true w9 b79)
      clear K2 b8 b9
      go_wp2_with fail
      refine K3.out.mono ?_
      rintro e wa ⟨Aa, ca, rfl, _, _, _, ba⟩
      rw [← HLT.out]
      have b7a := b79.trans (ba.mono b79.size)
      have K4 := Lib.hid (BYP.out wa b7a)
      clear K3 b79 ba
      go_wp2_with fail
      refine K4.out.mono ?_
      rintro e wb ⟨Ab, cb, rfl, _, _, _, bb⟩
      rw [← HLY.out]
      have b7b := b7a.trans (bb.mono b7a.size)
      have HOB := Lib.hid (own_below HO7.out b7b)
      have HBB2 := Lib.hid (HB7.out.trans (b7b.mono HB7.out.size))
      clear K4 b7a bb b7b HO7 HB7
      have hne := HNE.out
      go_wp2_with fail
      go_roundw
      case rel => exact ⟨k + 1, ln + pl, c7, A7, by omega, by go_num, rfl, by
        have h1 := catF_len pk 26 HPL.out (k + 1)
        have h2 : (catF pk (k + 1)).length = ln + pl := by rw [NXT.out, List.length_append, ← hln.out, ← HPLN.out]
        have h3 : (k + 1) * 26 ≤ 5 * 26 := Nat.mul_le_mul_right _ (by omega)
        omega, hc7, hm7, by show _ = _; rw [NXT.out, List.length_append, ← hln.out, ← HPLN.out], HOB.out, HBB2.out⟩
      case measure => simp [intOf]; omega
    · obtain rfl : k = m := by omega
      have HW := Lib.hid (B1.out.trans (hb.out.mono B1.out.size))
      have HALL : Hid (Rd wr wr.heap.size Av ln (U8 (sufF pk 0 k))) := by show Rd _ _ _ _ _; rw [suf_all]; exact Rd.ofOwn ho.out
      have HLN0 : Hid (ln = (sufF pk 0 k).length) := by show _ = _; rw [suf_all]; exact hln.out
      have hcv9 : cv ≤ 9223372036854775807 := by unfold maxLen at hcv; omega
      obtain ⟨w9, rfl⟩ : ∃ w9 : World, w9 = wr := ⟨_, rfl⟩
      have HAV : Hid (Av = none ∨ ∃ q o, Av = some ⟨q, o, none⟩) := by
        rcases ho.out.2 with ⟨h2, _⟩ | ⟨g', cap, cur, hv, _⟩
        · simp only [Value.slice.injEq] at h2; exact .inl h2.1
        · simp only [Value.slice.injEq] at hv; exact .inr ⟨g', 0, hv.1⟩
      clear ho hb hln hcv hlt
      go_wp2_with fail
      go_loopw [5, 56] (fun s i wr => ∃ (q ln cv : Nat) (Av : Option Addr), q ≤ k ∧ i = .int .i64 (q : Int) ∧ s = .slice Av ln cv ∧ ln ≤ 130 ∧ ln ≤ cv ∧ cv ≤ 9223372036854775807 ∧ Hid (ln = (sufF pk q (k - q)).length) ∧ Hid (Av = none ∨ ∃ q o, Av = some ⟨q, o, none⟩) ∧ Hid (Rd wr wr.heap.size Av ln (U8 (sufF pk q (k - q)))) ∧ Hid (Below w.heap.size w wr)) (fun _ i _ => k - (intOf i).toNat)
      case atStart => exact ⟨0, ln, cv, Av, by omega, rfl, rfl, hl130, hlc, hcv9, by show _ = _; rw [Nat.sub_zero]; exact HLN0.out, HAV.out, by show Rd _ _ _ _ _; rw [Nat.sub_zero]; exact HALL.out, HW.out⟩
      case round =>
        clear HALL HLN0 HW HAV hl130 hlc hcv9
        obtain ⟨q, ln, cv, Av, hq, rfl, rfl, hl130, hlc, hcv9, hln, hav, hrd, hb⟩ := hrel
        by_cases hlt : q < k
        · obtain ⟨b0, o0, rfl, hb0, hc0⟩ := HCELL.out (by omega)
          have ck := (hb.out.cell (p := ⟨b0, o0 + q, none⟩) hb0).trans (hc0 q (by omega))
          have FW := Lib.hid (VEC.out q wr hlt hb.out)
          have hki : (q : Int) < (k : Int) := by omega
          obtain ⟨j, hj⟩ : ∃ j, k - q = j + 1 := ⟨k - q - 1, by omega⟩
          have hj2 : k - (q + 1) = j := by omega
          have HSUF : Hid (sufF pk q (k - q) = pk q ++ sufF pk (q + 1) j) := by show _ = _; rw [hj]; rfl
          have HJ2 := Lib.hid hj2
          have hbk := HBB.out q
          have HPKk := HPK.out q
          have hlb := HBL.out q
          obtain ⟨L, hL⟩ : ∃ L, L = bits q := ⟨_, rfl⟩
          rw [← hL] at FW hlb hbk HPKk
          have HLB : Hid (Bin L) := hbk
          have HPE := Lib.hid HPKk
          obtain ⟨ll, hll⟩ : ∃ ll, ll = L.length := ⟨_, rfl⟩
          have HLL := Lib.hid hll
          rw [← hll] at hlb
          have hfl : (ofNB L).length = ll := by rw [ofN_lenB, hll]
          have HFL := Lib.hid hfl
          obtain ⟨pl, hpl2⟩ : ∃ pl, pl = (pk q).length := ⟨_, rfl⟩
          have HPLN := Lib.hid hpl2
          obtain ⟨S, hS⟩ : ∃ S, S = sufF pk (q + 1) j := ⟨_, rfl⟩
          have HSS := Lib.hid hS
          rw [← hS] at HSUF
          have hlnS : ln = pl + S.length := by rw [hln.out, HSUF.out, List.length_append, hpl2]
          obtain ⟨sl, hsl⟩ : ∃ sl, sl = S.length := ⟨_, rfl⟩
          have HSL := Lib.hid hsl
          rw [← hsl] at hlnS
          have RS := hrd.out
          rw [HSUF.out] at RS
          have hplp : 1 ≤ pl := by rw [hpl2, ← HPKk]; exact packB_pos L plain
          have HRS := Lib.hid RS
          have HPPL := Lib.hid hplp
          clear hplp
          have HTB : Hid (∀ b ∈ pk q ++ S, b < 256) := by
            show ∀ _, _
            rw [hS]
            intro b hb'
            rcases List.mem_append.1 hb' with hb' | hb'
            · exact HPT.out q b hb'
            · exact sufF_lt pk HPT.out j (q + 1) b hb'
          generalize RA q = rA at *
          generalize RL q = rL at *
          generalize RC q = rC at *
          have HLN2 := Lib.hid hlnS
          clear hc0 hbk HPKk hL hll hfl hpl2 hS hsl RS hrd hj hj2 hlnS
          go_wp2_with fail
          refine FW.out.mono ?_
          rintro e w3 ⟨A4, c4, rfl, hc4, hm4, ho4, b4⟩
          rw [HFL.out] at ho4 hc4 ⊢
          have VP := Lib.hid (vec19_p L A4 ll c4 w3 (Rd.ofOwn ho4) HLB.out (by rw [← HLL.out]; omega))
          have HB3 := Lib.hid b4
          clear ho4 hc4 hm4 b4 FW
          go_wp2_with fail
          refine VP.out.mono ?_
          rintro e w4 ⟨g5, A5, rfl, hv5, b5, _⟩
          have HB4 := Lib.hid (HB3.out.trans (b5.mono HB3.out.size))
          have HV5 := Lib.hid hv5
          have LN := Lib.hid (blen_p g5 _ _ A5 w4 hv5)
          rw [← HLL.out] at LN
          have R4 := Lib.hid (HRS.out.onto HB4.out)
          have UP := Lib.hid (unp_p Av ln cv ll (pk q ++ S) plain w4 R4.out HTB.out (by omega) hlc hcv9 (by omega))
          clear hv5 b5 VP HB3
          go_wp2_with fail
          refine LN.out.mono ?_
          rintro e w5 ⟨rfl, rfl⟩
          clear LN
          go_wp2_with fail
          refine UP.out.mono ?_
          rintro e w5 ⟨hor, b6⟩
          rcases hor with ⟨l', g', A', hlb', hll', ⟨rest, hrest⟩, rfl, hv⟩ | ⟨hno, _⟩
          rotate_left
          · exact absurd (by rw [HPE.out]) (hno L HLB.out HLL.out.symm S)
          have hTl : (pk q ++ S).length = ln := by rw [← U8_len, R4.out.len]
          have HE : l' = L := by
            have f1 := (fits_pack HLB.out HLL.out.symm (show pk q ++ S = packB L plain ++ S by rw [HPE.out])).1
            have f2 := (fits_pack hlb' hll' hrest).1
            exact fits_uniq (by rw [hTl]; omega) f2 f1
          subst HE
          rw [HPE.out, ← HPLN.out]
          have SM := Lib.hid (same_vv g5 g' _ _ _ _ _ _ _ _ w5 (VecB.below HV5.out b6) hv)
          have hd1 : decide (l'.length = l'.length ∧ val l' = val l') = true := by simp
          rw [hd1] at SM
          have BE := Lib.hid (hb.out.trans ((HB4.out.trans (b6.mono HB4.out.size)).mono hb.out.size))
          have R5 := Lib.hid (R4.out.onto b6)
          clear hlb' hll' hrest hv b6 UP hd1 HV5 R4 HB4 hTl hb HRS
          go_wp2_with fail
          refine SM.out.mono ?_
          rintro e w6 ⟨rfl, jj, rfl⟩
          have BJ := Lib.hid (below_draws BE.out jj)
          have RJ := Lib.hid (R5.out.drewN jj)
          have hsz : (w5.drewN jj).heap.size = w5.heap.size := rfl
          rw [← hsz] at RJ
          clear hsz
          generalize w5.drewN jj = w6 at *
          have hln2 := HLN2.out
          have hpli : (pl : Int) ≤ (ln : Int) := by omega
          obtain ⟨bq, oq, rfl⟩ : ∃ bq oq, Av = some ⟨bq, oq, none⟩ := by
            rcases hav.out with e | ⟨bq, oq, e⟩
            · have hz := RJ.out; rw [e] at hz; have := hz.none_; have := HPPL.out; omega
            · exact ⟨bq, oq, e⟩
          have hcl : (pl : Int) ≤ (cv : Int) := by omega
          have RN : Hid (Rd w6 w6.heap.size (some ⟨bq, oq + pl, none⟩) (ln - pl) (U8 S)) := by
            have h1 := RJ.out.drop pl
            have e1 : (U8 (pk q ++ S)).drop pl = U8 S := by
              rw [U8_append, List.drop_append_of_le_length (by rw [U8_len, ← HPLN.out]; exact Nat.le_refl _), List.drop_of_length_le (by rw [U8_len, ← HPLN.out]; exact Nat.le_refl _), List.nil_append]
            rw [e1] at h1
            exact h1
          have RZ' : Hid (ln - pl = 0 → Rd w6 w6.heap.size (some ⟨bq, oq, none⟩) (ln - pl) (U8 S)) := fun e => by
            have h0 : sl = 0 := by have := HLN2.out; omega
            rw [e, List.eq_nil_of_length_eq_zero (show S.length = 0 by rw [← HSL.out]; exact h0)]
            exact Rd.nil _ _ _
          have HEQ : Hid (sufF pk (q + 1) (k - (q + 1)) = S) := by show _ = _; rw [HJ2.out, HSS.out]
          have HLS : Hid (ln - pl = S.length) := by show _ = _; have := HLN2.out; have := HSL.out; omega
          have HBND := Lib.hid (And.intro hl130 (And.intro hlc (And.intro hcv9 (And.intro hlt HPPL.out))))
          clear SM BE RJ hl130 hlc hcv9 hln2 hlb hq hlt
          go_wp2_with fail
          all_goals (
            obtain ⟨hl130, hlc, hcv9, hlt, hplp⟩ := HBND.out
            have hln2 := HLN2.out
            go_roundw
            case rel =>
              by_cases hcp : cv = pl
              · exact ⟨q + 1, ln - pl, cv - pl, some ⟨bq, oq, none⟩, by omega, by go_num, by rw [if_pos hcp], by omega, by omega, by omega, by show _ = _; rw [HEQ.out, HLS.out], .inr ⟨_, _, rfl⟩, by show Rd _ _ _ _ _; rw [HEQ.out]; exact RZ'.out (by omega), BJ.out⟩
              · exact ⟨q + 1, ln - pl, cv - pl, some ⟨bq, oq + pl, none⟩, by omega, by go_num, by rw [if_neg hcp], by omega, by omega, by omega, by show _ = _; rw [HEQ.out, HLS.out], .inr ⟨_, _, rfl⟩, by show Rd _ _ _ _ _; rw [HEQ.out]; exact RN.out, BJ.out⟩
            case measure => simp [intOf]; omega)
        · obtain rfl : q = k := by omega
          have h0 : ln = 0 := by rw [hln.out, Nat.sub_self]; rfl
          subst h0
          go_wp2_with fail
          go_ret
          exact ⟨rfl, hb.out⟩
end Go.Proofs.Ytcefohjddbjcjaa
