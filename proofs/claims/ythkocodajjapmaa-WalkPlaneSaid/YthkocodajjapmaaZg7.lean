/- At of a word. Add of a word; the word of a walk. Lists of steps; the word of a walk. -/
import Derived.Test.YthkocodajjapmaaZg6
import Derived.BigQuiet
import Derived.Test.YthkocodajjapmaaZWOf
namespace Go.Proofs.Ythkocodajjapmaa
set_option maxRecDepth 20000
open Go.RowKit
set_option linter.unusedVariables false
set_option maxHeartbeats 4000000 in
theorem mat_p (B g : Nat) (ks : List Nat) (i : Nat) (w : World) (h : WordAt w B g ks) (hi : i < ks.length) (hn : ks.length ≤ 400000) : Calls Try.prog 39 #[.pointer (some ⟨g, 0, none⟩), .int .i64 (i : Int)] w fun e w' => e = .returned (.int .i64 ((ks.getD i 0 : Nat) : Int)) ∧ ∃ j, w' = w.drewN j := by
  have LP := Lib.hid (mlen_p B g ks w h)
  obtain ⟨h1, h2, gv, A, h3, h4, h5⟩ := h
  obtain ⟨a, ha⟩ : ∃ a, a = 2 * i := ⟨_, rfl⟩
  obtain ⟨a1, ha1⟩ : ∃ a1, a1 = 2 * i + 1 := ⟨_, rfl⟩
  obtain ⟨bt, hbt⟩ : ∃ bt : Nat → Nat, ∀ p, bt p = wv ks / 2 ^ p % 2 := ⟨_, fun _ => rfl⟩
  have AT : Hid (∀ (j p : Nat), p < 2 * ks.length → Calls Try.prog 69 #[.pointer (some ⟨gv, 0, none⟩), .int .i64 (p : Int)] (w.drewN j) fun e w' => e = .returned (.int .i64 ((bt p : Nat) : Int)) ∧ w.drewN j = w') := fun j p hp => by
    rw [hbt]; exact at_p gv _ _ p (gv + 1) A (w.drewN j) (VecB.below h5 (below_draws (Below.refl _ _) j)) hp
  have hx : bt a = ks.getD i 0 % 2 := by rw [hbt, ha]; exact wv_lo ks i hi
  have hy : bt a1 = ks.getD i 0 / 2 % 2 := by rw [hbt, ha1]; exact wv_hi ks i hi
  have hal : a < 2 * ks.length := by omega
  have ha1l : a1 < 2 * ks.length := by omega
  have AT0 := Lib.hid (fun j => AT.out j a hal)
  have AT1 := Lib.hid (fun j => AT.out j a1 ha1l)
  have c0 : w.cell? ⟨g, 0, none⟩ = some (.pointer (some ⟨gv, 0, none⟩)) := h4.cell 0
  have hk4 : ks.getD i 0 < 4 := h1 _ (by rw [List.getD_eq_getElem?_getD, List.getElem?_eq_getElem hi]; exact List.getElem_mem hi)
  generalize ks.getD i 0 = k at *
  have f1 : 2 * (i : Int) = (a : Int) := by omega
  have f2 : (a : Int) + 1 = (a1 : Int) := by omega
  have g1 : IntKind.i64.wrap (a : Int) = (a : Int) := by simp [IntKind.wrap, IntKind.signed, IntKind.bits]; omega
  have g2 : IntKind.i64.wrap (a1 : Int) = (a1 : Int) := by simp [IntKind.wrap, IntKind.signed, IntKind.bits]; omega
  obtain ⟨y2, hy2⟩ : ∃ y2, y2 = 2 * bt a1 := ⟨_, rfl⟩
  have f3 : 2 * ((bt a1 : Nat) : Int) = (y2 : Int) := by omega
  have g3 : IntKind.i64.wrap (y2 : Int) = (y2 : Int) := by simp [IntKind.wrap, IntKind.signed, IntKind.bits]; omega
  have f4 : ((bt a : Nat) : Int) + (y2 : Int) = (k : Int) := by omega
  have g4 : IntKind.i64.wrap (k : Int) = (k : Int) := by simp [IntKind.wrap, IntKind.signed, IntKind.bits]; omega
  have hlt : ¬ (ks.length : Int) ≤ (i : Int) := by omega
  have hlt2 : decide ((ks.length : Int) ≤ (i : Int)) = false := by rw [decide_eq_false_iff_not]; exact hlt
  clear h4 h5 ha ha1 hx hy hy2 h1 hbt hal ha1l AT
  have AT : Hid (∀ (j p : Nat), (p = a ∨ p = a1) → Calls Try.prog 69 #[.pointer (some ⟨gv, 0, none⟩), .int .i64 (p : Int)] (w.drewN j) fun e w' => e = .returned (.int .i64 ((bt p : Nat) : Int)) ∧ w.drewN j = w') := fun j p hp => by
    rcases hp with rfl | rfl
    · exact AT0.out j
    · exact AT1.out j
  clear AT0 AT1
  go_enter Try.func39, Try.ntmps39
  go_wp2_with fail
  refine LP.out.mono ?_
  rintro e w' ⟨rfl, rfl⟩
  go_wp2_with fail
  go_quiet ((go_at_call 69; exact (AT.out _ _ (by first | exact .inl rfl | exact .inr rfl)).mono fun e w' h => ⟨h.1, _, h.2.symm⟩))
  go_wp2_with fail
  go_ret
  exact ⟨rfl, _, rfl⟩
/-- The text of letters. -/
def signN (k : Nat) : Nat := [40, 41, 91, 93].getD k 0
def textM (ks : List Nat) : ByteArray := strOfNums (ks.map fun k => ((signN k : Nat) : Int))
theorem strOfNums_map (X : List Nat) : strOfNums (X.map fun (b : Nat) => (b : Int)) = strOfNums (X.map fun (b : Nat) => (b : Int)) := rfl
set_option maxHeartbeats 4000000 in
theorem mtext_p (B g : Nat) (ks : List Nat) (w : World) (h : WordAt w B g ks) (hn : ks.length ≤ 400000) :
    Calls Try.prog 15 #[.pointer (some ⟨g, 0, none⟩)] w fun e w' => e = .returned (.string (textM ks)) ∧ Below w.heap.size w w' := by
  have LP := Lib.hid (mlen_p B g ks w h)
  obtain ⟨n, hnn⟩ : ∃ n, n = ks.length := ⟨_, rfl⟩
  rw [← hnn] at LP hn
  obtain ⟨X, hX⟩ : ∃ X, X = ks.map signN := ⟨_, rfl⟩
  have HX : Hid (X.length = n) := by show _ = _; rw [hX, List.length_map, hnn]
  have HT : Hid (textM ks = strOfNums (X.map fun (b : Nat) => (b : Int))) := by
    show _ = _
    rw [hX, textM, List.map_map]; rfl
  have H4 := Lib.hid h.1
  have XG : Hid (∀ i, i < n → ∃ k, k < 4 ∧ ks.getD i 0 = k ∧ X.getD i 0 = signN k) := fun i hi => by
    have hil : i < ks.length := by omega
    refine ⟨ks.getD i 0, H4.out _ (by rw [List.getD_eq_getElem?_getD, List.getElem?_eq_getElem hil]; exact List.getElem_mem hil), rfl, ?_⟩
    rw [hX]; simp [List.getD_eq_getElem?_getD, hil]
  have AP : Hid (∀ (i : Nat) (W : World), i < n → Below w.heap.size w W → Calls Try.prog 39 #[.pointer (some ⟨g, 0, none⟩), .int .i64 (i : Int)] W fun e w' => e = .returned (.int .i64 ((ks.getD i 0 : Nat) : Int)) ∧ Below W.heap.size W w') := fun i W hi z =>
    (mat_p B g ks i W (h.below z) (by omega) (by omega)).mono fun e w' ⟨h1, j, h2⟩ => ⟨h1, by rw [h2]; exact below_draws (Below.refl _ _) j⟩
  obtain ⟨i0, hi0, hz0, hz1, hz2⟩ := info_parts info_u8
  have hmk := run_make_one (P := Try.prog) 22 5 i0 (.int .u8 0) 1 Try.underlying22 hi0 hz0 hz1 hz2 rfl .i64 .i64 n (by omega) (by omega)
  clear h hX hnn H4
  go_enter Try.func15, Try.ntmps15
  go_wp2_with fail
  refine LP.out.mono ?_
  rintro e w' ⟨rfl, rfl⟩
  go_wp2_with fail
  go_loopw [10] (fun i wr => ∃ k : Nat, k ≤ n ∧ i = .int .i64 k ∧ Blk wr w.heap.size 5 (U8 (X.take k ++ List.replicate (n - k) 0)).toArray ∧ Below w.heap.size w wr) (fun i _ => n - (intOf i).toNat)
  case atStart =>
    refine ⟨0, by omega, rfl, ?_, (Below.refl _ _).alloc (Nat.le_refl _) _⟩
    have := Blk.new w 5 (Array.replicate n (.int .u8 0))
    simpa [U8] using this
  case round =>
    obtain ⟨k, hk, rfl, hbk, hbl⟩ := hrel
    by_cases hlt : k < n
    · obtain ⟨q, hq4, hq, hxq⟩ := XG.out k hlt
      have AT := Lib.hid (AP.out k wr hlt hbl)
      rw [hq] at AT
      have hf := fill_next X k n HX.out hlt
      rw [hxq] at hf
      have HFX := Lib.hid hf
      have hqI : (q : Int) = 0 ∨ (q : Int) = 1 ∨ (q : Int) = 2 ∨ (q : Int) = 3 := by omega
      have hsg : ∀ W : World, (Instr.index 9 (.string { data := #[40, 41, 91, 93] }) (.int .i64 (q : Int))).run Try.prog W = .ok (.int .u8 ((signN q : Nat) : Int)) W := fun W => by
        rcases (show q = 0 ∨ q = 1 ∨ q = 2 ∨ q = 3 by omega) with rfl | rfl | rfl | rfl <;> rfl
      have hs256 : signN q < 256 := by
        rcases (show q = 0 ∨ q = 1 ∨ q = 2 ∨ q = 3 by omega) with rfl | rfl | rfl | rfl <;> decide
      generalize signN q = y at *
      clear hf hq hxq hqI hq4
      obtain ⟨z, hz⟩ : ∃ z, (U8 (X.take k ++ List.replicate (n - k) 0)).toArray[k]? = some z := ⟨_, Array.getElem?_eq_getElem (by simp [U8_len]; have := HX.out; omega)⟩
      have HBK := Lib.hid hbk
      have HBL := Lib.hid hbl
      have HZ := Lib.hid hz
      clear hbk hbl hz
      go_wp2_with fail
      refine AT.out.mono ?_
      rintro e w2 ⟨rfl, z2⟩
      have hbk2 := HBK.out.below z2
      have tz : w2.cell? ⟨w.heap.size, k, none⟩ = some z := (hbk2.cell k).trans HZ.out
      have fz : w2.frozen? ⟨w.heap.size, k, none⟩ = false := hbk2.frozen k
      have NB := Lib.hid (hbk2.set_ k (.int .u8 (y : Int)))
      have ZB := Lib.hid ((HBL.out.trans (z2.mono HBL.out.size)).setCell (p := ⟨w.heap.size, k, none⟩) (Nat.le_refl _) (.int .u8 (y : Int)))
      clear hbk2 z2 HBK HBL AT
      go_wp2_with fail
      go_roundw
      case rel =>
        refine ⟨k + 1, by omega, by go_num, ?_, ZB.out⟩
        have := NB.out
        rw [HFX.out] at this
        exact this
      case measure => simp [intOf]; omega
    · obtain rfl : k = n := by omega
      rw [Nat.sub_self, List.replicate_zero, List.append_nil, List.take_of_length_le (by rw [HX.out]; exact Nat.le_refl _)] at hbk
      have hend : Rd wr (w.heap.size + 1) (some ⟨w.heap.size, 0, none⟩) k (U8 X) :=
        ⟨by rw [U8_len, HX.out], fun _ => ⟨_, _, rfl, Nat.lt_succ_self _, fun j hj => by rw [Nat.zero_add, hbk.cell]; simp at hj ⊢⟩⟩
      have hcv := conv_bytes (some ⟨w.heap.size, 0, none⟩) k k _ X wr hend
      go_wp2_with fail
      go_ret
      exact ⟨by rw [HT.out]; rfl, hbl⟩
end Go.Proofs.Ythkocodajjapmaa
namespace Go.Proofs.Ythkocodajjapmaa
set_option maxRecDepth 20000
open Go.RowKit
set_option linter.unusedVariables false
def Kd (x : Int) : Prop := 0 ≤ x ∧ x < 4
instance (x : Int) : Decidable (Kd x) := by unfold Kd; exact inferInstance
theorem isKind_p (x : Int) (w : World) : Calls Try.prog 67 #[.int .i64 x] w fun e w' => e = .returned (.bool (decide (Kd x))) ∧ w = w' := by
  by_cases h0 : 0 ≤ x
  · by_cases h1 : x ≤ 3
    · have hk : decide (Kd x) = true := decide_eq_true ⟨h0, by omega⟩
      rw [hk]
      go_enter Try.func67, Try.ntmps67
      go_wp2_with fail
      go_ret
      exact ⟨rfl, rfl⟩
    · have hk : decide (Kd x) = false := decide_eq_false fun h => h1 (by have := h.2; omega)
      rw [hk]
      have h2 : decide (x ≤ 3) = false := by rw [decide_eq_false_iff_not]; exact h1
      go_enter Try.func67, Try.ntmps67
      go_wp2_with fail
      go_ret
      exact ⟨rfl, rfl⟩
  · have hk : decide (Kd x) = false := decide_eq_false fun h => h0 h.1
    rw [hk]
    have h2 : decide (0 ≤ x) = false := by rw [decide_eq_false_iff_not]; exact h0
    go_enter Try.func67, Try.ntmps67
    go_wp2_with fail
    go_ret
    exact ⟨rfl, rfl⟩
theorem noKind_p (x : Int) (w : World) : Calls Try.prog 66 #[.int .i64 x] w fun e w' => e = .returned (.bool (!decide (Kd x))) ∧ w = w' := by
  have KP := Lib.hid (isKind_p x w)
  generalize decide (Kd x) = q at *
  go_enter Try.func66, Try.ntmps66
  go_wp2_with fail
  refine KP.out.mono ?_
  rintro e w' ⟨rfl, rfl⟩
  go_wp2_with fail
  go_ret
  exact ⟨rfl, rfl⟩
theorem indexKind_p (A : Option Addr) (n c B : Nat) (z : List Int) (w : World) (h : Rd w B A n (I64 z)) (hn : n ≤ 1000000) :
    Calls Try.prog 76 #[.slice A n c, .func (.func 66) #[] #[]] w fun e w' => ∃ q : Int, e = .returned (.int .i64 q) ∧ w = w' ∧ (0 ≤ q ↔ ¬ ∀ x ∈ z, Kd x) := by
  have hl : z.length = n := by rw [← h.len, I64_len]
  have NK : Hid (∀ (x : Int) (W : World), Calls Try.prog 66 #[.int .i64 x] W fun e w' => e = .returned (.bool (!decide (Kd x))) ∧ W = w') := fun x W => noKind_p x W
  have HZ := Lib.hid h
  have HL := Lib.hid hl
  clear h hl
  go_enter Try.func76, Try.ntmps76
  go_wp2_with fail
  go_loopw [8] (fun i wr => ∃ k : Nat, k ≤ n ∧ i = .int .i64 k ∧ Hid (∀ j, j < k → Kd (z.getD j 0)) ∧ wr = w) (fun i _ => n - (intOf i).toNat)
  case atStart => exact ⟨0, by omega, rfl, fun j hj => absurd hj (by omega), rfl⟩
  case round =>
    obtain ⟨k, hk, rfl, hy, rfl⟩ := hrel
    by_cases hlt : k < n
    · obtain ⟨bb, o, rfl, _, kk⟩ := HZ.out.i64 (by omega)
      have x0 := kk k hlt
      have hmem : z.getD k 0 ∈ z := by
        have : k < z.length := by rw [HL.out]; exact hlt
        rw [List.getD_eq_getElem?_getD, List.getElem?_eq_getElem this]; exact List.getElem_mem this
      have HME := Lib.hid hmem
      have NX : Hid (Kd (z.getD k 0) → ∀ j, j < k + 1 → Kd (z.getD j 0)) := fun q j hj => by
        rcases Nat.lt_or_ge j k with c | c
        · exact hy.out j c
        · rw [show j = k by omega]; exact q
      clear kk hmem
      generalize z.getD k 0 = x at *
      have N1 := Lib.hid (NK.out x wr)
      by_cases q : Kd x
      · rw [decide_eq_true q] at N1
        have HQ := Lib.hid q
        clear q
        go_wp2_with fail
        refine N1.out.mono ?_
        rintro e w' ⟨rfl, rfl⟩
        go_wp2_with fail
        go_roundw
        case rel => exact ⟨k + 1, by omega, by go_num, NX.out HQ.out, trivial⟩
        case measure => simp [intOf]; omega
      · rw [decide_eq_false q] at N1
        have HQ := Lib.hid q
        clear q
        go_wp2_with fail
        refine N1.out.mono ?_
        rintro e w' ⟨rfl, rfl⟩
        go_wp2_with fail
        go_ret
        exact ⟨k, rfl, rfl, ⟨fun _ H => HQ.out (H _ HME.out), fun _ => by omega⟩⟩
    · obtain rfl : k = n := by omega
      go_wp2_with fail
      go_ret
      refine ⟨-1, rfl, rfl, ⟨fun h => absurd h (by omega), fun H => absurd (fun x hx => ?_) H⟩⟩
      obtain ⟨j, hj, rfl⟩ := List.getElem_of_mem hx
      have := hy.out j (by rw [← HL.out]; exact hj)
      rwa [List.getD_eq_getElem?_getD, List.getElem?_eq_getElem hj] at this
theorem containsKind_p (A : Option Addr) (n c B : Nat) (z : List Int) (w : World) (h : Rd w B A n (I64 z)) (hn : n ≤ 1000000) :
    Calls Try.prog 65 #[.slice A n c, .func (.func 66) #[] #[]] w fun e w' => e = .returned (.bool (!decide (∀ x ∈ z, Kd x))) ∧ w = w' := by
  have ip := indexKind_p A n c B z w h hn
  clear h
  by_cases h : ∀ x ∈ z, Kd x
  · have IP : Hid (Calls Try.prog 76 #[.slice A n c, .func (.func 66) #[] #[]] w fun e w' => ∃ q : Int, e = .returned (.int .i64 q) ∧ w = w' ∧ q < 0) :=
      ip.mono fun e w' ⟨q, h1, h2, h3⟩ => ⟨q, h1, h2, by rcases Int.lt_or_le q 0 with c | c; exact c; exact absurd h (h3.1 c)⟩
    rw [decide_eq_true h]
    clear ip h
    go_enter Try.func65, Try.ntmps65
    go_wp2_with fail
    refine IP.out.mono ?_
    rintro e w' ⟨q, rfl, rfl, hq⟩
    have hd : decide (0 ≤ q) = false := by rw [decide_eq_false_iff_not]; omega
    go_wp2_with fail
    go_ret
    exact ⟨by first | rfl | simp, rfl⟩
  · have IP : Hid (Calls Try.prog 76 #[.slice A n c, .func (.func 66) #[] #[]] w fun e w' => ∃ q : Int, e = .returned (.int .i64 q) ∧ w = w' ∧ 0 ≤ q) :=
      ip.mono fun e w' ⟨q, h1, h2, h3⟩ => ⟨q, h1, h2, h3.2 h⟩
    rw [decide_eq_false h]
    clear ip h
    go_enter Try.func65, Try.ntmps65
    go_wp2_with fail
    refine IP.out.mono ?_
    rintro e w' ⟨q, rfl, rfl, hq⟩
    have hd : decide (0 ≤ q) = true := by rw [decide_eq_true_iff]; exact hq
    go_wp2_with fail
    go_ret
    exact ⟨by first | rfl | simp, rfl⟩
def toN (z : List Int) : List Nat := z.map Int.toNat
theorem toN_len (z : List Int) : (toN z).length = z.length := by simp [toN]
theorem toN_next (z : List Int) (k : Nat) (h : k < z.length) : (toN z).take (k + 1) = (toN z).take k ++ [(z.getD k 0).toNat] := by
  rw [List.take_add_one, List.getElem?_eq_getElem (by rw [toN_len]; exact h)]
  simp [toN, List.getD_eq_getElem?_getD, h]
theorem madd_nil (v : Value) (w : World) : Calls Try.prog 38 #[.pointer none, v] w fun e w' => e = .returned (.int .i64 2) ∧ w = w' := by
  go_enter Try.func38, Try.ntmps38
  go_wp2_with fail
  go_ret
  exact ⟨rfl, rfl⟩
set_option maxHeartbeats 4000000 in
theorem madd_p (B g : Nat) (ks : List Nat) (A : Option Addr) (n c : Nat) (z : List Int) (w : World) (h : WordS w B g ks (inBlk A)) (hz : Rd w w.heap.size A n (I64 z)) (hA : ∀ i, inBlk A i → i < w.heap.size) (hn : ks.length + n ≤ 400000) :
    Calls Try.prog 38 #[.pointer (some ⟨g, 0, none⟩), .slice A n c] w fun e w' => e = .returned (.int .i64 (if ∀ x ∈ z, Kd x then 0 else 1)) ∧ WordAt w' B g (if ∀ x ∈ z, Kd x then ks ++ toN z else ks) ∧ Below B w w' := by
  have CP := Lib.hid (containsKind_p A n c _ z w hz (by omega))
  have hl : z.length = n := by rw [← hz.len, I64_len]
  by_cases hg : ∀ x ∈ z, Kd x
  · rw [decide_eq_true hg] at CP
    rw [if_pos hg, if_pos hg]
    have HG : Hid (∀ k, k < n → ∃ q : Nat, q < 4 ∧ z.getD k 0 = (q : Int)) := fun k hk => by
      have hk' : k < z.length := by omega
      have := hg (z.getD k 0) (by rw [List.getD_eq_getElem?_getD, List.getElem?_eq_getElem hk']; exact List.getElem_mem hk')
      have h1 := this.1
      have h2 := this.2
      exact ⟨(z.getD k 0).toNat, by omega, by omega⟩
    have HA := Lib.hid hA
    have PP : Hid (∀ (ls : List Nat) (k : Nat) (W : World), WordS W B g ls (inBlk A) → w.heap.size ≤ W.heap.size → k < 4 → ls.length ≤ 400000 → Calls Try.prog 68 #[.pointer (some ⟨g, 0, none⟩), .int .i64 (k : Int)] W fun e w' => e = .returned (.tuple #[]) ∧ WordS w' B g (ls ++ [k]) (inBlk A) ∧ Below B W w' ∧ Mod (fun i => ¬ inBlk A i) W w') := fun ls k W h hs hk hl => mput_s B g ls k W _ h hk hl (fun i hi => Nat.lt_of_lt_of_le (HA.out i hi) hs)
    have HZ := Lib.hid hz
    have HL := Lib.hid hl
    have HW := Lib.hid h
    clear hz h hg hl
    go_enter Try.func38, Try.ntmps38
    go_wp2_with fail
    refine CP.out.mono ?_
    rintro e w' ⟨rfl, rfl⟩
    clear CP
    go_wp2_with fail
    go_loopw [13] (fun i wr => ∃ k : Nat, k ≤ n ∧ i = .int .i64 k ∧ Hid (WordS wr B g (ks ++ (toN z).take k) (inBlk A)) ∧ Hid (Below B w wr) ∧ Hid (Mod (fun i => ¬ inBlk A i) w wr)) (fun i _ => n - (intOf i).toNat)
    case atStart => exact ⟨0, by omega, rfl, by show WordS _ _ _ _ _; rw [List.take_zero, List.append_nil]; exact HW.out, Below.refl _ _, Mod.refl _ _⟩
    case round =>
      obtain ⟨k, hk, rfl, HS, HB, HM⟩ := hrel
      by_cases hlt : k < n
      · have hr := HZ.out.mod HM.out (Nat.le_refl _) (fun _ i hi hs => hs hi)
        obtain ⟨bb, o, rfl, _, kk⟩ := hr.i64 (by omega)
        have x0 := kk k hlt
        obtain ⟨q, hq4, hq⟩ := HG.out k hlt
        have hnx := toN_next z k (by rw [HL.out]; exact hlt)
        rw [hq, Int.toNat_natCast] at hnx
        rw [hq] at x0
        have HNX := Lib.hid hnx
        have P1 := Lib.hid (PP.out _ q wr HS.out HM.out.size hq4 (by rw [List.length_append, List.length_take]; omega))
        clear kk hr hq hnx hq4 HS
        go_wp2_with fail
        refine P1.out.mono ?_
        rintro e w2 ⟨rfl, hw2, z2, m2⟩
        have HW2 := Lib.hid hw2
        have HB2 := Lib.hid (HB.out.trans z2)
        have HM2 := Lib.hid (HM.out.trans m2 (fun i _ hi => hi))
        clear hw2 z2 m2 P1 HB HM
        go_wp2_with fail
        go_roundw
        case rel => exact ⟨k + 1, by omega, by go_num, by show WordS _ _ _ _ _; rw [HNX.out, ← List.append_assoc]; exact HW2.out, HB2.out, HM2.out⟩
        case measure => simp [intOf]; omega
      · obtain rfl : k = n := by omega
        go_wp2_with fail
        go_ret
        have := HS.out
        rw [List.take_of_length_le (by rw [toN_len, HL.out]; exact Nat.le_refl _)] at this
        exact ⟨rfl, this.at_, HB.out⟩
  · rw [decide_eq_false hg] at CP
    rw [if_neg hg, if_neg hg]
    have HW := Lib.hid h
    clear hz h hg hl
    go_enter Try.func38, Try.ntmps38
    go_wp2_with fail
    refine CP.out.mono ?_
    rintro e w' ⟨rfl, rfl⟩
    go_wp2_with fail
    go_ret
    exact ⟨rfl, HW.out.at_, Below.refl _ _⟩
end Go.Proofs.Ythkocodajjapmaa
namespace Go.Proofs.Ythkocodajjapmaa
set_option maxRecDepth 20000
open Go.RowKit
set_option linter.unusedVariables false
/-- A slice of n steps, two numbers each. -/
def RdS (w : World) (B : Nat) (A : Option Addr) (n : Nat) (L : List Int) : Prop :=
  L.length = 2 * n ∧ (0 < n → ∃ b, A = some ⟨b, 0, none⟩ ∧ b < B ∧ ∀ k, k < 2 * n → w.cell? ⟨b, k, none⟩ = some (.int .i64 (L.getD k 0)))
theorem RdS.below {w w' : World} {B n : Nat} {A : Option Addr} {L : List Int} (h : RdS w B A n L) (z : Below B w w') : RdS w' B A n L :=
  ⟨h.1, fun h0 => by
    obtain ⟨b, e, hb, k⟩ := h.2 h0
    exact ⟨b, e, hb, fun i hi => (z.cell (p := ⟨b, i, none⟩) hb).trans (k i hi)⟩⟩
theorem RdS.up {w : World} {B B' n : Nat} {A : Option Addr} {L : List Int} (h : RdS w B A n L) (z : B ≤ B') : RdS w B' A n L :=
  ⟨h.1, fun h0 => by
    obtain ⟨b, e, hb, k⟩ := h.2 h0
    exact ⟨b, e, by omega, k⟩⟩
theorem RdS.own {w : World} {base : Nat} {A : Option Addr} {n c : Nat} {L : List Int} (h : w.ownsRow base 40 2 (.slice A n c) n (I64 L)) : RdS w w.heap.size A n L := by
  have hl : L.length = 2 * n := by have := h.1; rw [I64_len] at this; omega
  refine ⟨hl, fun hn => ?_⟩
  rcases h.2 with ⟨_, h0⟩ | ⟨g, cap, cur, hv, hb, hg, _⟩
  · omega
  · simp only [Value.slice.injEq, true_and] at hv
    obtain ⟨rfl, rfl⟩ := hv
    refine ⟨g, rfl, (Array.getElem?_eq_some_iff.1 hg).1, fun k hk => ?_⟩
    rw [h.cellAt k (by omega)]
    exact I64_get L k (by omega)
theorem RdS.nil (w : World) (B : Nat) (A : Option Addr) : RdS w B A 0 [] := ⟨rfl, fun h => absurd h (by omega)⟩
theorem RdS.take {w : World} {B n : Nat} {A : Option Addr} {L : List Int} (h : RdS w B A n L) (k : Nat) (hk : k ≤ n) : RdS w B A k (L.take (2 * k)) :=
  ⟨by rw [List.length_take, h.1]; omega, fun h0 => by
    obtain ⟨b, e, hb, kk⟩ := h.2 (by omega)
    refine ⟨b, e, hb, fun i hi => ?_⟩
    rw [kk i (by omega)]
    simp [List.getD_eq_getElem?_getD, hi]⟩
/-- The kinds of the first k steps, those that there aren't left out. -/
def kindsN (L : List Int) : Nat → List Nat
  | 0 => []
  | k + 1 => if Kd (L.getD (2 * k + 1) 0) then kindsN L k ++ [(L.getD (2 * k + 1) 0).toNat] else kindsN L k
theorem kindsN_len (L : List Int) : ∀ k, (kindsN L k).length ≤ k
  | 0 => by simp [kindsN]
  | k + 1 => by
    have := kindsN_len L k
    unfold kindsN
    split
    · simp; exact this
    · omega
set_option maxHeartbeats 4000000 in
theorem wword_p (A : Option Addr) (n c B : Nat) (L : List Int) (w : World) (h : RdS w B A n L) (hB : B ≤ w.heap.size) (hn : n ≤ 300000) :
    Calls Try.prog 14 #[.slice A n c] w fun e w' => ∃ g, e = .returned (.pointer (some ⟨g, 0, none⟩)) ∧ WordAt w' w.heap.size g (kindsN L n) ∧ Below w.heap.size w w' := by
  have NP := Lib.hid (mnew_p w)
  have HZ := Lib.hid (h.up hB)
  have AP : Hid (∀ (g : Nat) (ks : List Nat) (b : Nat) (x : Int) (W : World), WordAt W w.heap.size g ks → ks.length ≤ 300000 → Blk W b 3 #[.int .i64 x] → Calls Try.prog 38 #[.pointer (some ⟨g, 0, none⟩), .slice (some ⟨b, 0, none⟩) 1 1] W fun e w' => (∃ q, e = .returned (.int .i64 q)) ∧ WordAt w' w.heap.size g (if Kd x then ks ++ [x.toNat] else ks) ∧ Below w.heap.size W w') := fun g ks b x W hw hk hb => by
    have hib : ∀ i, inBlk (some ⟨b, 0, none⟩) i → i = b := fun i ⟨a, e, h⟩ => by cases e; exact h.symm
    have P := madd_p w.heap.size g ks (some ⟨b, 0, none⟩) 1 1 [x] W (hw.sep fun i hi => by rw [hib i hi]; exact ⟨_, hb⟩) ⟨rfl, fun _ => ⟨b, 0, rfl, hb.lt, fun j hj => by
      have : j = 0 := by simp [I64] at hj; omega
      subst this
      exact hb.cell 0⟩⟩ (fun i hi => by rw [hib i hi]; exact hb.lt) (by omega)
    have e1 : (∀ y ∈ [x], Kd y) ↔ Kd x := by simp
    have e2 : toN [x] = [x.toNat] := rfl
    by_cases hx : Kd x
    · rw [if_pos (e1.2 hx), if_pos (e1.2 hx), e2] at P
      rw [if_pos hx]
      exact P.mono fun e w' ⟨h1, h2⟩ => ⟨⟨_, h1⟩, h2⟩
    · rw [if_neg (fun h => hx (e1.1 h)), if_neg (fun h => hx (e1.1 h))] at P
      rw [if_neg hx]
      exact P.mono fun e w' ⟨h1, h2⟩ => ⟨⟨_, h1⟩, h2⟩
  go_enter Try.func14, Try.ntmps14
  go_wp2_with fail
  refine NP.out.mono ?_
  rintro e w1 ⟨g, rfl, hw1, z1⟩
  have HW1 := Lib.hid hw1
  have Z1 := Lib.hid z1
  clear hw1 z1 NP
  go_wp2_with fail
  go_loopw [9] (fun i wr => ∃ k : Nat, k ≤ n ∧ i = .int .i64 k ∧ Hid (WordAt wr w.heap.size g (kindsN L k)) ∧ Hid (Below w.heap.size w wr)) (fun i _ => n - (intOf i).toNat)
  case atStart => exact ⟨0, by omega, rfl, HW1.out, Z1.out⟩
  case round =>
    obtain ⟨k, hk, rfl, HS, HB⟩ := hrel
    by_cases hlt : k < n
    · obtain ⟨b, rfl, hbB, kk⟩ := (HZ.out.below HB.out).2 (by omega)
      have x0 := kk (2 * k) (by omega)
      have x1 := kk (2 * k + 1) (by omega)
      obtain ⟨y, hy⟩ : ∃ y, y = L.getD (2 * k + 1) 0 := ⟨_, rfl⟩
      obtain ⟨d, hd⟩ : ∃ d, d = L.getD (2 * k) 0 := ⟨_, rfl⟩
      have HN : Hid (kindsN L (k + 1) = if Kd y then kindsN L k ++ [y.toNat] else kindsN L k) := by show _ = _; rw [hy]; rfl
      rw [← hy] at x1
      rw [← hd] at x0
      rw [show 2 * k = k * 2 by omega] at x0 x1
      clear kk hy hd
      have hs1 : (wr.alloc (.cells #[.int .i64 d, .int .i64 y] 40)).heap.size = wr.heap.size + 1 := by simp
      have ZA := (Below.refl wr.heap.size wr).alloc (Nat.le_refl _) (.cells #[.int .i64 d, .int .i64 y] 40)
      have ZB := ZA.alloc ZA.size (.cells #[.int .i64 y] 3)
      have BL := Blk.new (wr.alloc (.cells #[.int .i64 d, .int .i64 y] 40)) 3 #[.int .i64 y]
      rw [hs1] at BL
      have A1 := Lib.hid (AP.out g _ _ y _ (HS.out.below ZB) (Nat.le_trans (kindsN_len L k) (by omega)) BL)
      have HB1 := Lib.hid (HB.out.trans (ZB.mono HB.out.size))
      rw [← HN.out] at A1
      clear ZA ZB BL HS hs1 HN
      go_wp2_with fail
      refine A1.out.mono ?_
      rintro e w2 ⟨⟨q, rfl⟩, hw2, z2⟩
      have HW2 := Lib.hid hw2
      have HB2 := Lib.hid (HB1.out.trans z2)
      clear hw2 z2 A1 HB HB1 x0 x1
      go_wp2_with fail
      go_roundw
      case rel => exact ⟨k + 1, by omega, by go_num, HW2.out, HB2.out⟩
      case measure => simp [intOf]; omega
    · obtain rfl : k = n := by omega
      go_wp2_with fail
      go_ret
      exact ⟨g, rfl, HS.out, HB.out⟩
end Go.Proofs.Ythkocodajjapmaa
