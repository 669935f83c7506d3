/- Bits as bytes, as few as can be: the program's Pack. -/
import Derived.Test.YtcefohjddbjcjaaZPkNum
import Derived.Test.YtcefohjddbjcjaaZCTop
import Derived.Test.YtcefohjddbjcjaaZBText
namespace Go.Proofs.Ytcefohjddbjcjaa
set_option maxRecDepth 20000
open Go.RowKit
set_option linter.unusedVariables false
/-- As they are. -/
def stB (l : List Nat) : List Nat := 0 :: bytesL (val l) l.length
/-- The code of order k. -/
def cdB (l : List Nat) (k : Nat) : List Nat := (k + 1) :: (numB (codeOf k l).length ++ bytesL (val (codeOf k l)) (codeOf k l).length)
/-- The shortest of as they are and the first k orders. -/
def bestB (l : List Nat) : Nat → List Nat
  | 0 => stB l
  | k + 1 => if (cdB l k).length < (bestB l k).length then cdB l k else bestB l k
def packB (l : List Nat) (plain : Bool) : List Nat := if plain = true then stB l else bestB l 9
theorem stB_len (l : List Nat) : (stB l).length = 1 + (l.length + 7) / 8 := by simp [stB, bytesL_len]; omega
theorem stB_lt (l : List Nat) : ∀ b ∈ stB l, b < 256 := fun b hb => by
  rcases List.mem_cons.1 hb with rfl | hb
  · decide
  · exact bytesL_lt _ _ b hb
theorem cdB_lt (l : List Nat) {k : Nat} (hk : k ≤ 8) : ∀ b ∈ cdB l k, b < 256 := fun b hb => by
  rcases List.mem_cons.1 hb with rfl | hb
  · omega
  · rcases List.mem_append.1 hb with hb | hb
    · exact numB_lt _ b hb
    · exact bytesL_lt _ _ b hb
theorem bestB_is (l : List Nat) : ∀ k, bestB l k = stB l ∨ ∃ j, j < k ∧ bestB l k = cdB l j
  | 0 => .inl rfl
  | k + 1 => by
    unfold bestB
    split
    · exact .inr ⟨k, by omega, rfl⟩
    · rcases bestB_is l k with h | ⟨j, hj, h⟩
      · exact .inl h
      · exact .inr ⟨j, by omega, h⟩
theorem bestB_len (l : List Nat) : ∀ k, (bestB l k).length ≤ (stB l).length
  | 0 => Nat.le_refl _
  | k + 1 => by
    have := bestB_len l k
    unfold bestB
    split <;> omega
theorem packB_len (l : List Nat) (plain : Bool) : (packB l plain).length ≤ 1 + (l.length + 7) / 8 := by
  rw [← stB_len]
  unfold packB
  split
  · exact Nat.le_refl _
  · exact bestB_len l 9
theorem packB_lt (l : List Nat) (plain : Bool) : ∀ b ∈ packB l plain, b < 256 := by
  unfold packB
  split
  · exact stB_lt l
  · rcases bestB_is l 9 with h | ⟨j, hj, h⟩
    · rw [h]; exact stB_lt l
    · rw [h]; exact cdB_lt l (by omega)
/-- What a vector is asked for when it is packed. -/
structure Packs (w : World) (vp : Option Addr) (l : List Nat) : Prop where
  by_ : ∀ W, Below w.heap.size w W → Calls Try.prog 22 #[.pointer vp] W (NewU8 W (bytesL (val l) l.length))
  en : ∀ (k : Nat) (W : World), k ≤ 8 → Below w.heap.size w W → Calls Try.prog 35 #[.pointer vp, .int .i64 (k : Int)] W fun e w' => ∃ g A, e = .returned (.tuple #[.pointer (some ⟨g, 0, none⟩), .int .i64 0]) ∧ VecAt w' g (val (codeOf k l)) (codeOf k l).length A ∧ Below W.heap.size W w'
theorem Packs.below {w w' : World} {vp : Option Addr} {l : List Nat} (h : Packs w vp l) (m : Below w.heap.size w w') : Packs w' vp l :=
  ⟨fun W b => h.by_ W (m.trans (b.mono m.size)), fun k W hk b => h.en k W hk (m.trans (b.mono m.size))⟩
theorem Packs.of {w : World} {g B : Nat} {A : Option Addr} {l : List Nat} (h : VecB w B g (val l) l.length A) (hb : Bin l) (hl : l.length ≤ 29000) : Packs w (some ⟨g, 0, none⟩) l :=
  ⟨fun W m => bytes_p g _ _ B A W (VecB.below h m), fun k W hk m => (Encode_p k g l B A W (VecB.below h m) hb hk hl).mono fun e w' ⟨g', A', h1, h2, h3, _⟩ => ⟨g', A', h1, h2, h3⟩⟩
set_option maxHeartbeats 2000000 in
theorem stored_p (vp : Option Addr) (l : List Nat) (w : World) (h : Packs w vp l) (hl : l.length ≤ 1000000) :
    Calls Try.prog 25 #[.pointer vp] w (NewU8 w (stB l)) := by
  obtain ⟨i0, hi0, hz0, hz1, hz2⟩ := info_parts info_u8
  have hown := World.ownsRow_lit (base := w.heap.size) (e := 5) (size := 1) w #[.int .u8 0] 1 (Nat.le_refl _) (by decide) rfl
  have bb := (Below.refl w.heap.size w).alloc (Nat.le_refl _) (.cells #[.int .u8 0] 5)
  have BY := Lib.hid (h.by_ _ bb)
  obtain ⟨Y, hY⟩ : ∃ Y, Y = bytesL (val l) l.length := ⟨_, rfl⟩
  have hYl : Y.length ≤ 125001 := by rw [hY, bytesL_len]; omega
  have HS : Hid (stB l = 0 :: Y) := by show _ = _; rw [hY]; rfl
  rw [← hY] at BY
  obtain ⟨ln, hln⟩ : ∃ ln, ln = Y.length := ⟨_, rfl⟩
  rw [← hln] at hYl
  have HLN := Lib.hid hln
  have HO := Lib.hid hown
  have HBB := Lib.hid bb
  clear h hY hown bb hln hl
  go_enter Try.func25, Try.ntmps25
  go_wp2_with fail
  refine BY.out.mono ?_
  rintro e w2 ⟨A2, c2, rfl, hc2, hm2, ho2, b2⟩
  rw [← HLN.out] at ho2 hc2 ⊢
  have rd2 := Rd.ofOwn ho2
  have hB2 := HBB.out.trans (b2.mono HBB.out.size)
  have hO2 := own_below HO.out b2
  have t1 : 1 + ln ≤ maxLen := by simp only [maxLen]; omega
  have t2 : (1 + ln) * 1 ≤ 140737488355328 := by omega
  have t3 := hB2.size
  go_wp2_with (first
    | (at_builtin; go_loud (refine wpList_append_rd _ rfl _ _ 23 rfl w.heap.size 5 i0 (.int .u8 0) 1 Try.underlying23 hi0 hz0 hz1 hz2 rfl (.slice (some ⟨w.heap.size, 0, none⟩) 1 1) 1 (U8 [0]) rfl hO2 w2.heap.size A2 ln c2 (U8 Y) rfl rd2 (U8_one _) t1 t2 t3 ?_)))
  intro A6 c6 w6 hc6 hm6 hown6 hg6 _
  have HB6 : Hid (Below w.heap.size w w6) := hB2.trans (Below.appended hO2 hg6 t3)
  have HO6 := Lib.hid hown6
  have HLL : Hid ((0 :: Y).length = 1 + ln) := by show _ = _; rw [List.length_cons, HLN.out]; omega
  clear hown6 hg6 rd2 ho2
  go_wp2_with fail
  go_ret
  refine NewU8.mk rfl ?_ HB6.out
  rw [HS.out, HLL.out]
  exact HO6.out
set_option maxHeartbeats 4000000 in
theorem coded_p (vp : Option Addr) (l : List Nat) (k : Nat) (w : World) (h : Packs w vp l) (hk : k ≤ 8) :
    Calls Try.prog 26 #[.pointer vp, .int .i64 (k : Int)] w (NewU8 w (cdB l k)) := by
  obtain ⟨i0, hi0, hz0, hz1, hz2⟩ := info_parts info_u8
  have EN := Lib.hid (h.en k w hk (Below.refl _ _))
  have HS : Hid (cdB l k = (k + 1) :: (numB (codeOf k l).length ++ bytesL (val (codeOf k l)) (codeOf k l).length)) := rfl
  generalize codeOf k l = C at *
  obtain ⟨k1, hk1⟩ : ∃ k1, k1 = k + 1 := ⟨_, rfl⟩
  have e1 : (1 : Int) + (k : Int) = (k1 : Int) := by omega
  have e2 : (k1 : Int) % 256 = (k1 : Int) := by omega
  rw [← hk1] at HS
  clear h hk1
  go_enter Try.func26, Try.ntmps26
  go_wp2_with fail
  refine EN.out.mono ?_
  rintro e w2 ⟨g, A2, rfl, hv, b2⟩
  have hC := hv.2.1
  have bb := (Below.refl w2.heap.size w2).alloc (Nat.le_refl _) (.cells #[.int .u8 (k1 : Int)] 5)
  have HV := Lib.hid (VecB.below hv bb)
  have LN := Lib.hid (blen_p g _ _ A2 _ HV.out)
  have B2 := Lib.hid (b2.trans (bb.mono b2.size))
  have NP := Lib.hid (pkNum_p (some ⟨w2.heap.size, 0, none⟩) 1 1 C.length [k1] _ ((Rd.new w2 5 #[.int .u8 (k1 : Int)] 1 (U8 [k1]) (by simp [U8]) (by simp)).up (by simp)) (by omega) (by omega) (by omega))
  obtain ⟨cl, hcl⟩ : ∃ cl, cl = C.length := ⟨_, rfl⟩
  have HCL := Lib.hid hcl
  rw [← hcl] at LN NP HV hC HS
  have h10 : ([k1] ++ numB cl).length ≤ 11 := by
    have := numB_len10 (x := cl) (by omega)
    simp; omega
  have HX : Hid ((k1 :: (numB cl ++ bytesL (val C) cl)) = ([k1] ++ numB cl) ++ bytesL (val C) cl) := by show _ = _; simp
  rw [HX.out] at HS
  generalize [k1] ++ numB cl = N at *
  obtain ⟨nl, hnl⟩ : ∃ nl, nl = N.length := ⟨_, rfl⟩
  have HNL := Lib.hid hnl
  rw [← hnl] at h10
  clear hv b2 bb EN hcl HX hnl
  go_wp2_with fail
  refine LN.out.mono ?_
  rintro e w3 ⟨rfl, rfl⟩
  go_wp2_with fail
  refine NP.out.mono ?_
  rintro e w3 ⟨A3, c3, rfl, hc3, hm3, ho3, b3⟩
  rw [← HNL.out] at ho3 hc3 ⊢
  have BY := Lib.hid (bytes_p g _ _ _ A2 w3 (VecB.below HV.out b3))
  have B3 := Lib.hid (B2.out.trans (b3.mono B2.out.size))
  have HO3 : Hid (w3.ownsRow w.heap.size 5 1 (.slice A3 nl c3) nl (U8 N)) := ho3.base_le' B2.out.size
  obtain ⟨Y, hY⟩ : ∃ Y, Y = bytesL (val C) cl := ⟨_, rfl⟩
  have hYl : Y.length ≤ 125001 := by rw [hY, bytesL_len]; omega
  rw [← hY] at BY HS
  obtain ⟨ln, hln⟩ : ∃ ln, ln = Y.length := ⟨_, rfl⟩
  rw [← hln] at hYl
  have HLN := Lib.hid hln
  clear hY ho3 hc3 hm3 b3 NP LN hln
  go_wp2_with fail
  refine BY.out.mono ?_
  rintro e w4 ⟨A4, c4, rfl, hc4, hm4, ho4, b4⟩
  rw [← HLN.out] at ho4 hc4 ⊢
  have rd4 := Rd.ofOwn ho4
  have hB4 := B3.out.trans (b4.mono B3.out.size)
  have hO4 := own_below HO3.out b4
  have t1 : nl + ln ≤ maxLen := by simp only [maxLen]; omega
  have t2 : (nl + ln) * 1 ≤ 140737488355328 := by omega
  have t3 := hB4.size
  go_wp2_with (first
    | (at_builtin; go_loud (refine wpList_append_rd _ rfl _ _ 23 rfl w.heap.size 5 i0 (.int .u8 0) 1 Try.underlying23 hi0 hz0 hz1 hz2 rfl (.slice A3 nl c3) nl (U8 N) rfl hO4 w4.heap.size A4 ln c4 (U8 Y) rfl rd4 (U8_one _) t1 t2 t3 ?_)))
  intro A6 c6 w6 hc6 hm6 hown6 hg6 _
  have HB6 : Hid (Below w.heap.size w w6) := hB4.trans (Below.appended hO4 hg6 t3)
  rw [← U8_append] at hown6
  have HO6 := Lib.hid hown6
  have HLL : Hid ((N ++ Y).length = nl + ln) := by show _ = _; rw [List.length_append, HNL.out, HLN.out]
  clear hown6 hg6 rd4 ho4
  go_wp2_with fail
  go_ret
  refine NewU8.mk rfl ?_ HB6.out
  rw [HS.out, HLL.out]
  exact HO6.out
theorem bestB_le (l : List Nat) (k : Nat) (h : l.length ≤ 1000000) : (bestB l k).length ≤ 200000 := by
  have := bestB_len l k
  rw [stB_len] at this
  omega
set_option maxHeartbeats 4000000 in
theorem pack_p (vp : Option Addr) (l : List Nat) (plain : Bool) (w : World) (h : Packs w vp l) (hl : l.length ≤ 1000000) :
    Calls Try.prog 16 #[.pointer vp, .bool plain] w (NewU8 w (packB l plain)) := by
  have H := Lib.hid h
  have ST := Lib.hid (stored_p vp l w h hl)
  have hcd := Lib.hid (fun k => bestB_le l k hl)
  clear h hl
  go_enter Try.func16, Try.ntmps16
  go_wp2_with fail
  refine ST.out.mono ?_
  rintro e w1 ⟨A1, c1, rfl, hc1, hm1, ho1, b1⟩
  have HO1 := Lib.hid ho1
  have B1 := Lib.hid b1
  cases plain
  · have HPK : Hid (packB l false = bestB l 9) := by show _ = _; simp [packB]
    obtain ⟨ln, hln⟩ : ∃ ln, ln = (stB l).length := ⟨_, rfl⟩
    have HLN := Lib.hid hln
    rw [← hln] at HO1 hc1 ⊢
    clear ho1 b1 ST hln
    go_wp2_with fail
    go_loopw [5, 6] (fun s u wr => ∃ (k ln cv : Nat) (Av : Option Addr), k ≤ 9 ∧ u = .int .i64 (k : Int) ∧ s = .slice Av ln cv ∧ Hid (ln = (bestB l k).length) ∧ ln ≤ cv ∧ cv ≤ maxLen ∧ Hid (wr.ownsRow w.heap.size 5 1 (.slice Av ln cv) ln (U8 (bestB l k))) ∧ Hid (Below w.heap.size w wr)) (fun _ u _ => 9 - (intOf u).toNat)
    case atStart => exact ⟨0, ln, c1, A1, by omega, rfl, rfl, HLN.out, hc1, hm1, HO1.out, B1.out⟩
    case round =>
      clear HO1 B1 hc1 hm1
      obtain ⟨k, ln, cv, Av, hk, rfl, rfl, hln, hlc, hcm, ho, hb⟩ := hrel
      by_cases hlt : k ≤ 8
      · have CD := Lib.hid (coded_p vp l k wr (H.out.below hb.out) hlt)
        have hki : (k : Int) ≤ 8 := by omega
        go_wp2_with fail
        refine CD.out.mono ?_
        rintro e w2 ⟨A2, c2, rfl, hc2, hm2, ho2, b2⟩
        obtain ⟨m, hm⟩ : ∃ m, m = (cdB l k).length := ⟨_, rfl⟩
        have HM := Lib.hid hm
        rw [← hm] at ho2 hc2 ⊢
        have HO2 : Hid (w2.ownsRow w.heap.size 5 1 (.slice A2 m c2) m (U8 (cdB l k))) := ho2.base_le' hb.out.size
        have HO : Hid (w2.ownsRow w.heap.size 5 1 (.slice Av ln cv) ln (U8 (bestB l k))) := own_below ho.out b2
        have B2 := Lib.hid (hb.out.trans (b2.mono hb.out.size))
        clear ho2 b2 CD ho hb hm
        by_cases hc : m < ln
        · have NX : Hid (bestB l (k + 1) = cdB l k) := by show _ = _; rw [bestB, if_pos (by rw [← HM.out, ← hln.out]; exact hc)]
          have hci : (m : Int) < (ln : Int) := by omega
          go_wp2_with fail
          go_roundw
          case rel => exact ⟨k + 1, m, c2, A2, by omega, by go_num, rfl, by show _ = _; rw [NX.out, HM.out], hc2, hm2, by show World.ownsRow _ _ _ _ _ _ _; rw [NX.out]; exact HO2.out, B2.out⟩
          case measure => simp [intOf]; omega
        · have NX : Hid (bestB l (k + 1) = bestB l k) := by show _ = _; rw [bestB, if_neg (by rw [← HM.out, ← hln.out]; exact hc)]
          have hci : ¬ (m : Int) < (ln : Int) := by omega
          go_wp2_with fail
          go_roundw
          case rel => exact ⟨k + 1, ln, cv, Av, by omega, by go_num, rfl, by show _ = _; rw [NX.out, hln.out], hlc, hcm, by show World.ownsRow _ _ _ _ _ _ _; rw [NX.out]; exact HO.out, B2.out⟩
          case measure => simp [intOf]; omega
      · obtain rfl : k = 9 := by omega
        go_wp2_with fail
        go_ret
        refine NewU8.mk rfl ?_ hb.out
        rw [HPK.out, ← hln.out]
        exact ho.out
  · have HPK : Hid (packB l true = stB l) := by show _ = _; simp [packB]
    clear ho1 b1 ST
    go_wp2_with fail
    go_ret
    refine NewU8.mk rfl ?_ B1.out
    rw [HPK.out]
    exact HO1.out
end Go.Proofs.Ytcefohjddbjcjaa
