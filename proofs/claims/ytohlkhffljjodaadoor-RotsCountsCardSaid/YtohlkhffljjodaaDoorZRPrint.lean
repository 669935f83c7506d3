/- A map's text: numbers, lines, vertices. -/
import Derived.Test.YtohlkhffljjodaaDoorZRLaid
import Derived.Test.YtohlkhffljjodaaDoorZRShelf2
import Derived.Lib.OthersKept
import Derived.Lib.BufferKept
import Derived.Lib.ItoaLen
namespace Go.Proofs.YtohlkhffljjodaaDoor
open Go.RowKit
set_option linter.unusedVariables false
set_option maxRecDepth 20000

def decB (x : Int) : List Int := (Lib.itoa x).map fun (b : UInt8) => (b.toNat : Int)
theorem decB_cells (x : Int) : Z8 (decB x) = Lib.byteCells (Lib.itoa x) := by
  unfold Z8 decB Lib.byteCells
  rw [List.map_map]; rfl
theorem Z8_append (l m : List Int) : Z8 (l ++ m) = Z8 l ++ Z8 m := by simp [Z8]
/-- The first k numbers of a line, without its end. -/
def preB (zs : List Int) : Nat → List Int
  | 0 => []
  | k + 1 => preB zs k ++ (if k = 0 then [] else [32]) ++ decB (zs.getD k 0)
def lineB (zs : List Int) : List Int := preB zs zs.length ++ [10]
theorem own_kept {w w' : World} {base : Nat} {t : TypeId} {n : Nat} {v : Value} {xs : List Value} (h : w.ownsRow base t 1 v n xs) (k : Lib.OthersKept 5 none w w') (ht : t ≠ 5) : w'.ownsRow base t 1 v n xs := by
  refine ⟨h.1, ?_⟩
  rcases h.2 with h' | ⟨g, cap, cur, rfl, hb, hg, rest⟩
  · exact .inl h'
  · refine .inr ⟨g, cap, cur, rfl, hb, k g _ hg (by simp) (fun c fz e => ?_), rest⟩
    simp only [Obj.cells.injEq] at e
    exact ht e.2.1
theorem kept_grown {w w' : World} {base : Nat} {v : Value} {n : Nat} {xs : List Value} (h : w.ownsRow base 5 1 v n xs) (g : w.grownBy w' v.ownBlock) : Lib.OthersKept 5 none w w' := by
  intro k o hk _ ho
  have hlt : k < w.heap.size := (Array.getElem?_eq_some_iff.1 hk).1
  rw [← hk]
  refine (Mod.ofGrown g).block k hlt fun e => ?_
  rcases h.2 with ⟨rfl, _⟩ | ⟨b, cap, cur, rfl, hb, hg, rest⟩
  · simp [Value.ownBlock] at e
  · simp [Value.ownBlock] at e
    subst e
    rw [hg] at hk
    exact ho _ _ (Option.some.inj hk).symm
theorem kept_below {w w' : World} (h : Below w.heap.size w w') : Lib.OthersKept 5 none w w' := (Lib.OthersKept.refl _ _ w).below h
theorem appint_p (B n : Nat) (i : Int) (sv : Value) (X : List Int) (w : World) (h0 : -9223372036854775808 ≤ i) (h1 : i ≤ 9223372036854775807) (hown : w.ownsRow B 5 1 sv n (Z8 X)) (hB : B ≤ w.heap.size) (hlim : n + 21 ≤ 140737488355328)
    (htab : Lib.TabBelow Tryd.prog B w "internal/strconv.uint64pow10" .u64 Lib.pow10Tab) :
    Calls Tryd.prog 42 #[sv, .int .i64 i, .int .i64 10] w fun e w' => ∃ A' c', e = .returned (.slice A' (n + (decB i).length) c') ∧ n + (decB i).length ≤ c' ∧ c' ≤ maxLen ∧ w'.ownsRow B 5 1 (.slice A' (n + (decB i).length) c') (n + (decB i).length) (Z8 (X ++ decB i)) ∧ Below B w w' ∧ Lib.OthersKept 5 none w w' := by
  refine (Any.strconv_AppendInt_10 Tryd.lays176 B n i h0 h1 sv (Z8 X) w hown hB hlim htab).mono ?_
  rintro e w' ⟨v', rfl, ho, hb, hk⟩
  have el : (Lib.itoa i).length = (decB i).length := by simp [decB]
  have ho' : w'.ownsRow B 5 1 v' (n + (decB i).length) (Z8 (X ++ decB i)) := by
    rw [Z8_append, decB_cells, ← el]; exact ho
  obtain ⟨A', c', rfl, h1, h2⟩ := own_form ho'
  exact ⟨A', c', rfl, h1, h2, ho', hb, hk⟩
theorem decB_len (i : Int) (h0 : -9223372036854775808 ≤ i) (h1 : i ≤ 9223372036854775807) : (decB i).length ≤ 21 := by
  have : (decB i).length = (Lib.itoa i).length := by simp [decB]
  rw [this]; exact Lib.itoa_length_le i h0 h1
theorem preB_len {zs : List Int} (hz : ∀ k, -9223372036854775808 ≤ zs.getD k 0 ∧ zs.getD k 0 ≤ 9223372036854775807) : ∀ k, (preB zs k).length ≤ 22 * k
  | 0 => by simp [preB]
  | k + 1 => by
    have ih := preB_len hz k
    have := decB_len _ (hz k).1 (hz k).2
    unfold preB
    rw [List.length_append, List.length_append]
    split
    · rw [List.length_nil]; omega
    · rw [List.length_singleton]; omega
/-- A text of the call's own, longer by Y. -/
def TextPost (B : Nat) (w : World) (X : List Int) (e : Ending) (w' : World) : Prop :=
  ∃ A c, e = .returned (.slice A X.length c) ∧ X.length ≤ c ∧ c ≤ maxLen ∧ w'.ownsRow B 5 1 (.slice A X.length c) X.length (Z8 X) ∧ Below B w w' ∧ Lib.OthersKept 5 none w w'
set_option maxHeartbeats 4000000 in
theorem line_p (B B2 : Nat) (A0 : Option Addr) (c0 : Nat) (X : List Int) (A : Option Addr) (n c : Nat) (zs : List Int) (w : World) (hown : w.ownsRow B 5 1 (.slice A0 X.length c0) X.length (Z8 X)) (hB : B ≤ w.heap.size)
    (hzs : w.ownsRow B2 3 1 (.slice A n c) n (I64 zs)) (hz : ∀ k, -9223372036854775808 ≤ zs.getD k 0 ∧ zs.getD k 0 ≤ 9223372036854775807) (hlim : X.length + 22 * n + 22 ≤ 140737488355328)
    (htab : Lib.TabBelow Tryd.prog B w "internal/strconv.uint64pow10" .u64 Lib.pow10Tab) :
    Calls Tryd.prog 25 #[.slice A0 X.length c0, .slice A n c] w (TextPost B w (X ++ lineB zs)) := by
  obtain ⟨i0, hi0, hz0, hz1, hz2⟩ := info_parts info_u8
  have hln : zs.length = n := by have := hzs.1; rw [I64_len] at this; omega
  have HOWN := Lib.hid hown
  have HZS := Lib.hid hzs
  have HZ := Lib.hid hz
  have HT := Lib.hid htab
  have HLN := Lib.hid hln
  have HPL := Lib.hid (preB_len hz)
  have hn9 : n ≤ 9223372036854775807 := by omega
  clear hown hzs hz htab hln
  go_enter Tryd.func25, Tryd.ntmps25
  go_wp2_with fail
  go_loopw [0, 9] (fun t i wr => ∃ (k : Nat) (A' : Option Addr) (c' : Nat), i = .int .i64 (k : Int) ∧ k ≤ n ∧ t = .slice A' (X ++ preB zs k).length c' ∧ Hid (wr.ownsRow B 5 1 (.slice A' (X ++ preB zs k).length c') (X ++ preB zs k).length (Z8 (X ++ preB zs k))) ∧ Hid (Below B w wr) ∧ Hid (Lib.OthersKept 5 none w wr)) (fun _ i _ => n - (intOf i).toNat)
  case atStart => exact ⟨0, A0, c0, rfl, by omega, by simp [preB], by show World.ownsRow _ _ _ _ _ _ _; simpa [preB] using HOWN.out, Below.refl _ _, Lib.OthersKept.refl _ _ _⟩
  case round =>
    obtain ⟨k, A', c', rfl, hk, rfl, ho, hb, hkp⟩ := hrel
    have hszB : B ≤ wr.heap.size := Nat.le_trans hB hb.out.size
    have hpl : (X ++ preB zs k).length ≤ X.length + 22 * k := by rw [List.length_append]; have := HPL.out k; omega
    generalize hY : X ++ preB zs k = Y at *
    have HY := Lib.hid hY
    clear hY
    by_cases hlt : k < n
    · have hltI : (k : Int) < (n : Int) := by omega
      obtain ⟨b, o, rfl, hbw, kk⟩ := (Rd.ofOwn (own_kept HZS.out hkp.out (by decide))).i64 (by omega)
      have t1 := kk k hlt
      have hv := HZ.out k
      have EN : Hid (∀ x, zs.getD k 0 = x → X ++ preB zs (k + 1) = Y ++ (if k = 0 then [] else [32]) ++ decB x) := fun x e => by
        show X ++ (preB zs k ++ _ ++ _) = _
        rw [← HY.out, e]; simp
      clear kk hbw
      generalize hx : zs.getD k 0 = x at *
      have ENx := Lib.hid (EN.out x rfl)
      clear EN hx
      by_cases h0 : k = 0
      · subst h0
        rw [Nat.add_zero] at t1
        have AI := Lib.hid (appint_p B Y.length x (.slice A' Y.length c') Y wr hv.1 hv.2 ho.out hszB (by omega) (HT.out.on hb.out))
        go_wp2_with fail
        refine AI.out.mono ?_
        rintro e w2 ⟨A2, c2, rfl, q1, q2, ho2, hb2, hk2⟩
        have HO2 := Lib.hid ho2
        have HB2 : Hid (Below B w w2) := hb.out.trans hb2
        have HK2 : Hid (Lib.OthersKept 5 none w w2) := hkp.out.trans hk2
        clear ho2 hb2 hk2 AI
        go_wp2_with fail
        go_roundw
        case rel =>
          have e : X ++ preB zs (0 + 1) = Y ++ decB x := by rw [ENx.out]; simp
          refine ⟨0 + 1, A2, c2, by go_num, by omega, by rw [e, List.length_append], ?_, HB2.out, HK2.out⟩
          show World.ownsRow _ _ _ _ _ _ _
          rw [e, List.length_append]; exact HO2.out
        case measure => simp [intOf]; omega
      · have hk0 : (0 : Int) < (k : Int) := by omega
        have hrd := Rd.new wr 5 #[.int .u8 32] 1 (Z8 [32]) rfl rfl
        have hown1 := ho.out.alloc (.cells #[.int .u8 32] 5)
        have ho1 := Lib.hid ho.out
        have hg1 := (Below.refl B wr).alloc hszB (.cells #[.int .u8 32] 5)
        have HG1 := Lib.hid hg1
        clear ho hg1
        go_wp2_with (first
          | (at_builtin; refine wpList_append_rd _ rfl _ _ 22 rfl B 5 i0 (.int .u8 0) 1 Tryd.underlying22 hi0 hz0 hz1 hz2 rfl _ _ _ rfl hown1 _ _ 1 1 _ rfl hrd (Z8_one _) ?c1 ?c2 ?c3 ?_))
        case c1 => simp only [maxLen]; omega
        case c2 => omega
        case c3 => simp; omega
        intro A2 c2 w2 q1 q2 hown2 hgr hat
        have hb2 : Below B wr w2 := HG1.out.trans (Below.appended hown1 hgr (by simp; omega))
        have hk2 : Lib.OthersKept 5 none wr w2 := (kept_below ((Below.refl _ _).alloc (Nat.le_refl _) _)).trans (kept_grown hown1 hgr)
        rw [← Z8_append] at hown2
        have HB2 : Hid (Below B w w2) := hb.out.trans hb2
        have HK2 : Hid (Lib.OthersKept 5 none w w2) := hkp.out.trans hk2
        have hszB2 : B ≤ w2.heap.size := Nat.le_trans hB HB2.out.size
        have AI := Lib.hid (appint_p B (Y.length + 1) x (.slice A2 (Y.length + 1) c2) (Y ++ [32]) w2 hv.1 hv.2 hown2 hszB2 (by omega) (HT.out.on HB2.out))
        clear hown1 hrd hown2 hgr hat hb2 hk2 HG1
        go_wp2_with fail
        refine AI.out.mono ?_
        rintro e w3 ⟨A3, c3, rfl, q3, q4, ho3, hb3, hk3⟩
        have HO3 := Lib.hid ho3
        have HB3 : Hid (Below B w w3) := HB2.out.trans hb3
        have HK3 : Hid (Lib.OthersKept 5 none w w3) := HK2.out.trans hk3
        clear ho3 hb3 hk3 AI
        go_wp2_with fail
        go_roundw
        case rel =>
          have e : X ++ preB zs (k + 1) = Y ++ [32] ++ decB x := by rw [ENx.out, if_neg h0]
          have e2 : (X ++ preB zs (k + 1)).length = Y.length + 1 + (decB x).length := by rw [e]; simp; omega
          refine ⟨k + 1, A3, c3, by go_num, by omega, by rw [e2], ?_, HB3.out, HK3.out⟩
          show World.ownsRow _ _ _ _ _ _ _
          rw [e2, e]; exact HO3.out
        case measure => simp [intOf]; omega
    · obtain rfl : k = n := by omega
      have hrd := Rd.new wr 5 #[.int .u8 10] 1 (Z8 [10]) rfl rfl
      have hown1 := ho.out.alloc (.cells #[.int .u8 10] 5)
      have hg1 := (Below.refl B wr).alloc hszB (.cells #[.int .u8 10] 5)
      have HG1 := Lib.hid hg1
      clear ho hg1
      go_wp2_with (first
        | (at_builtin; refine wpList_append_rd _ rfl _ _ 22 rfl B 5 i0 (.int .u8 0) 1 Tryd.underlying22 hi0 hz0 hz1 hz2 rfl _ _ _ rfl hown1 _ _ 1 1 _ rfl hrd (Z8_one _) ?c1 ?c2 ?c3 ?_))
      case c1 => simp only [maxLen]; omega
      case c2 => omega
      case c3 => simp; omega
      intro A2 c2 w2 q1 q2 hown2 hgr hat
      have hb2 : Below B wr w2 := HG1.out.trans (Below.appended hown1 hgr (by simp; omega))
      have hk2 : Lib.OthersKept 5 none wr w2 := (kept_below ((Below.refl _ _).alloc (Nat.le_refl _) _)).trans (kept_grown hown1 hgr)
      rw [← Z8_append] at hown2
      have HB2 : Hid (Below B w w2) := hb.out.trans hb2
      have HK2 : Hid (Lib.OthersKept 5 none w w2) := hkp.out.trans hk2
      have HO2 := Lib.hid hown2
      clear hown1 hrd hown2 hgr hat hb2 hk2 HG1
      go_wp2_with fail
      go_ret
      have e : X ++ lineB zs = Y ++ [10] := by unfold lineB; rw [HLN.out, ← HY.out]; simp
      have e2 : (X ++ lineB zs).length = Y.length + 1 := by rw [e]; simp
      refine ⟨A2, c2, by rw [e2]; rfl, by rw [e2]; exact q1, q2, ?_, HB2.out, HK2.out⟩
      rw [e2, e]; exact HO2.out
end Go.Proofs.YtohlkhffljjodaaDoor
