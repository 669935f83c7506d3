/- Lines of darts, turned to Sigma. -/
import Derived.Test.YtohlkhffljjodaaDoorZRRead
import Derived.Test.YtohlkhffljjodaaDoorZENam
namespace Go.Proofs.YtohlkhffljjodaaDoor
open Go.RowKit
set_option linter.unusedVariables false
set_option maxRecDepth 20000

def sumTo (rs : List (List Int)) : Nat → Nat
  | 0 => 0
  | k + 1 => sumTo rs k + (rs.getD k []).length
def putN (row : List Int) (n : Nat) (t : List Int) : Nat → Option (List Int)
  | 0 => some t
  | i + 1 => match putN row n t i with
    | none => none
    | some s => if (n : Int) ≤ row.getD i 0 ∨ s.getD (row.getD i 0).toNat 0 ≠ -1 then none else some (s.set (row.getD i 0).toNat (row.getD ((i + 1) % row.length) 0))
def putR (rs : List (List Int)) (n : Nat) : Nat → Option (List Int)
  | 0 => some (List.replicate n (-1))
  | k + 1 => match putR rs n k with
    | none => none
    | some t => putN (rs.getD k []) n t (rs.getD k []).length
/-- Sigma, if the rows are the darts of so many edges, each once. -/
def turnsR (rs : List (List Int)) (E : Int) : Option (List Int) :=
  if ((sumTo rs rs.length : Nat) : Int) = 2 * E then putR rs (sumTo rs rs.length) rs.length else none
theorem putN_none (row : List Int) (n : Nat) (t : List Int) (i : Nat) : ∀ m, i ≤ m → putN row n t i = none → putN row n t m = none := by
  intro m
  induction m with
  | zero => intro h e; obtain rfl : i = 0 := by omega
            exact e
  | succ m ih =>
    intro h e
    by_cases q : i = m + 1
    · subst q; exact e
    · unfold putN; rw [ih (by omega) e]
theorem putR_none (rs : List (List Int)) (n k : Nat) : ∀ m, k ≤ m → putR rs n k = none → putR rs n m = none := by
  intro m
  induction m with
  | zero => intro h e; obtain rfl : k = 0 := by omega
            exact e
  | succ m ih =>
    intro h e
    by_cases q : k = m + 1
    · subst q; exact e
    · unfold putR; rw [ih (by omega) e]
theorem sumTo_le (rs : List (List Int)) (k m : Nat) (h : k ≤ m) : sumTo rs k ≤ sumTo rs m := by
  induction m with
  | zero => obtain rfl : k = 0 := by omega
            exact Nat.le_refl _
  | succ m ih =>
    by_cases q : k = m + 1
    · subst q; exact Nat.le_refl _
    · exact Nat.le_trans (ih (by omega)) (Nat.le_add_right _ _)
def TurnPost (w : World) (o : Option (List Int)) (e : Ending) (w' : World) : Prop :=
  Below w.heap.size w w' ∧ match o with
  | none => e = .returned (.tuple #[.slice none 0 0, .bool false])
  | some s => ∃ A, e = .returned (.tuple #[.slice A s.length s.length, .bool true]) ∧ w'.ownsRow w.heap.size 3 1 (.slice A s.length s.length) s.length (I64 s)
/-- Each of these values is a slice that reads as its row. -/
def RowsRd (w : World) (B : Nat) (vs : List Value) (rs : List (List Int)) : Prop :=
  ∀ k, k < rs.length → ∃ A c, vs[k]? = some (.slice A (rs.getD k []).length c) ∧ Rd w B A (rs.getD k []).length (I64 (rs.getD k []))
theorem RowsRd.below {w w' : World} {B : Nat} {vs : List Value} {rs : List (List Int)} (h : RowsRd w B vs rs) (m : Below B w w') : RowsRd w' B vs rs := fun k hk => by
  obtain ⟨A, c, h1, h2⟩ := h k hk
  exact ⟨A, c, h1, h2.below m⟩
set_option maxHeartbeats 8000000 in
theorem turns_p (A : Option Addr) (n c : Nat) (E : Int) (vs : List Value) (rs : List (List Int)) (w : World) (h : Rd w w.heap.size A n vs) (hr : RowsRd w w.heap.size vs rs) (hn : rs.length = n) (hE : 0 ≤ E ∧ E < 1000000000)
    (hsum : sumTo rs n ≤ 131072) (hn2 : n ≤ 131072) (hx : ∀ k, k < n → ∀ x ∈ rs.getD k [], 0 ≤ x ∧ x < 1000000000) :
    Calls Tryd.prog 34 #[.slice A n c, .int .i64 E] w (TurnPost w (turnsR rs E)) := by
  obtain ⟨i0, hi0, hz0, hz1, hz2⟩ := info_parts info_int
  have H := Lib.hid h
  have HR := Lib.hid hr
  have HN := Lib.hid hn
  have HS := Lib.hid hsum
  have HX := Lib.hid hx
  have hmono : Hid (∀ k, k ≤ n → sumTo rs k ≤ 131072) := fun k hk => Nat.le_trans (sumTo_le rs k n hk) hsum
  obtain ⟨hE0, hE1⟩ := hE
  clear h hr hn hsum hx
  go_enter Tryd.func34, Tryd.ntmps34
  go_wp2_with fail
  go_loopw [6, 16] (fun a i wr => ∃ (k z : Nat), i = .int .i64 (k : Int) ∧ a = .int .i64 (z : Int) ∧ k ≤ n ∧ z ≤ 131072 ∧ Hid (sumTo rs k = z) ∧ w = wr) (fun _ i _ => n - (intOf i).toNat)
  case atStart => exact ⟨0, 0, rfl, rfl, by omega, by omega, rfl, by first | rfl | trivial⟩
  case round =>
    obtain ⟨k, z, rfl, rfl, hk, hz, hs, rfl⟩ := hrel
    by_cases hlt : k < n
    · have hltI : (k : Int) < (n : Int) := by omega
      obtain ⟨A3, c3, ev, q4⟩ := HR.out k (by rw [HN.out]; exact hlt)
      obtain ⟨b, o, rfl, hb, hcell⟩ := H.out.at_ (by omega)
      have t1 : w.cell? ⟨b, o + k, none⟩ = some (.slice A3 (rs.getD k []).length c3) := by
        have hkv : k < vs.length := by rw [H.out.len]; exact hlt
        rw [hcell k hkv]
        rw [List.getElem?_eq_getElem hkv] at ev
        exact ev
      have hs2 : sumTo rs (k + 1) = z + (rs.getD k []).length := by
        have := hs.out
        unfold sumTo; rw [this]
      have hz2' := hmono.out (k + 1) (by omega)
      have HS2 := Lib.hid hs2
      have hzl : z + (rs.getD k []).length ≤ 131072 := by omega
      clear ev q4 hcell hs2 hz2'
      generalize (rs.getD k []).length = m at t1 HS2 hzl
      go_wp2_with fail
      go_roundw
      case rel => exact ⟨k + 1, z + m, by go_num, by go_num, by omega, by omega, HS2.out, by first | rfl | trivial⟩
      case measure => simp [intOf]; omega
    · obtain rfl : k = n := by omega
      have hN := HN.out
      by_cases hne : (z : Int) = 2 * E
      · have HT := Lib.hid (show turnsR rs E = putR rs z k by unfold turnsR; rw [hN, hs.out, if_pos hne])
        have hneb : ((z : Int) != 2 * E) = false := by rw [hne]; simp
        have b1 : Below w.heap.size w (w.alloc (.cells #[.int .i64 (-1)] 3)) := (Below.refl _ _).alloc (Nat.le_refl _) _
        have RP := Lib.hid (repeat_p w.heap.size z 1 (-1) (w.heap.size + 1) (w.alloc (.cells #[.int .i64 (-1)] 3)) hz (Rd.new w 3 #[.int .i64 (-1)] 1 (I64 [-1]) (by simp [I64]) (by simp)) (by simp))
        have B1 := Lib.hid b1
        have hg : w.heap.size ≤ (w.alloc (.cells #[.int .i64 (-1)] 3)).heap.size := by simp
        have HG := Lib.hid hg
        clear b1 hg hN hne
        go_wp2_with fail
        refine RP.out.mono ?_
        rintro e w2 ⟨rfl, own2, b2⟩
        have B2 : Hid (Below w.heap.size w w2) := B1.out.trans (b2.mono HG.out)
        have O2 := Lib.hid own2
        clear own2 b2 RP B1
        generalize (w.alloc (.cells #[.int .i64 (-1)] 3)).heap.size = g9 at *
        have P0 : Hid (putR rs z 0 = some (List.replicate z (-1))) := rfl
        go_wp2_with fail
        go_loopw [34] (fun i wr => ∃ (q : Nat) (s : List Int), i = .int .i64 (q : Int) ∧ q ≤ k ∧ Hid (putR rs z q = some s) ∧ Hid (wr.ownsRow g9 3 1 (.slice (some ⟨g9, 0, none⟩) z z) z (I64 s)) ∧ Hid (Below w.heap.size w wr)) (fun i _ => k - (intOf i).toNat)
        case atStart => exact ⟨0, _, rfl, by omega, P0.out, O2.out, B2.out⟩
        case round =>
          obtain ⟨q, s, rfl, hq, hps, hown, hbel⟩ := hrel
          by_cases hlt : q < k
          · have hltI : (q : Int) < (k : Int) := by omega
            obtain ⟨A3, c3, ev, q4⟩ := HR.out q (by rw [HN.out]; exact hlt)
            have hrw := H.out.below hbel.out
            obtain ⟨b, o, rfl, hb, hcell⟩ := hrw.at_ (by omega)
            have t1 : wr.cell? ⟨b, o + q, none⟩ = some (.slice A3 (rs.getD q []).length c3) := by
              have hkv : q < vs.length := by rw [H.out.len]; exact hlt
              rw [hcell q hkv]
              rw [List.getElem?_eq_getElem hkv] at ev
              exact ev
            have hxr := HX.out q hlt
            have Q4 := Lib.hid q4
            have HXR := Lib.hid hxr
            have PR : Hid (∀ s', putN (rs.getD q []) z s (rs.getD q []).length = s' → putR rs z (q + 1) = s') := fun s' e => by
              show (match putR rs z q with | none => none | some t => putN (rs.getD q []) z t (rs.getD q []).length) = s'
              rw [hps.out]; exact e
            have hml : (rs.getD q []).length ≤ 131072 := by
              have e1 := hmono.out (q + 1) (by omega)
              have e2 : sumTo rs (q + 1) = sumTo rs q + (rs.getD q []).length := rfl
              omega
            clear ev q4 hcell hxr hrw
            generalize rs.getD q [] = r at *
            obtain ⟨m, hm⟩ : ∃ m, m = r.length := ⟨_, rfl⟩
            rw [← hm] at t1 Q4 PR hml
            have HM := Lib.hid hm
            clear hm
            have N0 : Hid (putN r z s 0 = some s) := rfl
            go_wp2_with fail
            go_loopw [40] (fun i wq => ∃ (j : Nat) (s' : List Int), i = .int .i64 (j : Int) ∧ j ≤ m ∧ Hid (putN r z s j = some s') ∧ Hid (wq.ownsRow g9 3 1 (.slice (some ⟨g9, 0, none⟩) z z) z (I64 s')) ∧ Hid (Below w.heap.size w wq)) (fun i _ => m - (intOf i).toNat)
            case atStart => exact ⟨0, _, rfl, by omega, N0.out, hown.out, hbel.out⟩
            case round =>
              obtain ⟨j, s', rfl, hj, hpn, hown', hbel'⟩ := hrel
              by_cases hlj : j < m
              · have hljI : (j : Int) < (m : Int) := by omega
                obtain ⟨b3, o3, e3, _, kk⟩ := (Q4.out.below hbel'.out).i64 (by omega)
                subst e3
                have c1 := kk j hlj
                have hjm : (j + 1) % m < m := Nat.mod_lt _ (by omega)
                have c2 := kk ((j + 1) % m) hjm
                have hmz : (m : Int) ≠ 0 := by omega
                have hmb : ((m : Int) == 0) = false := beq_eq_false_iff_ne.2 hmz
                have tm : ((j : Int) + 1).tmod (m : Int) = (((j + 1) % m : Nat) : Int) := by
                  rw [Int.tmod_eq_emod_of_nonneg (by omega)]; exact (Int.natCast_emod (j + 1) m).symm
                have hx0 : 0 ≤ r.getD j 0 ∧ r.getD j 0 < 1000000000 := by
                  rw [List.getD_eq_getElem?_getD, List.getElem?_eq_getElem (by rw [← HM.out]; exact hlj)]
                  exact HXR.out _ (List.getElem_mem _)
                have ST : Hid (∀ s'', (if (z : Int) ≤ r.getD j 0 ∨ s'.getD (r.getD j 0).toNat 0 ≠ -1 then none else some (s'.set (r.getD j 0).toNat (r.getD ((j + 1) % m) 0))) = s'' → putN r z s (j + 1) = s'') := fun s'' e => by
                  show (match putN r z s j with | none => none | some s => if (z : Int) ≤ r.getD j 0 ∨ s.getD (r.getD j 0).toNat 0 ≠ -1 then none else some (s.set (r.getD j 0).toNat (r.getD ((j + 1) % r.length) 0))) = s''
                  rw [hpn.out, ← HM.out]; exact e
                have NO : Hid (putN r z s (j + 1) = none → turnsR rs E = none) := fun e => by
                  rw [HT.out]
                  exact putR_none rs z (q + 1) k (by omega) (PR.out _ (putN_none r z s (j + 1) m (by omega) e))
                clear kk
                generalize (j + 1) % m = jn at *
                generalize r.getD jn 0 = y at *
                obtain ⟨x, hxe, hx9⟩ : ∃ x : Nat, r.getD j 0 = (x : Int) ∧ x < 1000000000 := ⟨(r.getD j 0).toNat, by omega, by omega⟩
                rw [hxe] at c1 ST
                rw [Int.toNat_natCast] at ST
                clear hxe hx0
                by_cases hbig : z ≤ x
                · have HRR := Lib.hid (NO.out (ST.out _ (if_pos (.inl (by omega)))))
                  have hbI : (z : Int) ≤ (x : Int) := by omega
                  clear ST NO
                  go_wp2_with fail
                  go_ret2
                  exact ⟨hbel'.out, by rw [HRR.out]; rfl⟩
                · have hsI : ¬ (z : Int) ≤ (x : Int) := by omega
                  have hxz : x < z := by omega
                  have u1 := own_cellI hown'.out x hxz
                  by_cases hu : s'.getD x 0 = -1
                  · have HP := Lib.hid (ST.out _ (if_neg (by rintro (e | e); exact hsI e; exact e hu)))
                    have fz := hown'.out.frozenAt x
                    have hle : z = s'.length := (own_lenI hown'.out).symm
                    have O9 := Lib.hid (own_setI hown'.out x y)
                    have B9 : Hid (Below w.heap.size w (wr.setCell ⟨g9, x, none⟩ (.int .i64 y))) := hbel'.out.setCell HG.out _
                    rw [hu] at u1
                    clear ST NO hle
                    go_wp2_with fail
                    go_roundw
                    case rel => exact ⟨j + 1, _, by go_num, by omega, HP.out, O9.out, B9.out⟩
                    case measure => simp [intOf]; omega
                  · have HRR := Lib.hid (NO.out (ST.out _ (if_pos (.inr hu))))
                    have hub : (s'.getD x 0 != -1) = true := bne_iff_ne.2 hu
                    generalize s'.getD x 0 = u at *
                    clear ST NO
                    go_wp2_with fail
                    go_ret2
                    exact ⟨hbel'.out, by rw [HRR.out]; rfl⟩
              · obtain rfl : j = m := by omega
                have HP := Lib.hid (PR.out _ hpn.out)
                go_wp2_with fail
                go_roundw
                case rel => exact ⟨q + 1, s', by go_num, by omega, HP.out, hown'.out, hbel'.out⟩
                case measure => simp [intOf]; omega
          · obtain rfl : q = k := by omega
            have HF := Lib.hid (HT.out.trans hps.out)
            have hsl := own_lenI hown.out
            have HSL := Lib.hid hsl
            clear hsl
            go_wp2_with fail
            go_ret2
            refine ⟨hbel.out, ?_⟩
            rw [HF.out]
            exact ⟨some ⟨g9, 0, none⟩, by rw [HSL.out]; rfl, by rw [HSL.out]; exact own_lowR hown.out HG.out⟩
      · have HRR := Lib.hid (show turnsR rs E = none by unfold turnsR; rw [hN, hs.out, if_neg hne])
        have hneb : ((z : Int) != 2 * E) = true := bne_iff_ne.2 hne
        go_wp2_with fail
        go_ret2
        exact ⟨Below.refl _ _, by rw [HRR.out]; rfl⟩
end Go.Proofs.YtohlkhffljjodaaDoor
