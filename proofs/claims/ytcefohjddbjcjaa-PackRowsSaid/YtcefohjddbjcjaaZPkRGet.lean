/- The document's GetNum. -/
import Derived.Test.YtcefohjddbjcjaaZg5
namespace Go.Proofs.Ytcefohjddbjcjaa
set_option maxRecDepth 20000
open Go.RowKit
set_option linter.unusedVariables false
def RGetPost (w : World) (bs : List Nat) (e : Ending) (w' : World) : Prop :=
  ((∃ x, Begins bs x ∧ e = .returned (.tuple #[.int .u64 (x : Int), .int .i64 ((numB x).length : Int), .bool true])) ∨
   ((∀ x, ¬ Begins bs x) ∧ e = .returned (.tuple #[.int .u64 0, .int .i64 0, .bool false]))) ∧ Below w.heap.size w w'
theorem v128_drop (l : List Nat) {r : Nat} (hr : r < l.length) : v128 (l.drop r) = l.getD r 0 % 128 + 128 * v128 (l.drop (r + 1)) := by
  rw [List.drop_eq_getElem_cons hr, v128, List.getD_eq_getElem?_getD, List.getElem?_eq_getElem hr]; rfl
theorem u64_step (V d : Nat) : ((128 * (V % 2 ^ 64)) % 2 ^ 64 + d) % 2 ^ 64 = (d + 128 * V) % 2 ^ 64 := by omega
set_option maxHeartbeats 4000000 in
theorem rpGet_p (A : Option Addr) (n c : Nat) (bs : List Nat) (w : World) (h : Rd w w.heap.size A n (U8 bs)) (hb : ∀ b ∈ bs, b < 256) (hn : n ≤ 1000000) :
    Calls Try.prog 13 #[.slice A n c] w (RGetPost w bs) := by
  have hl : bs.length = n := by rw [← h.len, U8_len]
  have HL := Lib.hid hl
  have H := Lib.hid h
  have HB := Lib.hid hb
  clear h hl hb
  go_enter Try.func13, Try.ntmps13
  go_wp2_with fail
  go_loopw [5] (fun u wr => ∃ i : Nat, u = .int .i64 ((i : Int) + 1) ∧ i ≤ n ∧ i ≤ 10 ∧ Hid (∀ j, j < i → 128 ≤ bs.getD j 0) ∧ wr = w) (fun u _ => 11 - (intOf u).toNat)
  case atStart => exact ⟨0, by go_num, by omega, by omega, fun j hj => by omega, rfl⟩
  case round =>
    obtain ⟨i, rfl, hin, hi10, hge, rfl⟩ := hrel
    by_cases hlt : i < n ∧ i < 10
    · obtain ⟨hlt, hlt10⟩ := hlt
      obtain ⟨b0, o, rfl, hbB, hc⟩ := H.out.u8 (by omega)
      have ci := hc i hlt
      have hil : i < bs.length := by rw [HL.out]; exact hlt
      have hbb : bs.getD i 0 < 256 := by
        rw [List.getD_eq_getElem?_getD, List.getElem?_eq_getElem hil]
        exact HB.out _ (List.getElem_mem hil)
      have HIL := Lib.hid hil
      have hnn : (i : Int) + 1 ≤ (n : Int) := by omega
      have hn10 : (i : Int) + 1 ≤ 10 := by omega
      have HC : Hid (∀ j, j < n → wr.cell? ⟨b0, o + j, none⟩ = some (.int .u8 ((bs.getD j 0 : Nat) : Int))) := hc
      have HBB : Hid (∀ j, bs.getD j 0 < 256) := fun j => by
        by_cases hj : j < bs.length
        · rw [List.getD_eq_getElem?_getD, List.getElem?_eq_getElem hj]
          exact HB.out _ (List.getElem_mem hj)
        · rw [List.getD_eq_getElem?_getD, List.getElem?_eq_none (by omega)]; decide
      clear hc hil
      obtain ⟨b, hbd⟩ : ∃ b, b = bs.getD i 0 := ⟨_, rfl⟩
      have HBD := Lib.hid hbd
      rw [← hbd] at ci hbb
      clear hbd
      by_cases hbig : 128 ≤ b
      · have hbi : (128 : Int) ≤ (b : Int) := by omega
        have HGE : Hid (∀ j, j < i + 1 → 128 ≤ bs.getD j 0) := fun j hj => by
          by_cases c : j = i
          · subst c; rw [← HBD.out]; exact hbig
          · exact hge.out j (by omega)
        go_wp2_with fail
        go_roundw
        case rel => exact ⟨i + 1, by go_num, by omega, by omega, HGE.out, by first | rfl | trivial⟩
        case measure => simp [intOf]; omega
      · have hbi : ¬ (128 : Int) ≤ (b : Int) := by omega
        obtain ⟨T, hT⟩ : ∃ T, T = bs.take (i + 1) := ⟨_, rfl⟩
        have hTl : T.length = i + 1 := by rw [hT, List.length_take]; have := HIL.out; omega
        have HT := Lib.hid hT
        have HTL := Lib.hid hTl
        clear hT hTl
        obtain ⟨w0, rfl⟩ : ∃ w0 : World, w0 = wr := ⟨_, rfl⟩
        go_wp2_with fail
        go_loopw [6, 7] (fun v u wr => ∃ r x : Nat, v = .int .u64 (x : Int) ∧ u = .int .i64 ((r : Int) - 1) ∧ r ≤ i + 1 ∧ Hid (x = v128 (T.drop r) % 2 ^ 64) ∧ wr = w0) (fun _ u _ => (intOf u + 1).toNat)
        case atStart => exact ⟨i + 1, 0, rfl, by go_num, by omega, by show _ = _; rw [List.drop_of_length_le (by rw [HTL.out]; exact Nat.le_refl _)]; rfl, rfl⟩
        case round =>
          obtain ⟨r, x, rfl, rfl, hr, hx, rfl⟩ := hrel
          rcases r with _ | r
          · have hx' : x = v128 T % 2 ^ 64 := by have := hx.out; rwa [List.drop_zero] at this
            have hx64 : x < 2 ^ 64 := by rw [hx']; exact Nat.mod_lt _ (by decide)
            have HX := Lib.hid hx'
            have HX64 := Lib.hid hx64
            have RN := Lib.hid (rpNum_p x wr hx64)
            obtain ⟨ln, hln⟩ : ∃ ln, ln = (numB x).length := ⟨_, rfl⟩
            have HLN := Lib.hid hln
            have hl10 : ln ≤ 10 := by rw [hln]; exact numB_len10 hx64
            have OKIFF : Hid (numB x = T → Begins bs x) := fun e => ⟨HX64.out, bs.drop (i + 1), by rw [e, HT.out, List.take_append_drop]⟩
            have NOIF : Hid (numB x ≠ T → ∀ y, ¬ Begins bs y) := fun hne y hy => by
              obtain ⟨e1, e2⟩ := begins_at hy hge.out HIL.out (by rw [← HBD.out]; omega)
              rw [← HT.out] at e1 e2
              have : x = y := by rw [HX.out, ← e2, Nat.mod_eq_of_lt hy.1]
              exact hne (by rw [this, e1])
            clear hx' hx64 hln
            go_wp2_with fail
            refine RN.out.mono ?_
            rintro e w2 ⟨A2, c2, rfl, hc2, hm2, ho2, b2⟩
            rw [← HLN.out] at ho2 hc2 ⊢
            have BW := Lib.hid b2
            have HO2 := Lib.hid ho2
            clear ho2 hc2 hm2 b2 RN
            by_cases hle : ln = i + 1
            · have hb1 : ((ln : Int) != (i : Int) + 1) = false := by rw [hle]; simp
              have hb2 : decide (ln = i + 1) = true := decide_eq_true hle
              obtain ⟨w3, rfl⟩ : ∃ w3 : World, w3 = w2 := ⟨_, rfl⟩
              have HLE := Lib.hid hle
              obtain ⟨gA, oA, rfl, hgA, hcA⟩ := (Rd.ofOwn HO2.out).u8 (by omega)
              have HCA : Hid (∀ j, j < ln → w3.cell? ⟨gA, oA + j, none⟩ = some (.int .u8 (((numB x).getD j 0 : Nat) : Int))) := hcA
              have HCP : Hid (∀ j, j < n → w3.cell? ⟨b0, o + j, none⟩ = some (.int .u8 ((bs.getD j 0 : Nat) : Int))) := fun j hj => (BW.out.cell (p := ⟨b0, o + j, none⟩) hbB).trans (HC.out j hj)
              have hln : ln ≤ n := by omega
              have HTD : Hid (∀ j, j < ln → T.getD j 0 = bs.getD j 0) := fun j hj => by
                show _ = _
                rw [HT.out, List.getD_eq_getElem?_getD, List.getD_eq_getElem?_getD, List.getElem?_take]
                simp [show j < i + 1 by omega]
              clear hcA hle HC ci
              go_wp2_with fail
              go_loopw [49] (fun u wr => ∃ k : Nat, k ≤ ln ∧ u = .int .i64 (k : Int) ∧ Hid (∃ j, wr = w3.drewN j) ∧ Hid (∀ j, j < k → (numB x).getD j 0 = T.getD j 0)) (fun u _ => ln - (intOf u).toNat)
              case atStart => exact ⟨0, by omega, rfl, ⟨0, rfl⟩, fun j hj => by omega⟩
              case round =>
                rename_i wz
                obtain ⟨k, hk, rfl, HW, HE⟩ := hrel
                by_cases hkl : k < ln
                · obtain ⟨j0, hj0⟩ := HW.out
                  have k1 := HCA.out k hkl
                  have k2 := HCP.out k (by omega)
                  have HTK := Lib.hid (HTD.out k hkl)
                  have hki : (k : Int) < (ln : Int) := by omega
                  have hkn : (k : Int) < (n : Int) := by omega
                  rw [← World.cell?_drewN (n := j0), ← hj0] at k1 k2
                  obtain ⟨u1, hu1⟩ : ∃ u1, u1 = (numB x).getD k 0 := ⟨_, rfl⟩
                  obtain ⟨u2, hu2⟩ : ∃ u2, u2 = bs.getD k 0 := ⟨_, rfl⟩
                  have HU1 := Lib.hid hu1
                  have HU2 := Lib.hid hu2
                  rw [← hu1] at k1
                  rw [← hu2] at k2
                  clear hu1 hu2 hj0
                  by_cases hc : u1 = u2
                  · have hb3 : ((u1 : Int) != (u2 : Int)) = false := by rw [hc]; simp
                    have NX : Hid (∀ j, j < k + 1 → (numB x).getD j 0 = T.getD j 0) := fun j hj => by
                      by_cases q : j = k
                      · subst q; rw [HTK.out, ← HU1.out, ← HU2.out]; exact hc
                      · exact HE.out j (by omega)
                    clear hc
                    go_wp2_with fail
                    go_region
                    all_goals (
                      go_wp2_with fail
                      go_roundw
                      case rel => exact ⟨k + 1, by omega, by go_num, by
                        obtain ⟨j, hj⟩ := HW.out
                        exact ⟨j + 1, by rw [hj]; rfl⟩, NX.out⟩
                      case measure => simp [intOf]; omega)
                  · have hb3 : ((u1 : Int) != (u2 : Int)) = true := by rw [bne_iff_ne]; omega
                    have NO := Lib.hid (NOIF.out (fun e => hc (by rw [HU1.out, HU2.out, ← HTK.out, e])))
                    clear hc
                    go_wp2_with fail
                    go_region
                    all_goals (
                      go_wp2_with fail
                      refine bodyPost_ret (results_tmp3 rfl _ _ _) rfl ?_
                      refine ⟨.inr ⟨NO.out, rfl⟩, ?_⟩
                      obtain ⟨j, hj⟩ := HW.out
                      rw [hj]
                      exact (below_draws BW.out j).drew)
                · have e2 : numB x = T := by
                    have hk2 : k = ln := by omega
                    subst hk2
                    refine getDN_ext (by rw [HTL.out, ← HLN.out, HLE.out]) fun j hj => ?_
                    exact HE.out j (by rw [HLN.out]; exact hj)
                  have YES := Lib.hid (OKIFF.out e2)
                  clear e2
                  go_wp2_with fail
                  refine bodyPost_ret (results_tmp3 rfl _ _ _) rfl ?_
                  refine ⟨.inl ⟨x, YES.out, by rw [← HLN.out, HLE.out]; rfl⟩, ?_⟩
                  obtain ⟨j, hj⟩ := HW.out
                  rw [hj]
                  exact below_draws BW.out j
            · have NO := Lib.hid (NOIF.out (fun e => hle (by rw [HLN.out, e, HTL.out])))
              have hb1 : ((ln : Int) != (i : Int) + 1) = true := by rw [bne_iff_ne]; omega
              clear NOIF OKIFF
              go_wp2_with fail
              refine bodyPost_ret (results_tmp3 rfl _ _ _) rfl ?_
              exact ⟨.inr ⟨NO.out, rfl⟩, BW.out⟩
          · have cr := HC.out r (by omega)
            have hrb := HBB.out r
            obtain ⟨d, hd⟩ : ∃ d, d = bs.getD r 0 % 128 := ⟨_, rfl⟩
            obtain ⟨m1, hm1⟩ : ∃ m1, m1 = (128 * x) % 2 ^ 64 := ⟨_, rfl⟩
            obtain ⟨m2, hm2⟩ : ∃ m2, m2 = (m1 + d) % 2 ^ 64 := ⟨_, rfl⟩
            have hx64 : x < 2 ^ 64 := by rw [hx.out]; exact Nat.mod_lt _ (by decide)
            have w1 : IntKind.u64.wrap (128 * (x : Int)) = (m1 : Int) := by simp [IntKind.wrap, IntKind.signed, IntKind.bits]; omega
            have w2 : IntKind.u64.wrap ((m1 : Int) + (d : Int)) = (m2 : Int) := by simp [IntKind.wrap, IntKind.signed, IntKind.bits]; omega
            obtain ⟨b2, hb2⟩ : ∃ b2, b2 = bs.getD r 0 := ⟨_, rfl⟩
            rw [← hb2] at cr hrb hd
            have HB2 := Lib.hid hb2
            have e1 : (b2 : Int) % 128 = (d : Int) := by omega
            have e1t : (b2 : Int).tmod 128 = (d : Int) := by rw [Int.tmod_eq_emod_of_nonneg (by omega)]; omega
            have HX2 : Hid (m2 = v128 (T.drop r) % 2 ^ 64) := by
              show _ = _
              rw [v128_drop T (r := r) (by rw [HTL.out]; omega), ← u64_step, ← hx.out, hm2, hm1, hd, HB2.out, HT.out]
              congr 3
              rw [List.getD_eq_getElem?_getD, List.getD_eq_getElem?_getD, List.getElem?_take]
              simp [show r < i + 1 by omega]
            clear hm1 hm2 hd hx64 hb2
            go_wp2_with fail
            go_roundw
            case rel => exact ⟨r, m2, rfl, by go_num, by omega, HX2, by first | rfl | trivial⟩
            case measure => simp [intOf] <;> omega
    · have NO : Hid (∀ x, ¬ Begins bs x) := fun x => by
        by_cases h9 : i < 10
        · have : i = n := by omega
          exact begins_no (fun j hj => hge.out j (by rw [HL.out] at hj; omega))
        · exact begins_10 (fun j hj => hge.out j (by omega)) (by rw [HL.out]; omega)
      by_cases h9 : i < n
      · have h10 : ¬ (i : Int) + 1 ≤ 10 := by omega
        have hnn : (i : Int) + 1 ≤ (n : Int) := by omega
        clear hlt
        go_wp2_with fail
        refine bodyPost_ret (results_tmp3 rfl _ _ _) rfl ?_
        exact ⟨.inr ⟨NO.out, rfl⟩, Below.refl _ _⟩
      · have hnn : ¬ (i : Int) + 1 ≤ (n : Int) := by omega
        clear hlt
        go_wp2_with fail
        refine bodyPost_ret (results_tmp3 rfl _ _ _) rfl ?_
        exact ⟨.inr ⟨NO.out, rfl⟩, Below.refl _ _⟩
end Go.Proofs.Ytcefohjddbjcjaa
