/- The model learns a bit. -/
import Derived.Test.YtcefohjddbjcjaaZCModel
namespace Go.Proofs.Ytcefohjddbjcjaa
set_option maxRecDepth 20000
open Go.RowKit
set_option linter.unusedVariables false

theorem set_self (y : List Nat) (k : Nat) : y.set k (y.getD k 0) = y := by
  by_cases h : k < y.length
  · refine getDN_ext (by simp) fun j hj => ?_
    rw [getD_setN _ _ _ _ h]
    by_cases e : j = k
    · rw [if_pos e, e]
    · rw [if_neg e]
  · exact List.set_eq_of_length_le (by omega)
theorem ModS.drewN {w : World} {m c : Nat} {zs os : List Nat} {x : Nat} (h : ModS w m c zs os x) (n : Nat) : ModS (w.drewN n) m c zs os x := ⟨h.1.drewN n, h.2.1.drewN n, h.2.2⟩
set_option maxHeartbeats 2000000 in
theorem learn_p (m c : Nat) (zs os : List Nat) (x b : Nat) (w : World) (h : ModS w m c zs os x) (hx : x < zs.length) (hl : zs.length ≤ 256) (hb : b < 2) (z o : Nat)
    (hz : z = if b = 0 then zs.getD x 0 + 1 else zs.getD x 0) (ho : o = if b = 0 then os.getD x 0 else os.getD x 0 + 1) (hs : z + o ≤ 65536) :
    Calls Try.prog 54 #[.pointer (some ⟨m, 0, none⟩), .int .i64 (b : Int)] w fun e w' => e = .returned (.tuple #[]) ∧ ModS w' m c (zs.set x (halve z o z)) (os.set x (halve z o o)) ((2 * x + b) % zs.length) ∧ Mod (fun i => i = m ∨ i = c) w w' := by
  have H := Lib.hid h
  have HZ := Lib.hid hz
  have HO := Lib.hid ho
  have HX := Lib.hid hx
  have HOL := Lib.hid h.2.2.2
  have c0 : w.cell? ⟨m, 0, none⟩ = some (.slice (some ⟨c, 0, none⟩) zs.length zs.length) := Blk.cell h.1 0
  have c1 : w.cell? ⟨m, 1, none⟩ = some (.int .i64 (x : Int)) := Blk.cell h.1 1
  have c2 := h.zc x hx
  have c3 := h.oc x hx
  have f2 := Blk.frozen h.2.1 (x * 2)
  have f3 := Blk.frozen h.2.1 (x * 2 + 1)
  clear h hz ho
  obtain ⟨N, hN⟩ : ∃ N, N = zs.length := ⟨_, rfl⟩
  have HN := Lib.hid hN
  rw [← hN] at c0 hx hl ⊢
  clear hN
  go_enter Try.func54, Try.ntmps54
  go_wp2_with fail
  go_quiet (fail)
  go_wp2_with fail
  go_cut [4] from 16 to 23 (fun v wx => v = .pointer (some ⟨c, x * 2, none⟩) ∧ Hid (ModS wx m c (zs.set x z) (os.set x o) x) ∧ Hid (Mod (fun i => i = m ∨ i = c) w wx))
  case first =>
    have hzx : zs.getD x 0 ≤ 65536 := by have := HZ.out; split at this <;> omega
    have hox : os.getD x 0 ≤ 65536 := by have := HO.out; split at this <;> omega
    rcases (by omega : b = 0 ∨ b = 1) with rfl | rfl
    · have HS : Hid (∀ n, ModS ((w.drewN n).setCell ⟨c, x * 2, none⟩ (.int .u64 ((zs.getD x 0 : Int) + 1))) m c (zs.set x z) (os.set x o) x) := fun n => by
        have e1 : z = zs.getD x 0 + 1 := by have := HZ.out; simpa using this
        have e2 : o = os.getD x 0 := by have := HO.out; simpa using this
        rw [e2, set_self, e1]
        have := (H.out.drewN n).setz x (zs.getD x 0 + 1) HX.out
        simpa using this
      have HM2 : Hid (∀ n, Mod (fun i => i = m ∨ i = c) w ((w.drewN n).setCell ⟨c, x * 2, none⟩ (.int .u64 ((zs.getD x 0 : Int) + 1)))) := fun n => Mod.setCell ((Mod.refl _ _).drewN n) (fun _ => .inr rfl) _
      generalize zs.getD x 0 = zx at *
      clear c3 f3 c0 c1
      go_region
      all_goals (go_wp2_with fail; go_meet; exact ⟨rfl, HS.out _, HM2.out _⟩)
    · have HS : Hid (∀ n, ModS ((w.drewN n).setCell ⟨c, x * 2 + 1, none⟩ (.int .u64 ((os.getD x 0 : Int) + 1))) m c (zs.set x z) (os.set x o) x) := fun n => by
        have e1 : z = zs.getD x 0 := by have := HZ.out; simpa using this
        have e2 : o = os.getD x 0 + 1 := by have := HO.out; simpa using this
        rw [e1, set_self, e2]
        have := (H.out.drewN n).seto x (os.getD x 0 + 1) HX.out
        simpa using this
      have HM2 : Hid (∀ n, Mod (fun i => i = m ∨ i = c) w ((w.drewN n).setCell ⟨c, x * 2 + 1, none⟩ (.int .u64 ((os.getD x 0 : Int) + 1)))) := fun n => Mod.setCell ((Mod.refl _ _).drewN n) (fun _ => .inr rfl) _
      generalize os.getD x 0 = ox at *
      clear c2 f2 c0 c1
      go_region
      all_goals (go_wp2_with fail; go_meet; exact ⟨rfl, HS.out _, HM2.out _⟩)
  case rest =>
    obtain ⟨rfl, HS, HM⟩ := hcut
    clear c0 c1 c2 c3 f2 f3 HZ HO H
    have HXN : Hid (x < zs.length) := HX
    have d2 := HS.out.zc x (by simp; exact HX.out)
    have d3 := HS.out.oc x (by simp; exact HX.out)
    rw [getD_setN _ _ _ _ HX.out, if_pos rfl] at d2
    rw [getD_setN _ _ _ _ (by rw [HOL.out]; exact HX.out), if_pos rfl] at d3
    have AP := Lib.hid (fun W => all_p z o W (by omega) (by omega))
    obtain ⟨T, hT⟩ : ∃ T, T = z + o := ⟨_, rfl⟩
    rw [← hT] at AP
    have HT := Lib.hid hT
    have hT2 : T ≤ 65536 := by omega
    clear hT hs
    iterate 2 go_step
    go_cut [] from 24 to 43 (fun wx => Hid (ModS wx m c (zs.set x (halve z o z)) (os.set x (halve z o o)) x) ∧ Hid (Mod (fun i => i = m ∨ i = c) w wx))
    case first =>
      by_cases hf : T = 65536
      · subst hf
        have HE : Hid (∀ y, halve z o y = (y + 1) / 2) := fun y => by unfold halve; rw [if_pos HT.out.symm]
        clear hT2
        go_wp2_with fail
        refine (AP.out _).mono ?_
        rintro e w2 ⟨rfl, b2⟩
        have HS2 := Lib.hid (HS.out.below b2)
        have HM3 := Lib.hid (HM.out.trans (Mod.none_ b2 (fun i => i = m ∨ i = c)) fun _ _ => id)
        have hz9 : z ≤ 65536 := by have := HT.out; omega
        have ho9 : o ≤ 65536 := by have := HT.out; omega
        clear b2 HS HM d2 d3 AP
        go_wp2_with fail
        go_loopw [30] (fun i wr => ∃ k : Nat, k ≤ 2 ∧ i = .int .i64 (k : Int) ∧ Hid (ModS wr m c (zs.set x (if 1 ≤ k then halve z o z else z)) (os.set x (if 2 ≤ k then halve z o o else o)) x) ∧ Hid (Mod (fun i => i = m ∨ i = c) w wr)) (fun i _ => 2 - (intOf i).toNat)
        case atStart => exact ⟨0, by omega, rfl, HS2, HM3⟩
        case round =>
          clear HS2 HM3
          obtain ⟨k, hk, rfl, HS, HM⟩ := hrel
          rcases (by omega : k = 0 ∨ k = 1 ∨ k = 2) with rfl | rfl | rfl
          · rw [if_neg (by omega), if_neg (by omega)] at HS
            have d2 := HS.out.zc x (by simp; exact HX.out)
            rw [getD_setN _ _ _ _ HX.out, if_pos rfl] at d2
            have g2 := Blk.frozen HS.out.2.1 (x * 2)
            have hq : ((z : Int) + 1).tdiv 2 = (((z + 1) / 2 : Nat) : Int) := by rw [Int.tdiv_eq_ediv_of_nonneg (by omega)]; omega
            have HS9 : Hid (∀ n, ModS ((wr.drewN n).setCell ⟨c, x * 2, none⟩ (.int .u64 (((z + 1) / 2 : Nat) : Int))) m c (zs.set x (halve z o z)) (os.set x o) x) := fun n => by
              have := (HS.out.drewN n).setz x ((z + 1) / 2) (by simp; exact HX.out)
              rw [List.set_set] at this
              rw [HE.out]; exact this
            have HM9 : Hid (∀ n, Mod (fun i => i = m ∨ i = c) w ((wr.drewN n).setCell ⟨c, x * 2, none⟩ (.int .u64 (((z + 1) / 2 : Nat) : Int)))) := fun n => (HM.out.drewN n).setCell (fun _ => .inr rfl) _
            obtain ⟨z2, hz2⟩ : ∃ z2, z2 = (z + 1) / 2 := ⟨_, rfl⟩
            rw [← hz2] at hq HS9 HM9
            have hq2 : IntKind.u64.wrap (z2 : Int) = (z2 : Int) := wrap_u64n z2 (by omega)
            clear hz2
            go_wp2_with fail
            go_quiet (fail)
            go_wp2_with fail
            go_roundw
            case rel => exact ⟨1, by omega, rfl, HS9.out _, HM9.out _⟩
            case measure => simp [intOf]
          · rw [if_pos (by omega), if_neg (by omega)] at HS
            have d3 := HS.out.oc x (by simp; exact HX.out)
            rw [getD_setN _ _ _ _ (by rw [HOL.out]; exact HX.out), if_pos rfl] at d3
            have g3 := Blk.frozen HS.out.2.1 (x * 2 + 1)
            have hq : ((o : Int) + 1).tdiv 2 = (((o + 1) / 2 : Nat) : Int) := by rw [Int.tdiv_eq_ediv_of_nonneg (by omega)]; omega
            have HS9 : Hid (∀ n, ModS ((wr.drewN n).setCell ⟨c, x * 2 + 1, none⟩ (.int .u64 (((o + 1) / 2 : Nat) : Int))) m c (zs.set x (halve z o z)) (os.set x (halve z o o)) x) := fun n => by
              have := (HS.out.drewN n).seto x ((o + 1) / 2) (by simp; exact HX.out)
              rw [List.set_set] at this
              rw [HE.out o]; exact this
            have HM9 : Hid (∀ n, Mod (fun i => i = m ∨ i = c) w ((wr.drewN n).setCell ⟨c, x * 2 + 1, none⟩ (.int .u64 (((o + 1) / 2 : Nat) : Int)))) := fun n => (HM.out.drewN n).setCell (fun _ => .inr rfl) _
            obtain ⟨o2, ho2⟩ : ∃ o2, o2 = (o + 1) / 2 := ⟨_, rfl⟩
            rw [← ho2] at hq HS9 HM9
            have hq2 : IntKind.u64.wrap (o2 : Int) = (o2 : Int) := wrap_u64n o2 (by omega)
            clear ho2
            go_wp2_with fail
            go_quiet (fail)
            go_wp2_with fail
            go_roundw
            case rel => exact ⟨2, by omega, rfl, HS9.out _, HM9.out _⟩
            case measure => simp [intOf]
          · rw [if_pos (by omega), if_pos (by omega)] at HS
            go_wp2_with fail
            go_meet
            exact ⟨HS, HM⟩
      · have hfi : ¬ (T : Int) = 65536 := by omega
        have hfb : ((T : Int) == 65536) = false := by rw [beq_eq_false_iff_ne]; omega
        have HE : Hid (∀ y, halve z o y = y) := fun y => by unfold halve; rw [if_neg (by rw [← HT.out]; exact hf)]
        clear hf hT2
        go_wp2_with fail
        refine (AP.out _).mono ?_
        rintro e w2 ⟨rfl, b2⟩
        have HS2 := Lib.hid (HS.out.below b2)
        have HM3 := Lib.hid (HM.out.trans (Mod.none_ b2 (fun i => i = m ∨ i = c)) fun _ _ => id)
        clear b2 HS HM d2 d3 AP
        go_wp2_with fail
        go_meet
        rw [HE.out, HE.out]
        exact ⟨HS2, HM3⟩
    case rest =>
      obtain ⟨HS2, HM3⟩ := hcut
      clear HS HM d2 d3 AP
      have e1 := Blk.cell HS2.out.1 0
      have e2 := Blk.cell HS2.out.1 1
      have g2 := Blk.frozen HS2.out.1 1
      simp at e1 e2
      rw [← HN.out] at e1
      have hrem : (2 * (x : Int) + (b : Int)).tmod (N : Int) = (((2 * x + b) % N : Nat) : Int) := by rw [Int.tmod_eq_emod_of_nonneg (by omega)]; simp
      have e8 : ¬ N = 0 := by omega
      have e9 : ¬ (N : Int) = 0 := by omega
      have e7 : ((N : Int) == 0) = false := by rw [beq_eq_false_iff_ne]; omega
      have hr2 : (2 * x + b) % N < N := Nat.mod_lt _ (by omega)
      have HQ : Hid (∀ n, ModS ((wc.setCell ⟨m, 1, none⟩ (.int .i64 (((2 * x + b) % N : Nat) : Int))).drewN n) m c (zs.set x (halve z o z)) (os.set x (halve z o o)) ((2 * x + b) % N) ∧ Mod (fun i => i = m ∨ i = c) w ((wc.setCell ⟨m, 1, none⟩ (.int .i64 (((2 * x + b) % N : Nat) : Int))).drewN n)) := fun n =>
        ⟨(HS2.out.setx _).drewN n, (HM3.out.setCell (fun _ => .inl rfl) _).drewN n⟩
      obtain ⟨r, hr⟩ : ∃ r, r = (2 * x + b) % N := ⟨_, rfl⟩
      rw [← hr] at hrem hr2 HQ
      have HR := Lib.hid hr
      clear HX HXN HOL HS2 HM3 hr
      go_wp2_with fail
      go_region
      all_goals (go_wp2_with fail; refine bodyPost_end (results_none rfl _ _ _) rfl ⟨rfl, ?_⟩; rw [← HR.out]; exact HQ.out 1)
end Go.Proofs.Ytcefohjddbjcjaa
