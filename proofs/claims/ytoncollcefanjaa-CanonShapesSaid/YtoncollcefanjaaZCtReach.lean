/- The turner's reach. -/
import Derived.Test.YtoncollcefanjaaZg19
import Derived.Test.YtoncollcefanjaaZg6
import Derived.BigRegion
namespace Go.Proofs.Ytoncollcefanjaa
set_option maxRecDepth 100000
open Go.RowKit
set_option linter.unusedVariables false
set_option linter.unusedSimpArgs false
/-- The known turns lie in memory of their own, that nothing changes. -/
def Kno (w : World) (Fr : Nat → Prop) (n : Nat) (ks : List Value) (ts : List (List Nat)) : Prop :=
  ks.length = ts.length ∧ ∀ i, i < ts.length → ∃ b c, ks[i]? = some (.slice (some ⟨b, 0, none⟩) n c) ∧ b < w.heap.size ∧ ¬ Fr b ∧ (ts.getD i []).length = n ∧ ∀ j, j < n → w.cell? ⟨b, j, none⟩ = some (.int .i64 ((sgL (ts.getD i []) j : Nat) : Int))
theorem Kno.mod {w w' : World} {Fr S : Nat → Prop} {n : Nat} {ks : List Value} {ts : List (List Nat)} (h : Kno w Fr n ks ts) (m : Mod S w w') (hS : ∀ k, k < w.heap.size → S k → Fr k) : Kno w' Fr n ks ts :=
  ⟨h.1, fun i hi => by
    obtain ⟨b, c, h1, h2, h3, h4, h5⟩ := h.2 i hi
    exact ⟨b, c, h1, Nat.lt_of_lt_of_le h2 m.size, h3, h4, fun j hj => (m.cell h2 (fun q => h3 (hS b h2 q)) j).trans (h5 j hj)⟩⟩
theorem Kno.mono {w : World} {Fr Fr' : Nat → Prop} {n : Nat} {ks : List Value} {ts : List (List Nat)} (h : Kno w Fr n ks ts) (hs : ∀ k, k < w.heap.size → Fr' k → Fr k) : Kno w Fr' n ks ts :=
  ⟨h.1, fun i hi => by
    obtain ⟨b, c, h1, h2, h3, h4, h5⟩ := h.2 i hi
    exact ⟨b, c, h1, h2, fun q => h3 (hs b h2 q), h4, h5⟩⟩
abbrev tvS (gm : Nat) (AK : Option Addr) (q cK : Nat) (gI gT n cI cT T : Nat) : List Value := [.pointer (some ⟨gm, 0, none⟩), .slice AK q cK, .slice (some ⟨gI, 0, none⟩) n cI, .slice (some ⟨gT, 0, none⟩) n cT, .int .i64 (T : Int)]
abbrev txS (ks : List Value) (img : List Int) (told : List Nat) : List RowX := [none, some (24, ks), some (3, I64 img), some (3, I64 (ofN told)), none]
theorem ofN_setT (L : List Nat) (j x : Nat) : (ofN L).set j (x : Int) = ofN (L.set j x) := by simp [ofN, List.map_set]
def ReachPost (w : World) (Fr : Nat → Prop) (gt gm : Nat) (AK : Option Addr) (cK gI gT n cI cT T d : Nat) (ks : List Value) (img : List Int) (told : List Nat) (ts : List (List Nat)) (e : Ending) (w' : World) : Prop :=
  ∃ Q told' : List Nat, e = .returned (.int .i64 (Q.length : Int)) ∧ Q.Nodup ∧ (∀ x ∈ Q, x < n) ∧ (∀ x, x ∈ Q ↔ Rch ts d x) ∧ told'.length = n ∧ (∀ x, x < n → told'.getD x 0 = if x ∈ Q then T + 1 else told.getD x 0) ∧
    RowsR w' Fr gt 83 (tvS gm AK ts.length cK gI gT n cI cT (T + 1)) (txS ks img told') ∧ Mod Fr w w'
set_option maxHeartbeats 8000000 in
theorem creach_p (Fr : Nat → Prop) (gt gm : Nat) (AK : Option Addr) (cK gI gT n cI cT T d : Nat) (ks : List Value) (img : List Int) (told : List Nat) (ts : List (List Nat)) (w : World)
    (h : RowsR w Fr gt 83 (tvS gm AK ts.length cK gI gT n cI cT T) (txS ks img told)) (hk : Kno w Fr n ks ts) (hd : d < n) (htl : told.length = n) (hto : ∀ x, x < n → told.getD x 0 ≤ T) (hts : ∀ t ∈ ts, ∀ x, x < n → sgL t x < n)
    (hn : n ≤ 500000) (hT : T ≤ 500000) (hq : ts.length ≤ 500000) :
    Calls Try.prog 47 #[.pointer (some ⟨gt, 0, none⟩), .int .i64 (d : Int)] w (ReachPost w Fr gt gm AK cK gI gT n cI cT T d ks img told ts) := by
  obtain ⟨i0, hi0, hz0, hz1, hz2⟩ := info_parts info_int
  have r4 := h.bx.cell 4
  have f4 := h.bx.frozen 4
  simp at r4
  obtain ⟨T1, hT1⟩ : ∃ x, x = T + 1 := ⟨_, rfl⟩
  have e1 : (T : Int) + 1 = (T1 : Int) := by omega
  have w1 : IntKind.i64.wrap (T1 : Int) = (T1 : Int) := by simp [IntKind.wrap, IntKind.signed, IntKind.bits]; omega
  have hF0 := h.mono (Fr' := fun k => Fr k ∧ k < w.heap.size) fun k h1 h2 => ⟨h2, h1⟩
  obtain ⟨s1, m1⟩ := hF0.fld 4 rfl (.int .i64 (T1 : Int))
  have s1' : RowsR (w.setCell ⟨gt, 4, none⟩ (.int .i64 (T1 : Int))) (fun k => Fr k ∧ k < w.heap.size) gt 83 (tvS gm AK ts.length cK gI gT n cI cT T1) (txS ks img told) := s1
  generalize hv1 : w.setCell ⟨gt, 4, none⟩ (.int .i64 (T1 : Int)) = v1 at *
  have q3 := s1'.bx.cell 3
  have q4 := s1'.bx.cell 4
  simp at q3 q4
  obtain ⟨cd, fd⟩ := s1'.cellN 3 rfl rfl htl d hd
  obtain ⟨s2, _, m2⟩ := s1'.putI 3 rfl rfl (by rw [ofN_len]; exact htl) d (T1 : Int) (xs' := txS ks img (told.set d T1)) (by rw [ofN_setT]; rfl)
  have M2 : Hid (Mod Fr w (v1.setCell ⟨gT, d, none⟩ (.int .i64 (T1 : Int)))) := m1.trans m2 (fun _ _ q => q) |>.mono fun k _ q => q.1
  have hdi : (d : Int) < (n : Int) := by omega
  have RC0 : Hid (Rc n T1 d ts told [d] (told.set d T1) 0 0) := Rc.start hd htl
  have hs2 : (v1.setCell ⟨gT, d, none⟩ (.int .i64 (T1 : Int))).heap.size = v1.heap.size := by simp [World.setCell]
  have hal : Below (v1.setCell ⟨gT, d, none⟩ (.int .i64 (T1 : Int))).heap.size (v1.setCell ⟨gT, d, none⟩ (.int .i64 (T1 : Int))) (((v1.setCell ⟨gT, d, none⟩ (.int .i64 (T1 : Int))).alloc (.cells #[.int .i64 (d : Int)] 3)).drew) := ((Below.refl _ _).alloc (Nat.le_refl _) _).drew
  have OQ0 : Hid (((v1.setCell ⟨gT, d, none⟩ (.int .i64 (T1 : Int))).alloc (.cells #[.int .i64 (d : Int)] 3)).drew.ownsRow w.heap.size 3 1 (.slice (some ⟨v1.heap.size, 0, none⟩) [d].length 1) [d].length (I64 (ofN [d]))) := by
    have := World.ownsRow_lit (base := (v1.setCell ⟨gT, d, none⟩ (.int .i64 (T1 : Int))).heap.size) (e := 3) (size := 1) (v1.setCell ⟨gT, d, none⟩ (.int .i64 (T1 : Int))) #[.int .i64 (d : Int)] 1 (Nat.le_refl _) (by simp [maxLen]) (by simp)
    have h2 := own_below (this.base_le' (base' := w.heap.size) M2.out.size) (below_draws (Below.refl _ _) 1)
    rw [hs2] at h2
    exact h2
  have HV3 := Lib.hid (s2.below hal)
  have MV3 := Lib.hid (M2.out.trans (Mod.none_ hal (fun _ => False)) fun _ _ c => c.elim)
  have HKN := Lib.hid hk
  have HTS := Lib.hid hts
  have HT0 : Hid (∀ x, x < n → told.getD x 0 ≠ T1) := fun x hx => by have := hto x hx; omega
  have HT1 := Lib.hid hT1
  clear h hF0 s1 s1' m1 s2 m2 hk hts hto hT1 hs2 hal M2
  go_enter Try.func47, Try.ntmps47
  go_wp2_with fail
  go_region
  all_goals (go_wp2_with fail)
  clear q3 q4 cd fd r4 f4
  go_loopw [5, 6] (fun v x wr => ∃ (i : Nat) (A : Option Addr) (c : Nat) (Q told' : List Nat), i ≤ Q.length ∧ Q.length ≤ n ∧ v = .slice A Q.length c ∧ x = .int .i64 (i : Int) ∧ Hid (Rc n T1 d ts told Q told' i 0) ∧ Hid (RowsR wr (fun k => Fr k ∧ k < w.heap.size) gt 83 (tvS gm AK ts.length cK gI gT n cI cT T1) (txS ks img told')) ∧
    Hid (wr.ownsRow w.heap.size 3 1 (.slice A Q.length c) Q.length (I64 (ofN Q))) ∧ Hid (Mod Fr w wr)) (fun _ x _ => n - (intOf x).toNat)
  case atStart => exact ⟨0, _, 1, [d], _, by simp, by simp; omega, rfl, rfl, RC0, HV3, OQ0, MV3⟩
  case round =>
    clear RC0 HV3 OQ0 MV3
    obtain ⟨i, A, c, Q, told1, hiQ, hQn, rfl, rfl, RC, R, OQ, MO⟩ := hrel
    obtain ⟨qQ, hqQ⟩ : ∃ q, q = Q.length := ⟨_, rfl⟩
    rw [← hqQ] at OQ hiQ hQn ⊢
    by_cases hlt : i < qQ
    · have hdk : decide (i < qQ) = true := decide_eq_true hlt
      have r1 := R.out.bx.cell 1
      simp at r1
      have HQ := Lib.hid hqQ
      clear hqQ
      go_wp2_with fail
      obtain ⟨qT, hqT⟩ : ∃ q, q = ts.length := ⟨_, rfl⟩
      have HQT := Lib.hid hqT
      rw [← hqT]
      have hq' : qT ≤ 500000 := by omega
      rw [HQ.out] at OQ hlt hQn
      go_loopw [5, 40] (fun v x wx => ∃ (j : Nat) (A : Option Addr) (c : Nat) (Q told' : List Nat), j ≤ qT ∧ i < Q.length ∧ Q.length ≤ n ∧ v = .slice A Q.length c ∧ x = .int .i64 (j : Int) ∧ Hid (Rc n T1 d ts told Q told' i j) ∧ Hid (RowsR wx (fun k => Fr k ∧ k < w.heap.size) gt 83 (tvS gm AK ts.length cK gI gT n cI cT T1) (txS ks img told')) ∧
        Hid (wx.ownsRow w.heap.size 3 1 (.slice A Q.length c) Q.length (I64 (ofN Q))) ∧ Hid (Mod Fr w wx)) (fun _ x _ => qT - (intOf x).toNat)
      case atStart => exact ⟨0, A, c, Q, told1, Nat.zero_le _, hlt, hQn, by rw [HQ.out], rfl, RC, R, OQ, MO⟩
      case round =>
        clear RC R OQ MO
        obtain ⟨j, A1, c1, Q1, told2, hj, hi1, hQn1, rfl, rfl, RC, R, OQ, MO⟩ := hrel
        by_cases hlj : j < qT
        · have hdj : decide (j < qT) = true := decide_eq_true hlj
          have oK : wr.ownsRow 0 24 1 (.slice AK ts.length cK) ks.length ks := R.out.own 1 24 ks rfl
          rw [HKN.out.1, ← HQT.out] at oK
          obtain ⟨gK, rfl, _⟩ := own_some oK (by omega)
          obtain ⟨bj, cj, k1, k2, k3, k4, k5⟩ := (HKN.out.mod MO.out fun k _ q => q).2 j (by rw [← HQT.out]; exact hlj)
          have cK1 := oK.cellAt j (by omega)
          rw [k1] at cK1
          obtain ⟨gQ, rfl, _⟩ := own_some OQ.out (by omega)
          have cQ := own_cellI OQ.out i hi1
          rw [ofN_get] at cQ
          have hqi : Q1.getD i 0 < n := RC.out.lt _ (getD_orb_mem hi1)
          have htj : ts.getD j [] ∈ ts := by rw [List.getD_eq_getElem?_getD, List.getElem?_eq_getElem (by rw [← HQT.out]; exact hlj)]; exact List.getElem_mem _
          have k6 := k5 (Q1.getD i 0) hqi
          obtain ⟨y, hy⟩ : ∃ y, y = sgL (ts.getD j []) (Q1.getD i 0) := ⟨_, rfl⟩
          have hyn : y < n := by rw [hy]; exact HTS.out _ htj _ hqi
          rw [← hy] at k6
          have r3 := R.out.bx.cell 3
          have r4 := R.out.bx.cell 4
          simp at r3 r4
          obtain ⟨c3, f3⟩ := R.out.cellN 3 rfl rfl RC.out.tl y hyn
          obtain ⟨xq, hxq⟩ : ∃ x, x = Q1.getD i 0 := ⟨_, rfl⟩
          rw [← hxq] at cQ k6 hqi hy
          have HY : Hid (y = sgL (ts.getD j []) (Q1.getD i 0)) := by rw [← hxq]; exact hy
          obtain ⟨ty, hty⟩ : ∃ x, x = told2.getD y 0 := ⟨_, rfl⟩
          rw [← hty] at c3
          have HTY := Lib.hid hty
          obtain ⟨q1, hq1⟩ : ∃ q, q = Q1.length := ⟨_, rfl⟩
          have HQ1 := Lib.hid hq1
          rw [← hq1] at OQ hi1 hQn1 ⊢
          have hyi : (y : Int) < (n : Int) := by omega
          have hxi : (xq : Int) < (n : Int) := by omega
          have hii : (i : Int) < (q1 : Int) := by omega
          clear oK k1 k2 k3 k4 k5 htj hy hxq hty hq1
          by_cases hT : ty = T1
          · have dc : ((ty : Int) != (T1 : Int)) = false := by simp [hT]
            have RC2 := Lib.hid (RC.out.old HT0.out HY.out hyn (by rw [← HTY.out]; exact hT))
            clear hT
            go_wp2_with fail
            go_quiet (fail)
            have R2 := Lib.hid (R.out.drewN nq)
            have OQ2 := Lib.hid (own_below OQ.out (below_draws (Below.refl _ _) nq))
            have MO2 := Lib.hid (MO.out.drewN nq)
            clear R OQ MO RC
            go_wp2_with fail
            go_roundw
            case rel => exact ⟨j + 1, _, c1, Q1, told2, by omega, by rw [← HQ1.out]; exact hi1, by rw [← HQ1.out]; exact hQn1, by rw [← HQ1.out], by go_num, RC2, R2, by rw [← HQ1.out]; exact OQ2, MO2⟩
            case measure => simp [intOf]; omega
          · have dc : ((ty : Int) != (T1 : Int)) = true := by simp; omega
            have RC2 := Lib.hid (RC.out.new (by rw [← HQ1.out]; exact hi1) (by rw [← HQT.out]; exact hlj) HY.out hyn (by rw [← HTY.out]; exact hT))
            clear hT
            go_wp2_with fail
            go_quiet (fail)
            have R2 := Lib.hid (R.out.drewN nq)
            have OQ2 := Lib.hid (own_below OQ.out (below_draws (Below.refl _ _) nq))
            have MO2 := Lib.hid (MO.out.drewN nq)
            have HTL : Hid (told2.length = n) := RC.out.tl
            clear R OQ MO RC c3 f3 r3 r4 cQ k6 cK1 r1
            generalize wr.drewN nq = w2 at *
            have r3 := R2.out.bx.cell 3
            have r4 := R2.out.bx.cell 4
            simp at r3 r4
            obtain ⟨c3, f3⟩ := R2.out.cellN 3 rfl rfl HTL.out y hyn
            obtain ⟨s3, b3, m3⟩ := R2.out.putI 3 rfl rfl (by rw [ofN_len]; exact HTL.out) y (T1 : Int) (xs' := txS ks img (told2.set y T1)) (by rw [ofN_setT]; rfl)
            have hsz : (w2.setCell ⟨gT, y, none⟩ (.int .i64 (T1 : Int))).heap.size = w2.heap.size := by simp [World.setCell]
            have hal : Below (w2.setCell ⟨gT, y, none⟩ (.int .i64 (T1 : Int))).heap.size (w2.setCell ⟨gT, y, none⟩ (.int .i64 (T1 : Int))) (((w2.setCell ⟨gT, y, none⟩ (.int .i64 (T1 : Int))).alloc (.cells #[.int .i64 (y : Int)] 3)).drew) := ((Below.refl _ _).alloc (Nat.le_refl _) _).drew
            have OQ3 := own_below (own_mod OQ2.out b3 fun k hk e => by
              have h1 := (OQ2.out.lt k hk).1
              have h2 := R2.out.fr 3 gT (by simp) (by simp [Value.ownBlock])
              omega) hal
            have rd := (Rd.new (w2.setCell ⟨gT, y, none⟩ (.int .i64 (T1 : Int))) 3 #[.int .i64 (y : Int)] 1 [.int .i64 (y : Int)] rfl rfl).drewN 1
            rw [hsz] at rd
            have MO3 := (MO2.out.trans m3 fun _ _ q => q.1).trans (Mod.none_ hal (fun _ => False)) fun _ _ q => q.elim
            obtain ⟨v', w5, hrun, hnew, hgr, hob⟩ := run_append_rd (P := Try.prog) (((w2.setCell ⟨gT, y, none⟩ (.int .i64 (T1 : Int))).alloc (.cells #[.int .i64 (y : Int)] 3)).drew) w.heap.size 24 24 3 i0 (.int .i64 0) 8 Try.underlying24 hi0 hz0 hz1 hz2 rfl _ q1 _ OQ3 (w2.heap.size + 1) (some ⟨w2.heap.size, 0, none⟩) 1 1 _ rd (by simp [Value.oneCell']) (by simp only [maxLen]; omega) (by omega) MO3.size
            obtain ⟨A5, c5, rfl, _, _⟩ := own_form hnew
            have MG := Mod.appended OQ3 hgr
            have R5 := Lib.hid ((s3.below hal).mod MG fun k q c => by omega)
            have MO5 := Lib.hid (MO3.trans MG fun k hk q => by omega)
            have OQ5 : Hid (w5.ownsRow w.heap.size 3 1 (.slice A5 (q1 + 1) c5) (q1 + 1) (I64 (ofN (Q1 ++ [y])))) := by
              show World.ownsRow _ _ _ _ _ _ _
              rw [ofN_snocR]; exact hnew
            have HLE : Hid ((Q1 ++ [y]).length ≤ n) := nodup_le RC2.out.nd RC2.out.lt
            have HL1 : Hid ((Q1 ++ [y]).length = q1 + 1) := by show _ = _; rw [List.length_append, ← HQ1.out]; rfl
            clear s3 b3 m3 R2 MO2 OQ2 hal OQ3 rd MO3 hnew hgr hob MG hsz
            go_wp2_with fail
            go_region
            all_goals (go_wp2_with (first
              | (at_builtin; go_must (refine wpList_append_runR rfl _ _ _ rfl _ _ _ _ rfl rfl hrun ?_))))
            all_goals go_simp
            all_goals go_roundw
            case rel => exact ⟨_, _, _, _, ⟨j + 1, by have := HQT.out; omega, A5, c5, Q1 ++ [y], by rw [HL1.out]; omega, HLE.out, by rw [HL1.out], by go_num, told2.set y T1, RC2, R5, by rw [HL1.out]; exact OQ5⟩, rfl, rfl, rfl, rfl⟩
            case measure => simp [intOf]; omega
        · obtain rfl : j = qT := by omega
          have hdj : decide (j < j) = false := by simp
          have RC2 := Lib.hid (by have := RC.out; rw [HQT.out] at this; exact this.next hi1 : Rc n T1 d ts told Q1 told2 (i + 1) 0)
          clear RC
          go_wp2_with fail
          go_roundw
          case rel => exact ⟨i + 1, A1, c1, Q1, told2, by omega, hQn1, rfl, by go_num, RC2, R, OQ, MO⟩
          case measure => simp [intOf]; omega
    · have hdk : decide (i < qQ) = false := decide_eq_false hlt
      have FIN : Hid (ReachPost w Fr gt gm AK cK gI gT n cI cT T d ks img told ts (.returned (.int .i64 (qQ : Int))) wr) := by
        have rc := RC.out
        rw [show i = Q.length by omega] at rc
        exact ⟨Q, told1, by rw [hqQ], rc.nd, rc.lt, rc.done, rc.tl, by rw [← HT1.out]; exact rc.tv, by rw [← HT1.out]; exact R.out.mono fun k _ q => q.1, MO.out⟩
      clear RC R OQ MO hqQ
      go_wp2_with fail
      go_ret
      exact FIN.out
end Go.Proofs.Ytoncollcefanjaa
