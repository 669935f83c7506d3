/- The index of a word: Len, At, Mate, Owner. -/
import Derived.Test.YtagpdpacaoianaaGreatDoorZg5
import Derived.Test.YtagpdpacaoianaaGreatDoorZg6
import Derived.Deep.RegionWith
import Derived.BigQuiet
namespace Go.Proofs.YtagpdpacaoianaaGreatDoor
set_option maxRecDepth 20000
open Go.RowKit
set_option linter.unusedVariables false
section
variable {w0 w : World} {m gx p0 g0 p1 g1 q : Nat} {ks : List Nat}
theorem Mx.c0 (h : Mx w0 w m gx p0 g0 p1 g1 ks q) : w.cell? ⟨m, 0, none⟩ = some (.pointer (some ⟨gx, 0, none⟩)) := h.blk.cell 0
theorem Mx.c1 (h : Mx w0 w m gx p0 g0 p1 g1 ks q) : w.cell? ⟨m, 1, none⟩ = some (.pointer (some ⟨p0, 0, none⟩)) := h.blk.cell 1
theorem Mx.c2 (h : Mx w0 w m gx p0 g0 p1 g1 ks q) : w.cell? ⟨m, 2, none⟩ = some (.pointer (some ⟨p1, 0, none⟩)) := h.blk.cell 2
theorem ilen_p (h : Mx w0 w m gx p0 g0 p1 g1 ks q) : Calls Tryz.prog 22 #[.pointer (some ⟨m, 0, none⟩)] w fun e w' => e = .returned (.int .i64 (ks.length : Int)) ∧ w = w' := by
  obtain ⟨d, k, _, hx⟩ := h.ix
  have XL := Lib.hid (xlen_p gx _ _ k d w hx)
  have c0 := h.c0
  clear h hx
  go_enter Tryz.func22, Tryz.ntmps22
  go_wp2_with fail
  refine XL.out.mono ?_
  rintro e w' ⟨rfl, rfl⟩
  go_wp2_with fail
  go_ret
  exact ⟨rfl, rfl⟩
theorem ilen_nil (w : World) : Calls Tryz.prog 22 #[.pointer none] w fun e w' => e = .returned (.int .i64 0) ∧ w = w' := by
  go_enter Tryz.func22, Tryz.ntmps22
  go_wp2_with fail
  go_ret
  exact ⟨rfl, rfl⟩
theorem ready4_nil (i l : Int) (w : World) : Calls Tryz.prog 58 #[.pointer none, .int .i64 i, .int .i64 l] w fun e w' => e = .returned (.int .i64 2) ∧ w = w' := by
  go_enter Tryz.func58, Tryz.ntmps58
  go_wp2_with fail
  go_ret
  exact ⟨rfl, rfl⟩
theorem ready4_ok (a : Addr) (i l : Int) (w : World) (h1 : 0 ≤ i) (h2 : i ≤ l) : Calls Tryz.prog 58 #[.pointer (some a), .int .i64 i, .int .i64 l] w fun e w' => e = .returned (.int .i64 0) ∧ w = w' := by
  have h3 : ¬ i < 0 := by omega
  have h4 : ¬ l < i := by omega
  go_enter Tryz.func58, Tryz.ntmps58
  go_wp2_with fail
  go_ret
  exact ⟨rfl, rfl⟩
theorem ready4_no (a : Addr) (i l : Int) (w : World) (h : i < 0 ∨ l < i) : Calls Tryz.prog 58 #[.pointer (some a), .int .i64 i, .int .i64 l] w fun e w' => e = .returned (.int .i64 1) ∧ w = w' := by
  by_cases h1 : i < 0
  · go_enter Tryz.func58, Tryz.ntmps58
    go_wp2_with fail
    go_ret
    exact ⟨rfl, rfl⟩
  · have h3 : 0 ≤ i := by omega
    have h4 : l < i := by omega
    clear h1 h
    go_enter Tryz.func58, Tryz.ntmps58
    go_wp2_with fail
    go_ret
    exact ⟨rfl, rfl⟩
theorem ahead_p (h : Mx w0 w m gx p0 g0 p1 g1 ks q) (s i : Nat) (hs : s < 2) (hi : i ≤ ks.length) (hq : q ≤ 1000000) :
    Calls Tryz.prog 62 #[.pointer (some ⟨m, 0, none⟩), .int .i64 (s : Int), .int .i64 (i : Int)] w (MxP w0 w m gx p0 g0 p1 g1 ks (q + 1) (.returned (.int .i64 ((ah s ks i : Nat) : Int)))) := by
  obtain ⟨d, k, hk, hx⟩ := h.ix
  have RK := Lib.hid (rank_yes gx _ _ k i d (s : Int) w hx (by omega) (by omega) hi)
  rw [cb_ah h.kd s hs i hi] at RK
  have c0 := h.c0
  have H := Lib.hid h
  clear h hx
  go_enter Tryz.func62, Tryz.ntmps62
  go_wp2_with fail
  refine RK.out.mono ?_
  rintro e w' ⟨rfl, hx, md⟩
  have HX := Lib.hid hx
  have HM := Lib.hid md
  clear hx md RK
  go_wp2_with fail
  go_ret
  exact ⟨rfl, H.out.askX HX.out hk HM.out, HM.out.mono fun i _ hi => .inl hi⟩
theorem place_q (h : Mx w0 w m gx p0 g0 p1 g1 ks q) (s y : Nat) (hs : s < 2) (hy : y < (ownL s ks).length) (hq : q ≤ 1000000) :
    Calls Tryz.prog 60 #[.pointer (some ⟨m, 0, none⟩), .int .i64 (s : Int), .int .i64 (y : Int)] w fun e w' => ∃ p, p < ks.length ∧ ks.getD p 0 / 2 = s ∧ ah s ks p = y ∧ MxP w0 w m gx p0 g0 p1 g1 ks (q + 1) (.returned (.int .i64 (p : Int))) e w' := by
  obtain ⟨d, k, hk, hx⟩ := h.ix
  have hcb : y < cb (s : Int) (val (shp ks)) ks.length := by rw [cb_ah h.kd s hs _ (Nat.le_refl _), ah_all]; exact hy
  have hgt : 1 < gx := Nat.lt_of_lt_of_le h.tab.2 h.lo.2.1
  have SY := Lib.hid (sel_yes gx _ _ k y d (s : Int) w hx h.tabw (by omega) (by omega) hcb hgt)
  have c0 := h.c0
  have H := Lib.hid h
  clear h hx hcb hgt
  go_enter Tryz.func60, Tryz.ntmps60
  go_wp2_with fail
  refine SY.out.mono ?_
  rintro e w' ⟨p, rfl, hp, hb, hc, hx, md⟩
  have HP : Hid (p < ks.length ∧ ks.getD p 0 / 2 = s ∧ ah s ks p = y) := ⟨hp, (isB_shp H.out.kd s hs p).1 hb, by rw [← cb_ah H.out.kd s hs p (by omega)]; exact hc⟩
  have HX := Lib.hid hx
  have HM := Lib.hid md
  clear hx md SY hp hb hc
  go_wp2_with fail
  go_ret
  exact ⟨p, HP.out.1, HP.out.2.1, HP.out.2.2, rfl, H.out.askX HX.out hk HM.out, HM.out.mono fun i _ hi => .inl hi⟩
/-- The mate of the y-th one of a sort, among those of its sort. -/
theorem imate_p (h : Mx w0 w m gx p0 g0 p1 g1 ks q) (s y : Nat) (hs : s < 2) (hy : y < (ownL s ks).length) (hq : q ≤ 900000) :
    Calls Tryz.prog 61 #[.pointer (some ⟨m, 0, none⟩), .int .i64 (s : Int), .int .i64 (y : Int)] w fun e w' => ∃ z : Nat, z < (ownL s ks).length ∧ MateOK (exc (val (ownL s ks))) y (z : Int) ∧ MxP w0 w m gx p0 g0 p1 g1 ks (q + 4) (.returned (.int .i64 (z : Int))) e w' := by
  have lt : ∀ (l : List Nat) (x : Int), Bal (exc (val l)) l.length → ∀ y, y < l.length → MateOK (exc (val l)) y x → ∃ z : Nat, x = (z : Int) ∧ z < l.length := fun l x hB y hy hm => by
    obtain ⟨z, rfl, hp⟩ := hm
    refine ⟨z, rfl, ?_⟩
    rcases hp with hp | hp
    · have hj := fwd_ex hB hy (m := exc (val l) y) (hB.1 y (by omega))
      obtain ⟨j, hj⟩ := hj
      have := (hj.pair (exc_Exc _) (hp.opens (exc_Exc _))).uniq hp
      have := hj.le
      have := hj.lt
      omega
    · have := hp.lt; omega
  have c1 := h.c1
  have c2 := h.c2
  have H := Lib.hid h
  rcases (by omega : s = 0 ∨ s = 1) with rfl | rfl
  · obtain ⟨d, ha⟩ := h.pa
    have MY := Lib.hid (mate_yes p0 g0 _ _ q d w y h.nulw h.hp0 ha h.b0 hy (by omega))
    clear h ha c2
    go_enter Tryz.func61, Tryz.ntmps61
    go_wp2_with fail
    refine MY.out.mono ?_
    rintro e w' ⟨hp, md, x, rfl, hm, _, _⟩
    obtain ⟨z, rfl, hz⟩ := lt _ _ H.out.b0 y hy hm
    have HX := Lib.hid hp
    have HM := Lib.hid md
    have HT := Lib.hid hm
    clear hp md hm MY lt
    go_wp2_with fail
    go_ret
    exact ⟨z, hz, HT.out, rfl, H.out.askA HX.out (by omega) HM.out, two_mx0 HM.out⟩
  · obtain ⟨d, ha⟩ := h.pb
    have MY := Lib.hid (mate_yes p1 g1 _ _ q d w y h.nulw h.hp1 ha h.b1 hy (by omega))
    clear h ha c1
    go_enter Tryz.func61, Tryz.ntmps61
    go_wp2_with fail
    refine MY.out.mono ?_
    rintro e w' ⟨hp, md, x, rfl, hm, _, _⟩
    obtain ⟨z, rfl, hz⟩ := lt _ _ H.out.b1 y hy hm
    have HX := Lib.hid hp
    have HM := Lib.hid md
    have HT := Lib.hid hm
    clear hp md hm MY lt
    go_wp2_with fail
    go_ret
    exact ⟨z, hz, HT.out, rfl, H.out.askB HX.out (by omega) HM.out, two_mx1 HM.out⟩
/-- Whose mate the i-th letter is. -/
def MateAt (ks : List Nat) (i p : Nat) : Prop := p < ks.length ∧ ks.getD p 0 / 2 = ks.getD i 0 / 2 ∧ MateOK (exc (val (ownL (ks.getD i 0 / 2) ks))) (ah (ks.getD i 0 / 2) ks i) ((ah (ks.getD i 0 / 2) ks p : Nat) : Int)
theorem Mx.shape (h : Mx w0 w m gx p0 g0 p1 g1 ks q) (i : Nat) (hi : i < ks.length) : Calls Tryz.prog 59 #[.pointer (some ⟨gx, 0, none⟩), .int .i64 (i : Int)] w fun e w' => e = .returned (.int .i64 ((ks.getD i 0 / 2 : Nat) : Int)) ∧ w = w' := by
  obtain ⟨d, k, _, hx⟩ := h.ix
  have h1 := xat_in gx _ _ k i d w hx hi
  rwa [shp_bit h.kd] at h1
set_option maxHeartbeats 1000000 in
theorem mateI_p (h : Mx w0 w m gx p0 g0 p1 g1 ks q) (i : Nat) (hi : i < ks.length) (hq : q ≤ 800000) :
    Calls Tryz.prog 25 #[.pointer (some ⟨m, 0, none⟩), .int .i64 (i : Int)] w fun e w' => ∃ p : Nat, MateAt ks i p ∧ MxP w0 w m gx p0 g0 p1 g1 ks (q + 6) (.returned (.tuple #[.int .i64 (p : Int), .int .i64 0])) e w' := by
  have LN := Lib.hid (ilen_p h)
  have hn9 := h.n9
  have RD := Lib.hid (ready4_ok ⟨m, 0, none⟩ (i : Int) ((ks.length : Int) - 1) w (by omega) (by omega))
  have SH := Lib.hid (h.shape i hi)
  have hk4 := h.kd.getD i
  have AHL := Lib.hid (ah_lt (ks.getD i 0 / 2) ks i hi rfl)
  obtain ⟨s, hs⟩ : ∃ s, s = ks.getD i 0 / 2 := ⟨_, rfl⟩
  have HS := Lib.hid hs
  have hs2 : s < 2 := by omega
  rw [← hs] at SH AHL
  have AP := Lib.hid (ahead_p h s i hs2 (by omega) (by omega))
  have c0 := h.c0
  have H := Lib.hid h
  clear h hs hk4
  obtain ⟨y, hy⟩ : ∃ y, y = ah s ks i := ⟨_, rfl⟩
  have HY := Lib.hid hy
  rw [← hy] at AP AHL
  clear hy
  go_enter Tryz.func25, Tryz.ntmps25
  go_wp2_with fail
  refine LN.out.mono ?_
  rintro e w1 ⟨rfl, rfl⟩
  go_wp2_with fail
  refine RD.out.mono ?_
  rintro e w1 ⟨rfl, rfl⟩
  go_wp2_with fail
  refine SH.out.mono ?_
  rintro e w1 ⟨rfl, rfl⟩
  go_wp2_with fail
  refine AP.out.mono ?_
  rintro e w1 ⟨rfl, h1, m1⟩
  have MP := Lib.hid (imate_p h1 s y hs2 AHL.out (by omega))
  have M1 := Lib.hid m1
  clear h1 m1 AP SH RD LN c0 H
  go_wp2_with fail
  refine MP.out.mono ?_
  rintro e w2 ⟨z, hz, hmo, rfl, h2, m2⟩
  have PP := Lib.hid (place_q h2 s z hs2 hz (by omega))
  have M2 := Lib.hid (M1.out.trans m2 fun _ _ h => h)
  have HMO := Lib.hid hmo
  clear h2 m2 M1 MP hmo
  go_wp2_with fail
  refine PP.out.mono ?_
  rintro e w3 ⟨p, hp, hps, hpa, rfl, h3, m3⟩
  have H3 := Lib.hid h3
  have M3 := Lib.hid (M2.out.trans m3 fun _ _ h => h)
  have HPS := Lib.hid hps
  have HPA := Lib.hid hpa
  clear h3 m3 M2 PP hps hpa
  go_wp2_with fail
  go_ret2
  refine ⟨p, ⟨hp, ?_, ?_⟩, rfl, H3.out, M3.out⟩
  · rw [← HS.out]; exact HPS.out
  · rw [← HS.out, ← HY.out, HPA.out]; exact HMO.out
theorem mateI_no (h : Mx w0 w m gx p0 g0 p1 g1 ks q) (i : Int) (hi : i < 0 ∨ (ks.length : Int) ≤ i) :
    Calls Tryz.prog 25 #[.pointer (some ⟨m, 0, none⟩), .int .i64 i] w fun e w' => e = .returned (.tuple #[.int .i64 0, .int .i64 1]) ∧ w = w' := by
  have LN := Lib.hid (ilen_p h)
  have hn9 := h.n9
  have RD := Lib.hid (ready4_no ⟨m, 0, none⟩ i ((ks.length : Int) - 1) w (by omega))
  clear h hi
  go_enter Tryz.func25, Tryz.ntmps25
  go_wp2_with fail
  refine LN.out.mono ?_
  rintro e w1 ⟨rfl, rfl⟩
  go_wp2_with fail
  refine RD.out.mono ?_
  rintro e w1 ⟨rfl, rfl⟩
  go_wp2_with fail
  go_ret2
  exact ⟨rfl, rfl⟩
theorem kindOf_p (s b : Nat) (w : World) (hs : s < 2) : Calls Tryz.prog 64 #[.int .i64 (s : Int), .bool (decide (b = 1))] w fun e w' => e = .returned (.int .i64 ((2 * s + (if b = 1 then 0 else 1) : Nat) : Int)) ∧ w = w' := by
  by_cases hb : b = 1
  · rw [decide_eq_true hb, if_pos hb]
    go_enter Tryz.func64, Tryz.ntmps64
    go_wp2_with fail
    go_ret
    exact ⟨by first | rfl | (simp; omega), rfl⟩
  · rw [decide_eq_false hb, if_neg hb]
    go_enter Tryz.func64, Tryz.ntmps64
    go_wp2_with fail
    go_ret
    exact ⟨by first | rfl | (simp; omega), rfl⟩
theorem Mx.open_ (h : Mx w0 w m gx p0 g0 p1 g1 ks q) (i : Nat) (hi : i < (ownL 0 ks).length) : Calls Tryz.prog 65 #[.pointer (some ⟨p0, 0, none⟩), .int .i64 (i : Int)] w fun e w' => e = .returned (.bool (decide ((ownL 0 ks).getD i 0 = 1))) ∧ w = w' := by
  obtain ⟨d, ha⟩ := h.pa
  have h1 := popen_in p0 g0 _ _ q w i ha.ix hi
  rwa [val_bit (ownL_bin 0 ks)] at h1
theorem Mx.openB (h : Mx w0 w m gx p0 g0 p1 g1 ks q) (i : Nat) (hi : i < (ownL 1 ks).length) : Calls Tryz.prog 65 #[.pointer (some ⟨p1, 0, none⟩), .int .i64 (i : Int)] w fun e w' => e = .returned (.bool (decide ((ownL 1 ks).getD i 0 = 1))) ∧ w = w' := by
  obtain ⟨d, ha⟩ := h.pb
  have h1 := popen_in p1 g1 _ _ q w i ha.ix hi
  rwa [val_bit (ownL_bin 1 ks)] at h1
theorem iat_out (h : Mx w0 w m gx p0 g0 p1 g1 ks q) (i : Int) (hi : i < 0 ∨ (ks.length : Int) ≤ i) :
    Calls Tryz.prog 27 #[.pointer (some ⟨m, 0, none⟩), .int .i64 i] w fun e w' => e = .returned (.int .i64 (-1)) ∧ w = w' := by
  have LN := Lib.hid (ilen_p h)
  clear h
  by_cases h0 : i < 0
  · go_enter Tryz.func27, Tryz.ntmps27
    go_wp2_with fail
    go_ret
    exact ⟨rfl, rfl⟩
  · have h1 : (ks.length : Int) ≤ i := by omega
    have h2 : 0 ≤ i := by omega
    clear hi
    go_enter Tryz.func27, Tryz.ntmps27
    go_wp2_with fail
    refine LN.out.mono ?_
    rintro e w1 ⟨rfl, rfl⟩
    go_wp2_with fail
    go_ret
    exact ⟨rfl, rfl⟩
set_option maxHeartbeats 1000000 in
theorem iat_p (h : Mx w0 w m gx p0 g0 p1 g1 ks q) (i : Nat) (hi : i < ks.length) (hq : q ≤ 1000000) :
    Calls Tryz.prog 27 #[.pointer (some ⟨m, 0, none⟩), .int .i64 (i : Int)] w (MxP w0 w m gx p0 g0 p1 g1 ks (q + 1) (.returned (.int .i64 ((ks.getD i 0 : Nat) : Int)))) := by
  have LN := Lib.hid (ilen_p h)
  have SH := Lib.hid (h.shape i hi)
  have hk4 := h.kd.getD i
  have AHL := Lib.hid (ah_lt (ks.getD i 0 / 2) ks i hi rfl)
  have OG := Lib.hid (ownL_get (ks.getD i 0 / 2) ks i hi rfl)
  obtain ⟨s, hs⟩ : ∃ s, s = ks.getD i 0 / 2 := ⟨_, rfl⟩
  have hs2 : s < 2 := by omega
  rw [← hs] at SH AHL OG
  have AP := Lib.hid (ahead_p h s i hs2 (by omega) hq)
  have c0 := h.c0
  have c1 := h.c1
  have c2 := h.c2
  obtain ⟨y, hy⟩ : ∃ y, y = ah s ks i := ⟨_, rfl⟩
  rw [← hy] at AP AHL OG
  have HYY := Lib.hid hy
  have hni : ¬ (ks.length : Int) ≤ (i : Int) := by omega
  have KK : Hid (2 * s + (if (1 - ks.getD i 0 % 2) = 1 then 0 else 1) = ks.getD i 0) := by
    show _ = _
    split <;> omega
  obtain ⟨b, hb⟩ : ∃ b, b = 1 - ks.getD i 0 % 2 := ⟨_, rfl⟩
  rw [← hb] at KK OG
  generalize ks.getD i 0 = kk at *
  clear hy hb hs hk4
  have KO := Lib.hid (fun W => kindOf_p s b W hs2)
  rw [KK.out] at KO
  have AP2 : Hid (Calls Tryz.prog 62 #[.pointer (some ⟨m, 0, none⟩), .int .i64 (s : Int), .int .i64 (i : Int)] w.drew (MxP w0 w.drew m gx p0 g0 p1 g1 ks (q + 1) (.returned (.int .i64 (y : Int))))) := by
    have hd := ahead_p (h.below ((Below.refl w.heap.size w).drew)) s i hs2 (by omega) hq
    rw [← HYY.out] at hd; exact hd
  rcases (by omega : s = 0 ∨ s = 1) with rfl | rfl
  · have H := Lib.hid h
    have AP3 : Hid (Calls Tryz.prog 62 #[.pointer (some ⟨m, 0, none⟩), .int .i64 0, .int .i64 (i : Int)] w.drew (MxP w0 w.drew m gx p0 g0 p1 g1 ks (q + 1) (.returned (.int .i64 (y : Int))))) := AP2
    have KO3 : Hid (∀ W, Calls Tryz.prog 64 #[.int .i64 0, .bool (decide (b = 1))] W fun e w' => e = .returned (.int .i64 (kk : Int)) ∧ W = w') := KO
    clear h c2 AP AP2 KO
    go_enter Tryz.func27, Tryz.ntmps27
    go_wp2_with fail
    refine LN.out.mono ?_
    rintro e w1 ⟨rfl, rfl⟩
    go_wp2_with fail
    refine SH.out.mono ?_
    rintro e w1 ⟨rfl, rfl⟩
    go_wp2_with fail
    clear LN SH
    go_region_with (first
      | (go_at_call 62; (with_reducible refine AP3.out.mono ?_); rintro e wa ⟨rfl, ha, ma⟩; have k1 := ha.c1; have OP := ha.open_ y AHL.out; rw [OG.out] at OP; have HA := Lib.hid ha; have MA := Lib.hid ma; have HOP := Lib.hid OP; clear ha ma OP)
      | (go_at_call 65; (with_reducible refine HOP.out.mono ?_); rintro e wb ⟨rfl, rfl⟩)
      | (go_at_call 64; (with_reducible refine (KO3.out _).mono ?_); rintro e wb ⟨rfl, rfl⟩))
    all_goals (
      go_wp2_with fail
      go_ret
      exact ⟨rfl, HA.out, (Mod.refl (MxS gx p0 g0 p1 g1) w).drew.trans MA.out fun _ _ h => h⟩)
  · have H := Lib.hid h
    have AP3 : Hid (Calls Tryz.prog 62 #[.pointer (some ⟨m, 0, none⟩), .int .i64 1, .int .i64 (i : Int)] w.drew (MxP w0 w.drew m gx p0 g0 p1 g1 ks (q + 1) (.returned (.int .i64 (y : Int))))) := AP2
    have KO3 : Hid (∀ W, Calls Tryz.prog 64 #[.int .i64 1, .bool (decide (b = 1))] W fun e w' => e = .returned (.int .i64 (kk : Int)) ∧ W = w') := KO
    clear h c1 AP AP2 KO
    go_enter Tryz.func27, Tryz.ntmps27
    go_wp2_with fail
    refine LN.out.mono ?_
    rintro e w1 ⟨rfl, rfl⟩
    go_wp2_with fail
    refine SH.out.mono ?_
    rintro e w1 ⟨rfl, rfl⟩
    go_wp2_with fail
    clear LN SH
    go_region_with (first
      | (go_at_call 62; (with_reducible refine AP3.out.mono ?_); rintro e wa ⟨rfl, ha, ma⟩; have k1 := ha.c2; have OP := ha.openB y AHL.out; rw [OG.out] at OP; have HA := Lib.hid ha; have MA := Lib.hid ma; have HOP := Lib.hid OP; clear ha ma OP)
      | (go_at_call 65; (with_reducible refine HOP.out.mono ?_); rintro e wb ⟨rfl, rfl⟩)
      | (go_at_call 64; (with_reducible refine (KO3.out _).mono ?_); rintro e wb ⟨rfl, rfl⟩))
    all_goals (
      go_wp2_with fail
      go_ret
      exact ⟨rfl, HA.out, (Mod.refl (MxS gx p0 g0 p1 g1) w).drew.trans MA.out fun _ _ h => h⟩)
end
end Go.Proofs.YtagpdpacaoianaaGreatDoor
