/- The turner's turns. -/
import Derived.Test.YtoncollcefanjaaZCtReach
import Derived.Test.YtoncollcefanjaaZg1
import Derived.Test.YtoncollcefanjaaZPNames
import Derived.Deep.CutRange
import Derived.Deep.RegionWith
import Derived.Deep.RegionHeld3
namespace Go.Proofs.Ytoncollcefanjaa
set_option maxRecDepth 100000
open Go.RowKit
set_option linter.unusedVariables false
set_option linter.unusedSimpArgs false
def TurnsPost (w : World) (Fr : Nat → Prop) (l : List Nat) (r e : Nat) (gt gm gI gT n cI cT T : Nat) (told : List Nat) (ts : List (List Nat)) (en : Ending) (w' : World) : Prop :=
  ∃ (ok : Bool) (Fr' : Nat → Prop) (AK : Option Addr) (cK : Nat) (ks : List Value) (ts' : List (List Nat)), en = .returned (.bool ok) ∧ (ok = true ↔ TurnsTo l r e) ∧
    RowsR w' Fr' gt 83 (tvS gm AK ts'.length cK gI gT n cI cT T) (txS ks (List.replicate n (-1)) told) ∧ Kno w' Fr' n ks ts' ∧ (∀ k, w'.heap.size ≤ k → Fr' k) ∧ (∀ k, Fr' k → Fr k) ∧ Mod Fr w w' ∧
    (ok = true → ∃ t, ts' = ts ++ [t] ∧ IsT l t ∧ sgL t r = e) ∧ (ok = false → ts' = ts)
theorem step_append_runT {P : Program} (w : World) {ops : Array Oper} {o : Oper} {a : Act} {K : Act → World → Prop} {Q : Exit → Act → World → Prop} {E : Prop} (hw : Region.wanted o (yielded ops a.tmps) = true) (s x : Operand) (t : TypeId)
    (ho : o.op = .call { callee := .builtin .append, args := #[s, x], argTypes := #[t, t] }) (v u v' : Value) (w' : World) (hs : a.eval s = v) (hx : a.eval x = u)
    (hr : (Builtin.append_ #[t, t] o.type #[v, u]).run P w = .ok v' w') (h : K (a.put o.dst v') w') :
    if Region.wanted o (yielded ops a.tmps) = true then Oper.wp P o a w K Q else E := by
  rw [if_pos hw]
  unfold Oper.wp execOp
  simp only [ho, resolve, invoke, builtin, Sem.run_bind, Sem.run_pure, Result.andThen_ok, List.map_toArray, List.map_cons, List.map_nil, hs, hx, hr]
  exact h
theorem drop_consR (T : List Nat) (i : Nat) (h : i < T.length) : T.drop i = T.getD i 0 :: T.drop (i + 1) := by
  rw [List.drop_eq_getElem_cons h, List.getD_eq_getElem?_getD, List.getElem?_eq_getElem h]; rfl
/-- A turn is put behind the known ones. -/
theorem known_push {w w1 : World} {Fr : Nat → Prop} {gt gm gI gT n cI cT T cK : Nat} {AK : Option Addr} {ks : List Value} {img : List Int} {told : List Nat} {ts : List (List Nat)} {t : List Nat}
    (h : RowsR w Fr gt 83 (tvS gm AK ts.length cK gI gT n cI cT T) (txS ks img told)) (hk : Kno w Fr n ks ts) (hFr : ∀ k, w.heap.size ≤ k → Fr k) (hq : ts.length ≤ 500000) (htl : t.length = n) (h0 : 0 < n)
    {b c : Nat} (hb : Below w.heap.size w w1) (ho : w1.ownsRow w.heap.size 3 1 (.slice (some ⟨b, 0, none⟩) n c) n (I64 (ofN t))) :
    ∃ A1 c1 w2, (Builtin.append_ #[81, 81] 81 #[.slice AK ts.length cK, .slice (some ⟨w1.heap.size, 0, none⟩) 1 1]).run Try.prog (w1.alloc (.cells #[.slice (some ⟨b, 0, none⟩) n c] 24)) = .ok (.slice A1 (ts.length + 1) c1) w2 ∧
      w2.frozen? ⟨gt, 1, none⟩ = false ∧ w2.cell? ⟨gt, 1, none⟩ = some (.slice AK ts.length cK) ∧
      RowsR (w2.setCell ⟨gt, 1, none⟩ (.slice A1 (ts.length + 1) c1)) (fun k => Fr k ∧ k ≠ b) gt 83 (tvS gm A1 (ts ++ [t]).length c1 gI gT n cI cT T) (txS (ks ++ [.slice (some ⟨b, 0, none⟩) n c]) img told) ∧
      Kno (w2.setCell ⟨gt, 1, none⟩ (.slice A1 (ts.length + 1) c1)) (fun k => Fr k ∧ k ≠ b) n (ks ++ [.slice (some ⟨b, 0, none⟩) n c]) (ts ++ [t]) ∧ Mod Fr w (w2.setCell ⟨gt, 1, none⟩ (.slice A1 (ts.length + 1) c1)) ∧ b < w2.heap.size ∧ Mod (fun k => k = gt ∨ some k = (Value.slice AK ts.length cK).ownBlock) w (w2.setCell ⟨gt, 1, none⟩ (.slice A1 (ts.length + 1) c1)) := by
  obtain ⟨i0, hi0, hz0, hz1, hz2⟩ := info_parts info_ints
  have hbb := own_block ho
  have hal : Below w1.heap.size w1 (w1.alloc (.cells #[.slice (some ⟨b, 0, none⟩) n c] 24)) := (Below.refl _ _).alloc (Nat.le_refl _) _
  have hb1 : Below w.heap.size w (w1.alloc (.cells #[.slice (some ⟨b, 0, none⟩) n c] 24)) := hb.trans (hal.mono hb.size)
  have h1 := h.mono (Fr' := fun k => Fr k ∧ k ≠ b) fun k h1 h2 => ⟨h2, by omega⟩
  have hkl : ks.length = ts.length := hk.1
  have oK : w.ownsRow 0 24 1 (.slice AK ts.length cK) ks.length ks := h.own 1 24 ks rfl
  rw [hkl] at oK
  have oK1 := own_below oK hb1
  have rd := Rd.new w1 24 #[.slice (some ⟨b, 0, none⟩) n c] 1 [.slice (some ⟨b, 0, none⟩) n c] rfl rfl
  obtain ⟨v', w2, hrun, hnew, hgr, hob⟩ := run_append_rd (P := Try.prog) (w1.alloc (.cells #[.slice (some ⟨b, 0, none⟩) n c] 24)) 0 81 81 24 i0 (.slice none 0 0) 24 Try.underlying81 hi0 hz0 hz1 hz2 rfl _ ts.length _ oK1 (w1.heap.size + 1) (some ⟨w1.heap.size, 0, none⟩) 1 1 _ rd (by intro u hu; rw [List.mem_singleton] at hu; subst hu; rfl) (by simp only [maxLen]; omega) (by omega) (Nat.zero_le _)
  obtain ⟨A1, c1, rfl, _, _⟩ := own_form hnew
  have hl1 : (ks ++ [Value.slice (some ⟨b, 0, none⟩) n c]).length = ts.length + 1 := by rw [List.length_append, hkl]; rfl
  have hnew' : w2.ownsRow 0 24 1 (.slice A1 (ts.length + 1) c1) (ks ++ [Value.slice (some ⟨b, 0, none⟩) n c]).length (ks ++ [.slice (some ⟨b, 0, none⟩) n c]) := by rw [hl1]; exact hnew
  -- in memory that may be turned, but for the new turn's
  have hFb : ∀ k, w.heap.size ≤ k → k ≠ b → (Fr k ∧ k ≠ b) := fun k h1 h2 => ⟨hFr k h1, h2⟩
  have MG := Mod.ofGrown hgr
  have hobA : ∀ k, (Value.slice A1 (ts.length + 1) c1).ownBlock = some k → k ≠ b := fun k hk' e => by
    rcases hob with q | q
    · rw [hk'] at q
      have := (oK.lt k q.symm).2
      omega
    · rw [hk'] at q
      have := Option.some.inj q
      simp at this
      omega
  have app := h.app 1 (y := ks ++ [.slice (some ⟨b, 0, none⟩) n c]) rfl (by simp) hb1 hnew' hgr hob hFr
  have hbx := app.1
  have R2 : RowsR (w2.setCell ⟨gt, 1, none⟩ (.slice A1 (ts.length + 1) c1)) (fun k => Fr k ∧ k ≠ b) gt 83 (tvS gm A1 (ts.length + 1) c1 gI gT n cI cT T) (txS (ks ++ [.slice (some ⟨b, 0, none⟩) n c]) img told) := by
    have r := app.2.1
    refine ⟨r.bx, r.own, r.ap, r.ng, ⟨r.frg, fun c => by have := h.bx.lt; omega⟩, fun i k hx hk' => ⟨r.fr i k hx hk', fun e => ?_⟩⟩
    match i with
    | 0 => simp at hx
    | 1 => exact hobA k hk' e
    | 2 => have := h.ownLt (i := 2) (k := k) (by simp) hk'; omega
    | 3 => have := h.ownLt (i := 3) (k := k) (by simp) hk'; omega
    | 4 => simp at hx
    | i + 5 => simp at hx
  have M2 := app.2.2
  have hg1 := hbx.frozen 1
  have hc1 : w2.cell? ⟨gt, 1, none⟩ = some (.slice AK ts.length cK) := by rw [hbx.cell 1]; rfl
  refine ⟨A1, c1, w2, hrun, hg1, hc1, by rw [List.length_append]; exact R2, ⟨by rw [hl1, List.length_append]; rfl, fun i hi => ?_⟩, M2, Nat.lt_of_lt_of_le hbb.2 (Nat.le_trans hal.size MG.size), Mod.setCell (p := ⟨gt, 1, none⟩) ((Mod.none_ hb1 (fun k => k = gt ∨ some k = (Value.slice AK ts.length cK).ownBlock)).trans MG fun k _ c => .inr c) (fun _ => .inl rfl) _⟩
  rw [List.length_append] at hi
  have e1 : [t].length = 1 := rfl
  by_cases hit : i < ts.length
  · obtain ⟨b', c', k1, k2, k3, k4, k5⟩ := hk.2 i hit
    have ge : (ts ++ [t]).getD i [] = ts.getD i [] := by rw [List.getD_eq_getElem?_getD, List.getElem?_append_left hit, ← List.getD_eq_getElem?_getD]
    refine ⟨b', c', by rw [List.getElem?_append_left (by rw [hkl]; exact hit)]; exact k1, Nat.lt_of_lt_of_le k2 M2.size, fun q => k3 q.1, by rw [ge]; exact k4, fun j hj => by rw [ge, M2.cell k2 k3]; exact k5 j hj⟩
  · obtain rfl : i = ts.length := by omega
    have ge : (ts ++ [t]).getD ts.length [] = t := by simp [List.getD_eq_getElem?_getD]
    have hbn : b ≠ gt := fun c => by have := h.bx.lt; omega
    have hbk : some b ≠ (Value.slice AK ts.length cK).ownBlock := fun c => by have := (oK.lt b c.symm).2; omega
    refine ⟨b, c, by rw [← hkl]; simp, by simp [World.setCell]; exact Nat.lt_of_lt_of_le hbb.2 (Nat.le_trans hal.size MG.size), fun q => q.2 rfl, by rw [ge]; exact htl, fun j hj => ?_⟩
    rw [ge]
    have c0 := own_cellI ho j hj
    rw [ofN_get] at c0
    have MX : Mod (fun k => k = gt) w2 (w2.setCell ⟨gt, 1, none⟩ (.slice A1 (ts.length + 1) c1)) := Mod.setCell (p := ⟨gt, 1, none⟩) (Mod.refl (fun k => k = gt) w2) (fun _ => rfl) _
    rw [MX.cell (Nat.lt_of_lt_of_le hbb.2 (Nat.le_trans hal.size MG.size)) hbn, MG.cell (Nat.lt_of_lt_of_le hbb.2 hal.size) (fun c => hbk c), hal.cell (p := ⟨b, j, none⟩) hbb.2]
    exact c0
set_option maxHeartbeats 8000000 in
theorem cturns_p (Fr : Nat → Prop) (B0 : Nat) (w0 : World) (l b : List Nat) (gt gm : Nat) (AK : Option Addr) (cK gI gT n cI cT T r e : Nat) (ks : List Value) (told : List Nat) (ts : List (List Nat)) (w : World)
    (h : RowsR w Fr gt 83 (tvS gm AK ts.length cK gI gT n cI cT T) (txS ks (List.replicate n (-1)) told)) (hk : Kno w Fr n ks ts) (hFr : ∀ k, w.heap.size ≤ k → Fr k) (hB : ∀ k, Fr k → B0 ≤ k) (hB0 : B0 ≤ w.heap.size) (hw0 : Below B0 w0 w)
    (hi : Inv l b) (he : l.length % 2 = 0) (hn : n = l.length) (hr : r < n) (hE : e < n) (hp : ∀ j, j < l.length → part l r j)
    (SG : Hid (∀ (W : World), Below B0 w0 W → ∀ d : Nat, d < n → Calls Try.prog 56 #[.pointer (some ⟨gm, 0, none⟩), .int .i64 (d : Int)] W fun e w' => e = .returned (.int .i64 ((stp l 0 d : Nat) : Int)) ∧ Below W.heap.size W w'))
    (MT : Hid (∀ (W : World), Below B0 w0 W → ∀ d : Nat, d < n → Calls Try.prog 55 #[.pointer (some ⟨gm, 0, none⟩), .int .i64 (d : Int)] W fun e w' => e = .returned (.int .i64 ((stp l 1 d : Nat) : Int)) ∧ Below W.heap.size W w'))
    (hnn : n ≤ 500000) (hq : ts.length ≤ 500000) :
    Calls Try.prog 49 #[.pointer (some ⟨gt, 0, none⟩), .int .i64 (r : Int), .int .i64 (e : Int)] w (TurnsPost w Fr l r e gt gm gI gT n cI cT T told ts) := by
  obtain ⟨i0, hi0, hz0, hz1, hz2⟩ := info_parts info_int
  have r2 := h.bx.cell 2
  simp at r2
  obtain ⟨ci, fi⟩ := h.cellI 2 rfl rfl (by simp) r hr
  have hF0 := h.mono (Fr' := fun k => Fr k ∧ k < w.heap.size) fun k h1 h2 => ⟨h2, h1⟩
  obtain ⟨s1, _, m1⟩ := hF0.putI 2 rfl rfl (by simp) r (e : Int) (xs' := txS ks ((List.replicate n (-1)).set r (e : Int)) told) rfl
  have M1 : Mod Fr w (w.setCell ⟨gI, r, none⟩ (.int .i64 (e : Int))) := m1.mono fun k _ q => q.1
  have hri : (r : Int) < (n : Int) := by omega
  have TN0 : Hid (Tn l r e [r] ((List.replicate n (-1)).set r (e : Int)) 0 0 true) := by rw [hn]; exact Tn.start (by rw [← hn]; exact hr) (by rw [← hn]; exact hE)
  have HKN := Lib.hid hk
  have HI := Lib.hid hi
  have HEV := Lib.hid he
  have HN := Lib.hid hn
  have HP := Lib.hid hp
  have HFR := Lib.hid hFr
  have HGI : Hid (gI < w.heap.size) := h.ownLt (i := 2) (by simp) (by simp [Value.ownBlock])
  have HGT : Hid (gt < w.heap.size) := h.bx.lt
  have HAK : Hid (∀ k, (Value.slice AK ts.length cK).ownBlock = some k → k < w.heap.size) := fun k hk => h.ownLt (i := 1) (by simp) hk
  have HFG : Hid (Fr gI) := h.fr 2 gI (by simp) (by simp [Value.ownBlock])
  have SG2 : Hid (∀ (W : World), Mod Fr w W → ∀ d : Nat, d < n → Calls Try.prog 56 #[.pointer (some ⟨gm, 0, none⟩), .int .i64 (d : Int)] W fun e w' => e = .returned (.int .i64 ((stp l 0 d : Nat) : Int)) ∧ Below W.heap.size W w') := fun W M d hd => SG.out W (hw0.trans (M.belowB hB0 fun i hi q => by have := hB i q; omega)) d hd
  have MT2 : Hid (∀ (W : World), Mod Fr w W → ∀ d : Nat, d < n → Calls Try.prog 55 #[.pointer (some ⟨gm, 0, none⟩), .int .i64 (d : Int)] W fun e w' => e = .returned (.int .i64 ((stp l 1 d : Nat) : Int)) ∧ Below W.heap.size W w') := fun W M d hd => MT.out W (hw0.trans (M.belowB hB0 fun i hi q => by have := hB i q; omega)) d hd
  have hsz : (w.setCell ⟨gI, r, none⟩ (.int .i64 (e : Int))).heap.size = w.heap.size := by simp [World.setCell]
  have hal : Below (w.setCell ⟨gI, r, none⟩ (.int .i64 (e : Int))).heap.size (w.setCell ⟨gI, r, none⟩ (.int .i64 (e : Int))) ((w.setCell ⟨gI, r, none⟩ (.int .i64 (e : Int))).alloc (.cells #[.int .i64 (r : Int)] 3)) := (Below.refl _ _).alloc (Nat.le_refl _) _
  have OQ0 : Hid (((w.setCell ⟨gI, r, none⟩ (.int .i64 (e : Int))).alloc (.cells #[.int .i64 (r : Int)] 3)).ownsRow w.heap.size 3 1 (.slice (some ⟨w.heap.size, 0, none⟩) [r].length 1) [r].length (I64 (ofN [r]))) := by
    have := World.ownsRow_lit (base := (w.setCell ⟨gI, r, none⟩ (.int .i64 (e : Int))).heap.size) (e := 3) (size := 1) (w.setCell ⟨gI, r, none⟩ (.int .i64 (e : Int))) #[.int .i64 (r : Int)] 1 (Nat.le_refl _) (by simp [maxLen]) (by simp)
    rw [hsz] at this
    exact this
  have R0 := Lib.hid (s1.below hal)
  have MO0 := Lib.hid (M1.trans (Mod.none_ hal (fun _ => False)) fun _ _ c => c.elim)
  clear h hF0 s1 m1 M1 hk hi he hn hp hFr hB hB0 hw0 SG MT hal
  go_enter Try.func49, Try.ntmps49
  go_wp2_with fail
  generalize (w.setCell ⟨gI, r, none⟩ (.int .i64 (e : Int))).alloc (.cells #[.int .i64 (r : Int)] 3) = v2 at *
  clear r2 ci fi hsz
  go_loopw [7, 8, 9] (fun v o x wr => ∃ (i : Nat) (A : Option Addr) (c : Nat) (Q : List Nat) (img : List Int) (ok : Bool), i ≤ Q.length ∧ Q.length ≤ n ∧ v = .slice A Q.length c ∧ o = .bool ok ∧ x = .int .i64 (i : Int) ∧ Hid (Tn l r e Q img i 0 ok) ∧ Hid (RowsR wr (fun k => Fr k ∧ k < w.heap.size) gt 83 (tvS gm AK ts.length cK gI gT n cI cT T) (txS ks img told)) ∧
    Hid (wr.ownsRow w.heap.size 3 1 (.slice A Q.length c) Q.length (I64 (ofN Q))) ∧ Hid (Mod Fr w wr)) (fun _ _ x _ => n - (intOf x).toNat)
  case atStart => exact ⟨0, _, 1, [r], _, true, by simp, by simp; omega, rfl, rfl, rfl, TN0, R0, OQ0, MO0⟩
  case round =>
    clear TN0 R0 OQ0 MO0
    obtain ⟨i, A, c, Q, img, ok, hiQ, hQn, rfl, rfl, rfl, TN, R, OQ, MO⟩ := hrel
    obtain ⟨qQ, hqQ⟩ : ∃ q, q = Q.length := ⟨_, rfl⟩
    rw [← hqQ] at OQ hiQ hQn ⊢
    have HQ := Lib.hid hqQ
    clear hqQ
    by_cases hgo : i < qQ ∧ ok = true
    · obtain ⟨hlt, rfl⟩ := hgo
      have hdk : decide (i < qQ) = true := decide_eq_true hlt
      obtain ⟨gQ, rfl, _⟩ := own_some OQ.out (by omega)
      have cQ := own_cellI OQ.out i hlt
      rw [ofN_get] at cQ
      obtain ⟨x, hx⟩ : ∃ x, x = Q.getD i 0 := ⟨_, rfl⟩
      rw [← hx] at cQ
      have HX := Lib.hid hx
      have hxn : x < n := by rw [hx, HN.out]; exact TN.out.lt _ (getD_orb_mem (by rw [← HQ.out]; exact hlt))
      have g0 := R.out.bx.cell 0
      simp at g0
      have hii : (i : Int) < (qQ : Int) := by omega
      clear hx
      go_wp2_with fail
      go_region
      all_goals (go_wp2_with fail)
      have R1 := Lib.hid (R.out.drewN 1)
      have OQ1 := Lib.hid (own_below OQ.out (below_draws (Below.refl _ _) 1))
      have MO1 := Lib.hid (MO.out.drewN 1)
      have e1 : wr.drew = wr.drewN 1 := rfl
      rw [HQ.out] at OQ1 hlt hQn
      go_loopw [7, 8, 50] (fun v o y wx => ∃ (j : Nat) (A : Option Addr) (c : Nat) (Q : List Nat) (img : List Int) (ok : Bool), j ≤ 2 ∧ i < Q.length ∧ Q.length ≤ n ∧ v = .slice A Q.length c ∧ o = .bool ok ∧ y = .int .i64 (j : Int) ∧ Hid (Q.getD i 0 = x) ∧ Hid (Tn l r e Q img i j ok) ∧ Hid (RowsR wx (fun k => Fr k ∧ k < w.heap.size) gt 83 (tvS gm AK ts.length cK gI gT n cI cT T) (txS ks img told)) ∧
        Hid (wx.ownsRow w.heap.size 3 1 (.slice A Q.length c) Q.length (I64 (ofN Q))) ∧ Hid (Mod Fr w wx)) (fun _ _ y _ => 2 - (intOf y).toNat)
      case atStart => exact ⟨0, _, c, Q, img, true, by omega, hlt, hQn, by rw [HQ.out], rfl, rfl, HX.out.symm, TN, R1, OQ1, MO1⟩
      case round =>
        clear R1 OQ1 MO1 TN R OQ MO HX g0 cQ
        obtain ⟨j, A, c, Q, img, ok, hj, hiQ, hQn, rfl, rfl, rfl, HX, TN, R, OQ, MO⟩ := hrel
        have ix0 : ∀ W : World, (Instr.index 100 (.agg #[.func (.func 56) #[.pointer (some ⟨gm, 0, none⟩)] #[], .func (.func 55) #[.pointer (some ⟨gm, 0, none⟩)] #[]]) (.int .i64 0)).run Try.prog W = .ok (.func (.func 56) #[.pointer (some ⟨gm, 0, none⟩)] #[]) W := fun W => by rfl
        have ix1 : ∀ W : World, (Instr.index 100 (.agg #[.func (.func 56) #[.pointer (some ⟨gm, 0, none⟩)] #[], .func (.func 55) #[.pointer (some ⟨gm, 0, none⟩)] #[]]) (.int .i64 1)).run Try.prog W = .ok (.func (.func 55) #[.pointer (some ⟨gm, 0, none⟩)] #[]) W := fun W => by rfl
        have hxQ : x ∈ Q := by rw [← HX.out]; exact getD_orb_mem hiQ
        obtain ⟨f, hf1, hf2⟩ := TN.out.vl x hxQ
        have hfn : f < n := by rw [HN.out]; exact hf1
        have g2 := R.out.bx.cell 2
        simp at g2
        obtain ⟨gx, _⟩ := R.out.cellI 2 rfl rfl (by rw [TN.out.il, ← HN.out]) x hxn
        rw [hf2] at gx
        have HFI : Hid (img.getD (Q.getD i 0) 0 = (f : Int)) := by show _ = _; rw [HX.out]; exact hf2
        have hxi : (x : Int) < (n : Int) := by omega
        obtain ⟨qQ, hqQ⟩ : ∃ q, q = Q.length := ⟨_, rfl⟩
        rw [← hqQ] at OQ hiQ hQn ⊢
        have HQ := Lib.hid hqQ
        clear hqQ hxQ hf1 hf2
        rcases (by omega : j = 0 ∨ j = 1 ∨ j = 2) with rfl | rfl | rfl
        · have hdj : decide ((0 : Int) < 2) = true := by decide
          have hyn : stp l 0 x < n := by rw [HN.out]; exact stp_lt HI.out HEV.out 0 (by rw [← HN.out]; exact hxn)
          have hzn : stp l 0 f < n := by rw [HN.out]; exact stp_lt HI.out HEV.out 0 (by rw [← HN.out]; exact hfn)
          have TNEW : Hid (img.getD (stp l 0 x) 0 = -1 → Tn l r e (Q ++ [stp l 0 x]) (img.set (stp l 0 x) ((stp l 0 f : Nat) : Int)) i (0 + 1) ok) := fun hu => TN.out.new HI.out HEV.out (by rw [← HQ.out]; exact hiQ) (by rw [← HN.out]; exact hfn) HFI.out (by rw [HX.out]) hu
          have TOLD : Hid (img.getD (stp l 0 x) 0 ≠ -1 → Tn l r e Q img i (0 + 1) (ok && decide (img.getD (stp l 0 x) 0 = ((stp l 0 f : Nat) : Int)))) := fun hu => TN.out.old (by rw [← HQ.out]; exact hiQ) HFI.out (by rw [HX.out]) (by rw [← HN.out]; exact hyn) hu
          have HIL : Hid (img.length = n) := by show _ = _; rw [TN.out.il, HN.out]
          go_wp2_with fail
          go_cut [13, 14] from 53 to 64 (fun a c wx => a = .int .i64 ((stp l 0 x : Nat) : Int) ∧ c = .int .i64 ((stp l 0 f : Nat) : Int) ∧ Hid (Below wr.heap.size wr wx))
          case first =>
            have hba := (Below.refl wr.heap.size wr).drew
            have K1 : Hid (∀ W, Below wr.heap.size wr W → Calls Try.prog 56 #[.pointer (some ⟨gm, 0, none⟩), .int .i64 (x : Int)] W fun en w' => en = .returned (.int .i64 ((stp l 0 x : Nat) : Int)) ∧ Below wr.heap.size wr w') := fun W m => (SG2.out W (MO.out.trans (Mod.none_ m (fun _ => False)) fun _ _ q => q.elim) x hxn).mono fun en w' ⟨h1, h2⟩ => ⟨h1, m.trans (h2.mono m.size)⟩
            have K2 : Hid (∀ W, Below wr.heap.size wr W → Calls Try.prog 56 #[.pointer (some ⟨gm, 0, none⟩), .int .i64 (f : Int)] W fun en w' => en = .returned (.int .i64 ((stp l 0 f : Nat) : Int)) ∧ Below wr.heap.size wr w') := fun W m => (SG2.out W (MO.out.trans (Mod.none_ m (fun _ => False)) fun _ _ q => q.elim) f hfn).mono fun en w' ⟨h1, h2⟩ => ⟨h1, m.trans (h2.mono m.size)⟩
            have SK : Hid (∀ W, Below wr.heap.size wr W → Below wr.heap.size wr W ∧ W.cell? ⟨gt, 2, none⟩ = some (.slice (some ⟨gI, 0, none⟩) n cI) ∧ W.cell? ⟨gI, x, none⟩ = some (.int .i64 (f : Int))) := fun W m => ⟨m, (m.cell (p := ⟨gt, 2, none⟩) R.out.bx.lt).trans g2, (m.cell (p := ⟨gI, x, none⟩) (World.block_lt_of_cell? _ _ gx)).trans gx⟩
            obtain ⟨_, gg2, ggx⟩ := SK.out _ hba
            clear TNEW TOLD hyn hzn
            go_region_held3 (fun W => Below wr.heap.size wr W ∧ W.cell? ⟨gt, 2, none⟩ = some (.slice (some ⟨gI, 0, none⟩) n cI) ∧ W.cell? ⟨gI, x, none⟩ = some (.int .i64 (f : Int)))
              (exact SK.out _ (by assumption))
              (first
                | (go_at_call 56; (with_reducible refine (K1.out _ (by assumption)).mono ?_); rintro en wa ⟨rfl, hba⟩)
                | (go_at_call 56; (with_reducible refine (K2.out _ (by assumption)).mono ?_); rintro en wa ⟨rfl, hba⟩))
            all_goals (go_wp2_with fail; go_meet; exact ⟨rfl, rfl, hba⟩)
          case rest =>
            obtain ⟨rfl, rfl, B5⟩ := hcut
            have R5 := Lib.hid (R.out.below B5.out)
            have OQ5 := Lib.hid (own_below OQ.out B5.out)
            have MO5 := Lib.hid (MO.out.trans (Mod.none_ B5.out (fun _ => False)) fun _ _ q => q.elim)
            clear R OQ MO B5 gx g2 HFI TN
            generalize stp l 0 x = y at *
            generalize stp l 0 f = z at *
            have g2 := R5.out.bx.cell 2
            simp at g2
            obtain ⟨gy, fy⟩ := R5.out.cellI 2 rfl rfl HIL.out y hyn
            obtain ⟨v, hv⟩ : ∃ v, v = img.getD y 0 := ⟨_, rfl⟩
            rw [← hv] at gy TNEW TOLD
            have HV := Lib.hid hv
            have hyi : (y : Int) < (n : Int) := by omega
            clear hv
            by_cases hu : v = -1
            · have TN2 := Lib.hid (TNEW.out hu)
              subst hu
              obtain ⟨s3, b3, m3⟩ := R5.out.putI 2 rfl rfl HIL.out y (z : Int) (xs' := txS ks (img.set y (z : Int)) told) rfl
              have hsz : (wc.setCell ⟨gI, y, none⟩ (.int .i64 (z : Int))).heap.size = wc.heap.size := by simp [World.setCell]
              have hal : Below (wc.setCell ⟨gI, y, none⟩ (.int .i64 (z : Int))).heap.size (wc.setCell ⟨gI, y, none⟩ (.int .i64 (z : Int))) ((wc.setCell ⟨gI, y, none⟩ (.int .i64 (z : Int))).alloc (.cells #[.int .i64 (y : Int)] 3)) := (Below.refl _ _).alloc (Nat.le_refl _) _
              have OQ6 := own_below (own_mod OQ5.out b3 fun k hk e => by
                have h1 := (OQ5.out.lt k hk).1
                have h2 := R5.out.fr 2 gI (by simp) (by simp [Value.ownBlock])
                omega) hal
              have rd := (Rd.new (wc.setCell ⟨gI, y, none⟩ (.int .i64 (z : Int))) 3 #[.int .i64 (y : Int)] 1 [.int .i64 (y : Int)] rfl rfl)
              rw [hsz] at rd
              have MO6 := (MO5.out.trans m3 fun _ _ q => q.1).trans (Mod.none_ hal (fun _ => False)) fun _ _ q => q.elim
              obtain ⟨v', w5, hrun, hnew, hgr, hob⟩ := run_append_rd (P := Try.prog) ((wc.setCell ⟨gI, y, none⟩ (.int .i64 (z : Int))).alloc (.cells #[.int .i64 (y : Int)] 3)) w.heap.size 24 24 3 i0 (.int .i64 0) 8 Try.underlying24 hi0 hz0 hz1 hz2 rfl _ qQ _ OQ6 (wc.heap.size + 1) (some ⟨wc.heap.size, 0, none⟩) 1 1 _ rd (by simp [Value.oneCell']) (by simp only [maxLen]; omega) (by omega) MO6.size
              obtain ⟨A5, c5, rfl, _, _⟩ := own_form hnew
              have MG := Mod.appended OQ6 hgr
              have R6 := Lib.hid ((s3.below hal).mod MG fun k q c => by omega)
              have MO7 := Lib.hid (MO6.trans MG fun k hk q => by omega)
              have OQ7 : Hid (w5.ownsRow w.heap.size 3 1 (.slice A5 (qQ + 1) c5) (qQ + 1) (I64 (ofN (Q ++ [y])))) := by
                show World.ownsRow _ _ _ _ _ _ _
                rw [ofN_snocR]; exact hnew
              have HLE : Hid ((Q ++ [y]).length ≤ n) := by show _ ≤ _; rw [HN.out]; exact nodup_le TN2.out.nd TN2.out.lt
              have HL1 : Hid ((Q ++ [y]).length = qQ + 1) := by show _ = _; rw [List.length_append, ← HQ.out]; rfl
              have HXX : Hid ((Q ++ [y]).getD i 0 = x) := by show _ = _; rw [getD_left _ _ _ (by rw [← HQ.out]; exact hiQ)]; exact HX.out
              have k2 := R6.out.bx.cell 2
              simp at k2
              obtain ⟨ky, _⟩ := R6.out.cellI 2 rfl rfl (by rw [List.length_set]; exact HIL.out) y hyn
              rw [getDI_set _ _ _ _ (by rw [HIL.out]; exact hyn), if_pos rfl] at ky
              clear s3 b3 m3 R5 MO5 OQ5 hal OQ6 rd MO6 hnew hgr hob MG hsz TNEW TOLD
              cases ok with
              | false =>
                go_wp2_with (first
                  | (at_builtin; go_must (refine wpList_append_runR rfl _ _ _ rfl _ _ _ _ rfl rfl hrun ?_)))
                go_roundw
                case rel => exact ⟨0 + 1, A5, c5, Q ++ [y], _, false, by omega, by rw [HL1.out]; omega, HLE.out, by rw [HL1.out], rfl, rfl, HXX, TN2, R6, by rw [HL1.out]; exact OQ7, MO7⟩
                case measure => simp [intOf]
              | true =>
                go_wp2_with (first
                  | (at_builtin; go_must (refine wpList_append_runR rfl _ _ _ rfl _ _ _ _ rfl rfl hrun ?_)))
                go_roundw
                case rel => exact ⟨0 + 1, A5, c5, Q ++ [y], _, true, by omega, by rw [HL1.out]; omega, HLE.out, by rw [HL1.out], rfl, rfl, HXX, TN2, R6, by rw [HL1.out]; exact OQ7, MO7⟩
                case measure => simp [intOf]
            · have TN2 := Lib.hid (TOLD.out hu)
              have hvb : (v == -1) = false := beq_eq_false_iff_ne.2 hu
              obtain ⟨bq, hbq⟩ : ∃ bq, bq = decide (v = (z : Int)) := ⟨_, rfl⟩
              have hbe : (v == (z : Int)) = bq := by
                rw [hbq]
                by_cases c : v = (z : Int)
                · rw [decide_eq_true c]; exact beq_iff_eq.2 c
                · rw [decide_eq_false c]; exact beq_eq_false_iff_ne.2 c
              rw [← hbq] at TN2
              clear TNEW TOLD hu hbq
              cases ok with
              | false =>
                go_wp2_with fail
                go_roundw
                case rel => exact ⟨0 + 1, A, c, Q, img, false, by omega, by rw [← HQ.out]; exact hiQ, by rw [← HQ.out]; exact hQn, by rw [← HQ.out], rfl, rfl, HX, TN2, R5, by rw [← HQ.out]; exact OQ5, MO5⟩
                case measure => simp [intOf]
              | true =>
                go_wp2_with fail
                go_roundw
                case rel => exact ⟨0 + 1, A, c, Q, img, bq, by omega, by rw [← HQ.out]; exact hiQ, by rw [← HQ.out]; exact hQn, by rw [← HQ.out], rfl, rfl, HX, by rw [Bool.true_and] at TN2; exact TN2, R5, by rw [← HQ.out]; exact OQ5, MO5⟩
                case measure => simp [intOf]
        · have hdj : decide ((1 : Int) < 2) = true := by decide
          have hyn : stp l 1 x < n := by rw [HN.out]; exact stp_lt HI.out HEV.out 1 (by rw [← HN.out]; exact hxn)
          have hzn : stp l 1 f < n := by rw [HN.out]; exact stp_lt HI.out HEV.out 1 (by rw [← HN.out]; exact hfn)
          have TNEW : Hid (img.getD (stp l 1 x) 0 = -1 → Tn l r e (Q ++ [stp l 1 x]) (img.set (stp l 1 x) ((stp l 1 f : Nat) : Int)) i (1 + 1) ok) := fun hu => TN.out.new HI.out HEV.out (by rw [← HQ.out]; exact hiQ) (by rw [← HN.out]; exact hfn) HFI.out (by rw [HX.out]) hu
          have TOLD : Hid (img.getD (stp l 1 x) 0 ≠ -1 → Tn l r e Q img i (1 + 1) (ok && decide (img.getD (stp l 1 x) 0 = ((stp l 1 f : Nat) : Int)))) := fun hu => TN.out.old (by rw [← HQ.out]; exact hiQ) HFI.out (by rw [HX.out]) (by rw [← HN.out]; exact hyn) hu
          have HIL : Hid (img.length = n) := by show _ = _; rw [TN.out.il, HN.out]
          go_wp2_with fail
          go_cut [13, 14] from 53 to 64 (fun a c wx => a = .int .i64 ((stp l 1 x : Nat) : Int) ∧ c = .int .i64 ((stp l 1 f : Nat) : Int) ∧ Hid (Below wr.heap.size wr wx))
          case first =>
            have hba := (Below.refl wr.heap.size wr).drew
            have K1 : Hid (∀ W, Below wr.heap.size wr W → Calls Try.prog 55 #[.pointer (some ⟨gm, 0, none⟩), .int .i64 (x : Int)] W fun en w' => en = .returned (.int .i64 ((stp l 1 x : Nat) : Int)) ∧ Below wr.heap.size wr w') := fun W m => (MT2.out W (MO.out.trans (Mod.none_ m (fun _ => False)) fun _ _ q => q.elim) x hxn).mono fun en w' ⟨h1, h2⟩ => ⟨h1, m.trans (h2.mono m.size)⟩
            have K2 : Hid (∀ W, Below wr.heap.size wr W → Calls Try.prog 55 #[.pointer (some ⟨gm, 0, none⟩), .int .i64 (f : Int)] W fun en w' => en = .returned (.int .i64 ((stp l 1 f : Nat) : Int)) ∧ Below wr.heap.size wr w') := fun W m => (MT2.out W (MO.out.trans (Mod.none_ m (fun _ => False)) fun _ _ q => q.elim) f hfn).mono fun en w' ⟨h1, h2⟩ => ⟨h1, m.trans (h2.mono m.size)⟩
            have SK : Hid (∀ W, Below wr.heap.size wr W → Below wr.heap.size wr W ∧ W.cell? ⟨gt, 2, none⟩ = some (.slice (some ⟨gI, 0, none⟩) n cI) ∧ W.cell? ⟨gI, x, none⟩ = some (.int .i64 (f : Int))) := fun W m => ⟨m, (m.cell (p := ⟨gt, 2, none⟩) R.out.bx.lt).trans g2, (m.cell (p := ⟨gI, x, none⟩) (World.block_lt_of_cell? _ _ gx)).trans gx⟩
            obtain ⟨_, gg2, ggx⟩ := SK.out _ hba
            clear TNEW TOLD hyn hzn
            go_region_held3 (fun W => Below wr.heap.size wr W ∧ W.cell? ⟨gt, 2, none⟩ = some (.slice (some ⟨gI, 0, none⟩) n cI) ∧ W.cell? ⟨gI, x, none⟩ = some (.int .i64 (f : Int)))
              (exact SK.out _ (by assumption))
              (first
                | (go_at_call 55; (with_reducible refine (K1.out _ (by assumption)).mono ?_); rintro en wa ⟨rfl, hba⟩)
                | (go_at_call 55; (with_reducible refine (K2.out _ (by assumption)).mono ?_); rintro en wa ⟨rfl, hba⟩))
            all_goals (go_wp2_with fail; go_meet; exact ⟨rfl, rfl, hba⟩)
          case rest =>
            obtain ⟨rfl, rfl, B5⟩ := hcut
            have R5 := Lib.hid (R.out.below B5.out)
            have OQ5 := Lib.hid (own_below OQ.out B5.out)
            have MO5 := Lib.hid (MO.out.trans (Mod.none_ B5.out (fun _ => False)) fun _ _ q => q.elim)
            clear R OQ MO B5 gx g2 HFI TN
            generalize stp l 1 x = y at *
            generalize stp l 1 f = z at *
            have g2 := R5.out.bx.cell 2
            simp at g2
            obtain ⟨gy, fy⟩ := R5.out.cellI 2 rfl rfl HIL.out y hyn
            obtain ⟨v, hv⟩ : ∃ v, v = img.getD y 0 := ⟨_, rfl⟩
            rw [← hv] at gy TNEW TOLD
            have HV := Lib.hid hv
            have hyi : (y : Int) < (n : Int) := by omega
            clear hv
            by_cases hu : v = -1
            · have TN2 := Lib.hid (TNEW.out hu)
              subst hu
              obtain ⟨s3, b3, m3⟩ := R5.out.putI 2 rfl rfl HIL.out y (z : Int) (xs' := txS ks (img.set y (z : Int)) told) rfl
              have hsz : (wc.setCell ⟨gI, y, none⟩ (.int .i64 (z : Int))).heap.size = wc.heap.size := by simp [World.setCell]
              have hal : Below (wc.setCell ⟨gI, y, none⟩ (.int .i64 (z : Int))).heap.size (wc.setCell ⟨gI, y, none⟩ (.int .i64 (z : Int))) ((wc.setCell ⟨gI, y, none⟩ (.int .i64 (z : Int))).alloc (.cells #[.int .i64 (y : Int)] 3)) := (Below.refl _ _).alloc (Nat.le_refl _) _
              have OQ6 := own_below (own_mod OQ5.out b3 fun k hk e => by
                have h1 := (OQ5.out.lt k hk).1
                have h2 := R5.out.fr 2 gI (by simp) (by simp [Value.ownBlock])
                omega) hal
              have rd := (Rd.new (wc.setCell ⟨gI, y, none⟩ (.int .i64 (z : Int))) 3 #[.int .i64 (y : Int)] 1 [.int .i64 (y : Int)] rfl rfl)
              rw [hsz] at rd
              have MO6 := (MO5.out.trans m3 fun _ _ q => q.1).trans (Mod.none_ hal (fun _ => False)) fun _ _ q => q.elim
              obtain ⟨v', w5, hrun, hnew, hgr, hob⟩ := run_append_rd (P := Try.prog) ((wc.setCell ⟨gI, y, none⟩ (.int .i64 (z : Int))).alloc (.cells #[.int .i64 (y : Int)] 3)) w.heap.size 24 24 3 i0 (.int .i64 0) 8 Try.underlying24 hi0 hz0 hz1 hz2 rfl _ qQ _ OQ6 (wc.heap.size + 1) (some ⟨wc.heap.size, 0, none⟩) 1 1 _ rd (by simp [Value.oneCell']) (by simp only [maxLen]; omega) (by omega) MO6.size
              obtain ⟨A5, c5, rfl, _, _⟩ := own_form hnew
              have MG := Mod.appended OQ6 hgr
              have R6 := Lib.hid ((s3.below hal).mod MG fun k q c => by omega)
              have MO7 := Lib.hid (MO6.trans MG fun k hk q => by omega)
              have OQ7 : Hid (w5.ownsRow w.heap.size 3 1 (.slice A5 (qQ + 1) c5) (qQ + 1) (I64 (ofN (Q ++ [y])))) := by
                show World.ownsRow _ _ _ _ _ _ _
                rw [ofN_snocR]; exact hnew
              have HLE : Hid ((Q ++ [y]).length ≤ n) := by show _ ≤ _; rw [HN.out]; exact nodup_le TN2.out.nd TN2.out.lt
              have HL1 : Hid ((Q ++ [y]).length = qQ + 1) := by show _ = _; rw [List.length_append, ← HQ.out]; rfl
              have HXX : Hid ((Q ++ [y]).getD i 0 = x) := by show _ = _; rw [getD_left _ _ _ (by rw [← HQ.out]; exact hiQ)]; exact HX.out
              have k2 := R6.out.bx.cell 2
              simp at k2
              obtain ⟨ky, _⟩ := R6.out.cellI 2 rfl rfl (by rw [List.length_set]; exact HIL.out) y hyn
              rw [getDI_set _ _ _ _ (by rw [HIL.out]; exact hyn), if_pos rfl] at ky
              clear s3 b3 m3 R5 MO5 OQ5 hal OQ6 rd MO6 hnew hgr hob MG hsz TNEW TOLD
              cases ok with
              | false =>
                go_wp2_with (first
                  | (at_builtin; go_must (refine wpList_append_runR rfl _ _ _ rfl _ _ _ _ rfl rfl hrun ?_)))
                go_roundw
                case rel => exact ⟨1 + 1, A5, c5, Q ++ [y], _, false, by omega, by rw [HL1.out]; omega, HLE.out, by rw [HL1.out], rfl, rfl, HXX, TN2, R6, by rw [HL1.out]; exact OQ7, MO7⟩
                case measure => simp [intOf]
              | true =>
                go_wp2_with (first
                  | (at_builtin; go_must (refine wpList_append_runR rfl _ _ _ rfl _ _ _ _ rfl rfl hrun ?_)))
                go_roundw
                case rel => exact ⟨1 + 1, A5, c5, Q ++ [y], _, true, by omega, by rw [HL1.out]; omega, HLE.out, by rw [HL1.out], rfl, rfl, HXX, TN2, R6, by rw [HL1.out]; exact OQ7, MO7⟩
                case measure => simp [intOf]
            · have TN2 := Lib.hid (TOLD.out hu)
              have hvb : (v == -1) = false := beq_eq_false_iff_ne.2 hu
              obtain ⟨bq, hbq⟩ : ∃ bq, bq = decide (v = (z : Int)) := ⟨_, rfl⟩
              have hbe : (v == (z : Int)) = bq := by
                rw [hbq]
                by_cases c : v = (z : Int)
                · rw [decide_eq_true c]; exact beq_iff_eq.2 c
                · rw [decide_eq_false c]; exact beq_eq_false_iff_ne.2 c
              rw [← hbq] at TN2
              clear TNEW TOLD hu hbq
              cases ok with
              | false =>
                go_wp2_with fail
                go_roundw
                case rel => exact ⟨1 + 1, A, c, Q, img, false, by omega, by rw [← HQ.out]; exact hiQ, by rw [← HQ.out]; exact hQn, by rw [← HQ.out], rfl, rfl, HX, TN2, R5, by rw [← HQ.out]; exact OQ5, MO5⟩
                case measure => simp [intOf]
              | true =>
                go_wp2_with fail
                go_roundw
                case rel => exact ⟨1 + 1, A, c, Q, img, bq, by omega, by rw [← HQ.out]; exact hiQ, by rw [← HQ.out]; exact hQn, by rw [← HQ.out], rfl, rfl, HX, by rw [Bool.true_and] at TN2; exact TN2, R5, by rw [← HQ.out]; exact OQ5, MO5⟩
                case measure => simp [intOf]
        · have hdj : decide ((2 : Int) < 2) = false := by decide
          have TN2 := Lib.hid (TN.out.next (by rw [← HQ.out]; exact hiQ))
          clear TN HFI gx g2
          go_wp2_with fail
          go_roundw
          case rel => exact ⟨i + 1, A, c, Q, img, ok, by rw [← HQ.out]; omega, by rw [← HQ.out]; exact hQn, by rw [← HQ.out], rfl, by go_num, TN2, R, by rw [← HQ.out]; exact OQ, MO⟩
          case measure => simp [intOf]; omega
    · have HIL : Hid (img.length = n) := by show _ = _; rw [TN.out.il, HN.out]
      have TNS : Hid (∀ x, x < n → (x ∈ Q ↔ img.getD x 0 ≠ -1)) := fun x hx => TN.out.st x (by rw [← HN.out]; exact hx)
      have HQL : Hid (∀ x ∈ Q, x < l.length) := TN.out.lt
      cases ok with
      | false =>
        have HNT : Hid (¬ TurnsTo l r e) := TN.out.bad rfl
        have RX := Lib.hid (R.out.mono (Fr' := Fr) fun k _ q => q.1)
        have KX := Lib.hid (HKN.out.mod MO.out fun k _ q => q)
        have OX := OQ
        have MX := MO
        have UX : Hid (∀ k, wr.heap.size ≤ k → Fr k) := fun k hk => HFR.out k (by have := MO.out.size; omega)
        clear TN R OQ MO SG2 MT2
        by_cases hlt : i < qQ
        · have hdk : decide (i < qQ) = true := decide_eq_true hlt
          have I0 : Hid (img.length = n ∧ ∀ x, x < n → img.getD x 0 ≠ -1 → x ∈ Q.drop 0) := ⟨HIL.out, fun x hx hu => (TNS.out x hx).2 hu⟩
          go_wp2_with fail
          go_loopw [114] (fun y wr => ∃ (k : Nat) (img : List Int), k ≤ qQ ∧ y = .int .i64 (k : Int) ∧ Hid (img.length = n ∧ ∀ x, x < n → img.getD x 0 ≠ -1 → x ∈ Q.drop k) ∧ Hid (RowsR wr Fr gt 83 (tvS gm AK ts.length cK gI gT n cI cT T) (txS ks img told)) ∧ Hid (Kno wr Fr n ks ts) ∧
            Hid (wr.ownsRow w.heap.size 3 1 (.slice A qQ c) qQ (I64 (ofN Q))) ∧ Hid (Mod Fr w wr) ∧ Hid (∀ k, wr.heap.size ≤ k → Fr k)) (fun y _ => qQ - (intOf y).toNat)
          case atStart => exact ⟨0, img, Nat.zero_le _, rfl, I0, RX, KX, OX, MX, UX⟩
          case round =>
            clear I0 RX KX OX MX UX
            obtain ⟨k, img, hk, rfl, II, RX, KX, OX, MX, UX⟩ := hrel
            by_cases hlk : k < qQ
            · have hdk2 : decide (k < qQ) = true := decide_eq_true hlk
              obtain ⟨gQ, rfl, _⟩ := own_some OX.out (by omega)
              have cQ := own_cellI OX.out k hlk
              rw [ofN_get] at cQ
              obtain ⟨x, hx⟩ : ∃ x, x = Q.getD k 0 := ⟨_, rfl⟩
              rw [← hx] at cQ
              have hxn : x < n := by rw [hx, HN.out]; exact HQL.out _ (getD_orb_mem (by rw [← HQ.out]; exact hlk))
              have g2 := RX.out.bx.cell 2
              simp at g2
              obtain ⟨gx, fx⟩ := RX.out.cellI 2 rfl rfl II.out.1 x hxn
              obtain ⟨s3, b3, m3⟩ := RX.out.putI 2 rfl rfl II.out.1 x (-1) (xs' := txS ks (img.set x (-1)) told) rfl
              have I2 : Hid ((img.set x (-1)).length = n ∧ ∀ y, y < n → (img.set x (-1)).getD y 0 ≠ -1 → y ∈ Q.drop (k + 1)) := ⟨by rw [List.length_set]; exact II.out.1, fun y hy hu => by
                rw [getDI_set _ _ _ _ (by rw [II.out.1]; exact hxn)] at hu
                by_cases c : y = x
                · rw [if_pos c] at hu; exact absurd rfl hu
                · rw [if_neg c] at hu
                  have := II.out.2 y hy hu
                  rw [drop_consR Q k (by rw [← HQ.out]; exact hlk), ← hx] at this
                  rcases List.mem_cons.1 this with q | q
                  · exact absurd q c
                  · exact q⟩
              have R2 := Lib.hid s3
              have K2 := Lib.hid (KX.out.mod b3 fun k _ q => by rw [q]; exact RX.out.fr 2 gI (by simp) (by simp [Value.ownBlock]))
              have O2 := Lib.hid (own_mod OX.out b3 fun k hk e => by have h1 := (OX.out.lt k hk).1; have := HGI.out; omega)
              have M2 := Lib.hid (MX.out.trans b3 fun k hk q => by rw [q]; exact HFG.out)
              have U2 : Hid (∀ k, (wr.setCell ⟨gI, x, none⟩ (.int .i64 (-1))).heap.size ≤ k → Fr k) := fun k hk => UX.out k (by simpa [World.setCell] using hk)
              have hxi : (x : Int) < (n : Int) := by omega
              have hki : (k : Int) < (qQ : Int) := by omega
              clear hx II RX KX OX MX UX s3 b3 m3
              go_wp2_with fail
              go_roundw
              case rel => exact ⟨k + 1, _, by omega, by go_num, I2, R2, K2, O2, M2, U2⟩
              case measure => simp [intOf]; omega
            · obtain rfl : k = qQ := by omega
              have hdk2 : decide (k < k) = false := by simp
              have FIN : Hid (TurnsPost w Fr l r e gt gm gI gT n cI cT T told ts (.returned (.bool false)) wr) := by
                have e1 : img = List.replicate n (-1) := by
                  refine getDI_ext (by rw [II.out.1]; simp) fun x hx => ?_
                  rw [II.out.1] at hx
                  have e2 : (List.replicate n (-1 : Int)).getD x 0 = -1 := by rw [List.getD_eq_getElem?_getD, List.getElem?_replicate, if_pos hx]; rfl
                  rw [e2]
                  rcases Classical.em (img.getD x 0 = -1) with q | q
                  · exact q
                  · have := II.out.2 x hx q
                    rw [HQ.out, List.drop_length] at this
                    simp at this
                rw [e1] at RX
                exact ⟨false, Fr, AK, cK, ks, ts, rfl, ⟨fun c => (by cases c), fun c => absurd c HNT.out⟩, RX.out, KX.out, UX.out, (fun _ q => q), MX.out, (fun c => by cases c), (fun _ => rfl)⟩
              clear II RX KX OX MX UX
              go_wp2_with fail
              go_ret
              exact FIN.out
        · have hdk : decide (i < qQ) = false := decide_eq_false hlt
          have I0 : Hid (img.length = n ∧ ∀ x, x < n → img.getD x 0 ≠ -1 → x ∈ Q.drop 0) := ⟨HIL.out, fun x hx hu => (TNS.out x hx).2 hu⟩
          go_wp2_with fail
          go_loopw [114] (fun y wr => ∃ (k : Nat) (img : List Int), k ≤ qQ ∧ y = .int .i64 (k : Int) ∧ Hid (img.length = n ∧ ∀ x, x < n → img.getD x 0 ≠ -1 → x ∈ Q.drop k) ∧ Hid (RowsR wr Fr gt 83 (tvS gm AK ts.length cK gI gT n cI cT T) (txS ks img told)) ∧ Hid (Kno wr Fr n ks ts) ∧
            Hid (wr.ownsRow w.heap.size 3 1 (.slice A qQ c) qQ (I64 (ofN Q))) ∧ Hid (Mod Fr w wr) ∧ Hid (∀ k, wr.heap.size ≤ k → Fr k)) (fun y _ => qQ - (intOf y).toNat)
          case atStart => exact ⟨0, img, Nat.zero_le _, rfl, I0, RX, KX, OX, MX, UX⟩
          case round =>
            clear I0 RX KX OX MX UX
            obtain ⟨k, img, hk, rfl, II, RX, KX, OX, MX, UX⟩ := hrel
            by_cases hlk : k < qQ
            · have hdk2 : decide (k < qQ) = true := decide_eq_true hlk
              obtain ⟨gQ, rfl, _⟩ := own_some OX.out (by omega)
              have cQ := own_cellI OX.out k hlk
              rw [ofN_get] at cQ
              obtain ⟨x, hx⟩ : ∃ x, x = Q.getD k 0 := ⟨_, rfl⟩
              rw [← hx] at cQ
              have hxn : x < n := by rw [hx, HN.out]; exact HQL.out _ (getD_orb_mem (by rw [← HQ.out]; exact hlk))
              have g2 := RX.out.bx.cell 2
              simp at g2
              obtain ⟨gx, fx⟩ := RX.out.cellI 2 rfl rfl II.out.1 x hxn
              obtain ⟨s3, b3, m3⟩ := RX.out.putI 2 rfl rfl II.out.1 x (-1) (xs' := txS ks (img.set x (-1)) told) rfl
              have I2 : Hid ((img.set x (-1)).length = n ∧ ∀ y, y < n → (img.set x (-1)).getD y 0 ≠ -1 → y ∈ Q.drop (k + 1)) := ⟨by rw [List.length_set]; exact II.out.1, fun y hy hu => by
                rw [getDI_set _ _ _ _ (by rw [II.out.1]; exact hxn)] at hu
                by_cases c : y = x
                · rw [if_pos c] at hu; exact absurd rfl hu
                · rw [if_neg c] at hu
                  have := II.out.2 y hy hu
                  rw [drop_consR Q k (by rw [← HQ.out]; exact hlk), ← hx] at this
                  rcases List.mem_cons.1 this with q | q
                  · exact absurd q c
                  · exact q⟩
              have R2 := Lib.hid s3
              have K2 := Lib.hid (KX.out.mod b3 fun k _ q => by rw [q]; exact RX.out.fr 2 gI (by simp) (by simp [Value.ownBlock]))
              have O2 := Lib.hid (own_mod OX.out b3 fun k hk e => by have h1 := (OX.out.lt k hk).1; have := HGI.out; omega)
              have M2 := Lib.hid (MX.out.trans b3 fun k hk q => by rw [q]; exact HFG.out)
              have U2 : Hid (∀ k, (wr.setCell ⟨gI, x, none⟩ (.int .i64 (-1))).heap.size ≤ k → Fr k) := fun k hk => UX.out k (by simpa [World.setCell] using hk)
              have hxi : (x : Int) < (n : Int) := by omega
              have hki : (k : Int) < (qQ : Int) := by omega
              clear hx II RX KX OX MX UX s3 b3 m3
              go_wp2_with fail
              go_roundw
              case rel => exact ⟨k + 1, _, by omega, by go_num, I2, R2, K2, O2, M2, U2⟩
              case measure => simp [intOf]; omega
            · obtain rfl : k = qQ := by omega
              have hdk2 : decide (k < k) = false := by simp
              have FIN : Hid (TurnsPost w Fr l r e gt gm gI gT n cI cT T told ts (.returned (.bool false)) wr) := by
                have e1 : img = List.replicate n (-1) := by
                  refine getDI_ext (by rw [II.out.1]; simp) fun x hx => ?_
                  rw [II.out.1] at hx
                  have e2 : (List.replicate n (-1 : Int)).getD x 0 = -1 := by rw [List.getD_eq_getElem?_getD, List.getElem?_replicate, if_pos hx]; rfl
                  rw [e2]
                  rcases Classical.em (img.getD x 0 = -1) with q | q
                  · exact q
                  · have := II.out.2 x hx q
                    rw [HQ.out, List.drop_length] at this
                    simp at this
                rw [e1] at RX
                exact ⟨false, Fr, AK, cK, ks, ts, rfl, ⟨fun c => (by cases c), fun c => absurd c HNT.out⟩, RX.out, KX.out, UX.out, (fun _ q => q), MX.out, (fun c => by cases c), (fun _ => rfl)⟩
              clear II RX KX OX MX UX
              go_wp2_with fail
              go_ret
              exact FIN.out
      | true =>
        have hlt : ¬ i < qQ := fun c => hgo ⟨c, rfl⟩
        have hdk : decide (i < qQ) = false := decide_eq_false hlt
        obtain ⟨t, ht1, ht2, ht3⟩ := TN.out.done HI.out HEV.out (by rw [← HN.out]; exact hr) HP.out (by rw [← HQ.out]; omega)
        have HT1 := Lib.hid ht1
        have HT2 := Lib.hid ht2
        have HT3 := Lib.hid ht3
        have HTT : Hid (TurnsTo l r e) := by have := ht2.to r; rw [ht3] at this; exact this
        have HTL : Hid (t.length = n) := by have := HIL.out; rw [ht1, ofN_len] at this; exact this
        have RX := Lib.hid (R.out.mono (Fr' := Fr) fun k _ q => q.1)
        have KX := Lib.hid (HKN.out.mod MO.out fun k _ q => q)
        have UX : Hid (∀ k, wr.heap.size ≤ k → Fr k) := fun k hk => HFR.out k (by have := MO.out.size; omega)
        clear TN R SG2 MT2 ht1 ht2 ht3
        go_wp2_with fail
        go_cut [] from 98 to 111 (fun wx => ∃ A1 c1 bb cb, Hid (RowsR wx (fun k => Fr k ∧ k ≠ bb) gt 83 (tvS gm A1 (ts ++ [t]).length c1 gI gT n cI cT T) (txS (ks ++ [.slice (some ⟨bb, 0, none⟩) n cb]) img told)) ∧ Hid (Kno wx (fun k => Fr k ∧ k ≠ bb) n (ks ++ [.slice (some ⟨bb, 0, none⟩) n cb]) (ts ++ [t])) ∧ Hid (Mod Fr wr wx) ∧ Hid (wx.ownsRow w.heap.size 3 1 (.slice A qQ c) qQ (I64 (ofN Q))) ∧ Hid (bb < wx.heap.size))
        case first =>
          have CL : Hid (∀ W, Below wr.heap.size wr W → Calls Try.prog 36 #[.slice (some ⟨gI, 0, none⟩) n cI] W (NewI64 W img)) := fun W m => cloneI_any (some ⟨gI, 0, none⟩) n cI _ img W ((RX.out.below m).rd 2 rfl rfl (by rw [I64_len]; exact HIL.out)) (by omega)
          have g1 := RX.out.bx.cell 1
          have g2 := RX.out.bx.cell 2
          simp at g1 g2
          have hd0 := (Below.refl wr.heap.size wr).drew
          have HOK : Hid (∀ k, (Value.slice A qQ c).ownBlock = some k → k ≠ gt ∧ some k ≠ (Value.slice AK ts.length cK).ownBlock) := fun k hk => by
            have h1 := (OQ.out.lt k hk).1
            refine ⟨fun c => ?_, fun c => ?_⟩
            · have := HGT.out; omega
            · have := HAK.out k c.symm; omega
          have hn0 : 0 < n := by omega
          have HW2 : Hid (w.heap.size ≤ wr.heap.size) := MO.out.size
          clear MO TNS HQL
          go_region_law (first
            | (refine step_append_runT _ (by rfl) _ _ _ (by rfl) _ _ _ _ (by rfl) (by rfl) hrun ?_)
            | (go_simp; go_at_call 36; (with_reducible refine (CL.out _ hd0).mono ?_); rintro en w9 ⟨A9, c9, rfl, h91, h92, o9, b9⟩;
               have bz := hd0.trans (b9.mono hd0.size);
               have u1 := (bz.cell (p := ⟨gt, 1, none⟩) RX.out.bx.lt).trans g1;
               have u2 : (w9.alloc (.cells #[.slice A9 img.length c9] 24)).cell? ⟨gt, 1, none⟩ = some (.slice AK ts.length cK) := (World.cell?_alloc_lt _ _ _ (Nat.lt_of_lt_of_le RX.out.bx.lt bz.size)).trans u1;
               have il := HIL.out;
               rw [il] at o9 h91 u2;
               rw [HT1.out] at o9;
               obtain ⟨gA, rfl, hA1, hA2⟩ := own_some o9 hn0;
               obtain ⟨A1, c1, w2, hrun, hfz, hcs, RR, KK, MM, hbw, M3⟩ := known_push RX.out KX.out UX.out hq HTL.out hn0 bz (o9.base_le' (show wr.heap.size ≤ _ from hd0.size));
               have RRH := Lib.hid RR; have KKH := Lib.hid KK; have MMH := Lib.hid MM;
               have OOH := Lib.hid (own_mod OQ.out M3 fun k hk e => e.elim (fun e => (HOK.out k hk).1 e) (fun e => (HOK.out k hk).2 e));
               have BBH : Hid (gA < (w2.setCell ⟨gt, 1, none⟩ (.slice A1 (ts.length + 1) c1)).heap.size) := (by show _ < _; simp [World.setCell]; exact hbw);
               clear RR KK MM M3 bz b9 o9 h91 h92; rw [il]))
          all_goals (
            go_wp2_with fail
            go_meet
            exact ⟨A1, c1, gA, c9, RRH, KKH, MMH, OOH, BBH⟩)
        case rest =>
          obtain ⟨A1, c1, bb, cb, R9, K9, M9, O9, B9⟩ := hcut
          have MX := Lib.hid (MO.out.trans M9.out fun _ _ q => q)
          have U9 : Hid (∀ k, wc.heap.size ≤ k → Fr k ∧ k ≠ bb) := fun k hk => ⟨HFR.out k (by have := MX.out.size; omega), by have := B9.out; omega⟩
          clear RX KX UX MO M9 OQ B9
          have RX := R9
          have KX := K9
          have OX := O9
          have UX := U9
          clear R9 K9 O9 U9
          have I0 : Hid (img.length = n ∧ ∀ x, x < n → img.getD x 0 ≠ -1 → x ∈ Q.drop 0) := ⟨HIL.out, fun x hx hu => (TNS.out x hx).2 hu⟩
          go_wp2_with fail
          go_loopw [114] (fun y wr => ∃ (k : Nat) (img : List Int), k ≤ qQ ∧ y = .int .i64 (k : Int) ∧ Hid (img.length = n ∧ ∀ x, x < n → img.getD x 0 ≠ -1 → x ∈ Q.drop k) ∧ Hid (RowsR wr (fun k => Fr k ∧ k ≠ bb) gt 83 (tvS gm A1 (ts ++ [t]).length c1 gI gT n cI cT T) (txS (ks ++ [.slice (some ⟨bb, 0, none⟩) n cb]) img told)) ∧ Hid (Kno wr (fun k => Fr k ∧ k ≠ bb) n (ks ++ [.slice (some ⟨bb, 0, none⟩) n cb]) (ts ++ [t])) ∧
            Hid (wr.ownsRow w.heap.size 3 1 (.slice A qQ c) qQ (I64 (ofN Q))) ∧ Hid (Mod Fr w wr) ∧ Hid (∀ k, wr.heap.size ≤ k → (fun k => Fr k ∧ k ≠ bb) k)) (fun y _ => qQ - (intOf y).toNat)
          case atStart => exact ⟨0, img, Nat.zero_le _, rfl, I0, RX, KX, OX, MX, UX⟩
          case round =>
            clear I0 RX KX OX MX UX
            obtain ⟨k, img, hk, rfl, II, RX, KX, OX, MX, UX⟩ := hrel
            by_cases hlk : k < qQ
            · have hdk2 : decide (k < qQ) = true := decide_eq_true hlk
              obtain ⟨gQ, rfl, _⟩ := own_some OX.out (by omega)
              have cQ := own_cellI OX.out k hlk
              rw [ofN_get] at cQ
              obtain ⟨x, hx⟩ : ∃ x, x = Q.getD k 0 := ⟨_, rfl⟩
              rw [← hx] at cQ
              have hxn : x < n := by rw [hx, HN.out]; exact HQL.out _ (getD_orb_mem (by rw [← HQ.out]; exact hlk))
              have g2 := RX.out.bx.cell 2
              simp at g2
              obtain ⟨gx, fx⟩ := RX.out.cellI 2 rfl rfl II.out.1 x hxn
              obtain ⟨s3, b3, m3⟩ := RX.out.putI 2 rfl rfl II.out.1 x (-1) (xs' := txS (ks ++ [.slice (some ⟨bb, 0, none⟩) n cb]) (img.set x (-1)) told) rfl
              have I2 : Hid ((img.set x (-1)).length = n ∧ ∀ y, y < n → (img.set x (-1)).getD y 0 ≠ -1 → y ∈ Q.drop (k + 1)) := ⟨by rw [List.length_set]; exact II.out.1, fun y hy hu => by
                rw [getDI_set _ _ _ _ (by rw [II.out.1]; exact hxn)] at hu
                by_cases c : y = x
                · rw [if_pos c] at hu; exact absurd rfl hu
                · rw [if_neg c] at hu
                  have := II.out.2 y hy hu
                  rw [drop_consR Q k (by rw [← HQ.out]; exact hlk), ← hx] at this
                  rcases List.mem_cons.1 this with q | q
                  · exact absurd q c
                  · exact q⟩
              have R2 := Lib.hid s3
              have K2 := Lib.hid (KX.out.mod b3 fun k _ q => by rw [q]; exact RX.out.fr 2 gI (by simp) (by simp [Value.ownBlock]))
              have O2 := Lib.hid (own_mod OX.out b3 fun k hk e => by have h1 := (OX.out.lt k hk).1; have := HGI.out; omega)
              have M2 := Lib.hid (MX.out.trans b3 fun k hk q => by rw [q]; exact HFG.out)
              have U2 : Hid (∀ k, (wr.setCell ⟨gI, x, none⟩ (.int .i64 (-1))).heap.size ≤ k → (fun k => Fr k ∧ k ≠ bb) k) := fun k hk => UX.out k (by simpa [World.setCell] using hk)
              have hxi : (x : Int) < (n : Int) := by omega
              have hki : (k : Int) < (qQ : Int) := by omega
              clear hx II RX KX OX MX UX s3 b3 m3
              go_wp2_with fail
              go_roundw
              case rel => exact ⟨k + 1, _, by omega, by go_num, I2, R2, K2, O2, M2, U2⟩
              case measure => simp [intOf]; omega
            · obtain rfl : k = qQ := by omega
              have hdk2 : decide (k < k) = false := by simp
              have FIN : Hid (TurnsPost w Fr l r e gt gm gI gT n cI cT T told ts (.returned (.bool true)) wr) := by
                have e1 : img = List.replicate n (-1) := by
                  refine getDI_ext (by rw [II.out.1]; simp) fun x hx => ?_
                  rw [II.out.1] at hx
                  have e2 : (List.replicate n (-1 : Int)).getD x 0 = -1 := by rw [List.getD_eq_getElem?_getD, List.getElem?_replicate, if_pos hx]; rfl
                  rw [e2]
                  rcases Classical.em (img.getD x 0 = -1) with q | q
                  · exact q
                  · have := II.out.2 x hx q
                    rw [HQ.out, List.drop_length] at this
                    simp at this
                rw [e1] at RX
                exact ⟨true, (fun k => Fr k ∧ k ≠ bb), A1, c1, (ks ++ [.slice (some ⟨bb, 0, none⟩) n cb]), (ts ++ [t]), rfl, ⟨fun _ => HTT.out, fun _ => rfl⟩, RX.out, KX.out, UX.out, (fun _ q => q.1), MX.out, (fun _ => ⟨t, rfl, HT2.out, HT3.out⟩), (fun c => by cases c)⟩
              clear II RX KX OX MX UX
              go_wp2_with fail
              go_ret
              exact FIN.out
end Go.Proofs.Ytoncollcefanjaa
