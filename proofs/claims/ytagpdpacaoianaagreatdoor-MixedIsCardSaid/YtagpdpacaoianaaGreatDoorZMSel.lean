/- Select of a word's index. -/
import Derived.Test.YtagpdpacaoianaaGreatDoorZMAsk
import Derived.Deep.RegionWith
namespace Go.Proofs.YtagpdpacaoianaaGreatDoor
set_option maxRecDepth 20000
open Go.RowKit
set_option linter.unusedVariables false
section
variable {w0 w : World} {m gx p0 g0 p1 g1 q : Nat} {ks : List Nat}
/-- The three captured variables. -/
structure CapM (w : World) (m b k kk : Nat) : Prop where
  c0 : w.cell? ⟨b, 0, none⟩ = some (.pointer (some ⟨m, 0, none⟩))
  c1 : w.cell? ⟨b + 1, 0, none⟩ = some (.int .i64 (k : Int))
  c2 : w.cell? ⟨b + 2, 0, none⟩ = some (.int .i64 (kk : Int))
theorem CapM.mod {w w' : World} {S : Nat → Prop} {m b k kk : Nat} (h : CapM w m b k kk) (md : Mod S w w') (hS : ∀ i, S i → i < b) (hb : b + 3 ≤ w.heap.size) : CapM w' m b k kk :=
  ⟨(md.cell (b := b) (by omega) (fun h => by have := hS _ h; omega) 0).trans h.c0, (md.cell (b := b + 1) (by omega) (fun h => by have := hS _ h; omega) 0).trans h.c1, (md.cell (b := b + 2) (by omega) (fun h => by have := hS _ h; omega) 0).trans h.c2⟩
/-- Whether behind the y-th one of the sort there are enough. -/
def Psm (ks : List Nat) (k kk y : Nat) : Bool := decide (kk < cntO k (y + 1) ks)
theorem psm_mono {ks : List Nat} {k kk x y : Nat} (h : x ≤ y) (hy : y < (ownL (k / 2) ks).length) (hx : Psm ks k kk x = true) : Psm ks k kk y = true := by
  unfold Psm at *
  rw [decide_eq_true_eq] at *
  have := cntO_mono (k := k) (x := x + 1) (ks := ks) (y - x) (by omega)
  rw [show x + 1 + (y - x) = y + 1 by omega] at this
  omega
set_option maxHeartbeats 1000000 in
theorem psm_p (h : Mx w0 w m gx p0 g0 p1 g1 ks q) (k kk b y : Nat) (hc : CapM w m b k kk) (hk : k < 4) (hkk : kk ≤ 1000000) (hy : y < (ownL (k / 2) ks).length) (hq : q ≤ 1000000) (hb : ∀ i, MxS gx p0 g0 p1 g1 i → i < b) (hb3 : b + 3 ≤ w.heap.size) :
    Calls Tryz.prog 71 #[.int .i64 (y : Int), .pointer (some ⟨b, 0, none⟩), .pointer (some ⟨b + 1, 0, none⟩), .pointer (some ⟨b + 2, 0, none⟩)] w (MxP w0 w m gx p0 g0 p1 g1 ks (q + 1) (.returned (.bool (Psm ks k kk y)))) := by
  have hn9 := h.n9
  have hl : (ownL (k / 2) ks).length ≤ 1000000 := by
    have h1 := ah_le (k / 2) ks ks.length (Nat.le_refl _)
    rw [ah_all] at h1; omega
  have hcl := cntO_le (k := k) (y := y + 1) (ks := ks) (by omega)
  have IC : Hid (Calls Tryz.prog 68 #[.pointer (some ⟨m, 0, none⟩), .int .i64 (k : Int), .int .i64 ((y : Int) + 1)] w.drew (MxP w0 w.drew m gx p0 g0 p1 g1 ks (q + 1) (.returned (.int .i64 ((cntO k (y + 1) ks : Nat) : Int))))) :=
    icount_p (h.below ((Below.refl w.heap.size w).drew)) k (y + 1) hk (by omega) hq
  unfold Psm
  obtain ⟨s, hs⟩ : ∃ s, s = cntO k (y + 1) ks := ⟨_, rfl⟩
  rw [← hs] at IC hcl ⊢
  have hs9 : s ≤ 1000001 := by omega
  have hy9 : y ≤ 1000000 := by omega
  have hyw : IntKind.i64.wrap ((y : Int) + 1) = (y : Int) + 1 := by rw [IntKind.wrap_i64]; omega
  have DD : decide ((kk : Int) < (s : Int)) = decide (kk < s) := by rw [decide_eq_decide]; omega
  obtain ⟨c0, c1, c2⟩ := hc
  have HC : Hid (∀ w', Mod (MxS gx p0 g0 p1 g1) w.drew w' → w'.cell? ⟨b + 2, 0, none⟩ = some (.int .i64 (kk : Int))) := fun w' md =>
    (md.cell (b := b + 2) (show _ < w.heap.size by omega) (fun h => by have := hb _ h; omega) 0).trans c2
  clear h hs hl hcl hy hb
  go_enter Tryz.func71, Tryz.ntmps71
  go_wp2_with fail
  go_region_with (first
    | (go_at_call 68; (with_reducible refine IC.out.mono ?_); rintro e wa ⟨rfl, ha, ma⟩; have k2 := HC.out wa ma; have HA := Lib.hid ha; have MA := Lib.hid ma; clear ha ma))
  all_goals (
    go_wp2_with fail
    go_ret
    exact ⟨by first | rfl | (rw [← DD]; rfl) | (simp [DD]), HA.out, (Mod.refl (MxS gx p0 g0 p1 g1) w).drew.trans MA.out fun _ _ h => h⟩)
theorem pow20 {t s : Nat} (h : 2 ^ t ≤ s) (hs : s ≤ 1000000) : t < 20 := by
  rcases Nat.lt_or_ge t 20 with c | c
  · exact c
  · have := Nat.pow_le_pow_right (n := 2) (by decide) c
    have e : (2 : Nat) ^ 20 = 1048576 := by decide
    omega
theorem halves {a c c' a' t s : Nat} (h : (c - a) * 2 ^ t ≤ s) (h2 : 2 * (c' - a') ≤ c - a) : (c' - a') * 2 ^ (t + 1) ≤ s := by
  have e : (c' - a') * 2 ^ (t + 1) = 2 * (c' - a') * 2 ^ t := by rw [Nat.pow_succ, Nat.mul_comm 2 (c' - a'), Nat.mul_assoc, Nat.mul_comm 2 (2 ^ t)]
  rw [e]
  exact Nat.le_trans (Nat.mul_le_mul_right _ h2) h
set_option maxHeartbeats 2000000 in
theorem isearch_p (h : Mx w0 w m gx p0 g0 p1 g1 ks q) (k kk b : Nat) (hc : CapM w m b k kk) (hk : k < 4) (hkk : kk ≤ 1000000) (hq : q ≤ 900000) (hb : ∀ i, MxS gx p0 g0 p1 g1 i → i < b) (hb3 : b + 3 ≤ w.heap.size) :
    Calls Tryz.prog 70 #[.int .i64 (((ownL (k / 2) ks).length : Nat) : Int), .func (.func 71) #[] #[.pointer (some ⟨b, 0, none⟩), .pointer (some ⟨b + 1, 0, none⟩), .pointer (some ⟨b + 2, 0, none⟩)]] w
      fun e w' => ∃ r : Nat, e = .returned (.int .i64 (r : Int)) ∧ r ≤ (ownL (k / 2) ks).length ∧ (∀ x, x < r → Psm ks k kk x = false) ∧ (∀ x, r ≤ x → x < (ownL (k / 2) ks).length → Psm ks k kk x = true) ∧ Mx w0 w' m gx p0 g0 p1 g1 ks (q + 20) ∧ Mod (MxS gx p0 g0 p1 g1) w w' := by
  have hn9 := h.n9
  have hl : (ownL (k / 2) ks).length ≤ 1000000 := by
    have h1 := ah_le (k / 2) ks ks.length (Nat.le_refl _)
    rw [ah_all] at h1; omega
  have PP : Hid (∀ (y t : Nat) (W : World), y < (ownL (k / 2) ks).length → t ≤ 20 → Mx w0 W m gx p0 g0 p1 g1 ks (q + t) → Mod (MxS gx p0 g0 p1 g1) w W → Calls Tryz.prog 71 #[.int .i64 (y : Int), .pointer (some ⟨b, 0, none⟩), .pointer (some ⟨b + 1, 0, none⟩), .pointer (some ⟨b + 2, 0, none⟩)] W (MxP w0 W m gx p0 g0 p1 g1 ks (q + t + 1) (.returned (.bool (Psm ks k kk y))))) := fun y t W hy ht hW md =>
    psm_p hW k kk b y (hc.mod md hb hb3) hk hkk hy (by omega) hb (Nat.le_trans hb3 md.size)
  have MN : Hid (∀ x y, x ≤ y → y < (ownL (k / 2) ks).length → Psm ks k kk x = true → Psm ks k kk y = true) := fun x y h1 h2 h3 => psm_mono h1 h2 h3
  have H := Lib.hid h
  obtain ⟨s, hs⟩ : ∃ s, s = (ownL (k / 2) ks).length := ⟨_, rfl⟩
  rw [← hs] at PP MN hl ⊢
  clear h hc hs hb
  go_enter Tryz.func70, Tryz.ntmps70
  go_wp2_with fail
  go_loopw [5, 6] (fun i j wr => ∃ a c t : Nat, a ≤ c ∧ c ≤ s ∧ t ≤ 20 ∧ Hid ((c - a) * 2 ^ t ≤ s) ∧ i = .int .i64 (a : Int) ∧ j = .int .i64 (c : Int) ∧ Hid (∀ x, x < a → Psm ks k kk x = false) ∧ Hid (∀ x, c ≤ x → x < s → Psm ks k kk x = true) ∧ Hid (Mx w0 wr m gx p0 g0 p1 g1 ks (q + t)) ∧ Hid (Mod (MxS gx p0 g0 p1 g1) w wr)) (fun i j _ => (intOf j).toNat - (intOf i).toNat)
  case atStart => exact ⟨0, s, 0, by omega, by omega, by omega, by show _ ≤ _; simp, rfl, rfl, fun x hx => absurd hx (by omega), fun x h1 h2 => absurd h1 (by omega), H, Mod.refl _ _⟩
  case round =>
    clear H
    obtain ⟨a, c, t, hac, hcs, ht, hpw, rfl, rfl, hlo, hhi, HX, HM⟩ := hrel
    by_cases hlt : a < c
    · have ht2 : t < 20 := pow20 (Nat.le_trans (by have := Nat.mul_le_mul_right (2 ^ t) (show 1 ≤ c - a by omega); rwa [Nat.one_mul] at this) hpw.out) hl
      obtain ⟨y, hy, hat, htc, hya, hyc⟩ : ∃ y : Nat, ((a : Int) + (c : Int)) / 2 = (y : Int) ∧ a ≤ y ∧ y < c ∧ 2 * (y - a) ≤ c - a ∧ 2 * (c - (y + 1)) ≤ c - a := ⟨(a + c) / 2, by omega, by omega, by omega, by omega, by omega⟩
      have PT := Lib.hid (PP.out y t wr (by omega) ht HX.out HM.out)
      have HP1 : Hid ((y - a) * 2 ^ (t + 1) ≤ s) := halves hpw.out hya
      have HP2 : Hid ((c - (y + 1)) * 2 ^ (t + 1) ≤ s) := halves hpw.out hyc
      clear hya hyc HX hpw
      cases hpt : Psm ks k kk y with
      | true =>
        rw [hpt] at PT
        have NH : Hid (∀ x, y ≤ x → x < s → Psm ks k kk x = true) := fun x h1 h2 => MN.out y x h1 h2 hpt
        clear hpt
        go_wp2_with fail
        refine PT.out.mono ?_
        rintro e w2 ⟨rfl, hx2, m2⟩
        have HX2 := Lib.hid hx2
        have HM2 := Lib.hid (HM.out.trans m2 fun _ _ h => h)
        clear hx2 m2 PT
        go_wp2_with fail
        go_roundw
        case rel => exact ⟨a, y, t + 1, hat, by omega, by omega, HP1, rfl, rfl, hlo, NH, HX2, HM2⟩
        case measure => simp [intOf]; omega
      | false =>
        rw [hpt] at PT
        have NL : Hid (∀ x, x < y + 1 → Psm ks k kk x = false) := fun x hx => by
          cases hx2 : Psm ks k kk x with
          | false => rfl
          | true => rw [MN.out x y (by omega) (by omega) hx2] at hpt; cases hpt
        clear hpt
        go_wp2_with fail
        refine PT.out.mono ?_
        rintro e w2 ⟨rfl, hx2, m2⟩
        have HX2 := Lib.hid hx2
        have HM2 := Lib.hid (HM.out.trans m2 fun _ _ h => h)
        clear hx2 m2 PT
        go_wp2_with fail
        go_roundw
        case rel => exact ⟨y + 1, c, t + 1, by omega, hcs, by omega, HP2, by go_num, rfl, NL, hhi, HX2, HM2⟩
        case measure => simp [intOf]; omega
    · obtain rfl : a = c := by omega
      go_wp2_with fail
      go_ret
      exact ⟨a, rfl, hcs, hlo.out, hhi.out, HX.out.le (by omega), HM.out⟩
abbrev boxedM (w : World) (m : Nat) (k i : Int) : World :=
  ((w.alloc (.cells #[.pointer (some ⟨m, 0, none⟩)] 46)).alloc (.cells #[.int .i64 k] 3)).alloc (.cells #[.int .i64 i] 3)
theorem boxedM_below (w : World) (m : Nat) (k i : Int) : Below w.heap.size w (boxedM w m k i) :=
  (((Below.refl w.heap.size w).alloc (Nat.le_refl _) _).alloc (by simp) _).alloc (by simp; omega) _
theorem boxedM_size (w : World) (m : Nat) (k i : Int) : (boxedM w m k i).heap.size = w.heap.size + 3 := by simp
theorem boxedM_cells (w : World) (m : Nat) (k i : Int) : (boxedM w m k i).cell? ⟨w.heap.size, 0, none⟩ = some (.pointer (some ⟨m, 0, none⟩)) ∧ (boxedM w m k i).cell? ⟨w.heap.size + 1, 0, none⟩ = some (.int .i64 k) ∧ (boxedM w m k i).cell? ⟨w.heap.size + 2, 0, none⟩ = some (.int .i64 i) := by
  have b0 := ((Blk.new w 46 #[.pointer (some ⟨m, 0, none⟩)]).alloc (.cells #[.int .i64 k] 3)).alloc (.cells #[.int .i64 i] 3)
  have b1 := (Blk.new (w.alloc (.cells #[.pointer (some ⟨m, 0, none⟩)] 46)) 3 #[.int .i64 k]).alloc (.cells #[.int .i64 i] 3)
  have b2 := Blk.new ((w.alloc (.cells #[.pointer (some ⟨m, 0, none⟩)] 46)).alloc (.cells #[.int .i64 k] 3)) 3 #[.int .i64 i]
  exact ⟨b0.cell 0, by simpa using b1.cell 0, by simpa using b2.cell 0⟩
/-- The letter with so many of its kind ahead. -/
theorem psm_at {k kk r : Nat} (hK : Kds ks) (hk : k < 4) (hr : r ≤ (ownL (k / 2) ks).length) (hkk : kk < cntK k ks) (hlo : ∀ x, x < r → Psm ks k kk x = false) (hhi : ∀ x, r ≤ x → x < (ownL (k / 2) ks).length → Psm ks k kk x = true) :
    r < (ownL (k / 2) ks).length ∧ ∀ p, p < ks.length → ks.getD p 0 / 2 = k / 2 → ah (k / 2) ks p = r → ks.getD p 0 = k ∧ cntK k (ks.take p) = kk := by
  have hall := cntO_all hK hk
  have hge : cntO k r ks ≤ kk := by
    cases r with
    | zero => rw [cntO_zero]; omega
    | succ r =>
      have := hlo r (by omega)
      unfold Psm at this
      rw [decide_eq_false_iff_not] at this
      omega
  have hrl : r < (ownL (k / 2) ks).length := by
    rcases Nat.lt_or_ge r (ownL (k / 2) ks).length with c | c
    · exact c
    · rw [show r = (ownL (k / 2) ks).length by omega] at hge; omega
  refine ⟨hrl, fun p hp hps hpa => ?_⟩
  have h1 := hhi r (Nat.le_refl _) hrl
  unfold Psm at h1
  rw [decide_eq_true_iff, cntO_next hrl] at h1
  have hkp := hK.getD p
  have hg := ownL_get (k / 2) ks p hp hps
  rw [hpa] at hg
  have hc := cntO_ah hK hk p
  rw [hpa] at hc
  rw [hg] at h1
  split at h1
  · exact ⟨by omega, by omega⟩
  · omega
set_option maxHeartbeats 4000000 in
theorem iselect_p (h : Mx w0 w m gx p0 g0 p1 g1 ks q) (k kk : Nat) (hk : k < 4) (hkk : kk < cntK k ks) (hq : q ≤ 800000) :
    Calls Tryz.prog 30 #[.pointer (some ⟨m, 0, none⟩), .int .i64 (k : Int), .int .i64 (kk : Int)] w fun e w' => ∃ p : Nat, p < ks.length ∧ ks.getD p 0 = k ∧ cntK k (ks.take p) = kk ∧ e = .returned (.tuple #[.int .i64 (p : Int), .int .i64 0]) ∧ Mx w0 w' m gx p0 g0 p1 g1 ks (q + 30) ∧ Mod (MxS gx p0 g0 p1 g1) w w' := by
  have hn9 := h.n9
  have hKd := h.kd
  have hl : (ownL (k / 2) ks).length ≤ 1000000 := by
    have h1 := ah_le (k / 2) ks ks.length (Nat.le_refl _)
    rw [ah_all] at h1; omega
  have hcl := cntK_le k ks
  have KD := Lib.hid (fun W => isKind_p (k : Int) W)
  rw [decide_eq_true (show Kd (k : Int) from ⟨by omega, by omega⟩)] at KD
  have SP := Lib.hid (fun W => shapeOf_p k W hk)
  have hbx := h.below (boxedM_below w m k kk)
  have ic := icount_p (hbx.below ((Below.refl _ _).drew)) k (ownL (k / 2) ks).length hk (Nat.le_refl _) (by omega)
  rw [cntO_all hKd hk] at ic
  have SR : Hid (∀ W, Mx w0 W m gx p0 g0 p1 g1 ks (q + 1) → CapM W m w.heap.size k kk → w.heap.size + 3 ≤ W.heap.size → Calls Tryz.prog 70 #[.int .i64 (((ownL (k / 2) ks).length : Nat) : Int), .func (.func 71) #[] #[.pointer (some ⟨w.heap.size, 0, none⟩), .pointer (some ⟨w.heap.size + 1, 0, none⟩), .pointer (some ⟨w.heap.size + 2, 0, none⟩)]] W
      fun e w' => ∃ r : Nat, e = .returned (.int .i64 (r : Int)) ∧ r ≤ (ownL (k / 2) ks).length ∧ (∀ x, x < r → Psm ks k kk x = false) ∧ (∀ x, r ≤ x → x < (ownL (k / 2) ks).length → Psm ks k kk x = true) ∧ Mx w0 w' m gx p0 g0 p1 g1 ks (q + 1 + 20) ∧ Mod (MxS gx p0 g0 p1 g1) W w') := fun W hW hc hz =>
    isearch_p hW k kk w.heap.size hc hk (by omega) (by omega) h.lts hz
  have PQ : Hid (∀ (y : Nat) (W : World), Mx w0 W m gx p0 g0 p1 g1 ks (q + 1 + 20) → y < (ownL (k / 2) ks).length → Calls Tryz.prog 60 #[.pointer (some ⟨m, 0, none⟩), .int .i64 ((k / 2 : Nat) : Int), .int .i64 (y : Int)] W fun e w' => ∃ p, p < ks.length ∧ ks.getD p 0 / 2 = k / 2 ∧ ah (k / 2) ks p = y ∧ MxP w0 W m gx p0 g0 p1 g1 ks (q + 1 + 20 + 1) (.returned (.int .i64 (p : Int))) e w') := fun y W hW hy => place_q hW (k / 2) y (by omega) hy (by omega)
  have PS := Lib.hid (fun r h1 h2 h3 => psm_at (ks := ks) (k := k) (kk := kk) (r := r) hKd hk h1 hkk h2 h3)
  have hcells := boxedM_cells w m k kk
  have hsz := boxedM_size w m k kk
  have PL : Hid (Calls Tryz.prog 69 #[.pointer (some ⟨if k / 2 = 0 then p0 else p1, 0, none⟩)] (boxedM w m k kk) fun e w' => e = .returned (.int .i64 (((ownL (k / 2) ks).length : Nat) : Int)) ∧ boxedM w m k kk = w') := by
    obtain ⟨d0, ha⟩ := hbx.pa
    obtain ⟨d1, hb⟩ := hbx.pb
    rcases (by omega : k / 2 = 0 ∨ k / 2 = 1) with e | e
    · rw [e, if_pos rfl]; exact plen_p p0 g0 _ _ q _ ha.ix
    · rw [e, if_neg (by decide)]; exact plen_p p1 g1 _ _ q _ hb.ix
  have hcc : (boxedM w m k kk).cell? ⟨m, 1 + k / 2, none⟩ = some (.pointer (some ⟨if k / 2 = 0 then p0 else p1, 0, none⟩)) := by
    rcases (by omega : k / 2 = 0 ∨ k / 2 = 1) with e | e
    · rw [e, if_pos rfl]; exact hbx.c1
    · rw [e, if_neg (by decide)]; exact hbx.c2
  have IC : Hid (Calls Tryz.prog 68 #[.pointer (some ⟨m, 0, none⟩), .int .i64 (k : Int), .int .i64 (((ownL (k / 2) ks).length : Nat) : Int)] (boxedM w m k kk).drew (MxP w0 (boxedM w m k kk).drew m gx p0 g0 p1 g1 ks (q + 1) (.returned (.int .i64 ((cntK k ks : Nat) : Int))))) := ic
  have HL := Lib.hid h.lts
  have B0 : Hid (Mod (MxS gx p0 g0 p1 g1) w (boxedM w m k kk)) := ((((Mod.refl _ w).alloc _).alloc _).alloc _)
  have hs2 : k / 2 < 2 := by omega
  generalize (if k / 2 = 0 then p0 else p1) = pp at *
  generalize (ownL (k / 2) ks).length = n at *
  generalize k / 2 = s at *
  have hkki : (kk : Int) < ((cntK k ks : Nat) : Int) := by omega
  have hcl9 : cntK k ks ≤ 1000000 := by omega
  generalize cntK k ks = tot at *
  have hge : ¬ ((tot : Int) ≤ (kk : Int)) := by omega
  have hgeb : decide ((tot : Int) ≤ (kk : Int)) = false := decide_eq_false hge
  obtain ⟨c0, c1, c2⟩ := hcells
  have CP : Hid (CapM (boxedM w m k kk) m w.heap.size k kk) := ⟨c0, c1, c2⟩
  have HSZ := Lib.hid hsz
  have CC : Hid (∀ w', Mod (MxS gx p0 g0 p1 g1) (boxedM w m k kk).drew w' → CapM w' m w.heap.size k kk) := fun w' md =>
    CapM.mod (w := (boxedM w m k kk).drew) ⟨c0, c1, c2⟩ md HL.out (by show _ ≤ (boxedM w m k kk).heap.size; omega)
  have hkn : decide ((kk : Int) < 0) = false := decide_eq_false (by omega)
  clear h ic hbx hcl hkk hKd hsz
  rcases (by omega : s = 0 ∨ s = 1) with rfl | rfl
  · go_enter Tryz.func30, Tryz.ntmps30
    go_wp2_with fail
    refine (KD.out _).mono ?_
    rintro e w1 ⟨rfl, rfl⟩
    go_wp2_with fail
    refine (SP.out _).mono ?_
    rintro e w1 ⟨rfl, rfl⟩
    go_wp2_with fail
    refine PL.out.mono ?_
    rintro e w1 ⟨rfl, rfl⟩
    go_wp2_with fail
    clear PL
    go_region_with (first
      | (go_at_call 68; (with_reducible refine IC.out.mono ?_); rintro e wa ⟨rfl, ha, ma⟩; have k0 := CC.out wa ma; have k1 := k0.c0; have k2 := k0.c1; have k3 := k0.c2; clear k0; have HA := Lib.hid ha; have MA := Lib.hid ma; clear ha ma))
    all_goals (
      go_simp
      have SRX := Lib.hid (SR.out wa HA.out (CC.out wa MA.out) (by have h1 := MA.out.size; have h2 := HSZ.out; have h3 : (boxedM w m k kk).drew.heap.size = (boxedM w m k kk).heap.size := rfl; omega))
      have HZA : Hid (w.heap.size + 3 ≤ wa.heap.size) := by have h1 := MA.out.size; have h2 := HSZ.out; have h3 : (boxedM w m k kk).drew.heap.size = (boxedM w m k kk).heap.size := rfl; show _ ≤ _; omega
      have CA := Lib.hid (CC.out wa MA.out)
      go_wp2_with fail
      refine SRX.out.mono ?_
      rintro e w5 ⟨r, rfl, hr, hlo, hhi, h5, m5⟩
      obtain ⟨hrl, hps⟩ := PS.out r hr hlo hhi
      have PX := Lib.hid (PQ.out r w5 h5 hrl)
      have k50 := (CA.out.mod m5 HL.out HZA.out).c0
      have HPS := Lib.hid hps
      have M5 : Hid (Mod (MxS gx p0 g0 p1 g1) w w5) := (B0.out.drew.trans MA.out fun _ _ h => h).trans m5 fun _ _ h => h
      clear hlo hhi h5 m5 SRX hps
      go_wp2_with fail
      refine PX.out.mono ?_
      rintro e w6 ⟨p, hp, hps, hpa, rfl, h6, m6⟩
      have HA6 := Lib.hid (HPS.out p hp hps hpa)
      have H6 := Lib.hid h6
      have M6 := Lib.hid (M5.out.trans m6 fun _ _ h => h)
      clear h6 m6 PX hps hpa
      go_wp2_with fail
      go_ret2
      exact ⟨p, hp, HA6.out.1, HA6.out.2, rfl, H6.out.le (by omega), M6.out⟩)
  · go_enter Tryz.func30, Tryz.ntmps30
    go_wp2_with fail
    refine (KD.out _).mono ?_
    rintro e w1 ⟨rfl, rfl⟩
    go_wp2_with fail
    refine (SP.out _).mono ?_
    rintro e w1 ⟨rfl, rfl⟩
    go_wp2_with fail
    refine PL.out.mono ?_
    rintro e w1 ⟨rfl, rfl⟩
    go_wp2_with fail
    clear PL
    go_region_with (first
      | (go_at_call 68; (with_reducible refine IC.out.mono ?_); rintro e wa ⟨rfl, ha, ma⟩; have k0 := CC.out wa ma; have k1 := k0.c0; have k2 := k0.c1; have k3 := k0.c2; clear k0; have HA := Lib.hid ha; have MA := Lib.hid ma; clear ha ma))
    all_goals (
      go_simp
      have SRX := Lib.hid (SR.out wa HA.out (CC.out wa MA.out) (by have h1 := MA.out.size; have h2 := HSZ.out; have h3 : (boxedM w m k kk).drew.heap.size = (boxedM w m k kk).heap.size := rfl; omega))
      have HZA : Hid (w.heap.size + 3 ≤ wa.heap.size) := by have h1 := MA.out.size; have h2 := HSZ.out; have h3 : (boxedM w m k kk).drew.heap.size = (boxedM w m k kk).heap.size := rfl; show _ ≤ _; omega
      have CA := Lib.hid (CC.out wa MA.out)
      go_wp2_with fail
      refine SRX.out.mono ?_
      rintro e w5 ⟨r, rfl, hr, hlo, hhi, h5, m5⟩
      obtain ⟨hrl, hps⟩ := PS.out r hr hlo hhi
      have PX := Lib.hid (PQ.out r w5 h5 hrl)
      have k50 := (CA.out.mod m5 HL.out HZA.out).c0
      have HPS := Lib.hid hps
      have M5 : Hid (Mod (MxS gx p0 g0 p1 g1) w w5) := (B0.out.drew.trans MA.out fun _ _ h => h).trans m5 fun _ _ h => h
      clear hlo hhi h5 m5 SRX hps
      go_wp2_with fail
      refine PX.out.mono ?_
      rintro e w6 ⟨p, hp, hps, hpa, rfl, h6, m6⟩
      have HA6 := Lib.hid (HPS.out p hp hps hpa)
      have H6 := Lib.hid h6
      have M6 := Lib.hid (M5.out.trans m6 fun _ _ h => h)
      clear h6 m6 PX hps hpa
      go_wp2_with fail
      go_ret2
      exact ⟨p, hp, HA6.out.1, HA6.out.2, rfl, H6.out.le (by omega), M6.out⟩)
end
end Go.Proofs.YtagpdpacaoianaaGreatDoor
