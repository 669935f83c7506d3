/- Select of a word's index, where there is none. -/
import Derived.Test.YtagpdpacaoianaaGreatDoorZMSel
import Derived.Deep.RegionWith
namespace Go.Proofs.YtagpdpacaoianaaGreatDoor
set_option maxRecDepth 20000
open Go.RowKit
set_option linter.unusedVariables false
section
variable {w0 w : World} {m gx p0 g0 p1 g1 q : Nat} {ks : List Nat}
/-- The captured variables, any number. -/
structure CapI (w : World) (m b k : Nat) (kk : Int) : Prop where
  c0 : w.cell? ⟨b, 0, none⟩ = some (.pointer (some ⟨m, 0, none⟩))
  c1 : w.cell? ⟨b + 1, 0, none⟩ = some (.int .i64 (k : Int))
  c2 : w.cell? ⟨b + 2, 0, none⟩ = some (.int .i64 kk)
theorem CapI.mod {w w' : World} {S : Nat → Prop} {m b k : Nat} {kk : Int} (h : CapI w m b k kk) (md : Mod S w w') (hS : ∀ i, S i → i < b) (hb : b + 3 ≤ w.heap.size) : CapI w' m b k kk :=
  ⟨(md.cell (b := b) (by omega) (fun h => by have := hS _ h; omega) 0).trans h.c0, (md.cell (b := b + 1) (by omega) (fun h => by have := hS _ h; omega) 0).trans h.c1, (md.cell (b := b + 2) (by omega) (fun h => by have := hS _ h; omega) 0).trans h.c2⟩
def SelNo (w0 w : World) (m gx p0 g0 p1 g1 q : Nat) (ks : List Nat) (e : Ending) (w' : World) : Prop := e = .returned (.tuple #[.int .i64 0, .int .i64 1]) ∧ Mx w0 w' m gx p0 g0 p1 g1 ks (q + 1) ∧ Mod (MxS gx p0 g0 p1 g1) w w'
theorem isel_kind (h : Mx w0 w m gx p0 g0 p1 g1 ks q) (z i : Int) (hz : ¬ Kd z) :
    Calls Tryz.prog 30 #[.pointer (some ⟨m, 0, none⟩), .int .i64 z, .int .i64 i] w (SelNo w0 w m gx p0 g0 p1 g1 q ks) := by
  have KD := Lib.hid (fun W => isKind_p z W)
  rw [decide_eq_false hz] at KD
  have HBX := Lib.hid ((h.below (boxedM_below w m z i)).le (show q ≤ q + 1 by omega))
  have B0 : Hid (Mod (MxS gx p0 g0 p1 g1) w (boxedM w m z i)) := ((((Mod.refl _ w).alloc _).alloc _).alloc _)
  obtain ⟨c0, c1, c2⟩ := boxedM_cells w m z i
  clear h hz
  go_enter Tryz.func30, Tryz.ntmps30
  go_wp2_with fail
  refine (KD.out _).mono ?_
  rintro e w1 ⟨rfl, rfl⟩
  go_wp2_with fail
  go_ret2
  exact ⟨rfl, HBX.out, B0.out⟩
theorem isel_nil (z i : Int) (w : World) : Calls Tryz.prog 30 #[.pointer none, .int .i64 z, .int .i64 i] w fun e w' => e = .returned (.tuple #[.int .i64 0, .int .i64 2]) ∧ Below w.heap.size w w' := by
  have B0 := Lib.hid ((((Below.refl w.heap.size w).alloc (Nat.le_refl _) (.cells #[.pointer none] 46)).alloc (by simp) (.cells #[.int .i64 z] 3)).alloc (by simp; omega) (.cells #[.int .i64 i] 3))
  go_enter Tryz.func30, Tryz.ntmps30
  go_wp2_with fail
  go_ret2
  exact ⟨rfl, B0.out⟩
set_option maxHeartbeats 4000000 in
theorem isel_low (h : Mx w0 w m gx p0 g0 p1 g1 ks q) (k : Nat) (kk : Int) (hk : k < 4) (hneg : kk < 0) (hq : q ≤ 800000) :
    Calls Tryz.prog 30 #[.pointer (some ⟨m, 0, none⟩), .int .i64 (k : Int), .int .i64 kk] w (SelNo w0 w m gx p0 g0 p1 g1 q ks) := by
  have hn9 := h.n9
  have hKd := h.kd
  have hl : (ownL (k / 2) ks).length ≤ 1000000 := by
    have h1 := ah_le (k / 2) ks ks.length (Nat.le_refl _)
    rw [ah_all] at h1; omega
  have hcl := cntK_le k ks
  have KD := Lib.hid (fun W => isKind_p (k : Int) W)
  rw [decide_eq_true (show Kd (k : Int) from ⟨by omega, by omega⟩)] at KD
  have SP := Lib.hid (fun W => shapeOf_p k W hk)
  have hbx := h.below (boxedM_below w m k kk)
  have ic := icount_p (hbx.below ((Below.refl _ _).drew)) k (ownL (k / 2) ks).length hk (Nat.le_refl _) (by omega)
  rw [cntO_all hKd hk] at ic
  have hcells := boxedM_cells w m k kk
  have hsz := boxedM_size w m k kk
  have PL : Hid (Calls Tryz.prog 69 #[.pointer (some ⟨if k / 2 = 0 then p0 else p1, 0, none⟩)] (boxedM w m k kk) fun e w' => e = .returned (.int .i64 (((ownL (k / 2) ks).length : Nat) : Int)) ∧ boxedM w m k kk = w') := by
    obtain ⟨d0, ha⟩ := hbx.pa
    obtain ⟨d1, hb⟩ := hbx.pb
    rcases (by omega : k / 2 = 0 ∨ k / 2 = 1) with e | e
    · rw [e, if_pos rfl]; exact plen_p p0 g0 _ _ q _ ha.ix
    · rw [e, if_neg (by decide)]; exact plen_p p1 g1 _ _ q _ hb.ix
  have hcc : (boxedM w m k kk).cell? ⟨m, 1 + k / 2, none⟩ = some (.pointer (some ⟨if k / 2 = 0 then p0 else p1, 0, none⟩)) := by
    rcases (by omega : k / 2 = 0 ∨ k / 2 = 1) with e | e
    · rw [e, if_pos rfl]; exact hbx.c1
    · rw [e, if_neg (by decide)]; exact hbx.c2
  have B0 : Hid (Mod (MxS gx p0 g0 p1 g1) w (boxedM w m k kk)) := ((((Mod.refl _ w).alloc _).alloc _).alloc _)
  have HBX := Lib.hid (hbx.le (show q ≤ q + 1 by omega))
  have IC : Hid (Calls Tryz.prog 68 #[.pointer (some ⟨m, 0, none⟩), .int .i64 (k : Int), .int .i64 (((ownL (k / 2) ks).length : Nat) : Int)] (boxedM w m k kk).drew (MxP w0 (boxedM w m k kk).drew m gx p0 g0 p1 g1 ks (q + 1) (.returned (.int .i64 ((cntK k ks : Nat) : Int))))) := ic
  have HL := Lib.hid h.lts
  have hs2 : k / 2 < 2 := by omega
  generalize (if k / 2 = 0 then p0 else p1) = pp at *
  generalize (ownL (k / 2) ks).length = n at *
  generalize k / 2 = s at *
  have hcl9 : cntK k ks ≤ 1000000 := by omega
  generalize cntK k ks = tot at *
  obtain ⟨c0, c1, c2⟩ := hcells
  have hkn : decide (kk < 0) = true := decide_eq_true hneg
  clear h ic hbx hcl hKd hsz IC
  rcases (by omega : s = 0 ∨ s = 1) with rfl | rfl
  · go_enter Tryz.func30, Tryz.ntmps30
    go_wp2_with fail
    refine (KD.out _).mono ?_
    rintro e w1 ⟨rfl, rfl⟩
    go_wp2_with fail
    refine (SP.out _).mono ?_
    rintro e w1 ⟨rfl, rfl⟩
    go_wp2_with fail
    refine PL.out.mono ?_
    rintro e w1 ⟨rfl, rfl⟩
    go_wp2_with fail
    clear PL
    go_quiet (fail)
    go_wp2_with fail
    go_ret2
    exact ⟨rfl, HBX.out.below (below_draws (Below.refl _ _) _), B0.out.drewN _⟩
  · go_enter Tryz.func30, Tryz.ntmps30
    go_wp2_with fail
    refine (KD.out _).mono ?_
    rintro e w1 ⟨rfl, rfl⟩
    go_wp2_with fail
    refine (SP.out _).mono ?_
    rintro e w1 ⟨rfl, rfl⟩
    go_wp2_with fail
    refine PL.out.mono ?_
    rintro e w1 ⟨rfl, rfl⟩
    go_wp2_with fail
    clear PL
    go_quiet (fail)
    go_wp2_with fail
    go_ret2
    exact ⟨rfl, HBX.out.below (below_draws (Below.refl _ _) _), B0.out.drewN _⟩
set_option maxHeartbeats 4000000 in
theorem isel_high (h : Mx w0 w m gx p0 g0 p1 g1 ks q) (k : Nat) (kk : Int) (hk : k < 4) (hkk : 0 ≤ kk) (hno : (cntK k ks : Int) ≤ kk) (hq : q ≤ 800000) :
    Calls Tryz.prog 30 #[.pointer (some ⟨m, 0, none⟩), .int .i64 (k : Int), .int .i64 kk] w (SelNo w0 w m gx p0 g0 p1 g1 q ks) := by
  have hn9 := h.n9
  have hKd := h.kd
  have hl : (ownL (k / 2) ks).length ≤ 1000000 := by
    have h1 := ah_le (k / 2) ks ks.length (Nat.le_refl _)
    rw [ah_all] at h1; omega
  have hcl := cntK_le k ks
  have KD := Lib.hid (fun W => isKind_p (k : Int) W)
  rw [decide_eq_true (show Kd (k : Int) from ⟨by omega, by omega⟩)] at KD
  have SP := Lib.hid (fun W => shapeOf_p k W hk)
  have hbx := h.below (boxedM_below w m k kk)
  have ic := icount_p (hbx.below ((Below.refl _ _).drew)) k (ownL (k / 2) ks).length hk (Nat.le_refl _) (by omega)
  rw [cntO_all hKd hk] at ic
  have hcells := boxedM_cells w m k kk
  have hsz := boxedM_size w m k kk
  have PL : Hid (Calls Tryz.prog 69 #[.pointer (some ⟨if k / 2 = 0 then p0 else p1, 0, none⟩)] (boxedM w m k kk) fun e w' => e = .returned (.int .i64 (((ownL (k / 2) ks).length : Nat) : Int)) ∧ boxedM w m k kk = w') := by
    obtain ⟨d0, ha⟩ := hbx.pa
    obtain ⟨d1, hb⟩ := hbx.pb
    rcases (by omega : k / 2 = 0 ∨ k / 2 = 1) with e | e
    · rw [e, if_pos rfl]; exact plen_p p0 g0 _ _ q _ ha.ix
    · rw [e, if_neg (by decide)]; exact plen_p p1 g1 _ _ q _ hb.ix
  have hcc : (boxedM w m k kk).cell? ⟨m, 1 + k / 2, none⟩ = some (.pointer (some ⟨if k / 2 = 0 then p0 else p1, 0, none⟩)) := by
    rcases (by omega : k / 2 = 0 ∨ k / 2 = 1) with e | e
    · rw [e, if_pos rfl]; exact hbx.c1
    · rw [e, if_neg (by decide)]; exact hbx.c2
  have B0 : Hid (Mod (MxS gx p0 g0 p1 g1) w (boxedM w m k kk)) := ((((Mod.refl _ w).alloc _).alloc _).alloc _)
  have HBX := Lib.hid ((hbx.below ((Below.refl _ _).drew)).le (show q ≤ q + 1 by omega))
  have IC : Hid (Calls Tryz.prog 68 #[.pointer (some ⟨m, 0, none⟩), .int .i64 (k : Int), .int .i64 (((ownL (k / 2) ks).length : Nat) : Int)] (boxedM w m k kk).drew (MxP w0 (boxedM w m k kk).drew m gx p0 g0 p1 g1 ks (q + 1) (.returned (.int .i64 ((cntK k ks : Nat) : Int))))) := ic
  have HL := Lib.hid h.lts
  have hs2 : k / 2 < 2 := by omega
  generalize (if k / 2 = 0 then p0 else p1) = pp at *
  generalize (ownL (k / 2) ks).length = n at *
  generalize k / 2 = s at *
  have hcl9 : cntK k ks ≤ 1000000 := by omega
  generalize cntK k ks = tot at *
  obtain ⟨c0, c1, c2⟩ := hcells
  have hgeb : decide ((tot : Int) ≤ kk) = true := decide_eq_true hno
  have hkn : decide (kk < 0) = false := decide_eq_false (by omega)
  have HSZ := Lib.hid hsz
  have CC : Hid (∀ w', Mod (MxS gx p0 g0 p1 g1) (boxedM w m k kk).drew w' → CapI w' m w.heap.size k kk) := fun w' md =>
    CapI.mod (w := (boxedM w m k kk).drew) ⟨c0, c1, c2⟩ md HL.out (by show _ ≤ (boxedM w m k kk).heap.size; omega)
  clear h ic hbx hcl hKd hsz
  rcases (by omega : s = 0 ∨ s = 1) with rfl | rfl
  · go_enter Tryz.func30, Tryz.ntmps30
    go_wp2_with fail
    refine (KD.out _).mono ?_
    rintro e w1 ⟨rfl, rfl⟩
    go_wp2_with fail
    refine (SP.out _).mono ?_
    rintro e w1 ⟨rfl, rfl⟩
    go_wp2_with fail
    refine PL.out.mono ?_
    rintro e w1 ⟨rfl, rfl⟩
    go_wp2_with fail
    clear PL
    go_region_with (first
      | (go_at_call 68; (with_reducible refine IC.out.mono ?_); rintro e wa ⟨rfl, ha, ma⟩; have k0 := CC.out wa ma; have k1 := k0.c0; have k2 := k0.c1; have k3 := k0.c2; clear k0; have HA := Lib.hid ha; have MA := Lib.hid ma; clear ha ma))
    all_goals (
      go_simp
      go_wp2_with fail
      go_ret2
      exact ⟨rfl, HA.out, B0.out.drew.trans MA.out fun _ _ h => h⟩)
  · go_enter Tryz.func30, Tryz.ntmps30
    go_wp2_with fail
    refine (KD.out _).mono ?_
    rintro e w1 ⟨rfl, rfl⟩
    go_wp2_with fail
    refine (SP.out _).mono ?_
    rintro e w1 ⟨rfl, rfl⟩
    go_wp2_with fail
    refine PL.out.mono ?_
    rintro e w1 ⟨rfl, rfl⟩
    go_wp2_with fail
    clear PL
    go_region_with (first
      | (go_at_call 68; (with_reducible refine IC.out.mono ?_); rintro e wa ⟨rfl, ha, ma⟩; have k0 := CC.out wa ma; have k1 := k0.c0; have k2 := k0.c1; have k3 := k0.c2; clear k0; have HA := Lib.hid ha; have MA := Lib.hid ma; clear ha ma))
    all_goals (
      go_simp
      go_wp2_with fail
      go_ret2
      exact ⟨rfl, HA.out, B0.out.drew.trans MA.out fun _ _ h => h⟩)
theorem isel_no (h : Mx w0 w m gx p0 g0 p1 g1 ks q) (z i : Int) (hno : ¬ Kd z ∨ i < 0 ∨ ((cntZ z ks : Nat) : Int) ≤ i) (hq : q ≤ 800000) :
    Calls Tryz.prog 30 #[.pointer (some ⟨m, 0, none⟩), .int .i64 z, .int .i64 i] w (SelNo w0 w m gx p0 g0 p1 g1 q ks) := by
  by_cases hz : Kd z
  · obtain ⟨k, rfl⟩ : ∃ k : Nat, z = (k : Int) := ⟨z.toNat, by have := hz.1; omega⟩
    have hk : k < 4 := by have := hz.2; omega
    by_cases h0 : i < 0
    · exact isel_low h k i hk h0 hq
    · rw [cntZ_nat] at hno
      exact isel_high h k i hk (by omega) ((hno.resolve_left (fun c => c hz)).resolve_left h0) hq
  · exact isel_kind h z i hz
end
end Go.Proofs.YtagpdpacaoianaaGreatDoor
