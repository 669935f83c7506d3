/- Doubles, Simple, Triangulation of euler: the walks. -/
import Derived.Test.YthbhbcakiaaapaaEDbl
import Derived.Test.YthbhbcakiaaapaaEGen
import Derived.Deep.RegionWith
namespace Go.Proofs.Ythbhbcakiaaapaa
set_option maxRecDepth 20000
open Go.RowKit Go.Maps
set_option linter.unusedVariables false
theorem prN_le (l : List Nat) (a c k : Nat) : prN l a c k ≤ k := num_le _ _
set_option maxHeartbeats 4000000 in
theorem doubles_p (g : Nat) (l b : List Nat) (root lone : Int) (w : World) (h : MapAt w g l b root lone) :
    Calls Try.prog 34 #[.pointer (some ⟨g, 0, none⟩)] w fun e w' => e = .returned (.int .i64 (dblN l (l.length / 2) : Int)) ∧ Below w.heap.size w w' := by
  have hle := h.2.1
  have hinv : Inv l b := by obtain ⟨_, _, p, A, c, S, d, q, A', c', S', d', hb, hp, _⟩ := h; exact hp.1
  have HM : Hid (∀ w', Below w.heap.size w w' → MapAt w' g l b root lone) := fun w' m => h.below m
  have HNL : Hid (∀ x, x < l.length → nameOf l x ≤ 1000000) := fun x hx => by
    have h1 := name_lt hinv hx
    have h2 := sizes_le l
    rw [sizes_len] at h2
    omega
  have hmm := @run_makeMap Try.prog
  have hba := (Below.refl w.heap.size w).alloc (Nat.le_refl _) (.map #[] 0)
  have EP := Lib.hid (edges_p g l b root lone _ (HM.out _ hba))
  have OW0 : Hid (OwnP (w.alloc (.map #[] 0)) w.heap.size 0 (.map [])) := World.ownsMap_made _ _ _ _
  have HBA := Lib.hid hba
  have HZ : Hid (0 = dblN l 0) := rfl
  obtain ⟨n, hn⟩ : ∃ n, n = l.length / 2 := ⟨_, rfl⟩
  rw [← hn] at EP ⊢
  have hn2 : 2 * n ≤ l.length := by omega
  clear h hn hinv hba
  go_enter Try.func34, Try.ntmps34
  go_wp2_with fail
  refine EP.out.mono ?_
  rintro e w1 ⟨rfl, hb1⟩
  have OW1 := Lib.hid (pown_below OW0.out hb1)
  have HB1 := Lib.hid (HBA.out.trans (hb1.mono HBA.out.size))
  clear hb1 OW0 HBA EP
  go_wp2_with fail
  go_loopw [3, 10] (fun s3 i wr => ∃ (k p : Nat) (D : DataW Unit), k ≤ n ∧ p ≤ k ∧ s3 = .int .i64 (p : Int) ∧ i = .int .i64 (k : Int) ∧ Hid (p = dblN l k) ∧ Hid (PM D l k) ∧ Hid (OwnP wr w.heap.size k D) ∧ Hid (Below w.heap.size w wr)) (fun _ i _ => n - (intOf i).toNat)
  case atStart => exact ⟨0, 0, .map [], by omega, by omega, rfl, rfl, HZ, PM.zero l, OW1, HB1⟩
  case round =>
    clear OW1 HB1
    obtain ⟨k, p, D, hk, hpk, rfl, rfl, HP, HPM, HO, HB⟩ := hrel
    by_cases hkn : k = n
    · subst hkn
      have hdk : decide (k < k) = false := by simp
      go_wp2_with fail
      go_ret
      exact ⟨by rw [← HP.out]; rfl, HB.out⟩
    · have hlt : k < n := by omega
      have hdk : decide (k < n) = true := by rw [decide_eq_true_iff]; exact hlt
      have EN := Lib.hid (ends_p g l b root lone k wr (HM.out _ HB.out) (by omega))
      have NX := Lib.hid (num_next (fun e => lowE l e ≠ highE l e ∧ 0 < prN l (lowE l e) (highE l e) e) k)
      have hxl : lowE l k ≤ 1000000 := by have := HNL.out (2 * k) (by omega); unfold lowE; omega
      have hyl : highE l k ≤ 1000000 := by have := HNL.out (2 * k) (by omega); have := HNL.out (2 * k + 1) (by omega); unfold highE; omega
      obtain ⟨x, hx⟩ : ∃ x, x = lowE l k := ⟨_, rfl⟩
      obtain ⟨y, hy⟩ : ∃ y, y = highE l k := ⟨_, rfl⟩
      rw [← hx, ← hy] at EN NX
      rw [← hx] at hxl
      rw [← hy] at hyl
      have HX := Lib.hid hx
      have HY := Lib.hid hy
      clear hx hy
      have LP := Lib.hid (fun W => isLoop_p x y W)
      have hsr := HB.out.size
      by_cases he : x = y
      · have hd : decide (x = y) = true := by simp [he]
        rw [hd] at LP
        have NX2 := Lib.hid (NX.out.2 (fun c => c.1 he))
        have PM2 := Lib.hid (HPM.out.loop (by rw [← HX.out, ← HY.out]; exact he))
        clear he hd
        go_wp2_with (first
          | (go_at_call 57; refine EN.out.mono ?_; rintro e w2 ⟨rfl, hb2⟩; have O2 := Lib.hid ((pown_below HO.out hb2).alloc (.cells #[.int .i64 (x : Int), .int .i64 (y : Int)] 75)); have B2 := Lib.hid ((HB.out.trans (hb2.mono hsr)).alloc (show w.heap.size ≤ w2.heap.size by have := hb2.size; omega) (.cells #[.int .i64 (x : Int), .int .i64 (y : Int)] 75)))
          | (go_at_call 58; refine (LP.out _).mono ?_; rintro e w3 ⟨rfl, hb3⟩; have O3 := Lib.hid (pown_below O2.out hb3); have B3 := Lib.hid (B2.out.trans (hb3.mono B2.out.size))))
        go_roundw
        case rel => exact ⟨k + 1, p, D, by omega, by omega, rfl, by go_num, by show _ = _; unfold dblN at HP ⊢; rw [NX2.out, HP.out], PM2, World.ownsMap.mono O3.out (by omega), B3⟩
        case measure => simp [intOf]; omega
      · have hd : decide (x = y) = false := by simp [he]
        rw [hd] at LP
        have HNE := Lib.hid he
        obtain ⟨q, hq⟩ : ∃ q, q = prN l x y k := ⟨_, rfl⟩
        have hql : q ≤ 500000 := by have := prN_le l x y k; omega
        have HQ := Lib.hid hq
        have HLK : Hid (∀ W : World, OwnP W w.heap.size k D → (Instr.lookup 73 (.map (some w.heap.size)) (.agg #[.int .i64 (x : Int), .int .i64 (y : Int)]) false).run Try.prog W = .ok (.int .i64 (q : Int)) W) := fun W O => by rw [HQ.out]; exact look_p O HPM.out hxl hyl HNE.out
        have HEN : Hid (∀ W : World, OwnP W w.heap.size k D → ∃ (v0 : Value) (st : Nat) (w1 w2 : World), (Instr.mapEntry 73 (.map (some w.heap.size)) (.agg #[.int .i64 (x : Int), .int .i64 (y : Int)])).run Try.prog W = .ok (.tuple #[v0, goInt st]) w1 ∧ (Instr.lookup 73 (.map (some w.heap.size)) (.agg #[.int .i64 (x : Int), .int .i64 (y : Int)]) false).run Try.prog w1 = .ok (.int .i64 (q : Int)) w1 ∧ (Instr.entryStore 73 (.map (some w.heap.size)) (goInt st) (.int .i64 ((q : Int) + 1))).run Try.prog w1 = .ok () w2 ∧ OwnP w2 w.heap.size (k + 1) (D.put (kP x y) (.lit (.int .i64 ((q : Int) + 1)))) ∧ W.grownBy w2 (some w.heap.size) ∧ W.grownBy w1 (some w.heap.size)) := fun W O =>
          own_entry O (by simp only [maxLen]; omega) (pkey x y hxl hyl) (HLK.out W O) (plainElem_int Try.underlying3 (by have := wf_small (q + 1) (by omega); rwa [Int.natCast_add] at this))
        have PM2 := Lib.hid (HPM.out.step HX.out HY.out hxl hyl hq)
        by_cases h0 : 0 < q
        · have NX2 := Lib.hid (NX.out.1 ⟨HNE.out, by rw [← HQ.out]; exact h0⟩)
          clear he hd hq
          go_wp2_with (first
            | (go_at_call 57; refine EN.out.mono ?_; rintro e w2 ⟨rfl, hb2⟩; have O2 := Lib.hid ((pown_below HO.out hb2).alloc (.cells #[.int .i64 (x : Int), .int .i64 (y : Int)] 75)); have B2 := Lib.hid ((HB.out.trans (hb2.mono hsr)).alloc (show w.heap.size ≤ w2.heap.size by have := hb2.size; omega) (.cells #[.int .i64 (x : Int), .int .i64 (y : Int)] 75)); have X2 := Lib.hid (Blk.new w2 75 #[.int .i64 (x : Int), .int .i64 (y : Int)]))
            | (go_at_call 58; refine (LP.out _).mono ?_; rintro e w3 ⟨rfl, hb3⟩; have O3 := Lib.hid (pown_below O2.out hb3); have B3 := Lib.hid (B2.out.trans (hb3.mono B2.out.size)); have X3 := X2.out.below hb3; have xc0 : w3.cell? ⟨w2.heap.size, 0, none⟩ = some (.int .i64 (x : Int)) := X3.cell 0; have xc1 : w3.cell? ⟨w2.heap.size, 1, none⟩ = some (.int .i64 (y : Int)) := X3.cell 1; have lk := HLK.out _ O3.out; have X3H := Lib.hid X3; clear X3))
          clear lk
          have lkd := HLK.out w3.drew (World.ownsMap.drew O3.out)
          obtain ⟨v0, st, w4, w5, en, lk2, es, O5, G5, G4⟩ := HEN.out w3.drew (World.ownsMap.drew O3.out)
          have xd0 : w3.drew.cell? ⟨w2.heap.size, 0, none⟩ = some (.int .i64 (x : Int)) := xc0
          have xd1 : w3.drew.cell? ⟨w2.heap.size, 1, none⟩ = some (.int .i64 (y : Int)) := xc1
          have B5 := Lib.hid (B3.out.drew.trans ((Mod.ofGrown G5).belowB B3.out.drew.size (fun i hi e => absurd hi (by cases e; exact Nat.lt_irrefl _))))
          have HO5 := Lib.hid O5
          have es2 : (Instr.entryStore 73 (.map (some w.heap.size)) (.int .i64 (st : Int)) (.int .i64 ((q : Int) + 1))).run Try.prog w4 = .ok () w5 := es
          clear O5 G5 G4 es
          have wq : IntKind.i64.wrap ((q : Int) + 1) = (q : Int) + 1 := by simp [IntKind.wrap, IntKind.signed, IntKind.bits]; omega
          go_region_with (fail)
          all_goals (
            go_wp2_with fail
            go_roundw
            case rel => exact ⟨k + 1, p + 1, _, by omega, by omega, by go_num, by go_num, by show _ = _; unfold dblN at HP ⊢; rw [NX2.out, HP.out], PM2, HO5, B5⟩
            case measure => simp [intOf]; omega)
        · have NX2 := Lib.hid (NX.out.2 (fun c => h0 (by rw [HQ.out]; exact c.2)))
          have hq0 : ¬ (0 < (q : Int)) := by omega
          clear he hd hq
          go_wp2_with (first
            | (go_at_call 57; refine EN.out.mono ?_; rintro e w2 ⟨rfl, hb2⟩; have O2 := Lib.hid ((pown_below HO.out hb2).alloc (.cells #[.int .i64 (x : Int), .int .i64 (y : Int)] 75)); have B2 := Lib.hid ((HB.out.trans (hb2.mono hsr)).alloc (show w.heap.size ≤ w2.heap.size by have := hb2.size; omega) (.cells #[.int .i64 (x : Int), .int .i64 (y : Int)] 75)); have X2 := Lib.hid (Blk.new w2 75 #[.int .i64 (x : Int), .int .i64 (y : Int)]))
            | (go_at_call 58; refine (LP.out _).mono ?_; rintro e w3 ⟨rfl, hb3⟩; have O3 := Lib.hid (pown_below O2.out hb3); have B3 := Lib.hid (B2.out.trans (hb3.mono B2.out.size)); have X3 := X2.out.below hb3; have xc0 : w3.cell? ⟨w2.heap.size, 0, none⟩ = some (.int .i64 (x : Int)) := X3.cell 0; have xc1 : w3.cell? ⟨w2.heap.size, 1, none⟩ = some (.int .i64 (y : Int)) := X3.cell 1; have lk := HLK.out _ O3.out; have X3H := Lib.hid X3; clear X3))
          clear lk
          have lkd := HLK.out w3.drew (World.ownsMap.drew O3.out)
          obtain ⟨v0, st, w4, w5, en, lk2, es, O5, G5, G4⟩ := HEN.out w3.drew (World.ownsMap.drew O3.out)
          have xd0 : w3.drew.cell? ⟨w2.heap.size, 0, none⟩ = some (.int .i64 (x : Int)) := xc0
          have xd1 : w3.drew.cell? ⟨w2.heap.size, 1, none⟩ = some (.int .i64 (y : Int)) := xc1
          have B5 := Lib.hid (B3.out.drew.trans ((Mod.ofGrown G5).belowB B3.out.drew.size (fun i hi e => absurd hi (by cases e; exact Nat.lt_irrefl _))))
          have HO5 := Lib.hid O5
          have es2 : (Instr.entryStore 73 (.map (some w.heap.size)) (.int .i64 (st : Int)) (.int .i64 ((q : Int) + 1))).run Try.prog w4 = .ok () w5 := es
          clear O5 G5 G4 es
          have wq : IntKind.i64.wrap ((q : Int) + 1) = (q : Int) + 1 := by simp [IntKind.wrap, IntKind.signed, IntKind.bits]; omega
          go_region_with (fail)
          all_goals (
            go_wp2_with fail
            go_roundw
            case rel => exact ⟨k + 1, p, _, by omega, by omega, rfl, by go_num, by show _ = _; unfold dblN at HP ⊢; rw [NX2.out, HP.out], PM2, HO5, B5⟩
            case measure => simp [intOf]; omega)
/-- Is a map a triangulation. -/
def TriangN (l : List Nat) (lone : Nat) : Prop := pN l + lone = 1 ∧ 3 ≤ (sizes l).length + lone ∧ (∀ d, d < l.length → Tri l d) ∧ genusN l = 0 ∧ loopsN l (l.length / 2) = 0 ∧ dblN l (l.length / 2) = 0
def BoolPost (P : Prop) (w : World) (e : Ending) (w' : World) : Prop := ∃ r : Bool, e = .returned (.bool r) ∧ (r = true ↔ P) ∧ Below w.heap.size w w'
theorem BoolPost.yes {P : Prop} {w w' : World} {e : Ending} (he : e = .returned (.bool true)) (h : P) (hb : Below w.heap.size w w') : BoolPost P w e w' := ⟨true, he, ⟨fun _ => h, fun _ => rfl⟩, hb⟩
theorem BoolPost.no {P : Prop} {w w' : World} {e : Ending} (he : e = .returned (.bool false)) (h : ¬ P) (hb : Below w.heap.size w w') : BoolPost P w e w' := ⟨false, he, ⟨fun c => (by cases c), fun c => absurd c h⟩, hb⟩
/-! ### of nil -/
theorem parts_nil (w : World) : Calls Try.prog 54 #[.pointer none] w fun e w' => e = .returned (.slice none 0 0) ∧ Below w.heap.size w w' := by
  have EN := Lib.hid (enames_nil w)
  have LN := Lib.hid (fun W => lone_nil W)
  go_enter Try.func54, Try.ntmps54
  go_wp2_with fail
  refine EN.out.mono ?_
  rintro e w1 ⟨An, cn, rfl, hcn, hmn, hownn, hb1⟩
  have B1 := Lib.hid hb1
  clear hownn hb1
  go_wp2_with fail
  go_loopw [3, 4, 5, 14] (fun s3 s4 s5 i wr => s3 = .slice none 0 0 ∧ s4 = .int .i64 0 ∧ s5 = .int .i64 0 ∧ i = .int .i64 0 ∧ wr = w1) (fun _ _ _ _ _ => 0)
  case atStart => exact ⟨rfl, rfl, rfl, rfl, rfl⟩
  case round =>
    obtain ⟨rfl, rfl, rfl, rfl, rfl⟩ := hrel
    go_wp2_with fail
    go_loopw [74] (fun i wx => i = .int .i64 0 ∧ wx = wr) (fun _ _ => 0)
    case atStart => exact ⟨rfl, rfl⟩
    case round =>
      obtain ⟨rfl, rfl⟩ := hrel
      go_wp2_with (go_at_call 22; refine (LN.out _).mono ?_; rintro e w2 ⟨rfl, rfl⟩)
      go_loopw [3, 96] (fun s3 i wx => s3 = .slice none 0 0 ∧ i = .int .i64 0 ∧ wx = wr) (fun _ _ _ => 0)
      case atStart => exact ⟨rfl, rfl, rfl⟩
      case round =>
        obtain ⟨rfl, rfl, rfl⟩ := hrel
        go_wp2_with fail
        go_ret
        exact ⟨rfl, B1.out⟩
end Go.Proofs.Ythbhbcakiaaapaa
