/- Doubles, Simple, Triangulation of euler: the walks. -/
import Derived.Test.YtpplhooojfchpaaEDbl
import Derived.Test.YtpplhooojfchpaaEGen
import Derived.Deep.RegionWith
namespace Go.Proofs.Ytpplhooojfchpaa
set_option maxRecDepth 20000
open Go.RowKit Go.Maps
set_option linter.unusedVariables false
theorem prN_le (l : List Nat) (a c k : Nat) : prN l a c k ≤ k := num_le _ _
set_option maxHeartbeats 4000000 in
theorem doubles_p (g : Nat) (l b : List Nat) (root lone : Int) (w : World) (h : MapAt w g l b root lone) :
    Calls Try.prog 27 #[.pointer (some ⟨g, 0, none⟩)] w fun e w' => e = .returned (.int .i64 (dblN l (l.length / 2) : Int)) ∧ Below w.heap.size w w' := by
  have hle := h.2.1
  have hinv : Inv l b := by obtain ⟨_, _, p, A, c, S, d, q, A', c', S', d', hb, hp, _⟩ := h; exact hp.1
  have HM : Hid (∀ w', Below w.heap.size w w' → MapAt w' g l b root lone) := fun w' m => h.below m
  have HNL : Hid (∀ x, x < l.length → nameOf l x ≤ 1000000) := fun x hx => by
    have h1 := name_lt hinv hx
    have h2 := sizes_le l
    rw [sizes_len] at h2
    omega
  have hmm := @run_makeMap Try.prog
  have hba := (Below.refl w.heap.size w).alloc (Nat.le_refl _) (.map #[] 0)
  have EP := Lib.hid (edges_p g l b root lone _ (HM.out _ hba))
  have OW0 : Hid (OwnP (w.alloc (.map #[] 0)) w.heap.size 0 (.map [])) := World.ownsMap_made _ _ _ _
  have HBA := Lib.hid hba
  have HZ : Hid (0 = dblN l 0) := rfl
  obtain ⟨n, hn⟩ : ∃ n, n = l.length / 2 := ⟨_, rfl⟩
  rw [← hn] at EP ⊢
  have hn2 : 2 * n ≤ l.length := by omega
  clear h hn hinv hba
  go_enter Try.func27, Try.ntmps27
  go_wp2_with fail
  refine EP.out.mono ?_
  rintro e w1 ⟨rfl, hb1⟩
  have OW1 := Lib.hid (pown_below OW0.out hb1)
  have HB1 := Lib.hid (HBA.out.trans (hb1.mono HBA.out.size))
  clear hb1 OW0 HBA EP
  go_wp2_with fail
  go_loopw [3, 10] (fun s3 i wr => ∃ (k p : Nat) (D : DataW Unit), k ≤ n ∧ p ≤ k ∧ s3 = .int .i64 (p : Int) ∧ i = .int .i64 (k : Int) ∧ Hid (p = dblN l k) ∧ Hid (PM D l k) ∧ Hid (OwnP wr w.heap.size k D) ∧ Hid (Below w.heap.size w wr)) (fun _ i _ => n - (intOf i).toNat)
  case atStart => exact ⟨0, 0, .map [], by omega, by omega, rfl, rfl, HZ, PM.zero l, OW1, HB1⟩
  case round =>
    clear OW1 HB1
    obtain ⟨k, p, D, hk, hpk, rfl, rfl, HP, HPM, HO, HB⟩ := hrel
    by_cases hkn : k = n
    · subst hkn
      have hdk : decide (k < k) = false := by simp
      go_wp2_with fail
      go_ret
      exact ⟨by rw [← HP.out]; rfl, HB.out⟩
    · have hlt : k < n := by omega
      have hdk : decide (k < n) = true := by rw [decide_eq_true_iff]; exact hlt
      have EN := Lib.hid (ends_p g l b root lone k wr (HM.out _ HB.out) (by omega))
      have NX := Lib.hid (num_next (fun e => lowE l e ≠ highE l e ∧ 0 < prN l (lowE l e) (highE l e) e) k)
      have hxl : lowE l k ≤ 1000000 := by have := HNL.out (2 * k) (by omega); unfold lowE; omega
      have hyl : highE l k ≤ 1000000 := by have := HNL.out (2 * k) (by omega); have := HNL.out (2 * k + 1) (by omega); unfold highE; omega
      obtain ⟨x, hx⟩ : ∃ x, x = lowE l k := ⟨_, rfl⟩
      obtain ⟨y, hy⟩ : ∃ y, y = highE l k := ⟨_, rfl⟩
      rw [← hx, ← hy] at EN NX
      rw [← hx] at hxl
      rw [← hy] at hyl
      have HX := Lib.hid hx
      have HY := Lib.hid hy
      clear hx hy
      have LP := Lib.hid (fun W => isLoop_p x y W)
      have hsr := HB.out.size
      by_cases he : x = y
      · have hd : decide (x = y) = true := by simp [he]
        rw [hd] at LP
        have NX2 := Lib.hid (NX.out.2 (fun c => c.1 he))
        have PM2 := Lib.hid (HPM.out.loop (by rw [← HX.out, ← HY.out]; exact he))
        clear he hd
        go_wp2_with (first
          | (go_at_call 47; refine EN.out.mono ?_; rintro e w2 ⟨rfl, hb2⟩; have O2 := Lib.hid ((pown_below HO.out hb2).alloc (.cells #[.int .i64 (x : Int), .int .i64 (y : Int)] 67)); have B2 := Lib.hid ((HB.out.trans (hb2.mono hsr)).alloc (show w.heap.size ≤ w2.heap.size by have := hb2.size; omega) (.cells #[.int .i64 (x : Int), .int .i64 (y : Int)] 67)))
          | (go_at_call 48; refine (LP.out _).mono ?_; rintro e w3 ⟨rfl, hb3⟩; have O3 := Lib.hid (pown_below O2.out hb3); have B3 := Lib.hid (B2.out.trans (hb3.mono B2.out.size))))
        go_roundw
        case rel => exact ⟨k + 1, p, D, by omega, by omega, rfl, by go_num, by show _ = _; unfold dblN at HP ⊢; rw [NX2.out, HP.out], PM2, World.ownsMap.mono O3.out (by omega), B3⟩
        case measure => simp [intOf]; omega
      · have hd : decide (x = y) = false := by simp [he]
        rw [hd] at LP
        have HNE := Lib.hid he
        obtain ⟨q, hq⟩ : ∃ q, q = prN l x y k := ⟨_, rfl⟩
        have hql : q ≤ 500000 := by have := prN_le l x y k; omega
        have HQ := Lib.hid hq
        have HLK : Hid (∀ W : World, OwnP W w.heap.size k D → (Instr.lookup 69 (.map (some w.heap.size)) (.agg #[.int .i64 (x : Int), .int .i64 (y : Int)]) false).run Try.prog W = .ok (.int .i64 (q : Int)) W) := fun W O => by rw [HQ.out]; exact look_p O HPM.out hxl hyl HNE.out
        have HEN : Hid (∀ W : World, OwnP W w.heap.size k D → ∃ (v0 : Value) (st : Nat) (w1 w2 : World), (Instr.mapEntry 69 (.map (some w.heap.size)) (.agg #[.int .i64 (x : Int), .int .i64 (y : Int)])).run Try.prog W = .ok (.tuple #[v0, goInt st]) w1 ∧ (Instr.lookup 69 (.map (some w.heap.size)) (.agg #[.int .i64 (x : Int), .int .i64 (y : Int)]) false).run Try.prog w1 = .ok (.int .i64 (q : Int)) w1 ∧ (Instr.entryStore 69 (.map (some w.heap.size)) (goInt st) (.int .i64 ((q : Int) + 1))).run Try.prog w1 = .ok () w2 ∧ OwnP w2 w.heap.size (k + 1) (D.put (kP x y) (.lit (.int .i64 ((q : Int) + 1)))) ∧ W.grownBy w2 (some w.heap.size) ∧ W.grownBy w1 (some w.heap.size)) := fun W O =>
          own_entry O (by simp only [maxLen]; omega) (pkey x y hxl hyl) (HLK.out W O) (plainElem_int Try.underlying3 (by have := wf_small (q + 1) (by omega); rwa [Int.natCast_add] at this))
        have PM2 := Lib.hid (HPM.out.step HX.out HY.out hxl hyl hq)
        by_cases h0 : 0 < q
        · have NX2 := Lib.hid (NX.out.1 ⟨HNE.out, by rw [← HQ.out]; exact h0⟩)
          clear he hd hq
          go_wp2_with (first
            | (go_at_call 47; refine EN.out.mono ?_; rintro e w2 ⟨rfl, hb2⟩; have O2 := Lib.hid ((pown_below HO.out hb2).alloc (.cells #[.int .i64 (x : Int), .int .i64 (y : Int)] 67)); have B2 := Lib.hid ((HB.out.trans (hb2.mono hsr)).alloc (show w.heap.size ≤ w2.heap.size by have := hb2.size; omega) (.cells #[.int .i64 (x : Int), .int .i64 (y : Int)] 67)); have X2 := Lib.hid (Blk.new w2 67 #[.int .i64 (x : Int), .int .i64 (y : Int)]))
            | (go_at_call 48; refine (LP.out _).mono ?_; rintro e w3 ⟨rfl, hb3⟩; have O3 := Lib.hid (pown_below O2.out hb3); have B3 := Lib.hid (B2.out.trans (hb3.mono B2.out.size)); have X3 := X2.out.below hb3; have xc0 : w3.cell? ⟨w2.heap.size, 0, none⟩ = some (.int .i64 (x : Int)) := X3.cell 0; have xc1 : w3.cell? ⟨w2.heap.size, 1, none⟩ = some (.int .i64 (y : Int)) := X3.cell 1; have lk := HLK.out _ O3.out; have X3H := Lib.hid X3; clear X3))
          clear lk
          have lkd := HLK.out w3.drew (World.ownsMap.drew O3.out)
          obtain ⟨v0, st, w4, w5, en, lk2, es, O5, G5, G4⟩ := HEN.out w3.drew (World.ownsMap.drew O3.out)
          have xd0 : w3.drew.cell? ⟨w2.heap.size, 0, none⟩ = some (.int .i64 (x : Int)) := xc0
          have xd1 : w3.drew.cell? ⟨w2.heap.size, 1, none⟩ = some (.int .i64 (y : Int)) := xc1
          have B5 := Lib.hid (B3.out.drew.trans ((Mod.ofGrown G5).belowB B3.out.drew.size (fun i hi e => absurd hi (by cases e; exact Nat.lt_irrefl _))))
          have HO5 := Lib.hid O5
          have es2 : (Instr.entryStore 69 (.map (some w.heap.size)) (.int .i64 (st : Int)) (.int .i64 ((q : Int) + 1))).run Try.prog w4 = .ok () w5 := es
          clear O5 G5 G4 es
          have wq : IntKind.i64.wrap ((q : Int) + 1) = (q : Int) + 1 := by simp [IntKind.wrap, IntKind.signed, IntKind.bits]; omega
          go_region_with (fail)
          all_goals (
            go_wp2_with fail
            go_roundw
            case rel => exact ⟨k + 1, p + 1, _, by omega, by omega, by go_num, by go_num, by show _ = _; unfold dblN at HP ⊢; rw [NX2.out, HP.out], PM2, HO5, B5⟩
            case measure => simp [intOf]; omega)
        · have NX2 := Lib.hid (NX.out.2 (fun c => h0 (by rw [HQ.out]; exact c.2)))
          have hq0 : ¬ (0 < (q : Int)) := by omega
          clear he hd hq
          go_wp2_with (first
            | (go_at_call 47; refine EN.out.mono ?_; rintro e w2 ⟨rfl, hb2⟩; have O2 := Lib.hid ((pown_below HO.out hb2).alloc (.cells #[.int .i64 (x : Int), .int .i64 (y : Int)] 67)); have B2 := Lib.hid ((HB.out.trans (hb2.mono hsr)).alloc (show w.heap.size ≤ w2.heap.size by have := hb2.size; omega) (.cells #[.int .i64 (x : Int), .int .i64 (y : Int)] 67)); have X2 := Lib.hid (Blk.new w2 67 #[.int .i64 (x : Int), .int .i64 (y : Int)]))
            | (go_at_call 48; refine (LP.out _).mono ?_; rintro e w3 ⟨rfl, hb3⟩; have O3 := Lib.hid (pown_below O2.out hb3); have B3 := Lib.hid (B2.out.trans (hb3.mono B2.out.size)); have X3 := X2.out.below hb3; have xc0 : w3.cell? ⟨w2.heap.size, 0, none⟩ = some (.int .i64 (x : Int)) := X3.cell 0; have xc1 : w3.cell? ⟨w2.heap.size, 1, none⟩ = some (.int .i64 (y : Int)) := X3.cell 1; have lk := HLK.out _ O3.out; have X3H := Lib.hid X3; clear X3))
          clear lk
          have lkd := HLK.out w3.drew (World.ownsMap.drew O3.out)
          obtain ⟨v0, st, w4, w5, en, lk2, es, O5, G5, G4⟩ := HEN.out w3.drew (World.ownsMap.drew O3.out)
          have xd0 : w3.drew.cell? ⟨w2.heap.size, 0, none⟩ = some (.int .i64 (x : Int)) := xc0
          have xd1 : w3.drew.cell? ⟨w2.heap.size, 1, none⟩ = some (.int .i64 (y : Int)) := xc1
          have B5 := Lib.hid (B3.out.drew.trans ((Mod.ofGrown G5).belowB B3.out.drew.size (fun i hi e => absurd hi (by cases e; exact Nat.lt_irrefl _))))
          have HO5 := Lib.hid O5
          have es2 : (Instr.entryStore 69 (.map (some w.heap.size)) (.int .i64 (st : Int)) (.int .i64 ((q : Int) + 1))).run Try.prog w4 = .ok () w5 := es
          clear O5 G5 G4 es
          have wq : IntKind.i64.wrap ((q : Int) + 1) = (q : Int) + 1 := by simp [IntKind.wrap, IntKind.signed, IntKind.bits]; omega
          go_region_with (fail)
          all_goals (
            go_wp2_with fail
            go_roundw
            case rel => exact ⟨k + 1, p, _, by omega, by omega, rfl, by go_num, by show _ = _; unfold dblN at HP ⊢; rw [NX2.out, HP.out], PM2, HO5, B5⟩
            case measure => simp [intOf]; omega)
theorem simple_p (g : Nat) (l b : List Nat) (root lone : Int) (w : World) (h : MapAt w g l b root lone) :
    Calls Try.prog 28 #[.pointer (some ⟨g, 0, none⟩)] w fun e w' => e = .returned (.bool (decide (loopsN l (l.length / 2) = 0 ∧ dblN l (l.length / 2) = 0))) ∧ Below w.heap.size w w' := by
  have LP := Lib.hid (loops_p g l b root lone w h)
  have DP : Hid (∀ w', Below w.heap.size w w' → Calls Try.prog 27 #[.pointer (some ⟨g, 0, none⟩)] w' fun e w'' => e = .returned (.int .i64 (dblN l (l.length / 2) : Int)) ∧ Below w'.heap.size w' w'') := fun w' m => doubles_p g l b root lone w' (h.below m)
  generalize loopsN l (l.length / 2) = c at *
  generalize dblN l (l.length / 2) = d at *
  clear h
  by_cases hc : c = 0
  · have e1 : ((c : Int) == 0) = true := by rw [beq_iff_eq]; omega
    have e2 : ((d : Int) == 0) = decide (c = 0 ∧ d = 0) := by
      by_cases hd : d = 0
      · rw [decide_eq_true ⟨hc, hd⟩, beq_iff_eq]; omega
      · rw [decide_eq_false (fun x => hd x.2), beq_eq_false_iff_ne]; omega
    have HE2 := Lib.hid e2
    clear e2 hc
    generalize decide (c = 0 ∧ d = 0) = r at *
    go_enter Try.func28, Try.ntmps28
    go_wp2_with fail
    refine LP.out.mono ?_
    rintro e w1 ⟨rfl, hb1⟩
    go_wp2_with fail
    refine (DP.out _ hb1).mono ?_
    rintro e w2 ⟨rfl, hb2⟩
    have e2 := HE2.out
    have B := Lib.hid (hb1.trans (hb2.mono hb1.size))
    go_wp2_with fail
    go_ret
    exact ⟨rfl, B.out⟩
  · have e1 : ((c : Int) == 0) = false := by rw [beq_eq_false_iff_ne]; omega
    have e2 : decide (c = 0 ∧ d = 0) = false := decide_eq_false fun x => hc x.1
    rw [e2]
    clear e2 hc
    go_enter Try.func28, Try.ntmps28
    go_wp2_with fail
    refine LP.out.mono ?_
    rintro e w1 ⟨rfl, hb1⟩
    go_wp2_with fail
    go_ret
    exact ⟨rfl, hb1⟩
/-- Is a map a triangulation. -/
def TriangN (l : List Nat) (lone : Nat) : Prop := pN l + lone = 1 ∧ 3 ≤ (sizes l).length + lone ∧ (∀ d, d < l.length → Tri l d) ∧ genusN l = 0 ∧ loopsN l (l.length / 2) = 0 ∧ dblN l (l.length / 2) = 0
def BoolPost (P : Prop) (w : World) (e : Ending) (w' : World) : Prop := ∃ r : Bool, e = .returned (.bool r) ∧ (r = true ↔ P) ∧ Below w.heap.size w w'
theorem BoolPost.yes {P : Prop} {w w' : World} {e : Ending} (he : e = .returned (.bool true)) (h : P) (hb : Below w.heap.size w w') : BoolPost P w e w' := ⟨true, he, ⟨fun _ => h, fun _ => rfl⟩, hb⟩
theorem BoolPost.no {P : Prop} {w w' : World} {e : Ending} (he : e = .returned (.bool false)) (h : ¬ P) (hb : Below w.heap.size w w') : BoolPost P w e w' := ⟨false, he, ⟨fun c => (by cases c), fun c => absurd c h⟩, hb⟩
theorem triang_p (g : Nat) (l b : List Nat) (root : Int) (lone : Nat) (w : World) (h : MapAt w g l b root lone) :
    Calls Try.prog 29 #[.pointer (some ⟨g, 0, none⟩)] w (BoolPost (TriangN l lone) w) := by
  have CP := Lib.hid (connected_p g l b root lone w h)
  have VP : Hid (∀ w', Below w.heap.size w w' → Calls Try.prog 16 #[.pointer (some ⟨g, 0, none⟩)] w' fun e w'' => e = .returned (.int .i64 (((sizes l).length : Int) + (lone : Int))) ∧ Below w'.heap.size w' w'') := fun w' m => vertices_p g l b root lone w' (h.below m)
  have TP : Hid (∀ w', Below w.heap.size w w' → Calls Try.prog 49 #[.pointer (some ⟨g, 0, none⟩)] w' (TriPost w' l)) := fun w' m => triangles_p g l b root lone w' (h.below m)
  have PP : Hid (∀ w', Below w.heap.size w w' → Calls Try.prog 24 #[.pointer (some ⟨g, 0, none⟩)] w' fun e w'' => e = .returned (.bool (decide (genusN l = 0))) ∧ Below w'.heap.size w' w'') := fun w' m => planar_p g l b root lone w' (h.below m)
  have SP : Hid (∀ w', Below w.heap.size w w' → Calls Try.prog 28 #[.pointer (some ⟨g, 0, none⟩)] w' fun e w'' => e = .returned (.bool (decide (loopsN l (l.length / 2) = 0 ∧ dblN l (l.length / 2) = 0))) ∧ Below w'.heap.size w' w'') := fun w' m => simple_p g l b root lone w' (h.below m)
  have HT : Hid (∀ P1 P2 P3 P4 P5 : Prop, (P1 ↔ pN l + lone = 1) → (P2 ↔ 3 ≤ (sizes l).length + lone) → (P3 ↔ ∀ d, d < l.length → Tri l d) → (P4 ↔ genusN l = 0) → (P5 ↔ (loopsN l (l.length / 2) = 0 ∧ dblN l (l.length / 2) = 0)) → (TriangN l lone ↔ P1 ∧ P2 ∧ P3 ∧ P4 ∧ P5)) := fun P1 P2 P3 P4 P5 e1 e2 e3 e4 e5 => by rw [e1, e2, e3, e4, e5]; exact Iff.rfl
  obtain ⟨b1, hb1⟩ : ∃ b1, b1 = decide (pN l + lone = 1) := ⟨_, rfl⟩
  obtain ⟨b4, hb4⟩ : ∃ b4, b4 = decide (genusN l = 0) := ⟨_, rfl⟩
  obtain ⟨b5, hb5⟩ : ∃ b5, b5 = decide (loopsN l (l.length / 2) = 0 ∧ dblN l (l.length / 2) = 0) := ⟨_, rfl⟩
  rw [← hb1] at CP
  rw [← hb4] at PP
  rw [← hb5] at SP
  have H1 : Hid (b1 = true ↔ pN l + lone = 1) := by show _ ↔ _; rw [hb1, decide_eq_true_iff]
  have H4 : Hid (b4 = true ↔ genusN l = 0) := by show _ ↔ _; rw [hb4, decide_eq_true_iff]
  have H5 : Hid (b5 = true ↔ (loopsN l (l.length / 2) = 0 ∧ dblN l (l.length / 2) = 0)) := by show _ ↔ _; rw [hb5, decide_eq_true_iff]
  have hsl := sizes_le l
  have hll := h.2.1
  have hlo := h.1.2.2
  obtain ⟨nv, hnv⟩ : ∃ nv, nv = (sizes l).length := ⟨_, rfl⟩
  rw [← hnv] at VP hsl
  have HNV := Lib.hid hnv
  have HTT := Lib.hid (HT.out (b1 = true) (3 ≤ (sizes l).length + lone) (∀ d, d < l.length → Tri l d) (b4 = true) (b5 = true) H1.out Iff.rfl Iff.rfl H4.out H5.out)
  clear h hb1 hb4 hb5 HT H1 H4 H5 hnv
  cases b1 with
  | false =>
    go_enter Try.func29, Try.ntmps29
    go_wp2_with fail
    refine CP.out.mono ?_
    rintro e w1 ⟨rfl, z1⟩
    go_wp2_with fail
    go_ret
    exact .no rfl (fun c => by have := (HTT.out.1 c).1; cases this) z1
  | true =>
    go_enter Try.func29, Try.ntmps29
    go_wp2_with fail
    refine CP.out.mono ?_
    rintro e w1 ⟨rfl, z1⟩
    go_wp2_with fail
    refine (VP.out _ z1).mono ?_
    rintro e w2 ⟨rfl, z2⟩
    have Z2 := z1.trans (z2.mono z1.size)
    clear z2
    by_cases h3 : 3 ≤ nv + lone
    · have h3i : (3 : Int) ≤ (nv : Int) + (lone : Int) := by omega
      go_wp2_with fail
      refine (TP.out _ Z2).mono ?_
      rintro e w3 ⟨r3, rfl, hr3, z3⟩
      have Z3 := Z2.trans (z3.mono Z2.size)
      have HR3 := Lib.hid hr3
      clear z3 hr3
      cases r3 with
      | false =>
        go_wp2_with fail
        go_ret
        exact .no rfl (fun c => by have := HR3.out.2 (HTT.out.1 c).2.2.1; cases this) Z3
      | true =>
        go_wp2_with fail
        refine (PP.out _ Z3).mono ?_
        rintro e w4 ⟨rfl, z4⟩
        have Z4 := Z3.trans (z4.mono Z3.size)
        clear z4
        cases b4 with
        | false =>
          go_wp2_with fail
          go_ret
          exact .no rfl (fun c => by have := (HTT.out.1 c).2.2.2.1; cases this) Z4
        | true =>
          go_wp2_with fail
          refine (SP.out _ Z4).mono ?_
          rintro e w5 ⟨rfl, z5⟩
          have Z5 := Lib.hid (Z4.trans (z5.mono Z4.size))
          clear z5
          go_wp2_with fail
          go_ret
          cases b5 with
          | false => exact .no rfl (fun c => by have := (HTT.out.1 c).2.2.2.2; cases this) Z5.out
          | true => exact .yes rfl (HTT.out.2 ⟨by first | rfl | trivial, by rw [← HNV.out]; exact h3, HR3.out.1 (by first | rfl | trivial), by first | rfl | trivial, by first | rfl | trivial⟩) Z5.out
    · have h3i : ¬ ((3 : Int) ≤ (nv : Int) + (lone : Int)) := by omega
      have Z2' := Lib.hid Z2
      go_wp2_with fail
      go_ret
      exact .no rfl (fun c => h3 (by rw [HNV.out]; exact (HTT.out.1 c).2.1)) Z2'.out
/-! ### of nil -/
theorem parts_nil (w : World) : Calls Try.prog 11 #[.pointer none] w fun e w' => e = .returned (.slice none 0 0) ∧ Below w.heap.size w w' := by
  have EN := Lib.hid (enames_nil w)
  have LN := Lib.hid (fun W => lone_nil W)
  go_enter Try.func11, Try.ntmps11
  go_wp2_with fail
  refine EN.out.mono ?_
  rintro e w1 ⟨An, cn, rfl, hcn, hmn, hownn, hb1⟩
  have B1 := Lib.hid hb1
  clear hownn hb1
  go_wp2_with fail
  go_loopw [3, 4, 5, 14] (fun s3 s4 s5 i wr => s3 = .slice none 0 0 ∧ s4 = .int .i64 0 ∧ s5 = .int .i64 0 ∧ i = .int .i64 0 ∧ wr = w1) (fun _ _ _ _ _ => 0)
  case atStart => exact ⟨rfl, rfl, rfl, rfl, rfl⟩
  case round =>
    obtain ⟨rfl, rfl, rfl, rfl, rfl⟩ := hrel
    go_wp2_with fail
    go_loopw [74] (fun i wx => i = .int .i64 0 ∧ wx = wr) (fun _ _ => 0)
    case atStart => exact ⟨rfl, rfl⟩
    case round =>
      obtain ⟨rfl, rfl⟩ := hrel
      go_wp2_with (go_at_call 19; refine (LN.out _).mono ?_; rintro e w2 ⟨rfl, rfl⟩)
      go_loopw [3, 96] (fun s3 i wx => s3 = .slice none 0 0 ∧ i = .int .i64 0 ∧ wx = wr) (fun _ _ _ => 0)
      case atStart => exact ⟨rfl, rfl, rfl⟩
      case round =>
        obtain ⟨rfl, rfl, rfl⟩ := hrel
        go_wp2_with fail
        go_ret
        exact ⟨rfl, B1.out⟩
end Go.Proofs.Ytpplhooojfchpaa
