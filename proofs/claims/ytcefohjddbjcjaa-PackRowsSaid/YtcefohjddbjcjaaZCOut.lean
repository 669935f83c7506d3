/- A code that is written: a bit goes out, and what waits. -/
import Derived.Test.YtcefohjddbjcjaaZg4
import Derived.Test.YtcefohjddbjcjaaZBOfG
namespace Go.Proofs.Ytcefohjddbjcjaa
set_option maxRecDepth 20000
open Go.RowKit
set_option linter.unusedVariables false

/-- At o lies an output of these bits, and so many wait; all of it within S. -/
def OutS (w : World) (S : Nat → Prop) (o : Nat) (l : List Nat) (n : Nat) : Prop :=
  ∃ g A, Blk w o 80 #[.pointer (some ⟨g, 0, none⟩), .int .i64 (n : Int)] ∧ VecAt w g (val l) l.length A ∧ ¬ foot g A o ∧ S o ∧ ∀ i, foot g A i → S i
theorem OutS.mod {w w' : World} {S T : Nat → Prop} {o : Nat} {l : List Nat} {n : Nat} (h : OutS w S o l n) (m : Mod T w w') (hs : ∀ i, i < w.heap.size → S i → ¬ T i) : OutS w' S o l n := by
  obtain ⟨g, A, hb, hv, hf, so, sf⟩ := h
  exact ⟨g, A, hb.mod m (hs o hb.lt so), hv.mod m (fun i hi => hs i (hv.foot_lt hi) (sf i hi)), hf, so, sf⟩
theorem OutS.lt {w : World} {S : Nat → Prop} {o : Nat} {l : List Nat} {n : Nat} (h : OutS w S o l n) : o < w.heap.size := by
  obtain ⟨g, A, hb, _⟩ := h; exact hb.lt
theorem OutS.isS {w : World} {S : Nat → Prop} {o : Nat} {l : List Nat} {n : Nat} (h : OutS w S o l n) : S o := by
  obtain ⟨g, A, hb, _, _, so, _⟩ := h; exact so
/-- One bit behind, as the program's text does it: a slice of one is made. -/
theorem add1_p (g : Nat) (l : List Nat) (A : Option Addr) (b : Nat) (w : World) (hv : VecAt w g (val l) l.length A) (hb : b < 2) (hn : l.length + 65 ≤ 1000000) :
    Calls Try.prog 27 #[.pointer (some ⟨g, 0, none⟩), .slice (some ⟨w.heap.size, 0, none⟩) 1 1] (w.alloc (.cells #[.int .i64 (b : Int)] 3)) fun e w' =>
      e = .returned (.tuple #[]) ∧ ∃ A', VecAt w' g (val (l ++ [b])) (l ++ [b]).length A' ∧ Mod (foot g A) w w' ∧ (A' = A ∨ ∃ b, A' = some ⟨b, 0, none⟩ ∧ w.heap.size ≤ b) := by
  have hvA := VecB.below hv ((Below.refl w.heap.size w).alloc (Nat.le_refl _) (.cells #[.int .i64 (b : Int)] 3))
  have r5 := Rd.new w 3 #[.int .i64 (b : Int)] 1 (I64 [(b : Int)]) (by simp [I64]) (by simp)
  refine (add_p g l A (some ⟨w.heap.size, 0, none⟩) 1 1 [(b : Int)] _ hvA (r5.up (by simp)) (fun i hi hf => by
        obtain ⟨a, e, rfl⟩ := hi
        cases e
        exact absurd (VecB.foot_lt hv hf) (Nat.lt_irrefl _)) (by omega)).mono ?_
  rintro e w' ⟨rfl, A', h1, m, h2⟩
  have hb1 : [(b : Int)].map bit1 = [b] := by
    have := bit1_ofN (l := [b]) (fun x hx => by rw [List.mem_singleton.1 hx]; exact hb)
    simpa [ofNB] using this
  rw [hb1] at h1
  refine ⟨rfl, A', h1, ⟨m.os, m.tape, m.output, Nat.le_trans (by simp) m.size, fun k hk hn => ?_⟩, ?_⟩
  · exact (m.block k (by simp; omega) hn).trans (Below.heap_alloc _ _ _ hk)
  · rcases h2 with rfl | ⟨b', rfl, hb'⟩
    · exact .inl rfl
    · exact .inr ⟨b', rfl, Nat.le_trans (by simp) hb'⟩
set_option maxHeartbeats 1000000 in
theorem put_p (o : Nat) (S : Nat → Prop) (l : List Nat) (n b : Nat) (w : World) (h : OutS w S o l n) (hS : ∀ i, w.heap.size ≤ i → S i) (hb : b < 2) (hn : l.length + n + 66 ≤ 1000000) :
    Calls Try.prog 62 #[.pointer (some ⟨o, 0, none⟩), .int .i64 (b : Int)] w fun e w' => e = .returned (.tuple #[]) ∧ OutS w' S o (l ++ b :: List.replicate n (1 - b)) 0 ∧ Mod S w w' := by
  obtain ⟨g, A, h1, h2, hf, so, sf⟩ := h
  have c0 : w.cell? ⟨o, 0, none⟩ = some (.pointer (some ⟨g, 0, none⟩)) := Blk.cell h1 0
  have AD := Lib.hid (add1_p g l A b w h2 hb (by omega))
  have H1 := Lib.hid h1
  have H2 := Lib.hid h2
  have SF := Lib.hid sf
  have SO := Lib.hid so
  have HS := Lib.hid hS
  have HF := Lib.hid hf
  have HB := Lib.hid hb
  clear h1 h2 sf so hS hf
  go_enter Try.func62, Try.ntmps62
  go_wp2_with fail
  refine AD.out.mono ?_
  rintro e w1 ⟨rfl, A1, hv1, m1, ha1⟩
  have hB1 : Blk w1 o 80 #[.pointer (some ⟨g, 0, none⟩), .int .i64 (n : Int)] := H1.out.mod m1 HF.out
  have c1 : w1.cell? ⟨o, 1, none⟩ = some (.int .i64 (n : Int)) := Blk.cell hB1 1
  have fo1 : ∀ i, foot g A1 i → foot g A i ∨ w.heap.size ≤ i := by
    rintro i (rfl | ⟨b', rfl, rfl⟩)
    · exact .inl (.inl rfl)
    · rcases ha1 with e | ⟨b2, e, h⟩
      · exact .inl (.inr ⟨_, e.symm, rfl⟩)
      · cases e; exact .inr h
  have HB1 := Lib.hid hB1
  have HV1 := Lib.hid hv1
  have M1 : Hid (Mod S w w1) := m1.mono fun i _ hi => SF.out i hi
  have F1 : Hid (¬ foot g A1 o ∧ ∀ i, foot g A1 i → S i) := ⟨fun h => (fo1 o h).elim HF.out (fun h => by have := H1.out.lt; omega), fun i hi => (fo1 i hi).elim (SF.out i) (HS.out i)⟩
  clear AD hB1 hv1 m1 ha1 fo1 c0 H2
  go_wp2_with fail
  go_loopw [15] (fun i wr => ∃ (k : Nat) (Ak : Option Addr), k ≤ n ∧ i = .int .i64 (k : Int) ∧ Hid (Blk wr o 80 #[.pointer (some ⟨g, 0, none⟩), .int .i64 (n : Int)]) ∧ Hid (VecAt wr g (val (l ++ b :: List.replicate k (1 - b))) (l ++ b :: List.replicate k (1 - b)).length Ak) ∧ Hid (Mod S w wr) ∧ Hid (¬ foot g Ak o ∧ ∀ i, foot g Ak i → S i)) (fun i _ => n - (intOf i).toNat)
  case atStart => exact ⟨0, A1, by omega, rfl, HB1, HV1, M1, F1⟩
  case round =>
    clear c1 HB1 HV1 M1 F1
    obtain ⟨k, Ak, hk, rfl, HBk, HVk, MK, FK⟩ := hrel
    by_cases hlt : k < n
    · have c0 : wr.cell? ⟨o, 0, none⟩ = some (.pointer (some ⟨g, 0, none⟩)) := Blk.cell HBk.out 0
      have AD := Lib.hid (add1_p g _ Ak (1 - b) wr HVk.out (by omega) (by simp; omega))
      have hsub : (1 : Int) - (b : Int) = ((1 - b : Nat) : Int) := by omega
      have hwr : IntKind.i64.wrap ((1 : Int) - (b : Int)) = ((1 - b : Nat) : Int) := by rw [hsub]; simp [IntKind.wrap, IntKind.signed, IntKind.bits]; omega
      obtain ⟨y, hy⟩ : ∃ y, y = 1 - b := ⟨_, rfl⟩
      have NX : Hid (l ++ b :: List.replicate (k + 1) (1 - b) = (l ++ b :: List.replicate k (1 - b)) ++ [1 - b]) := by
        show _ = _; rw [List.replicate_succ']; simp
      rw [← hy] at hsub hwr AD
      have HY := Lib.hid hy
      clear hy
      go_wp2_with fail
      refine AD.out.mono ?_
      rintro e w2 ⟨rfl, A2, hv2, m2, ha2⟩
      have fo2 : ∀ i, foot g A2 i → foot g Ak i ∨ wr.heap.size ≤ i := by
        rintro i (rfl | ⟨b', rfl, rfl⟩)
        · exact .inl (.inl rfl)
        · rcases ha2 with e | ⟨b2, e, h⟩
          · exact .inl (.inr ⟨_, e.symm, rfl⟩)
          · cases e; exact .inr h
      have hB2 := HBk.out.mod m2 FK.out.1
      have M2 : Hid (Mod S w w2) := MK.out.trans m2 fun i _ hi => FK.out.2 i hi
      have F2 : Hid (¬ foot g A2 o ∧ ∀ i, foot g A2 i → S i) := ⟨fun h => (fo2 o h).elim FK.out.1 (fun h => by have := HBk.out.lt; omega), fun i hi => (fo2 i hi).elim (FK.out.2 i) (fun h => HS.out i (Nat.le_trans MK.out.size h))⟩
      have HB2 := Lib.hid hB2
      have HV2 := Lib.hid hv2
      clear hB2 hv2 m2 ha2 fo2
      go_wp2_with fail
      go_roundw
      case rel => exact ⟨k + 1, A2, by omega, by go_num, HB2, by rw [NX.out, ← HY.out]; exact HV2, M2, F2⟩
      case measure => simp [intOf]; omega
    · obtain rfl : k = n := by omega
      have f1 := Blk.frozen HBk.out 1
      have c1 : wr.cell? ⟨o, 1, none⟩ = some (.int .i64 (k : Int)) := Blk.cell HBk.out 1
      go_wp2_with fail
      refine bodyPost_end (results_none rfl _ _ _) rfl ⟨rfl, ⟨g, Ak, ?_, ?_, FK.out.1, SO.out, FK.out.2⟩, MK.out.setCell (fun _ => SO.out) _⟩
      · have := HBk.out.set_ 1 (.int .i64 ((0 : Nat) : Int))
        simpa using this
      · exact VecB.mod HVk.out (Mod.setCell (p := ⟨o, 1, none⟩) (Mod.refl (fun i => i = o) _) (fun _ => rfl) _) (fun i hi e => FK.out.1 (e ▸ hi))
/-- A way that a span was doubled, told to a code that is written. -/
theorem ofollow_p (o : Nat) (S : Nat → Prop) (l : List Nat) (n k : Nat) (w : World) (h : OutS w S o l n) (hS : ∀ i, w.heap.size ≤ i → S i) (hk : k ≤ 2) (hn : l.length + n + 66 ≤ 1000000) :
    Calls Try.prog 53 #[.pointer (some ⟨o, 0, none⟩), .int .i64 (k : Int)] w fun e w' => e = .returned (.tuple #[]) ∧ OutS w' S o (tellE (l, n) k).1 (tellE (l, n) k).2 ∧ Mod S w w' := by
  have P0 := Lib.hid (put_p o S l n 0 w h hS (by decide) hn)
  have P1 := Lib.hid (put_p o S l n 1 w h hS (by decide) hn)
  rcases (by omega : k = 0 ∨ k = 1 ∨ k = 2) with rfl | rfl | rfl
  · clear h hS P1
    go_enter Try.func53, Try.ntmps53
    go_wp2_with fail
    refine P0.out.mono ?_
    rintro e w1 ⟨rfl, h1, m1⟩
    have H1 := Lib.hid h1
    have M1 := Lib.hid m1
    clear h1 m1
    go_wp2_with fail
    exact bodyPost_end (results_none rfl _ _ _) rfl ⟨rfl, H1.out, M1.out⟩
  · obtain ⟨g, A, h1, h2, hf, so, sf⟩ := h
    have c1 : w.cell? ⟨o, 1, none⟩ = some (.int .i64 (n : Int)) := Blk.cell h1 1
    have f1 := Blk.frozen h1 1
    have H1 := Lib.hid h1
    have H2 := Lib.hid h2
    have SF := Lib.hid sf
    have SO := Lib.hid so
    have HF := Lib.hid hf
    have h19 : n ≤ 1000000 := by omega
    clear hS P0 P1 h1 h2 hf so sf hn
    go_enter Try.func53, Try.ntmps53
    go_wp2_with fail
    refine bodyPost_end (results_none rfl _ _ _) rfl ⟨rfl, ⟨g, A, ?_, ?_, HF.out, SO.out, SF.out⟩, (Mod.refl S w).setCell (fun _ => SO.out) _⟩
    · have := H1.out.set_ 1 (.int .i64 ((n + 1 : Nat) : Int))
      simpa [tellE] using this
    · exact VecB.mod H2.out (Mod.setCell (p := ⟨o, 1, none⟩) (Mod.refl (fun i => i = o) _) (fun _ => rfl) _) (fun i hi e => HF.out (e ▸ hi))
  · clear h hS P0
    go_enter Try.func53, Try.ntmps53
    go_wp2_with fail
    refine P1.out.mono ?_
    rintro e w1 ⟨rfl, h1, m1⟩
    have H1 := Lib.hid h1
    have M1 := Lib.hid m1
    clear h1 m1
    go_wp2_with fail
    exact bodyPost_end (results_none rfl _ _ _) rfl ⟨rfl, H1.out, M1.out⟩
/-- The end of a code. -/
theorem oend_p (o : Nat) (S : Nat → Prop) (l : List Nat) (n lo : Nat) (w : World) (h : OutS w S o l n) (hS : ∀ i, w.heap.size ≤ i → S i) (hn : l.length + n + 67 ≤ 1000000) :
    Calls Try.prog 55 #[.pointer (some ⟨o, 0, none⟩), .int .u64 (lo : Int)] w fun e w' => e = .returned (.tuple #[]) ∧ OutS w' S o (fin (l, n) lo) 0 ∧ Mod S w w' := by
  obtain ⟨g, A, h1, h2, hf, so, sf⟩ := h
  have c1 : w.cell? ⟨o, 1, none⟩ = some (.int .i64 (n : Int)) := Blk.cell h1 1
  have f1 := Blk.frozen h1 1
  have h19 : n ≤ 1000000 := by omega
  have hm1 : Mod S w (w.setCell ⟨o, 1, none⟩ (.int .i64 ((n + 1 : Nat) : Int))) := (Mod.refl S w).setCell (fun _ => so) _
  have ho1 : OutS (w.setCell ⟨o, 1, none⟩ (.int .i64 ((n + 1 : Nat) : Int))) S o l (n + 1) := by
    refine ⟨g, A, ?_, ?_, hf, so, sf⟩
    · have := h1.set_ 1 (.int .i64 ((n + 1 : Nat) : Int))
      simpa using this
    · exact VecB.mod h2 (Mod.setCell (p := ⟨o, 1, none⟩) (Mod.refl (fun i => i = o) _) (fun _ => rfl) _) (fun i hi e => hf (e ▸ hi))
  have P0 := Lib.hid (put_p o S l (n + 1) 0 _ ho1 (fun i hi => hS i (Nat.le_trans hm1.size hi)) (by decide) (by omega))
  have P1 := Lib.hid (put_p o S l (n + 1) 1 _ ho1 (fun i hi => hS i (Nat.le_trans hm1.size hi)) (by decide) (by omega))
  have M1 := Lib.hid hm1
  clear h1 h2 hf so sf hS hm1 ho1 hn
  by_cases hl : lo < 1073741824
  · rw [fin, if_pos hl]
    have hl2 : (lo : Int) < 1073741824 := by omega
    go_enter Try.func55, Try.ntmps55
    go_wp2_with fail
    refine P0.out.mono ?_
    rintro e w1 ⟨rfl, h1, m1⟩
    have H1 := Lib.hid h1
    have M2 := Lib.hid (M1.out.trans m1 fun _ _ => id)
    clear h1 m1 P0 P1
    go_wp2_with fail
    exact bodyPost_end (results_none rfl _ _ _) rfl ⟨rfl, H1.out, M2.out⟩
  · rw [fin, if_neg hl]
    have hl2 : ¬ (lo : Int) < 1073741824 := by omega
    go_enter Try.func55, Try.ntmps55
    go_wp2_with fail
    refine P1.out.mono ?_
    rintro e w1 ⟨rfl, h1, m1⟩
    have H1 := Lib.hid h1
    have M2 := Lib.hid (M1.out.trans m1 fun _ _ => id)
    clear h1 m1 P0 P1
    go_wp2_with fail
    exact bodyPost_end (results_none rfl _ _ _) rfl ⟨rfl, H1.out, M2.out⟩
end Go.Proofs.Ytcefohjddbjcjaa
