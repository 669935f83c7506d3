/- The calls that come in to BitsPlays, read out of memory. -/
import Derived.Test.YtladmlhpemhahaaBPlays
import Derived.ProofKit
import Derived.OpenShut
import Derived.Deep.Slices
import Derived.Deep.Fields
namespace Go.Proofs.Ytladmlhpemhahaa
open Go.RowKit Go.ChangeShapes Go.WideShapes Go.Deep
set_option linter.unusedVariables false

theorem cells_act : Try.prog.cellsOf 29 = 4 := by kernel_rfl
theorem cells_u8 : Try.prog.cellsOf 5 = 1 := by kernel_rfl
theorem cells_ints : Try.prog.cellsOf 26 = 1 := by kernel_rfl
theorem cells_u64 : Try.prog.cellsOf 27 = 1 := by kernel_rfl
theorem cells_int : Try.prog.cellsOf 3 = 1 := by kernel_rfl
theorem act_fields : (match Try.prog.underlying 29 with | some (.struct fs) => fs.map (fun f => (f.type, f.offset)) | _ => #[]) = #[(5, 0), (26, 1), (27, 2), (3, 3)] := by kernel_rfl
theorem acts_open {H : Type} {enc : TypeId × Value → H} {W : World} {fuel : Nat} {a0 : Option Addr} {n c : Nat} {x : DataW H × List MemPlace}
    (h : DataW.trod enc Try.prog W 0 (fun _ => true) true fuel 22 [.slice a0 n c] = some x) : ActsAt W a0 n ∧ n ≤ c ∧ c ≤ maxLen := by
  rcases open_slice Try.underlying22 h with ⟨hcs, _⟩ | ⟨a, len, cap, m, fu, D, Pl, hcs, _, hl, hm, hmm, _, hi⟩
  · simp only [List.cons.injEq, Value.slice.injEq, and_true] at hcs
    obtain ⟨rfl, rfl, rfl⟩ := hcs
    exact ⟨fun h0 => absurd h0 (by omega), Nat.le_refl _, Nat.zero_le _⟩
  · simp only [List.cons.injEq, Value.slice.injEq, and_true] at hcs
    obtain ⟨rfl, rfl, rfl⟩ := hcs
    refine ⟨fun h0 => ?_, hl, hm⟩
    have hnm : n ≤ m := by rw [hmm]; split <;> omega
    rw [cells_act] at hi
    have hf := act_fields
    have el : ∀ i, i < n → ∃ (d : Int) (A : Option Addr) (l k : Nat) (zs : List Int) (y : Int) (q : Int), W.cell? (a.add (i * 4)) = some (.int .u8 d) ∧ W.cell? ((a.add (i * 4)).add 1) = some (.slice A l k) ∧ W.cell? ((a.add (i * 4)).add 2) = some (.int .u64 y) ∧ W.cell? ((a.add (i * 4)).add 3) = some (.int .i64 q) ∧
        (Lit.int .u8 d).wf = true ∧ (Lit.int .u64 y).wf = true ∧ (Lit.int .i64 q).wf = true ∧
        ((A = none ∧ l = 0 ∧ k = 0 ∧ zs = []) ∨ ∃ x, A = some x ∧ l ≤ k ∧ k ≤ maxLen ∧ zs.length = k ∧ (∀ i, i < zs.length → W.cell? (x.add i) = some (.int .i64 (zs.getD i 0))) ∧ ∀ n ∈ zs, (Lit.int .i64 n).wf = true) := fun i hin => by
      obtain ⟨cs', hc, ht⟩ := hi i (by omega)
      obtain ⟨_, hcl, hat⟩ := World.cells?_some hc
      obtain ⟨fs, hfs⟩ : ∃ fs, Try.prog.underlying 29 = some (.struct fs) := ⟨_, Try.underlying29⟩
      rw [hfs] at hf
      obtain ⟨ys, nn, _, _, _, hyl, hg⟩ := DataW.trod_struct hfs ht
      have hsz : fs.size = 4 := by have := congrArg Array.size hf; simpa using this
      have fld : ∀ j (hj : j < 4), ∃ f, fs[j]? = some f ∧ (f.type, f.offset) = (#[(5, 0), (26, 1), (27, 2), (3, 3)] : Array (Nat × Nat)).getD j (0, 0) := fun j hj => by
        refine ⟨fs[j]'(by omega), Array.getElem?_eq_getElem (by omega), ?_⟩
        have h1 := congrArg (fun (q : Array (Nat × Nat)) => q[j]?) hf
        simp only [Array.getElem?_map, Array.getElem?_eq_getElem (show j < fs.size by omega), Option.map_some] at h1
        rw [Array.getD_eq_getD_getElem?, ← h1]; rfl
      obtain ⟨f0, g0, t0⟩ := fld 0 (by omega)
      obtain ⟨f1, g1, t1⟩ := fld 1 (by omega)
      obtain ⟨f2, g2, t2⟩ := fld 2 (by omega)
      obtain ⟨f3, g3, t3⟩ := fld 3 (by omega)
      have a0 : f0.type = 5 := congrArg Prod.fst t0
      have b0 : f0.offset = 0 := congrArg Prod.snd t0
      have a1 : f1.type = 26 := congrArg Prod.fst t1
      have b1 : f1.offset = 1 := congrArg Prod.snd t1
      have a2 : f2.type = 27 := congrArg Prod.fst t2
      have b2 : f2.offset = 2 := congrArg Prod.snd t2
      have a3 : f3.type = 3 := congrArg Prod.fst t3
      have b3 : f3.offset = 3 := congrArg Prod.snd t3
      match cs', hcl with
      | [v0, v1, v2, v3], _ =>
        have u0 := hg 0 f0 g0
        have u1 := hg 1 f1 g1
        have u2 := hg 2 f2 g2
        have u3 := hg 3 f3 g3
        rw [a0, b0] at u0
        rw [a1, b1] at u1
        rw [a2, b2] at u2
        rw [a3, b3] at u3
        have y0 : ys[0]? = some (ys[0]'(by omega)) := List.getElem?_eq_getElem (by omega)
        have y1 : ys[1]? = some (ys[1]'(by omega)) := List.getElem?_eq_getElem (by omega)
        have y2 : ys[2]? = some (ys[2]'(by omega)) := List.getElem?_eq_getElem (by omega)
        have y3 : ys[3]? = some (ys[3]'(by omega)) := List.getElem?_eq_getElem (by omega)
        rw [y0] at u0
        rw [y1] at u1
        rw [y2] at u2
        rw [y3] at u3
        have w0 : DataW.trod enc Try.prog W 0 (fun _ => true) true nn 5 [v0] = some (ys[0]'(by omega)) := u0
        have w1 : DataW.trod enc Try.prog W 0 (fun _ => true) true nn 26 [v1] = some (ys[1]'(by omega)) := u1
        have w2 : DataW.trod enc Try.prog W 0 (fun _ => true) true nn 27 [v2] = some (ys[2]'(by omega)) := u2
        have w3 : DataW.trod enc Try.prog W 0 (fun _ => true) true nn 3 [v3] = some (ys[3]'(by omega)) := u3
        obtain ⟨d, e0, _, wf0⟩ := DataW.trod_int Try.underlying5 w0
        obtain ⟨y, e2, _, wf2⟩ := DataW.trod_int Try.underlying27 w2
        obtain ⟨q, e3, _, wf3⟩ := DataW.trod_int Try.underlying3 w3
        simp only [List.cons.injEq, and_true] at e0 e2 e3
        subst e0 e2 e3
        have c0 := hat 0 (by omega)
        have c1 := hat 1 (by omega)
        have c2 := hat 2 (by omega)
        have c3 := hat 3 (by omega)
        have c0' : W.cell? (a.add (i * 4)) = some (.int .u8 d) := by simpa [Addr.add] using c0
        rcases open_ints Try.underlying26 Try.underlying3 (by kernel_rfl) w1 with ⟨hcs, _⟩ | ⟨xx, l, k, zs, hcs, _, hl2, hm2, hz, _, hcell, hwz⟩
        · simp only [List.cons.injEq, and_true] at hcs
          subst hcs
          exact ⟨d, none, 0, 0, [], y, q, c0', c1, c2, c3, wf0, wf2, wf3, .inl ⟨rfl, rfl, rfl, rfl⟩⟩
        · simp only [List.cons.injEq, and_true] at hcs
          subst hcs
          exact ⟨d, some xx, l, k, zs, y, q, c0', c1, c2, c3, wf0, wf2, wf3, .inr ⟨xx, rfl, hl2, hm2, by simpa using hz, hcell, hwz⟩⟩
    obtain ⟨b, o, sp⟩ := a
    obtain ⟨d, _, _, _, _, _, _, hc0, _⟩ := el 0 h0
    obtain rfl : sp = none := by simpa [Addr.add] using World.cell?_spot hc0
    have hadd : ∀ j k : Nat, (⟨b, j, none⟩ : Addr).add k = ⟨b, j + k, none⟩ := fun j k => by unfold Addr.add; split <;> simp_all
    refine ⟨b, o, rfl, by have := World.block_lt_of_cell? _ _ hc0; simpa [Addr.add] using this, fun i hin => ?_⟩
    obtain ⟨d, A, l, k, zs, y, q, c0, c1, c2, c3, wf0, wf2, wf3, hr⟩ := el i hin
    rw [hadd] at c0 c1 c2 c3
    rw [hadd] at c1 c2 c3
    obtain ⟨r1, r2, r3, _⟩ := row_i64 hr
    obtain ⟨d', rfl, hd⟩ : ∃ n : Nat, d = (n : Int) ∧ n < 256 := by
      simp [Lit.wf, IntKind.min, IntKind.max, IntKind.bits, IntKind.signed] at wf0
      exact ⟨d.toNat, by omega, by omega⟩
    obtain ⟨y', rfl, hy⟩ : ∃ n : Nat, y = (n : Int) ∧ n < 2 ^ 64 := by
      simp [Lit.wf, IntKind.min, IntKind.max, IntKind.bits, IntKind.signed] at wf2
      exact ⟨y.toNat, by omega, by omega⟩
    refine ⟨d', y', q, A, l, k, zs.take l, c0, c1, c2, c3, hd, hy, ?_, r1, r2, r3⟩
    simp [Lit.wf, IntKind.min, IntKind.max, IntKind.bits, IntKind.signed] at wf3
    omega
end Go.Proofs.Ytladmlhpemhahaa
