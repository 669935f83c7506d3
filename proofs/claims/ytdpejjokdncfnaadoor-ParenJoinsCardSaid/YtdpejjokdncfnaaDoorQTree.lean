/- treeOf. -/
import Derived.Test.YtdpejjokdncfnaaDoorQFun
import Derived.Laws.CopyOwn
namespace Go.Proofs.YtdpejjokdncfnaaDoor
open Go.RowKit
set_option linter.unusedVariables false
set_option maxRecDepth 20000
theorem made_nodes (M : Nat) : madeCells #[.int .i32 0, .int .i32 0] (M * 2) = ndArr (fun _ => (0, 0)) M := by
  apply Array.ext
  · simp [madeCells, ndArr]; omega
  · intro i h1 h2
    have h : i % 2 = 0 ∨ i % 2 = 1 := by omega
    rcases h with h | h <;> simp [madeCells, ndArr, h]
theorem info_node2 : (Tryd.prog.info? 82).map (fun i => (i.zero, i.size, i.bytes)) = some (some (.agg #[.int .i32 0, .int .i32 0]), 2, 8) := by kernel_rfl
theorem run_make_nodes (t : TypeId) (ht : Tryd.prog.underlying t = some (.slice 82)) (M : Nat) (hM : M ≤ 100000) (w : World) :
    (Instr.makeSlice t (.int .i64 (M : Int)) (.int .i64 (M : Int))).run Tryd.prog w = .ok (.slice (some ⟨w.heap.size, 0, none⟩) M M) (w.alloc (.cells (ndArr (fun _ => (0, 0)) M) 82)) := by
  obtain ⟨i, hi, hz, hs, hb⟩ : ∃ i, Tryd.prog.info? 82 = some i ∧ i.zero = some (.agg #[.int .i32 0, .int .i32 0]) ∧ i.size = 2 ∧ i.bytes = 8 := by
    have := info_node2
    cases h : Tryd.prog.info? 82 with
    | none => rw [h] at this; simp at this
    | some i => rw [h] at this; simp at this; exact ⟨i, rfl, this.1, this.2.1, this.2.2⟩
  have hr := run_make (P := Tryd.prog) w t 82 i _ ht hi hz .i64 .i64 M M (by omega) (Int.le_refl _) (by rw [hb]; omega) (by omega)
  simp only [Int.toNat_natCast, hs] at hr
  rw [hr, show (Value.agg #[.int .i32 0, .int .i32 0]).cells = #[.int .i32 0, .int .i32 0] from rfl, made_nodes]
theorem run_copy_rowN {P : Program} (w : World) (dT sT ty elem : TypeId) (g o dLen dCap : Nat) (a : Addr) (sLen sCap sz : Nat) (cur : Array Value) (t : TypeId) (cs : List Value)
    (hu : P.underlying dT = some (.slice elem)) (hs : (P.info? elem).map (·.size) = some sz)
    (hg : w.heap[g]? = some (.cells cur t (0, 0))) (hn : cs.length = Nat.min sLen dLen * sz)
    (hsrc : ∀ j v, cs[j]? = some v → w.cell? (a.add j) = some v) (hfit : o + cs.length ≤ cur.size) (h1 : ∀ v ∈ cs, v.oneCell' = true) :
    (Builtin.copy_ #[dT, sT] ty #[.slice (some ⟨g, o, none⟩) dLen dCap, .slice (some a) sLen sCap]).run P w =
      .ok (goInt (Nat.min sLen dLen)) (w.setRow g (cur.toList.take o ++ cs ++ cur.toList.drop (o + cs.length)).toArray) := by
  have hl := run_loadCells_list (P := P) w a cs hsrc
  have hst := run_storeCells_at P g o t cs 0 cur w hg (by simpa using hfit) h1
  cases hq : P.info? elem with
  | none => simp [hq] at hs
  | some i =>
    have hi : i.size = sz := by simpa [hq] using hs
    simp [Builtin.copy_, run_underlying hu, Builtin.lenOf, Builtin.firstCells, sizeOf, typeInfo, hq, hi, ← hn, hl, hst]
/-- Nodes laid over others, from the o-th on. -/
def laid (U T : Nat → Int × Int) (o B : Nat) : Nat → Int × Int := fun k => if k < o then U k else if k < o + B then T (k - o) else U k
theorem laid_arr (U T : Nat → Int × Int) (M o B : Nat) (h : o + B ≤ M) :
    ((ndArr U M).toList.take (o * 2) ++ (ndArr T B).toList ++ (ndArr U M).toList.drop (o * 2 + (ndArr T B).toList.length)).toArray = ndArr (laid U T o B) M := by
  have hl : (ndArr T B).toList.length = 2 * B := by simp [ndArr]
  rw [hl]
  apply Array.ext'
  simp only []
  apply List.ext_getElem?
  intro i
  have hU : ∀ (X : Nat → Int × Int) (m i : Nat), (ndArr X m).toList[i]? = if i < 2 * m then some (Value.int .i32 (if i % 2 = 0 then (X (i / 2)).1 else (X (i / 2)).2)) else none := by
    intro X m i
    by_cases hi : i < 2 * m
    · rw [if_pos hi]; simp [ndArr, hi]
    · rw [if_neg hi]; simp [ndArr, Nat.le_of_not_lt hi]
  have e1 : ((ndArr U M).toList.take (o * 2)).length = o * 2 := by rw [List.length_take, Array.length_toList, ndArr_size]; omega
  rw [hU, List.append_assoc]
  by_cases h1 : i < o * 2
  · rw [List.getElem?_append_left (by rw [e1]; exact h1), List.getElem?_take, if_pos h1, hU, if_pos (show i < 2 * M by omega), if_pos (show i < 2 * M by omega)]
    have : i / 2 < o := by omega
    simp [laid, this]
  · rw [List.getElem?_append_right (by rw [e1]; omega), e1]
    by_cases h2 : i < o * 2 + 2 * B
    · rw [List.getElem?_append_left (by rw [hl]; omega), hU, if_pos (show i - o * 2 < 2 * B by omega), if_pos (show i < 2 * M by omega)]
      have k1 : ¬ i / 2 < o := by omega
      have k2 : i / 2 < o + B := by omega
      have k3 : (i - o * 2) / 2 = i / 2 - o := by omega
      have k4 : (i - o * 2) % 2 = i % 2 := by omega
      simp [laid, k1, k2, k3, k4]
    · rw [List.getElem?_append_right (by rw [hl]; omega), hl, List.getElem?_drop, hU]
      have k1 : ¬ i / 2 < o := by omega
      have k2 : ¬ i / 2 < o + B := by omega
      rw [show o * 2 + 2 * B + (i - o * 2 - 2 * B) = i by omega]
      simp [laid, k1, k2]
theorem wpList_copy_nodes {w : World} {ops : Array Oper} {rest : List Oper} {o : Oper} {a : Act} {Q : Exit → Act → World → Prop} (hgd : o.guard = none) (d s : Operand) (dT sT : TypeId)
    (ho : o.op = .call { callee := .builtin .copy, args := #[d, s], argTypes := #[dT, sT] }) (hu : Tryd.prog.underlying dT = some (.slice 82))
    (g off dLen dCap bb B sCap M : Nat) (hd : a.eval d = .slice (some ⟨g, off * 2, none⟩) dLen dCap) (hs : a.eval s = .slice (some ⟨bb, 0, none⟩) B sCap)
    (U T : Nat → Int × Int) (hg : Blk w g 82 (ndArr U M)) (hb : Blk w bb 82 (ndArr T B)) (hle : B ≤ dLen) (hfit : off + B ≤ M)
    (h : ∀ w', Hid (Blk w' g 82 (ndArr (laid U T off B) M)) → Hid (Mod (fun i => i = g) w w') → wpList Tryd.prog ops Q rest (a.put o.dst (.int .i64 (B : Int))) w') :
    wpList Tryd.prog ops Q (o :: rest) a w := by
  refine wpList_plain hgd fun K hK => ?_
  have hmin : Nat.min B dLen = B := Nat.min_eq_left hle
  have hrun := run_copy_rowN (P := Tryd.prog) w dT sT o.type 82 g (off * 2) dLen dCap ⟨bb, 0, none⟩ B sCap 2 (ndArr U M) 82 (ndArr T B).toList hu info_node hg
    (by rw [hmin, Array.length_toList, ndArr_size]; omega)
    (fun j v hj => by
      have e : (⟨bb, 0, none⟩ : Addr).add j = ⟨bb, j, none⟩ := by unfold Addr.add; split <;> simp_all
      rw [e, hb.cell]; simpa using hj)
    (by rw [Array.length_toList, ndArr_size, ndArr_size]; omega)
    (fun v hv => by
      simp only [ndArr, List.mem_map, List.mem_range] at hv
      obtain ⟨j, _, rfl⟩ := hv
      rfl)
  rw [hmin, laid_arr U T M off B hfit] at hrun
  have hh := h (w.setRow g (ndArr (laid U T off B) M)) (setRow_heap w g _ _ _ _ hg) ⟨rfl, rfl, rfl, by simp [World.setRow], fun k hk hn => setRow_other w g k _ hn⟩
  unfold Oper.wp
  simp [execOp, ho, resolve, invoke, builtin, hd, hs, hrun, Result.andThen]
  exact hK _ _ hh
end Go.Proofs.YtdpejjokdncfnaaDoor
