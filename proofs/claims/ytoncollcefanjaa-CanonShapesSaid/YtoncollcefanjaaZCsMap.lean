/- How darts are sorted by what they look like alone: the map, and mathematics. -/
import Derived.Test.YtoncollcefanjaaZg18
namespace Go.Proofs.Ytoncollcefanjaa
set_option maxRecDepth 20000
open Go.RowKit Go.Maps
set_option linter.unusedVariables false
set_option linter.unusedSimpArgs false
def kQ (a c : Nat) : Lit := .string (keyBytes [.int .i64 (a : Int), .int .i64 (c : Int)])
theorem qdeep : Try.prog.keyType 116 = true := by kernel_rfl
theorem qcells : Try.prog.cellsOf 116 = 2 := by kernel_rfl
theorem qkey (a c : Nat) (ha : a ≤ 1000000) (hc : c ≤ 1000000) : keyOf Try.prog 116 (.agg #[.int .i64 (a : Int), .int .i64 (c : Int)]) = some (kQ a c) := by
  have hd := qdeep
  obtain ⟨m, hm⟩ : ∃ m, Try.prog.types.size = m + 1 := ⟨Try.prog.types.size - 1, by kernel_rfl⟩
  have wf : ∀ a : Nat, a ≤ 1000000 → (Lit.int .i64 (a : Int)).wf = true := fun a h => by simp [Lit.wf, IntKind.min, IntKind.max, IntKind.bits, IntKind.signed]; omega
  have ic : Try.prog.cellsOf 3 = 1 := by kernel_rfl
  unfold keyOf
  simp only [Try.underlying116]
  rw [if_pos (by simp [hd, Value.formed, Try.underlying116, qcells]), hm]
  unfold Program.keyLits
  simp only [Try.underlying116, Value.cells]
  rw [if_pos (by rw [qcells]; exact ⟨rfl, by simp⟩)]
  simp [Program.keyLits, ic, Try.underlying3, wf a ha, wf c hc, kQ]
theorem qrow : (116 : TypeId) < Try.prog.types.size := of_decide_eq_true (by kernel_rfl)
theorem qwide : (match Try.prog.underlying 116 with | some (.array _ _) | some (.struct _) => true | _ => false) = true := by rw [Try.underlying116]
theorem qlaw : Keyed Try.prog 116 := Keyed.of_law (deep_law_laid (by kernel_rfl) (m := 3) (by omega) qrow (by kernel_rfl) qwide)
theorem qzero (w : World) : (zeroValue 3).run Try.prog w = .ok (.int .i64 0) w := by kernel_rfl
theorem kQ_inj {a c a' c' : Nat} (ha : a ≤ 1000000) (hc : c ≤ 1000000) (ha' : a' ≤ 1000000) (hc' : c' ≤ 1000000) (e : kQ a c = kQ a' c') : a = a' ∧ c = c' := by
  have := qlaw.inj (qkey a c ha hc) (by rw [e]; exact qkey a' c' ha' hc')
  simp at this
  omega
theorem kQ_key (a c : Nat) (ha : a ≤ 1000000) (hc : c ≤ 1000000) : WideAt.IsKeyLit (kQ a c) := qlaw.key (qkey a c ha hc)
abbrev OwnQ (w : World) (g n : Nat) (D : DataW Unit) : Prop := w.ownsMap Try.prog 116 (plainElem Try.prog 3) g n D
/-- The map tells the sorts of the first k darts by their looks. -/
structure LMk (M : DataW Unit) (kd kb : Nat → Nat) (O : List Nat) (k : Nat) : Prop where
  tidy : Tidy M
  yes : ∀ x, x < k → Maps.has M (kQ (kd x) (kb x)) = true ∧ M.atKey (kQ (kd x) (kb x)) (.lit (.int .i64 0)) = .lit (.int .i64 ((O.getD x 0 : Nat) : Int))
  no : ∀ a c, a ≤ 1000000 → c ≤ 1000000 → (∀ x, x < k → ¬ (kd x = a ∧ kb x = c)) → Maps.has M (kQ a c) = false ∧ M.atKey (kQ a c) (.lit (.int .i64 0)) = .lit (.int .i64 0)
theorem LMk.zero (kd kb : Nat → Nat) (O : List Nat) : LMk (.map []) kd kb O 0 := ⟨tidy_empty, fun x hx => absurd hx (by omega), fun a c _ _ _ => ⟨by simp [Maps.has], by simp [DataW.atKey]⟩⟩
/-- A dart of looks that were there: its sort is known. -/
theorem LMk.old {M : DataW Unit} {kd kb : Nat → Nat} {O : List Nat} {k x : Nat} (h : LMk M kd kb O k) (hx : x < k) (h1 : kd x = kd k) (h2 : kb x = kb k) (hk : k < O.length) : LMk M kd kb (O.set k (O.getD x 0)) (k + 1) :=
  ⟨h.tidy, fun y hy => by
    rw [getDN_set _ _ _ _ hk]
    by_cases e : y = k
    · rw [if_pos e, e, ← h1, ← h2]; exact h.yes x hx
    · rw [if_neg e]; exact h.yes y (by omega), fun a c ha hc hn => h.no a c ha hc fun y hy => hn y (by omega)⟩
theorem LMk.new {M : DataW Unit} {kd kb : Nat → Nat} {O : List Nat} {k : Nat} (h : LMk M kd kb O k) (hkd : ∀ x, x ≤ k → kd x ≤ 1000000) (hkb : ∀ x, x ≤ k → kb x ≤ 1000000) (hk : k < O.length) (hn : ∀ x, x < k → ¬ (kd x = kd k ∧ kb x = kb k)) (s : Nat) :
    LMk (M.put (kQ (kd k) (kb k)) (.lit (.int .i64 (s : Int)))) kd kb (O.set k s) (k + 1) :=
  ⟨h.tidy.put (kQ_key _ _ (hkd k (Nat.le_refl _)) (hkb k (Nat.le_refl _))) _, fun y hy => by
    rw [getDN_set _ _ _ _ hk]
    by_cases e : y = k
    · rw [if_pos e, e, has_put_same h.tidy.isMap (kQ_key _ _ (hkd k (Nat.le_refl _)) (hkb k (Nat.le_refl _))), atKey_put_same h.tidy.isMap (kQ_key _ _ (hkd k (Nat.le_refl _)) (hkb k (Nat.le_refl _)))]
      exact ⟨rfl, rfl⟩
    · rw [if_neg e]
      have hne : kQ (kd y) (kb y) ≠ kQ (kd k) (kb k) := fun c => hn y (by omega) (kQ_inj (hkd y (by omega)) (hkb y (by omega)) (hkd k (Nat.le_refl _)) (hkb k (Nat.le_refl _)) c)
      rw [has_put_other hne, atKey_put_other hne]
      exact h.yes y (by omega), fun a c ha hc hq => by
    have hne : kQ a c ≠ kQ (kd k) (kb k) := fun e => by
      obtain ⟨h1, h2⟩ := kQ_inj ha hc (hkd k (Nat.le_refl _)) (hkb k (Nat.le_refl _)) e
      exact hq k (by omega) ⟨h1.symm, h2.symm⟩
    rw [has_put_other hne, atKey_put_other hne]
    exact h.no a c ha hc fun y hy => hq y (by omega)⟩
theorem look_q {w : World} {g n a c : Nat} {M : DataW Unit} (h : OwnQ w g n M) (ha : a ≤ 1000000) (hc : c ≤ 1000000) {b : Bool} {v : Nat} (hb : Maps.has M (kQ a c) = b) (hat : M.atKey (kQ a c) (.lit (.int .i64 0)) = .lit (.int .i64 (v : Int))) :
    (Instr.lookup 114 (.map (some g)) (.agg #[.int .i64 (a : Int), .int .i64 (c : Int)]) true).run Try.prog w = .ok (.tuple #[.int .i64 (v : Int), .bool b]) w := by
  obtain ⟨u, ps, hrun, hu⟩ := World.ownsMap.look_ok h qlaw Try.underlying114 (qzero _) (plainElem_int Try.underlying3 (by decide)) (qkey a c ha hc)
  rw [hat] at hu
  rw [hb] at hrun
  obtain ⟨c, rfl, hc, _⟩ := plainElem_int_inv Try.underlying3 hu
  simp only [Prod.mk.injEq, DataW.lit.injEq, Lit.int.injEq, true_and] at hc
  rw [hc.1]; exact hrun
theorem put_q {w : World} {g n : Nat} {M : DataW Unit} (h : OwnQ w g n M) (hn : n < 1000000) (a c : Nat) (ha : a ≤ 1000000) (hc : c ≤ 1000000) (s : Nat) (hs : s ≤ 1000000) :
    ∃ w', (Instr.mapUpdate 114 (.map (some g)) (.agg #[.int .i64 (a : Int), .int .i64 (c : Int)]) (.int .i64 (s : Int))).run Try.prog w = .ok () w' ∧ OwnQ w' g (n + 1) (M.put (kQ a c) (.lit (.int .i64 (s : Int)))) ∧ w.grownBy w' (some g) :=
  World.ownsMap.update h qlaw Try.underlying114 (by unfold maxLen; omega) (qkey a c ha hc) (plainElem_int Try.underlying3 (WalkArith.wf_i64 (by omega)))
/-- The sorts of the first k darts. -/
structure So2 (n k : Nat) (kd kb : Nat → Nat) (O Z : List Nat) : Prop where
  ol : O.length = n
  lt : ∀ x, x < k → O.getD x 0 < Z.length
  eq : ∀ x y, x < k → y < k → ((kd x = kd y ∧ kb x = kb y) ↔ O.getD x 0 = O.getD y 0)
  cz : ∀ s, s < Z.length → Z.getD s 0 = ofS O s k ∧ 0 < Z.getD s 0
section
variable {n k : Nat} {kd kb : Nat → Nat} {O Z : List Nat}
theorem ofS_set (hk : k < O.length) (v s : Nat) : ofS (O.set k v) s (k + 1) = ofS O s k + if v = s then 1 else 0 := by
  have h0 : ofS (O.set k v) s k = ofS O s k := num_congr fun d hd => by rw [getDN_set _ _ _ _ hk, if_neg (by omega)]
  have e : (O.set k v).getD k 0 = v := by rw [getDN_set _ _ _ _ hk, if_pos rfl]
  by_cases c : v = s
  · rw [if_pos c, (ofS_next _ s k).1 (by rw [e, c]), h0]
  · rw [if_neg c, (ofS_next _ s k).2 (by rw [e]; exact c), h0, Nat.add_zero]
theorem So2.few (h : So2 n k kd kb O Z) : ∀ s, s < Z.length → ∃ x, x < k ∧ O.getD x 0 = s := fun s hs => by
  have := h.cz s hs
  rcases Classical.em (∃ x, x < k ∧ O.getD x 0 = s) with q | q
  · exact q
  · have : ofS O s k = 0 := num_zero fun d hd c => q ⟨d, hd, c⟩
    omega
theorem So2.old (h : So2 n k kd kb O Z) (hk : k < n) {x : Nat} (hx : x < k) (h1 : kd x = kd k) (h2 : kb x = kb k) : So2 n (k + 1) kd kb (O.set k (O.getD x 0)) (Z.set (O.getD x 0) (Z.getD (O.getD x 0) 0 + 1)) := by
  have hkl : k < O.length := by rw [h.ol]; exact hk
  have hxl := h.lt x hx
  have g : ∀ y, (O.set k (O.getD x 0)).getD y 0 = if y = k then O.getD x 0 else O.getD y 0 := fun y => getDN_set _ _ _ _ hkl
  refine ⟨by rw [List.length_set]; exact h.ol, fun y hy => ?_, fun y z hy hz => ?_, fun s hs => ?_⟩
  · rw [g, List.length_set]; split
    · exact hxl
    · exact h.lt y (by omega)
  · rw [g, g]
    by_cases e1 : y = k
    · rw [if_pos e1, e1, ← h1, ← h2]
      by_cases e2 : z = k
      · rw [if_pos e2, e2, ← h1, ← h2]; exact ⟨fun _ => rfl, fun _ => ⟨rfl, rfl⟩⟩
      · rw [if_neg e2]; exact h.eq x z hx (by omega)
    · rw [if_neg e1]
      by_cases e2 : z = k
      · rw [if_pos e2, e2, ← h1, ← h2]; exact h.eq y x (by omega) hx
      · rw [if_neg e2]; exact h.eq y z (by omega) (by omega)
  · rw [List.length_set] at hs
    rw [getDN_set _ _ _ _ hxl, ofS_set hkl]
    have := h.cz s hs
    by_cases e : s = O.getD x 0
    · rw [if_pos e, if_pos e.symm, ← e]; omega
    · rw [if_neg e, if_neg (Ne.symm e)]; omega
theorem So2.new (h : So2 n k kd kb O Z) (hk : k < n) (hn : ∀ x, x < k → ¬ (kd x = kd k ∧ kb x = kb k)) : So2 n (k + 1) kd kb (O.set k Z.length) ((Z ++ [0]).set Z.length 1) := by
  have hkl : k < O.length := by rw [h.ol]; exact hk
  have g : ∀ y, (O.set k Z.length).getD y 0 = if y = k then Z.length else O.getD y 0 := fun y => getDN_set _ _ _ _ hkl
  refine ⟨by rw [List.length_set]; exact h.ol, fun y hy => ?_, fun y z hy hz => ?_, fun s hs => ?_⟩
  · rw [g, List.length_set, List.length_append]
    have e1 : [0].length = 1 := rfl
    split
    · omega
    · have := h.lt y (by omega); omega
  · rw [g, g]
    by_cases e1 : y = k
    · rw [if_pos e1, e1]
      by_cases e2 : z = k
      · rw [if_pos e2, e2]; exact ⟨fun _ => rfl, fun _ => ⟨rfl, rfl⟩⟩
      · rw [if_neg e2]
        have := h.lt z (by omega)
        exact ⟨fun c => absurd ⟨c.1.symm, c.2.symm⟩ (hn z (by omega)), fun c => by omega⟩
    · rw [if_neg e1]
      by_cases e2 : z = k
      · rw [if_pos e2, e2]
        have := h.lt y (by omega)
        exact ⟨fun c => absurd c (hn y (by omega)), fun c => by omega⟩
      · rw [if_neg e2]; exact h.eq y z (by omega) (by omega)
  · rw [List.length_set, List.length_append] at hs
    have e1 : [0].length = 1 := rfl
    rw [getDN_set _ _ _ _ (by rw [List.length_append]; omega), ofS_set hkl, getD_snoc]
    by_cases e : s = Z.length
    · rw [if_pos e, if_pos e.symm]
      have : ofS O s k = 0 := num_zero fun d hd c => by have := h.lt d hd; omega
      omega
    · rw [if_neg e, if_neg (Ne.symm e), if_neg e]
      have := h.cz s (by omega)
      omega
end
end Go.Proofs.Ytoncollcefanjaa
