/- of: a map of numbers as a map (layer 11). The canonical map of a canonical map, and of a map with another root: mathematics. Names made of edges' names and flips: mathematics. A slice of bools that came in. made: a map of numbers, and the document's (layer 10). A map of the document's that was told into memory of its own. -/
import Derived.Test.YtoncollcefanjaaZg17
import Derived.Test.YtoncollcefanjaaZg20
import Derived.Test.YtoncollcefanjaaZDPhi
import Derived.Test.YtoncollcefanjaaZg19
import Derived.Test.YtoncollcefanjaaZg5
import Derived.Test.YtoncollcefanjaaZg2
import Derived.Test.YtoncollcefanjaaZPRef2
import Derived.Test.YtoncollcefanjaaZg16
import Derived.LaidMore
import Derived.RowKit
import Derived.Test.YtoncollcefanjaaZg1
import Derived.Test.YtoncollcefanjaaZPNames
namespace Go.Proofs.Ytoncollcefanjaa
set_option maxRecDepth 100000
open Go.RowKit
set_option linter.unusedVariables false
set_option linter.unusedSimpArgs false
set_option maxHeartbeats 2000000 in
theorem of11_p (A : Option Addr) (c : Nat) (l b : List Nat) (root lone : Int) (w : World) (h : Rd w w.heap.size A l.length (I64 (ofN l))) (hinv : Inv l b) (he : l.length % 2 = 0) (hn : l.length ≤ 1000) (hr : RootOk root l.length) (h0 : 0 ≤ lone) (h1 : lone ≤ 65536) :
    Calls Try.prog 12 #[.agg #[.slice A l.length c, .int .i64 root, .int .i64 lone]] w fun e w' => ∃ g, e = .returned (.pointer (some ⟨g, 0, none⟩)) ∧ MapAt w' g l b root lone ∧ Below w.heap.size w w' := by
  have hb0 := (Below.refl w.heap.size w).alloc (Nat.le_refl _) (.cells #[.slice A l.length c, .int .i64 root, .int .i64 lone] 26)
  have HX := Lib.hid (Blk.new w 26 #[.slice A l.length c, .int .i64 root, .int .i64 lone])
  have NO := Lib.hid (new_ok A l.length c l b root lone _ (h.more hb0) hinv he (by omega) hr h0 h1)
  have B0 := Lib.hid hb0
  have x0 := HX.out.cell 0
  have x1 := HX.out.cell 1
  have x2 := HX.out.cell 2
  simp at x0 x1 x2
  clear h hinv he hr hb0
  go_enter Try.func12, Try.ntmps12
  go_wp2_with fail
  refine NO.out.mono ?_
  rintro e w2 ⟨g, rfl, hm, b2, _⟩
  have HM := Lib.hid hm
  have B2 : Hid (Below w.heap.size w w2) := B0.out.trans (b2.mono (by simp))
  clear hm b2 NO B0
  go_wp2_with fail
  go_ret
  exact ⟨g, rfl, HM.out, B2.out⟩
end Go.Proofs.Ytoncollcefanjaa
namespace Go.Proofs.Ytoncollcefanjaa
set_option maxRecDepth 20000
open Go.RowKit
set_option linter.unusedVariables false
set_option linter.unusedSimpArgs false
theorem canO_again {l b : List Nat} {root : Int} {P Q P' Q' : List Nat} (hl : Inv l b) (h : CanO l root P Q) (h' : CanO (cjL P Q l) (reRoot P root) P' Q') :
    P' = List.range l.length ∧ cjL P' Q' (cjL P Q l) = cjL P Q l ∧ reRoot P' (reRoot P root) = reRoot P root := by
  rcases h with ⟨h0, rfl, rfl, rfl⟩ | ⟨r, rfl, hr, h⟩
  · have hl0 : l = [] := List.eq_nil_of_length_eq_zero h0
    subst hl0
    rcases h' with ⟨_, _, rfl, rfl⟩ | ⟨r, h1, _⟩
    · exact ⟨rfl, rfl, rfl⟩
    · exact absurd h1 (by show ¬ ((-1 : Int) = (r : Int)); omega)
  · rw [reRoot_nat] at h' ⊢
    rcases h' with ⟨h0, _⟩ | ⟨r', h1, hr', h'⟩
    · rw [cjL_len] at h0; omega
    · obtain rfl : sgL P r = r' := by omega
      have e := h.again h' hl hr
      refine ⟨e, h.own h' hl hr, ?_⟩
      rw [reRoot_nat, e]
      have := h.nam.lt hr
      simp [sgL, List.getD_eq_getElem?_getD] at this ⊢
      simp [this]
theorem canA_same {l b : List Nat} {r : Nat} {P Q P' Q' : List Nat} (h : CanA l r P Q) (h' : CanA l r P' Q') : P = P' ∧ Q = Q' := by
  have e : P = P' := ofN_injC (by rw [← h.is, ← h'.is])
  subst e
  exact ⟨rfl, Inv.unique h.nam.inv h'.nam.inv⟩
theorem turns_one {l b : List Nat} (hl : Inv l b) (he : l.length % 2 = 0) {r k : Nat} (hr : r < l.length) (hk : k < l.length) (h1 : num (TurnsTo l r) l.length = 1) (t : TurnsTo l r k) : k = r := by
  by_cases c : k = r
  · exact c
  · exfalso
    have e := num_mem (n := l.length) (Q := [r, k]) (by simp; omega) (by intro x hx; simp at hx; omega)
    have tr := (turns_eqv hl he).refl r hr
    have := num_inj (A := fun x => x ∈ [r, k]) (B := TurnsTo l r) (n := l.length) id (fun x hx hm => ⟨hx, by
      simp only [List.mem_cons, List.not_mem_nil, or_false] at hm
      rcases hm with rfl | rfl
      · exact tr
      · exact t⟩) (fun _ _ _ _ _ _ e => e)
    rw [e, h1] at this
    simp at this
/-- With another root, of a part that has one turn alone, it is another one. -/
theorem roots_iso {l b : List Nat} (hl : Inv l b) (he : l.length % 2 = 0) {r k : Nat} (hr : r < l.length) (hk : k < l.length) (hp : ∀ i j, i < l.length → j < l.length → part l i j) (h1 : num (TurnsTo l r) l.length = 1)
    {P Q P' Q' : List Nat} (h : CanO l (k : Int) P Q) (h' : CanO l (r : Int) P' Q') :
    (reRoot P (k : Int) = reRoot P' (r : Int) ∧ (0 : Int) = 0 ∧ cjL P Q l = cjL P' Q' l) ↔ k = r := by
  rcases h with ⟨h0, _⟩ | ⟨k2, e2, _, h⟩
  · omega
  obtain rfl : k2 = k := by omega
  rcases h' with ⟨h0, _⟩ | ⟨r2, e3, _, h'⟩
  · omega
  obtain rfl : r2 = r := by omega
  constructor
  · rintro ⟨_, _, e⟩
    obtain ⟨p, q, t⟩ := (CanN.iff (h'.one hl hr fun j hj => hp _ _ hr hj) (h.one hl hk fun j hj => hp _ _ hk hj) hl hl hr hk).1 e
    exact turns_one hl he hr hk h1 ⟨p, q, t⟩
  · rintro rfl
    obtain ⟨rfl, rfl⟩ := canA_same (b := b) h h'
    exact ⟨rfl, rfl, rfl⟩
end Go.Proofs.Ytoncollcefanjaa
namespace Go.Proofs.Ytoncollcefanjaa
set_option maxRecDepth 20000
open Go.RowKit
set_option linter.unusedVariables false
/-- The first k edges' darts have the names of the edges that P tells, as they are or flipped. -/
def Flip (P L : List Nat) (k : Nat) : Prop := L.length = 2 * k ∧ ∀ e, e < k → (L.getD (2 * e) 0 = 2 * P.getD e 0 ∧ L.getD (2 * e + 1) 0 = 2 * P.getD e 0 + 1) ∨ (L.getD (2 * e) 0 = 2 * P.getD e 0 + 1 ∧ L.getD (2 * e + 1) 0 = 2 * P.getD e 0)
theorem getD_app_lt (L X : List Nat) {i : Nat} (hi : i < L.length) : (L ++ X).getD i 0 = L.getD i 0 := by
  simp [List.getD_eq_getElem?_getD, List.getElem?_append_left hi]
theorem getD_app_0 (L : List Nat) (a b : Nat) : (L ++ [a, b]).getD L.length 0 = a := by
  simp [List.getD_eq_getElem?_getD]
theorem getD_app_1 (L : List Nat) (a b : Nat) : (L ++ [a, b]).getD (L.length + 1) 0 = b := by
  simp [List.getD_eq_getElem?_getD]
theorem Flip.next {P L : List Nat} {k a b : Nat} (h : Flip P L k) (c : (a = 2 * P.getD k 0 ∧ b = 2 * P.getD k 0 + 1) ∨ (a = 2 * P.getD k 0 + 1 ∧ b = 2 * P.getD k 0)) : Flip P (L ++ [a, b]) (k + 1) := by
  refine ⟨by rw [List.length_append, h.1]; simp; omega, fun e he => ?_⟩
  by_cases q : e = k
  · subst q
    have h1 := getD_app_0 L a b
    have h2 := getD_app_1 L a b
    rw [h.1] at h1 h2
    rw [h1, h2]; exact c
  · have h1 := h.1
    rw [getD_app_lt _ _ (by omega), getD_app_lt _ _ (by omega)]
    exact h.2 e (by omega)
theorem Flip.at_ {P L : List Nat} {k i : Nat} (h : Flip P L k) (hi : i < 2 * k) : ∃ r, r < 2 ∧ L.getD i 0 = 2 * P.getD (i / 2) 0 + r ∧ L.getD (mt i) 0 = 2 * P.getD (i / 2) 0 + (1 - r) := by
  have hc := h.2 (i / 2) (by omega)
  unfold mt
  by_cases e : i % 2 = 0
  · rw [if_pos e]
    have e1 : 2 * (i / 2) = i := by omega
    rw [e1] at hc
    rcases hc with ⟨c1, c2⟩ | ⟨c1, c2⟩
    · exact ⟨0, by omega, by omega, by omega⟩
    · exact ⟨1, by omega, by omega, by omega⟩
  · rw [if_neg e]
    have e1 : 2 * (i / 2) = i - 1 := by omega
    have e2 : i - 1 + 1 = i := by omega
    rw [e1, e2] at hc
    rcases hc with ⟨c1, c2⟩ | ⟨c1, c2⟩
    · exact ⟨1, by omega, by omega, by omega⟩
    · exact ⟨0, by omega, by omega, by omega⟩
theorem Flip.good {P PB L : List Nat} {k : Nat} (h : Flip P L k) (hP : Inv P PB) (hk : P.length = k) : Good (ofN L) := by
  intro i hi
  rw [ofN_len, h.1] at hi
  rw [ofN_len, h.1, ofN_get]
  obtain ⟨r, hr, e1, e2⟩ := h.at_ hi
  have hl := hP.lt (i / 2) (by omega)
  refine ⟨by omega, by omega, fun j hj c => ?_⟩
  rw [ofN_get] at c
  obtain ⟨s, hs, f1, f2⟩ := h.at_ (i := j) (by omega)
  have hq : P.getD (j / 2) 0 = P.getD (i / 2) 0 := by omega
  have hd := hP.inj (j / 2) (i / 2) (by omega) (by omega) hq
  have hm : mt i = j := by unfold mt; split <;> omega
  rw [hm] at e2
  omega
theorem Flip.nam {P L q : List Nat} {k n : Nat} (h : Flip P L k) (hi : Inv L q) (hn : n = 2 * k) : Nam n L q := by
  refine ⟨hi, by rw [h.1, hn], by omega, fun d hd => ?_⟩
  obtain ⟨r, hr, e1, e2⟩ := h.at_ (i := d) (by omega)
  show L.getD (mt d) 0 = mt (L.getD d 0)
  rw [e1, e2]
  unfold mt
  split <;> omega
/-- Two of them exchanged keep no mates. -/
def swp2 (L : List Nat) : List Nat := (L.set 0 (L.getD 2 0)).set 2 (L.getD 0 0)
theorem swp2_good {L : List Nat} (h : Good (ofN L)) (hl : 2 < L.length) : Good (ofN (swp2 L)) := by
  have := good_swap h (i := 0) (k := 2) (by rw [ofN_len]; omega) (by rw [ofN_len]; omega)
  rw [ofN_get, ofN_get] at this
  have hN : (((ofN L).set 0 ((L.getD 2 0 : Nat) : Int)).set 2 ((L.getD 0 0 : Nat) : Int)) = ofN (swp2 L) := by simp [ofN, List.map_set, swp2]
  rwa [hN] at this
theorem swp2_len (L : List Nat) : (swp2 L).length = L.length := by simp [swp2]
theorem swp2_no {L q q' : List Nat} {n : Nat} (h : Nam n L q) (hn : 2 < n) (hl : L.length = n) : ¬ Nam n (swp2 L) q' := by
  intro c
  have hev := h.ev
  have h0 := c.mt 0 (by omega)
  have h2 := h.mt 2 (by omega)
  have m0 : mt 0 = 1 := rfl
  have m2 : mt 2 = 3 := rfl
  rw [m0] at h0
  rw [m2] at h2
  have g0 : sgL (swp2 L) 0 = sgL L 2 := by
    unfold sgL swp2
    rw [getDN_setU _ _ _ _ (by simp; omega), if_neg (by omega), getDN_setU _ _ _ _ (by omega), if_pos rfl]
  have g1 : sgL (swp2 L) 1 = sgL L 1 := by
    unfold sgL swp2
    rw [getDN_setU _ _ _ _ (by simp; omega), if_neg (by omega), getDN_setU _ _ _ _ (by omega), if_neg (by omega)]
  rw [g0, g1, ← h2] at h0
  have := h.inv.inj 1 3 (by omega) (by omega) h0
  omega
theorem reRoot_back {n : Nat} {p q : List Nat} (h : Nam n p q) {root : Int} (hr : RootOk root n) : reRoot q (reRoot p root) = root := by
  rcases hr with ⟨h0, rfl⟩ | ⟨h0, h1, h2⟩
  · rfl
  · obtain ⟨r, rfl⟩ : ∃ r : Nat, root = (r : Int) := ⟨root.toNat, by omega⟩
    have e1 : reRoot p (r : Int) = ((sgL p r : Nat) : Int) := by
      unfold reRoot
      rw [if_neg (by omega), Int.toNat_natCast]; rfl
    rw [e1]
    unfold reRoot
    rw [if_neg (by omega), Int.toNat_natCast]
    have := h.qp (d := r) (by omega)
    show ((sgL q (sgL p r) : Nat) : Int) = r
    rw [this]
end Go.Proofs.Ytoncollcefanjaa
namespace Go.Proofs.Ytoncollcefanjaa
open Go Go.RowKit
set_option linter.unusedVariables false
/-- A slice of bools that came in: nil, or a row of cells. -/
def IsFlags (w : World) (a : Option Addr) (len cap : Nat) : Prop :=
  (a = none ∧ len = 0 ∧ cap = 0) ∨ ∃ x, a = some x ∧ len ≤ cap ∧ cap ≤ maxLen ∧ ∀ i, i < len → ∃ v : Bool, w.cell? (x.add i) = some (.bool v)
section
variable {H : Type} {enc : TypeId × Value → H} {P : Program} {w : World} {base : Nat} {sp : Nat → Bool} {held : Bool}
theorem open_flags {t e : TypeId} {fuel : Nat} {cs : List Value} {x : DataW H × List MemPlace} (ht : P.underlying t = some (.slice e)) (he : P.underlying e = some .bool) (hc : P.cellsOf e = 1)
    (h : DataW.trod enc P w base sp held fuel t cs = some x) :
    cs = [.slice none 0 0] ∨ ∃ a len cap, cs = [.slice (some a) len cap] ∧ len ≤ cap ∧ cap ≤ maxLen ∧ ∀ i, i < len → ∃ v : Bool, w.cell? (a.add i) = some (.bool v) := by
  rcases DataW.trod_slice ht h with ⟨hx, _⟩ | ⟨a, len, cap, elems, rest, n, _, hcs, hx, _, hl, hm, hlen, hel, _⟩
  · exact .inl hx
  · refine .inr ⟨a, len, cap, hcs, hl, hm, fun i hi => ?_⟩
    have hE := hel i hi
    rw [hc, Nat.mul_one] at hE
    have hi' : i < elems.length := by omega
    rw [List.getElem?_eq_getElem hi'] at hE
    generalize elems[i] = y at hE
    simp only [Option.bind_eq_some_iff] at hE
    obtain ⟨c1, hc1, hy1⟩ := hE
    obtain ⟨v, hv, _⟩ := DataW.trod_bool he hy1
    have e0 : (a.add i).add 0 = a.add i := by simp [Addr.add]
    have : ∃ c, c1 = [c] ∧ w.cell? (a.add i) = some c := by
      unfold World.cells? at hc1
      split at hc1
      · simp only [List.range_succ, List.range_zero, List.nil_append, List.mapM_cons, List.mapM_nil, e0] at hc1
        cases hcc : w.cell? (a.add i) with
        | none => simp [hcc] at hc1
        | some c => simp [hcc] at hc1; exact ⟨c, hc1.symm, rfl⟩
      · cases hc1
    obtain ⟨c, rfl, hcell⟩ := this
    simp at hv
    exact ⟨v, by rw [hcell, hv]⟩
end
/-- What a walk is told of it: place by place. -/
def Flags (w : World) (A : Option Addr) (n : Nat) : Prop := ∀ i, i < n → ∃ b o, A = some ⟨b, o, none⟩ ∧ b < w.heap.size ∧ ∃ v : Bool, w.cell? ⟨b, o + i, none⟩ = some (.bool v)
theorem flags_of {w : World} {a : Option Addr} {len cap : Nat} (h : IsFlags w a len cap) : len ≤ cap ∧ cap ≤ maxLen ∧ Flags w a len := by
  rcases h with ⟨rfl, rfl, rfl⟩ | ⟨x, rfl, hl, hm, hc⟩
  · exact ⟨Nat.le_refl _, Nat.zero_le _, fun i hi => absurd hi (by omega)⟩
  · refine ⟨hl, hm, fun i hi => ?_⟩
    obtain ⟨b, o, sp⟩ := x
    obtain ⟨v0, h0⟩ := hc 0 (by omega)
    obtain rfl : sp = none := by simpa [Addr.add] using World.cell?_spot h0
    obtain ⟨v, hv⟩ := hc i hi
    have e : (⟨b, o, none⟩ : Addr).add i = ⟨b, o + i, none⟩ := by unfold Addr.add; split <;> simp_all
    rw [e] at hv
    exact ⟨b, o, rfl, World.block_lt_of_cell? _ _ hv, v, hv⟩
end Go.Proofs.Ytoncollcefanjaa
namespace Go.Proofs.Ytoncollcefanjaa
set_option maxRecDepth 20000
open Go.RowKit
set_option linter.unusedVariables false
end Go.Proofs.Ytoncollcefanjaa
namespace Go.Proofs.Ytoncollcefanjaa
set_option maxRecDepth 20000
open Go.RowKit
set_option linter.unusedVariables false
/-- A map that was told into memory of its own. -/
def NewRO (w : World) (l : List Nat) (root lone : Int) (e : Ending) (w' : World) : Prop :=
  ∃ A c, e = .returned (.agg #[.slice A l.length c, .int .i64 root, .int .i64 lone]) ∧ l.length ≤ c ∧ c ≤ maxLen ∧ w'.ownsRow w.heap.size 3 1 (.slice A l.length c) l.length (I64 (ofN l)) ∧ Below w.heap.size w w'
/-- What a map's box bears when it was told. -/
theorem box_ret {w wz : World} {g base N cS : Nat} {RT LF : Int} {A : Option Addr} {xs : List Value} (hgw : w.heap.size ≤ g) (hB : Below w.heap.size w wz) (hHY : Blk wz g 26 #[.slice none 0 0, .int .i64 0, .int .i64 0]) (hrd : wz.ownsRow base 3 1 (.slice A N cS) N xs) :
    Blk (((wz.setCell ⟨g, 0, none⟩ (.slice A N cS)).setCell ⟨g, 1, none⟩ (.int .i64 RT)).setCell ⟨g, 2, none⟩ (.int .i64 LF)) g 26 #[.slice A N cS, .int .i64 RT, .int .i64 LF] ∧
    (((wz.setCell ⟨g, 0, none⟩ (.slice A N cS)).setCell ⟨g, 1, none⟩ (.int .i64 RT)).setCell ⟨g, 2, none⟩ (.int .i64 LF)).ownsRow base 3 1 (.slice A N cS) N xs ∧
    Below w.heap.size w (((wz.setCell ⟨g, 0, none⟩ (.slice A N cS)).setCell ⟨g, 1, none⟩ (.int .i64 RT)).setCell ⟨g, 2, none⟩ (.int .i64 LF)) := by
  have MM : Mod (fun i => i = g) wz (((wz.setCell ⟨g, 0, none⟩ (.slice A N cS)).setCell ⟨g, 1, none⟩ (.int .i64 RT)).setCell ⟨g, 2, none⟩ (.int .i64 LF)) :=
    Mod.setCell (p := ⟨g, 2, none⟩) (Mod.setCell (p := ⟨g, 1, none⟩) (Mod.setCell (p := ⟨g, 0, none⟩) (Mod.refl (fun i => i = g) wz) (fun _ => rfl) _) (fun _ => rfl) _) (fun _ => rfl) _
  refine ⟨?_, own_mod hrd MM (fun q hq c => own_ne hrd hHY (by decide) (by rw [hq]; exact congrArg some c)), hB.trans (MM.belowB hB.size fun i hi hf => by omega)⟩
  have := ((hHY.set_ 0 (.slice A N cS)).set_ 1 (.int .i64 RT)).set_ 2 (.int .i64 LF)
  simpa using this
end Go.Proofs.Ytoncollcefanjaa
