/- Names made of edges' names and flips: mathematics. A slice of bools that came in. made: a map of numbers, and the document's (layer 10). A map of other names, that keep mates: the document's Mixed. The document's Do (layer 23): what it answers; the vertices' rows. The document's Do (layer 23) at darts that there aren't. The document's Do (layer 23), kind 0. The document's Do (layer 23), kind 1. -/
import Derived.Test.YtgcbdoljapnecaaZg3
import Derived.Test.YtgcbdoljapnecaaZPRef2
import Derived.Test.YtgcbdoljapnecaaZg20
import Derived.LaidMore
import Derived.RowKit
import Derived.Test.YtgcbdoljapnecaaZg2
import Derived.Laws.ResultCell
import Derived.Deep.RegionHeld3
import Derived.Deep.RegionWith
import Derived.Test.YtgcbdoljapnecaaZg4
namespace Go.Proofs.Ytgcbdoljapnecaa
set_option maxRecDepth 20000
open Go.RowKit
set_option linter.unusedVariables false
/-- The first k edges' darts have the names of the edges that P tells, as they are or flipped. -/
def Flip (P L : List Nat) (k : Nat) : Prop := L.length = 2 * k ∧ ∀ e, e < k → (L.getD (2 * e) 0 = 2 * P.getD e 0 ∧ L.getD (2 * e + 1) 0 = 2 * P.getD e 0 + 1) ∨ (L.getD (2 * e) 0 = 2 * P.getD e 0 + 1 ∧ L.getD (2 * e + 1) 0 = 2 * P.getD e 0)
theorem getD_app_lt (L X : List Nat) {i : Nat} (hi : i < L.length) : (L ++ X).getD i 0 = L.getD i 0 := by
  simp [List.getD_eq_getElem?_getD, List.getElem?_append_left hi]
theorem getD_app_0 (L : List Nat) (a b : Nat) : (L ++ [a, b]).getD L.length 0 = a := by
  simp [List.getD_eq_getElem?_getD]
theorem getD_app_1 (L : List Nat) (a b : Nat) : (L ++ [a, b]).getD (L.length + 1) 0 = b := by
  simp [List.getD_eq_getElem?_getD]
theorem Flip.next {P L : List Nat} {k a b : Nat} (h : Flip P L k) (c : (a = 2 * P.getD k 0 ∧ b = 2 * P.getD k 0 + 1) ∨ (a = 2 * P.getD k 0 + 1 ∧ b = 2 * P.getD k 0)) : Flip P (L ++ [a, b]) (k + 1) := by
  refine ⟨by rw [List.length_append, h.1]; simp; omega, fun e he => ?_⟩
  by_cases q : e = k
  · subst q
    have h1 := getD_app_0 L a b
    have h2 := getD_app_1 L a b
    rw [h.1] at h1 h2
    rw [h1, h2]; exact c
  · have h1 := h.1
    rw [getD_app_lt _ _ (by omega), getD_app_lt _ _ (by omega)]
    exact h.2 e (by omega)
theorem Flip.at_ {P L : List Nat} {k i : Nat} (h : Flip P L k) (hi : i < 2 * k) : ∃ r, r < 2 ∧ L.getD i 0 = 2 * P.getD (i / 2) 0 + r ∧ L.getD (mt i) 0 = 2 * P.getD (i / 2) 0 + (1 - r) := by
  have hc := h.2 (i / 2) (by omega)
  unfold mt
  by_cases e : i % 2 = 0
  · rw [if_pos e]
    have e1 : 2 * (i / 2) = i := by omega
    rw [e1] at hc
    rcases hc with ⟨c1, c2⟩ | ⟨c1, c2⟩
    · exact ⟨0, by omega, by omega, by omega⟩
    · exact ⟨1, by omega, by omega, by omega⟩
  · rw [if_neg e]
    have e1 : 2 * (i / 2) = i - 1 := by omega
    have e2 : i - 1 + 1 = i := by omega
    rw [e1, e2] at hc
    rcases hc with ⟨c1, c2⟩ | ⟨c1, c2⟩
    · exact ⟨1, by omega, by omega, by omega⟩
    · exact ⟨0, by omega, by omega, by omega⟩
theorem Flip.good {P PB L : List Nat} {k : Nat} (h : Flip P L k) (hP : Inv P PB) (hk : P.length = k) : Good (ofN L) := by
  intro i hi
  rw [ofN_len, h.1] at hi
  rw [ofN_len, h.1, ofN_get]
  obtain ⟨r, hr, e1, e2⟩ := h.at_ hi
  have hl := hP.lt (i / 2) (by omega)
  refine ⟨by omega, by omega, fun j hj c => ?_⟩
  rw [ofN_get] at c
  obtain ⟨s, hs, f1, f2⟩ := h.at_ (i := j) (by omega)
  have hq : P.getD (j / 2) 0 = P.getD (i / 2) 0 := by omega
  have hd := hP.inj (j / 2) (i / 2) (by omega) (by omega) hq
  have hm : mt i = j := by unfold mt; split <;> omega
  rw [hm] at e2
  omega
end Go.Proofs.Ytgcbdoljapnecaa
namespace Go.Proofs.Ytgcbdoljapnecaa
open Go Go.RowKit
set_option linter.unusedVariables false
section
variable {H : Type} {enc : TypeId × Value → H} {P : Program} {w : World} {base : Nat} {sp : Nat → Bool} {held : Bool}
end
end Go.Proofs.Ytgcbdoljapnecaa
namespace Go.Proofs.Ytgcbdoljapnecaa
set_option maxRecDepth 20000
open Go.RowKit
set_option linter.unusedVariables false
end Go.Proofs.Ytgcbdoljapnecaa
namespace Go.Proofs.Ytgcbdoljapnecaa
set_option maxRecDepth 100000
open Go.RowKit
set_option linter.unusedVariables false
theorem results_cell_tmp_row {P : Program} {fn : Func} {p u : Tmp} {ty : TypeId} (h : fn.results = #[.cell p ty, .tmp u]) (tmps : Array Value) (w : World) (g : Nat) (t : TypeId) (cs : Array Value) (fr : Nat × Nat) (d : TypeDesc)
    (hp : tmps.getD p undef = .pointer (some ⟨g, 0, none⟩)) (hg : w.heap[g]? = some (.cells cs t fr))
    (hu : P.underlying ty = some d) (hd : (match d with | .struct _ | .array _ _ => true | _ => false) = true) (hi : (P.info? ty).map (·.size) = some cs.size) :
    (results fn tmps).run P w = .ok (.tuple #[.agg cs, tmps.getD u undef]) w := by
  rw [results_cell_tmp h, hp]
  simp [asAddr, run_loadVar_row w g t ty cs fr d hg hu hd hi, Result.andThen]
end Go.Proofs.Ytgcbdoljapnecaa
namespace Go.Proofs.Ytgcbdoljapnecaa
set_option maxRecDepth 100000
open Go.RowKit
set_option linter.unusedVariables false
def DoOK (w : World) (o : List Nat) (root lone : Int) (e : Ending) (w' : World) : Prop :=
  ∃ A c, e = .returned (.tuple #[.agg #[.slice A o.length c, .int .i64 root, .int .i64 lone], .int .i64 0]) ∧ o.length ≤ c ∧ c ≤ maxLen ∧ w'.ownsRow w.heap.size 3 1 (.slice A o.length c) o.length (I64 (ofN o)) ∧ Below w.heap.size w w'
def DoNo (w : World) (A : Option Addr) (n c : Nat) (root lone err : Int) (e : Ending) (w' : World) : Prop :=
  e = .returned (.tuple #[.agg #[.slice A n c, .int .i64 root, .int .i64 lone], .int .i64 err]) ∧ Below w.heap.size w w'
theorem rowsM_pos {l : List Nat} (h : 0 < l.length) : 0 < (rowsM l).length := by
  have : 0 ∈ leads l l.length := mem_leads.2 ⟨h, fun j hj => absurd hj (by omega)⟩
  unfold rowsM
  rw [List.length_map]
  exact List.length_pos_of_mem this
theorem lists_q (A : Option Addr) (c : Nat) (l b : List Nat) (root lone : Int) (w : World) (h : Rd w w.heap.size A l.length (I64 (ofN l))) (hinv : Inv l b) (hn : l.length ≤ 20000) (h0 : 0 < l.length) :
    Calls Try.prog 36 #[.agg #[.slice A l.length c, .int .i64 root, .int .i64 lone]] w (RWP w (rowsM l) (rowsM l).length) := by
  have e : met l l.length = (rowsM l).length := by unfold rowsM; rw [List.length_map]; rfl
  refine (rlists_p A c l b root lone w h hinv hn).mono fun en w' q => ?_
  rw [e] at q
  exact RW.ofOut q (rowsM_pos h0)
end Go.Proofs.Ytgcbdoljapnecaa
namespace Go.Proofs.Ytgcbdoljapnecaa
set_option maxRecDepth 100000
open Go.RowKit
set_option linter.unusedVariables false
set_option linter.unusedSimpArgs false
set_option maxHeartbeats 8000000 in
theorem rdo23_out (A : Option Addr) (n c : Nat) (root lone k d e : Int) (w : World) (hn : n ≤ 1000000) (hout : (d < 0 ∨ (n : Int) ≤ d) ∨ (k = 1 ∧ (e < 0 ∨ (n : Int) ≤ e))) :
    Calls Try.prog 8 #[.agg #[.slice A n c, .int .i64 root, .int .i64 lone], .int .i64 k, .int .i64 d, .int .i64 e] w (DoNo w A n c root lone 1) := by
  have hb0 := ((Below.refl w.heap.size w).alloc (Nat.le_refl _) (.cells #[.slice A n c, .int .i64 root, .int .i64 lone] 27)).alloc (by simp) (.cells #[.slice none 0 0, .int .i64 0, .int .i64 0] 27)
  have HX := Lib.hid ((Blk.new w 27 #[.slice A n c, .int .i64 root, .int .i64 lone]).alloc (.cells #[.slice none 0 0, .int .i64 0, .int .i64 0] 27))
  have hy := (Blk.new (w.alloc (.cells #[.slice A n c, .int .i64 root, .int .i64 lone] 27)) 27 #[.slice none 0 0, .int .i64 0, .int .i64 0])
  rw [show (w.alloc (.cells #[.slice A n c, .int .i64 root, .int .i64 lone] 27)).heap.size = w.heap.size + 1 by simp] at hy
  have HY := Lib.hid hy
  have HB0 := Lib.hid hb0
  have HINF := Lib.hid info_rmap
  have HO := Lib.hid hout
  clear hb0 hy hout
  go_enter Try.func8, Try.ntmps8
  go_upto_region 1 with fail
  generalize hw3 : (w.alloc (.cells #[.slice A n c, .int .i64 root, .int .i64 lone] 27)).alloc (.cells #[.slice none 0 0, .int .i64 0, .int .i64 0] 27) = w3 at *
  have hs3 : w3.heap.size = w.heap.size + 2 := by rw [← hw3]; simp
  obtain ⟨x0, x1, x2⟩ : w3.cell? ⟨w.heap.size, 0, none⟩ = some (.slice A n c) ∧ w3.cell? ⟨w.heap.size, 1, none⟩ = some (.int .i64 root) ∧ w3.cell? ⟨w.heap.size, 2, none⟩ = some (.int .i64 lone) := ⟨HX.out.cell 0, HX.out.cell 1, HX.out.cell 2⟩
  have q0 := HY.out.cell 0
  have q1 := HY.out.cell 1
  have q2 := HY.out.cell 2
  have f0 := HY.out.frozen 0
  have f1 := HY.out.frozen 1
  have f2 := HY.out.frozen 2
  simp at q0 q1 q2
  have MM := Lib.hid (box_mod w3 (w.heap.size + 1) (.slice A n c) (.int .i64 root) (.int .i64 lone))
  have hblk : Hid (Blk (((w3.setCell ⟨w.heap.size + 1, 0, none⟩ (.slice A n c)).setCell ⟨w.heap.size + 1, 1, none⟩ (.int .i64 root)).setCell ⟨w.heap.size + 1, 2, none⟩ (.int .i64 lone)) (w.heap.size + 1) 27 #[.slice A n c, .int .i64 root, .int .i64 lone]) := by
    show Blk _ _ _ _
    have := ((HY.out.set_ 0 (.slice A n c)).set_ 1 (.int .i64 root)).set_ 2 (.int .i64 lone)
    simpa using this
  clear hw3
  go_upto_region 2 with fail
  go_cut [43] from 24 to 44 (fun v wx => v = .bool true ∧ wx = w3)
  case first =>
    by_cases d0 : d < 0
    · have d0b : decide (d < 0) = true := decide_eq_true d0
      go_wp2_with fail
      go_meet
      exact ⟨rfl, rfl⟩
    · have d0b : decide (d < 0) = false := decide_eq_false d0
      by_cases d1 : (n : Int) ≤ d
      · have d1b : decide ((n : Int) ≤ d) = true := decide_eq_true d1
        go_wp2_with fail
        go_meet
        exact ⟨rfl, rfl⟩
      · have d1b : decide ((n : Int) ≤ d) = false := decide_eq_false d1
        obtain ⟨hk, he⟩ : k = 1 ∧ (e < 0 ∨ (n : Int) ≤ e) := by
          rcases HO.out with (q | q) | q
          · exact absurd q d0
          · exact absurd q d1
          · exact q
        subst hk
        by_cases e0 : e < 0
        · have e0b : decide (e < 0) = true := decide_eq_true e0
          clear he
          go_wp2_with fail
          go_meet
          exact ⟨rfl, rfl⟩
        · have e0b : decide (e < 0) = false := decide_eq_false e0
          have e1 : (n : Int) ≤ e := by omega
          have e1b : decide ((n : Int) ≤ e) = true := decide_eq_true e1
          clear he
          go_wp2_with fail
          go_meet
          exact ⟨rfl, rfl⟩
  case rest =>
    obtain ⟨rfl, rfl⟩ := hcut
    clear HO
    go_wp2_with fail
    refine bodyPost_ret (results_cell_tmp_row rfl _ _ (w.heap.size + 1) 27 _ (0, 0) _ rfl hblk.out Try.underlying27 rfl HINF.out) rfl ?_
    exact ⟨rfl, HB0.out.trans (MM.out.belowB (by omega) fun i hi q => by omega)⟩
end Go.Proofs.Ytgcbdoljapnecaa
namespace Go.Proofs.Ytgcbdoljapnecaa
set_option maxRecDepth 100000
open Go.RowKit
set_option linter.unusedVariables false
set_option linter.unusedSimpArgs false
set_option maxHeartbeats 16000000 in
theorem rdo23_0 (A : Option Addr) (c : Nat) (l b : List Nat) (root lone : Int) (d : Nat) (e : Int) (w : World) (h : Rd w w.heap.size A l.length (I64 (ofN l))) (hinv : Inv l b) (hev : l.length % 2 = 0) (hn : l.length ≤ 6000) (hd : d < l.length) :
    Calls Try.prog 8 #[.agg #[.slice A l.length c, .int .i64 root, .int .i64 lone], .int .i64 0, .int .i64 (d : Int), .int .i64 e] w (DoOK w (leafL l d) root lone) := by
  obtain ⟨i0, hi0, hz0, hz1, hz2⟩ := info_parts info_int
  have hb0 := ((Below.refl w.heap.size w).alloc (Nat.le_refl _) (.cells #[.slice A l.length c, .int .i64 root, .int .i64 lone] 27)).alloc (by simp) (.cells #[.slice none 0 0, .int .i64 0, .int .i64 0] 27)
  have HX := Lib.hid ((Blk.new w 27 #[.slice A l.length c, .int .i64 root, .int .i64 lone]).alloc (.cells #[.slice none 0 0, .int .i64 0, .int .i64 0] 27))
  have hy := (Blk.new (w.alloc (.cells #[.slice A l.length c, .int .i64 root, .int .i64 lone] 27)) 27 #[.slice none 0 0, .int .i64 0, .int .i64 0])
  rw [show (w.alloc (.cells #[.slice A l.length c, .int .i64 root, .int .i64 lone] 27)).heap.size = w.heap.size + 1 by simp] at hy
  have HY := Lib.hid hy
  have HR := Lib.hid (h.more hb0)
  have HB0 := Lib.hid hb0
  have HINF := Lib.hid info_rmap
  have hp := phi_inv hinv hev
  have hpl := phiL_len l
  obtain ⟨m, hm⟩ : ∃ m, m = mateN d := ⟨_, rfl⟩
  have hml : m < l.length := by rw [hm]; exact mateN_lt hev hd
  obtain ⟨P, hP⟩ : ∃ P, P = (rowsM l).length := ⟨_, rfl⟩
  have hPl : P ≤ l.length := by rw [hP]; exact rowsM_len l
  have hPp : 0 < P := by rw [hP]; exact rowsM_pos (by omega)
  have PH : Hid (∀ W, Below _ _ W → Calls Try.prog 32 #[.agg #[.slice A l.length c, .int .i64 root, .int .i64 lone]] W (NewI64 W (ofN (phiL l)))) := fun W q => rphi_p A c l root lone W ((HR.out.below q).up q.size) hev (by omega)
  have NM : Hid (∀ W A9 c9, Rd W W.heap.size A9 l.length (I64 (ofN (phiL l))) → Calls Try.prog 33 #[.slice A9 l.length c9] W (NewI64 W (ofN (names (phiL l))))) := fun W A9 c9 q => by
    have := rnames_p A9 c9 _ (phiL l) _ W (by rw [hpl]; exact q) hp (by omega)
    rwa [hpl] at this
  have IV : Hid (∀ W, Below _ _ W → Calls Try.prog 34 #[.slice A l.length c] W (NewI64 W (ofN b))) := fun W q => rinverse_p A c _ l b W (HR.out.below q) hinv (by omega)
  have MT : Hid (∀ W, Calls Try.prog 35 #[.int .i64 (d : Int)] W fun en w' => en = .returned (.int .i64 (m : Int)) ∧ W = w') := fun W => by rw [hm]; exact rmate_p d W (by omega)
  have LS : Hid (∀ W, Below _ _ W → Calls Try.prog 36 #[.agg #[.slice A l.length c, .int .i64 root, .int .i64 lone]] W (RWP W (rowsM l) P)) := fun W q => by
    rw [hP]; exact lists_q A c l b root lone W ((HR.out.below q).up q.size) hinv (by omega) (by omega)
  have HPL : Hid ((ofN (phiL l)).length = l.length ∧ (phiL l).length = l.length) := ⟨by rw [ofN_len]; exact hpl, hpl⟩
  have HBL : Hid ((ofN b).length = l.length ∧ b.length = l.length) := ⟨by rw [ofN_len]; exact hinv.len, hinv.len⟩
  have HNL : Hid ((ofN (names (phiL l))).length = l.length) := by show _ = _; rw [ofN_len, names_len, hpl]
  have HI := Lib.hid (And.intro hinv hev)
  have HM : Hid (m = mateN d) := hm
  have HPR : Hid (P = (rowsM l).length) := hP
  obtain ⟨n, hn'⟩ : ∃ n, n = l.length := ⟨_, rfl⟩
  have HN : Hid (n = l.length) := hn'
  have RL : Hid (∀ os f S B, Tells os f S → (∀ x, S x → x < B) → B ≤ 20000 → ∀ r, r < os.length → (os.getD r []).length ≤ 20000) := fun os f S B t hs hB r hr => Nat.le_trans (t.rowLe hs r hr) hB
  have T0 : Hid (Tells (leafR l d) (sgL (leafL l d)) fun x => x < (leafL l d).length) := by show Tells _ _ _; rw [(leaf_inv hinv hd).2]; exact leaf_tell hinv hd
  have HL : Hid ((leafL l d).length = l.length + 2) := (leaf_inv hinv hd).2
  have R0 : Hid (∀ r, r < (rowsM l).length → ((rowsM l).getD r []).length ≤ 20000) := RL.out _ _ _ _ (lists_tell hinv) (fun x hx => hx) (by omega)
  obtain ⟨n1, hn1⟩ : ∃ n1, n1 = l.length + 1 := ⟨_, rfl⟩
  have en1 : (l.length : Int) + 1 = (n1 : Int) := by omega
  have wn1 : IntKind.i64.wrap (n1 : Int) = (n1 : Int) := by simp [IntKind.wrap, IntKind.signed, IntKind.bits]; omega
  have HLR : Hid (leafR l d = (rowsM l).map (aftL d l.length) ++ [[n1]]) := by rw [hn1]; rfl
  clear hn1
  rw [← hn'] at HX HY HR HB0 hd hml hn hPl PH NM IV LS HPL HBL HNL HL en1 HLR ⊢
  clear h hb0 hinv hy hp hpl hev hm hP hn'
  have hdI : (d : Int) < (n : Int) := by omega
  go_enter Try.func8, Try.ntmps8
  go_upto_region 1 with fail
  generalize hw3 : (w.alloc (.cells #[.slice A n c, .int .i64 root, .int .i64 lone] 27)).alloc (.cells #[.slice none 0 0, .int .i64 0, .int .i64 0] 27) = w3 at *
  have hs3 : w3.heap.size = w.heap.size + 2 := by rw [← hw3]; simp
  have SK : Hid (∀ W, Below w3.heap.size w3 W → W.cell? ⟨w.heap.size, 0, none⟩ = some (.slice A n c) ∧ W.cell? ⟨w.heap.size, 1, none⟩ = some (.int .i64 root) ∧ W.cell? ⟨w.heap.size, 2, none⟩ = some (.int .i64 lone)) := fun W q => ⟨(HX.out.below q).cell 0, (HX.out.below q).cell 1, (HX.out.below q).cell 2⟩
  obtain ⟨x0, x1, x2⟩ := SK.out _ (Below.refl _ _)
  have Z3 := Below.refl w3.heap.size w3
  clear hw3 HX
  go_upto_region 4 with fail
  go_wp2_with fail
  refine (PH.out _ Z3).mono ?_
  rintro en w4 ⟨A4, c4, rfl, hc4, hm4, hown4, b4⟩
  rw [HPL.out.1] at hc4 hown4 ⊢
  obtain ⟨gP, rfl, hgP, hgPw⟩ := own_some hown4 (by omega)
  have Z4 := Z3.trans (b4.mono (Nat.le_refl _))
  have hs4 := Z4.size
  have RP := Lib.hid (Rd.ofOwn hown4)
  have FP : Hid (∀ W, Below w4.heap.size w4 W → ∀ j, j < n → W.cell? ⟨gP, j, none⟩ = some (.int .i64 (((phiL l).getD j 0 : Nat) : Int))) := fun W q j hj => by
    have := own_cellI (own_below hown4 q) j hj
    rwa [ofN_get] at this
  clear b4 hown4 hc4 hm4 PH x0 x1 x2 Z3
  go_wp2_with fail
  refine (NM.out _ _ c4 RP.out).mono ?_
  rintro en w5 ⟨A5, c5, rfl, hc5, hm5, hown5, b5⟩
  rw [HNL.out] at hc5 hown5 ⊢
  obtain ⟨gN, rfl, hgN, hgNw⟩ := own_some hown5 (by omega)
  have Z5 := Z4.trans (b5.mono hs4)
  have hs5 := Z5.size
  have FN : Hid (∀ W, Below w5.heap.size w5 W → ∀ j, j < n → W.cell? ⟨gN, j, none⟩ = some (.int .i64 ((nameOf (phiL l) j : Nat) : Int))) := fun W q j hj => by
    have := own_cellI (own_below hown5 q) j hj
    rwa [ofN_get, names_get _ _ (by rw [HPL.out.2]; exact hj)] at this
  have V5 := Lib.hid b5
  obtain ⟨x0, x1, x2⟩ := SK.out _ Z5
  clear b5 hown5 hc5 hm5 NM Z4
  go_wp2_with fail
  refine (IV.out _ Z5).mono ?_
  rintro en w6 ⟨A6, c6, rfl, hc6, hm6, hown6, b6⟩
  rw [HBL.out.1] at hc6 hown6 ⊢
  obtain ⟨gB, rfl, hgB, hgBw⟩ := own_some hown6 (by omega)
  have Z6 := Z5.trans (b6.mono hs5)
  have hs6 := Z6.size
  have FB : Hid (∀ W, Below w6.heap.size w6 W → ∀ j, j < n → W.cell? ⟨gB, j, none⟩ = some (.int .i64 ((b.getD j 0 : Nat) : Int))) := fun W q j hj => by
    have := own_cellI (own_below hown6 q) j hj
    rwa [ofN_get] at this
  have V6 := Lib.hid b6
  obtain ⟨x0, x1, x2⟩ := SK.out _ Z6
  clear b6 hown6 hc6 hm6 IV Z5
  go_wp2_with fail
  refine (MT.out _).mono ?_
  rintro en wz ⟨rfl, rfl⟩
  clear MT
  go_wp2_with fail
  refine (LS.out _ Z6).mono ?_
  rintro en w7 ⟨g7, c7, rfl, hW7, b7⟩
  have Z7 := Z6.trans (b7.mono hs6)
  have hs7 := Z7.size
  have FA : Hid (∀ W, Below w7.heap.size w7 W → (∀ j, j < n → W.cell? ⟨gP, j, none⟩ = some (.int .i64 (((phiL l).getD j 0 : Nat) : Int)) ∧ W.cell? ⟨gN, j, none⟩ = some (.int .i64 ((nameOf (phiL l) j : Nat) : Int)) ∧ W.cell? ⟨gB, j, none⟩ = some (.int .i64 ((b.getD j 0 : Nat) : Int))) ∧ Rd W W.heap.size (some ⟨gP, 0, none⟩) n (I64 (ofN (phiL l)))) := fun W q => by
    have u6 : Below w6.heap.size w6 W := b7.trans (q.mono b7.size)
    have u5 : Below w5.heap.size w5 W := V6.out.trans (u6.mono V6.out.size)
    have u4 : Below w4.heap.size w4 W := V5.out.trans (u5.mono V5.out.size)
    exact ⟨fun j hj => ⟨FP.out W u4 j hj, FN.out W u5 j hj, FB.out W u6 j hj⟩, (RP.out.below u4).up u4.size⟩
  have HW7 := Lib.hid hW7
  have Z7H := Lib.hid Z7
  have hbw : w.heap.size + 2 ≤ w7.heap.size := by omega
  obtain ⟨x0, x1, x2⟩ := SK.out _ Z7
  clear b7 hW7 LS Z6 Z7 RP FP FN FB V5 V6 hgP hgPw hgN hgNw hgB hgBw hs4 hs5
  have AQ := Lib.hid (after_q (at_ := d) (d := n) HW7.out (by omega) R0.out)
  clear HW7
  go_wp2_with fail
  refine AQ.out.mono ?_
  rintro en w8 ⟨g8, c8, rfl, hW8, b8⟩
  obtain ⟨gF, cF, wF, hrun, hWF, bF⟩ := hW8.push (b8.size) (by omega) [n1] (by simp)
  have hcs : (I64 (ofN [n1])).toArray = #[.int .i64 (n1 : Int)] := by simp [I64, ofN]
  rw [hcs] at hrun
  simp only [List.length_singleton] at hrun
  rw [← HLR.out] at hWF
  have HWF := Lib.hid hWF
  have ZF := Lib.hid (Z7H.out.trans ((b8.trans bF).mono hs7))
  have TF := T0
  have hoF : (leafL l d).length ≤ 20000 := by rw [HL.out]; omega
  have hpF : P + 1 ≤ 40000 := by omega
  clear AQ hWF bF hW8 b8 hcs Z7H HL HLR T0 R0 x0 x1 x2
  obtain ⟨x0, x1, x2⟩ := SK.out _ ZF.out
  go_wp2_with (first
    | (at_builtin; go_must (refine wpList_append_runR rfl _ _ _ rfl _ _ _ _ rfl rfl hrun ?_)))
  have MD : Hid (Calls Try.prog 40 #[.slice (some ⟨gF, 0, none⟩) (P + 1) cF, .int .i64 root, .int .i64 lone] wF (NewRO wF (leafL l d) root lone)) := made_q HWF.out TF.out rfl hoF hpF root lone
  clear HWF TF
  go_wp2_with fail
  refine MD.out.mono ?_
  rintro en w9 ⟨A9, c9, rfl, hc9, hm9, hown9, b9⟩
  have Z9 := Lib.hid (ZF.out.trans (b9.mono ZF.out.size))
  have hsF := ZF.out.size
  have HO9 := Lib.hid hown9
  have HYr := Lib.hid (HY.out.below Z9.out)
  have q0 := HYr.out.cell 0
  have q1 := HYr.out.cell 1
  have q2 := HYr.out.cell 2
  have f0 := HYr.out.frozen 0
  have f1 := HYr.out.frozen 1
  have f2 := HYr.out.frozen 2
  simp at q0 q1 q2
  clear b9 hown9 MD x0 x1 x2 ZF
  go_wp2_with fail
  obtain ⟨k1, k2, k3⟩ := box_ret (w := w) (g := w.heap.size + 1) (RT := root) (LF := lone) (by omega) (HB0.out.trans (Z9.out.mono HB0.out.size)) HYr.out HO9.out
  refine bodyPost_ret (results_cell_tmp_row rfl _ _ (w.heap.size + 1) 27 _ (0, 0) _ rfl k1 Try.underlying27 rfl HINF.out) rfl ?_
  exact ⟨A9, c9, rfl, hc9, hm9, k2.base_le' (by omega), k3⟩
end Go.Proofs.Ytgcbdoljapnecaa
namespace Go.Proofs.Ytgcbdoljapnecaa
set_option maxRecDepth 100000
open Go.RowKit
set_option linter.unusedVariables false
set_option linter.unusedSimpArgs false
set_option maxHeartbeats 16000000 in
theorem rdo23_1 (A : Option Addr) (c : Nat) (l b : List Nat) (root lone : Int) (d : Nat) (e : Nat) (w : World) (h : Rd w w.heap.size A l.length (I64 (ofN l))) (hinv : Inv l b) (hev : l.length % 2 = 0) (hn : l.length ≤ 6000) (hd : d < l.length) (he : e < l.length) (hf : nameOf (phiL l) (l.getD d 0) = nameOf (phiL l) (l.getD e 0)) :
    Calls Try.prog 8 #[.agg #[.slice A l.length c, .int .i64 root, .int .i64 lone], .int .i64 1, .int .i64 (d : Int), .int .i64 (e : Int)] w (DoOK w (chordL l d e) root lone) := by
  obtain ⟨i0, hi0, hz0, hz1, hz2⟩ := info_parts info_int
  have hb0 := ((Below.refl w.heap.size w).alloc (Nat.le_refl _) (.cells #[.slice A l.length c, .int .i64 root, .int .i64 lone] 27)).alloc (by simp) (.cells #[.slice none 0 0, .int .i64 0, .int .i64 0] 27)
  have HX := Lib.hid ((Blk.new w 27 #[.slice A l.length c, .int .i64 root, .int .i64 lone]).alloc (.cells #[.slice none 0 0, .int .i64 0, .int .i64 0] 27))
  have hy := (Blk.new (w.alloc (.cells #[.slice A l.length c, .int .i64 root, .int .i64 lone] 27)) 27 #[.slice none 0 0, .int .i64 0, .int .i64 0])
  rw [show (w.alloc (.cells #[.slice A l.length c, .int .i64 root, .int .i64 lone] 27)).heap.size = w.heap.size + 1 by simp] at hy
  have HY := Lib.hid hy
  have HR := Lib.hid (h.more hb0)
  have HB0 := Lib.hid hb0
  have HINF := Lib.hid info_rmap
  have hp := phi_inv hinv hev
  have hpl := phiL_len l
  obtain ⟨m, hm⟩ : ∃ m, m = mateN d := ⟨_, rfl⟩
  have hml : m < l.length := by rw [hm]; exact mateN_lt hev hd
  obtain ⟨P, hP⟩ : ∃ P, P = (rowsM l).length := ⟨_, rfl⟩
  have hPl : P ≤ l.length := by rw [hP]; exact rowsM_len l
  have hPp : 0 < P := by rw [hP]; exact rowsM_pos (by omega)
  have PH : Hid (∀ W, Below _ _ W → Calls Try.prog 32 #[.agg #[.slice A l.length c, .int .i64 root, .int .i64 lone]] W (NewI64 W (ofN (phiL l)))) := fun W q => rphi_p A c l root lone W ((HR.out.below q).up q.size) hev (by omega)
  have NM : Hid (∀ W A9 c9, Rd W W.heap.size A9 l.length (I64 (ofN (phiL l))) → Calls Try.prog 33 #[.slice A9 l.length c9] W (NewI64 W (ofN (names (phiL l))))) := fun W A9 c9 q => by
    have := rnames_p A9 c9 _ (phiL l) _ W (by rw [hpl]; exact q) hp (by omega)
    rwa [hpl] at this
  have IV : Hid (∀ W, Below _ _ W → Calls Try.prog 34 #[.slice A l.length c] W (NewI64 W (ofN b))) := fun W q => rinverse_p A c _ l b W (HR.out.below q) hinv (by omega)
  have MT : Hid (∀ W, Calls Try.prog 35 #[.int .i64 (d : Int)] W fun en w' => en = .returned (.int .i64 (m : Int)) ∧ W = w') := fun W => by rw [hm]; exact rmate_p d W (by omega)
  have LS : Hid (∀ W, Below _ _ W → Calls Try.prog 36 #[.agg #[.slice A l.length c, .int .i64 root, .int .i64 lone]] W (RWP W (rowsM l) P)) := fun W q => by
    rw [hP]; exact lists_q A c l b root lone W ((HR.out.below q).up q.size) hinv (by omega) (by omega)
  have HPL : Hid ((ofN (phiL l)).length = l.length ∧ (phiL l).length = l.length) := ⟨by rw [ofN_len]; exact hpl, hpl⟩
  have HBL : Hid ((ofN b).length = l.length ∧ b.length = l.length) := ⟨by rw [ofN_len]; exact hinv.len, hinv.len⟩
  have HNL : Hid ((ofN (names (phiL l))).length = l.length) := by show _ = _; rw [ofN_len, names_len, hpl]
  have HI := Lib.hid (And.intro hinv hev)
  have HM : Hid (m = mateN d) := hm
  have HPR : Hid (P = (rowsM l).length) := hP
  obtain ⟨n, hn'⟩ : ∃ n, n = l.length := ⟨_, rfl⟩
  have HN : Hid (n = l.length) := hn'
  have RL : Hid (∀ os f S B, Tells os f S → (∀ x, S x → x < B) → B ≤ 20000 → ∀ r, r < os.length → (os.getD r []).length ≤ 20000) := fun os f S B t hs hB r hr => Nat.le_trans (t.rowLe hs r hr) hB
  have T0 : Hid (Tells (chordR l d e) (sgL (chordL l d e)) fun x => x < (chordL l d e).length) := by show Tells _ _ _; rw [(chord_inv hinv hd he).2]; exact chord_tell hinv hd he
  have HL : Hid ((chordL l d e).length = l.length + 2) := (chord_inv hinv hd he).2
  have R0 : Hid (∀ r, r < (rowsM l).length → ((rowsM l).getD r []).length ≤ 20000) := RL.out _ _ _ _ (lists_tell hinv) (fun x hx => hx) (by omega)
  obtain ⟨n1, hn1⟩ : ∃ n1, n1 = l.length + 1 := ⟨_, rfl⟩
  have en1 : (l.length : Int) + 1 = (n1 : Int) := by omega
  have wn1 : IntKind.i64.wrap (n1 : Int) = (n1 : Int) := by simp [IntKind.wrap, IntKind.signed, IntKind.bits]; omega
  have R1 : Hid (∀ r, r < ((rowsM l).map (aftL d l.length)).length → (((rowsM l).map (aftL d l.length)).getD r []).length ≤ 20000) := RL.out _ _ _ (l.length + 1) (leaf_pre hinv hd) (fun x hx => hx) (by omega)
  have HLR : Hid (chordR l d e = ((rowsM l).map (aftL d l.length)).map (aftL (if d = e then l.length else e) n1)) := by rw [hn1]; rfl
  obtain ⟨sd, hsd⟩ : ∃ sd, sd = l.getD d 0 := ⟨_, rfl⟩
  obtain ⟨se, hse⟩ : ∃ se, se = l.getD e 0 := ⟨_, rfl⟩
  have hsdl : sd < l.length := by rw [hsd]; exact hinv.lt d hd
  have hsel : se < l.length := by rw [hse]; exact hinv.lt e he
  obtain ⟨fd, hfd⟩ : ∃ fd, fd = nameOf (phiL l) sd := ⟨_, rfl⟩
  obtain ⟨fe, hfe⟩ : ∃ fe, fe = nameOf (phiL l) se := ⟨_, rfl⟩
  have HF : Hid (fd = fe) := by rw [hfd, hfe, hsd, hse]; exact hf
  have HSF : Hid (sd = l.getD d 0 ∧ se = l.getD e 0 ∧ fd = nameOf (phiL l) sd ∧ fe = nameOf (phiL l) se) := ⟨hsd, hse, hfd, hfe⟩
  clear hn1 hsd hse hfd hfe hf
  rw [← hn'] at HX HY HR HB0 hd hml hn hPl PH NM IV LS HPL HBL HNL HL en1 HLR he hsdl hsel R1 ⊢
  clear h hb0 hinv hy hp hpl hev hm hP hn'
  have hdI : (d : Int) < (n : Int) := by omega
  go_enter Try.func8, Try.ntmps8
  go_upto_region 1 with fail
  generalize hw3 : (w.alloc (.cells #[.slice A n c, .int .i64 root, .int .i64 lone] 27)).alloc (.cells #[.slice none 0 0, .int .i64 0, .int .i64 0] 27) = w3 at *
  have hs3 : w3.heap.size = w.heap.size + 2 := by rw [← hw3]; simp
  have SK : Hid (∀ W, Below w3.heap.size w3 W → W.cell? ⟨w.heap.size, 0, none⟩ = some (.slice A n c) ∧ W.cell? ⟨w.heap.size, 1, none⟩ = some (.int .i64 root) ∧ W.cell? ⟨w.heap.size, 2, none⟩ = some (.int .i64 lone)) := fun W q => ⟨(HX.out.below q).cell 0, (HX.out.below q).cell 1, (HX.out.below q).cell 2⟩
  obtain ⟨x0, x1, x2⟩ := SK.out _ (Below.refl _ _)
  have Z3 := Below.refl w3.heap.size w3
  clear hw3 HX
  go_upto_region 4 with fail
  go_wp2_with fail
  refine (PH.out _ Z3).mono ?_
  rintro en w4 ⟨A4, c4, rfl, hc4, hm4, hown4, b4⟩
  rw [HPL.out.1] at hc4 hown4 ⊢
  obtain ⟨gP, rfl, hgP, hgPw⟩ := own_some hown4 (by omega)
  have Z4 := Z3.trans (b4.mono (Nat.le_refl _))
  have hs4 := Z4.size
  have RP := Lib.hid (Rd.ofOwn hown4)
  have FP : Hid (∀ W, Below w4.heap.size w4 W → ∀ j, j < n → W.cell? ⟨gP, j, none⟩ = some (.int .i64 (((phiL l).getD j 0 : Nat) : Int))) := fun W q j hj => by
    have := own_cellI (own_below hown4 q) j hj
    rwa [ofN_get] at this
  clear b4 hown4 hc4 hm4 PH x0 x1 x2 Z3
  go_wp2_with fail
  refine (NM.out _ _ c4 RP.out).mono ?_
  rintro en w5 ⟨A5, c5, rfl, hc5, hm5, hown5, b5⟩
  rw [HNL.out] at hc5 hown5 ⊢
  obtain ⟨gN, rfl, hgN, hgNw⟩ := own_some hown5 (by omega)
  have Z5 := Z4.trans (b5.mono hs4)
  have hs5 := Z5.size
  have FN : Hid (∀ W, Below w5.heap.size w5 W → ∀ j, j < n → W.cell? ⟨gN, j, none⟩ = some (.int .i64 ((nameOf (phiL l) j : Nat) : Int))) := fun W q j hj => by
    have := own_cellI (own_below hown5 q) j hj
    rwa [ofN_get, names_get _ _ (by rw [HPL.out.2]; exact hj)] at this
  have V5 := Lib.hid b5
  obtain ⟨x0, x1, x2⟩ := SK.out _ Z5
  clear b5 hown5 hc5 hm5 NM Z4
  go_wp2_with fail
  refine (IV.out _ Z5).mono ?_
  rintro en w6 ⟨A6, c6, rfl, hc6, hm6, hown6, b6⟩
  rw [HBL.out.1] at hc6 hown6 ⊢
  obtain ⟨gB, rfl, hgB, hgBw⟩ := own_some hown6 (by omega)
  have Z6 := Z5.trans (b6.mono hs5)
  have hs6 := Z6.size
  have FB : Hid (∀ W, Below w6.heap.size w6 W → ∀ j, j < n → W.cell? ⟨gB, j, none⟩ = some (.int .i64 ((b.getD j 0 : Nat) : Int))) := fun W q j hj => by
    have := own_cellI (own_below hown6 q) j hj
    rwa [ofN_get] at this
  have V6 := Lib.hid b6
  obtain ⟨x0, x1, x2⟩ := SK.out _ Z6
  clear b6 hown6 hc6 hm6 IV Z5
  go_wp2_with fail
  refine (MT.out _).mono ?_
  rintro en wz ⟨rfl, rfl⟩
  clear MT
  go_wp2_with fail
  refine (LS.out _ Z6).mono ?_
  rintro en w7 ⟨g7, c7, rfl, hW7, b7⟩
  have Z7 := Z6.trans (b7.mono hs6)
  have hs7 := Z7.size
  have FA : Hid (∀ W, Below w7.heap.size w7 W → (∀ j, j < n → W.cell? ⟨gP, j, none⟩ = some (.int .i64 (((phiL l).getD j 0 : Nat) : Int)) ∧ W.cell? ⟨gN, j, none⟩ = some (.int .i64 ((nameOf (phiL l) j : Nat) : Int)) ∧ W.cell? ⟨gB, j, none⟩ = some (.int .i64 ((b.getD j 0 : Nat) : Int))) ∧ Rd W W.heap.size (some ⟨gP, 0, none⟩) n (I64 (ofN (phiL l)))) := fun W q => by
    have u6 : Below w6.heap.size w6 W := b7.trans (q.mono b7.size)
    have u5 : Below w5.heap.size w5 W := V6.out.trans (u6.mono V6.out.size)
    have u4 : Below w4.heap.size w4 W := V5.out.trans (u5.mono V5.out.size)
    exact ⟨fun j hj => ⟨FP.out W u4 j hj, FN.out W u5 j hj, FB.out W u6 j hj⟩, (RP.out.below u4).up u4.size⟩
  have HW7 := Lib.hid hW7
  have Z7H := Lib.hid Z7
  have hbw : w.heap.size + 2 ≤ w7.heap.size := by omega
  obtain ⟨x0, x1, x2⟩ := SK.out _ Z7
  clear b7 hW7 LS Z6 Z7 RP FP FN FB V5 V6 hgP hgPw hgN hgNw hgB hgBw hs4 hs5
  have heI : (e : Int) < (n : Int) := by omega
  have hsdI : (sd : Int) < (n : Int) := by omega
  have hseI : (se : Int) < (n : Int) := by omega
  obtain ⟨ba, oa, rfl, hba, hca⟩ := HR.out.i64 (by omega)
  have cd : w7.cell? ⟨ba, oa + d, none⟩ = some (.int .i64 (sd : Int)) := by
    rw [HSF.out.1, ← ofN_get]; exact (Z7H.out.cell (p := ⟨ba, oa + d, none⟩) hba).trans (hca d hd)
  have ce : w7.cell? ⟨ba, oa + e, none⟩ = some (.int .i64 (se : Int)) := by
    rw [HSF.out.2.1, ← ofN_get]; exact (Z7H.out.cell (p := ⟨ba, oa + e, none⟩) hba).trans (hca e he)
  have nd := (((FA.out _ (Below.refl _ _)).1) sd hsdl).2.1
  have ne := (((FA.out _ (Below.refl _ _)).1) se hsel).2.1
  rw [← HSF.out.2.2.1] at nd
  rw [← HSF.out.2.2.2] at ne
  clear hca hba
  go_upto_if 86 with (go_quiet (fail))
  have bq : Below w7.heap.size w7 (w7.drewN nq) := below_draws (Below.refl _ _) nq
  generalize w7.drewN nq = w8 at *
  have B8 := Lib.hid bq
  have hs8 := bq.size
  clear bq cd ce nd ne x0 x1 x2

  have qd : ((fd : Int) != (fe : Int)) = false := by have := HF.out; simp [this]
  have qd2 : decide (fd = fe) = true := decide_eq_true HF.out
  have AQ := Lib.hid (after_q (at_ := d) (d := n) (HW7.out.below B8.out) (by omega) R0.out)
  have Z8H := Lib.hid (Z7H.out.trans (B8.out.mono hs7))
  clear HW7 Z7H
  go_wp2_with fail
  refine AQ.out.mono ?_
  rintro en w9 ⟨g9, c9, rfl, hW9, b9⟩
  have HW9 := Lib.hid hW9
  have Z9H := Lib.hid (Z8H.out.trans (b9.mono (by omega)))
  have hs9 := Z9H.out.size
  clear hW9 b9 AQ R0 Z8H B8 FA HF HSF
  by_cases hde : d = e
  · have edb : ((d : Int) == (e : Int)) = true := by simp [hde]
    have edd : decide (d = e) = true := decide_eq_true hde
    have HLR2 : Hid (chordR l d e = ((rowsM l).map (aftL d n)).map (aftL n n1)) := by show _ = _; rw [HLR.out, if_pos hde]
    have AQ2 := Lib.hid (after_q (at_ := n) (d := n1) HW9.out (by omega) R1.out)
    clear HW9 hde
    go_wp2_with fail
    refine AQ2.out.mono ?_
    rintro en wF ⟨gF, cF, rfl, hWF, bF⟩
    rw [← HLR2.out] at hWF
    have HWF := Lib.hid hWF
    have ZF := Lib.hid (Z9H.out.trans (bF.mono hs9))
    have TF := T0
    have hoF : (chordL l d e).length ≤ 20000 := by rw [HL.out]; omega
    have hpF : P ≤ 40000 := by omega
    clear AQ2 hWF bF HL HLR HLR2 T0 Z9H
    obtain ⟨x0, x1, x2⟩ := SK.out _ ZF.out
    have MD : Hid (Calls Try.prog 40 #[.slice (some ⟨gF, 0, none⟩) P cF, .int .i64 root, .int .i64 lone] wF (NewRO wF (chordL l d e) root lone)) := made_q HWF.out TF.out rfl hoF hpF root lone
    clear HWF TF
    go_wp2_with fail
    refine MD.out.mono ?_
    rintro en w9 ⟨A9, c9, rfl, hc9, hm9, hown9, b9⟩
    have Z9 := Lib.hid (ZF.out.trans (b9.mono ZF.out.size))
    have hsF := ZF.out.size
    have HO9 := Lib.hid hown9
    have HYr := Lib.hid (HY.out.below Z9.out)
    have q0 := HYr.out.cell 0
    have q1 := HYr.out.cell 1
    have q2 := HYr.out.cell 2
    have f0 := HYr.out.frozen 0
    have f1 := HYr.out.frozen 1
    have f2 := HYr.out.frozen 2
    simp at q0 q1 q2
    clear b9 hown9 MD x0 x1 x2 ZF
    go_wp2_with fail
    obtain ⟨k1, k2, k3⟩ := box_ret (w := w) (g := w.heap.size + 1) (RT := root) (LF := lone) (by omega) (HB0.out.trans (Z9.out.mono HB0.out.size)) HYr.out HO9.out
    refine bodyPost_ret (results_cell_tmp_row rfl _ _ (w.heap.size + 1) 27 _ (0, 0) _ rfl k1 Try.underlying27 rfl HINF.out) rfl ?_
    exact ⟨A9, c9, rfl, hc9, hm9, k2.base_le' (by omega), k3⟩

  · have edI : ¬ (d : Int) = (e : Int) := by omega
    have edb : ((d : Int) == (e : Int)) = false := by rw [beq_eq_false_iff_ne]; exact edI
    have edd : decide (d = e) = false := decide_eq_false hde
    have HLR2 : Hid (chordR l d e = ((rowsM l).map (aftL d n)).map (aftL e n1)) := by show _ = _; rw [HLR.out, if_neg hde]
    have AQ2 := Lib.hid (after_q (at_ := e) (d := n1) HW9.out (by omega) R1.out)
    clear HW9 hde
    go_wp2_with fail
    refine AQ2.out.mono ?_
    rintro en wF ⟨gF, cF, rfl, hWF, bF⟩
    rw [← HLR2.out] at hWF
    have HWF := Lib.hid hWF
    have ZF := Lib.hid (Z9H.out.trans (bF.mono hs9))
    have TF := T0
    have hoF : (chordL l d e).length ≤ 20000 := by rw [HL.out]; omega
    have hpF : P ≤ 40000 := by omega
    clear AQ2 hWF bF HL HLR HLR2 T0 Z9H
    obtain ⟨x0, x1, x2⟩ := SK.out _ ZF.out
    have MD : Hid (Calls Try.prog 40 #[.slice (some ⟨gF, 0, none⟩) P cF, .int .i64 root, .int .i64 lone] wF (NewRO wF (chordL l d e) root lone)) := made_q HWF.out TF.out rfl hoF hpF root lone
    clear HWF TF
    go_wp2_with fail
    refine MD.out.mono ?_
    rintro en w9 ⟨A9, c9, rfl, hc9, hm9, hown9, b9⟩
    have Z9 := Lib.hid (ZF.out.trans (b9.mono ZF.out.size))
    have hsF := ZF.out.size
    have HO9 := Lib.hid hown9
    have HYr := Lib.hid (HY.out.below Z9.out)
    have q0 := HYr.out.cell 0
    have q1 := HYr.out.cell 1
    have q2 := HYr.out.cell 2
    have f0 := HYr.out.frozen 0
    have f1 := HYr.out.frozen 1
    have f2 := HYr.out.frozen 2
    simp at q0 q1 q2
    clear b9 hown9 MD x0 x1 x2 ZF
    go_wp2_with fail
    obtain ⟨k1, k2, k3⟩ := box_ret (w := w) (g := w.heap.size + 1) (RT := root) (LF := lone) (by omega) (HB0.out.trans (Z9.out.mono HB0.out.size)) HYr.out HO9.out
    refine bodyPost_ret (results_cell_tmp_row rfl _ _ (w.heap.size + 1) 27 _ (0, 0) _ rfl k1 Try.underlying27 rfl HINF.out) rfl ?_
    exact ⟨A9, c9, rfl, hc9, hm9, k2.base_le' (by omega), k3⟩

end Go.Proofs.Ytgcbdoljapnecaa
