/- The document's example; Lines. -/
import Derived.Test.YtohlkhffljjodaaDoorZRParse
import Derived.Lib.SlBytesConst
namespace Go.Proofs.YtohlkhffljjodaaDoor
open Go.RowKit
set_option linter.unusedVariables false
set_option maxRecDepth 20000

def exL : List Int := [49, 32, 48, 32, 48, 10, 48, 10, 49, 10]
theorem ex_lines : lineF 0 (splitL 10 exL) = .ok [[1, 0, 0], [0], [1]] := by rfl
theorem ex_turns : turnsR [[0], [1]] 1 = some [0, 1] := by rfl
theorem ex_byt : Byt exL := by intro b hb; simp [exL] at hb; omega
theorem nil_lines : lineF 0 (splitL 10 []) = .error 1 := by rfl
theorem bytesOf_count : ∀ (l : List Int), Byt l → (Lib.bytesOf l).count (10 : UInt8) = l.count 10 := by
  intro l
  induction l with
  | nil => intro _; rfl
  | cons b l ih =>
    intro h
    have hb := h b (by simp)
    have e : Lib.bytesOf (b :: l) = UInt8.ofNat b.toNat :: Lib.bytesOf l := by simp [Lib.bytesOf]
    rw [e]
    by_cases q : b = 10
    · subst q
      rw [List.count_cons_self]
      show List.count 10 (10 :: Lib.bytesOf l) = _
      rw [List.count_cons_self, ih h.tail]
    · rw [List.count_cons_of_ne q, List.count_cons_of_ne, ih h.tail]
      intro z
      have := congrArg UInt8.toNat z
      simp only [UInt8.toNat_ofNat'] at this
      have h10 : (10 : UInt8).toNat = 10 := rfl
      omega
theorem Rd.markR (w : World) (t : TypeId) (fr : Nat × Nat) (cs : Array Value) (n : Nat) (xs : List Value) (h : cs.toList = xs) (hn : cs.size = n) : Rd (w.alloc (.cells cs t fr)) (w.heap.size + 1) (some ⟨w.heap.size, 0, none⟩) n xs := by
  subst h; subst hn
  refine ⟨by simp, fun _ => ⟨_, _, rfl, by omega, fun j hj => ?_⟩⟩
  rw [World.cell?_alloc_mark, Nat.zero_add]
  simp at hj ⊢
theorem count_p (A : Option Addr) (n c B g : Nat) (l : List Int) (w : World) (h : Rd w B A n (Z8 l)) (hl8 : Byt l) (hA : A = none → c = 0) (hg : w.cell? ⟨g, 0, none⟩ = some (.int .u8 10)) :
    Calls Tryd.prog 36 #[.slice A n c, .slice (some ⟨g, 0, none⟩) 1 1] w fun e w' => e = .returned (.int .i64 ((l.count 10 : Nat) : Int)) ∧ w = w' := by
  have hl : l.length = n := by rw [← h.len, Z8_len]
  cases A with
  | none =>
    obtain rfl : n = 0 := h.none_
    obtain rfl : l = [] := List.eq_nil_of_length_eq_zero hl
    obtain rfl : c = 0 := hA rfl
    refine (Any.bytes_Count_one_nil Tryd.laysB13 g 0 1 10 w hg).mono ?_
    rintro e w1 ⟨rfl, rfl⟩
    exact ⟨rfl, rfl⟩
  | some a =>
    have hcell : ∀ i, i < n → w.cell? (a.add i) = some (.int .u8 (l.getD i 0)) := by
      intro i hi
      obtain ⟨b, o, e, _, hh⟩ := h.z8 (by omega)
      obtain rfl := Option.some.inj e
      have := hh i hi
      unfold Addr.add
      by_cases h0 : i = 0
      · subst h0; simpa using this
      · rw [if_neg h0]; exact this
    refine (Any.bytes_Count_one_at Tryd.laysB13 a n c g 0 1 l 10 w hl hcell hg).mono ?_
    rintro e w1 ⟨rfl, rfl⟩
    refine ⟨?_, rfl⟩
    rw [← bytesOf_count l hl8]
    rfl
theorem lines_p (A : Option Addr) (n c B : Nat) (l : List Int) (w : World) (h : Rd w B A n (Z8 l)) (hl8 : Byt l) (hA : A = none → c = 0) :
    Calls Tryd.prog 14 #[.slice A n c] w fun e w' => e = .returned (.int .i64 ((l.count 10 : Nat) : Int)) ∧ Below w.heap.size w w' := by
  have CP := Lib.hid (count_p A n c B w.heap.size l (w.alloc (.cells #[.int .u8 10] 5)) (h.alloc _) hl8 hA (by have := (Blk.new w 5 #[.int .u8 10]).cell 0; rw [this]; rfl))
  have b0 := (Below.refl w.heap.size w).alloc (Nat.le_refl _) (.cells #[.int .u8 10] 5)
  have B0 := Lib.hid b0
  clear h hl8 hA b0
  go_enter Tryd.func14, Tryd.ntmps14
  go_wp2_with fail
  refine CP.out.mono ?_
  rintro e w1 ⟨rfl, rfl⟩
  go_wp2_with fail
  go_ret
  exact ⟨rfl, B0.out⟩
theorem ex_good : Good [0, 1] := by
  intro i hi
  have : i = 0 ∨ i = 1 := by simp at hi; omega
  rcases this with rfl | rfl
  · exact ⟨by decide, by decide, fun j hj => absurd hj (by omega)⟩
  · refine ⟨by decide, by decide, fun j hj => ?_⟩
    obtain rfl : j = 0 := by omega
    decide
theorem ex_err {E : Int} (h : ErrIs [0, 1] 0 0 2 E) : E = 0 := by
  have hr : RootOk 0 2 := by unfold RootOk; simp
  rcases h with ⟨_, h | h⟩ | ⟨_, _, _, h | h⟩ | ⟨_, _, _, _, _, h⟩ | ⟨h, _⟩
  · exact absurd ex_good h
  · omega
  · omega
  · exact absurd hr h
  · omega
  · exact h
set_option maxHeartbeats 2000000 in
theorem awake7_p (m : Int) (w : World) (hm : w.cell? ⟨0, 0, none⟩ = some (.int .i64 m)) :
    Calls Tryd.prog 7 #[] w fun e w' => e = .returned (.bool true) ∧ Below w.heap.size w w' := by
  have kc := fun (w : World) (C : Array Value) (n c : Nat) => Lib.run_convert_bytes_const (P := Tryd.prog) w 22 5 C n c Tryd.underlying22 Tryd.underlying5
  have PP := Lib.hid (fun W (b : Below w.heap.size w W) (r : Rd W (w.heap.size + 1) (some ⟨w.heap.size, 0, none⟩) 10 (Z8 exL)) (hs : w.heap.size + 1 ≤ W.heap.size) => parse_p (some ⟨w.heap.size, 0, none⟩) 10 10 (w.heap.size + 1) exL m W r ex_byt (by omega) (by simp [maxLen]) (fun h => by simp at h) (by omega) hs ((b.cell (p := ⟨0, 0, none⟩) (World.block_lt_of_cell? _ _ hm)).trans hm))
  clear hm
  go_enter Tryd.func7, Tryd.ntmps7
  go_wp2_with fail
  refine (PP.out _ ((Below.refl _ _).alloc (Nat.le_refl _) _) (Rd.markR _ _ _ _ _ _ (by simp [Z8, exL]) (by simp)) (by simp)).mono ?_
  rintro e w1 ⟨b1, hv⟩
  rw [ex_lines] at hv
  simp only [List.drop_succ_cons, List.drop_zero, List.getD_cons_zero] at hv
  rw [ex_turns] at hv
  obtain ⟨E, hE, _, h0⟩ := hv
  obtain ⟨g, l, b, rfl, hz, hmp, _⟩ := h0 (ex_err hE)
  have hl : l = idL := by
    have : ofN l = ofN idL := hz.symm
    exact ofN_inj this
  subst hl
  have VP := Lib.hid (vertices_p g idL b _ _ w1 hmp)
  have B1 : Hid (Below w.heap.size w w1) := (Below.trans ((Below.refl _ _).alloc (Nat.le_refl _) _) (b1.mono (by simp)))
  clear hE h0 hz hmp b1 PP
  go_wp2_with fail
  refine VP.out.mono ?_
  rintro e w2 ⟨rfl, b2⟩
  have hn : ((sizes idL).length : Int) + ([1, 0, 0] : List Int).getD 2 0 = 2 := by rw [sizes_id]; rfl
  rw [hn]
  have B2 := Lib.hid b2
  clear b2 hn VP
  go_wp2_with fail
  go_ret
  exact ⟨rfl, B1.out.trans (B2.out.mono B1.out.size)⟩
end Go.Proofs.YtohlkhffljjodaaDoor
