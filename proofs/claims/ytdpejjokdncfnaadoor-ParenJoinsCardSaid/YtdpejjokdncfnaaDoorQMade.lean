/- made: of bits; the document's example. -/
import Derived.Test.YtdpejjokdncfnaaDoorQNew
import Derived.Test.YtdpejjokdncfnaaDoorBOfG
import Derived.Test.YtdpejjokdncfnaaDoorBAddG
namespace Go.Proofs.YtdpejjokdncfnaaDoor
open Go.RowKit
set_option linter.unusedVariables false
set_option maxRecDepth 20000
theorem PAt.mod {w w' : World} {S : Nat → Prop} {p g V n q : Nat} {d : Bool} (h : PAt w p g V n d q) (m : Mod S w w') (hs : ∀ i, S i → i < g) : PAt w' p g V n d q := by
  obtain ⟨h1, ⟨r, k, hk, hx⟩, H, hb, ht⟩ := h
  exact ⟨h1, ⟨r, k, hk, hx.mod m hs⟩, H, hb.mod m fun hx => by have := hs p hx; omega, ht.mod m fun i hi => by have := hs i hi; omega⟩
def MadeYes (w : World) (A : Option Addr) (m c : Nat) (l : List Nat) (e : Ending) (w' : World) : Prop :=
  ∃ p g, e = .returned (.tuple #[.pointer (some ⟨p, 0, none⟩), .slice A m c, .bool true]) ∧ PAt w' p g (val l) m false 0 ∧ w.heap.size ≤ g ∧ Below w.heap.size w w'
def MadeNo (w : World) (A : Option Addr) (m c : Nat) (e : Ending) (w' : World) : Prop :=
  e = .returned (.tuple #[.pointer none, .slice A m c, .bool false]) ∧ Below w.heap.size w w'
def MadeP (w : World) (A : Option Addr) (m c : Nat) (l : List Nat) (e : Ending) (w' : World) : Prop :=
  (Bal (exc (val l)) m ∧ MadeYes w A m c l e w') ∨ (¬ Bal (exc (val l)) m ∧ MadeNo w A m c e w')
set_option maxHeartbeats 4000000 in
theorem qmade_p (A : Option Addr) (m c : Nat) (l : List Nat) (w : World) (hr : Rd w w.heap.size A m (I64 (ofN l))) (hb : Bin l) (hm : m ≤ 100000) :
    Calls Tryd.prog 16 #[.slice A m c] w (MadeP w A m c l) := by
  have hl : l.length = m := by rw [← ofN_len, ← I64_len, hr.len]
  have NW := Lib.hid (bnew_p w)
  have HR := Lib.hid hr
  have HB := Lib.hid hb
  have HL := Lib.hid hl
  clear hr hb hl
  go_enter Tryd.func16, Tryd.ntmps16
  go_wp2_with fail
  refine NW.out.mono ?_
  rintro e w1 ⟨rfl, hv1, b1⟩
  have hv1' : VecAt w1 w.heap.size (val []) ([] : List Nat).length none := hv1
  have r1 := HR.out.below b1
  have hws : w.heap.size < w1.heap.size := hv1.foot_lt (.inl rfl)
  have AD := Lib.hid (add_p0 w.heap.size [] none A m c (ofN l) w1 hv1' (r1.up (by omega)) (fun h0 i hi hf => by
    obtain ⟨b, o, e, hb, _⟩ := r1.at_ h0
    obtain ⟨a, ea, ei⟩ := hi
    rw [e] at ea
    obtain rfl := Option.some.inj ea
    have := hv1.foot_le hf
    have h9 : b = i := ei
    rcases hf with hf | ⟨b', e', _⟩
    · omega
    · cases e') (by simp; omega))
  rw [bit1_ofN HB.out, List.nil_append, HL.out] at AD
  have HV1 := Lib.hid hv1'
  have B1 := Lib.hid b1
  clear hv1 hv1' r1 b1 NW
  go_wp2_with fail
  refine AD.out.mono ?_
  rintro e w2 hp2
  have b2 := hp2.below HV1.out
  obtain ⟨rfl, Av, hv2, m2, ha2⟩ := hp2
  have XN := Lib.hid (pnew_p w.heap.size (val l) m _ Av w2 hv2)
  have HV2 := Lib.hid hv2
  have B2 : Hid (Below w.heap.size w w2) := B1.out.trans (b2.mono (Nat.le_refl _))
  clear hv2 b2 m2 ha2 AD HV1 B1
  go_wp2_with fail
  refine XN.out.mono ?_
  rintro e w3 hp3
  have key : ∀ w3, Below w2.heap.size w2 w3 → Hid (Calls Tryd.prog 11 #[.pointer (some ⟨w.heap.size, 0, none⟩), .slice (some ⟨w3.heap.size, 0, none⟩) 1 1] (w3.alloc (.cells #[.int .i64 1] 3))
      fun e w' => e = .returned (.tuple #[]) ∧ Mod (foot w.heap.size Av) w3 w' ∧ Below w.heap.size w3 w') := fun w3 b3 => by
    have hv3 := HV2.out.below b3
    have ba := (Below.refl w3.heap.size w3).alloc (Nat.le_refl _) (.cells #[.int .i64 1] 3)
    have hv4 := hv3.below ba
    have r4 := Rd.new w3 3 #[.int .i64 1] 1 (I64 [1]) (by simp [I64]) (by simp)
    have hv4' : VecAt (w3.alloc (.cells #[.int .i64 1] 3)) w.heap.size (val l) l.length Av := by rw [HL.out]; exact hv4
    refine (add_p0 w.heap.size l Av (some ⟨w3.heap.size, 0, none⟩) 1 1 [1] _ hv4' (r4.up (by simp)) (fun _ i hi hf => by
        obtain ⟨a, ea, ei⟩ := hi
        obtain rfl := Option.some.inj ea
        have h1 := hv3.foot_lt hf
        have h2 : w3.heap.size = i := ei
        omega) (by rw [HL.out]; omega)).mono ?_
    rintro e w' hp
    have hbw := hp.below hv4'
    obtain ⟨rfl, _, _, mm, _⟩ := hp
    exact ⟨rfl, (Mod.none_ ba _).trans mm fun _ _ h => h, ((Below.refl w3.heap.size w3).alloc (Nat.le_refl _) (.cells #[.int .i64 1] 3)).mono (by have := HV2.out.foot_lt (.inl rfl); have := b3.size; omega) |>.trans hbw⟩
  rcases hp3 with ⟨hB, p, x, rfl, hpa, hx, b3⟩ | ⟨hB, rfl, b3⟩
  · have K := key w3 b3
    have HPA := Lib.hid hpa
    have B3 : Hid (Below w.heap.size w w3) := B2.out.trans (b3.mono B2.out.size)
    have HBL := Lib.hid hB
    clear hpa b3 hB key XN
    go_wp2_with fail
    refine K.out.mono ?_
    rintro e w4 ⟨rfl, m4, b4⟩
    have h4 := HPA.out.mod m4 fun i hi => by have := HV2.out.foot_lt hi; omega
    have H4 := Lib.hid h4
    have B4 : Hid (Below w.heap.size w w4) := B3.out.trans b4
    have hxw : w.heap.size ≤ x := by have := B2.out.size; omega
    clear h4 m4 b4 K
    go_wp2_with fail
    refine bodyPost_ret (v := .tuple #[.pointer (some ⟨p, 0, none⟩), .slice A m c, .bool true]) (by simp [results, Tryd.results16, go_sem]) rfl ?_
    exact .inl ⟨HBL.out, p, x, rfl, H4.out, hxw, B4.out⟩
  · have K := key w3 b3
    have B3 : Hid (Below w.heap.size w w3) := B2.out.trans (b3.mono B2.out.size)
    have HBL := Lib.hid hB
    clear b3 hB key XN
    go_wp2_with fail
    refine K.out.mono ?_
    rintro e w4 ⟨rfl, m4, b4⟩
    have B4 : Hid (Below w.heap.size w w4) := B3.out.trans b4
    clear m4 b4 K
    go_wp2_with fail
    refine bodyPost_ret (v := .tuple #[.pointer none, .slice A m c, .bool false]) (by simp [results, Tryd.results16, go_sem]) rfl ?_
    exact .inr ⟨HBL.out, rfl, B4.out⟩
/-- The document's example: 110100. -/
theorem bal_ex : Bal (exc 11) 6 := by
  refine ⟨fun i hi => ?_, by decide⟩
  have : i = 0 ∨ i = 1 ∨ i = 2 ∨ i = 3 ∨ i = 4 ∨ i = 5 ∨ i = 6 := by omega
  rcases this with rfl | rfl | rfl | rfl | rfl | rfl | rfl <;> decide
theorem pair_ex : Pair (exc 11) 0 5 := ⟨by decide, by decide, fun k h1 h2 => by
  have : k = 1 ∨ k = 2 ∨ k = 3 ∨ k = 4 ∨ k = 5 := by omega
  rcases this with rfl | rfl | rfl | rfl | rfl <;> decide⟩
theorem round_ex3 : RoundOK (exc 11) 3 0 := fun a ha => by
  obtain rfl : a = 3 := by
    rcases ha with x | x
    · exact x.2
    · exact absurd x.1 (by decide)
  rw [if_neg (by decide)]
  exact ⟨0, rfl, ⟨by decide, by decide, fun k h1 h2 => by
    have : k = 1 ∨ k = 2 := by omega
    rcases this with rfl | rfl <;> decide⟩⟩
theorem round_ex0 : RoundOK (exc 11) 0 (-1) := fun a ha => by
  obtain rfl : a = 0 := by
    rcases ha with x | x
    · exact x.2
    · exact absurd x.1 (by decide)
  rw [if_pos (by decide)]
set_option maxHeartbeats 4000000 in
theorem qawake_p (w : World) (hN : Nul w) :
    Calls Tryd.prog 8 #[] w fun e w' => e = .returned (.bool true) ∧ Below w.heap.size w w' := by
  have b0 := (Below.refl w.heap.size w).alloc (Nat.le_refl _) (.cells #[.int .i64 1, .int .i64 1, .int .i64 0, .int .i64 1, .int .i64 0, .int .i64 0] 3)
  have r0 := Rd.new w 3 #[.int .i64 1, .int .i64 1, .int .i64 0, .int .i64 1, .int .i64 0, .int .i64 0] 6 (I64 (ofN [1, 1, 0, 1, 0, 0])) (by simp [I64, ofN]) (by simp)
  have MD := Lib.hid (qmade_p (some ⟨w.heap.size, 0, none⟩) 6 6 [1, 1, 0, 1, 0, 0] _ (r0.up (by simp)) (by intro x hx; simp at hx; omega) (by omega))
  have hval : val [1, 1, 0, 1, 0, 0] = 11 := by decide
  unfold MadeP MadeYes at MD
  rw [hval] at MD
  have B0 := Lib.hid b0
  have HN0 := Lib.hid (hN.bel b0)
  have hn0 := hN.lt
  have Z0 : Hid ((w.alloc (.cells #[.int .i64 1, .int .i64 1, .int .i64 0, .int .i64 1, .int .i64 0, .int .i64 0] 3)).heap.size = w.heap.size + 1) := by show _ = _; simp
  clear r0 b0 hval hN
  go_enter Tryd.func8, Tryd.ntmps8
  go_wp2_with fail
  refine MD.out.mono ?_
  rintro e w1 (⟨_, p, g, rfl, hp, hg, b1⟩ | ⟨hno, _⟩)
  case inr => exact absurd bal_ex hno
  have hgp := hp.1
  have hgw : w.heap.size < g := by have := Z0.out; omega
  have B1 : Hid (Below w.heap.size w w1) := B0.out.trans (b1.mono (by have := Z0.out; omega))
  have N1 := Lib.hid (HN0.out.bel b1)
  have M1 := Lib.hid (mate_yes p g 11 6 0 false w1 0 N1.out (by show p ≠ 0; omega) hp bal_ex (by omega) (by omega))
  clear hp b1 MD HN0 B0
  have key : ∀ {w1 w2 : World}, Nul w1 → Below w.heap.size w w1 → Mod (Two2 g p) w1 w2 → Nul w2 ∧ Below w.heap.size w w2 := fun {w1 w2} n1 b1 m => by
    exact ⟨n1.mod m fun h => by rcases h with h | h <;> omega, b1.trans (m.belowB b1.size fun i hi h => by rcases h with h | h <;> omega)⟩
  go_wp2_with fail
  refine M1.out.mono ?_
  rintro e w2 ⟨h2, m2, y, rfl, hy, hy1, hy2⟩
  obtain rfl : y = 5 := hy.uniq (exc_Exc 11) ⟨5, rfl, .inl pair_ex⟩
  obtain ⟨n2, b2⟩ := key N1.out B1.out m2
  have R2 := Lib.hid (round_yes p g 11 6 4 true w2 3 n2 (by show p ≠ 0; omega) h2 bal_ex (by omega) (by omega))
  have N2 := Lib.hid n2
  have B2 := Lib.hid b2
  clear h2 m2 hy n2 b2 M1 N1 B1
  go_wp2_with fail
  refine R2.out.mono ?_
  rintro e w3 ⟨h3, m3, y, rfl, hy, hy1, hy2⟩
  obtain rfl : y = 0 := hy.uniq (exc_Exc 11) round_ex3
  obtain ⟨n3, b3⟩ := key N2.out B2.out m3
  have R3 := Lib.hid (round_yes p g 11 6 8 true w3 0 n3 (by show p ≠ 0; omega) h3 bal_ex (by omega) (by omega))
  have N3 := Lib.hid n3
  have B3 := Lib.hid b3
  clear h3 m3 hy n3 b3 R2 N2 B2
  go_wp2_with fail
  refine R3.out.mono ?_
  rintro e w4 ⟨h4, m4, y, rfl, hy, hy1, hy2⟩
  obtain rfl : y = -1 := hy.uniq (exc_Exc 11) round_ex0
  obtain ⟨n4, b4⟩ := key N3.out B3.out m4
  have E4 := Lib.hid (pexc_yes p g 11 6 12 true w4 2 h4 (by omega) (by omega))
  rw [show exc 11 2 = 2 by decide] at E4
  have N4 := Lib.hid n4
  have B4 := Lib.hid b4
  clear h4 m4 hy n4 b4 R3 N3 B3
  go_wp2_with fail
  refine E4.out.mono ?_
  rintro e w5 ⟨rfl, h5, m5⟩
  have B5 := Lib.hid (key N4.out B4.out (mod_g m5)).2
  clear h5 m5 E4 N4 B4 key
  go_wp2_with fail
  go_ret
  exact ⟨rfl, B5.out⟩
end Go.Proofs.YtdpejjokdncfnaaDoor
