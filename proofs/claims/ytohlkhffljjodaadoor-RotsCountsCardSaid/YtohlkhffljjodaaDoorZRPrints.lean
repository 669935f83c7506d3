/- RotsPrints: the walk. -/
import Derived.Test.YtohlkhffljjodaaDoorZRReps
import Derived.Test.YtohlkhffljjodaaDoorZDSame
import Derived.Deep.RegionHeld3
import Derived.Deep.RegionWith
import Derived.Deep.DeepCutAuto
namespace Go.Proofs.YtohlkhffljjodaaDoor
open Go.RowKit
set_option linter.unusedVariables false
set_option maxRecDepth 20000
theorem ErrIs.ok {l b : List Nat} (h : Inv l b) (he : l.length % 2 = 0) {root lone E : Int} (hr : RootOk root l.length) (hl : 0 ≤ lone ∧ lone ≤ 65536) (hE : ErrIs (ofN l) root lone (ofN l).length E) : E = 0 := by
  rw [ofN_len] at hE
  rcases hE with ⟨_, c | c⟩ | ⟨_, _, _, c | c⟩ | ⟨_, _, _, _, _, c⟩ | ⟨c, _⟩
  · exact absurd h.good c
  · omega
  · omega
  · exact absurd hr c
  · omega
  · exact c
/-- A map's text that was printed is read as the map. -/
theorem parse_text {l b D : List Nat} (h : Inv l b) (he : l.length % 2 = 0) (R : Reps l D) (hl : l.length ≤ 1000) {root lone : Int} (hr : RootOk root l.length) (hlo : 0 ≤ lone ∧ lone ≤ 65536) (A : Option Addr) (c B : Nat) (m : Int) (w : World)
    (hrd : Rd w B A (textD l D root lone).length (Z8 (textD l D root lone))) (hnc : (textD l D root lone).length ≤ c) (hc : c ≤ maxLen) (hA : A = none → c = 0) (hB : B ≤ w.heap.size)
    (hm : w.cell? ⟨0, 0, none⟩ = some (.int .i64 m)) :
    Calls Tryd.prog 12 #[.slice A (textD l D root lone).length c] w fun e w' => Below w.heap.size w w' ∧ ∃ g b', e = .returned (.tuple #[.pointer (some ⟨g, 0, none⟩), .int .i64 ((D.length : Int) + 1), .int .i64 0]) ∧ MapAt w' g l b' root lone ∧ MapLo w.heap.size w' g := by
  have hrb : -1 ≤ root ∧ root < 1000000000 := by
    unfold RootOk at hr; omega
  have hlb : 0 ≤ lone ∧ lone < 1000000000 := by omega
  have hlen := textD_len h R (by omega) hrb hlb
  have hD := R.len_le h
  refine (parse_p A _ c B _ m w hrd (textD_byt h R (by omega) hrb hlb) hnc hc hA (by omega) hB hm).mono ?_
  rintro e w' ⟨hb, hv⟩
  rw [textD_read h R (by omega) hrb hlb] at hv
  simp only [List.drop_succ_cons, List.drop_zero, List.getD_cons_zero] at hv
  rw [rows_turns (R.rows h) he] at hv
  simp only at hv
  obtain ⟨E, hE, _, h0⟩ := hv
  obtain ⟨g, m', b', e1, hz, hmp, hlo'⟩ := h0 (ErrIs.ok h he (root := root) (lone := lone) hr hlo hE)
  obtain rfl : l = m' := ofN_inj hz
  refine ⟨hb, g, b', ?_, hmp, hlo'⟩
  rw [e1, List.length_cons, rowsD_len]; rfl
set_option maxHeartbeats 8000000 in
theorem rotsPrints_walk (n r lo m c : Nat) (A : Option Addr) (by_ : List Int) (mx : Int) (w : World) (h0 : Rd w w.heap.size A m (Z8 by_)) (hb0 : ∀ x ∈ by_, 0 ≤ x ∧ x < 256) (hmc : m ≤ c) (hcm : c ≤ maxLen) (hn : n < 256) (hr : r < 256) (hlo : lo < 256)
    (hm : w.cell? ⟨0, 0, none⟩ = some (.int .i64 mx)) (htab : Lib.TabIs Tryd.prog w "internal/strconv.uint64pow10" .u64 Lib.pow10Tab) :
    Calls Tryd.prog 3 #[.int .u8 (n : Int), .slice A m c, .int .u8 (r : Int), .int .u8 (lo : Int)] w fun e w' => e = .returned (.bool true) ∧ Below w.heap.size w w' := by
  unfold maxLen at hcm
  have AW := Lib.hid (awake7_p mx w hm)
  have hmlt := World.block_lt_of_cell? _ _ hm
  have HMX := Lib.hid hm
  have HTB := Lib.hid (Lib.tabBelow_of_tabIs htab)
  obtain ⟨k, hk, hk9⟩ : ∃ k, Hid (k = n % 15) ∧ k < 15 := ⟨_, rfl, Nat.mod_lt _ (by decide)⟩
  have e1 : (n : Int) % 15 = (k : Int) := by have := hk.out; omega
  have H0 := Lib.hid h0
  have HB0 := Lib.hid hb0
  clear h0 hb0 hm htab
  go_enter Tryd.func3, Tryd.ntmps3
  go_wp2_with fail
  refine AW.out.mono ?_
  rintro e w1 ⟨rfl, b1⟩
  have B1 := Lib.hid b1
  have AN := Lib.hid (any_p k r m c _ A by_ w1 (H0.out.below b1) HB0.out b1.size (by omega) hr (by omega))
  clear b1 AW
  go_wp2_with fail
  refine AN.out.mono ?_
  rintro e w2 ⟨v, l, b, root, rfl, hrm, hl, hroot, b2⟩
  obtain ⟨hinv, A2, c2, hla, rfl, hc2, hm2, r2⟩ := hrm
  have hev : l.length % 2 = 0 := by omega
  have hl28 : l.length ≤ 28 := by omega
  rw [← hl] at hroot
  have hRT := Lib.hid hroot
  have HI := Lib.hid hinv
  have HEV := Lib.hid hev
  have B2 : Hid (Below w.heap.size w w2) := B1.out.trans (b2.mono B1.out.size)
  have hbx := (Below.refl w2.heap.size w2).alloc (Nat.le_refl _) (.cells #[.slice A2 l.length c2, .int .i64 root, .int .i64 (lo : Int)] 26)
  have rx : Rd (w2.alloc (.cells #[.slice A2 l.length c2, .int .i64 root, .int .i64 (lo : Int)] 26)) _ A2 l.length (I64 (ofN l)) := r2.more hbx
  have NO := Lib.hid (new_ok A2 l.length c2 l b root (lo : Int) _ rx hinv hev (by omega) hroot (by omega) (by omega))
  have HBX := Lib.hid (Blk.new w2 26 #[.slice A2 l.length c2, .int .i64 root, .int .i64 (lo : Int)])
  have B3 : Hid (Below w.heap.size w (w2.alloc (.cells #[.slice A2 l.length c2, .int .i64 root, .int .i64 (lo : Int)] 26))) := B2.out.trans (hbx.mono B2.out.size)
  have RX := Lib.hid rx
  clear hla hl hroot b2 r2 rx hbx AN hc2 hm2 hinv B1 hev
  go_wp2_with fail
  refine NO.out.mono ?_
  rintro e w4 ⟨g, rfl, hmap, b4, hmlo⟩
  generalize hw3 : w2.alloc (.cells #[.slice A2 l.length c2, .int .i64 root, .int .i64 (lo : Int)] 26) = w3 at *
  have hs23 : w3.heap.size = w2.heap.size + 1 := by rw [← hw3]; simp
  have HX4 := Lib.hid (HBX.out.below b4)
  have HM4 := Lib.hid hmap
  have R4 := Lib.hid (RX.out.more b4)
  have B4 : Hid (Below w.heap.size w w4) := B3.out.trans (b4.mono B3.out.size)
  have hs4 : w2.heap.size < w4.heap.size := by have := b4.size; omega
  have hrb : -1 ≤ root ∧ root ≤ 131072 := by
    have := hRT.out; unfold RootOk at this; omega
  have PR := Lib.hid (print_p g l b root (lo : Int) w4 HM4.out (by omega) (HTB.out w4 B4.out))
  clear hmap hmlo b4 NO HBX RX B3 hw3 hs23
  go_wp2_with fail
  refine PR.out.mono ?_
  rintro e w5 ⟨A5, c5, rfl, q1, q2, ho5, b5⟩
  have RL := Lib.hid (Reps.leads HI.out)
  rw [textD_leads] at ho5 q1 ⊢
  have HRP := Lib.hid (fun A c B W a1 a2 a3 a4 a5 a6 => parse_text HI.out HEV.out RL.out (by omega) hRT.out (lone := (lo : Int)) (by omega) A c B mx W a1 a2 a3 a4 a5 a6)
  have hbd : -1 ≤ root ∧ root < 1000000000 := by omega
  have hlb : 0 ≤ (lo : Int) ∧ (lo : Int) < 1000000000 := by omega
  have HBY := Lib.hid (textD_byt HI.out RL.out (by omega) hbd hlb)
  have HCT := Lib.hid (textD_count HI.out RL.out (by omega) hbd hlb)
  have hTL := textD_len HI.out RL.out (by omega) hbd hlb
  have hDL := RL.out.len_le HI.out
  have RPP : Hid (∀ W, Rd W W.heap.size A2 l.length (I64 (ofN l)) → Calls Tryd.prog 11 #[.agg #[.slice A2 l.length c2, .int .i64 root, .int .i64 (lo : Int)]] W fun e w' => e = .returned (.string (strOfNums (textD l (leads l l.length) root (lo : Int)))) ∧ Below W.heap.size W w') := fun W hW => by
    have := refprint_p A2 c2 l b root (lo : Int) W hW HI.out (by omega) hrb (by omega)
    rwa [textD_leads] at this
  have hSZ : Hid ((leads l l.length).length = (sizes l).length) := by show _ = _; rw [sizes_len]; simp [orbits]
  generalize textD l (leads l l.length) root (lo : Int) = T at *
  generalize (leads l l.length).length = d at *
  have B5 : Hid (Below w.heap.size w w5) := B4.out.trans (b5.mono B4.out.size)
  have HO5 := Lib.hid ho5
  have HM5 := Lib.hid (HM4.out.below b5)
  have R5 := Lib.hid (R4.out.more b5)
  have HX5 := Lib.hid (HX4.out.below b5)
  have hs5 : w2.heap.size < w5.heap.size := Nat.lt_of_lt_of_le hs4 b5.size
  have HCAP := Lib.hid (own_cap ho5)
  clear ho5 b5 PR R4 HX4 HM4 hs4
  have SK : Hid (∀ w', Below w5.heap.size w5 w' → Below w5.heap.size w5 w' ∧ (convert 22 9 (.slice A5 T.length c5)).run Tryd.prog w' = .ok (.string (strOfNums T)) w' ∧ w'.cell? ⟨w2.heap.size, 0, none⟩ = some (.slice A2 l.length c2) ∧ w'.cell? ⟨w2.heap.size, 1, none⟩ = some (.int .i64 root) ∧ w'.cell? ⟨w2.heap.size, 2, none⟩ = some (.int .i64 (lo : Int))) := fun w' hb => by
    refine ⟨hb, conv8 A5 T.length c5 w'.heap.size T w' (Rd.ofOwn (own_below HO5.out hb)), ?_, ?_, ?_⟩
    · exact (hb.cell (p := ⟨w2.heap.size, 0, none⟩) hs5).trans (HX5.out.cell 0)
    · exact (hb.cell (p := ⟨w2.heap.size, 1, none⟩) hs5).trans (HX5.out.cell 1)
    · exact (hb.cell (p := ⟨w2.heap.size, 2, none⟩) hs5).trans (HX5.out.cell 2)
  have K1 : Hid (∀ W, Below w5.heap.size w5 W → Calls Tryd.prog 11 #[.agg #[.slice A2 l.length c2, .int .i64 root, .int .i64 (lo : Int)]] W fun e w' => e = .returned (.string (strOfNums T)) ∧ Below w5.heap.size w5 w') := fun W hb => (RPP.out W (R5.out.more hb)).mono fun e w' ⟨he, hb'⟩ => ⟨he, hb.trans (hb'.mono hb.size)⟩
  generalize hS : strOfNums T = S at *
  clear hS RPP
  go_wp2_with fail
  have hba0 := Below.refl w5.heap.size w5
  have hba1 := hba0.drew
  go_cut [51] (fun s wx => s = .bool false ∧ Below w5.heap.size w5 wx)
  case first =>
    go_region_held3 (fun w' => Below w5.heap.size w5 w' ∧ (convert 22 9 (.slice A5 T.length c5)).run Tryd.prog w' = .ok (.string S) w' ∧ w'.cell? ⟨w2.heap.size, 0, none⟩ = some (.slice A2 l.length c2) ∧ w'.cell? ⟨w2.heap.size, 1, none⟩ = some (.int .i64 root) ∧ w'.cell? ⟨w2.heap.size, 2, none⟩ = some (.int .i64 (lo : Int)))
      (exact SK.out _ (by assumption))
      (first
      | (go_at_call 11; (with_reducible refine (K1.out _ (by assumption)).mono ?_); rintro e wa ⟨rfl, hba⟩))
    all_goals (go_wp2_with fail; go_meet; exact ⟨rfl, hba⟩)
  case rest =>
    obtain ⟨rfl, b6⟩ := hcut
    obtain ⟨w6, rfl⟩ : ∃ w6, w6 = wc := ⟨_, rfl⟩
    have B6 : Hid (Below w.heap.size w w6) := B5.out.trans (b6.mono B5.out.size)
    have HO6 := Lib.hid (own_below HO5.out b6)
    have HM6 := Lib.hid (HM5.out.below b6)
    have PP := Lib.hid (HRP.out A5 c5 w6.heap.size w6 (Rd.ofOwn HO6.out) q1 q2 HCAP.out (Nat.le_refl _) ((B6.out.cell (p := ⟨0, 0, none⟩) hmlt).trans HMX.out))
    clear b6 SK K1 HO5 HM5 HX5 R5 hba0 hba1 HRP
    go_wp2_with fail
    refine PP.out.mono ?_
    rintro e w7 ⟨b7, g', b', rfl, hmp', hlo'⟩
    have B7 : Hid (Below w.heap.size w w7) := B6.out.trans (b7.mono B6.out.size)
    have HO7 := Lib.hid (own_below HO6.out b7)
    have HM7 := Lib.hid (HM6.out.below b7)
    have HN7 := Lib.hid hmp'
    have K1 : Hid (∀ W, Below w7.heap.size w7 W → Calls Tryd.prog 13 #[.pointer (some ⟨g', 0, none⟩), .pointer (some ⟨g, 0, none⟩)] W fun e w' => e = .returned (.bool true) ∧ Below w7.heap.size w7 w') := fun W hb => by
      have := dsame_p g' g l b' l b root (lo : Int) root (lo : Int) W (HN7.out.below hb) (HM7.out.below hb)
      rw [decide_eq_true (show root = root ∧ (lo : Int) = (lo : Int) ∧ l = l from ⟨rfl, rfl, rfl⟩)] at this
      exact this.mono fun e w' ⟨he, hb'⟩ => ⟨he, hb.trans (hb'.mono hb.size)⟩
    have K2 : Hid (∀ W, Below w7.heap.size w7 W → Calls Tryd.prog 14 #[.slice A5 T.length c5] W fun e w' => e = .returned (.int .i64 ((d : Int) + 1)) ∧ Below w7.heap.size w7 w') := fun W hb => by
      have := lines_p A5 T.length c5 W.heap.size T W (Rd.ofOwn (own_below HO7.out hb)) HBY.out HCAP.out
      rw [HCT.out] at this
      exact this.mono fun e w' ⟨he, hb'⟩ => ⟨he, hb.trans (hb'.mono hb.size)⟩
    have K3 : Hid (∀ W, Below w7.heap.size w7 W → Calls Tryd.prog 15 #[.pointer (some ⟨g, 0, none⟩)] W fun e w' => e = .returned (.int .i64 ((d : Int) + (lo : Int))) ∧ Below w7.heap.size w7 w') := fun W hb => by
      have := vertices_p g l b root (lo : Int) W (HM7.out.below hb)
      rw [← hSZ.out] at this
      exact this.mono fun e w' ⟨he, hb'⟩ => ⟨he, hb.trans (hb'.mono hb.size)⟩
    have K4 : Hid (∀ W, Below w7.heap.size w7 W → Calls Tryd.prog 16 #[.pointer (some ⟨g, 0, none⟩)] W fun e w' => e = .returned (.int .i64 (lo : Int)) ∧ Below w7.heap.size w7 w') := fun W hb =>
      (lone_p g l b root (lo : Int) W (HM7.out.below hb)).mono fun e w' ⟨he, hw⟩ => ⟨he, hw ▸ hb⟩
    have w1 : IntKind.i64.wrap (1 + ((d : Int) + (lo : Int))) = 1 + ((d : Int) + (lo : Int)) := by simp [IntKind.wrap, IntKind.signed, IntKind.bits]; omega
    have w2' : IntKind.i64.wrap (1 + ((d : Int) + (lo : Int)) - (lo : Int)) = (d : Int) + 1 := by simp [IntKind.wrap, IntKind.signed, IntKind.bits]; omega
    clear b7 hmp' hlo' PP HO6 HM6 B6 HMX HTB
    go_wp2_with fail
    refine (K1.out _ (Below.refl _ _)).mono ?_
    rintro e w8 ⟨rfl, hb8⟩
    go_wp2_with fail
    refine (K2.out _ hb8).mono ?_
    rintro e w9 ⟨rfl, hb9⟩
    go_wp2_with fail
    refine (K3.out _ hb9).mono ?_
    rintro e w10 ⟨rfl, hb10⟩
    go_wp2_with fail
    refine (K4.out _ hb10).mono ?_
    rintro e w11 ⟨rfl, hb11⟩
    go_wp2_with fail
    go_ret
    exact ⟨rfl, B7.out.trans (hb11.mono B7.out.size)⟩
end Go.Proofs.YtohlkhffljjodaaDoor
