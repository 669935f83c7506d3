/- What an act does to a map, by its kind, and its error: the program's Do, for any act. Bytes read as acts: the program's Read. An act at darts of a map of n: the program's among. -/
import Derived.Test.YtgcbdoljapnecaaGreatZg2
import Derived.Test.YtgcbdoljapnecaaGreatZg5
import Derived.Test.YtgcbdoljapnecaaGreatZCnIs
import Derived.Test.YtgcbdoljapnecaaGreatZUCut
import Derived.Test.YtgcbdoljapnecaaGreatZDMap2
import Derived.Laws.OwnMore
import Derived.Deep.RegionLaw
namespace Go.Proofs.YtgcbdoljapnecaaGreat
set_option maxRecDepth 100000
open Go.RowKit
set_option linter.unusedVariables false
open Classical in
noncomputable def canP (l : List Nat) (root : Int) : List Nat := if h : ∃ P Q, CanO l root P Q then h.choose else []
open Classical in
noncomputable def canQ (l : List Nat) (root : Int) : List Nat := if h : ∃ P Q, CanO l root P Q then h.choose_spec.choose else []
theorem canPQ {l b : List Nat} {root : Int} (hi : Inv l b) (he : l.length % 2 = 0) (hr : RootOk root l.length) : CanO l root (canP l root) (canQ l root) := by
  have h := canO_is hi he hr
  unfold canP canQ
  rw [dif_pos h, dif_pos h]
  exact h.choose_spec.choose_spec
/-- The error of an act. -/
noncomputable def actE (k : Int) (l : List Nat) (d e : Int) : Int :=
  if 0 ≤ k ∧ k < 5 then growE k.toNat l d e
  else if k = 5 then (if d < 0 ∨ (l.length : Int) ≤ d then 5 else 0)
  else if k = 6 ∨ k = 7 ∨ k = 10 then 0
  else if k = 8 ∨ k = 9 then (if d < 0 ∨ (l.length : Int) ≤ d then 1 else if k = 9 ∧ nameOf l (2 * (d.toNat / 2)) = nameOf l (2 * (d.toNat / 2) + 1) then 8 else 0)
  else 15
noncomputable def actL (k : Int) (l b : List Nat) (root d e : Int) : List Nat :=
  if 0 ≤ k ∧ k < 5 then (growO k.toNat l b d.toNat e.toNat).1
  else if k = 6 then phiL l else if k = 7 then b
  else if k = 8 then woN l l (d.toNat / 2) else if k = 9 then woN l (phiL l) (d.toNat / 2)
  else if k = 10 then cjL (canP l root) (canQ l root) l else l
noncomputable def actT (k : Int) (l b : List Nat) (root d : Int) : Int :=
  if k = 5 then d else if k = 8 ∨ k = 9 then heirN l b root.toNat (d.toNat / 2) else if k = 10 then reRoot (canP l root) root else root
noncomputable def actN (k : Int) (l : List Nat) (lone d : Int) : Int :=
  if k = 8 then lone + (zerTo (besN l lone (d.toNat / 2)) (besN l lone (d.toNat / 2)).length : Nat)
  else if k = 9 then lone + (if degOf l lone (nameOf l (2 * (d.toNat / 2)) : Nat) + degOf l lone (nameOf l (2 * (d.toNat / 2) + 1) : Nat) = 2 then 1 else 0)
  else lone
/-- What the program's Do answers. -/
def ActR (k : Int) (l b : List Nat) (root lone d e : Int) (w : World) (p : Option Addr) (x : Int) (w' : World) : Prop :=
  x = actE k l d e ∧ Below w.heap.size w w' ∧ ((x = 0 ∧ ∃ g' b', p = some ⟨g', 0, none⟩ ∧ Inv (actL k l b root d e) b' ∧ MapAt w' g' (actL k l b root d e) b' (actT k l b root d) (actN k l lone d)) ∨ (x ≠ 0 ∧ p = none))
section
variable {g : Nat} {l b : List Nat} {root lone d e : Int} {w : World}
theorem ActR.ofGrow {j : Nat} {k : Int} (hj : j < 5) (hk : k = (j : Int)) (hi : Inv l b) (hev : l.length % 2 = 0) {W w' : World} (m : Below w.heap.size w W) {p : Option Addr} {x : Int} (h : GrowR j l b root lone d e W p x w') : ActR k l b root lone d e w p x w' := by
  subst hk
  obtain ⟨q1, q2, q3⟩ := h
  have c : 0 ≤ (j : Int) ∧ (j : Int) < 5 := by omega
  have n5 : ¬ (j : Int) = 5 := by omega
  have n8 : ¬ (j : Int) = 8 := by omega
  have n9 : ¬ (j : Int) = 9 := by omega
  have n10 : ¬ (j : Int) = 10 := by omega
  refine ⟨by unfold actE; rw [if_pos c]; exact q1, m.trans (q2.mono m.size), ?_⟩
  rcases q3 with ⟨h0, g', z1, z2⟩ | z
  · refine .inl ⟨h0, g', (growO j l b d.toNat e.toNat).2, z1, ?_, ?_⟩
    · have := (growO_inv hi hev hj (q1.symm.trans h0)).1
      unfold actL; rw [if_pos c]; exact this
    · have e1 : actL (j : Int) l b root d e = (growO j l b d.toNat e.toNat).1 := by unfold actL; rw [if_pos c]; rfl
      have e2 : actT (j : Int) l b root d = root := by unfold actT; rw [if_neg n5, if_neg (by omega), if_neg n10]
      have e3 : actN (j : Int) l lone d = lone := by unfold actN; rw [if_neg n8, if_neg n9]
      rw [e1, e2, e3]; exact z2
  · exact .inr z
theorem sdo_a (k : Int) (hd : d < 2 ^ 63) (h : MapAt w g l b root lone) (hi : Inv l b) (hr : RootOk root l.length) (hn : l.length ≤ 30000) (hl1 : lone ≤ 60000) :
    Calls Tryz.prog 20 #[.pointer (some ⟨g, 0, none⟩), .agg #[.int .i64 k, .int .i64 d, .int .i64 e]] w (TwoR (ActR k l b root lone d e w)) := by
  have hev := h.1.1
  have hl0 := h.1.2.1
  have keep : ∀ {P : Prop} {w' : World} {W : World}, Below w.heap.size w W → Below W.heap.size W w' → Below w.heap.size w w' := fun m q => m.trans (q.mono m.size)
  by_cases hk : 0 ≤ k ∧ k ≤ 10
  · have hkk : k = 0 ∨ k = 1 ∨ k = 2 ∨ k = 3 ∨ k = 4 ∨ k = 5 ∨ k = 6 ∨ k = 7 ∨ k = 8 ∨ k = 9 ∨ k = 10 := by omega
    have edge : ¬ (d < 0 ∨ (l.length : Int) ≤ d) → edgeI d = ((d.toNat / 2 : Nat) : Int) ∧ d.toNat / 2 < l.length / 2 ∧ root = ((root.toNat : Nat) : Int) ∧ root.toNat < l.length := fun c => by
      unfold edgeI
      rw [if_neg (by omega)]
      rcases hr with ⟨r1, r2⟩ | ⟨r1, r2, r3⟩
      · omega
      · exact ⟨by omega, by omega, by omega, by omega⟩
    have edgo : (d < 0 ∨ (l.length : Int) ≤ d) → edgeI d < 0 ∨ ((l.length / 2 : Nat) : Int) ≤ edgeI d := fun c => by
      unfold edgeI
      split <;> omega
    rcases hkk with rfl | rfl | rfl | rfl | rfl | rfl | rfl | rfl | rfl | rfl | rfl
    · exact sdo_k0 g d e w _ fun W m => (leaf_a (e := e) (h.below m) hi hr hn).mono fun en w' ⟨p, x, q1, q2⟩ => ⟨p, x, q1, ActR.ofGrow (j := 0) (by omega) rfl hi hev m q2⟩
    · exact sdo_k1 g d e w _ fun W m => (chord_a (h.below m) hi hr hn).mono fun en w' ⟨p, x, q1, q2⟩ => ⟨p, x, q1, ActR.ofGrow (j := 1) (by omega) rfl hi hev m q2⟩
    · exact sdo_k2 g d e w _ fun W m => (split_a (e := e) (h.below m) hi hr hn).mono fun en w' ⟨p, x, q1, q2⟩ => ⟨p, x, q1, ActR.ofGrow (j := 2) (by omega) rfl hi hev m q2⟩
    · exact sdo_k3 g d e w _ fun W m => (star_a (e := e) (h.below m) hi hr hn).mono fun en w' ⟨p, x, q1, q2⟩ => ⟨p, x, q1, ActR.ofGrow (j := 3) (by omega) rfl hi hev m q2⟩
    · exact sdo_k4 g d e w _ fun W m => (flip_a (e := e) (h.below m) hi hr hn).mono fun en w' ⟨p, x, q1, q2⟩ => ⟨p, x, q1, ActR.ofGrow (j := 4) (by omega) rfl hi hev m q2⟩
    · refine sdo_k5 g d e w _ fun W m => ?_
      by_cases c : d < 0 ∨ (l.length : Int) ≤ d
      · refine (rooted_out g l b root lone d W (h.below m) c).mono fun en w' ⟨q1, q2⟩ => ⟨none, 5, q1, ?_, m.trans (q2.mono m.size), .inr ⟨by omega, rfl⟩⟩
        unfold actE; rw [if_neg (by omega), if_pos rfl, if_pos c]
      · obtain ⟨dn, rfl⟩ : ∃ dn : Nat, d = (dn : Int) := ⟨d.toNat, by omega⟩
        refine (rooted_in g l b root lone dn W (h.below m) (by omega)).mono fun en w' ⟨g', q1, q2, q3⟩ => ⟨_, 0, q1, ?_, m.trans (q3.mono m.size), .inl ⟨rfl, g', b, rfl, hi, q2⟩⟩
        unfold actE; rw [if_neg (by omega), if_pos rfl, if_neg c]
    · refine sdo_k6 g d e w _ fun W m => (dual_p g l b root lone W (h.below m) hi hr).mono fun en w' ⟨g', q1, q2, q3⟩ => ⟨_, q1, ?_, m.trans (q3.mono m.size), .inl ⟨rfl, g', _, rfl, phi_inv hi hev, q2⟩⟩
      unfold actE; rw [if_neg (by omega), if_neg (by omega), if_pos (by omega)]
    · refine sdo_k7 g d e w _ fun W m => (mirror_p g l b root lone W (h.below m) hi hr).mono fun en w' ⟨g', q1, q2, q3⟩ => ⟨_, q1, ?_, m.trans (q3.mono m.size), .inl ⟨rfl, g', _, rfl, hi.symm, q2⟩⟩
      unfold actE; rw [if_neg (by omega), if_neg (by omega), if_pos (by omega)]
    · refine sdo_k8 g d e w _ hd fun W m => ?_
      by_cases c : d < 0 ∨ (l.length : Int) ≤ d
      · refine (cut_out g l b root lone (edgeI d) W (h.below m) (edgo c)).mono fun en w' ⟨q1, q2⟩ => ⟨none, 1, q1, ⟨?_, m.trans (q2.mono m.size), .inr ⟨by omega, rfl⟩⟩, q2⟩
        unfold actE; rw [if_neg (by omega), if_neg (by omega), if_neg (by omega), if_pos (by omega), if_pos c]
      · obtain ⟨e1, e2, e3, e4⟩ := edge c
        have hm := h.below m
        rw [e3] at hm
        rw [e1]
        refine (cut_p g l b root.toNat (d.toNat / 2) lone W hm hi e4 e2 hl0 hl1).mono fun en w' ⟨b', q0, g', q1, q2, q3, q4⟩ => ⟨_, 0, q1, ⟨?_, m.trans (q3.mono m.size), .inl ⟨rfl, g', b', rfl, q0, q2⟩⟩, q3⟩
        unfold actE; rw [if_neg (by omega), if_neg (by omega), if_neg (by omega), if_pos (by omega), if_neg c, if_neg (by omega)]
    · refine sdo_k9 g d e w _ hd fun W m => ?_
      by_cases c : d < 0 ∨ (l.length : Int) ≤ d
      · refine (shrink_out g l b root lone (edgeI d) W (h.below m) (edgo c)).mono fun en w' ⟨q1, q2⟩ => ⟨none, 1, q1, ⟨?_, m.trans (q2.mono m.size), .inr ⟨by omega, rfl⟩⟩, q2⟩
        unfold actE; rw [if_neg (by omega), if_neg (by omega), if_neg (by omega), if_pos (by omega), if_pos c]
      · obtain ⟨e1, e2, e3, e4⟩ := edge c
        rw [e1]
        by_cases hnm : nameOf l (2 * (d.toNat / 2)) = nameOf l (2 * (d.toNat / 2) + 1)
        · refine (shrink_loop g l b root lone (d.toNat / 2) W (h.below m) e2 hnm).mono fun en w' ⟨q1, q2⟩ => ⟨none, 8, q1, ⟨?_, m.trans (q2.mono m.size), .inr ⟨by omega, rfl⟩⟩, q2⟩
          unfold actE; rw [if_neg (by omega), if_neg (by omega), if_neg (by omega), if_pos (by omega), if_neg c, if_pos ⟨rfl, hnm⟩]
        · have hm := h.below m
          rw [e3] at hm
          refine (shrink_p g l b root.toNat (d.toNat / 2) lone W hm hi e4 e2 hl0 hl1 hnm).mono fun en w' ⟨b', q0, g', q1, q2, q3, q4⟩ => ⟨_, 0, q1, ⟨?_, m.trans (q3.mono m.size), .inl ⟨rfl, g', b', rfl, q0, q2⟩⟩, q3⟩
          unfold actE; rw [if_neg (by omega), if_neg (by omega), if_neg (by omega), if_pos (by omega), if_neg c, if_neg (fun q => hnm q.2)]
    · have hC := canPQ hi hev hr
      refine sdo_k10 g d e w _ fun W m => (canon_any g l b root lone _ _ W (h.below m) hi hC).mono fun en w' ⟨g', gp, q1, q2, q3, q4⟩ => ⟨_, _, 0, q1, ?_, m.trans (q4.mono m.size), .inl ⟨rfl, g', _, rfl, cj_inv (CanO.nam (b := b) hC) hi, q2⟩⟩
      unfold actE; rw [if_neg (by omega), if_neg (by omega), if_pos (by omega)]
  · have hE : actE k l d e = 15 := by unfold actE; rw [if_neg (by omega), if_neg (by omega), if_neg (by omega), if_neg (by omega)]
    exact (sdo_none g k d e w (by omega)).mono fun en w' ⟨q1, q2⟩ => ⟨none, 15, q1, hE.symm, q2, .inr ⟨by omega, rfl⟩⟩
end
end Go.Proofs.YtgcbdoljapnecaaGreat
namespace Go.Proofs.YtgcbdoljapnecaaGreat
set_option maxRecDepth 100000
open Go.RowKit
set_option linter.unusedVariables false
set_option linter.unusedSimpArgs false
theorem info_act : ∃ i, Tryz.prog.info? 41 = some i ∧ i.zero = some (.agg #[.int .i64 0, .int .i64 0, .int .i64 0]) ∧ i.size = 3 ∧ i.bytes = 24 := by
  have h : (Tryz.prog.info? 41).map (fun i => (i.zero, i.size, i.bytes)) = some (some (.agg #[.int .i64 0, .int .i64 0, .int .i64 0]), 3, 24) := by kernel_rfl
  obtain ⟨i, hi, e⟩ := Option.map_eq_some_iff.1 h
  simp only [Prod.mk.injEq] at e
  exact ⟨i, hi, e.1, e.2.1, e.2.2⟩
/-- The number at place j of the acts' cells. -/
def rdA (bs : List Int) (j : Nat) : Int := if j % 3 = 0 then bs.getD j 0 % 11 else bs.getD j 0
section
variable {w : World} {base g n c : Nat} {e : TypeId} {y : List Int}
theorem own_set3 (h : w.ownsRow base e 3 (.slice (some ⟨g, 0, none⟩) n c) n (I64 y)) (k : Nat) (v : Int) :
    (w.setCell ⟨g, k, none⟩ (.int .i64 v)).ownsRow base e 3 (.slice (some ⟨g, 0, none⟩) n c) n (I64 (y.set k v)) := by
  rw [I64_set]; exact (h.stored k _).1
theorem own_cell3 (h : w.ownsRow base e 3 (.slice (some ⟨g, 0, none⟩) n c) n (I64 y)) (k : Nat) (hk : k < n * 3) :
    w.cell? ⟨g, k, none⟩ = some (.int .i64 (y.getD k 0)) := by
  have hl : y.length = n * 3 := by have := h.1; rw [I64_len] at this; omega
  rw [h.cellAt k (by omega), I64_get y k (by omega)]
end
theorem Rd.z8Y {w : World} {B n : Nat} {A : Option Addr} {bs : List Int} (h : Rd w B A n (Z8 bs)) (h0 : 0 < n) :
    ∃ b o, A = some ⟨b, o, none⟩ ∧ b < B ∧ ∀ j, j < n → w.cell? ⟨b, o + j, none⟩ = some (.int .u8 (bs.getD j 0)) := by
  obtain ⟨b, o, e, hb, hc⟩ := h.at_ h0
  have hl : bs.length = n := by have := h.len; simpa [Z8] using this
  refine ⟨b, o, e, hb, fun j hj => ?_⟩
  rw [hc j (by simp [Z8]; omega)]
  simp [Z8, List.getD_eq_getElem?_getD, List.getElem?_eq_getElem (show j < bs.length by omega)]
/-- The acts of the bytes, in memory of the call's own. -/
def ReadP (w : World) (bs : List Int) (q : Nat) (e : Ending) (w' : World) : Prop :=
  ∃ g y, e = .returned (.slice (some ⟨g, 0, none⟩) q q) ∧ w'.ownsRow w.heap.size 41 3 (.slice (some ⟨g, 0, none⟩) q q) q (I64 y) ∧ (∀ j, j < 3 * q → y.getD j 0 = rdA bs j) ∧ Below w.heap.size w w'
set_option maxHeartbeats 16000000 in
theorem sread_p (A : Option Addr) (n c q : Nat) (bs : List Int) (w : World) (h : Rd w w.heap.size A n (Z8 bs)) (hb : ∀ x ∈ bs, 0 ≤ x ∧ x < 256) (hn : n ≤ 300) (hnc : n ≤ c) (hc : c ≤ maxLen) (hq : q = n / 3) :
    Calls Tryz.prog 23 #[.slice A n c] w (ReadP w bs q) := by
  obtain ⟨i0, hi0, hz0, hz1, hz2⟩ := info_act
  obtain ⟨w1, hmk, hown, hgr⟩ := run_make_full (P := Tryz.prog) w w.heap.size 50 41 i0 (.agg #[.int .i64 0, .int .i64 0, .int .i64 0]) 3 Tryz.underlying50 hi0 hz0 hz1 .i64 .i64 q (by rw [hz2]; omega) (by simp [maxLen]; omega) (Nat.le_refl _)
  have hmc : (madeCells (Value.agg #[.int .i64 0, .int .i64 0, .int .i64 0]).cells (q * 3)).toList = I64 (List.replicate (q * 3) 0) := by
    apply List.ext_getElem?
    intro j
    by_cases hj : j < q * 3
    · have h3 : j % 3 < 3 := Nat.mod_lt _ (by omega)
      have : j % 3 = 0 ∨ j % 3 = 1 ∨ j % 3 = 2 := by omega
      simp [madeCells, I64, hj, Value.cells]
      rcases this with c | c | c <;> simp [c]
    · simp [madeCells, I64, hj]
  rw [hmc] at hown
  have b1 : Below w.heap.size w w1 := (Below.refl _ _).grown hgr (Nat.le_refl _) (fun k hk => by cases hk)
  have HO1 := Lib.hid hown
  have HB1 := Lib.hid b1
  have HR := Lib.hid h
  have HBB := Lib.hid hb
  have e1 : (n : Int) / 3 = (q : Int) := by omega
  have e1t : (n : Int).tdiv 3 = (q : Int) := by rw [Int.tdiv_eq_ediv_of_nonneg (by omega)]; exact e1
  have wq : IntKind.i64.wrap (q : Int) = (q : Int) := by simp [IntKind.wrap, IntKind.signed, IntKind.bits]; omega
  have hc9 : c ≤ 9223372036854775807 := by unfold maxLen at hc; omega
  have hqn : 3 * q ≤ n := by omega
  clear hgr hmc h hb hown b1 hq hc
  go_enter Tryz.func23, Tryz.ntmps23
  go_wp2_with fail
  go_loopw [4, 5, 12] (fun _ _ ix wz => ∃ (i : Nat) (y : List Int), i ≤ q ∧ ix = .int .i64 (i : Int) ∧ Hid (wz.ownsRow w.heap.size 41 3 (.slice (some ⟨w.heap.size, 0, none⟩) q q) q (I64 y)) ∧ Hid (y.length = 3 * q ∧ ∀ j, j < 3 * i → y.getD j 0 = rdA bs j) ∧ Hid (Below w.heap.size w wz)) (fun _ _ x _ => q - (intOf x).toNat)
  case atStart => exact ⟨0, List.replicate (q * 3) 0, by omega, rfl, HO1.out, ⟨by simp; omega, fun j hj => absurd hj (by omega)⟩, HB1.out⟩
  case round =>
    clear HO1 HB1
    obtain ⟨wz, rfl⟩ : ∃ wz : World, wz = wr := ⟨_, rfl⟩
    obtain ⟨i, y, hi, rfl, HO, HY, HB⟩ := hrel
    by_cases hiq : i < q
    · have hid' : decide (i < q) = true := decide_eq_true hiq
      have hiI : (i : Int) < (q : Int) := by omega
      obtain ⟨b, o, rfl, hbw, hcell⟩ := HR.out.z8Y (by omega)
      obtain ⟨t, ht⟩ : ∃ t, t = i * 3 := ⟨_, rfl⟩
      have et : (i : Int) * 3 = (t : Int) := by omega
      have wt : IntKind.i64.wrap (t : Int) = (t : Int) := by simp [IntKind.wrap, IntKind.signed, IntKind.bits]; omega
      have tn : t + 2 < n := by omega
      have tni : (t : Int) ≤ (c : Int) := by omega
      have tnn : (t : Int) ≤ (n : Int) := by omega
      have get : ∀ k, k < 3 → wz.cell? ⟨b, o + t + k, none⟩ = some (.int .u8 (bs.getD (t + k) 0)) := fun k hk => by
        have := (HB.out.cell (p := ⟨b, o + (t + k), none⟩) hbw).trans (hcell (t + k) (by omega))
        rwa [← Nat.add_assoc] at this
      have hbl : bs.length = n := by have := HR.out.len; simpa [Z8] using this
      have inb : ∀ k, k < 3 → 0 ≤ bs.getD (t + k) 0 ∧ bs.getD (t + k) 0 < 256 := fun k hk => by
        refine HBB.out _ ?_
        rw [List.getD_eq_getElem?_getD, List.getElem?_eq_getElem (show t + k < bs.length by omega)]; exact List.getElem_mem _
      obtain ⟨x0, hx0⟩ : ∃ x, x = bs.getD (t + 0) 0 := ⟨_, rfl⟩
      obtain ⟨x1, hx1⟩ : ∃ x, x = bs.getD (t + 1) 0 := ⟨_, rfl⟩
      obtain ⟨x2, hx2⟩ : ∃ x, x = bs.getD (t + 2) 0 := ⟨_, rfl⟩
      have c0 := get 0 (by omega)
      have c1 := get 1 (by omega)
      have c2 := get 2 (by omega)
      have i0' := inb 0 (by omega)
      have i1' := inb 1 (by omega)
      have i2' := inb 2 (by omega)
      rw [← hx0] at c0 i0'
      rw [← hx1] at c1 i1'
      rw [← hx2] at c2 i2'
      rw [Nat.add_zero] at c0
      obtain ⟨r0, hr0⟩ : ∃ r, r = x0 % 11 := ⟨_, rfl⟩
      have m0 : x0 % 11 = r0 := hr0.symm
      have m0t : x0.tmod 11 = r0 := by rw [Int.tmod_eq_emod_of_nonneg i0'.1]; exact m0
      have v0 : IntKind.i64.wrap x0 = x0 := by simp [IntKind.wrap, IntKind.signed, IntKind.bits]; omega
      have v1 : IntKind.i64.wrap x1 = x1 := by simp [IntKind.wrap, IntKind.signed, IntKind.bits]; omega
      have v2 : IntKind.i64.wrap x2 = x2 := by simp [IntKind.wrap, IntKind.signed, IntKind.bits]; omega
      have vr : IntKind.i64.wrap r0 = r0 := by simp [IntKind.wrap, IntKind.signed, IntKind.bits]; omega
      have o1 := own_set3 HO.out (i * 3) r0
      have o2 := own_set3 o1 (i * 3 + 1) x1
      have o3 := own_set3 o2 (i * 3 + 2) x2
      have y0 := own_cell3 HO.out (i * 3) (by omega)
      have y1 := own_cell3 HO.out (i * 3 + 1) (by omega)
      have y2 := own_cell3 HO.out (i * 3 + 2) (by omega)
      have f0 := HO.out.frozenAt (i * 3)
      have f1 := HO.out.frozenAt (i * 3 + 1)
      have f2 := HO.out.frozenAt (i * 3 + 2)
      have HO3 := Lib.hid o3
      have HB3 : Hid (Below w.heap.size w (((wz.setCell ⟨w.heap.size, i * 3, none⟩ (.int .i64 r0)).setCell ⟨w.heap.size, i * 3 + 1, none⟩ (.int .i64 x1)).setCell ⟨w.heap.size, i * 3 + 2, none⟩ (.int .i64 x2))) :=
        ((HB.out.setCell (p := ⟨w.heap.size, i * 3, none⟩) (Nat.le_refl _) _).setCell (p := ⟨w.heap.size, i * 3 + 1, none⟩) (Nat.le_refl _) _).setCell (p := ⟨w.heap.size, i * 3 + 2, none⟩) (Nat.le_refl _) _
      have HY3 : Hid ((((y.set (i * 3) r0).set (i * 3 + 1) x1).set (i * 3 + 2) x2).length = 3 * q ∧ ∀ j, j < 3 * (i + 1) → (((y.set (i * 3) r0).set (i * 3 + 1) x1).set (i * 3 + 2) x2).getD j 0 = rdA bs j) := by
        have hyl := HY.out.1
        have gs : ∀ (z : List Int) k j (v : Int), k < z.length → (z.set k v).getD j 0 = if j = k then v else z.getD j 0 := fun z k j v hk => by
          by_cases e : j = k
          · subst e; simp [List.getD_eq_getElem?_getD, hk]
          · rw [if_neg e]; simp [List.getD_eq_getElem?_getD, Ne.symm e]
        refine ⟨by simp [hyl], fun j hj => ?_⟩
        rw [gs _ _ _ _ (by simp; omega), gs _ _ _ _ (by simp; omega), gs _ _ _ _ (by omega)]
        unfold rdA
        by_cases e2 : j = i * 3 + 2
        · rw [if_pos e2, if_neg (by omega), hx2, e2, ht]
        · rw [if_neg e2]
          by_cases e1 : j = i * 3 + 1
          · rw [if_pos e1, if_neg (by omega), hx1, e1, ht]
          · rw [if_neg e1]
            by_cases e0 : j = i * 3
            · rw [if_pos e0, if_pos (by omega), ← m0, hx0, e0, Nat.add_zero, ht]
            · rw [if_neg e0]
              have := HY.out.2 j (by omega)
              unfold rdA at this
              exact this
      have wi1 : IntKind.i64.wrap ((i : Int) + 1) = (i : Int) + 1 := by simp [IntKind.wrap, IntKind.signed, IntKind.bits]; omega
      have tcn : ¬ t = c := by omega
      clear get inb hx0 hx1 hx2 hr0 o1 o2 o3 hcell HY HO hbl ht
      go_upto_region 6 with fail
      go_region
      go_wp2_with fail
      go_roundw
      case rel => exact ⟨i + 1, _, by omega, by go_num, HO3, HY3, Lib.hid HB3.out.drew⟩
      case measure => simp [intOf]; omega
    · obtain rfl : i = q := by omega
      have hid' : decide (i < i) = false := by simp
      go_wp2_with fail
      go_ret
      exact ⟨_, y, rfl, HO.out, HY.out.2, HB.out⟩
end Go.Proofs.YtgcbdoljapnecaaGreat
namespace Go.Proofs.YtgcbdoljapnecaaGreat
set_option maxRecDepth 100000
open Go.RowKit
set_option linter.unusedVariables false
set_option linter.unusedSimpArgs false
theorem info_actS : (Tryz.prog.info? 41).map (·.size) = some 3 := by kernel_rfl
theorem run_max (n : Nat) (w : World) : (Builtin.max_ #[3, 3] 3 #[.int .i64 (n : Int), .int .i64 1]).run Tryz.prog w = .ok (.int .i64 ((max n 1 : Nat) : Int)) w := by
  simp [Builtin.max_, Builtin.max2]
  repeat' split
  all_goals omega
set_option maxHeartbeats 8000000 in
theorem among_p (k d e : Int) (n : Nat) (w : World) (hn : n ≤ 1000000) (hd : 0 ≤ d ∧ d < 256) (he : 0 ≤ e ∧ e < 256) :
    Calls Tryz.prog 32 #[.agg #[.int .i64 k, .int .i64 d, .int .i64 e], .int .i64 (n : Int)] w fun en w' => en = .returned (.agg #[.int .i64 k, .int .i64 (d % (max n 1 : Nat)), .int .i64 (e % (max n 1 : Nat))]) ∧ Below w.heap.size w w' := by
  obtain ⟨N, hN⟩ : ∃ N, N = max n 1 := ⟨_, rfl⟩
  have hmx := fun W => run_max n W
  rw [← hN] at hmx ⊢
  obtain ⟨dm, hdm⟩ : ∃ dm, dm = d % (N : Int) := ⟨_, rfl⟩
  obtain ⟨em, hem⟩ : ∃ em, em = e % (N : Int) := ⟨_, rfl⟩
  have hNp : 0 < N := by omega
  have d1 : d % (N : Int) = dm := hdm.symm
  have d2 : d.tmod (N : Int) = dm := by rw [Int.tmod_eq_emod_of_nonneg hd.1]; exact d1
  have e1 : e % (N : Int) = em := hem.symm
  have e2 : e.tmod (N : Int) = em := by rw [Int.tmod_eq_emod_of_nonneg he.1]; exact e1
  have bd := Int.emod_nonneg d (show (N : Int) ≠ 0 by omega)
  have bd2 := Int.emod_lt_of_pos d (show 0 < (N : Int) by omega)
  have be := Int.emod_nonneg e (show (N : Int) ≠ 0 by omega)
  have be2 := Int.emod_lt_of_pos e (show 0 < (N : Int) by omega)
  have wd : IntKind.i64.wrap dm = dm := by simp [IntKind.wrap, IntKind.signed, IntKind.bits]; omega
  have we : IntKind.i64.wrap em = em := by simp [IntKind.wrap, IntKind.signed, IntKind.bits]; omega
  have n0 : ¬ (N : Int) = 0 := by omega
  have hb0 := ((Below.refl w.heap.size w).alloc (Nat.le_refl _) (.cells #[.int .i64 k, .int .i64 d, .int .i64 e] 41)).alloc (by simp) (.cells #[.int .i64 0, .int .i64 0, .int .i64 0] 41)
  have hx := (Blk.new w 41 #[.int .i64 k, .int .i64 d, .int .i64 e]).alloc (.cells #[.int .i64 0, .int .i64 0, .int .i64 0] 41)
  have hy := (Blk.new (w.alloc (.cells #[.int .i64 k, .int .i64 d, .int .i64 e] 41)) 41 #[.int .i64 0, .int .i64 0, .int .i64 0])
  rw [show (w.alloc (.cells #[.int .i64 k, .int .i64 d, .int .i64 e] 41)).heap.size = w.heap.size + 1 by simp] at hy
  have HY := Lib.hid hy
  have HX := Lib.hid hx
  have HB := Lib.hid hb0
  have HINF := Lib.hid info_actS
  rw [d1, e1]
  clear hb0 hx hy hN hdm hem bd bd2 be be2 hd he
  go_enter Tryz.func32, Tryz.ntmps32
  go_upto_region 1 with fail
  generalize hw3 : (w.alloc (.cells #[.int .i64 k, .int .i64 d, .int .i64 e] 41)).alloc (.cells #[.int .i64 0, .int .i64 0, .int .i64 0] 41) = w3 at *
  have x0 : w3.cell? ⟨w.heap.size, 0, none⟩ = some (.int .i64 k) := HX.out.cell 0
  have x1 : w3.cell? ⟨w.heap.size, 1, none⟩ = some (.int .i64 d) := HX.out.cell 1
  have x2 : w3.cell? ⟨w.heap.size, 2, none⟩ = some (.int .i64 e) := HX.out.cell 2
  have q0 : w3.cell? ⟨w.heap.size + 1, 0, none⟩ = some (.int .i64 0) := HY.out.cell 0
  have q1 : w3.cell? ⟨w.heap.size + 1, 1, none⟩ = some (.int .i64 0) := HY.out.cell 1
  have q2 : w3.cell? ⟨w.heap.size + 1, 2, none⟩ = some (.int .i64 0) := HY.out.cell 2
  have f0 := HY.out.frozen 0
  have f1 := HY.out.frozen 1
  have f2 := HY.out.frozen 2
  have hs3 : w3.heap.size = w.heap.size + 2 := by rw [← hw3]; simp
  have HBK : Hid (Blk (((w3.setCell ⟨w.heap.size + 1, 0, none⟩ (.int .i64 k)).setCell ⟨w.heap.size + 1, 1, none⟩ (.int .i64 dm)).setCell ⟨w.heap.size + 1, 2, none⟩ (.int .i64 em)) (w.heap.size + 1) 41 #[.int .i64 k, .int .i64 dm, .int .i64 em]) := by
    show Blk _ _ _ _
    have := ((HY.out.set_ 0 (.int .i64 k)).set_ 1 (.int .i64 dm)).set_ 2 (.int .i64 em)
    simpa using this
  have HBB : Hid (Below w.heap.size w (((w3.setCell ⟨w.heap.size + 1, 0, none⟩ (.int .i64 k)).setCell ⟨w.heap.size + 1, 1, none⟩ (.int .i64 dm)).setCell ⟨w.heap.size + 1, 2, none⟩ (.int .i64 em))) :=
    ((HB.out.setCell (p := ⟨w.heap.size + 1, 0, none⟩) (by show w.heap.size ≤ w.heap.size + 1; omega) _).setCell (p := ⟨w.heap.size + 1, 1, none⟩) (by show w.heap.size ≤ w.heap.size + 1; omega) _).setCell (p := ⟨w.heap.size + 1, 2, none⟩) (by show w.heap.size ≤ w.heap.size + 1; omega) _
  clear hw3
  go_upto_region 2 with fail
  go_region
  go_wp2_with fail
  refine bodyPost_ret (v := .agg #[.int .i64 k, .int .i64 dm, .int .i64 em]) ?_ rfl ?_
  · exact results_cell_row rfl _ _ (w.heap.size + 1) 41 _ (0, 0) _ rfl (HBK.out.drewN 1) Tryz.underlying41 rfl HINF.out
  · exact ⟨rfl, HBB.out.drew⟩
end Go.Proofs.YtgcbdoljapnecaaGreat
