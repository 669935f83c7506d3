/- The map with an edge made one: how many vertices, faces and parts it has; its genus is the same. What was grown is shrunk, or cut, away again: mathematics. -/
import Derived.Test.YthdmkcnclmgdlaaZg17
import Derived.Test.YthdmkcnclmgdlaaZg15
import Derived.Test.YthdmkcnclmgdlaaZg16
namespace Go.Proofs.Ythdmkcnclmgdlaa
set_option maxRecDepth 20000
open Go.RowKit
set_option linter.unusedVariables false
def bothA (l : List Nat) (e : Nat) : Prop := sgL l (2 * e) = 2 * e ∧ sgL l (2 * e + 1) = 2 * e + 1
section
variable {l b : List Nat}
theorem met_sizes (h : Inv l b) : (sizes l).length = metB l := by rw [← met_is h]; simp [sizes, sizesTo]
theorem itf_const {f : Nat → Nat} {x : Nat} (h : f x = x) : ∀ k, itf f k x = x
  | 0 => rfl
  | k + 1 => by show f (itf f k x) = x; rw [itf_const h k, h]
open Classical in
theorem shr_verts (h : Inv l b) {b' : List Nat} {e : Nat} (hE : 2 * e + 2 ≤ l.length) (hne : nameOf l (2 * e) ≠ nameOf l (2 * e + 1)) (h' : Inv (woN l (phiL l) e) b') :
    metB (woN l (phiL l) e) + (if bothA l e then 1 else 0) + 1 = metB l := by
  have he : e < l.length / 2 := by omega
  have ha : 2 * e < l.length := by omega
  have hc : 2 * e + 1 < l.length := by omega
  have hpf := sgL_pf h
  have hq := hpf.eqv
  have hJ := joinR.eqv hq ha hc
  have hwl := woN_len l (phiL l) e hE
  have no : ¬ Orb (sgL l) (2 * e) (2 * e + 1) := fun o => hne ((name_iff h ha hc).2 o)
  have k1 := leads_cls h'
  rw [hwl, un_cls hE (R := joinR (Orb (sgL l)) (2 * e) (2 * e + 1)) (fun j k hj hk => shr_orb h hE he hne hj hk)] at k1
  have k2 := cls_out2 hJ ha hc (by omega)
  have k3 := cls_join (P := fun _ => True) hq (fun _ _ _ _ _ _ => trivial) ha hc trivial trivial no
  rw [leads_cls h] at k3
  have r01 : joinR (Orb (sgL l)) (2 * e) (2 * e + 1) (2 * e) (2 * e + 1) := .inr (.inl ⟨⟨0, rfl⟩, ⟨0, rfl⟩⟩)
  rw [if_pos ⟨2 * e + 1, hc, by omega, r01⟩] at k2
  have hb : bothA l e ↔ ¬ ∃ y, y < l.length ∧ y ≠ 2 * e ∧ y ≠ 2 * e + 1 ∧ joinR (Orb (sgL l)) (2 * e) (2 * e + 1) (2 * e + 1) y := by
    constructor
    · rintro ⟨s0, s1⟩ ⟨y, hy, y0, y1, r⟩
      rcases r with ⟨k, r⟩ | ⟨_, k, r⟩ | ⟨_, k, r⟩
      · rw [itf_const s1] at r; exact y1 r.symm
      · rw [itf_const s1] at r; exact y1 r.symm
      · rw [itf_const s0] at r; exact y0 r.symm
    · intro H
      constructor
      · refine Classical.byContradiction fun c => H ⟨sgL l (2 * e), hpf.lt _ ha, c, fun c1 => no ⟨1, c1⟩, ?_⟩
        exact .inr (.inr ⟨⟨0, rfl⟩, ⟨1, rfl⟩⟩)
      · refine Classical.byContradiction fun c => H ⟨sgL l (2 * e + 1), hpf.lt _ hc, fun c1 => no (hq.symm _ _ hc ha ⟨1, c1⟩), c, ?_⟩
        exact .inl ⟨1, rfl⟩
  by_cases c : bothA l e
  · rw [if_neg (hb.1 c)] at k2
    rw [if_pos c]; omega
  · rw [if_pos (Classical.byContradiction fun x => c (hb.2 x))] at k2
    rw [if_neg c]; omega
theorem phi_two {e : Nat} (hE : 2 * e + 2 ≤ l.length) : sgL (phiL l) (2 * e) = sgL l (2 * e + 1) ∧ sgL (phiL l) (2 * e + 1) = sgL l (2 * e) := by
  constructor
  · have := phi_at l (d := 2 * e) (by omega)
    have e1 : mt (2 * e) = 2 * e + 1 := by unfold mt; rw [if_pos (by omega)]
    rw [e1] at this; exact this
  · have := phi_at l (d := 2 * e + 1) (by omega)
    have e1 : mt (2 * e + 1) = 2 * e := by unfold mt; rw [if_neg (by omega)]; omega
    rw [e1] at this; exact this
open Classical in
theorem shr_faces (h : Inv l b) (hev : l.length % 2 = 0) {b' : List Nat} {e : Nat} (hE : 2 * e + 2 ≤ l.length) (hne : nameOf l (2 * e) ≠ nameOf l (2 * e + 1)) (h' : Inv (woN l (phiL l) e) b') :
    metB (phiL (woN l (phiL l) e)) + (if bothA l e then 1 else 0) = metB (phiL l) := by
  have ha : 2 * e < l.length := by omega
  have hc : 2 * e + 1 < l.length := by omega
  have hpf := sgL_pf h
  have hp := phi_inv h hev
  have hlp := phiL_len l
  have hpp := sgL_pf hp
  have no : ¬ Orb (sgL l) (2 * e) (2 * e + 1) := fun o => hne ((name_iff h ha hc).2 o)
  obtain ⟨z0, z1⟩ := phi_two (l := l) hE
  have n1 : sgL l (2 * e + 1) ≠ 2 * e := fun c1 => no (hpf.eqv.symm _ _ hc ha ⟨1, c1⟩)
  have n0 : sgL l (2 * e) ≠ 2 * e + 1 := fun c1 => no ⟨1, c1⟩
  rw [dual_shrink h hev hE]
  obtain ⟨b2, h2⟩ := cut_inv hp (e := e) (by omega)
  have hwl := woN_len (phiL l) (phiL l) e (by omega)
  have k1 := leads_cls h2
  rw [hwl, cut_cls hp (by omega)] at k1
  have k2 := cls_out2 hpp.eqv (a := 2 * e) (c := 2 * e + 1) (by omega) (by omega) (by omega)
  rw [leads_cls hp, k1] at k2
  rw [if_pos ⟨sgL l (2 * e + 1), by have := hpf.lt _ hc; omega, n1, ⟨1, z0⟩⟩] at k2
  have hb : bothA l e ↔ ¬ ∃ y, y < (phiL l).length ∧ y ≠ 2 * e ∧ y ≠ 2 * e + 1 ∧ Orb (sgL (phiL l)) (2 * e + 1) y := by
    constructor
    · rintro ⟨s0, s1⟩ ⟨y, hy, y0, y1, k, r⟩
      have : ∀ k, itf (sgL (phiL l)) k (2 * e + 1) = 2 * e ∨ itf (sgL (phiL l)) k (2 * e + 1) = 2 * e + 1 := fun k => by
        induction k with
        | zero => exact .inr rfl
        | succ k ih =>
          show sgL (phiL l) _ = _ ∨ sgL (phiL l) _ = _
          rcases ih with ih | ih <;> rw [ih]
          · rw [z0, s1]; exact .inr rfl
          · rw [z1, s0]; exact .inl rfl
      rcases this k with q | q <;> omega
    · intro H
      have a0 : sgL l (2 * e) = 2 * e := Classical.byContradiction fun c =>
        H ⟨sgL l (2 * e), by have := hpf.lt _ ha; omega, c, n0, ⟨1, z1⟩⟩
      refine ⟨a0, Classical.byContradiction fun c => H ⟨sgL l (2 * e + 1), by have := hpf.lt _ hc; omega, n1, c, ⟨2, ?_⟩⟩⟩
      show sgL (phiL l) (sgL (phiL l) (2 * e + 1)) = _
      rw [z1, a0, z0]
  by_cases c : bothA l e
  · rw [if_neg (hb.1 c)] at k2
    rw [if_pos c]; omega
  · rw [if_pos (Classical.byContradiction fun x => c (hb.2 x))] at k2
    rw [if_neg c]; omega
theorem un_mt (e j : Nat) : unN e (mt j) = mt (unN e j) := by have := un_mate e j; rwa [mt_mateN, mt_mateN] at this
theorem join_part (h : Inv l b) (hev : l.length % 2 = 0) {e x y : Nat} (hE : 2 * e + 2 ≤ l.length) (hx : x < l.length) (hy : y < l.length) (r : joinR (Orb (sgL l)) (2 * e) (2 * e + 1) x y) : part l x y := by
  have hq := part_eqv h hev
  have o : ∀ i j, i < l.length → Orb (sgL l) i j → part l i j := fun i j hi o => by
    have := gk_mono (sgL l) (k := 0) (l := l.length / 2) (by omega) (i := i) (j := j) o
    exact this
  have ed : part l (2 * e) (2 * e + 1) := gk_edge (sgL_pf h) e _ (by omega)
  have ha : 2 * e < l.length := by omega
  have hc : 2 * e + 1 < l.length := by omega
  rcases r with r | ⟨r1, r2⟩ | ⟨r1, r2⟩
  · exact o _ _ hx r
  · exact hq.trans _ _ _ hx ha hy (o _ _ hx r1) (hq.trans _ _ _ ha hc hy ed (o _ _ hc r2))
  · exact hq.trans _ _ _ hx hc hy (o _ _ hx r1) (hq.trans _ _ _ hc ha hy (hq.symm _ _ ha hc ed) (o _ _ ha r2))
theorem shr_part (h : Inv l b) (hev : l.length % 2 = 0) {b' : List Nat} {e : Nat} (hE : 2 * e + 2 ≤ l.length) (hne : nameOf l (2 * e) ≠ nameOf l (2 * e + 1)) (h' : Inv (woN l (phiL l) e) b') {j k : Nat} (hj : j < l.length - 2) (hk : k < l.length - 2) :
    part (woN l (phiL l) e) j k ↔ part l (unN e j) (unN e k) := by
  have he : e < l.length / 2 := by omega
  have ha : 2 * e < l.length := by omega
  have hc : 2 * e + 1 < l.length := by omega
  have hpf := sgL_pf h
  have hq := part_eqv h hev
  have hJ := joinR.eqv hpf.eqv ha hc
  have hwl := woN_len l (phiL l) e hE
  have hpf' : PF (l.length - 2) (sgL (woN l (phiL l) e)) := by have := sgL_pf h'; rwa [hwl] at this
  have hq' : Eqv (l.length - 2) (part (woN l (phiL l) e)) := by have := part_eqv h' (by omega); rwa [hwl] at this
  have hu : ∀ j, j < l.length - 2 → unN e j < l.length := fun j hj => unN_lt hE hj
  have o' : ∀ i j, Orb (sgL (woN l (phiL l) e)) i j → part (woN l (phiL l) e) i j := fun i j o => by
    have := gk_mono (sgL (woN l (phiL l) e)) (k := 0) (l := (woN l (phiL l) e).length / 2) (by omega) (i := i) (j := j) o
    exact this
  have mt' : ∀ x, x < l.length - 2 → part (woN l (phiL l) e) x (mt x) := fun x hx => by
    unfold part; rw [hwl]; exact gk_mt hpf' (by omega) _ hx
  constructor
  · intro r
    unfold part at r; rw [hwl] at r
    refine (part_closed (S := fun x => part l (unN e j) (unN e x)) hpf' (m := (l.length - 2) / 2) (by omega) (fun x hx s => ?_) (fun x hx s => ?_) j k hj hk r).1 (hq.refl _ (hu _ hj))
    · have hx' := hpf'.lt _ hx
      have := (shr_orb h hE he hne hx hx').1 ⟨1, rfl⟩
      exact hq.trans _ _ _ (hu _ hj) (hu _ hx) (hu _ hx') s (join_part h hev hE (hu _ hx) (hu _ hx') this)
    · have hx' : mt x < l.length - 2 := mt_in (by omega) hx
      refine hq.trans _ _ _ (hu _ hj) (hu _ hx) (hu _ hx') s ?_
      rw [un_mt]; unfold part; exact gk_mt hpf (by omega) _ (hu _ hx)
  · intro r
    have r01 : joinR (Orb (sgL l)) (2 * e) (2 * e + 1) (2 * e) (2 * e + 1) := .inr (.inl ⟨⟨0, rfl⟩, ⟨0, rfl⟩⟩)
    have key : ∃ y, y < l.length ∧ y / 2 ≠ e ∧ joinR (Orb (sgL l)) (2 * e) (2 * e + 1) (unN e k) y ∧ part (woN l (phiL l) e) j (calN e y) := by
      refine (part_closed (S := fun x => ∃ y, y < l.length ∧ y / 2 ≠ e ∧ joinR (Orb (sgL l)) (2 * e) (2 * e + 1) x y ∧ part (woN l (phiL l) e) j (calN e y)) hpf (m := l.length / 2) (by omega) (fun x hx s => ?_) (fun x hx s => ?_) _ _ (hu _ hj) (hu _ hk) r).1 ⟨unN e j, hu _ hj, (unN_is e j).1, hJ.refl _ (hu _ hj), by rw [(unN_is e j).2]; exact hq'.refl _ hj⟩
      · obtain ⟨y, y1, y2, y3, y4⟩ := s
        have hx' := hpf.lt _ hx
        exact ⟨y, y1, y2, hJ.trans _ _ _ hx' hx y1 (hJ.symm _ _ hx hx' (.inl ⟨1, rfl⟩)) y3, y4⟩
      · obtain ⟨y, y1, y2, y3, y4⟩ := s
        have hx' : mt x < l.length := mt_in hev hx
        by_cases c : x / 2 = e
        · have hm : joinR (Orb (sgL l)) (2 * e) (2 * e + 1) (mt x) x := by
            have : x = 2 * e ∨ x = 2 * e + 1 := by omega
            rcases this with rfl | rfl
            · have e1 : mt (2 * e) = 2 * e + 1 := by unfold mt; rw [if_pos (by omega)]
              rw [e1]; exact hJ.symm _ _ ha hc r01
            · have e1 : mt (2 * e + 1) = 2 * e := by unfold mt; rw [if_neg (by omega)]; omega
              rw [e1]; exact r01
          exact ⟨y, y1, y2, hJ.trans _ _ _ hx' hx y1 hm y3, y4⟩
        · have hcx := cal_ltE hE hx c
          have hcy := cal_ltE hE y1 y2
          have hm2 : (mt x) / 2 ≠ e := by unfold mt; split <;> omega
          have o : Orb (sgL (woN l (phiL l) e)) (calN e x) (calN e y) := (shr_orb h hE he hne hcx hcy).2 (by rw [calN_un e x c, calN_un e y y2]; exact y3)
          have hcm : calN e (mt x) = mt (calN e x) := un_inj (e := e) (by rw [calN_un e _ hm2, un_mt, calN_un e x c])
          have hml : mt (calN e x) < l.length - 2 := mt_in (by omega) hcx
          refine ⟨mt x, hx', hm2, hJ.refl _ hx', ?_⟩
          rw [hcm]
          exact hq'.trans _ _ _ hj hcy hml y4 (hq'.trans _ _ _ hcy hcx hml (hq'.symm _ _ hcx hcy (o' _ _ o)) (mt' _ hcx))
    obtain ⟨y, y1, y2, y3, y4⟩ := key
    have hcy := cal_ltE hE y1 y2
    have o : Orb (sgL (woN l (phiL l) e)) k (calN e y) := (shr_orb h hE he hne hk hcy).2 (by rw [calN_un e y y2]; exact y3)
    exact hq'.trans _ _ _ hj hcy hk y4 (hq'.symm _ _ hk hcy (o' _ _ o))
open Classical in
theorem shr_parts (h : Inv l b) (hev : l.length % 2 = 0) {b' : List Nat} {e : Nat} (hE : 2 * e + 2 ≤ l.length) (hne : nameOf l (2 * e) ≠ nameOf l (2 * e + 1)) (h' : Inv (woN l (phiL l) e) b') :
    pN (woN l (phiL l) e) + (if bothA l e then 1 else 0) = pN l := by
  have ha : 2 * e < l.length := by omega
  have hc : 2 * e + 1 < l.length := by omega
  have hpf := sgL_pf h
  have hq := part_eqv h hev
  have hwl := woN_len l (phiL l) e hE
  have no : ¬ Orb (sgL l) (2 * e) (2 * e + 1) := fun o => hne ((name_iff h ha hc).2 o)
  have ed : part l (2 * e) (2 * e + 1) := gk_edge hpf e _ (by omega)
  unfold pN pn
  rw [hwl, un_cls hE (R := part l) (fun j k hj hk => shr_part h hev hE hne h' hj hk)]
  have k2 := cls_out2 hq ha hc (by omega)
  rw [if_pos ⟨2 * e + 1, hc, by omega, ed⟩] at k2
  have og : ∀ i j, Orb (sgL l) i j → part l i j := fun i j o => by
    have := gk_mono (sgL l) (k := 0) (l := l.length / 2) (by omega) (i := i) (j := j) o
    exact this
  have hb : bothA l e ↔ ¬ ∃ y, y < l.length ∧ y ≠ 2 * e ∧ y ≠ 2 * e + 1 ∧ part l (2 * e + 1) y := by
    constructor
    · rintro ⟨s0, s1⟩ ⟨y, hy, y0, y1, r⟩
      have := (part_closed (S := fun x => x / 2 = e) hpf (m := l.length / 2) (by omega) (fun x hx s => by
        have : x = 2 * e ∨ x = 2 * e + 1 := by omega
        rcases this with rfl | rfl
        · show sgL l (2 * e) / 2 = e; rw [s0]; omega
        · show sgL l (2 * e + 1) / 2 = e; rw [s1]; omega) (fun x hx s => by show mt x / 2 = e; unfold mt; split <;> omega) _ _ hc hy r).1 (by omega)
      omega
    · intro H
      constructor
      · refine Classical.byContradiction fun c => H ⟨sgL l (2 * e), hpf.lt _ ha, c, fun c1 => no ⟨1, c1⟩, ?_⟩
        exact hq.trans _ _ _ hc ha (hpf.lt _ ha) (hq.symm _ _ ha hc ed) (og _ _ ⟨1, rfl⟩)
      · refine Classical.byContradiction fun c => H ⟨sgL l (2 * e + 1), hpf.lt _ hc, fun c1 => no (hpf.eqv.symm _ _ hc ha ⟨1, c1⟩), c, ?_⟩
        exact og _ _ ⟨1, rfl⟩
  by_cases c : bothA l e
  · rw [if_neg (hb.1 c)] at k2
    rw [if_pos c]; omega
  · rw [if_pos (Classical.byContradiction fun x => c (hb.2 x))] at k2
    rw [if_neg c]; omega
theorem shr_genus (h : Inv l b) (hev : l.length % 2 = 0) {b' : List Nat} {e : Nat} (hE : 2 * e + 2 ≤ l.length) (hne : nameOf l (2 * e) ≠ nameOf l (2 * e + 1)) (h' : Inv (woN l (phiL l) e) b') :
    genusN (woN l (phiL l) e) = genusN l := by
  have hwl := woN_len l (phiL l) e hE
  have hev' : (woN l (phiL l) e).length % 2 = 0 := by omega
  have g1 := genus_count h hev
  have g2 := genus_count h' hev'
  rw [met_sizes h, met_sizes (phi_inv h hev)] at g1
  rw [met_sizes h', met_sizes (phi_inv h' hev')] at g2
  have v := shr_verts h hE hne h'
  have f := shr_faces h hev hE hne h'
  have p := shr_parts h hev hE hne h'
  omega
/-- The two vertices have no other darts. -/
theorem both_deg (h : Inv l b) (lone : Int) (hl : 0 ≤ lone) {e : Nat} (hE : 2 * e + 2 ≤ l.length) : degOf l lone (nameOf l (2 * e) : Nat) + degOf l lone (nameOf l (2 * e + 1) : Nat) = 2 ↔ bothA l e := by
  have ha : 2 * e < l.length := by omega
  have hc : 2 * e + 1 < l.length := by omega
  have hpf := sgL_pf h
  have hq := hpf.eqv
  rw [deg_num h lone hl ha, deg_num h lone hl hc]
  have na := num_less (Q := fun i => Orb (sgL l) (2 * e) i) ha (hq.refl _ ha)
  have nc := num_less (Q := fun i => Orb (sgL l) (2 * e + 1) i) hc (hq.refl _ hc)
  have hna := num_none (n := l.length) (Q := fun i => Orb (sgL l) (2 * e) i ∧ i ≠ 2 * e)
  have hnc := num_none (n := l.length) (Q := fun i => Orb (sgL l) (2 * e + 1) i ∧ i ≠ 2 * e + 1)
  constructor
  · intro q
    have q0 := hna.1 (by omega)
    have q1 := hnc.1 (by omega)
    exact ⟨Classical.byContradiction fun c => q0 _ (hpf.lt _ ha) ⟨⟨1, rfl⟩, c⟩, Classical.byContradiction fun c => q1 _ (hpf.lt _ hc) ⟨⟨1, rfl⟩, c⟩⟩
  · rintro ⟨s0, s1⟩
    have q0 := hna.2 (fun y hy ⟨⟨k, r⟩, c⟩ => c (by rw [itf_const s0] at r; exact r.symm))
    have q1 := hnc.2 (fun y hy ⟨⟨k, r⟩, c⟩ => c (by rw [itf_const s1] at r; exact r.symm))
    omega
end
end Go.Proofs.Ythdmkcnclmgdlaa
namespace Go.Proofs.Ythdmkcnclmgdlaa
set_option maxRecDepth 20000
open Go.RowKit
set_option linter.unusedVariables false
set_option linter.unusedSimpArgs false
section
variable {l b o : List Nat}
/-- Without the last edge: who is followed by a new dart is followed by who is behind it. -/
theorem wo_last {n : Nat} (hn : n % 2 = 0) (hl : l.length = n) (ho : o.length = n + 2) (hlt : ∀ i, i < n → sgL l i < n) {z : List Nat} (h : ∀ i, i < n → outN z (n / 2) (sgL o i) = sgL l i) : woN o z (n / 2) = l := by
  have hk : ∀ k, k ≤ n → woTo o z (n / 2) k = l.take k := fun k hk => by
    induction k with
    | zero => simp [woTo]
    | succ k ih =>
      have hkn : k < n := by omega
      rw [woTo_yes _ _ _ _ (by omega), ih (by omega)]
      have e1 : o.getD k 0 = sgL o k := rfl
      rw [e1, h k hkn]
      have e2 : calN (n / 2) (sgL l k) = sgL l k := by
        unfold calN
        have := hlt k hkn
        rw [if_neg (by omega)]
      rw [e2, List.take_add_one, List.getElem?_eq_getElem (by omega)]
      show _ = List.take k l ++ [l[k]]
      unfold sgL
      rw [List.getD_eq_getElem?_getD, List.getElem?_eq_getElem (by omega)]
      rfl
  show woTo o z (n / 2) o.length = l
  rw [ho, show n + 2 = n + 1 + 1 by omega, woTo_no _ _ _ _ (by omega), woTo_no _ _ _ _ (by omega), hk n (Nat.le_refl _), ← hl, List.take_length]
theorem heir_last {n r : Nat} (hn : n % 2 = 0) (hr : r < n) (o ob : List Nat) : heirN o ob r (n / 2) = (r : Int) := by
  unfold heirN
  rw [if_pos (by omega)]
  unfold calN
  rw [if_neg (by omega)]
/-- The turns of a leaf. -/
theorem leaf_at (h : Inv l b) {d : Nat} (hd : d < l.length) : sgL (leafL l d) d = l.length ∧ sgL (leafL l d) l.length = sgL l d ∧ sgL (leafL l d) (l.length + 1) = l.length + 1 ∧ ∀ i, i < l.length → i ≠ d → sgL (leafL l d) i = sgL l i := by
  have ie := edg_inv h
  have le := edg_len l
  have n0 := edg_new l (Nat.le_refl _) (show l.length < l.length + 2 by omega)
  have g := fun i => put_get ie (d := l.length) (a := d) (by rw [le]; omega) (by rw [le]; omega) n0 i
  refine ⟨?_, ?_, leaf_odd h hd, fun i hi hne => ?_⟩
  · show sgL (putL (edgL l) l.length d) d = _
    rw [g]; unfold swp; rw [if_neg (by omega), if_pos rfl]; exact n0
  · show sgL (putL (edgL l) l.length d) l.length = _
    rw [g]; unfold swp; rw [if_pos rfl]; exact edg_old l hd
  · show sgL (putL (edgL l) l.length d) i = _
    rw [g]; unfold swp; rw [if_neg (by omega), if_neg hne]; exact edg_old l hi
theorem phi_last {n : Nat} (hn : n % 2 = 0) (ho : o.length = n + 2) : (phiL o).getD n 0 = sgL o (n + 1) ∧ (phiL o).getD (n + 1) 0 = sgL o n := by
  have e1 : (phiL o).getD n 0 = sgL o (mt n) := phi_at o (by omega)
  have e2 : (phiL o).getD (n + 1) 0 = sgL o (mt (n + 1)) := phi_at o (by omega)
  have m1 : mt n = n + 1 := by unfold mt; rw [if_pos hn]
  have m2 : mt (n + 1) = n := by unfold mt; rw [if_neg (by omega)]; omega
  rw [m1] at e1
  rw [m2] at e2
  exact ⟨e1, e2⟩
theorem fix_orb {f : Nat → Nat} {x y : Nat} (h : f x = x) (k : Orb f x y) : y = x := by
  obtain ⟨t, ht⟩ := k
  rw [← ht, itf_const h]
theorem leaf_back (h : Inv l b) (he : l.length % 2 = 0) {d : Nat} (hd : d < l.length) :
    woN (leafL l d) (phiL (leafL l d)) (l.length / 2) = l ∧ nameOf (leafL l d) l.length ≠ nameOf (leafL l d) (l.length + 1) ∧ ¬ bothA (leafL l d) (l.length / 2) := by
  obtain ⟨hi, hlen⟩ := leaf_inv h hd
  obtain ⟨a1, a2, a3, a4⟩ := leaf_at h hd
  obtain ⟨p1, p2⟩ := phi_last he hlen
  have hld := h.lt d hd
  refine ⟨wo_last he rfl hlen (fun i hi => h.lt i hi) fun i hi => ?_, fun c => ?_, fun c => ?_⟩
  · by_cases e : i = d
    · rw [e, a1]
      unfold outN
      rw [if_neg (by omega), p1, a3, if_neg (by omega), p2, a2]
    · rw [a4 i hi e]
      unfold outN
      have : sgL l i < l.length := h.lt i hi
      rw [if_pos (by show sgL l i / 2 ≠ _; omega)]
  · have k := (name_iff hi (by omega) (by omega)).1 c.symm
    have := fix_orb a3 k
    omega
  · have := c.1
    rw [show 2 * (l.length / 2) = l.length by omega, a2] at this
    have hq : sgL l d < l.length := hld
    omega
/-- The turns of a chord. -/
theorem chord_at (h : Inv l b) {d e : Nat} (hd : d < l.length) (hel : e < l.length) :
    sgL (chordL l d e) d = l.length ∧ (d = e → sgL (chordL l d e) l.length = l.length + 1 ∧ sgL (chordL l d e) (l.length + 1) = sgL l d) ∧ (d ≠ e → sgL (chordL l d e) l.length = sgL l d ∧ sgL (chordL l d e) e = l.length + 1 ∧ sgL (chordL l d e) (l.length + 1) = sgL l e) ∧ ∀ i, i < l.length → i ≠ d → i ≠ e → sgL (chordL l d e) i = sgL l i := by
  obtain ⟨hi, hlen⟩ := leaf_inv h hd
  obtain ⟨a1, a2, a3, a4⟩ := leaf_at h hd
  by_cases c : d = e
  · subst c
    have g : ∀ i, sgL (chordL l d d) i = sgL (leafL l d) (swp (l.length + 1) l.length i) := fun i => by
      unfold chordL
      rw [if_pos rfl]
      exact put_get hi (by omega) (by omega) a3 i
    refine ⟨?_, fun _ => ⟨?_, ?_⟩, fun k => absurd rfl k, fun i hi' h1 h2 => ?_⟩
    · rw [g]; unfold swp; rw [if_neg (by omega), if_neg (by omega)]; exact a1
    · rw [g]; unfold swp; rw [if_neg (by omega), if_pos rfl]; exact a3
    · rw [g]; unfold swp; rw [if_pos rfl]; exact a2
    · rw [g]; unfold swp; rw [if_neg (by omega), if_neg (by omega)]; exact a4 i hi' h1
  · have g : ∀ i, sgL (chordL l d e) i = sgL (leafL l d) (swp (l.length + 1) e i) := fun i => by
      unfold chordL
      rw [if_neg c]
      exact put_get hi (by omega) (by omega) a3 i
    refine ⟨?_, fun k => absurd k c, fun _ => ⟨?_, ?_, ?_⟩, fun i hi' h1 h2 => ?_⟩
    · rw [g]; unfold swp; rw [if_neg (by omega), if_neg c]; exact a1
    · rw [g]; unfold swp; rw [if_neg (by omega), if_neg (by omega)]; exact a2
    · rw [g]; unfold swp; rw [if_neg (by omega), if_pos rfl]; exact a3
    · rw [g]; unfold swp; rw [if_pos rfl]; exact a4 e hel (Ne.symm c)
    · rw [g]; unfold swp; rw [if_neg (by omega), if_neg h2]; exact a4 i hi' h1
theorem chord_back (h : Inv l b) (he : l.length % 2 = 0) {d e : Nat} (hd : d < l.length) (hel : e < l.length) : woN (chordL l d e) (chordL l d e) (l.length / 2) = l := by
  obtain ⟨hi, hlen⟩ := chord_inv h hd hel
  obtain ⟨a1, a2, a3, a4⟩ := chord_at h hd hel
  have gd : ∀ x, (chordL l d e).getD x 0 = sgL (chordL l d e) x := fun _ => rfl
  refine wo_last he rfl hlen (fun i hi => h.lt i hi) fun i hi' => ?_
  have hli := h.lt i hi'
  have hli' : sgL l i < l.length := hli
  by_cases c : d = e
  · obtain ⟨b1, b2⟩ := a2 c
    by_cases k : i = d
    · rw [k, a1]
      unfold outN
      rw [if_neg (by omega), gd, b1, if_neg (by omega), gd, b2]
    · rw [a4 i hi' k (by rw [← c]; exact k)]
      unfold outN
      rw [if_pos (by omega)]
  · obtain ⟨b1, b2, b3⟩ := a3 c
    by_cases k : i = d
    · rw [k, a1]
      rw [k] at hli'
      unfold outN
      rw [if_neg (by omega), gd, b1, if_pos (by omega)]
    · by_cases k2 : i = e
      · rw [k2, b2]
        rw [k2] at hli'
        unfold outN
        rw [if_neg (by omega), gd, b3, if_pos (by omega)]
      · rw [a4 i hi' k k2]
        unfold outN
        rw [if_pos (by omega)]
/-- An orbit with others in it. -/
theorem deg_more (h : Inv o b) (lone : Int) (hl : 0 ≤ lone) {a c : Nat} (ha : a < o.length) (hc : c < o.length) (hac : a ≠ c) (k : Orb (sgL o) a c) : 2 ≤ degOf o lone (nameOf o a : Nat) := by
  rw [deg_num h lone hl ha]
  have hq := (sgL_pf h).eqv
  have h1 := num_less (Q := fun i => Orb (sgL o) a i) ha (hq.refl _ ha)
  have h2 := num_less (Q := fun i => Orb (sgL o) a i ∧ i ≠ a) hc ⟨k, Ne.symm hac⟩
  omega
theorem deg_three (h : Inv o b) (lone : Int) (hl : 0 ≤ lone) {a c f : Nat} (ha : a < o.length) (hc : c < o.length) (hf : f < o.length) (hac : a ≠ c) (haf : a ≠ f) (hcf : c ≠ f) (k : Orb (sgL o) a c) (k' : Orb (sgL o) a f) : 3 ≤ degOf o lone (nameOf o a : Nat) := by
  rw [deg_num h lone hl ha]
  have hq := (sgL_pf h).eqv
  have h1 := num_less (Q := fun i => Orb (sgL o) a i) ha (hq.refl _ ha)
  have h2 := num_less (Q := fun i => Orb (sgL o) a i ∧ i ≠ a) hc ⟨k, Ne.symm hac⟩
  have h3 := num_less (Q := fun i => (Orb (sgL o) a i ∧ i ≠ a) ∧ i ≠ c) hf ⟨⟨k', Ne.symm haf⟩, Ne.symm hcf⟩
  omega
/-- Cutting a chord leaves no vertex alone. -/
theorem chord_zer (h : Inv l b) (he : l.length % 2 = 0) {d e : Nat} (hd : d < l.length) (hel : e < l.length) (lone : Int) (hl : 0 ≤ lone) :
    zerTo (besN (chordL l d e) lone (l.length / 2)) (besN (chordL l d e) lone (l.length / 2)).length = 0 := by
  obtain ⟨hi, hlen⟩ := chord_inv h hd hel
  obtain ⟨a1, a2, a3, a4⟩ := chord_at h hd hel
  have hq := (sgL_pf hi).eqv
  have e2 : 2 * (l.length / 2) = l.length := by omega
  have k1 : Orb (sgL (chordL l d e)) l.length d := hq.symm _ _ (by omega) (by omega) ⟨1, a1⟩
  have dn : 2 ≤ degOf (chordL l d e) lone (nameOf (chordL l d e) l.length : Nat) := deg_more hi lone hl (by omega) (by omega) (by omega) k1
  have k2 : ∃ c, c < l.length ∧ Orb (sgL (chordL l d e)) (l.length + 1) c := by
    by_cases c : d = e
    · obtain ⟨b1, b2⟩ := a2 c
      exact ⟨d, hd, hq.symm _ _ (by omega) (by omega) ⟨2, by show sgL _ (sgL _ d) = _; rw [a1, b1]⟩⟩
    · exact ⟨e, hel, hq.symm _ _ (by omega) (by omega) ⟨1, (a3 c).2.1⟩⟩
  obtain ⟨c, hc, k2⟩ := k2
  have dm : 2 ≤ degOf (chordL l d e) lone (nameOf (chordL l d e) (l.length + 1) : Nat) := deg_more hi lone hl (by omega) (by omega) (by omega) k2
  unfold besN
  rw [e2]
  by_cases s : nameOf (chordL l d e) l.length = nameOf (chordL l d e) (l.length + 1)
  · rw [if_pos s]
    have k3 := (name_iff hi (by omega) (by omega)).1 s
    have d3 : 3 ≤ degOf (chordL l d e) lone (nameOf (chordL l d e) l.length : Nat) := deg_three hi lone hl (by omega) (show d < _ by omega) (show l.length + 1 < _ by omega) (by omega) (by omega) (by omega) k1 k3
    show zerTo [_] 1 = 0
    rw [zerTo_one, if_neg (by omega)]
  · rw [if_neg s]
    show zerTo [_, _] 2 = 0
    rw [zerTo_two, if_neg (by omega), if_neg (by omega)]
/-- The turns of a split: m is d's mate. -/
theorem split_at (h : Inv l b) (he : l.length % 2 = 0) {d m : Nat} (hd : d < l.length) (hm : mateN d = m) :
    sgL (splitL l b d) l.length = m ∧ sgL (splitL l b d) m = l.length ∧ (sgL l m ≠ m → sgL (splitL l b d) (l.length + 1) = sgL l m) ∧ (sgL l m = m → sgL (splitL l b d) (l.length + 1) = l.length + 1) ∧ ∀ i, i < l.length → i ≠ m → sgL (splitL l b d) i = if sgL l i = m then l.length + 1 else sgL l i := by
  have hml : m < l.length := by rw [← hm]; exact mateN_in he hd
  have ie := edg_inv h
  have le := edg_len l
  have n1 := edg_new l (show l.length ≤ l.length + 1 by omega) (show l.length + 1 < l.length + 2 by omega)
  have n0 := edg_new l (Nat.le_refl _) (show l.length < l.length + 2 by omega)
  have g1 := fun i => put_get ie (d := l.length + 1) (a := m) (by rw [le]; omega) (by rw [le]; omega) n1 i
  have i1 := put_inv ie (d := l.length + 1) (a := m) (by rw [le]; omega) (by rw [le]; omega) n1
  have l1 := put_len (edgL l) (l.length + 1) m
  rw [le] at l1
  have i2 := tak_inv i1 (d := m) (by rw [l1]; omega)
  have g2 := fun i => tak_get i1 (d := m) (by rw [l1]; omega) i
  have l2 := tak_len (putL (edgL l) (l.length + 1) m) (putB (edgL l) (edgL b) (l.length + 1) m) m
  rw [l1] at l2
  have m2 : sgL (takL (putL (edgL l) (l.length + 1) m) (putB (edgL l) (edgL b) (l.length + 1) m) m) m = m := tak_one i1 (by rw [l1]; omega)
  have g3 := fun i => put_get i2 (d := m) (a := l.length) (by rw [l2]; omega) (by rw [l2]; omega) m2 i
  have hS : splitL l b d = putL (takL (putL (edgL l) (l.length + 1) m) (putB (edgL l) (edgL b) (l.length + 1) m) m) m l.length := by
    unfold splitL spl2 spl1 spl1B; rw [hm]
  -- who goes to m with the new dart behind it
  have hbm := h.lt' m hml
  have hbl : sgL l (sgL b m) = m := h.bl m hml
  have o1 : ∀ i, i < l.length → i ≠ m → sgL (putL (edgL l) (l.length + 1) m) i = sgL l i := fun i hi hne => by
    rw [g1]; unfold swp; rw [if_neg (by omega), if_neg hne]; exact edg_old l hi
  have om : sgL (putL (edgL l) (l.length + 1) m) m = l.length + 1 := by
    rw [g1]; unfold swp; rw [if_neg (by omega), if_pos rfl]; exact n1
  have on1 : sgL (putL (edgL l) (l.length + 1) m) (l.length + 1) = sgL l m := by
    rw [g1]; unfold swp; rw [if_pos rfl]; exact edg_old l hml
  have on0 : sgL (putL (edgL l) (l.length + 1) m) l.length = l.length := by
    rw [g1]; unfold swp; rw [if_neg (by omega), if_neg (by omega)]; exact n0
  rw [hS]
  generalize hX : putL (edgL l) (l.length + 1) m = X at *
  generalize hY : putB (edgL l) (edgL b) (l.length + 1) m = Y at *
  by_cases c : sgL l m = m
  · have bm : sgL Y m = l.length + 1 := by have := i1.lb (l.length + 1) (by rw [l1]; omega); rw [show X.getD (l.length + 1) 0 = m by rw [← c]; exact on1] at this; exact this
    rw [bm] at g2
    have q0 : sgL (takL X Y m) l.length = l.length := by rw [g2]; unfold swp; rw [if_neg (by omega), if_neg (by omega)]; exact on0
    refine ⟨?_, ?_, fun k => absurd c k, fun _ => ?_, fun i hi hne => ?_⟩
    · rw [g3]; unfold swp; rw [if_neg (by omega), if_pos rfl]; exact m2
    · rw [g3]; unfold swp; rw [if_pos rfl]; exact q0
    · rw [g3]; unfold swp; rw [if_neg (by omega), if_neg (by omega), g2]; unfold swp; rw [if_neg (by omega), if_pos rfl]; exact om
    · have : sgL l i ≠ m := fun k => hne (h.inj i m hi hml (by rw [show l.getD i 0 = m from k, show l.getD m 0 = m from c]))
      rw [if_neg this, g3]; unfold swp; rw [if_neg hne, if_neg (by omega), g2]; unfold swp; rw [if_neg hne, if_neg (by omega)]; exact o1 i hi hne
  · have hbne : sgL b m ≠ m := fun k => c (by rw [k] at hbl; exact hbl)
    have bm : sgL Y m = sgL b m := by have := i1.lb (sgL b m) (by rw [l1]; show sgL b m < _; have : sgL b m < l.length := hbm; omega); rw [show X.getD (sgL b m) 0 = m from (o1 _ hbm hbne).trans hbl] at this; exact this
    rw [bm] at g2
    have hbm' : sgL b m < l.length := hbm
    have q0 : sgL (takL X Y m) l.length = l.length := by rw [g2]; unfold swp; rw [if_neg (by omega), if_neg (by omega)]; exact on0
    refine ⟨?_, ?_, fun _ => ?_, fun k => absurd k c, fun i hi hne => ?_⟩
    · rw [g3]; unfold swp; rw [if_neg (by omega), if_pos rfl]; exact m2
    · rw [g3]; unfold swp; rw [if_pos rfl]; exact q0
    · rw [g3]; unfold swp; rw [if_neg (by omega), if_neg (by omega), g2]; unfold swp; rw [if_neg (by omega), if_neg (by omega)]; exact on1
    · rw [g3]; unfold swp; rw [if_neg hne, if_neg (by omega), g2]; unfold swp; rw [if_neg hne]
      by_cases k : i = sgL b m
      · rw [if_pos k, om, k, hbl, if_pos rfl]
      · have : sgL l i ≠ m := fun q => k (by have := h.lb i hi; rw [show l.getD i 0 = m from q] at this; exact this.symm)
        rw [if_neg k, if_neg this]; exact o1 i hi hne
theorem split_back (h : Inv l b) (he : l.length % 2 = 0) {d : Nat} (hd : d < l.length) :
    woN (splitL l b d) (phiL (splitL l b d)) (l.length / 2) = l ∧ nameOf (splitL l b d) l.length ≠ nameOf (splitL l b d) (l.length + 1) ∧ ¬ bothA (splitL l b d) (l.length / 2) := by
  obtain ⟨hi, hlen⟩ := split_inv h he hd
  obtain ⟨m, hm⟩ : ∃ m, mateN d = m := ⟨_, rfl⟩
  have hml : m < l.length := by rw [← hm]; exact mateN_in he hd
  obtain ⟨a1, a2, a3, a4, a5⟩ := split_at h he hd hm
  obtain ⟨p1, p2⟩ := phi_last he hlen
  have hlm : sgL l m < l.length := h.lt m hml
  refine ⟨wo_last he rfl hlen (fun i hi => h.lt i hi) fun i hi' => ?_, fun c => ?_, fun c => ?_⟩
  · have hli : sgL l i < l.length := h.lt i hi'
    by_cases e : i = m
    · rw [e, a2]
      unfold outN
      rw [if_neg (by omega), p1]
      by_cases c : sgL l m = m
      · rw [a4 c, if_neg (by omega), p2, a1, c]
      · rw [a3 c, if_pos (by omega)]
    · rw [a5 i hi' e]
      by_cases c : sgL l i = m
      · rw [if_pos c]
        unfold outN
        rw [if_neg (by omega), p2, a1, if_pos (by omega), c]
      · rw [if_neg c]
        unfold outN
        rw [if_pos (by omega)]
  · have k := (name_iff hi (by omega) (by omega)).1 c
    obtain ⟨t, ht⟩ := k
    have : ∀ t, itf (sgL (splitL l b d)) t l.length = l.length ∨ itf (sgL (splitL l b d)) t l.length = m := fun t => by
      induction t with
      | zero => exact .inl rfl
      | succ t ih =>
        rcases ih with q | q
        · right; show sgL _ (itf _ t _) = m; rw [q, a1]
        · left; show sgL _ (itf _ t _) = _; rw [q, a2]
    rcases this t with q | q <;> omega
  · have := c.1
    rw [show 2 * (l.length / 2) = l.length by omega, a1] at this
    omega
end
end Go.Proofs.Ythdmkcnclmgdlaa
