/- The map with an edge made one: how many vertices, faces and parts it has; its genus is the same. -/
import Derived.Test.YtnnjjhjohjajnaaZUCutsP
import Derived.Test.YtnnjjhjohjajnaaZUTurns
namespace Go.Proofs.Ytnnjjhjohjajnaa
set_option maxRecDepth 20000
open Go.RowKit
set_option linter.unusedVariables false
def bothA (l : List Nat) (e : Nat) : Prop := sgL l (2 * e) = 2 * e ∧ sgL l (2 * e + 1) = 2 * e + 1
section
variable {l b : List Nat}
theorem met_sizes (h : Inv l b) : (sizes l).length = metB l := by rw [← met_is h]; simp [sizes, sizesTo]
theorem itf_const {f : Nat → Nat} {x : Nat} (h : f x = x) : ∀ k, itf f k x = x
  | 0 => rfl
  | k + 1 => by show f (itf f k x) = x; rw [itf_const h k, h]
open Classical in
theorem shr_verts (h : Inv l b) {b' : List Nat} {e : Nat} (hE : 2 * e + 2 ≤ l.length) (hne : nameOf l (2 * e) ≠ nameOf l (2 * e + 1)) (h' : Inv (woN l (phiL l) e) b') :
    metB (woN l (phiL l) e) + (if bothA l e then 1 else 0) + 1 = metB l := by
  have he : e < l.length / 2 := by omega
  have ha : 2 * e < l.length := by omega
  have hc : 2 * e + 1 < l.length := by omega
  have hpf := sgL_pf h
  have hq := hpf.eqv
  have hJ := joinR.eqv hq ha hc
  have hwl := woN_len l (phiL l) e hE
  have no : ¬ Orb (sgL l) (2 * e) (2 * e + 1) := fun o => hne ((name_iff h ha hc).2 o)
  have k1 := leads_cls h'
  rw [hwl, un_cls hE (R := joinR (Orb (sgL l)) (2 * e) (2 * e + 1)) (fun j k hj hk => shr_orb h hE he hne hj hk)] at k1
  have k2 := cls_out2 hJ ha hc (by omega)
  have k3 := cls_join (P := fun _ => True) hq (fun _ _ _ _ _ _ => trivial) ha hc trivial trivial no
  rw [leads_cls h] at k3
  have r01 : joinR (Orb (sgL l)) (2 * e) (2 * e + 1) (2 * e) (2 * e + 1) := .inr (.inl ⟨⟨0, rfl⟩, ⟨0, rfl⟩⟩)
  rw [if_pos ⟨2 * e + 1, hc, by omega, r01⟩] at k2
  have hb : bothA l e ↔ ¬ ∃ y, y < l.length ∧ y ≠ 2 * e ∧ y ≠ 2 * e + 1 ∧ joinR (Orb (sgL l)) (2 * e) (2 * e + 1) (2 * e + 1) y := by
    constructor
    · rintro ⟨s0, s1⟩ ⟨y, hy, y0, y1, r⟩
      rcases r with ⟨k, r⟩ | ⟨_, k, r⟩ | ⟨_, k, r⟩
      · rw [itf_const s1] at r; exact y1 r.symm
      · rw [itf_const s1] at r; exact y1 r.symm
      · rw [itf_const s0] at r; exact y0 r.symm
    · intro H
      constructor
      · refine Classical.byContradiction fun c => H ⟨sgL l (2 * e), hpf.lt _ ha, c, fun c1 => no ⟨1, c1⟩, ?_⟩
        exact .inr (.inr ⟨⟨0, rfl⟩, ⟨1, rfl⟩⟩)
      · refine Classical.byContradiction fun c => H ⟨sgL l (2 * e + 1), hpf.lt _ hc, fun c1 => no (hq.symm _ _ hc ha ⟨1, c1⟩), c, ?_⟩
        exact .inl ⟨1, rfl⟩
  by_cases c : bothA l e
  · rw [if_neg (hb.1 c)] at k2
    rw [if_pos c]; omega
  · rw [if_pos (Classical.byContradiction fun x => c (hb.2 x))] at k2
    rw [if_neg c]; omega
theorem phi_two {e : Nat} (hE : 2 * e + 2 ≤ l.length) : sgL (phiL l) (2 * e) = sgL l (2 * e + 1) ∧ sgL (phiL l) (2 * e + 1) = sgL l (2 * e) := by
  constructor
  · have := phi_at l (d := 2 * e) (by omega)
    have e1 : mt (2 * e) = 2 * e + 1 := by unfold mt; rw [if_pos (by omega)]
    rw [e1] at this; exact this
  · have := phi_at l (d := 2 * e + 1) (by omega)
    have e1 : mt (2 * e + 1) = 2 * e := by unfold mt; rw [if_neg (by omega)]; omega
    rw [e1] at this; exact this
open Classical in
theorem shr_faces (h : Inv l b) (hev : l.length % 2 = 0) {b' : List Nat} {e : Nat} (hE : 2 * e + 2 ≤ l.length) (hne : nameOf l (2 * e) ≠ nameOf l (2 * e + 1)) (h' : Inv (woN l (phiL l) e) b') :
    metB (phiL (woN l (phiL l) e)) + (if bothA l e then 1 else 0) = metB (phiL l) := by
  have ha : 2 * e < l.length := by omega
  have hc : 2 * e + 1 < l.length := by omega
  have hpf := sgL_pf h
  have hp := phi_inv h hev
  have hlp := phiL_len l
  have hpp := sgL_pf hp
  have no : ¬ Orb (sgL l) (2 * e) (2 * e + 1) := fun o => hne ((name_iff h ha hc).2 o)
  obtain ⟨z0, z1⟩ := phi_two (l := l) hE
  have n1 : sgL l (2 * e + 1) ≠ 2 * e := fun c1 => no (hpf.eqv.symm _ _ hc ha ⟨1, c1⟩)
  have n0 : sgL l (2 * e) ≠ 2 * e + 1 := fun c1 => no ⟨1, c1⟩
  rw [dual_shrink h hev hE]
  obtain ⟨b2, h2⟩ := cut_inv hp (e := e) (by omega)
  have hwl := woN_len (phiL l) (phiL l) e (by omega)
  have k1 := leads_cls h2
  rw [hwl, cut_cls hp (by omega)] at k1
  have k2 := cls_out2 hpp.eqv (a := 2 * e) (c := 2 * e + 1) (by omega) (by omega) (by omega)
  rw [leads_cls hp, k1] at k2
  rw [if_pos ⟨sgL l (2 * e + 1), by have := hpf.lt _ hc; omega, n1, ⟨1, z0⟩⟩] at k2
  have hb : bothA l e ↔ ¬ ∃ y, y < (phiL l).length ∧ y ≠ 2 * e ∧ y ≠ 2 * e + 1 ∧ Orb (sgL (phiL l)) (2 * e + 1) y := by
    constructor
    · rintro ⟨s0, s1⟩ ⟨y, hy, y0, y1, k, r⟩
      have : ∀ k, itf (sgL (phiL l)) k (2 * e + 1) = 2 * e ∨ itf (sgL (phiL l)) k (2 * e + 1) = 2 * e + 1 := fun k => by
        induction k with
        | zero => exact .inr rfl
        | succ k ih =>
          show sgL (phiL l) _ = _ ∨ sgL (phiL l) _ = _
          rcases ih with ih | ih <;> rw [ih]
          · rw [z0, s1]; exact .inr rfl
          · rw [z1, s0]; exact .inl rfl
      rcases this k with q | q <;> omega
    · intro H
      have a0 : sgL l (2 * e) = 2 * e := Classical.byContradiction fun c =>
        H ⟨sgL l (2 * e), by have := hpf.lt _ ha; omega, c, n0, ⟨1, z1⟩⟩
      refine ⟨a0, Classical.byContradiction fun c => H ⟨sgL l (2 * e + 1), by have := hpf.lt _ hc; omega, n1, c, ⟨2, ?_⟩⟩⟩
      show sgL (phiL l) (sgL (phiL l) (2 * e + 1)) = _
      rw [z1, a0, z0]
  by_cases c : bothA l e
  · rw [if_neg (hb.1 c)] at k2
    rw [if_pos c]; omega
  · rw [if_pos (Classical.byContradiction fun x => c (hb.2 x))] at k2
    rw [if_neg c]; omega
theorem un_mt (e j : Nat) : unN e (mt j) = mt (unN e j) := by have := un_mate e j; rwa [mt_mateN, mt_mateN] at this
theorem join_part (h : Inv l b) (hev : l.length % 2 = 0) {e x y : Nat} (hE : 2 * e + 2 ≤ l.length) (hx : x < l.length) (hy : y < l.length) (r : joinR (Orb (sgL l)) (2 * e) (2 * e + 1) x y) : part l x y := by
  have hq := part_eqv h hev
  have o : ∀ i j, i < l.length → Orb (sgL l) i j → part l i j := fun i j hi o => by
    have := gk_mono (sgL l) (k := 0) (l := l.length / 2) (by omega) (i := i) (j := j) o
    exact this
  have ed : part l (2 * e) (2 * e + 1) := gk_edge (sgL_pf h) e _ (by omega)
  have ha : 2 * e < l.length := by omega
  have hc : 2 * e + 1 < l.length := by omega
  rcases r with r | ⟨r1, r2⟩ | ⟨r1, r2⟩
  · exact o _ _ hx r
  · exact hq.trans _ _ _ hx ha hy (o _ _ hx r1) (hq.trans _ _ _ ha hc hy ed (o _ _ hc r2))
  · exact hq.trans _ _ _ hx hc hy (o _ _ hx r1) (hq.trans _ _ _ hc ha hy (hq.symm _ _ ha hc ed) (o _ _ ha r2))
theorem shr_part (h : Inv l b) (hev : l.length % 2 = 0) {b' : List Nat} {e : Nat} (hE : 2 * e + 2 ≤ l.length) (hne : nameOf l (2 * e) ≠ nameOf l (2 * e + 1)) (h' : Inv (woN l (phiL l) e) b') {j k : Nat} (hj : j < l.length - 2) (hk : k < l.length - 2) :
    part (woN l (phiL l) e) j k ↔ part l (unN e j) (unN e k) := by
  have he : e < l.length / 2 := by omega
  have ha : 2 * e < l.length := by omega
  have hc : 2 * e + 1 < l.length := by omega
  have hpf := sgL_pf h
  have hq := part_eqv h hev
  have hJ := joinR.eqv hpf.eqv ha hc
  have hwl := woN_len l (phiL l) e hE
  have hpf' : PF (l.length - 2) (sgL (woN l (phiL l) e)) := by have := sgL_pf h'; rwa [hwl] at this
  have hq' : Eqv (l.length - 2) (part (woN l (phiL l) e)) := by have := part_eqv h' (by omega); rwa [hwl] at this
  have hu : ∀ j, j < l.length - 2 → unN e j < l.length := fun j hj => unN_lt hE hj
  have o' : ∀ i j, Orb (sgL (woN l (phiL l) e)) i j → part (woN l (phiL l) e) i j := fun i j o => by
    have := gk_mono (sgL (woN l (phiL l) e)) (k := 0) (l := (woN l (phiL l) e).length / 2) (by omega) (i := i) (j := j) o
    exact this
  have mt' : ∀ x, x < l.length - 2 → part (woN l (phiL l) e) x (mt x) := fun x hx => by
    unfold part; rw [hwl]; exact gk_mt hpf' (by omega) _ hx
  constructor
  · intro r
    unfold part at r; rw [hwl] at r
    refine (part_closed (S := fun x => part l (unN e j) (unN e x)) hpf' (m := (l.length - 2) / 2) (by omega) (fun x hx s => ?_) (fun x hx s => ?_) j k hj hk r).1 (hq.refl _ (hu _ hj))
    · have hx' := hpf'.lt _ hx
      have := (shr_orb h hE he hne hx hx').1 ⟨1, rfl⟩
      exact hq.trans _ _ _ (hu _ hj) (hu _ hx) (hu _ hx') s (join_part h hev hE (hu _ hx) (hu _ hx') this)
    · have hx' : mt x < l.length - 2 := mt_in (by omega) hx
      refine hq.trans _ _ _ (hu _ hj) (hu _ hx) (hu _ hx') s ?_
      rw [un_mt]; unfold part; exact gk_mt hpf (by omega) _ (hu _ hx)
  · intro r
    have r01 : joinR (Orb (sgL l)) (2 * e) (2 * e + 1) (2 * e) (2 * e + 1) := .inr (.inl ⟨⟨0, rfl⟩, ⟨0, rfl⟩⟩)
    have key : ∃ y, y < l.length ∧ y / 2 ≠ e ∧ joinR (Orb (sgL l)) (2 * e) (2 * e + 1) (unN e k) y ∧ part (woN l (phiL l) e) j (calN e y) := by
      refine (part_closed (S := fun x => ∃ y, y < l.length ∧ y / 2 ≠ e ∧ joinR (Orb (sgL l)) (2 * e) (2 * e + 1) x y ∧ part (woN l (phiL l) e) j (calN e y)) hpf (m := l.length / 2) (by omega) (fun x hx s => ?_) (fun x hx s => ?_) _ _ (hu _ hj) (hu _ hk) r).1 ⟨unN e j, hu _ hj, (unN_is e j).1, hJ.refl _ (hu _ hj), by rw [(unN_is e j).2]; exact hq'.refl _ hj⟩
      · obtain ⟨y, y1, y2, y3, y4⟩ := s
        have hx' := hpf.lt _ hx
        exact ⟨y, y1, y2, hJ.trans _ _ _ hx' hx y1 (hJ.symm _ _ hx hx' (.inl ⟨1, rfl⟩)) y3, y4⟩
      · obtain ⟨y, y1, y2, y3, y4⟩ := s
        have hx' : mt x < l.length := mt_in hev hx
        by_cases c : x / 2 = e
        · have hm : joinR (Orb (sgL l)) (2 * e) (2 * e + 1) (mt x) x := by
            have : x = 2 * e ∨ x = 2 * e + 1 := by omega
            rcases this with rfl | rfl
            · have e1 : mt (2 * e) = 2 * e + 1 := by unfold mt; rw [if_pos (by omega)]
              rw [e1]; exact hJ.symm _ _ ha hc r01
            · have e1 : mt (2 * e + 1) = 2 * e := by unfold mt; rw [if_neg (by omega)]; omega
              rw [e1]; exact r01
          exact ⟨y, y1, y2, hJ.trans _ _ _ hx' hx y1 hm y3, y4⟩
        · have hcx := cal_ltE hE hx c
          have hcy := cal_ltE hE y1 y2
          have hm2 : (mt x) / 2 ≠ e := by unfold mt; split <;> omega
          have o : Orb (sgL (woN l (phiL l) e)) (calN e x) (calN e y) := (shr_orb h hE he hne hcx hcy).2 (by rw [calN_un e x c, calN_un e y y2]; exact y3)
          have hcm : calN e (mt x) = mt (calN e x) := un_inj (e := e) (by rw [calN_un e _ hm2, un_mt, calN_un e x c])
          have hml : mt (calN e x) < l.length - 2 := mt_in (by omega) hcx
          refine ⟨mt x, hx', hm2, hJ.refl _ hx', ?_⟩
          rw [hcm]
          exact hq'.trans _ _ _ hj hcy hml y4 (hq'.trans _ _ _ hcy hcx hml (hq'.symm _ _ hcx hcy (o' _ _ o)) (mt' _ hcx))
    obtain ⟨y, y1, y2, y3, y4⟩ := key
    have hcy := cal_ltE hE y1 y2
    have o : Orb (sgL (woN l (phiL l) e)) k (calN e y) := (shr_orb h hE he hne hk hcy).2 (by rw [calN_un e y y2]; exact y3)
    exact hq'.trans _ _ _ hj hcy hk y4 (hq'.symm _ _ hk hcy (o' _ _ o))
open Classical in
theorem shr_parts (h : Inv l b) (hev : l.length % 2 = 0) {b' : List Nat} {e : Nat} (hE : 2 * e + 2 ≤ l.length) (hne : nameOf l (2 * e) ≠ nameOf l (2 * e + 1)) (h' : Inv (woN l (phiL l) e) b') :
    pN (woN l (phiL l) e) + (if bothA l e then 1 else 0) = pN l := by
  have ha : 2 * e < l.length := by omega
  have hc : 2 * e + 1 < l.length := by omega
  have hpf := sgL_pf h
  have hq := part_eqv h hev
  have hwl := woN_len l (phiL l) e hE
  have no : ¬ Orb (sgL l) (2 * e) (2 * e + 1) := fun o => hne ((name_iff h ha hc).2 o)
  have ed : part l (2 * e) (2 * e + 1) := gk_edge hpf e _ (by omega)
  unfold pN pn
  rw [hwl, un_cls hE (R := part l) (fun j k hj hk => shr_part h hev hE hne h' hj hk)]
  have k2 := cls_out2 hq ha hc (by omega)
  rw [if_pos ⟨2 * e + 1, hc, by omega, ed⟩] at k2
  have og : ∀ i j, Orb (sgL l) i j → part l i j := fun i j o => by
    have := gk_mono (sgL l) (k := 0) (l := l.length / 2) (by omega) (i := i) (j := j) o
    exact this
  have hb : bothA l e ↔ ¬ ∃ y, y < l.length ∧ y ≠ 2 * e ∧ y ≠ 2 * e + 1 ∧ part l (2 * e + 1) y := by
    constructor
    · rintro ⟨s0, s1⟩ ⟨y, hy, y0, y1, r⟩
      have := (part_closed (S := fun x => x / 2 = e) hpf (m := l.length / 2) (by omega) (fun x hx s => by
        have : x = 2 * e ∨ x = 2 * e + 1 := by omega
        rcases this with rfl | rfl
        · show sgL l (2 * e) / 2 = e; rw [s0]; omega
        · show sgL l (2 * e + 1) / 2 = e; rw [s1]; omega) (fun x hx s => by show mt x / 2 = e; unfold mt; split <;> omega) _ _ hc hy r).1 (by omega)
      omega
    · intro H
      constructor
      · refine Classical.byContradiction fun c => H ⟨sgL l (2 * e), hpf.lt _ ha, c, fun c1 => no ⟨1, c1⟩, ?_⟩
        exact hq.trans _ _ _ hc ha (hpf.lt _ ha) (hq.symm _ _ ha hc ed) (og _ _ ⟨1, rfl⟩)
      · refine Classical.byContradiction fun c => H ⟨sgL l (2 * e + 1), hpf.lt _ hc, fun c1 => no (hpf.eqv.symm _ _ hc ha ⟨1, c1⟩), c, ?_⟩
        exact og _ _ ⟨1, rfl⟩
  by_cases c : bothA l e
  · rw [if_neg (hb.1 c)] at k2
    rw [if_pos c]; omega
  · rw [if_pos (Classical.byContradiction fun x => c (hb.2 x))] at k2
    rw [if_neg c]; omega
theorem shr_genus (h : Inv l b) (hev : l.length % 2 = 0) {b' : List Nat} {e : Nat} (hE : 2 * e + 2 ≤ l.length) (hne : nameOf l (2 * e) ≠ nameOf l (2 * e + 1)) (h' : Inv (woN l (phiL l) e) b') :
    genusN (woN l (phiL l) e) = genusN l := by
  have hwl := woN_len l (phiL l) e hE
  have hev' : (woN l (phiL l) e).length % 2 = 0 := by omega
  have g1 := genus_count h hev
  have g2 := genus_count h' hev'
  rw [met_sizes h, met_sizes (phi_inv h hev)] at g1
  rw [met_sizes h', met_sizes (phi_inv h' hev')] at g2
  have v := shr_verts h hE hne h'
  have f := shr_faces h hev hE hne h'
  have p := shr_parts h hev hE hne h'
  omega
/-- The two vertices have no other darts. -/
theorem both_deg (h : Inv l b) (lone : Int) (hl : 0 ≤ lone) {e : Nat} (hE : 2 * e + 2 ≤ l.length) : degOf l lone (nameOf l (2 * e) : Nat) + degOf l lone (nameOf l (2 * e + 1) : Nat) = 2 ↔ bothA l e := by
  have ha : 2 * e < l.length := by omega
  have hc : 2 * e + 1 < l.length := by omega
  have hpf := sgL_pf h
  have hq := hpf.eqv
  rw [deg_num h lone hl ha, deg_num h lone hl hc]
  have na := num_less (Q := fun i => Orb (sgL l) (2 * e) i) ha (hq.refl _ ha)
  have nc := num_less (Q := fun i => Orb (sgL l) (2 * e + 1) i) hc (hq.refl _ hc)
  have hna := num_none (n := l.length) (Q := fun i => Orb (sgL l) (2 * e) i ∧ i ≠ 2 * e)
  have hnc := num_none (n := l.length) (Q := fun i => Orb (sgL l) (2 * e + 1) i ∧ i ≠ 2 * e + 1)
  constructor
  · intro q
    have q0 := hna.1 (by omega)
    have q1 := hnc.1 (by omega)
    exact ⟨Classical.byContradiction fun c => q0 _ (hpf.lt _ ha) ⟨⟨1, rfl⟩, c⟩, Classical.byContradiction fun c => q1 _ (hpf.lt _ hc) ⟨⟨1, rfl⟩, c⟩⟩
  · rintro ⟨s0, s1⟩
    have q0 := hna.2 (fun y hy ⟨⟨k, r⟩, c⟩ => c (by rw [itf_const s0] at r; exact r.symm))
    have q1 := hnc.2 (fun y hy ⟨⟨k, r⟩, c⟩ => c (by rw [itf_const s1] at r; exact r.symm))
    omega
end
end Go.Proofs.Ytnnjjhjohjajnaa
