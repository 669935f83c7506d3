/- The document's put and flip keep triangulations. The triangle that the document's triangulations of numbers begin with. The document's pick: the next of some numbers. -/
import Derived.Test.YthdmkcnclmgdlaaZSTri
import Derived.Test.YthdmkcnclmgdlaaZg4
import Derived.Test.YthdmkcnclmgdlaaZg2
import Derived.BigQuiet
namespace Go.Proofs.Ythdmkcnclmgdlaa
set_option linter.unusedVariables false
theorem gset (y : List Nat) (k j v : Nat) (hk : k < y.length) : (y.set k v).getD j 0 = if j = k then v else y.getD j 0 := by
  rw [List.getD_eq_getElem?_getD, List.getElem?_set, List.getD_eq_getElem?_getD]
  by_cases e : k = j
  · rw [if_pos e, if_pos e.symm, if_pos hk]; rfl
  · rw [if_neg e, if_neg (Ne.symm e)]
section
variable {n V : Nat} {sg sg' v : Nat → Nat} {l b : List Nat}
theorem TG.congr (h : TG n sg v V) (e : ∀ i, i < n → sg' i = sg i) : TG n sg' v V where
  ev := h.ev
  pos := h.pos
  pf := ⟨fun i hi => by rw [e i hi]; exact h.pf.lt i hi, fun i j hi hj q => h.pf.inj i j hi hj (by rw [← e i hi, ← e j hj]; exact q)⟩
  lab := h.lab
  lsg := fun i hi => by rw [e i hi]; exact h.lsg i hi
  orb := fun i j hi hj q => by
    obtain ⟨k, hk⟩ := h.orb i j hi hj q
    exact ⟨k, by rw [(orb_same (S := fun x => x < n) (fun x hx => e x hx) (fun x hx => h.pf.lt x hx) hi k).1]; exact hk⟩
  sur := h.sur
  cnt := h.cnt
  tri := fun d hd => by
    have m0 := mt_ltn h.ev hd
    have m1 := mt_ltn h.ev (h.pf.lt _ m0)
    have m2 := mt_ltn h.ev (h.pf.lt _ m1)
    rw [e _ m0, e _ m1, e _ m2]
    exact h.tri d hd
  noloop := h.noloop
  simple := h.simple
  conn := fun S h1 h2 h0 => h.conn S (fun i hi s => by rw [← e i hi]; exact h1 i hi s) h2 h0
theorem TG.it_v (h : TG n sg v V) {i : Nat} (hi : i < n) : ∀ k, v (itf sg k i) = v i
  | 0 => rfl
  | k + 1 => by show v (sg (itf sg k i)) = _; rw [h.lsg _ (h.pf.itlt hi k), h.it_v hi k]
theorem TG.name (T : TG l.length (sgL l) v V) (h : Inv l b) {i j : Nat} (hi : i < l.length) (hj : j < l.length) : nameOf l i = nameOf l j ↔ v i = v j := by
  rw [name_iff h hi hj]
  constructor
  · rintro ⟨k, hk⟩
    rw [← hk, T.it_v hi k]
  · exact fun q => T.orb i j hi hj q
/-- Turns that are one to one have the other way. -/
theorem pf_inv (h : PF l.length (sgL l)) : ∃ b, Inv l b := by
  apply good_inv
  intro i hi
  rw [ofN_len] at hi
  rw [ofN_get, ofN_len]
  have := h.lt i hi
  refine ⟨by omega, by unfold sgL at this; omega, fun j hj c => ?_⟩
  rw [ofN_get] at c
  have := h.inj j i (by omega) hi (by unfold sgL; omega)
  omega
theorem tg_orb3 (T : TG l.length (sgL l) v V) (h : Inv l b) {d : Nat} (hd : d < l.length) :
    (orb (phiL l) d).length = 3 ∧ (orb (phiL l) d).getD 0 0 = d ∧ (orb (phiL l) d).getD 1 0 = sgL l (mt d) ∧ (orb (phiL l) d).getD 2 0 = sgL l (mt (sgL l (mt d))) := by
  have F := T.face hd
  have hp := phi_inv h T.ev
  have hl := phiL_len l
  have i0 : it (phiL l) 0 d = d := rfl
  have i1 : it (phiL l) 1 d = sgL l (mt d) := phi_at l hd
  have i2 : it (phiL l) 2 d = sgL l (mt (sgL l (mt d))) := by
    show (phiL l).getD (it (phiL l) 1 d) 0 = _
    rw [i1]; exact phi_at l F.l1
  have i3 : it (phiL l) 3 d = d := by
    show (phiL l).getD (it (phiL l) 2 d) 0 = _
    rw [i2]; exact (phi_at l F.l2).trans F.s2
  obtain ⟨p1, p2, p3⟩ := per_is hp (by rw [hl]; exact hd : d < (phiL l).length)
  have hle : per (phiL l) d ≤ 3 := Nat.le_of_not_lt fun c => p3 3 (by omega) c i3
  have n1 : per (phiL l) d ≠ 1 := fun c => by
    rw [c, i1] at p2
    have := F.d01
    rw [p2] at this
    exact this rfl
  have n2 : per (phiL l) d ≠ 2 := fun c => by
    rw [c, i2] at p2
    have := F.d20
    rw [p2] at this
    exact this rfl
  have h3 : per (phiL l) d = 3 := by omega
  unfold orb
  rw [h3]
  exact ⟨way_len _ _ _, by rw [way_get _ _ _ _ (by omega), i0], by rw [way_get _ _ _ _ (by omega), i1], by rw [way_get _ _ _ _ (by omega), i2]⟩
theorem ps_put {F : List Nat} {x0 x1 x2 : Nat} (hv : l.length % 2 = 0) (l0 : x0 < l.length) (l1 : x1 < l.length) (l2 : x2 < l.length) (n01 : x0 ≠ x1) (n12 : x1 ≠ x2) (n20 : x2 ≠ x0)
    (f0 : F.getD 0 0 = x0) (f1 : F.getD 1 0 = x1) (f2 : F.getD 2 0 = x2) (i : Nat) (hi : i < l.length + 6) : sgL (psL l F 3) i = putS l.length (sgL l) x0 x1 x2 i := by
  have e : psL l F 3 = ((((((((((l ++ List.replicate 6 0).set (mt x2) l.length).set l.length x0).set (l.length + 1) (l.length + 5)).set (mt x0) (l.length + 2)).set (l.length + 2) x1).set (l.length + 3) (l.length + 1)).set (mt x1) (l.length + 4)).set (l.length + 4) x2).set (l.length + 5) (l.length + 3)) := by
    rw [← f0, ← f1, ← f2, ← mt_mateN, ← mt_mateN, ← mt_mateN]; rfl
  have m0 := mt_ltn hv l0
  have m1 := mt_ltn hv l1
  have m2 := mt_ltn hv l2
  have k01 : mt x0 ≠ mt x1 := fun c => n01 (mt_inj c)
  have k12 : mt x1 ≠ mt x2 := fun c => n12 (mt_inj c)
  have k20 : mt x2 ≠ mt x0 := fun c => n20 (mt_inj c)
  show (psL l F 3).getD i 0 = _
  rw [e]
  unfold putS
  clear e f0 f1 f2
  generalize mt x0 = y0 at *
  generalize mt x1 = y1 at *
  generalize mt x2 = y2 at *
  rw [gset _ _ _ _ (by simp), gset _ _ _ _ (by simp), gset _ _ _ _ (by simp; omega), gset _ _ _ _ (by simp), gset _ _ _ _ (by simp), gset _ _ _ _ (by simp; omega), gset _ _ _ _ (by simp), gset _ _ _ _ (by simp), gset _ _ _ _ (by simp; omega)]
  have hap : i < l.length → (l ++ List.replicate 6 0).getD i 0 = sgL l i := fun h => by
    unfold sgL
    rw [List.getD_eq_getElem?_getD, List.getElem?_append_left h, List.getD_eq_getElem?_getD]
  generalize (l ++ List.replicate 6 0).getD i 0 = u at *
  generalize sgL l i = z at *
  by_cases g0 : i = l.length + 5
  · simp only [if_pos g0, if_neg (show ¬ i = l.length + 4 by omega), if_neg (show ¬ i = y1 by omega), if_neg (show ¬ i = l.length + 3 by omega), if_neg (show ¬ i = l.length + 2 by omega), if_neg (show ¬ i = y0 by omega), if_neg (show ¬ i = l.length + 1 by omega), if_neg (show ¬ i = l.length by omega), if_neg (show ¬ i = y2 by omega)]
  by_cases g1 : i = l.length + 4
  · simp only [if_pos g1, if_neg (show ¬ i = l.length + 5 by omega), if_neg (show ¬ i = y1 by omega), if_neg (show ¬ i = l.length + 3 by omega), if_neg (show ¬ i = l.length + 2 by omega), if_neg (show ¬ i = y0 by omega), if_neg (show ¬ i = l.length + 1 by omega), if_neg (show ¬ i = l.length by omega), if_neg (show ¬ i = y2 by omega)]
  by_cases g2 : i = y1
  · simp only [if_pos g2, if_neg (show ¬ i = l.length + 5 by omega), if_neg (show ¬ i = l.length + 4 by omega), if_neg (show ¬ i = l.length + 3 by omega), if_neg (show ¬ i = l.length + 2 by omega), if_neg (show ¬ i = y0 by omega), if_neg (show ¬ i = l.length + 1 by omega), if_neg (show ¬ i = l.length by omega), if_neg (show ¬ i = y2 by omega)]
  by_cases g3 : i = l.length + 3
  · simp only [if_pos g3, if_neg (show ¬ i = l.length + 5 by omega), if_neg (show ¬ i = l.length + 4 by omega), if_neg (show ¬ i = y1 by omega), if_neg (show ¬ i = l.length + 2 by omega), if_neg (show ¬ i = y0 by omega), if_neg (show ¬ i = l.length + 1 by omega), if_neg (show ¬ i = l.length by omega), if_neg (show ¬ i = y2 by omega)]
  by_cases g4 : i = l.length + 2
  · simp only [if_pos g4, if_neg (show ¬ i = l.length + 5 by omega), if_neg (show ¬ i = l.length + 4 by omega), if_neg (show ¬ i = y1 by omega), if_neg (show ¬ i = l.length + 3 by omega), if_neg (show ¬ i = y0 by omega), if_neg (show ¬ i = l.length + 1 by omega), if_neg (show ¬ i = l.length by omega), if_neg (show ¬ i = y2 by omega)]
  by_cases g5 : i = y0
  · simp only [if_pos g5, if_neg (show ¬ i = l.length + 5 by omega), if_neg (show ¬ i = l.length + 4 by omega), if_neg (show ¬ i = y1 by omega), if_neg (show ¬ i = l.length + 3 by omega), if_neg (show ¬ i = l.length + 2 by omega), if_neg (show ¬ i = l.length + 1 by omega), if_neg (show ¬ i = l.length by omega), if_neg (show ¬ i = y2 by omega)]
  by_cases g6 : i = l.length + 1
  · simp only [if_pos g6, if_neg (show ¬ i = l.length + 5 by omega), if_neg (show ¬ i = l.length + 4 by omega), if_neg (show ¬ i = y1 by omega), if_neg (show ¬ i = l.length + 3 by omega), if_neg (show ¬ i = l.length + 2 by omega), if_neg (show ¬ i = y0 by omega), if_neg (show ¬ i = l.length by omega), if_neg (show ¬ i = y2 by omega)]
  by_cases g7 : i = l.length
  · simp only [if_pos g7, if_neg (show ¬ i = l.length + 5 by omega), if_neg (show ¬ i = l.length + 4 by omega), if_neg (show ¬ i = y1 by omega), if_neg (show ¬ i = l.length + 3 by omega), if_neg (show ¬ i = l.length + 2 by omega), if_neg (show ¬ i = y0 by omega), if_neg (show ¬ i = l.length + 1 by omega), if_neg (show ¬ i = y2 by omega)]
  by_cases g8 : i = y2
  · simp only [if_pos g8, if_neg (show ¬ i = l.length + 5 by omega), if_neg (show ¬ i = l.length + 4 by omega), if_neg (show ¬ i = y1 by omega), if_neg (show ¬ i = l.length + 3 by omega), if_neg (show ¬ i = l.length + 2 by omega), if_neg (show ¬ i = y0 by omega), if_neg (show ¬ i = l.length + 1 by omega), if_neg (show ¬ i = l.length by omega)]
  simp only [if_neg g0, if_neg g1, if_neg g2, if_neg g3, if_neg g4, if_neg g5, if_neg g6, if_neg g7, if_neg g8]
  exact hap (by omega)
theorem put_tg (T : TG l.length (sgL l) v V) (h : Inv l b) {d : Nat} (hd : d < l.length) :
    (orb (phiL l) d).length = 3 ∧ (psL l (orb (phiL l) d) 3).length = l.length + 6 ∧ ∃ b' v', Inv (psL l (orb (phiL l) d) 3) b' ∧ TG (psL l (orb (phiL l) d) 3).length (sgL (psL l (orb (phiL l) d) 3)) v' (V + 1) := by
  obtain ⟨o0, o1, o2, o3⟩ := tg_orb3 T h hd
  have F := T.face hd
  have hlen := ps_len l (orb (phiL l) d) 3
  have hs : ∀ i, i < l.length + 6 → sgL (psL l (orb (phiL l) d) 3) i = putS l.length (sgL l) d (sgL l (mt d)) (sgL l (mt (sgL l (mt d)))) i := fun i hi =>
    ps_put T.ev F.l0 F.l1 F.l2 (fun c => F.d01 (congrArg v c)) (fun c => F.d12 (congrArg v c)) (fun c => F.d20 (congrArg v c)) o1 o2 o3 i hi
  have G := (T.put F).congr hs
  rw [← hlen] at G
  obtain ⟨b', hb'⟩ := pf_inv G.pf
  exact ⟨o0, hlen, b', _, hb', G⟩
theorem fl_flip (h : Inv l b) (T : TG l.length (sgL l) v V) {d e x1 a y1 c : Nat} (t : Tri6 l.length (sgL l) v d e x1 a y1 c) (i : Nat) (hi : i < l.length) :
    sgL (flL l b d e a c (mt x1) (mt y1)) i = flipS (sgL l) d e x1 a y1 c i := by
  obtain ⟨⟨l0, l1, l2, m0, m1, m2, s0, s1, s2, v0, v1, v2, d01, d12, d20⟩, ⟨k0, k1, k2, n0, n1, n2, t0, t1, t2, w0, w1, w2, c01, c12, c20⟩, de, ed, cd, no⟩ := t
  have bd : b.getD d 0 = mt a := by rw [← s2]; exact h.lb _ m2
  have be : b.getD e 0 = mt c := by rw [← t2]; exact h.lb _ n2
  have ld : l.getD d 0 = y1 := by rw [ed] at t0; exact t0
  have le : l.getD e 0 = x1 := by rw [de] at s0; exact s0
  rw [de] at v0
  rw [ed] at w0
  have D : ∀ p q, v p ≠ v q → p ≠ q := fun p q z c => z (congrArg v c)
  have nde : v d ≠ v e := fun z => d01 (z.trans v0)
  have nea : v e ≠ v a := fun z => d12 (v0.symm.trans z)
  have ndc : v d ≠ v c := fun z => c12 (w0.symm.trans z)
  have q1 : mt a ≠ mt c := D _ _ (by rw [v2, w2]; exact nde)
  have q2 : mt a ≠ mt x1 := D _ _ (by rw [v2, v1]; exact d20.symm)
  have q3 : mt a ≠ mt y1 := D _ _ (by rw [v2, w1]; exact ndc)
  have q4 : mt a ≠ d := fun z => by
    have : a = e := by rw [← de, ← z, mt_mt']
    exact D a e nea.symm this
  have q5 : mt a ≠ e := D _ _ (by rw [v2]; exact nde)
  have q6 : mt c ≠ mt x1 := D _ _ (by rw [w2, v1]; exact nea)
  have q7 : mt c ≠ mt y1 := D _ _ (by rw [w2, w1]; exact c20.symm)
  have q8 : mt c ≠ d := D _ _ (by rw [w2]; exact nde.symm)
  have q9 : mt c ≠ e := fun z => by
    have : c = d := by rw [← ed, ← z, mt_mt']
    exact D c d ndc.symm this
  have qa : mt x1 ≠ mt y1 := D _ _ (by rw [v1, w1]; exact cd)
  have qb : mt x1 ≠ d := D _ _ (by rw [v1]; exact d20)
  have qc : mt x1 ≠ e := D _ _ (by rw [v1]; exact nea.symm)
  have qd : mt y1 ≠ d := D _ _ (by rw [w1]; exact ndc.symm)
  have qe : mt y1 ≠ e := D _ _ (by rw [w1]; exact c20)
  have qf : d ≠ e := D _ _ nde
  show (flL l b d e a c (mt x1) (mt y1)).getD i 0 = _
  unfold flL flipS
  rw [bd, be, ld, le]
  clear bd be ld le D nde nea ndc s0 s1 s2 t0 t1 t2 v0 v1 v2 w0 w1 w2 d01 d12 d20 c01 c12 c20 cd no de ed
  generalize mt a = ma at *
  generalize mt c = mc at *
  generalize mt x1 = mx at *
  generalize mt y1 = my at *
  rw [gset _ _ _ _ (by first | omega | (simp only [List.length_set]; omega)), gset _ _ _ _ (by first | omega | (simp only [List.length_set]; omega)), gset _ _ _ _ (by first | omega | (simp only [List.length_set]; omega)), gset _ _ _ _ (by first | omega | (simp only [List.length_set]; omega)), gset _ _ _ _ (by first | omega | (simp only [List.length_set]; omega)), gset _ _ _ _ (by first | omega | (simp only [List.length_set]; omega))]
  show _ = _
  unfold sgL
  generalize l.getD i 0 = z at *
  by_cases g0 : i = e
  · simp only [if_pos g0, if_neg (show ¬ i = my by omega), if_neg (show ¬ i = d by omega), if_neg (show ¬ i = mx by omega), if_neg (show ¬ i = mc by omega), if_neg (show ¬ i = ma by omega)]
  by_cases g1 : i = my
  · simp only [if_pos g1, if_neg (show ¬ i = e by omega), if_neg (show ¬ i = d by omega), if_neg (show ¬ i = mx by omega), if_neg (show ¬ i = mc by omega), if_neg (show ¬ i = ma by omega)]
  by_cases g2 : i = d
  · simp only [if_pos g2, if_neg (show ¬ i = e by omega), if_neg (show ¬ i = my by omega), if_neg (show ¬ i = mx by omega), if_neg (show ¬ i = mc by omega), if_neg (show ¬ i = ma by omega)]
  by_cases g3 : i = mx
  · simp only [if_pos g3, if_neg (show ¬ i = e by omega), if_neg (show ¬ i = my by omega), if_neg (show ¬ i = d by omega), if_neg (show ¬ i = mc by omega), if_neg (show ¬ i = ma by omega)]
  by_cases g4 : i = mc
  · simp only [if_pos g4, if_neg (show ¬ i = e by omega), if_neg (show ¬ i = my by omega), if_neg (show ¬ i = d by omega), if_neg (show ¬ i = mx by omega), if_neg (show ¬ i = ma by omega)]
  by_cases g5 : i = ma
  · simp only [if_pos g5, if_neg (show ¬ i = e by omega), if_neg (show ¬ i = my by omega), if_neg (show ¬ i = d by omega), if_neg (show ¬ i = mx by omega), if_neg (show ¬ i = mc by omega)]
  simp only [if_neg g0, if_neg g1, if_neg g2, if_neg g3, if_neg g4, if_neg g5]
theorem flip_tg (T : TG l.length (sgL l) v V) (h : Inv l b) {d : Nat} (hd : d < l.length) (hj : ¬ Joined l (topN l d) (topN l (mateN d))) :
    ∃ b' v', Inv (flL l b d (mateN d) (topN l d) (topN l (mateN d)) (mateN ((phiL l).getD d 0)) (mateN ((phiL l).getD (mateN d) 0))) b' ∧
      TG (flL l b d (mateN d) (topN l d) (topN l (mateN d)) (mateN ((phiL l).getD d 0)) (mateN ((phiL l).getD (mateN d) 0))).length (sgL (flL l b d (mateN d) (topN l d) (topN l (mateN d)) (mateN ((phiL l).getD d 0)) (mateN ((phiL l).getD (mateN d) 0)))) v' V := by
  have F := T.face hd
  have he : mt d < l.length := F.m0
  have G := T.face he
  have p1 : (phiL l).getD d 0 = sgL l (mt d) := phi_at l hd
  have p2 : (phiL l).getD (mt d) 0 = sgL l (mt (mt d)) := phi_at l he
  have p3 : topN l d = sgL l (mt (sgL l (mt d))) := by unfold topN; rw [p1]; exact phi_at l F.l1
  have p4 : topN l (mt d) = sgL l (mt (sgL l (mt (mt d)))) := by unfold topN; rw [p2]; exact phi_at l G.l1
  rw [mt_mateN d] at hj ⊢
  rw [p1, p2, p3, p4]
  rw [p3, p4] at hj
  rw [mt_mateN (sgL l (mt d)), mt_mateN (sgL l (mt (mt d)))]
  have t : Tri6 l.length (sgL l) v d (mt d) (sgL l (mt d)) (sgL l (mt (sgL l (mt d)))) (sgL l (mt (mt d))) (sgL l (mt (sgL l (mt (mt d))))) :=
    ⟨F, G, rfl, mt_mt' d, fun q => hj (.inl ((T.name h F.l2 G.l2).2 q)), fun x hx q1 q2 => hj (.inr ⟨x, hx, (T.name h hx F.l2).2 q1, by rw [mt_mateN]; exact (T.name h (mt_ltn T.ev hx) G.l2).2 q2⟩)⟩
  have K := (T.flip t).congr (sg' := sgL (flL l b d (mt d) (sgL l (mt (sgL l (mt d)))) (sgL l (mt (sgL l (mt (mt d))))) (mt (sgL l (mt d))) (mt (sgL l (mt (mt d)))))) (fun i hi => fl_flip h T t i hi)
  have hl : (flL l b d (mt d) (sgL l (mt (sgL l (mt d)))) (sgL l (mt (sgL l (mt (mt d))))) (mt (sgL l (mt d))) (mt (sgL l (mt (mt d))))).length = l.length := by unfold flL; simp
  rw [← hl] at K
  obtain ⟨b', hb'⟩ := pf_inv K.pf
  exact ⟨b', _, hb', K⟩
end
end Go.Proofs.Ythdmkcnclmgdlaa
namespace Go.Proofs.Ythdmkcnclmgdlaa
set_option linter.unusedVariables false
def tri0 : List Nat := [5, 2, 1, 4, 3, 0]
def tri0V (i : Nat) : Nat := [0, 1, 1, 2, 2, 0].getD i 0
theorem tri0_inv : Inv tri0 tri0 where
  len := rfl
  lt := by decide
  lt' := by decide
  lb := by decide
  bl := by decide
theorem tri0_tg : TG tri0.length (sgL tri0) tri0V 3 where
  ev := rfl
  pos := by decide
  pf := sgL_pf tri0_inv
  lab := by decide
  lsg := by decide
  orb := fun i j hi hj q => by
    have : i = j ∨ sgL tri0 i = j := (by decide : ∀ i, i < tri0.length → ∀ j, j < tri0.length → tri0V i = tri0V j → (i = j ∨ sgL tri0 i = j)) i hi j hj q
    rcases this with e | e
    · exact ⟨0, e⟩
    · exact ⟨1, e⟩
  sur := fun k hk => by
    have : k = 0 ∨ k = 1 ∨ k = 2 := by omega
    rcases this with rfl | rfl | rfl
    · exact ⟨0, by decide, rfl⟩
    · exact ⟨1, by decide, rfl⟩
    · exact ⟨3, by decide, rfl⟩
  cnt := rfl
  tri := by decide
  noloop := by decide
  simple := fun i j hi hj q q' => (by decide : ∀ i, i < tri0.length → ∀ j, j < tri0.length → tri0V i = tri0V j → tri0V (mt i) = tri0V (mt j) → i = j) i hi j hj q q'
  conn := fun S h1 h2 h0 i hi => by
    have l6 : tri0.length = 6 := rfl
    have s1 : S 1 := h2 0 (by decide) h0
    have s5 : S 5 := h1 0 (by decide) h0
    have s2 : S 2 := h1 1 (by decide) s1
    have s3 : S 3 := h2 2 (by decide) s2
    have s4 : S 4 := h1 3 (by decide) s3
    have : i = 0 ∨ i = 1 ∨ i = 2 ∨ i = 3 ∨ i = 4 ∨ i = 5 := by omega
    rcases this with rfl | rfl | rfl | rfl | rfl | rfl
    · exact h0
    · exact s1
    · exact s2
    · exact s3
    · exact s4
    · exact s5
end Go.Proofs.Ythdmkcnclmgdlaa
namespace Go.Proofs.Ythdmkcnclmgdlaa
set_option maxRecDepth 100000
open Go.RowKit
set_option linter.unusedVariables false
def pkN (by_ : List Int) (a : Nat) : Nat := if by_.length = 0 then 0 else (by_.getD (a % by_.length) 0).toNat + a / by_.length
theorem rd_z8P {w : World} {B n : Nat} {A : Option Addr} {bs : List Int} (h : Rd w B A n (Z8 bs)) (h0 : 0 < n) :
    ∃ b o, A = some ⟨b, o, none⟩ ∧ b < B ∧ ∀ k, k < n → w.cell? ⟨b, o + k, none⟩ = some (.int .u8 (bs.getD k 0)) := by
  have hl : bs.length = n := by have := h.len; simpa [Z8] using this
  obtain ⟨b, o, e, hb, hc⟩ := h.at_ h0
  refine ⟨b, o, e, hb, fun k hk => ?_⟩
  rw [hc k (by simp [Z8]; omega)]
  simp [Z8, List.getD_eq_getElem?_getD, List.getElem?_eq_getElem (show k < bs.length by omega)]
set_option maxHeartbeats 4000000 in
theorem pick_p (A : Option Addr) (m c B : Nat) (by_ : List Int) (a : Nat) (w : World) (h : Rd w B A m (Z8 by_)) (hb : ∀ x ∈ by_, 0 ≤ x ∧ x < 256) (ha : a ≤ 100000) (hm : m ≤ 9223372036854775807) :
    Calls Try.prog 83 #[.slice A m c, .int .i64 (a : Int)] w fun e w' => e = .returned (.int .i64 ((pkN by_ a : Nat) : Int)) ∧ (∃ k, w' = w.drewN k) := by
  have hl : by_.length = m := by have := h.len; simpa [Z8] using this
  rcases Nat.eq_zero_or_pos m with h0 | h0
  · subst h0
    have HP : Hid (pkN by_ a = 0) := by show _ = _; unfold pkN; rw [if_pos hl]
    clear h hb hl
    go_enter Try.func83, Try.ntmps83
    go_wp2_with fail
    go_ret
    exact ⟨by rw [HP.out]; rfl, 0, rfl⟩
  · obtain ⟨r, hr⟩ : ∃ r, r = a % m := ⟨_, rfl⟩
    obtain ⟨q, hq⟩ : ∃ q, q = a / m := ⟨_, rfl⟩
    have hrm : r < m := by rw [hr]; exact Nat.mod_lt _ h0
    have hqa : q ≤ a := by rw [hq]; exact Nat.div_le_self _ _
    obtain ⟨b5, o5, rfl, _, hcz⟩ := rd_z8P h h0
    have cx := hcz r hrm
    obtain ⟨x, hx⟩ : ∃ x : Nat, by_.getD r 0 = (x : Int) := by
      have := hb (by_.getD r 0) (by rw [List.getD_eq_getElem?_getD, List.getElem?_eq_getElem (by rw [hl]; exact hrm)]; exact List.getElem_mem _)
      exact ⟨_, (Int.toNat_of_nonneg this.1).symm⟩
    have hx256 : x < 256 := by
      have := hb (by_.getD r 0) (by rw [List.getD_eq_getElem?_getD, List.getElem?_eq_getElem (by rw [hl]; exact hrm)]; exact List.getElem_mem _)
      omega
    rw [hx] at cx
    have HP : Hid (pkN by_ a = x + q) := by
      show _ = _
      unfold pkN
      rw [if_neg (by omega), hl, ← hr, ← hq, hx]; rfl
    have h1 : (a : Int) % (m : Int) = (r : Int) := by rw [hr]; rfl
    have h1t : (a : Int).tmod (m : Int) = (r : Int) := by rw [Int.tmod_eq_emod_of_nonneg (by omega)]; exact h1
    have h2 : (a : Int) / (m : Int) = (q : Int) := by rw [hq]; rfl
    have h2t : (a : Int).tdiv (m : Int) = (q : Int) := by rw [Int.tdiv_eq_ediv_of_nonneg (by omega)]; exact h2
    have w1 : IntKind.i64.wrap (r : Int) = (r : Int) := by simp [IntKind.wrap, IntKind.signed, IntKind.bits]; omega
    have w2 : IntKind.i64.wrap (q : Int) = (q : Int) := by simp [IntKind.wrap, IntKind.signed, IntKind.bits]; omega
    have w3 : IntKind.i64.wrap (x : Int) = (x : Int) := by simp [IntKind.wrap, IntKind.signed, IntKind.bits]; omega
    have w4 : IntKind.i64.wrap ((x : Int) + (q : Int)) = (x : Int) + (q : Int) := by simp [IntKind.wrap, IntKind.signed, IntKind.bits]; omega
    have hmi : (0 : Int) < (m : Int) := by omega
    have hm0 : ¬ (m : Int) = 0 := by omega
    have hm0n : ¬ m = 0 := by omega
    have hmb : ((m : Int) == 0) = false := by simp; omega
    have hmb2 : decide (m = 0) = false := decide_eq_false hm0n
    have hri : (r : Int) < (m : Int) := by omega
    clear hr hq hcz h hx hl hb
    go_enter Try.func83, Try.ntmps83
    go_wp2_with fail
    go_quiet (fail)
    go_wp2_with fail
    go_ret
    exact ⟨by rw [HP.out]; simp, nq, rfl⟩
end Go.Proofs.Ythdmkcnclmgdlaa
