/- The document's put and flip keep triangulations. Names of the places of a word, rows of them, and the turns that the rows tell: mathematics. -/
import Derived.Test.YtgcbdoljapnecaaZSTri
import Derived.Test.YtgcbdoljapnecaaZg4
import Derived.Test.YtgcbdoljapnecaaZg9
import Derived.Test.YtgcbdoljapnecaaZg3
namespace Go.Proofs.Ytgcbdoljapnecaa
set_option linter.unusedVariables false
theorem gset (y : List Nat) (k j v : Nat) (hk : k < y.length) : (y.set k v).getD j 0 = if j = k then v else y.getD j 0 := by
  rw [List.getD_eq_getElem?_getD, List.getElem?_set, List.getD_eq_getElem?_getD]
  by_cases e : k = j
  · rw [if_pos e, if_pos e.symm, if_pos hk]; rfl
  · rw [if_neg e, if_neg (Ne.symm e)]
section
variable {n V : Nat} {sg sg' v : Nat → Nat} {l b : List Nat}
theorem TG.congr (h : TG n sg v V) (e : ∀ i, i < n → sg' i = sg i) : TG n sg' v V where
  ev := h.ev
  pos := h.pos
  pf := ⟨fun i hi => by rw [e i hi]; exact h.pf.lt i hi, fun i j hi hj q => h.pf.inj i j hi hj (by rw [← e i hi, ← e j hj]; exact q)⟩
  lab := h.lab
  lsg := fun i hi => by rw [e i hi]; exact h.lsg i hi
  orb := fun i j hi hj q => by
    obtain ⟨k, hk⟩ := h.orb i j hi hj q
    exact ⟨k, by rw [(orb_same (S := fun x => x < n) (fun x hx => e x hx) (fun x hx => h.pf.lt x hx) hi k).1]; exact hk⟩
  sur := h.sur
  cnt := h.cnt
  tri := fun d hd => by
    have m0 := mt_ltn h.ev hd
    have m1 := mt_ltn h.ev (h.pf.lt _ m0)
    have m2 := mt_ltn h.ev (h.pf.lt _ m1)
    rw [e _ m0, e _ m1, e _ m2]
    exact h.tri d hd
  noloop := h.noloop
  simple := h.simple
  conn := fun S h1 h2 h0 => h.conn S (fun i hi s => by rw [← e i hi]; exact h1 i hi s) h2 h0
theorem TG.it_v (h : TG n sg v V) {i : Nat} (hi : i < n) : ∀ k, v (itf sg k i) = v i
  | 0 => rfl
  | k + 1 => by show v (sg (itf sg k i)) = _; rw [h.lsg _ (h.pf.itlt hi k), h.it_v hi k]
theorem TG.name (T : TG l.length (sgL l) v V) (h : Inv l b) {i j : Nat} (hi : i < l.length) (hj : j < l.length) : nameOf l i = nameOf l j ↔ v i = v j := by
  rw [name_iff h hi hj]
  constructor
  · rintro ⟨k, hk⟩
    rw [← hk, T.it_v hi k]
  · exact fun q => T.orb i j hi hj q
/-- Turns that are one to one have the other way. -/
theorem pf_inv (h : PF l.length (sgL l)) : ∃ b, Inv l b := by
  apply good_inv
  intro i hi
  rw [ofN_len] at hi
  rw [ofN_get, ofN_len]
  have := h.lt i hi
  refine ⟨by omega, by unfold sgL at this; omega, fun j hj c => ?_⟩
  rw [ofN_get] at c
  have := h.inj j i (by omega) hi (by unfold sgL; omega)
  omega
theorem tg_orb3 (T : TG l.length (sgL l) v V) (h : Inv l b) {d : Nat} (hd : d < l.length) :
    (orb (phiL l) d).length = 3 ∧ (orb (phiL l) d).getD 0 0 = d ∧ (orb (phiL l) d).getD 1 0 = sgL l (mt d) ∧ (orb (phiL l) d).getD 2 0 = sgL l (mt (sgL l (mt d))) := by
  have F := T.face hd
  have hp := phi_inv h T.ev
  have hl := phiL_len l
  have i0 : it (phiL l) 0 d = d := rfl
  have i1 : it (phiL l) 1 d = sgL l (mt d) := phi_at l hd
  have i2 : it (phiL l) 2 d = sgL l (mt (sgL l (mt d))) := by
    show (phiL l).getD (it (phiL l) 1 d) 0 = _
    rw [i1]; exact phi_at l F.l1
  have i3 : it (phiL l) 3 d = d := by
    show (phiL l).getD (it (phiL l) 2 d) 0 = _
    rw [i2]; exact (phi_at l F.l2).trans F.s2
  obtain ⟨p1, p2, p3⟩ := per_is hp (by rw [hl]; exact hd : d < (phiL l).length)
  have hle : per (phiL l) d ≤ 3 := Nat.le_of_not_lt fun c => p3 3 (by omega) c i3
  have n1 : per (phiL l) d ≠ 1 := fun c => by
    rw [c, i1] at p2
    have := F.d01
    rw [p2] at this
    exact this rfl
  have n2 : per (phiL l) d ≠ 2 := fun c => by
    rw [c, i2] at p2
    have := F.d20
    rw [p2] at this
    exact this rfl
  have h3 : per (phiL l) d = 3 := by omega
  unfold orb
  rw [h3]
  exact ⟨way_len _ _ _, by rw [way_get _ _ _ _ (by omega), i0], by rw [way_get _ _ _ _ (by omega), i1], by rw [way_get _ _ _ _ (by omega), i2]⟩
theorem ps_put {F : List Nat} {x0 x1 x2 : Nat} (hv : l.length % 2 = 0) (l0 : x0 < l.length) (l1 : x1 < l.length) (l2 : x2 < l.length) (n01 : x0 ≠ x1) (n12 : x1 ≠ x2) (n20 : x2 ≠ x0)
    (f0 : F.getD 0 0 = x0) (f1 : F.getD 1 0 = x1) (f2 : F.getD 2 0 = x2) (i : Nat) (hi : i < l.length + 6) : sgL (psL l F 3) i = putS l.length (sgL l) x0 x1 x2 i := by
  have e : psL l F 3 = ((((((((((l ++ List.replicate 6 0).set (mt x2) l.length).set l.length x0).set (l.length + 1) (l.length + 5)).set (mt x0) (l.length + 2)).set (l.length + 2) x1).set (l.length + 3) (l.length + 1)).set (mt x1) (l.length + 4)).set (l.length + 4) x2).set (l.length + 5) (l.length + 3)) := by
    rw [← f0, ← f1, ← f2, ← mt_mateN, ← mt_mateN, ← mt_mateN]; rfl
  have m0 := mt_ltn hv l0
  have m1 := mt_ltn hv l1
  have m2 := mt_ltn hv l2
  have k01 : mt x0 ≠ mt x1 := fun c => n01 (mt_inj c)
  have k12 : mt x1 ≠ mt x2 := fun c => n12 (mt_inj c)
  have k20 : mt x2 ≠ mt x0 := fun c => n20 (mt_inj c)
  show (psL l F 3).getD i 0 = _
  rw [e]
  unfold putS
  clear e f0 f1 f2
  generalize mt x0 = y0 at *
  generalize mt x1 = y1 at *
  generalize mt x2 = y2 at *
  rw [gset _ _ _ _ (by simp), gset _ _ _ _ (by simp), gset _ _ _ _ (by simp; omega), gset _ _ _ _ (by simp), gset _ _ _ _ (by simp), gset _ _ _ _ (by simp; omega), gset _ _ _ _ (by simp), gset _ _ _ _ (by simp), gset _ _ _ _ (by simp; omega)]
  have hap : i < l.length → (l ++ List.replicate 6 0).getD i 0 = sgL l i := fun h => by
    unfold sgL
    rw [List.getD_eq_getElem?_getD, List.getElem?_append_left h, List.getD_eq_getElem?_getD]
  generalize (l ++ List.replicate 6 0).getD i 0 = u at *
  generalize sgL l i = z at *
  by_cases g0 : i = l.length + 5
  · simp only [if_pos g0, if_neg (show ¬ i = l.length + 4 by omega), if_neg (show ¬ i = y1 by omega), if_neg (show ¬ i = l.length + 3 by omega), if_neg (show ¬ i = l.length + 2 by omega), if_neg (show ¬ i = y0 by omega), if_neg (show ¬ i = l.length + 1 by omega), if_neg (show ¬ i = l.length by omega), if_neg (show ¬ i = y2 by omega)]
  by_cases g1 : i = l.length + 4
  · simp only [if_pos g1, if_neg (show ¬ i = l.length + 5 by omega), if_neg (show ¬ i = y1 by omega), if_neg (show ¬ i = l.length + 3 by omega), if_neg (show ¬ i = l.length + 2 by omega), if_neg (show ¬ i = y0 by omega), if_neg (show ¬ i = l.length + 1 by omega), if_neg (show ¬ i = l.length by omega), if_neg (show ¬ i = y2 by omega)]
  by_cases g2 : i = y1
  · simp only [if_pos g2, if_neg (show ¬ i = l.length + 5 by omega), if_neg (show ¬ i = l.length + 4 by omega), if_neg (show ¬ i = l.length + 3 by omega), if_neg (show ¬ i = l.length + 2 by omega), if_neg (show ¬ i = y0 by omega), if_neg (show ¬ i = l.length + 1 by omega), if_neg (show ¬ i = l.length by omega), if_neg (show ¬ i = y2 by omega)]
  by_cases g3 : i = l.length + 3
  · simp only [if_pos g3, if_neg (show ¬ i = l.length + 5 by omega), if_neg (show ¬ i = l.length + 4 by omega), if_neg (show ¬ i = y1 by omega), if_neg (show ¬ i = l.length + 2 by omega), if_neg (show ¬ i = y0 by omega), if_neg (show ¬ i = l.length + 1 by omega), if_neg (show ¬ i = l.length by omega), if_neg (show ¬ i = y2 by omega)]
  by_cases g4 : i = l.length + 2
  · simp only [if_pos g4, if_neg (show ¬ i = l.length + 5 by omega), if_neg (show ¬ i = l.length + 4 by omega), if_neg (show ¬ i = y1 by omega), if_neg (show ¬ i = l.length + 3 by omega), if_neg (show ¬ i = y0 by omega), if_neg (show ¬ i = l.length + 1 by omega), if_neg (show ¬ i = l.length by omega), if_neg (show ¬ i = y2 by omega)]
  by_cases g5 : i = y0
  · simp only [if_pos g5, if_neg (show ¬ i = l.length + 5 by omega), if_neg (show ¬ i = l.length + 4 by omega), if_neg (show ¬ i = y1 by omega), if_neg (show ¬ i = l.length + 3 by omega), if_neg (show ¬ i = l.length + 2 by omega), if_neg (show ¬ i = l.length + 1 by omega), if_neg (show ¬ i = l.length by omega), if_neg (show ¬ i = y2 by omega)]
  by_cases g6 : i = l.length + 1
  · simp only [if_pos g6, if_neg (show ¬ i = l.length + 5 by omega), if_neg (show ¬ i = l.length + 4 by omega), if_neg (show ¬ i = y1 by omega), if_neg (show ¬ i = l.length + 3 by omega), if_neg (show ¬ i = l.length + 2 by omega), if_neg (show ¬ i = y0 by omega), if_neg (show ¬ i = l.length by omega), if_neg (show ¬ i = y2 by omega)]
  by_cases g7 : i = l.length
  · simp only [if_pos g7, if_neg (show ¬ i = l.length + 5 by omega), if_neg (show ¬ i = l.length + 4 by omega), if_neg (show ¬ i = y1 by omega), if_neg (show ¬ i = l.length + 3 by omega), if_neg (show ¬ i = l.length + 2 by omega), if_neg (show ¬ i = y0 by omega), if_neg (show ¬ i = l.length + 1 by omega), if_neg (show ¬ i = y2 by omega)]
  by_cases g8 : i = y2
  · simp only [if_pos g8, if_neg (show ¬ i = l.length + 5 by omega), if_neg (show ¬ i = l.length + 4 by omega), if_neg (show ¬ i = y1 by omega), if_neg (show ¬ i = l.length + 3 by omega), if_neg (show ¬ i = l.length + 2 by omega), if_neg (show ¬ i = y0 by omega), if_neg (show ¬ i = l.length + 1 by omega), if_neg (show ¬ i = l.length by omega)]
  simp only [if_neg g0, if_neg g1, if_neg g2, if_neg g3, if_neg g4, if_neg g5, if_neg g6, if_neg g7, if_neg g8]
  exact hap (by omega)
theorem put_tg (T : TG l.length (sgL l) v V) (h : Inv l b) {d : Nat} (hd : d < l.length) :
    (orb (phiL l) d).length = 3 ∧ (psL l (orb (phiL l) d) 3).length = l.length + 6 ∧ ∃ b' v', Inv (psL l (orb (phiL l) d) 3) b' ∧ TG (psL l (orb (phiL l) d) 3).length (sgL (psL l (orb (phiL l) d) 3)) v' (V + 1) := by
  obtain ⟨o0, o1, o2, o3⟩ := tg_orb3 T h hd
  have F := T.face hd
  have hlen := ps_len l (orb (phiL l) d) 3
  have hs : ∀ i, i < l.length + 6 → sgL (psL l (orb (phiL l) d) 3) i = putS l.length (sgL l) d (sgL l (mt d)) (sgL l (mt (sgL l (mt d)))) i := fun i hi =>
    ps_put T.ev F.l0 F.l1 F.l2 (fun c => F.d01 (congrArg v c)) (fun c => F.d12 (congrArg v c)) (fun c => F.d20 (congrArg v c)) o1 o2 o3 i hi
  have G := (T.put F).congr hs
  rw [← hlen] at G
  obtain ⟨b', hb'⟩ := pf_inv G.pf
  exact ⟨o0, hlen, b', _, hb', G⟩
theorem fl_flip (h : Inv l b) (T : TG l.length (sgL l) v V) {d e x1 a y1 c : Nat} (t : Tri6 l.length (sgL l) v d e x1 a y1 c) (i : Nat) (hi : i < l.length) :
    sgL (flL l b d e a c (mt x1) (mt y1)) i = flipS (sgL l) d e x1 a y1 c i := by
  obtain ⟨⟨l0, l1, l2, m0, m1, m2, s0, s1, s2, v0, v1, v2, d01, d12, d20⟩, ⟨k0, k1, k2, n0, n1, n2, t0, t1, t2, w0, w1, w2, c01, c12, c20⟩, de, ed, cd, no⟩ := t
  have bd : b.getD d 0 = mt a := by rw [← s2]; exact h.lb _ m2
  have be : b.getD e 0 = mt c := by rw [← t2]; exact h.lb _ n2
  have ld : l.getD d 0 = y1 := by rw [ed] at t0; exact t0
  have le : l.getD e 0 = x1 := by rw [de] at s0; exact s0
  rw [de] at v0
  rw [ed] at w0
  have D : ∀ p q, v p ≠ v q → p ≠ q := fun p q z c => z (congrArg v c)
  have nde : v d ≠ v e := fun z => d01 (z.trans v0)
  have nea : v e ≠ v a := fun z => d12 (v0.symm.trans z)
  have ndc : v d ≠ v c := fun z => c12 (w0.symm.trans z)
  have q1 : mt a ≠ mt c := D _ _ (by rw [v2, w2]; exact nde)
  have q2 : mt a ≠ mt x1 := D _ _ (by rw [v2, v1]; exact d20.symm)
  have q3 : mt a ≠ mt y1 := D _ _ (by rw [v2, w1]; exact ndc)
  have q4 : mt a ≠ d := fun z => by
    have : a = e := by rw [← de, ← z, mt_mt']
    exact D a e nea.symm this
  have q5 : mt a ≠ e := D _ _ (by rw [v2]; exact nde)
  have q6 : mt c ≠ mt x1 := D _ _ (by rw [w2, v1]; exact nea)
  have q7 : mt c ≠ mt y1 := D _ _ (by rw [w2, w1]; exact c20.symm)
  have q8 : mt c ≠ d := D _ _ (by rw [w2]; exact nde.symm)
  have q9 : mt c ≠ e := fun z => by
    have : c = d := by rw [← ed, ← z, mt_mt']
    exact D c d ndc.symm this
  have qa : mt x1 ≠ mt y1 := D _ _ (by rw [v1, w1]; exact cd)
  have qb : mt x1 ≠ d := D _ _ (by rw [v1]; exact d20)
  have qc : mt x1 ≠ e := D _ _ (by rw [v1]; exact nea.symm)
  have qd : mt y1 ≠ d := D _ _ (by rw [w1]; exact ndc.symm)
  have qe : mt y1 ≠ e := D _ _ (by rw [w1]; exact c20)
  have qf : d ≠ e := D _ _ nde
  show (flL l b d e a c (mt x1) (mt y1)).getD i 0 = _
  unfold flL flipS
  rw [bd, be, ld, le]
  clear bd be ld le D nde nea ndc s0 s1 s2 t0 t1 t2 v0 v1 v2 w0 w1 w2 d01 d12 d20 c01 c12 c20 cd no de ed
  generalize mt a = ma at *
  generalize mt c = mc at *
  generalize mt x1 = mx at *
  generalize mt y1 = my at *
  rw [gset _ _ _ _ (by first | omega | (simp only [List.length_set]; omega)), gset _ _ _ _ (by first | omega | (simp only [List.length_set]; omega)), gset _ _ _ _ (by first | omega | (simp only [List.length_set]; omega)), gset _ _ _ _ (by first | omega | (simp only [List.length_set]; omega)), gset _ _ _ _ (by first | omega | (simp only [List.length_set]; omega)), gset _ _ _ _ (by first | omega | (simp only [List.length_set]; omega))]
  show _ = _
  unfold sgL
  generalize l.getD i 0 = z at *
  by_cases g0 : i = e
  · simp only [if_pos g0, if_neg (show ¬ i = my by omega), if_neg (show ¬ i = d by omega), if_neg (show ¬ i = mx by omega), if_neg (show ¬ i = mc by omega), if_neg (show ¬ i = ma by omega)]
  by_cases g1 : i = my
  · simp only [if_pos g1, if_neg (show ¬ i = e by omega), if_neg (show ¬ i = d by omega), if_neg (show ¬ i = mx by omega), if_neg (show ¬ i = mc by omega), if_neg (show ¬ i = ma by omega)]
  by_cases g2 : i = d
  · simp only [if_pos g2, if_neg (show ¬ i = e by omega), if_neg (show ¬ i = my by omega), if_neg (show ¬ i = mx by omega), if_neg (show ¬ i = mc by omega), if_neg (show ¬ i = ma by omega)]
  by_cases g3 : i = mx
  · simp only [if_pos g3, if_neg (show ¬ i = e by omega), if_neg (show ¬ i = my by omega), if_neg (show ¬ i = d by omega), if_neg (show ¬ i = mc by omega), if_neg (show ¬ i = ma by omega)]
  by_cases g4 : i = mc
  · simp only [if_pos g4, if_neg (show ¬ i = e by omega), if_neg (show ¬ i = my by omega), if_neg (show ¬ i = d by omega), if_neg (show ¬ i = mx by omega), if_neg (show ¬ i = ma by omega)]
  by_cases g5 : i = ma
  · simp only [if_pos g5, if_neg (show ¬ i = e by omega), if_neg (show ¬ i = my by omega), if_neg (show ¬ i = d by omega), if_neg (show ¬ i = mx by omega), if_neg (show ¬ i = mc by omega)]
  simp only [if_neg g0, if_neg g1, if_neg g2, if_neg g3, if_neg g4, if_neg g5]
theorem flip_tg (T : TG l.length (sgL l) v V) (h : Inv l b) {d : Nat} (hd : d < l.length) (hj : ¬ Joined l (topN l d) (topN l (mateN d))) :
    ∃ b' v', Inv (flL l b d (mateN d) (topN l d) (topN l (mateN d)) (mateN ((phiL l).getD d 0)) (mateN ((phiL l).getD (mateN d) 0))) b' ∧
      TG (flL l b d (mateN d) (topN l d) (topN l (mateN d)) (mateN ((phiL l).getD d 0)) (mateN ((phiL l).getD (mateN d) 0))).length (sgL (flL l b d (mateN d) (topN l d) (topN l (mateN d)) (mateN ((phiL l).getD d 0)) (mateN ((phiL l).getD (mateN d) 0)))) v' V := by
  have F := T.face hd
  have he : mt d < l.length := F.m0
  have G := T.face he
  have p1 : (phiL l).getD d 0 = sgL l (mt d) := phi_at l hd
  have p2 : (phiL l).getD (mt d) 0 = sgL l (mt (mt d)) := phi_at l he
  have p3 : topN l d = sgL l (mt (sgL l (mt d))) := by unfold topN; rw [p1]; exact phi_at l F.l1
  have p4 : topN l (mt d) = sgL l (mt (sgL l (mt (mt d)))) := by unfold topN; rw [p2]; exact phi_at l G.l1
  rw [mt_mateN d] at hj ⊢
  rw [p1, p2, p3, p4]
  rw [p3, p4] at hj
  rw [mt_mateN (sgL l (mt d)), mt_mateN (sgL l (mt (mt d)))]
  have t : Tri6 l.length (sgL l) v d (mt d) (sgL l (mt d)) (sgL l (mt (sgL l (mt d)))) (sgL l (mt (mt d))) (sgL l (mt (sgL l (mt (mt d))))) :=
    ⟨F, G, rfl, mt_mt' d, fun q => hj (.inl ((T.name h F.l2 G.l2).2 q)), fun x hx q1 q2 => hj (.inr ⟨x, hx, (T.name h hx F.l2).2 q1, by rw [mt_mateN]; exact (T.name h (mt_ltn T.ev hx) G.l2).2 q2⟩)⟩
  have K := (T.flip t).congr (sg' := sgL (flL l b d (mt d) (sgL l (mt (sgL l (mt d)))) (sgL l (mt (sgL l (mt (mt d))))) (mt (sgL l (mt d))) (mt (sgL l (mt (mt d)))))) (fun i hi => fl_flip h T t i hi)
  have hl : (flL l b d (mt d) (sgL l (mt (sgL l (mt d)))) (sgL l (mt (sgL l (mt (mt d))))) (mt (sgL l (mt d))) (mt (sgL l (mt (mt d))))).length = l.length := by unfold flL; simp
  rw [← hl] at K
  obtain ⟨b', hb'⟩ := pf_inv K.pf
  exact ⟨b', _, hb', K⟩
end
end Go.Proofs.Ytgcbdoljapnecaa
namespace Go.Proofs.Ytgcbdoljapnecaa
set_option maxRecDepth 20000
open Go.RowKit
set_option linter.unusedVariables false
set_option linter.unusedSimpArgs false
section
variable {ks : List Nat} {tw : Nat → Nat}
theorem matAt_uniq {i p p' : Nat} (h : MateAt ks i p) (k : MateAt ks i p') : p = p' := by
  obtain ⟨h1, h2, h3⟩ := h
  obtain ⟨k1, k2, k3⟩ := k
  have := h3.uniq (exc_Exc _) k3
  exact ah_uniq (ks.getD i 0 / 2) ks p p' h1 k1 h2 k2 (by omega)
theorem matAt_back {i p : Nat} (hi : i < ks.length) (h : MateAt ks i p) : MateAt ks p i := by
  obtain ⟨h1, h2, h3⟩ := h
  refine ⟨hi, h2.symm, ?_⟩
  rw [h2]
  exact h3.back
theorem ah_ltP {s i j : Nat} (hi : i < ks.length) (hj : j < ks.length) (h : ah s ks i < ah s ks j) : i < j := by
  rcases Nat.lt_or_ge i j with c | c
  · exact c
  · have := ah_mono s ks j (i - j) (by omega)
    rw [show j + (i - j) = i by omega] at this
    omega
theorem prg_of (kd : Kds ks) (y : List Int) (H : ∀ i, i < ks.length → MatI ks i (y.getD i 0)) : Prg ks (fun j => (y.getD j 0).toNat) ∧ ∀ j, j < ks.length → y.getD j 0 = (((y.getD j 0).toNat : Nat) : Int) := by
  have hm : ∀ j, j < ks.length → MateAt ks j (y.getD j 0).toNat := fun j hj => by
    obtain ⟨q, e, m⟩ := H j hj
    rw [e]; exact m
  refine ⟨⟨kd, fun j hj => (hm j hj).1, fun j hj => ?_, fun j hj c => ?_, fun j hj => (hm j hj).2.1, fun j hj => ?_⟩, fun j hj => ?_⟩
  · exact matAt_uniq (hm _ (hm j hj).1) (matAt_back hj (hm j hj))
  · have h3 := (hm j hj).2.2
    rw [c] at h3
    obtain ⟨q, e, p | p⟩ := h3
    · have := p.lt; omega
    · have := p.lt; omega
  · obtain ⟨h1, h2, h3⟩ := hm j hj
    have st := step_s (s := ks.getD j 0 / 2) hj rfl
    have hk : ks.getD j 0 % 2 = 0 ∨ ks.getD j 0 % 2 = 1 := by omega
    obtain ⟨q, e, p | p⟩ := h3
    · have o := p.opens (exc_Exc _)
      have l := p.lt
      have := ah_ltP hj h1 (s := ks.getD j 0 / 2) (by omega)
      constructor
      · exact fun _ => this
      · intro _; rcases hk with z | z
        · exact z
        · rw [z] at st; exact absurd o (by rw [st]; omega)
    · have o := p.closes (exc_Exc _)
      have l := p.lt
      have := ah_ltP h1 hj (s := ks.getD j 0 / 2) (by omega)
      constructor
      · intro z; rw [z] at st; exact absurd o (by rw [st]; omega)
      · intro c; omega
  · obtain ⟨q, e, m⟩ := H j hj
    rw [e]; rfl
/-- How many open ahead. -/
def opN (ks : List Nat) : Nat → Nat
  | 0 => 0
  | i + 1 => opN ks i + if ks.getD i 0 % 2 = 0 then 1 else 0
theorem opN_mono (ks : List Nat) (i : Nat) : ∀ k, opN ks i ≤ opN ks (i + k)
  | 0 => Nat.le_refl _
  | k + 1 => by have := opN_mono ks i k; show _ ≤ opN ks (i + k) + _; omega
theorem opN_lt {i j : Nat} (hi : ks.getD i 0 % 2 = 0) (h : i < j) : opN ks i < opN ks j := by
  have h1 : opN ks (i + 1) = opN ks i + 1 := by show opN ks i + _ = _; rw [if_pos hi]
  have := opN_mono ks (i + 1) (j - (i + 1))
  rw [show i + 1 + (j - (i + 1)) = j by omega] at this
  omega
theorem opN_num (ks : List Nat) : ∀ i, opN ks i = num (fun j => ks.getD j 0 % 2 = 0) i ∧ opN ks i + num (fun j => ¬ ks.getD j 0 % 2 = 0) i = i
  | 0 => ⟨rfl, rfl⟩
  | i + 1 => by
    obtain ⟨h1, h2⟩ := opN_num ks i
    have a := num_next (fun j => ks.getD j 0 % 2 = 0) i
    have b := num_next (fun j => ¬ ks.getD j 0 % 2 = 0) i
    show opN ks i + _ = _ ∧ opN ks i + _ + _ = _
    by_cases c : ks.getD i 0 % 2 = 0
    · rw [if_pos c, a.1 c, b.2 (fun k => k c)]; omega
    · rw [if_neg c, a.2 c, b.1 c]; omega
theorem opN_half (P : Prg ks tw) : 2 * opN ks ks.length = ks.length := by
  obtain ⟨h1, h2⟩ := opN_num ks ks.length
  have oe : ∀ x, x < ks.length → (ks.getD x 0 % 2 = 0 ↔ ¬ ks.getD (tw x) 0 % 2 = 0) := fun x hx => by
    have a := P.opn x hx
    have b := P.opn (tw x) (P.lt x hx)
    rw [P.tt x hx] at b
    have := P.ne x hx
    rw [a, b]; omega
  have a := num_inj (A := fun j => ks.getD j 0 % 2 = 0) (B := fun j => ¬ ks.getD j 0 % 2 = 0) (n := ks.length) tw (fun x hx q => ⟨P.lt x hx, (oe x hx).1 q⟩) (fun x y hx hy _ _ e => by rw [← P.tt x hx, e, P.tt y hy])
  have b := num_inj (A := fun j => ¬ ks.getD j 0 % 2 = 0) (B := fun j => ks.getD j 0 % 2 = 0) (n := ks.length) tw (fun x hx q => ⟨P.lt x hx, by
    have := (oe (tw x) (P.lt x hx)).2; rw [P.tt x hx] at this; exact this q⟩) (fun x y hx hy _ _ e => by rw [← P.tt x hx, e, P.tt y hy])
  omega
/-- A place's name. -/
def nmF (ks : List Nat) (tw : Nat → Nat) (i : Nat) : Nat := if ks.getD i 0 % 2 = 0 then 2 * opN ks i else 2 * opN ks (tw i) + 1
theorem nm_lt (P : Prg ks tw) {i : Nat} (hi : i < ks.length) : nmF ks tw i < ks.length := by
  have hh := opN_half P
  unfold nmF
  by_cases c : ks.getD i 0 % 2 = 0
  · rw [if_pos c]
    have := opN_lt c hi
    omega
  · rw [if_neg c]
    have ht := P.lt i hi
    have b := P.opn (tw i) ht
    rw [P.tt i hi] at b
    have a := P.opn i hi
    have ne := P.ne i hi
    have := opN_lt (b.2 (by omega)) ht
    omega
theorem nm_inj (P : Prg ks tw) {i j : Nat} (hi : i < ks.length) (hj : j < ks.length) (h : nmF ks tw i = nmF ks tw j) : i = j := by
  have inj : ∀ x y, ks.getD x 0 % 2 = 0 → ks.getD y 0 % 2 = 0 → opN ks x = opN ks y → x = y := fun x y hx hy e => by
    rcases Nat.lt_trichotomy x y with c | c | c
    · have := opN_lt hx c; omega
    · exact c
    · have := opN_lt hy c; omega
  have tev : ∀ x, x < ks.length → ¬ ks.getD x 0 % 2 = 0 → ks.getD (tw x) 0 % 2 = 0 := fun x hx q => by
    have b := P.opn (tw x) (P.lt x hx)
    rw [P.tt x hx] at b
    have a := P.opn x hx
    have ne := P.ne x hx
    exact b.2 (by omega)
  unfold nmF at h
  by_cases c : ks.getD i 0 % 2 = 0
  · by_cases d : ks.getD j 0 % 2 = 0
    · rw [if_pos c, if_pos d] at h; exact inj i j c d (by omega)
    · rw [if_pos c, if_neg d] at h; omega
  · by_cases d : ks.getD j 0 % 2 = 0
    · rw [if_neg c, if_pos d] at h; omega
    · rw [if_neg c, if_neg d] at h
      have := inj _ _ (tev i hi c) (tev j hj d) (by omega)
      rw [← P.tt i hi, this, P.tt j hj]
/-- The names that are known when i places are looked at. -/
def NmI (ks : List Nat) (tw : Nat → Nat) (y : List Int) (i : Nat) : Prop := ∀ j, j < i → ks.getD j 0 % 2 = 0 → y.getD j 0 = ((2 * opN ks j : Nat) : Int) ∧ y.getD (tw j) 0 = ((2 * opN ks j + 1 : Nat) : Int)
theorem nm_step (P : Prg ks tw) {y : List Int} {i : Nat} (hy : y.length = ks.length) (hi : i < ks.length) (he : ks.getD i 0 % 2 = 0) (h : NmI ks tw y i) :
    NmI ks tw ((y.set i ((2 * opN ks i : Nat) : Int)).set (tw i) ((2 * opN ks i + 1 : Nat) : Int)) (i + 1) := fun j hj hjo => by
  have gs : ∀ (z : List Int) (a b : Nat) (v : Int), a < z.length → (z.set a v).getD b 0 = if b = a then v else z.getD b 0 := fun z a b v ha => by
    rw [List.getD_eq_getElem?_getD, List.getElem?_set]
    by_cases e : a = b
    · subst e; simp [ha]
    · rw [if_neg e, if_neg (Ne.symm e), ← List.getD_eq_getElem?_getD]
  have ht := P.lt i hi
  have ho := (P.opn i hi).1 he
  rw [gs _ _ _ _ (by simp; omega), gs _ _ _ _ (by omega), gs _ _ _ _ (by simp; omega), gs _ _ _ _ (by omega)]
  by_cases e : j = i
  · subst e
    rw [if_neg (by omega), if_pos rfl, if_pos rfl]
    exact ⟨rfl, rfl⟩
  · have hjl : j < ks.length := by omega
    have hjt := (P.opn j hjl).1 hjo
    have n1 : tw j ≠ i := fun c => by
      have := (P.opn (tw j) (P.lt j hjl))
      rw [P.tt j hjl, c] at this
      have := this.1 he
      omega
    have n2 : tw j ≠ tw i := fun c => e (by rw [← P.tt j hjl, c, P.tt i hi])
    rw [if_neg (by omega), if_neg e, if_neg n2, if_neg n1]
    exact h j (by omega) hjo
theorem nm_skip {y : List Int} {i : Nat} (he : ¬ ks.getD i 0 % 2 = 0) (h : NmI ks tw y i) : NmI ks tw y (i + 1) := fun j hj hjo => by
  by_cases e : j = i
  · subst e; exact absurd hjo he
  · exact h j (by omega) hjo
def nmL (ks : List Nat) (tw : Nat → Nat) : List Nat := (List.range ks.length).map (nmF ks tw)
theorem nmL_len (ks : List Nat) (tw : Nat → Nat) : (nmL ks tw).length = ks.length := by simp [nmL]
theorem nmL_get (ks : List Nat) (tw : Nat → Nat) {i : Nat} (hi : i < ks.length) : (nmL ks tw).getD i 0 = nmF ks tw i := by
  unfold nmL
  rw [List.getD_eq_getElem?_getD, List.getElem?_map, List.getElem?_range hi]; rfl
theorem nm_done (P : Prg ks tw) {y : List Int} (hy : y.length = ks.length) (h : NmI ks tw y ks.length) : y = ofN (nmL ks tw) := by
  apply List.ext_getElem
  · rw [ofN_len, nmL_len, hy]
  · intro i h1 h2
    have hi : i < ks.length := by omega
    have e1 : y[i] = y.getD i 0 := by rw [List.getD_eq_getElem?_getD, List.getElem?_eq_getElem h1]; rfl
    have e2 : (ofN (nmL ks tw))[i] = (((nmL ks tw).getD i 0 : Nat) : Int) := by rw [← ofN_get, List.getD_eq_getElem?_getD, List.getElem?_eq_getElem h2]; rfl
    rw [e1, e2, nmL_get ks tw hi]
    unfold nmF
    by_cases c : ks.getD i 0 % 2 = 0
    · rw [if_pos c]; exact (h i hi c).1
    · rw [if_neg c]
      have b := P.opn (tw i) (P.lt i hi)
      rw [P.tt i hi] at b
      have a := P.opn i hi
      have ne := P.ne i hi
      have := (h (tw i) (P.lt i hi) (b.2 (by omega))).2
      rw [P.tt i hi] at this
      exact this
end
/-- Who is next in a row. -/
def nxR (v : List Nat) (i : Nat) : Nat := if i + 1 < v.length then v.getD (i + 1) 0 else v.getD 0 0
theorem rows_uniq {os : List (List Nat)} (h : os.flatten.Nodup) {r r' i i' : Nat} (hr : r < os.length) (hr' : r' < os.length) (hi : i < (os.getD r []).length) (hi' : i' < (os.getD r' []).length)
    (e : (os.getD r []).getD i 0 = (os.getD r' []).getD i' 0) : r = r' ∧ i = i' := by
  have g : ∀ k, k < os.length → os.getD k [] ∈ os := fun k hk => by rw [List.getD_eq_getElem?_getD, List.getElem?_eq_getElem hk]; exact List.getElem_mem _
  have ge : ∀ k (hk : k < os.length), os.getD k [] = os[k] := fun k hk => by rw [List.getD_eq_getElem?_getD, List.getElem?_eq_getElem hk]; rfl
  have gm : ∀ (v : List Nat) k, k < v.length → v.getD k 0 ∈ v := fun v k hk => by rw [List.getD_eq_getElem?_getD, List.getElem?_eq_getElem hk]; exact List.getElem_mem _
  obtain ⟨h1, h2⟩ := List.pairwise_flatten.1 h
  rw [List.pairwise_iff_getElem] at h2
  have dis : ∀ a b, a < b → (ha : a < os.length) → (hb : b < os.length) → ∀ x, x ∈ os.getD a [] → x ∈ os.getD b [] → False := fun a b hab ha hb x xa xb => by
    have := h2 a b ha hb hab
    rw [ge a ha] at xa
    rw [ge b hb] at xb
    exact this x xa x xb rfl
  have hrr : r = r' := by
    rcases Nat.lt_trichotomy r r' with c | c | c
    · exact absurd (gm _ _ hi') fun q => dis r r' c hr hr' _ (gm _ _ hi) (by rw [e]; exact q)
    · exact c
    · exact absurd (gm _ _ hi) fun q => dis r' r c hr' hr _ (gm _ _ hi') (by rw [← e]; exact q)
  subst hrr
  refine ⟨rfl, ?_⟩
  have hn := h1 _ (g r hr)
  have gi : ∀ (v : List Nat) k (hk : k < v.length), v.getD k 0 = v[k] := fun v k hk => by rw [List.getD_eq_getElem?_getD, List.getElem?_eq_getElem hk]; rfl
  rw [gi _ _ hi, gi _ _ hi'] at e
  exact (List.getElem_inj hn).1 e
open Classical in
noncomputable def zR (os : List (List Nat)) (d : Nat) : Nat :=
  if h : ∃ r i, r < os.length ∧ i < (os.getD r []).length ∧ (os.getD r []).getD i 0 = d then nxR (os.getD h.choose []) h.choose_spec.choose else d
theorem zR_at {os : List (List Nat)} (h : os.flatten.Nodup) {r i : Nat} (hr : r < os.length) (hi : i < (os.getD r []).length) : zR os ((os.getD r []).getD i 0) = nxR (os.getD r []) i := by
  have hx : ∃ r' i', r' < os.length ∧ i' < (os.getD r' []).length ∧ (os.getD r' []).getD i' 0 = (os.getD r []).getD i 0 := ⟨r, i, hr, hi, rfl⟩
  unfold zR
  rw [dif_pos hx]
  obtain ⟨q1, q2, q3⟩ := hx.choose_spec.choose_spec
  obtain ⟨e1, e2⟩ := rows_uniq h q1 hr q2 hi q3
  rw [e2, e1]
noncomputable def zL (os : List (List Nat)) (n : Nat) : List Nat := (List.range n).map (zR os)
theorem zL_len (os : List (List Nat)) (n : Nat) : (zL os n).length = n := by simp [zL]
theorem zL_get (os : List (List Nat)) {n i : Nat} (hi : i < n) : (zL os n).getD i 0 = zR os i := by
  unfold zL
  rw [List.getD_eq_getElem?_getD, List.getElem?_map, List.getElem?_range hi]; rfl
theorem mem_rows {os : List (List Nat)} {x : Nat} (h : x ∈ os.flatten) : ∃ r i, r < os.length ∧ i < (os.getD r []).length ∧ (os.getD r []).getD i 0 = x := by
  obtain ⟨v, hv, hx⟩ := List.mem_flatten.1 h
  obtain ⟨r, hr, e⟩ := List.getElem_of_mem hv
  obtain ⟨i, hi, e2⟩ := List.getElem_of_mem hx
  have ge : os.getD r [] = v := by rw [List.getD_eq_getElem?_getD, List.getElem?_eq_getElem hr, ← e]; rfl
  refine ⟨r, i, hr, by rw [ge]; exact hi, ?_⟩
  rw [ge, List.getD_eq_getElem?_getD, List.getElem?_eq_getElem hi, ← e2]; rfl
theorem rows_mem {os : List (List Nat)} {r i : Nat} (hr : r < os.length) (hi : i < (os.getD r []).length) : (os.getD r []).getD i 0 ∈ os.flatten := by
  refine List.mem_flatten.2 ⟨os.getD r [], ?_, ?_⟩
  · rw [List.getD_eq_getElem?_getD, List.getElem?_eq_getElem hr]; exact List.getElem_mem _
  · rw [List.getD_eq_getElem?_getD (l := os.getD r []), List.getElem?_eq_getElem hi]; exact List.getElem_mem _
theorem zL_inv {os : List (List Nat)} {n : Nat} (h : os.flatten.Nodup) (hm : ∀ x, x ∈ os.flatten ↔ x < n) : ∃ b, Inv (zL os n) b := by
  have lp : ∀ r i, r < os.length → i < (os.getD r []).length → ∃ j, j < (os.getD r []).length ∧ nxR (os.getD r []) i = (os.getD r []).getD j 0 ∧ (j = i + 1 ∨ j = 0 ∧ i + 1 = (os.getD r []).length) := fun r i hr hi => by
    unfold nxR
    by_cases c : i + 1 < (os.getD r []).length
    · rw [if_pos c]; exact ⟨_, c, rfl, .inl rfl⟩
    · rw [if_neg c]; exact ⟨0, by omega, rfl, .inr ⟨rfl, by omega⟩⟩
  apply pf_inv
  rw [zL_len]
  have at_ : ∀ x, x < n → ∃ r j, r < os.length ∧ j < (os.getD r []).length ∧ sgL (zL os n) x = (os.getD r []).getD j 0 ∧ ∃ i, i < (os.getD r []).length ∧ (os.getD r []).getD i 0 = x ∧ (j = i + 1 ∨ j = 0 ∧ i + 1 = (os.getD r []).length) := fun x hx => by
    obtain ⟨r, i, hr, hi, e⟩ := mem_rows ((hm x).2 hx)
    obtain ⟨j, hj, ej, hji⟩ := lp r i hr hi
    refine ⟨r, j, hr, hj, ?_, i, hi, e, hji⟩
    show (zL os n).getD x 0 = _
    rw [zL_get os hx, ← e, zR_at h hr hi, ej]
  refine ⟨fun x hx => ?_, fun x y hx hy e => ?_⟩
  · obtain ⟨r, j, hr, hj, e, _⟩ := at_ x hx
    rw [e]; exact (hm _).1 (rows_mem hr hj)
  · obtain ⟨r, j, hr, hj, e1, i, hi, ei, hji⟩ := at_ x hx
    obtain ⟨r', j', hr', hj', e2, i', hi', ei', hji'⟩ := at_ y hy
    rw [e1, e2] at e
    obtain ⟨q1, q2⟩ := rows_uniq h hr hr' hj hj' e
    subst q1
    have : i = i' := by omega
    subst this
    rw [← ei, ← ei']
theorem flat_set (os : List (List Nat)) : ∀ (v x : Nat), v < os.length → (os.set v (os.getD v [] ++ [x])).flatten.Perm (os.flatten ++ [x]) := by
  induction os with
  | nil => intro v x h; simp at h
  | cons o os ih =>
    intro v x h
    cases v with
    | zero =>
      simp only [List.set_cons_zero, List.flatten_cons, List.getD_cons_zero, List.append_assoc]
      exact List.Perm.append_left o List.perm_append_comm
    | succ v =>
      simp only [List.set_cons_succ, List.flatten_cons, List.getD_cons_succ, List.append_assoc]
      exact List.Perm.append_left o (ih v x (by simpa using h))
theorem flat_snoc (os : List (List Nat)) : (os ++ [[]]).flatten = os.flatten := by simp
end Go.Proofs.Ytgcbdoljapnecaa
