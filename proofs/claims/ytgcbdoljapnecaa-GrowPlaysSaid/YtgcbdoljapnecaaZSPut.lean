/- The document's put: a vertex into a triangle. -/
import Derived.Test.YtgcbdoljapnecaaZg2
import Derived.Test.YtgcbdoljapnecaaZPRef2
import Derived.Test.YtgcbdoljapnecaaZENam
namespace Go.Proofs.Ytgcbdoljapnecaa
set_option maxRecDepth 100000
open Go.RowKit
set_option linter.unusedVariables false
/-- The darts' turns when i corners of the triangle have their edges. -/
def psL (l : List Nat) (F : List Nat) : Nat → List Nat
  | 0 => l ++ List.replicate 6 0
  | i + 1 => (((psL l F i).set (mateN (F.getD ((i + 2) % 3) 0)) (l.length + 2 * i)).set (l.length + 2 * i) (F.getD i 0)).set (l.length + 2 * i + 1) (l.length + 2 * ((i + 2) % 3) + 1)
theorem ps_len (l F : List Nat) : ∀ i, (psL l F i).length = l.length + 6
  | 0 => by simp [psL]
  | i + 1 => by unfold psL; simp [ps_len l F i]
theorem ofN_setP (l : List Nat) (k v : Nat) : ofN (l.set k v) = (ofN l).set k (v : Int) := by simp [ofN]
theorem ofN_repl (k : Nat) : ofN (List.replicate k 0) = List.replicate k (0 : Int) := by simp [ofN]
/-- Append by the run's equation, the second argument's type another. -/
theorem wpList_append_runP {P : Program} {w : World} {ops : Array Oper} {rest : List Oper} {o : Oper} {a : Act} {Q : Exit → Act → World → Prop} (hw : Region.wanted o (yielded ops a.tmps) = true) (s x : Operand) (t tn : TypeId)
    (ho : o.op = .call { callee := .builtin .append, args := #[s, x], argTypes := #[t, tn] }) (v u v' : Value) (w' : World) (hs : a.eval s = v) (hx : a.eval x = u)
    (hr : (Builtin.append_ #[t, tn] o.type #[v, u]).run P w = .ok v' w') (h : wpList P ops Q rest (a.put o.dst v') w') : wpList P ops Q (o :: rest) a w :=
  wpList_wanted hw fun K hK => by
    unfold Oper.wp execOp
    simp only [ho, resolve, invoke, builtin, Sem.run_bind, Sem.run_pure, Result.andThen_ok, List.map_toArray, List.map_cons, List.map_nil, hs, hx, hr]
    exact hK _ _ h
set_option maxHeartbeats 8000000 in
theorem rtput_p (A : Option Addr) (c : Nat) (l b : List Nat) (root lone : Int) (d : Nat) (w : World)
    (h : Rd w w.heap.size A l.length (I64 (ofN l))) (hinv : Inv l b) (hev : l.length % 2 = 0) (hn : l.length ≤ 20000) (hd : d < l.length) (h3 : (orb (phiL l) d).length = 3) :
    Calls Try.prog 60 #[.agg #[.slice A l.length c, .int .i64 root, .int .i64 lone], .int .i64 (d : Int)] w (NewRO w (psL l (orb (phiL l) d) 3) root 0) := by
  obtain ⟨i0, hi0, hz0, hz1, hz2⟩ := info_parts info_int
  have hb0 := ((Below.refl w.heap.size w).alloc (Nat.le_refl _) (.cells #[.slice A l.length c, .int .i64 root, .int .i64 lone] 27)).alloc (by simp) (.cells #[.slice none 0 0, .int .i64 0, .int .i64 0] 27)
  have HX := Lib.hid ((Blk.new w 27 #[.slice A l.length c, .int .i64 root, .int .i64 lone]).alloc (.cells #[.slice none 0 0, .int .i64 0, .int .i64 0] 27))
  have hy := (Blk.new (w.alloc (.cells #[.slice A l.length c, .int .i64 root, .int .i64 lone] 27)) 27 #[.slice none 0 0, .int .i64 0, .int .i64 0])
  rw [show (w.alloc (.cells #[.slice A l.length c, .int .i64 root, .int .i64 lone] 27)).heap.size = w.heap.size + 1 by simp] at hy
  have HY := Lib.hid hy
  have HR := Lib.hid (h.more hb0)
  have HB0 := Lib.hid hb0
  have HINF := Lib.hid info_rmap
  have hp := phi_inv hinv hev
  have hpl := phiL_len l
  have PH : Hid (∀ W, Below _ _ W → Calls Try.prog 32 #[.agg #[.slice A l.length c, .int .i64 root, .int .i64 lone]] W (NewI64 W (ofN (phiL l)))) := fun W m => rphi_p A c l root lone W ((HR.out.below m).up m.size) hev (by omega)
  obtain ⟨F, hF⟩ : ∃ F, F = orb (phiL l) d := ⟨_, rfl⟩
  have HFL : Hid (∀ i, i < 3 → F.getD i 0 < l.length) := fun i hi => by
    have hdp : d < (phiL l).length := by rw [hpl]; exact hd
    have hm : F.getD i 0 ∈ orb (phiL l) d := by rw [← hF, List.getD_eq_getElem?_getD, List.getElem?_eq_getElem (by rw [hF, h3]; exact hi)]; exact List.getElem_mem _
    obtain ⟨t, ht⟩ := (mem_orb hp hdp).1 hm
    rw [← ht]
    have := it_lt hp hdp t
    rwa [hpl] at this
  have OP : Hid (∀ W A9 c9, Rd W W.heap.size A9 l.length (I64 (ofN (phiL l))) → Calls Try.prog 39 #[.slice A9 l.length c9, .int .i64 (d : Int)] W (NewI64 W (ofN F))) := fun W A9 c9 hrd => by
    rw [hF]
    have := rorbit_p A9 c9 W.heap.size (phiL l) _ d W (by rw [hpl]; exact hrd) hp (by omega) (by omega)
    rw [hpl] at this
    exact this
  have HPL : Hid ((ofN (phiL l)).length = l.length) := by show _ = _; rw [ofN_len]; exact hpl
  have HF3 : Hid ((ofN F).length = 3 ∧ F.length = 3) := by
    constructor
    · rw [ofN_len, hF]; exact h3
    · rw [hF]; exact h3
  have HEV := Lib.hid hev
  rw [← hF]
  obtain ⟨n, hnn⟩ : ∃ n, n = l.length := ⟨_, rfl⟩
  have HN : Hid (n = l.length) := hnn
  clear h hb0 hinv hy hp hpl hF h3 hev
  go_enter Try.func60, Try.ntmps60
  go_upto_region 1 with fail
  generalize hw3 : (w.alloc (.cells #[.slice A l.length c, .int .i64 root, .int .i64 lone] 27)).alloc (.cells #[.slice none 0 0, .int .i64 0, .int .i64 0] 27) = w3 at *
  have hs3 : w3.heap.size = w.heap.size + 2 := by rw [← hw3]; simp
  have x0 : w3.cell? ⟨w.heap.size, 0, none⟩ = some (.slice A l.length c) := HX.out.cell 0
  have x1 : w3.cell? ⟨w.heap.size, 1, none⟩ = some (.int .i64 root) := HX.out.cell 1
  have x2 : w3.cell? ⟨w.heap.size, 2, none⟩ = some (.int .i64 lone) := HX.out.cell 2
  have SK : Hid (∀ W, Below w3.heap.size w3 W → W.cell? ⟨w.heap.size, 0, none⟩ = some (.slice A l.length c) ∧ W.cell? ⟨w.heap.size, 1, none⟩ = some (.int .i64 root) ∧ W.cell? ⟨w.heap.size, 2, none⟩ = some (.int .i64 lone)) := fun W m => ⟨(m.cell (p := ⟨w.heap.size, 0, none⟩) (show w.heap.size < w3.heap.size by omega)).trans x0, (m.cell (p := ⟨w.heap.size, 1, none⟩) (show w.heap.size < w3.heap.size by omega)).trans x1, (m.cell (p := ⟨w.heap.size, 2, none⟩) (show w.heap.size < w3.heap.size by omega)).trans x2⟩
  have Z0 := Below.refl w3.heap.size w3
  clear hw3 HX
  go_wp2_with fail
  refine (PH.out _ Z0).mono ?_
  rintro en w4 ⟨A4, c4, rfl, hc4, hm4, hown4, b4⟩
  rw [HPL.out] at hc4 hown4 ⊢
  have Z4 := Lib.hid (Z0.trans (b4.mono (Nat.le_refl _)))
  have O4 := Lib.hid (OP.out w4 A4 c4 (Rd.ofOwn hown4))
  clear b4 hown4 hc4 hm4 PH OP Z0 x0 x1 x2
  go_wp2_with fail
  refine O4.out.mono ?_
  rintro en w5 ⟨A5, c5, rfl, hc5, hm5, hown5, b5⟩
  rw [HF3.out.1] at hc5 hown5 ⊢
  obtain ⟨gF, rfl, hgF, hgFw⟩ := own_some hown5 (by omega)
  have Z5 := Lib.hid (Z4.out.trans (b5.mono Z4.out.size))
  have O5 := Lib.hid hown5
  obtain ⟨x0, x1, x2⟩ := SK.out _ Z5.out
  clear b5 hown5 O4
  have hs5 := Z5.out.size
  -- the empty row, and the map's turns behind it
  have hlit := World.ownsRow_lit (base := w5.heap.size) (e := 3) (size := 1) w5 #[] 0 (Nat.le_refl _) (by simp [maxLen]) (by simp)
  have halE : Below w5.heap.size w5 (w5.alloc (.cells #[] 3)) := (Below.refl _ _).alloc (Nat.le_refl _) _
  obtain ⟨v1, w6, hrun1, own1, gr1, _⟩ := run_append_rd (P := Try.prog) (w5.alloc (.cells #[] 3)) w5.heap.size 25 25 3 i0 (.int .i64 0) 8 Try.underlying25 hi0 hz0 hz1 hz2 rfl _ 0 [] hlit w3.heap.size A l.length c (I64 (ofN l)) ((HR.out.below Z5.out).below (halE.mono hs5)) (I64_one _) (by simp only [maxLen]; omega) (by omega) (by simp)
  rw [Nat.zero_add, List.nil_append] at own1
  have b6 := halE.trans (Below.appended hlit gr1 (by simp))
  obtain ⟨A1, c1, ev1, _⟩ := own_form own1
  subst ev1
  obtain ⟨v2, w7, hrun2, own2, gr2, _⟩ := run_append_zeros (P := Try.prog) w6 25 3 25 3 i0 (.int .i64 0) .i64 .i64 Try.underlying25 Try.underlying3 hi0 hz0 hz1 rfl rfl w5.heap.size _ l.length _ own1 6 (by omega) (by simp only [maxLen]; omega) (by rw [hz2]; omega) b6.size
  have b7 := b6.trans (Below.appended own1 gr2 b6.size)
  rw [show ((6 : Nat) : Int) = 6 from rfl] at hrun2
  obtain ⟨xe0, _, _⟩ := SK.out _ (Z5.out.trans (halE.mono hs5))
  obtain ⟨N6, hN6⟩ : ∃ N6, N6 = l.length + 6 := ⟨_, rfl⟩
  obtain ⟨A2, c2, ev2, hc2, hm2⟩ := own_form own2
  subst ev2
  obtain ⟨gS, rfl, hgS, hgSw⟩ := own_some own2 (by omega)
  rw [← hN6] at own2 hrun2 hc2
  have OW : Hid (w7.ownsRow w5.heap.size 3 1 (.slice (some ⟨gS, 0, none⟩) N6 c2) N6 (I64 (ofN (psL l F 0)))) := by
    have e1 : I64 (ofN (psL l F 0)) = I64 (ofN l) ++ List.replicate 6 (.int .i64 0) := by
      unfold psL
      rw [ofN_append, I64_append, ofN_repl]
      simp [I64]
    show World.ownsRow _ _ _ _ _ _ _
    rw [e1]; exact own2
  have HB7 := Lib.hid b7
  have HC2 := Lib.hid (And.intro hc2 hm2)
  have FC : Hid (∀ W, Below w5.heap.size w5 W → ∀ j, j < 3 → W.cell? ⟨gF, j, none⟩ = some (.int .i64 ((F.getD j 0 : Nat) : Int))) := fun W m j hj => by
    have := own_cellI (own_below O5.out m) j hj
    rwa [ofN_get] at this
  have nSF : gS ≠ gF := by omega
  have hN6b : N6 = n + 6 := by omega
  have HN6 := Lib.hid hN6b
  have MT : Hid (∀ x : Nat, x ≤ 1000000 → ∀ W, Calls Try.prog 35 #[.int .i64 (x : Int)] W fun e w' => e = .returned (.int .i64 ((mateN x : Nat) : Int)) ∧ W = w') := fun x hx W => rmate_p x W hx
  have HGS : Hid (w5.heap.size ≤ gS) := hgS
  have HML : Hid (∀ x, x < l.length → mateN x < l.length) := fun x hx => mateN_lt HEV.out hx
  have h20 : n ≤ 20000 := by omega
  clear hlit halE own1 gr1 own2 gr2 b6 b7 hN6 hc2 hm2 hnn hN6b hgS
  go_upto_region 3 with fail
  go_upto_region 4 with fail
  go_upto_region 5 with (first
    | (at_builtin; go_must (first
        | (refine wpList_append_runP rfl _ _ _ _ rfl _ _ _ _ rfl rfl hrun1 ?_)
        | (refine wpList_append_runP rfl _ _ _ _ rfl _ _ _ _ rfl rfl hrun2 ?_))))
  clear hrun1 hrun2 x0 x1 x2 xe0
  go_wp2_with fail
  go_loopw [31] (fun i wr => ∃ (k : Nat), k ≤ 3 ∧ i = .int .i64 (k : Int) ∧ Hid (wr.ownsRow w5.heap.size 3 1 (.slice (some ⟨gS, 0, none⟩) N6 c2) N6 (I64 (ofN (psL l F k)))) ∧ Hid (Below w5.heap.size w5 wr)) (fun i _ => 3 - (intOf i).toNat)
  case atStart => exact ⟨0, by omega, rfl, OW.out, HB7.out⟩
  case round =>
    clear OW HB7
    obtain ⟨k, hk, rfl, HO, HB⟩ := hrel
    have hk4 : k = 0 ∨ k = 1 ∨ k = 2 ∨ k = 3 := by omega
    rcases hk4 with rfl | rfl | rfl | rfl
    · have cK := FC.out _ HB.out 0 (by omega)
      have cJ := FC.out _ HB.out 2 (by omega)
      have hFK := HFL.out 0 (by omega)
      have hFJ := HFL.out 2 (by omega)
      have MJ := Lib.hid (MT.out (F.getD 2 0) (by omega))
      have hMJ := HML.out _ hFJ
      obtain ⟨x, hx⟩ : ∃ x, x = F.getD 0 0 := ⟨_, rfl⟩
      obtain ⟨y, hy⟩ : ∃ y, y = F.getD 2 0 := ⟨_, rfl⟩
      obtain ⟨bp, hbp⟩ : ∃ bp, bp = mateN (F.getD 2 0) := ⟨_, rfl⟩
      obtain ⟨a, ha⟩ : ∃ a, a = l.length + 0 := ⟨_, rfl⟩
      obtain ⟨a1, ha1⟩ : ∃ a1, a1 = l.length + 0 + 1 := ⟨_, rfl⟩
      obtain ⟨q, hq⟩ : ∃ q, q = l.length + 4 := ⟨_, rfl⟩
      obtain ⟨vj, hvj⟩ : ∃ vj, vj = l.length + 4 + 1 := ⟨_, rfl⟩
      have hps : psL l F 1 = (((psL l F 0).set bp a).set a x).set a1 vj := by
        rw [hbp, ha, hx, ha1, hvj]; rfl
      rw [← hbp] at MJ
      rw [← hx] at cK
      rw [← hy] at cJ MJ
      have o0 := HO.out
      have hn6 := HN6.out
      have hnl := HN.out
      have p1 : bp < N6 := by rw [hbp]; omega
      have p2 : a < N6 := by omega
      have p3 : a1 < N6 := by omega
      have o1 := own_setI o0 bp (a : Int)
      have o2 := own_setI o1 a (x : Int)
      have o3 := own_setI o2 a1 (vj : Int)
      have s1 := own_cellI o0 bp p1
      have f1 := o0.frozenAt bp
      have s2 := own_cellI o1 a p2
      have f2 := o1.frozenAt a
      have s3 := own_cellI o2 a1 p3
      have f3 := o2.frozenAt a1
      have HO4 : Hid ((((wr.setCell ⟨gS, bp, none⟩ (.int .i64 (a : Int))).setCell ⟨gS, a, none⟩ (.int .i64 (x : Int))).setCell ⟨gS, a1, none⟩ (.int .i64 (vj : Int))).ownsRow w5.heap.size 3 1 (.slice (some ⟨gS, 0, none⟩) N6 c2) N6 (I64 (ofN (psL l F 1)))) := by
        show World.ownsRow _ _ _ _ _ _ _
        rw [hps, ofN_setP, ofN_setP, ofN_setP]; exact o3
      have HB4 : Hid (Below w5.heap.size w5 (((wr.setCell ⟨gS, bp, none⟩ (.int .i64 (a : Int))).setCell ⟨gS, a, none⟩ (.int .i64 (x : Int))).setCell ⟨gS, a1, none⟩ (.int .i64 (vj : Int)))) := ((HB.out.setCell (p := ⟨gS, bp, none⟩) HGS.out _).setCell (p := ⟨gS, a, none⟩) HGS.out _).setCell (p := ⟨gS, a1, none⟩) HGS.out _
      have i1 : (bp : Int) < (N6 : Int) := by omega
      have i2 : (a : Int) < (N6 : Int) := by omega
      have i3 : (a1 : Int) < (N6 : Int) := by omega
      have cc1 := (Mod.setCell (p := ⟨gS, bp, none⟩) (Mod.refl (fun i => i = gS) wr) (fun _ => rfl) (.int .i64 (a : Int)))
      have w_a : IntKind.i64.wrap (a : Int) = (a : Int) := by simp [IntKind.wrap, IntKind.signed, IntKind.bits]; omega
      have w_a1 : IntKind.i64.wrap (a1 : Int) = (a1 : Int) := by simp [IntKind.wrap, IntKind.signed, IntKind.bits]; omega
      have w_q : IntKind.i64.wrap (q : Int) = (q : Int) := by simp [IntKind.wrap, IntKind.signed, IntKind.bits]; omega
      have w_vj : IntKind.i64.wrap (vj : Int) = (vj : Int) := by simp [IntKind.wrap, IntKind.signed, IntKind.bits]; omega
      have t1 : (l.length : Int) + 0 = (a : Int) := by omega
      have t2 : (a : Int) + 1 = (a1 : Int) := by omega
      have t3 : (l.length : Int) + 4 = (q : Int) := by omega
      have t4 : (q : Int) + 1 = (vj : Int) := by omega
      clear o0 o1 o2 o3 hx hy hbp hps hFK hFJ hMJ HO cc1 hq hvj ha1 hn6 hnl
      have t0 : l.length = a := by omega
      clear t1 ha
      subst t0
      go_wp2_with fail
      refine (MJ.out _).mono ?_
      rintro e wz ⟨rfl, rfl⟩
      go_wp2_with fail
      go_roundw
      case rel => first | exact ⟨1, by omega, by go_num, HO4, HB4⟩ | ((repeat apply Exists.intro); exact ⟨⟨1, by omega, by go_num, HO4, HB4⟩, rfl⟩)
      case measure => simp [intOf]
    · have cK := FC.out _ HB.out 1 (by omega)
      have cJ := FC.out _ HB.out 0 (by omega)
      have hFK := HFL.out 1 (by omega)
      have hFJ := HFL.out 0 (by omega)
      have MJ := Lib.hid (MT.out (F.getD 0 0) (by omega))
      have hMJ := HML.out _ hFJ
      obtain ⟨x, hx⟩ : ∃ x, x = F.getD 1 0 := ⟨_, rfl⟩
      obtain ⟨y, hy⟩ : ∃ y, y = F.getD 0 0 := ⟨_, rfl⟩
      obtain ⟨bp, hbp⟩ : ∃ bp, bp = mateN (F.getD 0 0) := ⟨_, rfl⟩
      obtain ⟨a, ha⟩ : ∃ a, a = l.length + 2 := ⟨_, rfl⟩
      obtain ⟨a1, ha1⟩ : ∃ a1, a1 = l.length + 2 + 1 := ⟨_, rfl⟩
      obtain ⟨q, hq⟩ : ∃ q, q = l.length + 0 := ⟨_, rfl⟩
      obtain ⟨vj, hvj⟩ : ∃ vj, vj = l.length + 0 + 1 := ⟨_, rfl⟩
      have hps : psL l F 2 = (((psL l F 1).set bp a).set a x).set a1 vj := by
        rw [hbp, ha, hx, ha1, hvj]; rfl
      rw [← hbp] at MJ
      rw [← hx] at cK
      rw [← hy] at cJ MJ
      have o0 := HO.out
      have hn6 := HN6.out
      have hnl := HN.out
      have p1 : bp < N6 := by rw [hbp]; omega
      have p2 : a < N6 := by omega
      have p3 : a1 < N6 := by omega
      have o1 := own_setI o0 bp (a : Int)
      have o2 := own_setI o1 a (x : Int)
      have o3 := own_setI o2 a1 (vj : Int)
      have s1 := own_cellI o0 bp p1
      have f1 := o0.frozenAt bp
      have s2 := own_cellI o1 a p2
      have f2 := o1.frozenAt a
      have s3 := own_cellI o2 a1 p3
      have f3 := o2.frozenAt a1
      have HO4 : Hid ((((wr.setCell ⟨gS, bp, none⟩ (.int .i64 (a : Int))).setCell ⟨gS, a, none⟩ (.int .i64 (x : Int))).setCell ⟨gS, a1, none⟩ (.int .i64 (vj : Int))).ownsRow w5.heap.size 3 1 (.slice (some ⟨gS, 0, none⟩) N6 c2) N6 (I64 (ofN (psL l F 2)))) := by
        show World.ownsRow _ _ _ _ _ _ _
        rw [hps, ofN_setP, ofN_setP, ofN_setP]; exact o3
      have HB4 : Hid (Below w5.heap.size w5 (((wr.setCell ⟨gS, bp, none⟩ (.int .i64 (a : Int))).setCell ⟨gS, a, none⟩ (.int .i64 (x : Int))).setCell ⟨gS, a1, none⟩ (.int .i64 (vj : Int)))) := ((HB.out.setCell (p := ⟨gS, bp, none⟩) HGS.out _).setCell (p := ⟨gS, a, none⟩) HGS.out _).setCell (p := ⟨gS, a1, none⟩) HGS.out _
      have i1 : (bp : Int) < (N6 : Int) := by omega
      have i2 : (a : Int) < (N6 : Int) := by omega
      have i3 : (a1 : Int) < (N6 : Int) := by omega
      have cc1 := (Mod.setCell (p := ⟨gS, bp, none⟩) (Mod.refl (fun i => i = gS) wr) (fun _ => rfl) (.int .i64 (a : Int)))
      have w_a : IntKind.i64.wrap (a : Int) = (a : Int) := by simp [IntKind.wrap, IntKind.signed, IntKind.bits]; omega
      have w_a1 : IntKind.i64.wrap (a1 : Int) = (a1 : Int) := by simp [IntKind.wrap, IntKind.signed, IntKind.bits]; omega
      have w_q : IntKind.i64.wrap (q : Int) = (q : Int) := by simp [IntKind.wrap, IntKind.signed, IntKind.bits]; omega
      have w_vj : IntKind.i64.wrap (vj : Int) = (vj : Int) := by simp [IntKind.wrap, IntKind.signed, IntKind.bits]; omega
      have t1 : (l.length : Int) + 2 = (a : Int) := by omega
      have t2 : (a : Int) + 1 = (a1 : Int) := by omega
      have t3 : (l.length : Int) + 0 = (q : Int) := by omega
      have t4 : (q : Int) + 1 = (vj : Int) := by omega
      clear o0 o1 o2 o3 hx hy hbp hps hFK hFJ hMJ HO cc1 hq hvj ha1 hn6 hnl
      have t0 : l.length = q := by omega
      clear t3 ha
      subst t0
      go_wp2_with fail
      refine (MJ.out _).mono ?_
      rintro e wz ⟨rfl, rfl⟩
      go_wp2_with fail
      go_roundw
      case rel => first | exact ⟨2, by omega, by go_num, HO4, HB4⟩ | ((repeat apply Exists.intro); exact ⟨⟨2, by omega, by go_num, HO4, HB4⟩, rfl⟩)
      case measure => simp [intOf]
    · have cK := FC.out _ HB.out 2 (by omega)
      have cJ := FC.out _ HB.out 1 (by omega)
      have hFK := HFL.out 2 (by omega)
      have hFJ := HFL.out 1 (by omega)
      have MJ := Lib.hid (MT.out (F.getD 1 0) (by omega))
      have hMJ := HML.out _ hFJ
      obtain ⟨x, hx⟩ : ∃ x, x = F.getD 2 0 := ⟨_, rfl⟩
      obtain ⟨y, hy⟩ : ∃ y, y = F.getD 1 0 := ⟨_, rfl⟩
      obtain ⟨bp, hbp⟩ : ∃ bp, bp = mateN (F.getD 1 0) := ⟨_, rfl⟩
      obtain ⟨a, ha⟩ : ∃ a, a = l.length + 4 := ⟨_, rfl⟩
      obtain ⟨a1, ha1⟩ : ∃ a1, a1 = l.length + 4 + 1 := ⟨_, rfl⟩
      obtain ⟨q, hq⟩ : ∃ q, q = l.length + 2 := ⟨_, rfl⟩
      obtain ⟨vj, hvj⟩ : ∃ vj, vj = l.length + 2 + 1 := ⟨_, rfl⟩
      have hps : psL l F 3 = (((psL l F 2).set bp a).set a x).set a1 vj := by
        rw [hbp, ha, hx, ha1, hvj]; rfl
      rw [← hbp] at MJ
      rw [← hx] at cK
      rw [← hy] at cJ MJ
      have o0 := HO.out
      have hn6 := HN6.out
      have hnl := HN.out
      have p1 : bp < N6 := by rw [hbp]; omega
      have p2 : a < N6 := by omega
      have p3 : a1 < N6 := by omega
      have o1 := own_setI o0 bp (a : Int)
      have o2 := own_setI o1 a (x : Int)
      have o3 := own_setI o2 a1 (vj : Int)
      have s1 := own_cellI o0 bp p1
      have f1 := o0.frozenAt bp
      have s2 := own_cellI o1 a p2
      have f2 := o1.frozenAt a
      have s3 := own_cellI o2 a1 p3
      have f3 := o2.frozenAt a1
      have HO4 : Hid ((((wr.setCell ⟨gS, bp, none⟩ (.int .i64 (a : Int))).setCell ⟨gS, a, none⟩ (.int .i64 (x : Int))).setCell ⟨gS, a1, none⟩ (.int .i64 (vj : Int))).ownsRow w5.heap.size 3 1 (.slice (some ⟨gS, 0, none⟩) N6 c2) N6 (I64 (ofN (psL l F 3)))) := by
        show World.ownsRow _ _ _ _ _ _ _
        rw [hps, ofN_setP, ofN_setP, ofN_setP]; exact o3
      have HB4 : Hid (Below w5.heap.size w5 (((wr.setCell ⟨gS, bp, none⟩ (.int .i64 (a : Int))).setCell ⟨gS, a, none⟩ (.int .i64 (x : Int))).setCell ⟨gS, a1, none⟩ (.int .i64 (vj : Int)))) := ((HB.out.setCell (p := ⟨gS, bp, none⟩) HGS.out _).setCell (p := ⟨gS, a, none⟩) HGS.out _).setCell (p := ⟨gS, a1, none⟩) HGS.out _
      have i1 : (bp : Int) < (N6 : Int) := by omega
      have i2 : (a : Int) < (N6 : Int) := by omega
      have i3 : (a1 : Int) < (N6 : Int) := by omega
      have cc1 := (Mod.setCell (p := ⟨gS, bp, none⟩) (Mod.refl (fun i => i = gS) wr) (fun _ => rfl) (.int .i64 (a : Int)))
      have w_a : IntKind.i64.wrap (a : Int) = (a : Int) := by simp [IntKind.wrap, IntKind.signed, IntKind.bits]; omega
      have w_a1 : IntKind.i64.wrap (a1 : Int) = (a1 : Int) := by simp [IntKind.wrap, IntKind.signed, IntKind.bits]; omega
      have w_q : IntKind.i64.wrap (q : Int) = (q : Int) := by simp [IntKind.wrap, IntKind.signed, IntKind.bits]; omega
      have w_vj : IntKind.i64.wrap (vj : Int) = (vj : Int) := by simp [IntKind.wrap, IntKind.signed, IntKind.bits]; omega
      have t1 : (l.length : Int) + 4 = (a : Int) := by omega
      have t2 : (a : Int) + 1 = (a1 : Int) := by omega
      have t3 : (l.length : Int) + 2 = (q : Int) := by omega
      have t4 : (q : Int) + 1 = (vj : Int) := by omega
      clear o0 o1 o2 o3 hx hy hbp hps hFK hFJ hMJ HO cc1 hq hvj ha1 hn6 hnl
      clear ha
      go_wp2_with fail
      refine (MJ.out _).mono ?_
      rintro e wz ⟨rfl, rfl⟩
      go_wp2_with fail
      go_roundw
      case rel => first | exact ⟨3, by omega, by go_num, HO4, HB4⟩ | ((repeat apply Exists.intro); exact ⟨⟨3, by omega, by go_num, HO4, HB4⟩, rfl⟩)
      case measure => simp [intOf]
    · have HY9 := Lib.hid (HY.out.below (Z5.out.trans (HB.out.mono hs5)))
      have BW := Lib.hid (HB0.out.trans ((Z5.out.trans (HB.out.mono hs5)).mono HB0.out.size))
      obtain ⟨x0, x1, x2⟩ := SK.out _ (Z5.out.trans (HB.out.mono hs5))
      have q0 := HY9.out.cell 0
      have q1 := HY9.out.cell 1
      have q2 := HY9.out.cell 2
      have f0 := HY9.out.frozen 0
      have f1 := HY9.out.frozen 1
      have f2 := HY9.out.frozen 2
      simp at q0 q1 q2
      have HTL : Hid ((psL l F 3).length = N6) := by show _ = _; rw [ps_len, HN6.out, HN.out]
      go_wp2_with fail
      obtain ⟨k1, k2, k3⟩ := box_ret (w := w) (RT := root) (LF := 0) (show w.heap.size ≤ w.heap.size + 1 by omega) BW.out HY9.out HO.out
      refine bodyPost_ret (v := .agg #[.slice (some ⟨gS, 0, none⟩) N6 c2, .int .i64 root, .int .i64 0]) ?_ rfl ?_
      · exact results_cell_row rfl _ _ (w.heap.size + 1) 27 _ (0, 0) _ rfl k1 Try.underlying27 rfl HINF.out
      · exact ⟨some ⟨gS, 0, none⟩, c2, by rw [HTL.out], by rw [HTL.out]; exact HC2.out.1, HC2.out.2, by rw [HTL.out]; exact k2.base_le' (by omega), k3⟩
end Go.Proofs.Ytgcbdoljapnecaa
