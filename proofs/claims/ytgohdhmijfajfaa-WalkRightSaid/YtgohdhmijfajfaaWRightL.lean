/- WalkRight: steps are the walk just if all of them are, in order. -/
import Derived.Test.YtgohdhmijfajfaaWRight2
import Derived.Test.YtgohdhmijfajfaaWNil
import Derived.Test.YtgohdhmijfajfaaWMade
import Derived.Deep.RegionHeld3
import Derived.Deep.DeepCutAuto
namespace Go.Proofs.Ytgohdhmijfajfaa
set_option maxRecDepth 20000
open Go.RowKit
set_option linter.unusedVariables false
theorem own_lower {w : World} {base base' : Nat} {e : TypeId} {size n : Nat} {v : Value} {xs : List Value} (h : w.ownsRow base e size v n xs) (hb : base' ≤ base) : w.ownsRow base' e size v n xs :=
  ⟨h.1, h.2.imp id fun ⟨g, cap, cur, hv, h1, rest⟩ => ⟨g, cap, cur, hv, Nat.le_trans hb h1, rest⟩⟩
theorem own_setS {w : World} {base : Nat} {g n c : Nat} {y : List Int} (h : w.ownsRow base 40 2 (.slice (some ⟨g, 0, none⟩) n c) n (I64 y)) (k : Nat) (v : Int) :
    (w.setCell ⟨g, k, none⟩ (.int .i64 v)).ownsRow base 40 2 (.slice (some ⟨g, 0, none⟩) n c) n (I64 (y.set k v)) := by
  rw [I64_set]; exact (h.stored k _).1
theorem set2_iff (L : List Int) (k : Nat) (t d : Int) (h : k * 2 + 1 < L.length) : decide ((L.set (k * 2) t).set (k * 2 + 1) d = L) = (t == L.getD (k * 2) 0 && d == L.getD (k * 2 + 1) 0) := by
  rw [Bool.eq_iff_iff, decide_eq_true_iff, Bool.and_eq_true, beq_iff_eq, beq_iff_eq]
  constructor
  · intro e
    have a := congrArg (fun z : List Int => z[k * 2]?) e
    have b := congrArg (fun z : List Int => z[k * 2 + 1]?) e
    rw [List.getD_eq_getElem?_getD, List.getD_eq_getElem?_getD, ← a, ← b]
    constructor
    · simp [show k * 2 < L.length by omega]
    · simp [h]
  · rintro ⟨e1, e2⟩
    apply List.ext_getElem? 
    intro i
    rw [List.getElem?_set, List.getElem?_set]
    by_cases c1 : k * 2 + 1 = i
    · subst c1
      rw [if_pos rfl, if_pos (by simpa using h), e2, List.getD_eq_getElem?_getD, List.getElem?_eq_getElem h]; rfl
    · rw [if_neg c1]
      by_cases c2 : k * 2 = i
      · subst c2
        rw [if_pos rfl, if_pos (by omega), e1, List.getD_eq_getElem?_getD, List.getElem?_eq_getElem (show k * 2 < L.length by omega)]; rfl
      · rw [if_neg c2]
theorem step_append_W {P : Program} (w : World) {ops : Array Oper} {o : Oper} {a : Act} {K : Act → World → Prop} {Q : Exit → Act → World → Prop} {E : Prop} (hw : Region.wanted o (yielded ops a.tmps) = true) (s x : Operand) (t : TypeId)
    (ho : o.op = .call { callee := .builtin .append, args := #[s, x], argTypes := #[t, t] })
    (base : Nat) (e : TypeId) (i : TypeInfo) (z : Value) (size bytes : Nat) (ht : P.underlying t = some (.slice e)) (hi : P.info? e = some i) (hz : i.zero = some z)
    (hsize : i.size = size) (hby : i.bytes = bytes) (hzs : z.cells.size = size) (hsz : 0 < size)
    (v : Value) (n : Nat) (xs : List Value) (hs : a.eval s = v) (hown : w.ownsRow base e size v n xs)
    (ad : Addr) (m c : Nat) (news : List Value) (hx : a.eval x = .slice (some ad) m c) (hl : news.length = m * size) (hnews : ∀ j u, news[j]? = some u → w.cell? (ad.add j) = some u) (h1 : ∀ u ∈ news, u.oneCell' = true)
    (hm : 0 < m) (h63 : n + m ≤ maxLen) (hbytes : (n + m) * bytes ≤ 140737488355328) (hbase : base ≤ w.heap.size)
    (h : ∀ g cap w', w'.ownsRow base e size (.slice (some ⟨g, 0, none⟩) (n + m) cap) (n + m) (xs ++ news) → w.grownBy w' v.ownBlock → K (a.put o.dst (.slice (some ⟨g, 0, none⟩) (n + m) cap)) w') :
    if Region.wanted o (yielded ops a.tmps) = true then Oper.wp P o a w K Q else E := by
  rw [if_pos hw]
  obtain ⟨g, cap, w', hr, h2, h3, h4, h5⟩ := run_append_lies (P := P) w t o.type base e i z size bytes ht hi hz hsize hby hzs hsz v n xs hown ad m c news hl hnews h1 hm h63 hbytes hbase w.heap.size rfl
  unfold Oper.wp execOp
  simp only [ho, resolve, invoke, builtin, Sem.run_bind, Sem.run_pure, Result.andThen_ok, List.map_toArray, List.map_cons, List.map_nil, hs, hx, hr]
  exact h g cap w' h2 h3
theorem news2 {W : World} {bb : Nat} {T : TypeId} {x0 x1 : Int} (h : Blk W bb T #[.int .i64 x0, .int .i64 x1]) : ∀ j u, [Value.int .i64 x0, Value.int .i64 x1][j]? = some u → W.cell? ((⟨bb, 0, none⟩ : Addr).add j) = some u := fun j u hu => by
  rw [Addr.add_lit, Nat.zero_add, h.cell j, ← Array.getElem?_toList]; exact hu
theorem below_app {v W w6 : World} {e : TypeId} {size n : Nat} {val : Value} {xs : List Value} (hB : Below v.heap.size v W) (hown : W.ownsRow v.heap.size e size val n xs) (hg : W.grownBy w6 val.ownBlock) : Below v.heap.size v w6 :=
  hB.trans ((Below.refl _ _).grown hg hB.size fun k hk => (hown.lt k hk).1)
theorem rdS_new (w : World) (cs : Array Value) (n : Nat) (L : List Int) (hl : L.length = 2 * n) (hc : cs.toList = I64 L) : RdS (w.alloc (.cells cs 40)) (w.heap.size + 1) (some ⟨w.heap.size, 0, none⟩) n L :=
  ⟨hl, fun _ => ⟨w.heap.size, rfl, by omega, fun k hk => by
    rw [(Blk.new w 40 cs).cell k, ← Array.getElem?_toList, hc]
    exact I64_get L k (by omega)⟩⟩
set_option maxHeartbeats 8000000 in
theorem walkRight_walk (A0 : Option Addr) (n m c rr aa : Nat) (to_ kind_ : Int) (by_ : List Int) (w : World) (h0 : Rd w w.heap.size A0 m (Z8 by_)) (hb0 : ∀ x ∈ by_, 0 ≤ x ∧ x < 256) (hmc : m ≤ c) (hcm : c ≤ maxLen) (hn : n < 256) (hrr : rr < 256) (haa : aa < 256) :
    Calls Try.prog 6 #[.int .u8 (n : Int), .slice A0 m c, .int .u8 (rr : Int), .int .u8 (aa : Int), .int .i64 to_, .int .i64 kind_] w fun e w' => e = .returned (.bool true) ∧ Below w.heap.size w w' := by
  unfold maxLen at hcm
  have AW := Lib.hid (awake9_p w)
  have H0 := Lib.hid h0
  have HB0 := Lib.hid hb0
  clear h0 hb0
  go_enter Try.func6, Try.ntmps6
  go_wp2_with fail
  refine AW.out.mono ?_
  rintro e w1 ⟨rfl, b1⟩
  have MD := Lib.hid (made9_p n m c _ A0 by_ w1 (H0.out.below b1) HB0.out b1.size hn (by omega))
  have B1 := Lib.hid b1
  clear b1 AW
  go_wp2_with fail
  refine MD.out.mono ?_
  rintro e w2 ⟨g, v, l, b, root, rfl, hmap, hrm, hl, hroot, b2⟩
  have e03 : ((0 : Nat) : Int) = 0 := rfl
  rw [e03] at hmap hrm
  obtain ⟨hinv, A, cA, hla, rfl, hlc, hcA, hrA⟩ := hrm
  have hbx := (Below.refl w2.heap.size w2).alloc (Nat.le_refl _) (.cells #[.slice A l.length cA, .int .i64 root, .int .i64 0] 27)
  have HX := Lib.hid (Blk.new w2 27 #[.slice A l.length cA, .int .i64 root, .int .i64 0])
  have HM := Lib.hid (hmap.below hbx)
  have HR := Lib.hid (hrA.more hbx)
  have HI := Lib.hid hinv
  have hl20 : l.length ≤ 26 := by have := Nat.mod_lt n (show 0 < 14 by decide); omega
  have HEV : Hid (l.length % 2 = 0) := by show _ = _; omega
  have B2 : Hid (Below w.heap.size w w2) := B1.out.trans (b2.mono B1.out.size)
  have B3 : Hid (Below w.heap.size w (w2.alloc (.cells #[.slice A l.length cA, .int .i64 root, .int .i64 0] 27))) := B2.out.trans (hbx.mono B2.out.size)
  clear hmap hbx hrA hinv b2 B1 MD hlc hcA hla hl hroot B2 e03
  go_upto_region 4 with fail
  generalize hw3 : w2.alloc (.cells #[.slice A l.length cA, .int .i64 root, .int .i64 0] 27) = w3 at *
  have hX3 : w2.heap.size < w3.heap.size := by rw [← hw3]; simp
  clear hw3 HX
  obtain ⟨D, hD⟩ : ∃ D, D = l.length := ⟨_, rfl⟩
  have DP : Hid (∀ W, Below w3.heap.size w3 W → Calls Try.prog 17 #[.pointer (some ⟨g, 0, none⟩)] W fun e w' => e = .returned (.int .i64 (D : Int)) ∧ Below W.heap.size W w') := fun W m => by rw [hD]; exact darts_p g l b root 0 W (HM.out.below m)
  -- the wrong ones
  go_wp2_with fail
  refine (walkOf_nil 0 w3).mono ?_
  rintro e v1 ⟨rfl, rfl⟩
  go_wp2_with fail
  refine (right_nil 0 (.slice none 0 0) w3).mono ?_
  rintro e v1 ⟨rfl, rfl⟩
  have R1 := Lib.hid (rdS_new w3 #[.int .i64 0, .int .i64 0] 1 [0, 0] rfl rfl)
  have Z1 := Lib.hid ((Below.refl w3.heap.size w3).alloc (Nat.le_refl _) (.cells #[.int .i64 0, .int .i64 0] 40))
  have s1 : Hid (w3.heap.size + 1 ≤ (w3.alloc (.cells #[.int .i64 0, .int .i64 0] 40)).heap.size) := by show _ ≤ _; simp
  go_wp2_with fail
  refine (order_nil1 w3.heap.size 1 (w3.heap.size + 1) _ R1.out s1.out).mono ?_
  rintro e v2 ⟨AO, cO, rfl, _, _, _, z⟩
  have Z2 := Lib.hid (Z1.out.trans (z.mono Z1.out.size))
  have e0 : ([] : List Int).length = 0 := rfl
  rw [e0]
  clear z R1 Z1 s1
  go_wp2_with fail
  refine (word_none none 0 0 _ [] v2 (RdS.nil _ _ _) (Nat.le_refl _) (by omega) rfl).mono ?_
  rintro e v3 ⟨gw, rfl, lw, z⟩
  have Z3 := Lib.hid (Z2.out.trans (z.mono Z2.out.size))
  clear z Z2
  go_wp2_with fail
  refine (lw.out v3 (Below.refl _ _)).mono ?_
  rintro e v4 ⟨rfl, rfl⟩
  have R2 := Lib.hid (rdS_new v3 #[.int .i64 0, .int .i64 7, .int .i64 0, .int .i64 (-1)] 2 [0, 7, 0, -1] rfl rfl)
  have hk2 : Hid (kindsN [0, 7, 0, -1] 2 = []) := by show _ = _; simp [kindsN, Kd]
  have Z4 := Lib.hid (Z3.out.alloc Z3.out.size (.cells #[.int .i64 0, .int .i64 7, .int .i64 0, .int .i64 (-1)] 40))
  have s1 : Hid (v3.heap.size + 1 ≤ (v3.alloc (.cells #[.int .i64 0, .int .i64 7, .int .i64 0, .int .i64 (-1)] 40)).heap.size) := by show _ ≤ _; simp
  clear lw Z3
  go_wp2_with fail
  refine (word_none _ 2 2 _ [0, 7, 0, -1] _ R2.out s1.out (by omega) hk2.out).mono ?_
  rintro e v5 ⟨gw, rfl, lw, z⟩
  have Z5 := Lib.hid (Z4.out.trans (z.mono Z4.out.size))
  clear z Z4 R2 s1
  go_wp2_with fail
  refine (lw.out v5 (Below.refl _ _)).mono ?_
  rintro e v6 ⟨rfl, rfl⟩
  have TP := Lib.hid (tree_p none 0 0 v5.heap.size [] v5 (RdS.nil _ _ _) (Nat.le_refl _) (by omega))
  have et : (treeL [] 0).length = 0 := rfl
  go_wp2_with fail
  refine TP.out.mono ?_
  rintro e v6 ⟨AT, cT, rfl, _, _, _, z⟩
  rw [et]
  have Z6 := Lib.hid (Z5.out.trans (z.mono Z5.out.size))
  have B6 : Hid (Below w.heap.size w v6) := B3.out.trans (Z6.out.mono B3.out.size)
  clear z Z5 lw TP et e0
  go_wp2_with fail
  refine (DP.out _ Z6.out).mono ?_
  rintro e v7 ⟨rfl, z⟩
  have Z7 := Lib.hid (Z6.out.trans (z.mono Z6.out.size))
  have B7 := Lib.hid (B6.out.trans (z.mono B6.out.size))
  clear z
  by_cases hD0 : D = 0
  · subst hD0
    have RO := Lib.hid (right_out g l b root 0 0 (.slice none 0 0) v7 (HM.out.below Z7.out) (.inr (by omega)))
    clear hD
    go_wp2_with fail
    refine RO.out.mono ?_
    rintro e v8 ⟨rfl, z⟩
    have B8 := Lib.hid (B7.out.trans (z.mono B7.out.size))
    clear z RO
    go_wp2_with fail
    go_ret
    exact ⟨rfl, B8.out⟩
  · have hD0i : ¬ (D : Int) = 0 := by omega
    have hDb : ((D : Int) == 0) = false := by rw [beq_eq_false_iff_ne]; exact hD0i
    have hDp : 0 < D := by omega
    obtain ⟨r, hr⟩ : ∃ r, r = rr % D := ⟨_, rfl⟩
    have hrl : r < D := by rw [hr]; exact Nat.mod_lt _ hDp
    have hr1 : (rr : Int) % (D : Int) = (r : Int) := by rw [hr, Int.natCast_emod]
    have hr2 : (rr : Int).tmod (D : Int) = (r : Int) := by rw [Int.tmod_eq_emod_of_nonneg (by omega)]; exact hr1
    obtain ⟨M, hMM⟩ : ∃ M, M = l.length / 2 := ⟨_, rfl⟩
    obtain ⟨V, hVV⟩ : ∃ V : Nat, (V : Int) = ((sizes l).length : Int) + 0 := ⟨(sizes l).length, by omega⟩
    have hN1 : 1 ≤ wN (sgL l) (nameOf l) M V r ∧ wN (sgL l) (nameOf l) M V r ≤ l.length := by
      rw [hMM]
      obtain ⟨a1, a2, _⟩ := wN_is (m := l.length / 2) (sgL_pf HI.out) (by have := HEV.out; omega) (nm_ok HI.out) (nm_lt HI.out (V := V) (by omega)) (r := r) (by omega)
      exact ⟨a1, a2⟩
    have OP := Lib.hid (fun W (z : Below w3.heap.size w3 W) => walkOf_p g l b root 0 r M V W (HM.out.below z) HI.out (by omega) hMM hVV)
    have RA := Lib.hid (fun n1 A1 c1 L1 W (z : Below w3.heap.size w3 W) (hs : RdS W W.heap.size A1 n1 L1) (hn1 : n1 ≤ 1000000) => right_any g l b root 0 r M V n1 A1 c1 _ L1 W (HM.out.below z) HI.out (by omega) hMM hVV hs (Nat.le_refl _) (by omega) hn1)
    have hLl := wst_len (sgL l) (nameOf l) M V r (wN (sgL l) (nameOf l) M V r)
    obtain ⟨L, hL⟩ : ∃ L, L = wst (sgL l) (nameOf l) M V r (wN (sgL l) (nameOf l) M V r) := ⟨_, rfl⟩
    obtain ⟨N, hN⟩ : ∃ N, N = wN (sgL l) (nameOf l) M V r := ⟨_, rfl⟩
    rw [← hL] at OP RA hLl
    rw [← hN] at OP hN1 hLl
    obtain ⟨hN1, hN2⟩ := hN1
    have hN26 : N ≤ 26 := by omega
    have hNI : ¬ (N : Int) = 0 := by omega
    obtain ⟨k, hk⟩ : ∃ k, k = aa % N := ⟨_, rfl⟩
    have hkN : k < N := by rw [hk]; exact Nat.mod_lt _ (by omega)
    have hk1 : (aa : Int) % (N : Int) = (k : Int) := by rw [hk, Int.natCast_emod]
    have hk2' : (aa : Int).tmod (N : Int) = (k : Int) := by rw [Int.tmod_eq_emod_of_nonneg (by omega)]; exact hk1
    have HLL := Lib.hid hLl
    clear hL hN hMM hVV hr hk hD hN2 hLl
    go_wp2_with fail
    refine (DP.out _ Z7.out).mono ?_
    rintro e v8 ⟨rfl, z⟩
    have Z8 := Lib.hid (Z7.out.trans (z.mono Z7.out.size))
    have OF8 := Lib.hid (OP.out _ Z8.out)
    clear z Z7 B7 B6 Z6
    go_wp2_with fail
    refine OF8.out.mono ?_
    rintro e v9 ⟨AL, cL, rfl, ownL, z⟩
    have RL := Lib.hid (RdS.own ownL)
    have Z9 := Lib.hid (Z8.out.trans (z.mono Z8.out.size))
    have hcL : N ≤ cL := by obtain ⟨A', c', e', h1, _⟩ := own_form ownL; cases e'; exact h1
    obtain ⟨lb, rfl, hlb, lk⟩ := RL.out.2 (by omega)
    have CL := Lib.hid (fun W (z : Below v9.heap.size v9 W) => cloneS_p lb N cL _ L W (RL.out.below z) (by omega) (by omega))
    clear z ownL OF8 Z8 OP lk
    go_wp2_with fail
    refine (CL.out v9 (Below.refl _ _)).mono ?_
    rintro e v10 ⟨gc, cc, rfl, ownC, z⟩
    have OC := Lib.hid ownC
    have hcc : N ≤ cc := by obtain ⟨A', c', e', h1, _⟩ := own_form ownC; cases e'; exact h1
    have ZA := Lib.hid z
    have gcl := (ownC.lt gc rfl).2
    have hkI : (k : Int) < (N : Int) := by omega
    clear ownC z
    have HS : Hid (v10.cell? ⟨gc, k * 2, none⟩ = some (.int .i64 (L.getD (k * 2) 0)) ∧ v10.cell? ⟨gc, k * 2 + 1, none⟩ = some (.int .i64 (L.getD (k * 2 + 1) 0)) ∧ v10.frozen? ⟨gc, k * 2, none⟩ = false ∧ v10.frozen? ⟨gc, k * 2 + 1, none⟩ = false ∧ (v10.setCell ⟨gc, k * 2, none⟩ (.int .i64 to_)).cell? ⟨gc, k * 2 + 1, none⟩ = some (.int .i64 (L.getD (k * 2 + 1) 0)) ∧ (v10.setCell ⟨gc, k * 2, none⟩ (.int .i64 to_)).frozen? ⟨gc, k * 2 + 1, none⟩ = false) := by
      have hll := HLL.out
      obtain ⟨cur, hb⟩ : ∃ cur, Blk v10 gc 40 cur := by
        rcases OC.out.2 with ⟨h1, _⟩ | ⟨g0, cap, cur, hv, _, hg, _⟩
        · cases h1
        · simp only [Value.slice.injEq, Option.some.injEq, Addr.mk.injEq, and_true, true_and] at hv
          obtain ⟨rfl, _⟩ := hv
          exact ⟨cur, hg⟩
      have q0 := OC.out.cellAt (k * 2) (by omega)
      have q1 := OC.out.cellAt (k * 2 + 1) (by omega)
      rw [I64_get L _ (by omega)] at q0 q1
      have hb2 := hb.set_ (k * 2) (.int .i64 to_)
      refine ⟨q0, q1, hb.frozen _, hb.frozen _, ?_, hb2.frozen _⟩
      rw [hb2.cell (k * 2 + 1)]
      rw [hb.cell (k * 2 + 1)] at q1
      rw [Array.getElem?_setIfInBounds_ne (by omega)]
      exact q1
    obtain ⟨y0, y1, y2, y3, y4, y5⟩ := HS.out
    have gc9 := (OC.out.lt gc rfl).1
    have HO2 : Hid (((v10.setCell ⟨gc, k * 2, none⟩ (.int .i64 to_)).setCell ⟨gc, k * 2 + 1, none⟩ (.int .i64 kind_)).ownsRow v9.heap.size 40 2 (.slice (some ⟨gc, 0, none⟩) N cc) N (I64 ((L.set (k * 2) to_).set (k * 2 + 1) kind_))) := by
      have o1 := own_setS OC.out (k * 2) to_
      exact own_setS o1 (k * 2 + 1) kind_
    have ZB : Hid (Below v9.heap.size v9 ((v10.setCell ⟨gc, k * 2, none⟩ (.int .i64 to_)).setCell ⟨gc, k * 2 + 1, none⟩ (.int .i64 kind_))) := (ZA.out.setCell (p := ⟨gc, k * 2, none⟩) gc9 _).setCell (p := ⟨gc, k * 2 + 1, none⟩) gc9 _
    clear HS OC ZA
    go_upto_region 14 with fail
    generalize hv11 : (v10.setCell ⟨gc, k * 2, none⟩ (.int .i64 to_)).setCell ⟨gc, k * 2 + 1, none⟩ (.int .i64 kind_) = v11 at *
    clear hv11 y0 y1 y2 y3 y4 y5 gcl
    have hll := HLL.out
    obtain ⟨i0, hi0, hz0, hz1, hz2⟩ := info_parts info_step
    have Z11 := Lib.hid (Z9.out.trans (ZB.out.mono Z9.out.size))
    have RL11 := Lib.hid (RL.out.below ZB.out)
    have RLC := Lib.hid (RdS.own HO2.out)
    have hs9 := ZB.out.size
    have hq := set2_iff L k to_ kind_ (by omega)
    have cS : Hid (((L.set (k * 2) to_).set (k * 2 + 1) kind_).getD (k * 2) 0 = to_ ∧ ((L.set (k * 2) to_).set (k * 2 + 1) kind_).getD (k * 2 + 1) 0 = kind_) := by
      constructor
      · simp [List.getD_eq_getElem?_getD, show k * 2 < L.length by omega]
      · simp [List.getD_eq_getElem?_getD, show k * 2 + 1 < L.length by omega]
    obtain ⟨q, hqq⟩ : ∃ q, q = decide ((L.set (k * 2) to_).set (k * 2 + 1) kind_ = L) := ⟨_, rfl⟩
    rw [← hqq] at hq
    obtain ⟨LC, hLC⟩ : ∃ LC, LC = (L.set (k * 2) to_).set (k * 2 + 1) kind_ := ⟨_, rfl⟩
    rw [← hLC] at RLC hqq cS
    have LIFT : Hid (∀ n1 A1 c1 L1 W, Below v11.heap.size v11 W → RdS W W.heap.size A1 n1 L1 → n1 ≤ 1000000 → Calls Try.prog 11 #[.pointer (some ⟨g, 0, none⟩), .int .i64 (r : Int), .slice A1 n1 c1] W fun e w' => e = .returned (.bool (decide (L1 = L))) ∧ Below v11.heap.size v11 w') := fun n1 A1 c1 L1 W z hs h1 =>
      (RA.out n1 A1 c1 L1 W (Z11.out.trans (z.mono Z11.out.size)) hs h1).mono fun e w' ⟨a, b⟩ => ⟨a, z.trans (b.mono z.size)⟩
    have R1 : Hid (∀ W, Below v11.heap.size v11 W → Calls Try.prog 11 #[.pointer (some ⟨g, 0, none⟩), .int .i64 (r : Int), .slice (some ⟨lb, 0, none⟩) N cL] W fun e w' => e = .returned (.bool true) ∧ Below v11.heap.size v11 w') := fun W z =>
      (LIFT.out N _ cL L W z ((RL11.out.below (z.mono hs9)).up (Nat.le_trans hs9 z.size)) (by omega)).mono fun e w' ⟨a, b⟩ => ⟨by rw [a, decide_eq_true rfl], b⟩
    have R2 : Hid (∀ W, Below v11.heap.size v11 W → Calls Try.prog 11 #[.pointer (some ⟨g, 0, none⟩), .int .i64 (r : Int), .slice (some ⟨gc, 0, none⟩) N cc] W fun e w' => e = .returned (.bool q) ∧ Below v11.heap.size v11 w') := fun W z =>
      (LIFT.out N _ cc LC W z ((RLC.out.below z).up z.size) (by omega)).mono fun e w' ⟨a, b⟩ => ⟨by rw [a, hqq], b⟩
    have R3 : Hid (∀ W, Below v11.heap.size v11 W → Calls Try.prog 11 #[.pointer (some ⟨g, 0, none⟩), .int .i64 (r : Int), .slice (some ⟨lb, 0, none⟩) k cL] W fun e w' => e = .returned (.bool false) ∧ Below v11.heap.size v11 w') := fun W z =>
      (LIFT.out k _ cL (L.take (2 * k)) W z (((RL11.out.below (z.mono hs9)).up (Nat.le_trans hs9 z.size)).take k (by omega)) (by omega)).mono fun e w' ⟨a, b⟩ => ⟨by rw [a, decide_eq_false (fun h => by have := congrArg List.length h; rw [List.length_take] at this; omega)], b⟩
    obtain ⟨x0, hx0⟩ : ∃ x0, x0 = L.getD 0 0 := ⟨_, rfl⟩
    obtain ⟨x1, hx1⟩ : ∃ x1, x1 = L.getD 1 0 := ⟨_, rfl⟩
    have R4 : Hid (∀ gx cx W, Below v11.heap.size v11 W → RdS W W.heap.size (some ⟨gx, 0, none⟩) (N + 1) (L ++ [x0, x1]) → Calls Try.prog 11 #[.pointer (some ⟨g, 0, none⟩), .int .i64 (r : Int), .slice (some ⟨gx, 0, none⟩) (N + 1) cx] W fun e w' => e = .returned (.bool false) ∧ Below v11.heap.size v11 w') := fun gx cx W z hs =>
      (LIFT.out (N + 1) _ cx _ W z hs (by omega)).mono fun e w' ⟨a, b⟩ => ⟨by rw [a, decide_eq_false (fun h => by have := congrArg List.length h; rw [List.length_append] at this; simp at this)], b⟩
    have CL5 : Hid (∀ W, Below v11.heap.size v11 W → Calls Try.prog 28 #[.slice (some ⟨lb, 0, none⟩) N cL] W fun e w' => ∃ g5 c5, e = .returned (.slice (some ⟨g5, 0, none⟩) N c5) ∧ Hid (w'.ownsRow v11.heap.size 40 2 (.slice (some ⟨g5, 0, none⟩) N c5) N (I64 L)) ∧ Below v11.heap.size v11 w' ∧ Hid (Below W.heap.size W w')) := fun W z =>
      (CL.out W (ZB.out.trans (z.mono hs9))).mono fun e w' ⟨g5, c5, a, o, b⟩ => ⟨g5, c5, a, own_lower o z.size, z.trans (b.mono z.size), b⟩
    obtain ⟨a0, ha0⟩ : ∃ a0, a0 = L.getD (k * 2) 0 := ⟨_, rfl⟩
    obtain ⟨a1, ha1⟩ : ∃ a1, a1 = L.getD (k * 2 + 1) 0 := ⟨_, rfl⟩
    rw [← ha0, ← ha1] at hq
    have heq : ∀ W, Sem.run Try.prog (binOp .eql 40 (.agg #[.int .i64 to_, .int .i64 kind_]) (.agg #[.int .i64 a0, .int .i64 a1])) W = .ok (.bool q) W := fun W => by rw [eqS, hq]
    have SK : Hid (∀ W, Below v11.heap.size v11 W → Below v11.heap.size v11 W ∧ W.cell? ⟨gc, k * 2, none⟩ = some (.int .i64 to_) ∧ W.cell? ⟨gc, k * 2 + 1, none⟩ = some (.int .i64 kind_) ∧ W.cell? ⟨lb, k * 2, none⟩ = some (.int .i64 a0) ∧ W.cell? ⟨lb, k * 2 + 1, none⟩ = some (.int .i64 a1) ∧ W.cell? ⟨lb, 0, none⟩ = some (.int .i64 x0) ∧ W.cell? ⟨lb, 1, none⟩ = some (.int .i64 x1)) := fun W z => by
      obtain ⟨b1, e1, _, k1⟩ := (RLC.out.below z).2 (by omega)
      obtain ⟨b2, e2, _, k2⟩ := (RL11.out.below (z.mono hs9)).2 (by omega)
      cases e1
      cases e2
      refine ⟨z, ?_, ?_, ?_, ?_, ?_, ?_⟩
      · rw [k1 _ (by omega), cS.out.1]
      · rw [k1 _ (by omega), cS.out.2]
      · rw [k2 _ (by omega), ha0]
      · rw [k2 _ (by omega), ha1]
      · rw [k2 _ (by omega), hx0]
      · rw [k2 _ (by omega), hx1]
    have t1 : N + 1 ≤ maxLen := by simp only [maxLen]; omega
    have t2 : (N + 1) * 16 ≤ 140737488355328 := by omega
    have hkc : (k : Int) ≤ (cL : Int) := by omega
    have hN0 : (0 : Int) < (N : Int) := by omega
    have hN0n : 0 < N := by omega
    have one2 : ∀ u ∈ [Value.int .i64 x0, Value.int .i64 x1], u.oneCell' = true := fun u hu => by
      rcases List.mem_cons.1 hu with rfl | hu
      · rfl
      · rcases List.mem_cons.1 hu with rfl | hu
        · rfl
        · cases hu
    have BW : Hid (Below w.heap.size w v11) := B3.out.trans (Z11.out.mono B3.out.size)
    clear hq hqq hLC LIFT cS hx0 hx1 ha0 ha1 RLC RL11 Z11 Z9 RA CL HO2 ZB hll HLL DP
    have hba0 := Below.refl v11.heap.size v11
    have hba1 := hba0.drew
    obtain ⟨_, z0, z1, z2, z3, z4, z5⟩ := SK.out _ hba0
    obtain ⟨_, zz0, zz1, zz2, zz3, zz4, zz5⟩ := SK.out _ hba1
    go_region_held3 (fun W => Below v11.heap.size v11 W ∧ W.cell? ⟨gc, k * 2, none⟩ = some (.int .i64 to_) ∧ W.cell? ⟨gc, k * 2 + 1, none⟩ = some (.int .i64 kind_) ∧ W.cell? ⟨lb, k * 2, none⟩ = some (.int .i64 a0) ∧ W.cell? ⟨lb, k * 2 + 1, none⟩ = some (.int .i64 a1) ∧ W.cell? ⟨lb, 0, none⟩ = some (.int .i64 x0) ∧ W.cell? ⟨lb, 1, none⟩ = some (.int .i64 x1))
      (exact SK.out _ (by assumption))
      (first
      | (go_at_call 11; (with_reducible refine (R4.out _ _ _ (by assumption) rd6.out).mono ?_); rintro e wa ⟨rfl, hba⟩)
      | (go_at_call 11; (with_reducible refine (R3.out _ (by assumption)).mono ?_); rintro e wr3 ⟨rfl, hba⟩; have hbz := hba.alloc hba.size (.cells #[.int .i64 x0, .int .i64 x1] 40); have BN := Lib.hid (Blk.new wr3 40 #[.int .i64 x0, .int .i64 x1]))
      | (go_at_call 11; (with_reducible refine (R2.out _ (by assumption)).mono ?_); rintro e wa ⟨rfl, hba⟩)
      | (go_at_call 11; (with_reducible refine (R1.out _ (by assumption)).mono ?_); rintro e wa ⟨rfl, hba⟩)
      | (go_at_call 28; (with_reducible refine (CL5.out _ (by assumption)).mono ?_); rintro e w5 ⟨g5, c5, rfl, own5, hba, hb5⟩; have hbz5 := hba.alloc hba.size (.cells #[.int .i64 x0, .int .i64 x1] 40); (first | (have BN5 := Lib.hid (BN.out.below hb5.out)) | skip))
      | (refine step_append_W _ (by rfl) _ _ _ (by rfl) v11.heap.size 40 i0 _ 2 16 Try.underlying30 hi0 hz0 hz1 hz2 rfl (by decide) (.slice (some ⟨g5, 0, none⟩) N c5) N (I64 L) (by rfl) (own5.out.alloc _) ⟨w5.heap.size, 0, none⟩ 1 1 [.int .i64 x0, .int .i64 x1] (by rfl) (by rfl) (news2 (Blk.new w5 _ _)) one2 (by decide) t1 t2 hbz5.size ?_; intro g6 c6 w6 hown6 hg6; have hba6 := below_app hbz5 (own5.out.alloc _) hg6; have rd6 : Hid (RdS w6 w6.heap.size (some ⟨g6, 0, none⟩) (N + 1) (L ++ [x0, x1])) := RdS.own (by rw [I64_append]; exact hown6))
      | (refine step_append_W _ (by rfl) _ _ _ (by rfl) v11.heap.size 40 i0 _ 2 16 Try.underlying30 hi0 hz0 hz1 hz2 rfl (by decide) (.slice (some ⟨g5, 0, none⟩) N c5) N (I64 L) (by rfl) own5.out ⟨wr3.heap.size, 0, none⟩ 1 1 [.int .i64 x0, .int .i64 x1] (by rfl) (by rfl) (news2 BN5.out) one2 (by decide) t1 t2 hba.size ?_; intro g6 c6 w6 hown6 hg6; have hba6 := below_app hba own5.out hg6; have rd6 : Hid (RdS w6 w6.heap.size (some ⟨g6, 0, none⟩) (N + 1) (L ++ [x0, x1])) := RdS.own (by rw [I64_append]; exact hown6)))
    all_goals (
      go_wp2_with fail
      go_ret
      exact ⟨rfl, BW.out.trans (hba.mono BW.out.size)⟩)
end Go.Proofs.Ytgohdhmijfajfaa
