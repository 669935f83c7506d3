/- Counts of the kinds ahead, and who owns a letter: mathematics. What a right word is asked of its index: the pair of a place, whether a Left leads back. The document's mates, by a stack. The document's owners and mates of letters. -/
import Derived.Test.YtajjgpkahljjmaaGreatDoorZg13
import Derived.Test.YtajjgpkahljjmaaGreatDoorZg23
import Derived.Test.YtajjgpkahljjmaaGreatDoorZg25
import Derived.Test.YtajjgpkahljjmaaGreatDoorZg2
namespace Go.Proofs.YtajjgpkahljjmaaGreatDoor
set_option linter.unusedVariables false
section
variable {w0 w w' : World} {m gx p0 g0 p1 g1 q : Nat} {ks : List Nat}
/-- A row of numbers elsewhere does not matter to the index. -/
theorem Mx.off (h : Mx w0 w m gx p0 g0 p1 g1 ks q) {gn : Nat} {T : TypeId} {cs : Array Value} (ht : T ≠ 171 ∧ T ≠ 192 ∧ T ≠ 137 ∧ T ≠ 139 ∧ T ≠ 157 ∧ T ≠ 227) (md : Mod (fun i => i = gn) w w') (hb : Blk w gn T cs) (hlo : w0.heap.size ≤ gn) : Mx w0 w' m gx p0 g0 p1 g1 ks q := by
  obtain ⟨t1, t2, t3, t4, t5, t6⟩ := ht
  obtain ⟨d, k, hk, hx⟩ := h.ix
  obtain ⟨d0, ha⟩ := h.pa
  obtain ⟨d1, hbb⟩ := h.pb
  obtain ⟨cx, bx⟩ := hx.blk_
  obtain ⟨ca, ba⟩ := ha.blk_
  obtain ⟨cb', bb⟩ := hbb.blk_
  obtain ⟨cga, bga⟩ := ha.gblk
  obtain ⟨cgb, bgb⟩ := hbb.gblk
  refine ⟨h.blk.mod md fun e => ?_, ⟨d, k, hk, hx.apart md fun i hi => ?_⟩, ⟨d0, ha.apart md fun i hi => ?_⟩, ⟨d1, hbb.apart md fun i hi => ?_⟩, h.ne, h.lo, h.kd, h.b0, h.b1, h.bel.trans (md.belowB h.bel.size fun i hi e => by omega), h.nul, h.tab⟩
  · exact t3 (blk_ty (e ▸ hb) h.blk)
  · subst hi
    exact ⟨fun e => t1 (blk_ty (e ▸ hb) bx), _, _, hb, t4, t5⟩
  · subst hi
    exact ⟨fun e => t1 (blk_ty (e ▸ hb) bga), fun e => t2 (blk_ty (e ▸ hb) ba), _, _, hb, t4, t5, t6⟩
  · subst hi
    exact ⟨fun e => t1 (blk_ty (e ▸ hb) bgb), fun e => t2 (blk_ty (e ▸ hb) bb), _, _, hb, t4, t5, t6⟩
end
end Go.Proofs.YtajjgpkahljjmaaGreatDoor
namespace Go.Proofs.YtajjgpkahljjmaaGreatDoor
set_option maxRecDepth 20000
open Go.RowKit
set_option linter.unusedVariables false
theorem tmate_p (d : Nat) (w : World) (hd : d < 1000000) : Calls Tryz.prog 100 #[.int .i64 (d : Int)] w fun e w' => e = .returned (.int .i64 ((mt d : Nat) : Int)) ∧ w = w' := by
  have hx := xor_one_i64 d (by omega)
  rw [mt_mateN] at hx
  go_enter Tryz.func100, Tryz.ntmps100
  go_wp2_with fail
  go_ret
  exact ⟨rfl, rfl⟩
section
variable {w0 w : World} {m gx p0 g0 p1 g1 q : Nat} {ks : List Nat} {tw : Nat → Nat}
theorem tpair_p (W : Wd ks tw) (h : Mx w0 w m gx p0 g0 p1 g1 ks q) (i : Nat) (hi : i < ks.length) (hq : q ≤ 800000) :
    Calls Tryz.prog 112 #[.agg #[.pointer (some ⟨m, 0, none⟩)], .int .i64 (i : Int)] w (MxP w0 w m gx p0 g0 p1 g1 ks (q + 6) (.returned (.int .i64 ((tw i : Nat) : Int)))) := by
  have hal := (Below.refl w.heap.size w).alloc (Nat.le_refl _) (.cells #[.pointer (some ⟨m, 0, none⟩)] 94)
  have MT := Lib.hid (mateI_p (h.below hal) i hi hq)
  have x0 := (Blk.new w 94 #[.pointer (some ⟨m, 0, none⟩)]).cell 0
  have MA := Lib.hid ((Mod.refl (MxS gx p0 g0 p1 g1) w).alloc (.cells #[.pointer (some ⟨m, 0, none⟩)] 94))
  simp at x0
  have HW := Lib.hid (fun p (hp : MateAt ks i p) => W.mate hi hp)
  clear h hal W
  go_enter Tryz.func112, Tryz.ntmps112
  go_wp2_with fail
  refine MT.out.mono ?_
  rintro e w2 ⟨p, hp, rfl, h2, m2⟩
  obtain rfl := HW.out p hp
  go_wp2_with fail
  go_ret
  exact ⟨by go_num, h2, MA.out.trans m2 fun _ _ q => q⟩
theorem tback_p (W : Wd ks tw) (h : Mx w0 w m gx p0 g0 p1 g1 ks q) (i : Nat) (hi : i < ks.length) (hq : q ≤ 600000) (r : Int) (hr : r = ownI (ownP 0 ks tw (tw i))) :
    Calls Tryz.prog 98 #[.agg #[.pointer (some ⟨m, 0, none⟩)], .int .i64 (i : Int)] w (MxP w0 w m gx p0 g0 p1 g1 ks (q + 13) (.returned (.bool (decide (r < (i : Int)))))) := by
  have hal := (Below.refl w.heap.size w).alloc (Nat.le_refl _) (.cells #[.pointer (some ⟨m, 0, none⟩)] 94)
  have hB := Blk.new w 94 #[.pointer (some ⟨m, 0, none⟩)]
  obtain ⟨w1, hw1⟩ : ∃ w1, w1 = w.alloc (.cells #[.pointer (some ⟨m, 0, none⟩)] 94) := ⟨_, rfl⟩
  rw [← hw1] at hal hB
  have h1 := h.below hal
  have PR : Hid (Calls Tryz.prog 112 #[.agg #[.pointer (some ⟨m, 0, none⟩)], .int .i64 (i : Int)] w1.drew (MxP w0 w1.drew m gx p0 g0 p1 g1 ks (q + 6) (.returned (.int .i64 ((tw i : Nat) : Int))))) :=
    tpair_p W (h1.below (Below.refl _ _).drew) i hi (by omega)
  have x0 : w1.drew.cell? ⟨w.heap.size, 0, none⟩ = some (.pointer (some ⟨m, 0, none⟩)) := by have := hB.cell 0; simpa using this
  have MA : Hid (Mod (MxS gx p0 g0 p1 g1) w w1.drew) := by
    rw [hw1]; exact ((Mod.refl (MxS gx p0 g0 p1 g1) w).alloc _).drew
  have hns : Hid (¬ MxS gx p0 g0 p1 g1 w.heap.size ∧ w.heap.size < w1.drew.heap.size) := ⟨fun s => by have := h.lts _ s; omega, hB.lt⟩
  obtain ⟨t, ht⟩ : ∃ t, t = tw i := ⟨_, rfl⟩
  have htl : t < ks.length := by rw [ht]; exact W.P.lt i hi
  have HO : Hid (∀ s : Int, OwnAt ks t s → s = r) := fun s hs => by rw [hr, ← ht]; exact W.own htl hs
  have HT := Lib.hid (And.intro htl hq)
  rw [← ht] at PR
  clear h h1 hal hB W hr ht htl
  go_enter Tryz.func98, Tryz.ntmps98
  go_upto_region 1 with fail
  rw [← hw1]
  clear hw1
  go_region_with (first
    | (go_at_call 112; (with_reducible refine PR.out.mono ?_); rintro e wa ⟨rfl, ha, ma⟩; have y0 : wa.cell? ⟨w.heap.size, 0, none⟩ = some (.pointer (some ⟨m, 0, none⟩)) := (ma.cell hns.out.2 hns.out.1 0).trans x0; have HA := Lib.hid ha; have MB := Lib.hid (MA.out.trans ma fun _ _ q => q); have OW := Lib.hid (ownerI_p ha t HT.out.1 (by have := HT.out.2; omega)); clear ha ma)
    | (go_at_call 128; (with_reducible refine OW.out.mono ?_); rintro e wb ⟨s, hs, rfl, hb, mb⟩; obtain rfl := HO.out s hs; have HBB := Lib.hid hb; have MC := Lib.hid (MB.out.trans mb fun _ _ q => q); clear hs hb mb))
  all_goals (
    go_wp2_with fail
    go_ret
    exact ⟨by first | rfl | simp, HBB.out, MC.out⟩)
end
end Go.Proofs.YtajjgpkahljjmaaGreatDoor
namespace Go.Proofs.YtajjgpkahljjmaaGreatDoor
open Go.RowKit
set_option linter.unusedVariables false
set_option maxRecDepth 20000
theorem own_cut {w : World} {base : Nat} {e : TypeId} {A : Option Addr} {n c k : Nat} {xs : List Value} (h : w.ownsRow base e 1 (.slice A n c) n xs) (hk : k ≤ n) (h0 : 0 < n) : w.ownsRow base e 1 (.slice A k c) k (xs.take k) := by
  refine ⟨by have := h.1; simp; omega, ?_⟩
  rcases h.2 with ⟨_, h'⟩ | ⟨g, cap, cur, hv, hb, hg, hle, hcm, hcs, ht⟩
  · omega
  · simp only [Value.slice.injEq, true_and] at hv
    obtain ⟨rfl, rfl⟩ := hv
    refine .inr ⟨g, c, cur, rfl, hb, hg, by omega, hcm, hcs, ?_⟩
    rw [← ht, List.take_take]
    congr 1
    omega
theorem getDI_set' (y : List Int) (k j : Nat) (v : Int) (hk : k < y.length) (hj : j ≠ k) : (y.set k v).getD j 0 = y.getD j 0 := by rw [getDI_set y k j v hk, if_neg hj]
theorem getDI_set1 (y : List Int) (k : Nat) (v : Int) (hk : k < y.length) : (y.set k v).getD k 0 = v := by rw [getDI_set y k k v hk, if_pos rfl]
/-- What stands in memory at the head of a round. -/
structure MSt (w w1 wr : World) (V m i k gy gz : Nat) (A6 : Option Addr) (c6 : Nat) (y z : List Int) (s : List Nat) : Prop where
  st : Stack (exc V) i s
  sl : s.length = k
  kn : KnownP (exc V) i (fun p => y.getD p 0) (fun p => z.getD p 0)
  oy : wr.ownsRow w.heap.size 3 1 (.slice (some ⟨gy, 0, none⟩) m m) m (I64 y)
  oz : wr.ownsRow w.heap.size 3 1 (.slice (some ⟨gz, 0, none⟩) m m) m (I64 z)
  os : wr.ownsRow w1.heap.size 3 1 (.slice A6 k c6) k (I64 (ofNB s))
  bel : Below w.heap.size w wr
  yz : gy ≠ gz
  ly : gy < w1.heap.size
  lz : gz < w1.heap.size
  sz : w1.heap.size ≤ wr.heap.size
theorem MSt.leny {w w1 wr : World} {V m i k gy gz c6 : Nat} {A6 : Option Addr} {y z : List Int} {s : List Nat} (h : MSt w w1 wr V m i k gy gz A6 c6 y z s) : y.length = m := own_lenI h.oy
theorem MSt.lenz {w w1 wr : World} {V m i k gy gz c6 : Nat} {A6 : Option Addr} {y z : List Int} {s : List Nat} (h : MSt w w1 wr V m i k gy gz A6 c6 y z s) : z.length = m := own_lenI h.oz
theorem own_set_other {w : World} {base g : Nat} {v : Value} {n : Nat} {xs : List Value} {e : TypeId} (h : w.ownsRow base e 1 v n xs) (hg : v.ownBlock ≠ some g) (k : Nat) (u : Value) : (w.setCell ⟨g, k, none⟩ u).ownsRow base e 1 v n xs :=
  own_mod h (Mod.setCell (p := ⟨g, k, none⟩) (Mod.refl (fun i => i = g) w) (fun _ => rfl) _) fun i hi e => hg (by rw [hi, e])
theorem own_block_ne {w : World} {base g : Nat} {v : Value} {n : Nat} {xs : List Value} {e : TypeId} (h : w.ownsRow base e 1 v n xs) (hg : g < base) : v.ownBlock ≠ some g := fun e => by have := (h.lt g e).1; omega
/-- A closing one: its mate is the last one that stands open. -/
theorem MSt.shut {w w1 wr : World} {V m i k gy gz c6 : Nat} {A6 : Option Addr} {y z : List Int} {s : List Nat} (h : MSt w w1 wr V m i (k + 1) gy gz A6 c6 y z s) (hi : i < m) (hc : exc V (i + 1) = exc V i - 1) :
    MSt w w1 (((wr.setCell ⟨gy, i, none⟩ (.int .i64 ((s.getD k 0 : Nat) : Int))).setCell ⟨gy, s.getD k 0, none⟩ (.int .i64 (i : Int))).setCell ⟨gz, i, none⟩ (.int .i64 (z.getD (s.getD k 0) 0))) V m (i + 1) k gy gz A6 c6
      ((y.set i ((s.getD k 0 : Nat) : Int)).set (s.getD k 0) (i : Int)) (z.set i (z.getD (s.getD k 0) 0)) (s.take k) := by
  have hE := exc_Exc V
  have hly := h.leny
  have hlz := h.lenz
  obtain ⟨hs, hp⟩ := h.st.pop hc (by rw [h.sl]; omega)
  rw [h.sl, Nat.add_sub_cancel] at hs hp
  have hlt := hp.lt
  have hl2 : (y.set i ((s.getD k 0 : Nat) : Int)).length = m := by rw [List.length_set]; exact hly
  have h1 := (own_block h.oy).1
  have h2 := (own_block h.oz).1
  have nyz : ∀ w' : World, w'.ownsRow w.heap.size 3 1 (.slice (some ⟨gz, 0, none⟩) m m) m (I64 z) → (Value.slice (some ⟨gz, 0, none⟩) m m).ownBlock ≠ some gy := fun _ _ e => h.yz (by simpa [Value.ownBlock] using e.symm)
  have nzy : (Value.slice (some ⟨gy, 0, none⟩) m m).ownBlock ≠ some gz := fun e => h.yz (by simpa [Value.ownBlock] using e)
  have o1 := own_setI h.oy i ((s.getD k 0 : Nat) : Int)
  have o2 := own_setI o1 (s.getD k 0) (i : Int)
  have o3 := own_set_other o2 nzy i (.int .i64 (z.getD (s.getD k 0) 0))
  have q1 := own_set_other (own_set_other h.oz (nyz _ h.oz) i (.int .i64 ((s.getD k 0 : Nat) : Int))) (nyz _ h.oz) (s.getD k 0) (.int .i64 (i : Int))
  have q2 := own_setI q1 i (z.getD (s.getD k 0) 0)
  have oc := own_cut h.os (show k ≤ k + 1 by omega) (by omega)
  rw [I64_take, ← ofN_takeB] at oc
  have c1 := own_set_other (own_set_other (own_set_other oc (own_block_ne oc h.ly) i (.int .i64 ((s.getD k 0 : Nat) : Int))) (own_block_ne oc h.ly) (s.getD k 0) (.int .i64 (i : Int))) (own_block_ne oc h.lz) i (.int .i64 (z.getD (s.getD k 0) 0))
  refine ⟨hs, by rw [List.length_take, h.sl]; omega, h.kn.pop hE hp (fun p p1 p2 => ?_) ?_ ?_ (fun p p1 => getDI_set' z i p _ (by omega) p1) (getDI_set1 z i _ (by omega)), o3, q2, c1, ((h.bel.setCell h1 _).setCell h1 _).setCell h2 _, h.yz, h.ly, h.lz, by simp [World.setCell]; exact h.sz⟩
  · show ((y.set i _).set _ _).getD p 0 = y.getD p 0
    rw [getDI_set' _ _ p _ (by omega) p2, getDI_set' y i p _ (by omega) p1]
  · show ((y.set i _).set _ _).getD i 0 = _
    rw [getDI_set' _ _ i _ (by omega) (by omega), getDI_set1 y i _ (by omega)]
  · exact getDI_set1 _ _ _ (by omega)
end Go.Proofs.YtajjgpkahljjmaaGreatDoor
namespace Go.Proofs.YtajjgpkahljjmaaGreatDoor
set_option maxRecDepth 20000
open Go.RowKit
set_option linter.unusedVariables false
structure OSt (w w1 wr : World) (ks : List Nat) (n i k gy : Nat) (A6 : Option Addr) (c6 : Nat) (y : List Int) (S : List Nat) : Prop where
  st : OStk ks i S
  sl : S.length = k
  kn : ∀ j, j < i → OwnAt ks j (y.getD j 0)
  oy : wr.ownsRow w.heap.size 3 1 (.slice (some ⟨gy, 0, none⟩) n n) n (I64 y)
  os : wr.ownsRow w1.heap.size 3 1 (.slice A6 k c6) k (I64 (ofNB S))
  bel : Below w.heap.size w wr
  ly : gy < w1.heap.size
  sz : w1.heap.size ≤ wr.heap.size
theorem OSt.leny {w w1 wr : World} {ks : List Nat} {n i k gy c6 : Nat} {A6 : Option Addr} {y : List Int} {S : List Nat} (h : OSt w w1 wr ks n i k gy A6 c6 y S) : y.length = n := own_lenI h.oy
/-- A number is put where the letter stands. -/
theorem OSt.put {w w1 wr : World} {ks : List Nat} {n i k gy c6 : Nat} {A6 : Option Addr} {y : List Int} {S : List Nat} (h : OSt w w1 wr ks n i k gy A6 c6 y S) (hi : i < n) (v : Int) : OSt w w1 (wr.setCell ⟨gy, i, none⟩ (.int .i64 v)) ks n i k gy A6 c6 (y.set i v) S :=
  ⟨h.st, h.sl, fun j hj => by rw [getDI_set' y i j v (by rw [h.leny]; exact hi) (by omega)]; exact h.kn j hj, own_setI h.oy i v, own_set_other h.os (own_block_ne h.os h.ly) _ _, h.bel.setCell (own_block h.oy).1 _, h.ly, by simp [World.setCell]; exact h.sz⟩
theorem OSt.next {w w1 wr : World} {ks : List Nat} {n i k gy c6 : Nat} {A6 : Option Addr} {y : List Int} {S : List Nat} (h : OSt w w1 wr ks n i k gy A6 c6 y S) (ho : OwnAt ks i (y.getD i 0)) (hs : OStk ks (i + 1) S) : OSt w w1 wr ks n (i + 1) k gy A6 c6 y S :=
  ⟨hs, h.sl, fun j hj => by
    by_cases e : j = i
    · subst e; exact ho
    · exact h.kn j (by omega), h.oy, h.os, h.bel, h.ly, h.sz⟩
theorem OSt.shut {w w1 wr : World} {ks : List Nat} {n i k gy c6 : Nat} {A6 : Option Addr} {y : List Int} {S : List Nat} (h : OSt w w1 wr ks n i (k + 1) gy A6 c6 y S) (ho : OwnAt ks i (y.getD i 0)) (hs : OStk ks (i + 1) (S.take (S.length - 1))) : OSt w w1 wr ks n (i + 1) k gy A6 c6 y (S.take k) := by
  have e : S.length - 1 = k := by rw [h.sl]; omega
  rw [e] at hs
  have oc := own_cut h.os (show k ≤ k + 1 by omega) (by omega)
  rw [I64_take, ← ofN_takeB] at oc
  exact ⟨hs, by rw [List.length_take, h.sl]; omega, fun j hj => by
    by_cases e : j = i
    · subst e; exact ho
    · exact h.kn j (by omega), h.oy, oc, h.bel, h.ly, h.sz⟩
end Go.Proofs.YtajjgpkahljjmaaGreatDoor
