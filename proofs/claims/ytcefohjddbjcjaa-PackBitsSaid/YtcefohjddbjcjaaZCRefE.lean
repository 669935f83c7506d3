/- The document's answer for the code: Encode. -/
import Derived.Test.YtcefohjddbjcjaaZCGoes
import Derived.Test.YtcefohjddbjcjaaZg4
import Derived.Deep.LoopGhost
import Derived.Deep.CutRange
import Derived.BigRegion
import Derived.BigQuiet
namespace Go.Proofs.Ytcefohjddbjcjaa
set_option maxRecDepth 20000
open Go.RowKit
set_option linter.unusedVariables false

theorem est_ctx (k : Nat) (l : List Nat) : (est k l).c = M l % 2 ^ k := by
  induction l using snoc_ind with
  | h0 => show 0 = 0 % 2 ^ k; rw [Nat.zero_mod]
  | h1 l b ih =>
    rw [est_snoc, M_snoc]
    show (2 * (est k l).c + b) % 2 ^ k = _
    rw [ih, Nat.add_mod, Nat.mul_mod, Nat.mod_mod, ← Nat.mul_mod, ← Nat.add_mod]
/-- The context, bit by bit: t are still to come. -/
def ctx (l : List Nat) (i k t : Nat) : Nat := M (l.take (i - t)) % 2 ^ (k - t)
theorem M_zero (l : List Nat) (h : l = []) : M l = 0 := by rw [h]; rfl
theorem ctx_start (l : List Nat) (i k : Nat) : ctx l i k k = 0 := by unfold ctx; rw [Nat.sub_self, Nat.pow_zero, Nat.mod_one]
theorem ctx_in (l : List Nat) (i k t : Nat) (hl : i ≤ l.length) (ht : t < k) (h : t + 1 ≤ i) : ctx l i k t = 2 * ctx l i k (t + 1) + l.getD (i - (t + 1)) 0 ∨ 2 ≤ l.getD (i - (t + 1)) 0 := by
  by_cases hb : l.getD (i - (t + 1)) 0 < 2
  · left
    unfold ctx
    obtain ⟨j, hj⟩ : ∃ j, i - (t + 1) = j := ⟨_, rfl⟩
    obtain ⟨m, hm⟩ : ∃ m, k - (t + 1) = m := ⟨_, rfl⟩
    rw [show i - t = j + 1 by omega, show k - t = m + 1 by omega, hj, hm]
    rw [hj] at hb
    have hjl : j < l.length := by omega
    rw [List.take_succ_eq_append_getElem hjl, M_snoc, show l[j] = l.getD j 0 by rw [List.getD_eq_getElem?_getD, List.getElem?_eq_getElem hjl]; rfl]
    rw [Nat.pow_succ, Nat.mul_comm (2 ^ m) 2, Nat.mod_mul, show (2 * M (l.take j) + l.getD j 0) / 2 = M (l.take j) by omega, show (2 * M (l.take j) + l.getD j 0) % 2 = l.getD j 0 by omega]
    omega
  · right; omega
theorem ctx_out (l : List Nat) (i k t : Nat) (ht : t < k) (h : i < t + 1) : ctx l i k t = 2 * ctx l i k (t + 1) := by
  unfold ctx
  rw [show i - t = 0 by omega, show i - (t + 1) = 0 by omega]
  simp [M]
theorem ctx_lt (l : List Nat) (i k t : Nat) (hk : k ≤ 8) : ctx l i k t < 256 := by
  have : ctx l i k t < 2 ^ (k - t) := Nat.mod_lt _ (Nat.two_pow_pos _)
  have h2 : 2 ^ (k - t) ≤ 2 ^ 8 := Nat.pow_le_pow_right (by decide) (by omega)
  omega
theorem set_selfR (y : List Nat) (k : Nat) : y.set k (y.getD k 0) = y := by
  by_cases h : k < y.length
  · refine getDN_ext (by simp) fun j hj => ?_
    rw [getD_setN _ _ _ _ h]
    by_cases e : j = k
    · rw [if_pos e, e]
    · rw [if_neg e]
  · exact List.set_eq_of_length_le (by omega)
/-- What the document's writer holds. -/
def RefS (w0 w : World) (B bz bo : Nat) (zs os : List Nat) (v : Value) (out : List Nat) : Prop :=
  Blk w bz 22 (U64 zs).toArray ∧ Blk w bo 22 (U64 os).toArray ∧ OutR w B v out ∧ Below w0.heap.size w0 w ∧ B ≤ w.heap.size
theorem RefS.drewN {w0 w : World} {B bz bo : Nat} {zs os : List Nat} {v : Value} {out : List Nat} (h : RefS w0 w B bz bo zs os v out) (n : Nat) : RefS w0 (w.drewN n) B bz bo zs os v out :=
  ⟨h.1.drewN n, h.2.1.drewN n, h.2.2.1.below (below_draws (Below.refl _ _) n), below_draws h.2.2.2.1 n, h.2.2.2.2⟩
theorem mid_facts (lo hi z o : Nat) (hn : wayOf lo hi = none) (hlt : hi < 4294967296) (hz : 1 ≤ z) (ho : 1 ≤ o) (hs : z + o < 65536) :
    ∃ D R T PP Q U : Nat, IntKind.u64.wrap ((hi : Int) - (lo : Int)) = (D : Int) ∧ IntKind.u64.wrap ((D : Int) + 1) = (R : Int) ∧ IntKind.u64.wrap ((R : Int) * (z : Int)) = (PP : Int) ∧
      IntKind.u64.wrap ((z : Int) + (o : Int)) = (T : Int) ∧ (PP : Int).tdiv (T : Int) = (Q : Int) ∧ IntKind.u64.wrap (Q : Int) = (Q : Int) ∧ IntKind.u64.wrap ((lo : Int) + (Q : Int)) = (U : Int) ∧
      IntKind.u64.wrap ((U : Int) - 1) = ((midOf lo hi z o : Nat) : Int) ∧ ((T : Int) == 0) = false ∧ ¬ T = 0 ∧ ¬ (T : Int) = 0 := by
  obtain ⟨m0, m1, m2⟩ := mid_in hn hz ho hs
  have hw := wayOf_none hn
  obtain ⟨PP, hPP⟩ : ∃ PP, PP = (hi - lo + 1) * z := ⟨_, rfl⟩
  obtain ⟨Q, hQ⟩ : ∃ Q, Q = PP / (z + o) := ⟨_, rfl⟩
  have hPb : PP ≤ 4294967296 * 65536 := by rw [hPP]; exact Nat.mul_le_mul (by omega) (by omega)
  have hQ2 : (hi - lo + 1) * z / (z + o) = Q := by rw [hQ, hPP]
  unfold midOf at m1 m2 ⊢
  rw [hQ2] at m0 m1 m2 ⊢
  refine ⟨hi - lo, hi - lo + 1, z + o, PP, Q, lo + Q, wrap_u64e (by omega) (by omega), wrap_u64e (by omega) (by omega), wrap_u64e (by rw [hPP]; simp) (by omega), wrap_u64e (by omega) (by omega), ?_, wrap_u64n Q (by omega), wrap_u64e (by omega) (by omega), wrap_u64e (by omega) (by omega), ?_, by omega, by omega⟩
  · rw [hQ, Int.tdiv_eq_ediv_of_nonneg (by omega)]; simp
  · rw [beq_eq_false_iff_ne]; omega
theorem blk_u64 {w : World} {g : Nat} {zs : List Nat} (h : Blk w g 22 (U64 zs).toArray) (i : Nat) (hi : i < zs.length) : w.cell? ⟨g, i, none⟩ = some (.int .u64 ((zs.getD i 0 : Nat) : Int)) := by
  rw [h.cell, List.getElem?_toArray, U64_get _ _ hi]
theorem blk_set64 {w : World} {g : Nat} {zs : List Nat} (h : Blk w g 22 (U64 zs).toArray) (i v : Nat) : Blk (w.setCell ⟨g, i, none⟩ (.int .u64 (v : Int))) g 22 (U64 (zs.set i v)).toArray := by
  have := h.set_ i (.int .u64 (v : Int))
  rwa [List.setIfInBounds_toArray, ← U64_set] at this
theorem RefS.setz {w0 w : World} {B bz bo : Nat} {zs os : List Nat} {v : Value} {out : List Nat} (h : RefS w0 w B bz bo zs os v out) (hne : bz ≠ bo) (h0 : w0.heap.size ≤ bz) (hB : bz < B) (i x : Nat) : RefS w0 (w.setCell ⟨bz, i, none⟩ (.int .u64 (x : Int))) B bz bo (zs.set i x) os v out := by
  have m := Mod.setCell (p := ⟨bz, i, none⟩) (Mod.refl (fun k => k = bz) w) (fun _ => rfl) (.int .u64 (x : Int))
  exact ⟨blk_set64 h.1 i x, h.2.1.mod m (fun e => hne e.symm), h.2.2.1.mod m (fun k hk e => by omega), h.2.2.2.1.setCell h0 _, Nat.le_trans h.2.2.2.2 m.size⟩
theorem RefS.seto {w0 w : World} {B bz bo : Nat} {zs os : List Nat} {v : Value} {out : List Nat} (h : RefS w0 w B bz bo zs os v out) (hne : bz ≠ bo) (h0 : w0.heap.size ≤ bo) (hB : bo < B) (i x : Nat) : RefS w0 (w.setCell ⟨bo, i, none⟩ (.int .u64 (x : Int))) B bz bo zs (os.set i x) v out := by
  have m := Mod.setCell (p := ⟨bo, i, none⟩) (Mod.refl (fun k => k = bo) w) (fun _ => rfl) (.int .u64 (x : Int))
  exact ⟨h.1.mod m hne, blk_set64 h.2.1 i x, h.2.2.1.mod m (fun k hk e => by omega), h.2.2.2.1.setCell h0 _, Nat.le_trans h.2.2.2.2 m.size⟩
theorem RefS.goes {w0 w w' : World} {B bz bo : Nat} {zs os : List Nat} {v v' : Value} {out out' : List Nat} (h : RefS w0 w B bz bo zs os v out) (hz : bz < B) (ho : bo < B) (h0 : w0.heap.size ≤ B) (h1 : OutR w' B v' out') (b : Below B w w') : RefS w0 w' B bz bo zs os v' out' :=
  ⟨(b.block bz hz).trans h.1, (b.block bo ho).trans h.2.1, h1, h.2.2.2.1.trans (b.mono h0), Nat.le_trans h.2.2.2.2 b.size⟩
set_option maxHeartbeats 8000000 in
theorem refEncode_p (k : Nat) (As : Option Addr) (n c : Nat) (l : List Nat) (w : World) (h : Rd w w.heap.size As n (I64 (ofNB l))) (hb : Bin l) (hk : k ≤ 8) (hn : n ≤ 29000) :
    Calls Try.prog 29 #[.slice As n c, .int .i64 (k : Int)] w (NewI64 w (ofNB (codeOf k l))) := by
  have hl : l.length = n := by rw [← ofN_lenB, ← I64_len, h.len]
  have HL := Lib.hid hl
  have HBN := Lib.hid hb
  have H := Lib.hid h
  have HK := Lib.hid hk
  obtain ⟨i0, hi0, hz0, hz1, hz2⟩ := info_parts info_u64
  clear h hb hl
  go_enter Try.func29, Try.ntmps29
  go_wp2_with fail
  go_loopw [5, 6] (fun s i wr => ∃ j p : Nat, j ≤ k ∧ p = 2 ^ j ∧ p ≤ 256 ∧ s = .int .i64 (p : Int) ∧ i = .int .i64 (j : Int) ∧ w = wr) (fun _ i _ => k - (intOf i).toNat)
  case atStart => exact ⟨0, 1, by omega, rfl, by omega, rfl, rfl, rfl⟩
  case round =>
    obtain ⟨j, p, hj, hp, hp2, rfl, rfl, rfl⟩ := hrel
    by_cases hlt : j < k
    · have HP2 : Hid (p * 2 = 2 ^ (j + 1)) := by show _ = _; rw [hp, Nat.pow_succ]
      have hp3 : p * 2 ≤ 256 := by
        rw [hp, ← Nat.pow_succ]; exact Nat.le_trans (Nat.pow_le_pow_right (by decide) (show j + 1 ≤ 8 by omega)) (by decide)
      clear hp
      go_wp2_with fail
      go_roundw
      case rel => exact ⟨j + 1, p * 2, by omega, HP2.out, hp3, by go_num, by go_num, trivial⟩
      case measure => simp [intOf]; omega
    · obtain rfl : j = k := by omega
      have hmk := fun W => run_make_one (P := Try.prog) 62 22 i0 (.int .u64 0) 8 Try.underlying62 hi0 hz0 hz1 hz2 rfl .i64 .i64 p (by omega) (by omega) W
      have HPP : Hid (p = 2 ^ j) := hp
      have hp1 : 1 ≤ p := by rw [hp]; exact Nat.two_pow_pos _
      clear hp hlt hi0 hz0 hz1 hz2
      go_wp2_with fail
      go_cut [7, 8] from 26 to 29 (fun x y wx => ∃ bz bo, x = .slice (some ⟨bz, 0, none⟩) p p ∧ y = .slice (some ⟨bo, 0, none⟩) p p ∧ bz ≠ bo ∧ w.heap.size ≤ bz ∧ w.heap.size ≤ bo ∧ Hid (bz < wx.heap.size) ∧ Hid (bo < wx.heap.size) ∧ Hid (Blk wx bz 22 (U64 (List.replicate p 0)).toArray) ∧ Hid (Blk wx bo 22 (U64 (List.replicate p 0)).toArray) ∧ Hid (Below w.heap.size w wx))
      case first =>
        have EU : (List.replicate p (Value.int .u64 0)).toArray = (U64 (List.replicate p 0)).toArray := by simp [U64]
        have WW : Hid (Blk (((w.alloc (.cells (List.replicate p (Value.int .u64 0)).toArray 22)).alloc (.cells (List.replicate p (Value.int .u64 0)).toArray 22)).drew) w.heap.size 22 (U64 (List.replicate p 0)).toArray ∧
            Blk (((w.alloc (.cells (List.replicate p (Value.int .u64 0)).toArray 22)).alloc (.cells (List.replicate p (Value.int .u64 0)).toArray 22)).drew) (w.heap.size + 1) 22 (U64 (List.replicate p 0)).toArray ∧
            Below w.heap.size w (((w.alloc (.cells (List.replicate p (Value.int .u64 0)).toArray 22)).alloc (.cells (List.replicate p (Value.int .u64 0)).toArray 22)).drew)) := by
          rw [EU]
          refine ⟨Blk.drewN ((Blk.new w _ _).alloc _) 1, ?_, (((Below.refl _ _).alloc (Nat.le_refl _) _).alloc (by simp) _).drew⟩
          have := Blk.new (w.alloc (.cells (U64 (List.replicate p 0)).toArray 22)) 22 (U64 (List.replicate p 0)).toArray
          rw [show (w.alloc (.cells (U64 (List.replicate p 0)).toArray 22)).heap.size = w.heap.size + 1 by simp] at this
          exact Blk.drewN this 1
        rw [List.toArray_replicate] at WW
        clear EU
        go_region
        all_goals (
          go_wp2_with fail
          go_meet
          refine ⟨_, _, rfl, rfl, by omega, by omega, by omega, ?_, ?_, ?_, ?_, WW.out.2.2⟩
          · first | exact WW.out.1.lt | exact WW.out.2.1.lt
          · first | exact WW.out.1.lt | exact WW.out.2.1.lt
          · first | exact WW.out.1 | exact WW.out.2.1
          · first | exact WW.out.1 | exact WW.out.2.1)
      case rest =>
        obtain ⟨bz, bo, rfl, rfl, hne, h0z, h0o, ltz, lto, BZ, BO, HBw⟩ := hcut
        clear hmk
        go_wp2_with fail
        go_loopw [32] (fun i wr => ∃ t : Nat, t ≤ p ∧ i = .int .i64 (t : Int) ∧ Hid (Blk wr bz 22 (U64 (List.replicate t 1 ++ List.replicate (p - t) 0)).toArray) ∧ Hid (Blk wr bo 22 (U64 (List.replicate t 1 ++ List.replicate (p - t) 0)).toArray) ∧ Hid (Below w.heap.size w wr)) (fun i _ => p - (intOf i).toNat)
        case atStart => exact ⟨0, by omega, rfl, by simpa using BZ, by simpa using BO, HBw⟩
        case round =>
          clear BZ BO HBw ltz lto
          obtain ⟨t, ht, rfl, BZ, BO, HBw⟩ := hrel
          by_cases hlt : t < p
          · have hLL : (List.replicate t 1 ++ List.replicate (p - t) 0).length = p := by simp; omega
            have c0 := blk_u64 BZ.out t (by rw [hLL]; exact hlt)
            have c1 := blk_u64 BO.out t (by rw [hLL]; exact hlt)
            have f0 := Blk.frozen BZ.out t
            have f1 := Blk.frozen BO.out t
            have EQ : (List.replicate t 1 ++ List.replicate (p - t) 0).set t 1 = List.replicate (t + 1) 1 ++ List.replicate (p - (t + 1)) 0 := by
              obtain ⟨r, hr⟩ : ∃ r, p - t = r + 1 := ⟨p - t - 1, by omega⟩
              rw [show p - (t + 1) = r by omega, hr, List.replicate_succ, List.set_append_right _ _ (by simp), List.replicate_succ']
              simp
            have S1 := blk_set64 BZ.out t 1
            rw [EQ] at S1
            have m1 := Mod.setCell (p := ⟨bz, t, none⟩) (Mod.refl (fun k => k = bz) wr) (fun _ => rfl) (.int .u64 ((1 : Nat) : Int))
            have S2 := blk_set64 (BO.out.mod m1 (fun e => hne e.symm)) t 1
            rw [EQ] at S2
            have m2 := Mod.setCell (p := ⟨bo, t, none⟩) (Mod.refl (fun k => k = bo) (wr.setCell ⟨bz, t, none⟩ (.int .u64 ((1 : Nat) : Int)))) (fun _ => rfl) (.int .u64 ((1 : Nat) : Int))
            have S3 := Lib.hid (S1.mod m2 hne)
            have S4 := Lib.hid S2
            have S5 := Lib.hid ((HBw.out.setCell (p := ⟨bz, t, none⟩) h0z (.int .u64 ((1 : Nat) : Int))).setCell (p := ⟨bo, t, none⟩) h0o (.int .u64 ((1 : Nat) : Int)))
            clear S1 m1 S2 m2 EQ hLL BZ BO HBw
            generalize (List.replicate t 1 ++ List.replicate (p - t) 0).getD t 0 = q at *
            go_wp2_with fail
            go_roundw
            case rel => exact ⟨t + 1, by omega, by go_num, S3, S4, S5⟩
            case measure => simp [intOf]; omega
          · obtain rfl : p = t := by omega
            rw [Nat.sub_self, List.replicate_zero, List.append_nil] at BZ BO
            have hbz := BZ.out.lt
            have hbo := BO.out.lt
            have HR : Hid (RefS w wr wr.heap.size bz bo (est j (l.take 0)).zs (est j (l.take 0)).os (.slice none 0 0) (outs (est j (l.take 0)).ways).1) := by
              rw [List.take_zero, est_nil]
              show RefS _ _ _ _ _ (List.replicate (2 ^ j) 1) (List.replicate (2 ^ j) 1) _ []
              rw [← HPP.out]
              exact ⟨BZ.out, BO.out, OutR.nil _ _, HBw.out, Nat.le_refl _⟩
            obtain ⟨B, hB⟩ : ∃ B, B = wr.heap.size := ⟨_, rfl⟩
            rw [← hB] at HR hbz hbo
            have h0B : w.heap.size ≤ B := by rw [hB]; exact HBw.out.size
            clear BZ BO HBw hB hlt ht
            go_wp2_with fail
            go_loopw [10, 11, 12, 13, 44] (fun x10 x11 x12 x13 x44 wr => ∃ (i : Nat) (st : Es), i ≤ n ∧ Hid (st = est j (l.take i)) ∧ x10 = .int .u64 (st.lo : Int) ∧ x11 = .int .u64 (st.hi : Int) ∧ x12 = .int .i64 (((outs st.ways).2 : Nat) : Int) ∧ x44 = .int .i64 (i : Int) ∧ Hid (RefS w wr B bz bo st.zs st.os x13 (outs st.ways).1)) (fun _ _ _ _ x44 _ => n - (intOf x44).toNat)
            case atStart => exact ⟨0, est j (l.take 0), by omega, rfl, rfl, rfl, rfl, rfl, HR⟩
            case round =>
              clear HR
              obtain ⟨i, st, hi, HST, rfl, rfl, rfl, rfl, HR⟩ := hrel
              have EI : Hid (Ei j st) := by show Ei j st; rw [HST.out]; exact est_ok j _
              obtain ⟨v, hv⟩ : ∃ v, v = u13 := ⟨_, rfl⟩
              subst hv
              by_cases hlt : i < n
              · have hr := H.out.below HR.out.2.2.2.1
                obtain ⟨ba, oa, rfl, _, k1⟩ := hr.i64 (by omega)
                have t1 := k1 i hlt
                have HK1 := Lib.hid k1
                have hbb : l.getD i 0 < 2 := HBN.out.getD i
                rw [ofN_getB] at t1
                obtain ⟨b, hbe⟩ : ∃ b, b = l.getD i 0 := ⟨_, rfl⟩
                rw [← hbe] at t1 hbb
                have HBE := Lib.hid hbe
                clear k1 hr hbe
                go_wp2_with fail
                go_loopw [16, 17] (fun x16 x17 wx => ∃ t : Nat, t ≤ j ∧ x16 = .int .i64 ((ctx l i j t : Nat) : Int) ∧ x17 = .int .i64 (t : Int) ∧ wr = wx) (fun _ x17 _ => (intOf x17).toNat)
                case atStart => exact ⟨j, by omega, by rw [ctx_start]; rfl, rfl, rfl⟩
                case round =>
                  obtain ⟨t, ht, rfl, rfl, rfl⟩ := hrel
                  have hc9 := ctx_lt l i j t hk
                  by_cases h0 : t = 0
                  · subst h0
                    have HCX : Hid (ctx l i j 0 = st.c) := by
                      show _ = _
                      rw [HST.out, est_ctx]
                      unfold ctx
                      rw [Nat.sub_zero, Nat.sub_zero]
                    rw [HCX.out] at hc9 ⊢
                    go_wp2_with fail
                    have hcl : st.c < st.zs.length := by have := EI.out.cl; have := EI.out.lz; omega
                    have hol : st.c < st.os.length := by have := EI.out.cl; have := EI.out.lo_; omega
                    have z1 : 1 ≤ st.z := EI.out.zp _ EI.out.cl
                    have o1 : 1 ≤ st.o := EI.out.op _ EI.out.cl
                    have s1 : st.z + st.o < 65536 := EI.out.sum _ EI.out.cl
                    have c0 : wr.cell? ⟨bz, st.c, none⟩ = some (.int .u64 ((st.z : Nat) : Int)) := blk_u64 HR.out.1 st.c hcl
                    have c1 : wr.cell? ⟨bo, st.c, none⟩ = some (.int .u64 ((st.o : Nat) : Int)) := blk_u64 HR.out.2.1 st.c hol
                    have hcp : st.c < p := by rw [HPP.out]; exact EI.out.cl
                    obtain ⟨D, R, T, PP, Q, U, d1, d2, d3, d4, d5, d6, d7, d8, d9, d10, d11⟩ := mid_facts st.lo st.hi st.z st.o EI.out.none_ EI.out.lt z1 o1 s1
                    rw [show midOf st.lo st.hi st.z st.o = st.mid from rfl] at d8
                    have hmid : st.mid < 4294967296 := by have := EI.out.mid_in; have := EI.out.lt; omega
                    go_cut [18] from 67 to 88 (fun x wx => x = .int .u64 ((st.mid : Nat) : Int) ∧ ∃ nn, wx = wr.drewN nn)
                    case first =>
                      clear HR HST HBE HK1 hbb t1 EI HCX hcl hol z1 o1 s1 hmid
                      generalize st.mid = md at *
                      generalize st.z = zz at *
                      generalize st.o = oo at *
                      generalize st.c = cc at *
                      go_quiet (fail)
                      go_wp2_with fail
                      go_meet
                      exact ⟨rfl, _, rfl⟩
                    case rest =>
                      obtain ⟨rfl, nn, rfl⟩ := hcut
                      clear c0 c1 d1 d2 d3 d4 d5 d6 d7 d8 d9 d10 d11
                      have HR2 := Lib.hid (HR.out.drewN nn)
                      generalize wr.drewN nn = w2 at *
                      iterate 2 go_step
                      go_cut [10, 11] from 89 to 105 (fun x10 x11 wx => x10 = .int .u64 ((nLo st b : Nat) : Int) ∧ x11 = .int .u64 ((nHi st b : Nat) : Int) ∧ Hid (RefS w wx B bz bo (st.zs.set st.c (upZ st b)) (st.os.set st.c (upO st b)) v (outs st.ways).1))
                      case first =>
                        have c0 : w2.cell? ⟨bz, st.c, none⟩ = some (.int .u64 ((st.z : Nat) : Int)) := blk_u64 HR2.out.1 st.c hcl
                        have c1 : w2.cell? ⟨bo, st.c, none⟩ = some (.int .u64 ((st.o : Nat) : Int)) := blk_u64 HR2.out.2.1 st.c hol
                        have f0 := Blk.frozen HR2.out.1 st.c
                        have f1 := Blk.frozen HR2.out.2.1 st.c
                        rcases (by omega : b = 0 ∨ b = 1) with rfl | rfl
                        · have S1 : Hid (RefS w (w2.setCell ⟨bz, st.c, none⟩ (.int .u64 ((st.z + 1 : Nat) : Int))) B bz bo (st.zs.set st.c (upZ st 0)) (st.os.set st.c (upO st 0)) v (outs st.ways).1) := by
                            have := HR2.out.setz hne h0z hbz st.c (st.z + 1)
                            show RefS _ _ _ _ _ _ _ _ _
                            rw [show upZ st 0 = st.z + 1 from rfl, show upO st 0 = st.os.getD st.c 0 from rfl, set_selfR]
                            exact this
                          have hlo : Hid (nLo st 0 = st.lo) := rfl
                          have hhi : Hid (nHi st 0 = st.mid) := rfl
                          have hz9 : st.z ≤ 65536 := by omega
                          clear HR HR2 HST HBE HK1 hbb t1 EI HCX hcl hol z1 o1 s1 c1 f1
                          generalize nLo st 0 = nl at *
                          generalize nHi st 0 = nh at *
                          generalize st.mid = md at *
                          generalize st.z = zz at *
                          generalize st.c = cc at *
                          go_wp2_with fail
                          go_meet
                          exact ⟨by rw [hlo.out], by rw [hhi.out], S1⟩
                        · have S1 : Hid (RefS w (w2.setCell ⟨bo, st.c, none⟩ (.int .u64 ((st.o + 1 : Nat) : Int))) B bz bo (st.zs.set st.c (upZ st 1)) (st.os.set st.c (upO st 1)) v (outs st.ways).1) := by
                            have := HR2.out.seto hne h0o hbo st.c (st.o + 1)
                            show RefS _ _ _ _ _ _ _ _ _
                            rw [show upZ st 1 = st.zs.getD st.c 0 from rfl, show upO st 1 = st.o + 1 from rfl, set_selfR]
                            exact this
                          have hlo : Hid (nLo st 1 = st.mid + 1) := rfl
                          have hhi : Hid (nHi st 1 = st.hi) := rfl
                          have hz9 : st.o ≤ 65536 := by omega
                          clear HR HR2 HST HBE HK1 hbb t1 EI HCX hcl hol z1 o1 s1 c0 f0
                          generalize nLo st 1 = nl at *
                          generalize nHi st 1 = nh at *
                          generalize st.mid = md at *
                          generalize st.o = oo at *
                          generalize st.c = cc at *
                          go_wp2_with fail
                          go_meet
                          exact ⟨by rw [hlo.out]; go_num, by rw [hhi.out], S1⟩
                      case rest =>
                        obtain ⟨rfl, rfl, HR3⟩ := hcut
                        have hup := (EI.out.up b).2.2
                        have q12 := EI.out.narrow b
                        have NX : Hid (est j (l.take (i + 1)) = estep j st b) := by
                          show _ = _
                          rw [List.take_succ_eq_append_getElem (by rw [HL.out]; exact hlt), est_snoc, ← HST.out, show l[i]'(by rw [HL.out]; exact hlt) = b by rw [HBE.out, List.getD_eq_getElem?_getD, List.getElem?_eq_getElem]; rfl]
                        have WL : Hid (st.ways.length + 200 ≤ 1000000) := by
                          have := est_ways j (l.take i)
                          rw [← HST.out, List.length_take] at this
                          show _ ≤ _; omega
                        obtain ⟨zz, hzz⟩ : ∃ zz, zz = upZ st b := ⟨_, rfl⟩
                        obtain ⟨oo, hoo⟩ : ∃ oo, oo = upO st b := ⟨_, rfl⟩
                        have HZZ := Lib.hid hzz
                        have HOO := Lib.hid hoo
                        rw [← hzz, ← hoo] at hup HR3
                        clear hzz hoo
                        clear HR HR2 HK1 t1 hmid z1 o1 s1
                        iterate 2 go_step
                        go_cut [] from 106 to 143 (fun wx => Hid (RefS w wx B bz bo (st.zs.set st.c (halve zz oo zz)) (st.os.set st.c (halve zz oo oo)) v (outs st.ways).1))
                        case first =>
                          have c0 := blk_u64 HR3.out.1 st.c (by simpa using hcl)
                          have c1 := blk_u64 HR3.out.2.1 st.c (by simpa using hol)
                          rw [getD_setN _ _ _ _ hcl, if_pos rfl] at c0
                          rw [getD_setN _ _ _ _ hol, if_pos rfl] at c1
                          have f0 := Blk.frozen HR3.out.1 st.c
                          have f1 := Blk.frozen HR3.out.2.1 st.c
                          obtain ⟨T, hT⟩ : ∃ T, T = zz + oo := ⟨_, rfl⟩
                          have ew : IntKind.u64.wrap ((zz : Int) + (oo : Int)) = (T : Int) := wrap_u64e (by omega) (by omega)
                          have hz9 : zz ≤ 65536 := by omega
                          have ho9 : oo ≤ 65536 := by omega
                          by_cases hf : T = 65536
                          · have HE : Hid (∀ y, halve zz oo y = (y + 1) / 2) := fun y => by unfold halve; rw [if_pos (by omega)]
                            subst hf
                            have a1 : (zz : Int).tdiv 2 = ((zz / 2 : Nat) : Int) := by rw [Int.tdiv_eq_ediv_of_nonneg (by omega)]; omega
                            have a2 : (zz : Int).tmod 2 = ((zz % 2 : Nat) : Int) := by rw [Int.tmod_eq_emod_of_nonneg (by omega)]; omega
                            have a3 : IntKind.u64.wrap (((zz / 2 : Nat) : Int) + ((zz % 2 : Nat) : Int)) = (((zz + 1) / 2 : Nat) : Int) := wrap_u64e (by omega) (by omega)
                            have b1 : (oo : Int).tdiv 2 = ((oo / 2 : Nat) : Int) := by rw [Int.tdiv_eq_ediv_of_nonneg (by omega)]; omega
                            have b2 : (oo : Int).tmod 2 = ((oo % 2 : Nat) : Int) := by rw [Int.tmod_eq_emod_of_nonneg (by omega)]; omega
                            have b3 : IntKind.u64.wrap (((oo / 2 : Nat) : Int) + ((oo % 2 : Nat) : Int)) = (((oo + 1) / 2 : Nat) : Int) := wrap_u64e (by omega) (by omega)
                            have a4 : IntKind.u64.wrap ((zz / 2 : Nat) : Int) = ((zz / 2 : Nat) : Int) := wrap_u64n _ (by omega)
                            have a5 : IntKind.u64.wrap ((zz % 2 : Nat) : Int) = ((zz % 2 : Nat) : Int) := wrap_u64n _ (by omega)
                            have b4 : IntKind.u64.wrap ((oo / 2 : Nat) : Int) = ((oo / 2 : Nat) : Int) := wrap_u64n _ (by omega)
                            have b5 : IntKind.u64.wrap ((oo % 2 : Nat) : Int) = ((oo % 2 : Nat) : Int) := wrap_u64n _ (by omega)
                            have S2 : Hid (∀ m, RefS w (((wc.drewN m).setCell ⟨bz, st.c, none⟩ (.int .u64 (((zz + 1) / 2 : Nat) : Int))).setCell ⟨bo, st.c, none⟩ (.int .u64 (((oo + 1) / 2 : Nat) : Int))) B bz bo (st.zs.set st.c (halve zz oo zz)) (st.os.set st.c (halve zz oo oo)) v (outs st.ways).1) := fun m => by
                              have := ((HR3.out.drewN m).setz hne h0z hbz st.c ((zz + 1) / 2)).seto hne h0o hbo st.c ((oo + 1) / 2)
                              rw [List.set_set, List.set_set] at this
                              rw [HE.out, HE.out]; exact this
                            obtain ⟨z2, hz2⟩ : ∃ z2, z2 = (zz + 1) / 2 := ⟨_, rfl⟩
                            obtain ⟨o2, ho2⟩ : ∃ o2, o2 = (oo + 1) / 2 := ⟨_, rfl⟩
                            rw [← hz2] at a3 S2
                            rw [← ho2] at b3 S2
                            generalize zz / 2 = z3 at *
                            generalize zz % 2 = z4 at *
                            generalize oo / 2 = o3 at *
                            generalize oo % 2 = o4 at *
                            generalize hcc : st.c = cc at *
                            clear HR3 HST HBE EI HCX HZZ HOO hcl hol hz2 ho2 NX WL q12 hcc
                            go_wp2_with fail
                            go_quiet (fail)
                            go_wp2_with fail
                            go_region
                            all_goals (go_wp2_with fail; go_meet; exact S2.out _)
                          · have HE : Hid (∀ y, halve zz oo y = y) := fun y => by unfold halve; rw [if_neg (by omega)]
                            have hfi : ¬ (T : Int) = 65536 := by omega
                            have hfb : ((T : Int) == 65536) = false := by rw [beq_eq_false_iff_ne]; omega
                            have S2 : Hid (∀ m, RefS w (wc.drewN m) B bz bo (st.zs.set st.c (halve zz oo zz)) (st.os.set st.c (halve zz oo oo)) v (outs st.ways).1) := fun m => by
                              rw [HE.out, HE.out]; exact HR3.out.drewN m
                            generalize hcc : st.c = cc at *
                            clear HR3 HST HBE EI HCX HZZ HOO hcl hol NX WL q12 hcc hf hT hz9 ho9
                            go_wp2_with fail
                            go_quiet (fail)
                            go_wp2_with fail
                            go_meet
                            exact S2.out _
                        case rest =>
                          have HS2 := hcut
                          have hll := EI.out.lz
                          obtain ⟨q1, q2, _, _⟩ := q12
                          have HLE := Lib.hid (Left.start q1 q2)
                          have HST2 : Hid (estep j st b = ⟨(wid 33 (nLo st b) (nHi st b)).2.1, (wid 33 (nLo st b) (nHi st b)).2.2, st.ways ++ (wid 33 (nLo st b) (nHi st b)).1, st.zs.set st.c (halve zz oo zz), st.os.set st.c (halve zz oo oo), (2 * st.c + b) % 2 ^ j⟩) := by
                            show _ = _
                            unfold estep
                            rw [HZZ.out, HOO.out]
                          obtain ⟨zs2, hzs2⟩ : ∃ zs2, zs2 = st.zs.set st.c (halve zz oo zz) := ⟨_, rfl⟩
                          obtain ⟨os2, hos2⟩ : ∃ os2, os2 = st.os.set st.c (halve zz oo oo) := ⟨_, rfl⟩
                          rw [← hzs2, ← hos2] at HST2 HS2
                          have h0 : Hid (outs st.ways = outs (st.ways ++ [])) := by rw [List.append_nil]; rfl
                          obtain ⟨W, hW⟩ : ∃ W, W = st.ways := ⟨_, rfl⟩
                          obtain ⟨lo0, hlo0⟩ : ∃ x, x = nLo st b := ⟨_, rfl⟩
                          obtain ⟨hi0, hhi0⟩ : ∃ x, x = nHi st b := ⟨_, rfl⟩
                          rw [← hlo0, ← hhi0] at HST2 HLE ⊢
                          rw [← hW] at HST2 HS2 WL ⊢
                          have HWL : Hid (W.length + 200 ≤ 1000000) := WL
                          clear HR3 hcut HST HBE EI HCX hcl hol q1 q2 hzs2 hos2 hll hup HZZ HOO WL h0 hlo0 hhi0 hW
                          go_wp2_with fail
                          go_loopg [10, 11, 12, 13] 33 (fun f x10 x11 x12 x13 wx => ∃ (a b : Nat) (ws : List Nat), Hid (Left f a b) ∧ Hid (wid 33 lo0 hi0 = (ws ++ (wid f a b).1, (wid f a b).2)) ∧ Hid (ws.length + f = 33) ∧ x10 = .int .u64 (a : Int) ∧ x11 = .int .u64 (b : Int) ∧ x12 = .int .i64 (((outs (W ++ ws)).2 : Nat) : Int) ∧ Hid (RefS w wx B bz bo zs2 os2 x13 (outs (W ++ ws)).1))
                          case atStart => exact ⟨lo0, hi0, [], HLE, rfl, rfl, rfl, rfl, by rw [List.append_nil], by rw [List.append_nil]; exact HS2⟩
                          case round =>
                            clear HS2 HLE
                            obtain ⟨a, b2, ws, LE, WE, HLN, rfl, rfl, rfl, HR⟩ := hrel
                            have hol := outs_len (W ++ ws)
                            have hbound : (outs (W ++ ws)).1.length + (outs (W ++ ws)).2 ≤ 999833 := by
                              have := HLN.out; have := HWL.out; rw [hol, List.length_append]; omega
                            have NXT : Hid (∀ k, outs (W ++ (ws ++ [k])) = tellE (outs (W ++ ws)) k) := fun k => by rw [← List.append_assoc, outs_snoc]
                            obtain ⟨OT, hOT⟩ : ∃ OT, OT = outs (W ++ ws) := ⟨_, rfl⟩
                            rw [← hOT] at NXT HR hbound ⊢
                            obtain ⟨ol, wt⟩ := OT
                            have hbound : ol.length + wt ≤ 999833 := hbound
                            have hba : b2 < 4294967296 := LE.out.2.1
                            have hab : a ≤ b2 := LE.out.1
                            have HOT : Hid (outs (W ++ ws) = (ol, wt)) := hOT.symm
                            obtain ⟨v3, hv3⟩ : ∃ v3, v3 = u13 := ⟨_, rfl⟩
                            subst hv3
                            clear hol hOT
                            cases hw : wayOf a b2 with
                            | none =>
                              have hnn := wayOf_none hw
                              have h1 : ¬ (b2 : Int) < 2147483648 := by omega
                              have h2 : ¬ 2147483648 ≤ (a : Int) := by omega
                              have WE2 : Hid (wid 33 lo0 hi0 = (ws, a, b2)) := by show _ = _; rw [WE.out, wid_none hw]; simp
                              have h3 := hnn.2.2
                              have HE2 : Hid (estep j st b = ⟨a, b2, W ++ ws, zs2, os2, (2 * st.c + b) % 2 ^ j⟩) := by
                                show _ = _
                                rw [HST2.out, WE2.out]
                              have HRR : Hid (RefS w wr B bz bo (estep j st b).zs (estep j st b).os v3 (outs (estep j st b).ways).1) := by
                                show RefS _ _ _ _ _ _ _ _ _
                                rw [HE2.out]
                                show RefS _ _ _ _ _ zs2 os2 _ (outs (W ++ ws)).1
                                rw [HOT.out]; exact HR.out
                              have E1 : Hid ((estep j st b).lo = a ∧ (estep j st b).hi = b2 ∧ (outs (estep j st b).ways).2 = wt) := by
                                show _ ∧ _ ∧ _
                                rw [HE2.out]
                                refine ⟨rfl, rfl, ?_⟩
                                show (outs (W ++ ws)).2 = wt
                                rw [HOT.out]
                              clear hnn hba hab hw HST2 WE NXT LE HLN HR HE2 WE2 HOT hbound
                              rcases h3 with h3 | h3
                              · have h3 : ¬ 1073741824 ≤ (a : Int) := by omega
                                go_wp2_with fail
                                go_roundw
                                case rel => exact ⟨i + 1, estep j st b, by omega, NX.out.symm, by rw [E1.out.1], by rw [E1.out.2.1], by rw [E1.out.2.2], by go_num, HRR⟩
                                case measure => simp [intOf]; omega
                              · by_cases h4 : 1073741824 ≤ a
                                · have h4 : 1073741824 ≤ (a : Int) := by omega
                                  have h3 : ¬ (b2 : Int) < 3221225472 := by omega
                                  go_wp2_with fail
                                  go_roundw
                                  case rel => exact ⟨i + 1, estep j st b, by omega, NX.out.symm, by rw [E1.out.1], by rw [E1.out.2.1], by rw [E1.out.2.2], by go_num, HRR⟩
                                  case measure => simp [intOf]; omega
                                · have h4 : ¬ 1073741824 ≤ (a : Int) := by omega
                                  clear h3
                                  go_wp2_with fail
                                  go_roundw
                                  case rel => exact ⟨i + 1, estep j st b, by omega, NX.out.symm, by rw [E1.out.1], by rw [E1.out.2.1], by rw [E1.out.2.2], by go_num, HRR⟩
                                  case measure => simp [intOf]; omega
                            | some k =>
                              obtain ⟨f', rfl⟩ : ∃ f', gk = f' + 1 := ⟨gk - 1, by have := LE.out.pos; omega⟩
                              obtain ⟨w1, w2', w3'⟩ := wayOf_le hw hab
                              have w3' := w3' hba
                              have LF := Lib.hid (LE.out.step hw)
                              have WF : Hid (wid 33 lo0 hi0 = ((ws ++ [k]) ++ (wid f' (dbl a k) (dbl b2 k + 1)).1, (wid f' (dbl a k) (dbl b2 k + 1)).2)) := by
                                show _ = _; rw [WE.out, wid_some hw]; simp
                              have HL2 : Hid ((ws ++ [k]).length + f' = 33) := by show _ = _; have := HLN.out; simp; omega
                              have NK : Hid (outs (W ++ (ws ++ [k])) = tellE (ol, wt) k) := NXT.out k
                              have W3 : (k = 0 ∧ (b2 : Int) < 2147483648) ∨ (k = 2 ∧ ¬ (b2 : Int) < 2147483648 ∧ 2147483648 ≤ (a : Int)) ∨ (k = 1 ∧ ¬ (b2 : Int) < 2147483648 ∧ ¬ 2147483648 ≤ (a : Int) ∧ 1073741824 ≤ (a : Int) ∧ (b2 : Int) < 3221225472) := by
                                unfold wayOf at hw
                                split at hw
                                · have := Option.some.inj hw; exact .inl ⟨by omega, by omega⟩
                                · split at hw
                                  · have := Option.some.inj hw; exact .inr (.inl ⟨by omega, by omega, by omega⟩)
                                  · split at hw
                                    · have := Option.some.inj hw; exact .inr (.inr ⟨by omega, by omega, by omega, by omega, by omega⟩)
                                    · cases hw
                              have HG := fun bb (hbb : bb < 2) => goes_p v3 B bb wt ol wr HR.out.2.2.1 HR.out.2.2.2.2 hbb (by omega)
                              clear hw w1 LE WE HLN NXT HOT HST2 NX
                              rcases W3 with ⟨rfl, h1⟩ | ⟨rfl, h1, h2⟩ | ⟨rfl, h1, h2, h3, h4⟩
                              · have G0 := Lib.hid (HG 0 (by decide))
                                have e1 : IntKind.u64.wrap (2 * (a : Int)) = ((dbl a 0 : Nat) : Int) := wrap_u64e (by unfold dbl; omega) (by unfold dbl; omega)
                                have e2 : IntKind.u64.wrap (2 * (b2 : Int)) = ((dbl b2 0 : Nat) : Int) := wrap_u64e (by unfold dbl; omega) (by unfold dbl; omega)
                                have e3 : IntKind.u64.wrap (((dbl b2 0 : Nat) : Int) + 1) = ((dbl b2 0 + 1 : Nat) : Int) := wrap_u64e (by omega) (by unfold dbl; omega)
                                obtain ⟨y1, hy1⟩ : ∃ y, y = dbl b2 0 + 1 := ⟨_, rfl⟩
                                rw [← hy1] at e3 LF WF
                                clear hy1
                                generalize dbl a 0 = x1 at *
                                generalize dbl b2 0 = y0 at *
                                clear HG hab hba w2' w3'
                                go_wp2_with fail
                                refine G0.out.mono ?_
                                rintro e w9 ⟨v9, rfl, ho9, b9⟩
                                have HR9 : Hid (RefS w w9 B bz bo zs2 os2 v9 (outs (W ++ (ws ++ [0]))).1) := by
                                  show RefS _ _ _ _ _ _ _ _ _
                                  rw [NK.out]; exact HR.out.goes hbz hbo h0B ho9 b9
                                have E2 : Hid ((outs (W ++ (ws ++ [0]))).2 = 0) := by show _ = _; rw [NK.out]; rfl
                                clear ho9 b9 G0 HR NK
                                go_wp2_with fail
                                go_roundg f'
                                case measure => omega
                                case rel => exact ⟨x1, y1, ws ++ [0], LF, WF, HL2, rfl, rfl, by rw [E2.out]; rfl, HR9⟩
                              · have G1 := Lib.hid (HG 1 (by decide))
                                have e4 : IntKind.u64.wrap ((a : Int) - 2147483648) = ((a - 2147483648 : Nat) : Int) := wrap_u64e (by omega) (by omega)
                                have e5 : IntKind.u64.wrap ((b2 : Int) - 2147483648) = ((b2 - 2147483648 : Nat) : Int) := wrap_u64e (by omega) (by omega)
                                have e1 : IntKind.u64.wrap (2 * ((a - 2147483648 : Nat) : Int)) = ((dbl a 2 : Nat) : Int) := wrap_u64e (by unfold dbl; omega) (by unfold dbl; omega)
                                have e2 : IntKind.u64.wrap (2 * ((b2 - 2147483648 : Nat) : Int)) = ((dbl b2 2 : Nat) : Int) := wrap_u64e (by unfold dbl; omega) (by unfold dbl; omega)
                                have e3 : IntKind.u64.wrap (((dbl b2 2 : Nat) : Int) + 1) = ((dbl b2 2 + 1 : Nat) : Int) := wrap_u64e (by omega) (by unfold dbl; omega)
                                obtain ⟨y1, hy1⟩ : ∃ y, y = dbl b2 2 + 1 := ⟨_, rfl⟩
                                rw [← hy1] at e3 LF WF
                                obtain ⟨a3, ha3⟩ : ∃ y, y = a - 2147483648 := ⟨_, rfl⟩
                                rw [← ha3] at e4 e1
                                obtain ⟨b3, hb3⟩ : ∃ y, y = b2 - 2147483648 := ⟨_, rfl⟩
                                rw [← hb3] at e5 e2
                                clear hy1 ha3 hb3
                                generalize dbl a 2 = x1 at *
                                generalize dbl b2 2 = y0 at *
                                clear HG hab hba w2' w3'
                                go_wp2_with fail
                                refine G1.out.mono ?_
                                rintro e w9 ⟨v9, rfl, ho9, b9⟩
                                have HR9 : Hid (RefS w w9 B bz bo zs2 os2 v9 (outs (W ++ (ws ++ [2]))).1) := by
                                  show RefS _ _ _ _ _ _ _ _ _
                                  rw [NK.out]; exact HR.out.goes hbz hbo h0B ho9 b9
                                have E2 : Hid ((outs (W ++ (ws ++ [2]))).2 = 0) := by show _ = _; rw [NK.out]; rfl
                                clear ho9 b9 G1 HR NK
                                go_wp2_with fail
                                go_roundg f'
                                case measure => omega
                                case rel => exact ⟨x1, y1, ws ++ [2], LF, WF, HL2, rfl, rfl, by rw [E2.out]; rfl, HR9⟩
                              · have e4 : IntKind.u64.wrap ((a : Int) - 1073741824) = ((a - 1073741824 : Nat) : Int) := wrap_u64e (by omega) (by omega)
                                have e5 : IntKind.u64.wrap ((b2 : Int) - 1073741824) = ((b2 - 1073741824 : Nat) : Int) := wrap_u64e (by omega) (by omega)
                                have e1 : IntKind.u64.wrap (2 * ((a - 1073741824 : Nat) : Int)) = ((dbl a 1 : Nat) : Int) := wrap_u64e (by unfold dbl; omega) (by unfold dbl; omega)
                                have e2 : IntKind.u64.wrap (2 * ((b2 - 1073741824 : Nat) : Int)) = ((dbl b2 1 : Nat) : Int) := wrap_u64e (by unfold dbl; omega) (by unfold dbl; omega)
                                have e3 : IntKind.u64.wrap (((dbl b2 1 : Nat) : Int) + 1) = ((dbl b2 1 + 1 : Nat) : Int) := wrap_u64e (by omega) (by unfold dbl; omega)
                                obtain ⟨y1, hy1⟩ : ∃ y, y = dbl b2 1 + 1 := ⟨_, rfl⟩
                                rw [← hy1] at e3 LF WF
                                obtain ⟨a3, ha3⟩ : ∃ y, y = a - 1073741824 := ⟨_, rfl⟩
                                rw [← ha3] at e4 e1
                                obtain ⟨b3, hb3⟩ : ∃ y, y = b2 - 1073741824 := ⟨_, rfl⟩
                                rw [← hb3] at e5 e2
                                clear hy1 ha3 hb3
                                generalize dbl a 1 = x1 at *
                                generalize dbl b2 1 = y0 at *
                                have HR9 : Hid (RefS w wr B bz bo zs2 os2 v3 (outs (W ++ (ws ++ [1]))).1) := by
                                  show RefS _ _ _ _ _ _ _ _ _
                                  rw [NK.out]; exact HR.out
                                have E2 : Hid ((outs (W ++ (ws ++ [1]))).2 = wt + 1) := by show _ = _; rw [NK.out]; rfl
                                clear HG hab hba w2' w3' HR NK
                                go_wp2_with fail
                                go_roundg f'
                                case measure => omega
                                case rel => exact ⟨x1, y1, ws ++ [1], LF, WF, HL2, rfl, rfl, by rw [E2.out]; go_num, HR9⟩
                  · obtain ⟨t', rfl⟩ : ∃ t', t = t' + 1 := ⟨t - 1, by omega⟩
                    have hc8 := ctx_lt l i j t' hk
                    by_cases hti : t' + 1 ≤ i
                    · have hin := ctx_in l i j t' (by rw [HL.out]; omega) (by omega) hti
                      have hb7 : l.getD (i - (t' + 1)) 0 < 2 := HBN.out.getD _
                      have hin : ctx l i j t' = 2 * ctx l i j (t' + 1) + l.getD (i - (t' + 1)) 0 := by omega
                      have t2 := HK1.out (i - (t' + 1)) (by omega)
                      rw [ofN_getB] at t2
                      have hix : (i : Int) - ((t' : Int) + 1) = ((i - (t' + 1) : Nat) : Int) := by omega
                      have HIN := Lib.hid hin
                      generalize l.getD (i - (t' + 1)) 0 = y at *
                      generalize i - (t' + 1) = ix at *
                      generalize ctx l i j (t' + 1) = cx at *
                      clear hin
                      go_wp2_with fail
                      go_roundw
                      case rel => exact ⟨t', by omega, by rw [HIN.out]; go_num, by go_num, trivial⟩
                      case measure => simp [intOf]
                    · have hout := ctx_out l i j t' (by omega) (by omega)
                      have HOUT := Lib.hid hout
                      generalize ctx l i j (t' + 1) = cx at *
                      clear hout
                      go_wp2_with fail
                      go_roundw
                      case rel => exact ⟨t', by omega, by first | (rw [HOUT.out]; done) | (rw [HOUT.out]; go_num), by go_num, trivial⟩
                      case measure => simp [intOf]
              · obtain rfl : n = i := by omega
                have e1 : l.take n = l := List.take_of_length_le (by rw [HL.out]; exact Nat.le_refl _)
                have HCO : Hid (codeOf j l = fin (outs st.ways) st.lo) := by show _ = _; rw [HST.out, e1]; rfl
                have hol := outs_len st.ways
                have hw := est_ways j l
                have hst : st = est j l := by rw [HST.out, e1]
                rw [← hst, HL.out] at hw
                obtain ⟨OT, hOT⟩ : ∃ OT, OT = outs st.ways := ⟨_, rfl⟩
                rw [← hOT] at HCO HR hol ⊢
                obtain ⟨ol, wt⟩ := OT
                have hbound : ol.length + wt ≤ 999000 := by have : ol.length + wt = st.ways.length := hol; omega
                obtain ⟨lo, hlo⟩ : ∃ lo, lo = st.lo := ⟨_, rfl⟩
                rw [← hlo] at HCO ⊢
                have HG := fun bb (hbb : bb < 2) => goes_p v B bb (wt + 1) ol wr HR.out.2.2.1 HR.out.2.2.2.2 hbb (by omega)
                clear hol hw hst hOT hlo HST EI e1 hlt
                by_cases hll : lo < 1073741824
                · have G0 := Lib.hid (HG 0 (by decide))
                  have hl2 : (lo : Int) < 1073741824 := by omega
                  have HC2 : Hid (codeOf j l = ol ++ 0 :: List.replicate (wt + 1) 1) := by show _ = _; rw [HCO.out, fin, if_pos hll]
                  clear hll HG HCO
                  go_wp2_with fail
                  refine G0.out.mono ?_
                  rintro e w9 ⟨v9, rfl, ho9, b9⟩
                  have HO9 := Lib.hid ho9
                  have B9 := Lib.hid (HR.out.2.2.2.1.trans (b9.mono h0B))
                  clear ho9 b9 G0 HR
                  go_wp2_with fail
                  go_ret
                  obtain ⟨A9, c9, rfl, hown⟩ := HO9.out
                  refine .mk rfl ?_ B9.out
                  rw [HC2.out, ofN_lenB]
                  exact hown.base_le' h0B
                · have G0 := Lib.hid (HG 1 (by decide))
                  have hl2 : ¬ (lo : Int) < 1073741824 := by omega
                  have HC2 : Hid (codeOf j l = ol ++ 1 :: List.replicate (wt + 1) 0) := by show _ = _; rw [HCO.out, fin, if_neg hll]
                  clear hll HG HCO
                  go_wp2_with fail
                  refine G0.out.mono ?_
                  rintro e w9 ⟨v9, rfl, ho9, b9⟩
                  have HO9 := Lib.hid ho9
                  have B9 := Lib.hid (HR.out.2.2.2.1.trans (b9.mono h0B))
                  clear ho9 b9 G0 HR
                  go_wp2_with fail
                  go_ret
                  obtain ⟨A9, c9, rfl, hown⟩ := HO9.out
                  refine .mk rfl ?_ B9.out
                  rw [HC2.out, ofN_lenB]
                  exact hown.base_le' h0B
end Go.Proofs.Ytcefohjddbjcjaa
