/- canon's looks. How darts are sorted first; parting by a step: mathematics. The sorts' struct: put, choose, add, all. -/
import Derived.Test.YtgcbdoljapnecaaGreatZCpWalked
import Derived.Test.YtgcbdoljapnecaaGreatZg11
import Derived.Test.YtgcbdoljapnecaaGreatZg7
import Derived.Test.YtgcbdoljapnecaaGreatZg9
namespace Go.Proofs.YtgcbdoljapnecaaGreat
set_option maxRecDepth 100000
open Go.RowKit
set_option linter.unusedVariables false
set_option linter.unusedSimpArgs false
theorem take_flat (f : Nat → List Nat) (S : List Nat) {i : Nat} (h : i < S.length) : (S.take (i + 1)).flatMap f = (S.take i).flatMap f ++ f (S.getD i 0) := by
  rw [List.take_add_one, List.flatMap_append, List.getElem?_eq_getElem h]
  simp [List.getD_eq_getElem?_getD, List.getElem?_eq_getElem h]
theorem take_mapS (f : Nat → Nat) (z : List Nat) {j : Nat} (h : j < z.length) : (z.take (j + 1)).map f = (z.take j).map f ++ [f (z.getD j 0)] := by
  rw [List.take_add_one, List.map_append, List.getElem?_eq_getElem h]
  simp [List.getD_eq_getElem?_getD, List.getElem?_eq_getElem h]
theorem wlk_len {l b : List Nat} (hl : Inv l b) (he : l.length % 2 = 0) {r : Nat} (hr : r < l.length) : (wlk l r).length ≤ l.length := by
  have := (wN_is (sgL_pf hl) (show l.length = 2 * (l.length / 2) by omega) (one_nm hl) (fun x hx => name_lt hl hx) hr).2.1
  unfold wlk
  rw [List.length_map, List.length_range]; exact this
set_option maxHeartbeats 8000000 in
theorem clooked_p (g : Nat) (l b : List Nat) (r : Nat) (lone : Int) (w : World) (h : MapAt w g l b (r : Int) lone) (hi : Inv l b) (hr : r < l.length) :
    Calls Tryz.prog 137 #[.pointer (some ⟨g, 0, none⟩)] w (NewI64 w (ofN ((starts l r).flatMap (wlk l)))) := by
  have hle := h.2.1
  have HEV : Hid (l.length % 2 = 0) := h.1.1
  have DP := Lib.hid (darts_p g l b _ _ w h)
  have HM : Hid (∀ W, Below w.heap.size w W → MapAt W g l b (r : Int) lone) := fun W m => h.below m
  have PP : Hid (∀ W, Below w.heap.size w W → Calls Tryz.prog 138 #[.pointer (some ⟨g, 0, none⟩)] W (PartsPost W l r)) := fun W m => cparts_p g l b r lone W (h.below m) hi hr
  have WK : Hid (∀ (W : World) (f : Nat) (D pl : List Nat) (A AP : Option Addr) (m c cP : Nat), Below w.heap.size w W → f < l.length → D = own l f → m = D.length → Rd W W.heap.size A m (I64 (ofN D)) → Rd W W.heap.size AP l.length (I64 (ofN pl)) → (∀ i, i < D.length → sgL pl (sgL D i) = i) →
      Calls Tryz.prog 139 #[.agg #[.int .i64 (f : Int), .slice A m c], .pointer (some ⟨g, 0, none⟩), .slice AP l.length cP] W (WalkedPost W D (wlk l f))) := fun W f D pl A AP m c cP z h1 h2 h3 h4 h5 h6 =>
    cwalked_p g l b (r : Int) lone f D pl A AP m c l.length cP W (h.below z) hi h1 h2 h3 h4 rfl h5 h6
  have HI := Lib.hid hi
  obtain ⟨i0, hi0, hz0, hz1, hz2⟩ := info_parts info_int
  obtain ⟨n, hn⟩ : ∃ n, n = l.length := ⟨_, rfl⟩
  have hmk := run_make_one (P := Tryz.prog) 29 3 i0 (.int .i64 0) 8 Tryz.underlying29 hi0 hz0 hz1 hz2 rfl .i64 .i64 n (by omega) (by omega)
  have HSL : Hid (∀ s ∈ starts l r, s < n) := by show ∀ s ∈ _, _; rw [hn]; exact starts_lt hr
  have HKL : Hid ((starts l r).length ≤ n + 1) := by
    show _ ≤ _
    unfold starts
    rw [List.length_cons, hn]
    have := Nat.le_trans (List.length_filter_le (fun d => @decide (Least (part l) d ∧ ¬ part l r d) (Classical.propDecidable _)) (List.range l.length)) (Nat.le_of_eq List.length_range)
    exact Nat.succ_le_succ (Nat.le_trans (List.length_filter_le _ _) (Nat.le_of_eq List.length_range))
  have HWL : Hid (∀ s, s < n → (wlk l s).length ≤ n) := fun s hs => by rw [hn]; exact wlk_len hi HEV.out (by omega)
  have HOW : Hid (∀ f, f < n → (∀ i j, i < (own l f).length → j < (own l f).length → sgL (own l f) i = sgL (own l f) j → i = j) ∧ (∀ i, i < (own l f).length → sgL (own l f) i < n) ∧ 0 < (own l f).length ∧ (own l f).length ≤ n) := fun f hf => by
    have q := own_inc hi HEV.out (show f < l.length by omega)
    refine ⟨fun i j a c e => q.inj i j a c e, fun i a => by rw [hn]; exact q.lt i a, ?_, ?_⟩
    · have := own_self hi HEV.out (show f < l.length by omega)
      exact List.length_pos_of_mem this
    · rw [hn]; unfold own; exact Nat.le_trans (List.length_filter_le _ _) (by simp)
  rw [← hn] at hle hr DP WK
  have HN := Lib.hid hn
  clear h hi hn
  go_enter Tryz.func137, Tryz.ntmps137
  go_wp2_with fail
  refine DP.out.mono ?_
  rintro e w1 ⟨rfl, b1⟩
  obtain ⟨wp, hwp⟩ : ∃ wp, wp = w1.alloc (.cells (List.replicate n (Value.int .i64 0)).toArray 3) := ⟨_, rfl⟩
  obtain ⟨gP, hgP⟩ : ∃ gP, gP = w1.heap.size := ⟨_, rfl⟩
  have hszp : wp.heap.size = gP + 1 := by rw [hwp, hgP]; simp
  have hgw : w.heap.size ≤ gP := by rw [hgP]; exact b1.size
  have ZP : Hid (Below w.heap.size w wp) := by rw [hwp]; exact b1.alloc b1.size _
  have OP : Hid (wp.ownsRow w.heap.size 3 1 (.slice (some ⟨gP, 0, none⟩) n n) n (I64 (ofN (List.replicate n 0)))) := by
    have := own_made w1 3 n (.int .i64 0) (by simp only [maxLen]; omega)
    have e : I64 (ofN (List.replicate n 0)) = List.replicate n (.int .i64 0) := by simp [I64, ofN]
    rw [e, hwp, hgP]
    exact this.base_le' b1.size
  have PP1 := Lib.hid (PP.out wp ZP.out)
  go_wp2_with fail
  have ea : (List.replicate n (Value.int .i64 0)).toArray = Array.replicate n (Value.int .i64 0) := by simp
  rw [ea] at hwp
  rw [← hwp, ← hgP]
  clear hmk ea hwp hgP DP b1
  refine PP1.out.mono ?_
  rintro e w2 ⟨AA, cA, ps, rfl, oA, hin, hst, how, b2⟩
  obtain ⟨K, hK⟩ : ∃ K, K = ps.length := ⟨_, rfl⟩
  rw [← hK] at oA ⊢
  have hKS : K = (starts l r).length := by rw [← hst, List.length_map, hK]
  have hKn : K ≤ n + 1 := by rw [hKS]; exact HKL.out
  have hK0 : 0 < K := by rw [hKS]; unfold starts; simp
  obtain ⟨gA, rfl, hgA, hgA2⟩ := own_someS oA hK0
  have hfs : ∀ i, i < K → (ps.getD i pE0).1 = (starts l r).getD i 0 := fun i hi' => by
    rw [← hst, List.getD_eq_getElem?_getD, List.getD_eq_getElem?_getD, List.getElem?_map, List.getElem?_eq_getElem (by omega)]; rfl
  have PC : Hid (∀ i, i < K → ∃ f gD m c', f = (starts l r).getD i 0 ∧ f < n ∧ m = (own l f).length ∧ w2.cell? ⟨gA, i * 2, none⟩ = some (.int .i64 (f : Int)) ∧ w2.cell? ⟨gA, i * 2 + 1, none⟩ = some (.slice (some ⟨gD, 0, none⟩) m c') ∧ w2.ownsRow (gP + 1) 3 1 (.slice (some ⟨gD, 0, none⟩) m c') m (I64 (ofN (own l f)))) := fun i hi' => by
    have hm' : ps.getD i pE0 ∈ ps := by rw [List.getD_eq_getElem?_getD, List.getElem?_eq_getElem (by omega)]; exact List.getElem_mem _
    have hfn : (ps.getD i pE0).1 < n := HSL.out _ (by rw [← hst]; exact List.mem_map.2 ⟨_, hm', rfl⟩)
    obtain ⟨A', c', e1, o1⟩ := hin _ hm'
    have ho := how _ hm'
    rw [ho] at e1 o1
    obtain ⟨gD, rfl, _⟩ := own_some o1 (HOW.out _ hfn).2.2.1
    have c0 := oA.cellAt (i * 2) (by omega)
    have c1 := oA.cellAt (i * 2 + 1) (by omega)
    rw [(pcs_get ps i (by omega)).1] at c0
    rw [(pcs_get ps i (by omega)).2, e1] at c1
    exact ⟨_, gD, _, c', hfs i hi', hfn, rfl, c0, c1, by rw [← hszp]; exact o1⟩
  have Z2 := Lib.hid (ZP.out.trans (b2.mono ZP.out.size))
  have O2 := Lib.hid (own_below OP.out b2)
  have hgP2 : gP < w2.heap.size := by have := b2.size; omega
  have HGA : Hid (gA < w2.heap.size ∧ gA ≠ gP) := by show _ ∧ _; constructor <;> omega
  have HKS := Lib.hid hKS
  clear oA hin hst how b2 hK hKS hfs PP1 PP ZP OP hgA hgA2 hszp
  go_wp2_with fail
  go_loopw [3, 17] (fun v x wr => ∃ (i : Nat) (A : Option Addr) (c : Nat) (Q pl : List Nat), i ≤ K ∧ v = .slice A Q.length c ∧ x = .int .i64 (i : Int) ∧ Hid (Q = ((starts l r).take i).flatMap (wlk l) ∧ Q.length ≤ i * 131072 ∧ pl.length = n) ∧ Hid (wr.ownsRow w.heap.size 3 1 (.slice (some ⟨gP, 0, none⟩) n n) n (I64 (ofN pl))) ∧
    Hid (wr.ownsRow w2.heap.size 3 1 (.slice A Q.length c) Q.length (I64 (ofN Q))) ∧ Hid (Below w.heap.size w wr) ∧ Hid (Mod (fun k => k = gP) w2 wr)) (fun _ x _ => K - (intOf x).toNat)
  case atStart => exact ⟨0, none, 0, [], List.replicate n 0, Nat.zero_le _, rfl, rfl, ⟨by simp, by simp, by simp⟩, O2, World.ownsRow_nil _ _ _ _, Z2, Mod.refl _ _⟩
  case round =>
    clear O2 Z2
    obtain ⟨i, A, c, Q, pl, hiK, rfl, rfl, HQ, OPl, OQ, ZZ, MM⟩ := hrel
    obtain ⟨q, hq⟩ : ∃ q, q = Q.length := ⟨_, rfl⟩
    rw [← hq] at OQ ⊢
    have HQL := Lib.hid hq
    clear hq
    by_cases hlt : i < K
    · have hdk : decide (i < K) = true := decide_eq_true hlt
      obtain ⟨f, gD, m, c', hf, hfn, hm, y0, y1, oD⟩ := PC.out i hlt
      obtain ⟨hinj, hdl, hm0, hmn⟩ := HOW.out f hfn
      obtain ⟨D, hD⟩ : ∃ D, D = own l f := ⟨_, rfl⟩
      rw [← hD] at hm oD hinj hdl hm0 hmn
      rw [← hm] at hinj hdl hm0 hmn
      have hgD := oD.lt gD rfl
      have x0 : wr.cell? ⟨gA, i * 2, none⟩ = some (.int .i64 (f : Int)) := (MM.out.cell HGA.out.1 HGA.out.2 _).trans y0
      have x1 : wr.cell? ⟨gA, i * 2 + 1, none⟩ = some (.slice (some ⟨gD, 0, none⟩) m c') := (MM.out.cell HGA.out.1 HGA.out.2 _).trans y1
      have al : Below wr.heap.size wr (wr.alloc (.cells #[.int .i64 (f : Int), .slice (some ⟨gD, 0, none⟩) m c'] 150)) := (Below.refl _ _).alloc (Nat.le_refl _) _
      have hsa : (wr.alloc (.cells #[.int .i64 (f : Int), .slice (some ⟨gD, 0, none⟩) m c'] 150)).heap.size = wr.heap.size + 1 := by simp
      have BX0 : Hid (Blk (wr.alloc (.cells #[.int .i64 (f : Int), .slice (some ⟨gD, 0, none⟩) m c'] 150)) wr.heap.size 150 #[.int .i64 (f : Int), .slice (some ⟨gD, 0, none⟩) m c']) := Blk.new _ _ _
      have OD0 : Hid ((wr.alloc (.cells #[.int .i64 (f : Int), .slice (some ⟨gD, 0, none⟩) m c'] 150)).ownsRow (gP + 1) 3 1 (.slice (some ⟨gD, 0, none⟩) m c') m (I64 (ofN D))) := own_below (own_mod oD MM.out fun k hk e => by have := (oD.lt k hk).1; omega) al
      have OP0 := Lib.hid (own_below OPl.out al)
      have OQ0 := Lib.hid (own_below OQ.out al)
      have HQB : Hid (∀ k, (Value.slice A q c).ownBlock = some k → w2.heap.size ≤ k ∧ k < wr.heap.size) := fun k hk => OQ.out.lt k hk
      have Z0 := Lib.hid (ZZ.out.trans (al.mono ZZ.out.size))
      have M0 := Lib.hid (MM.out.trans (Mod.none_ al (fun k => k = gP)) fun _ _ q => q)
      have hgr : gP < wr.heap.size := Nat.lt_of_lt_of_le hgP2 MM.out.size
      have hw2r := MM.out.size
      have HF := Lib.hid hf
      have HD := Lib.hid hD
      have HMD : Hid (m = D.length) := hm
      have HINJ := Lib.hid hinj
      have HDL := Lib.hid hdl
      have HL0 : Hid (pl.length = n) := HQ.out.2.2
      have b0 := BX0.out.cell 0
      have b1 := BX0.out.cell 1
      simp at b0 b1
      clear y0 y1 oD hf hm hD hinj hdl al OPl OQ ZZ MM
      go_wp2_with fail
      clear b0 b1 x0 x1
      generalize hwa : wr.alloc (.cells #[.int .i64 (f : Int), .slice (some ⟨gD, 0, none⟩) m c'] 150) = wa at *
      obtain ⟨gB, hgB⟩ : ∃ gB, gB = wr.heap.size := ⟨_, rfl⟩
      rw [← hgB] at BX0 hgr hw2r hsa HQB ⊢
      clear hwa hgB
      go_loopw [24] (fun x wr => ∃ (j : Nat) (pl : List Nat), j ≤ m ∧ x = .int .i64 (j : Int) ∧ Hid (pl.length = n ∧ ∀ q, q < j → sgL pl (sgL D q) = q) ∧ Hid (wr.ownsRow w.heap.size 3 1 (.slice (some ⟨gP, 0, none⟩) n n) n (I64 (ofN pl))) ∧ Hid (Mod (fun k => k = gP) wa wr) ∧ Hid (Below w.heap.size w wr)) (fun x _ => m - (intOf x).toNat)
      case atStart => exact ⟨0, pl, Nat.zero_le _, rfl, ⟨HL0.out, fun q hq => absurd hq (by omega)⟩, OP0, Mod.refl _ _, Z0⟩
      case round =>
        clear OP0 Z0
        obtain ⟨j, pl1, hj, rfl, HP, OP1, M1, Z1⟩ := hrel
        have OD1 : Hid (wr.ownsRow (gP + 1) 3 1 (.slice (some ⟨gD, 0, none⟩) m c') m (I64 (ofN D))) := own_mod OD0.out M1.out fun k hk e => by have := (OD0.out.lt k hk).1; omega
        by_cases hlj : j < m
        · have hdj : decide (j < m) = true := decide_eq_true hlj
          have cd := own_cellI OD1.out j hlj
          rw [ofN_get] at cd
          have hdn := HDL.out j hlj
          obtain ⟨d, hd⟩ : ∃ d, d = sgL D j := ⟨_, rfl⟩
          rw [show D.getD j 0 = d from hd.symm] at cd
          rw [← hd] at hdn
          have HDD := Lib.hid hd
          have fo := OP1.out.frozenAt d
          obtain ⟨q0, co⟩ : ∃ q0, wr.cell? ⟨gP, d, none⟩ = some (.int .i64 q0) := ⟨_, own_cellI OP1.out d hdn⟩
          have hdi : (d : Int) < (n : Int) := by omega
          have hji : (j : Int) < (m : Int) := by omega
          clear hd
          go_wp2_with fail
          go_roundw
          case rel =>
            refine ⟨j + 1, pl1.set d j, by omega, by go_num, ⟨by rw [List.length_set]; exact HP.out.1, fun q hq => ?_⟩, ?_, ?_, ?_⟩
            · show (pl1.set d j).getD (sgL D q) 0 = q
              rw [getDN_set _ _ _ _ (by rw [HP.out.1]; exact hdn)]
              by_cases e : q = j
              · rw [if_pos (by rw [e]; exact HDD.out.symm), e]
              · rw [if_neg (fun c => e (HINJ.out q j (by omega) hlj (by rw [c]; exact HDD.out)))]
                exact HP.out.2 q (by omega)
            · have := own_setI OP1.out d (j : Int)
              rw [ofN_setN] at this
              exact this
            · exact Mod.setCell (p := ⟨gP, d, none⟩) M1.out (fun _ => rfl) _
            · exact Z1.out.setCell (p := ⟨gP, d, none⟩) hgw _
          case measure => simp [intOf]; omega
        · obtain rfl : m = j := by omega
          have hdj : decide (m < m) = false := by simp
          have BX1 := Lib.hid (BX0.out.mod M1.out (by omega))
          have OQ1 := Lib.hid (own_mod OQ0.out M1.out fun k hk e => by have := (OQ0.out.lt k hk).1; omega)
          have M2 := Lib.hid (M0.out.trans M1.out fun _ _ q => q)
          have WK1 := Lib.hid (WK.out wr f D pl1 (some ⟨gD, 0, none⟩) (some ⟨gP, 0, none⟩) m c' n Z1.out hfn HD.out HMD.out (Rd.ofOwn OD1.out) (Rd.ofOwn OP1.out) (fun q hq => HP.out.2 q (by rw [HMD.out]; exact hq)))
          have b0 := BX1.out.cell 0
          have b1 := BX1.out.cell 1
          simp at b0 b1
          have hBl := BX1.out.lt
          clear M0 M1 OQ0 OD0 BX0
          go_wp2_with fail
          refine WK1.out.mono ?_
          rintro e w5 ⟨z, ⟨A5, c5, rfl, _, _, o5, b5⟩, hz, hzl⟩
          rw [ofN_len] at o5 ⊢
          obtain ⟨N, hN⟩ : ∃ N, N = z.length := ⟨_, rfl⟩
          rw [← hN] at o5 ⊢
          have hNn : N ≤ n := by
            have := HWL.out f hfn
            rw [← hz, List.length_map] at this; omega
          have HZ := Lib.hid hz
          have HZL := Lib.hid hzl
          have HNZ := Lib.hid hN
          have BX5 := Lib.hid (BX1.out.below b5)
          have OQ5 := Lib.hid (own_below OQ1.out b5)
          have OP5 := Lib.hid (own_below OP1.out b5)
          have OD5 := Lib.hid (own_below OD1.out b5)
          have O5 := Lib.hid o5
          have Z5 := Lib.hid (Z1.out.trans (b5.mono Z1.out.size))
          have M5 := Lib.hid (M2.out.trans (Mod.none_ b5 (fun k => k = gP)) fun _ _ q => q)
          have hB5 := BX5.out.lt
          have hPL := HP.out.1
          obtain ⟨s1, hs1⟩ : ∃ s, s = wr.heap.size := ⟨_, rfl⟩
          rw [← hs1] at O5 hBl
          have HPL : Hid (pl1.length = n) := hPL
          have HQ1 := Lib.hid HQ.out.1
          have HQ8 : Hid (q ≤ i * 131072) := by have := HQ.out.2.1; rw [← HQL.out] at this; exact this
          have F0 : Hid (∀ k, some k = (Value.slice A q c).ownBlock → w2.heap.size ≤ k ∧ k < gB) := fun k hk => HQB.out k hk.symm
          clear hz hzl hN b5 o5 BX1 OQ1 OP1 OD1 Z1 M2 hs1 hPL HP HQ HQB b0 b1 HL0 WK1
          go_wp2_with fail
          go_loopw [3, 39] (fun v x wr => ∃ (j : Nat) (A3 : Option Addr) (c3 : Nat) (Q3 : List Nat), j ≤ N ∧ v = .slice A3 Q3.length c3 ∧ x = .int .i64 (j : Int) ∧ Hid (Q3 = Q ++ (z.take j).map (sgL D)) ∧ Hid (wr.ownsRow w2.heap.size 3 1 (.slice A3 Q3.length c3) Q3.length (I64 (ofN Q3))) ∧ Hid (∀ k, (Value.slice A3 Q3.length c3).ownBlock = some k → some k = (Value.slice A q c).ownBlock ∨ w5.heap.size ≤ k) ∧ Hid (Mod (fun k => some k = (Value.slice A q c).ownBlock ∨ w5.heap.size ≤ k) w5 wr)) (fun _ x _ => N - (intOf x).toNat)
          case atStart => exact ⟨0, A, c, Q, Nat.zero_le _, by rw [HQL.out], rfl, by show _ = _; simp, by rw [← HQL.out]; exact OQ5, by show ∀ k, _; rw [← HQL.out]; exact fun k hk => .inl hk.symm, Mod.refl _ _⟩
          case round =>
            clear OQ5
            obtain ⟨j, A3, c3, Q3, hj, rfl, rfl, HQ3, OQ3, HF3, M3⟩ := hrel
            obtain ⟨q3, hq3⟩ : ∃ q, q = Q3.length := ⟨_, rfl⟩
            rw [← hq3] at OQ3 HF3 ⊢
            have HQ3L := Lib.hid hq3
            clear hq3
            by_cases hlj : j < N
            · have hdj : decide (j < N) = true := decide_eq_true hlj
              obtain ⟨gZ, rfl, hgZ, hgZ2⟩ := own_some O5.out (by omega)
              have nZ : ¬ (some gZ = (Value.slice A q c).ownBlock ∨ w5.heap.size ≤ gZ) := fun o => by
                rcases o with o | o
                · have := (F0.out _ o).2; omega
                · omega
              have nB : ¬ (some gB = (Value.slice A q c).ownBlock ∨ w5.heap.size ≤ gB) := fun o => by
                rcases o with o | o
                · have := (F0.out _ o).2; omega
                · omega
              have nD : ¬ (some gD = (Value.slice A q c).ownBlock ∨ w5.heap.size ≤ gD) := fun o => by
                rcases o with o | o
                · have := (F0.out _ o).1; have := hgD.2; omega
                · have := (OD5.out.lt gD rfl).2; omega
              have cz : wr.cell? ⟨gZ, j, none⟩ = some (.int .i64 ((ofN z).getD j 0)) := (M3.out.cell hgZ2 nZ j).trans (own_cellI O5.out j hlj)
              rw [ofN_get] at cz
              obtain ⟨y, hy⟩ : ∃ y, y = z.getD j 0 := ⟨_, rfl⟩
              rw [← hy] at cz
              have hym : y < m := by
                rw [HMD.out, hy]
                have hjz : j < z.length := by rw [← HNZ.out]; exact hlj
                exact HZL.out _ (by rw [List.getD_eq_getElem?_getD, List.getElem?_eq_getElem hjz]; exact List.getElem_mem _)
              have b1 := (BX5.out.mod M3.out nB).cell 1
              simp at b1
              have cy : wr.cell? ⟨gD, y, none⟩ = some (.int .i64 ((ofN D).getD y 0)) := (M3.out.cell (OD5.out.lt gD rfl).2 nD y).trans (own_cellI OD5.out y hym)
              rw [ofN_get] at cy
              obtain ⟨x, hx⟩ : ∃ x, x = D.getD y 0 := ⟨_, rfl⟩
              rw [← hx] at cy
              have al : Below wr.heap.size wr (wr.alloc (.cells #[.int .i64 (x : Int)] 3)) := (Below.refl _ _).alloc (Nat.le_refl _) _
              have OQ4 := own_below OQ3.out al
              have rd := Rd.new wr 3 #[.int .i64 (x : Int)] 1 [.int .i64 (x : Int)] rfl rfl
              have hq3b : q3 ≤ 131074 * 131072 := by
                rw [HQ3L.out, HQ3.out, List.length_append, List.length_map, List.length_take, ← HQL.out]
                have := HQ8.out
                omega
              have hw5r := M3.out.size
              obtain ⟨v', w6, hrun, hnew, hgr', hob⟩ := run_append_rd (P := Tryz.prog) (wr.alloc (.cells #[.int .i64 (x : Int)] 3)) w2.heap.size 29 29 3 i0 (.int .i64 0) 8 Tryz.underlying29 hi0 hz0 hz1 hz2 rfl _ q3 _ OQ4 (wr.heap.size + 1) (some ⟨wr.heap.size, 0, none⟩) 1 1 _ rd (by simp [Value.oneCell']) (by simp only [maxLen]; omega) (by omega) (by simp; have := M5.out.size; omega)
              obtain ⟨A6, c6, rfl, _, _⟩ := own_form hnew
              have M6 : Hid (Mod (fun k => some k = (Value.slice A q c).ownBlock ∨ w5.heap.size ≤ k) w5 w6) := (M3.out.trans (Mod.none_ al (fun _ => False)) fun _ _ q => q.elim).trans (Mod.ofGrown hgr') fun k _ hk => HF3.out k hk.symm
              have OQ6 : Hid (w6.ownsRow w2.heap.size 3 1 (.slice A6 (q3 + 1) c6) (q3 + 1) (I64 (ofN (Q3 ++ [x])))) := by
                show World.ownsRow _ _ _ _ _ _ _
                rw [ofN_snocR]; exact hnew
              have HF6 : Hid (∀ k, (Value.slice A6 (q3 + 1) c6).ownBlock = some k → some k = (Value.slice A q c).ownBlock ∨ w5.heap.size ≤ k) := fun k hk => by
                rcases hob with o | o
                · rw [hk] at o; exact HF3.out k o.symm
                · rw [hk] at o
                  have := Option.some.inj o
                  simp at this
                  right; omega
              have HL1 : Hid ((Q3 ++ [x]).length = q3 + 1) := by show _ = _; rw [List.length_append, ← HQ3L.out]; rfl
              have HQ6 : Hid (Q3 ++ [x] = Q ++ (z.take (j + 1)).map (sgL D)) := by
                show _ = _
                rw [take_mapS _ _ (by rw [← HNZ.out]; exact hlj), ← List.append_assoc, ← HQ3.out, hx, hy]
                rfl
              have hyi : (y : Int) < (m : Int) := by omega
              have hji : (j : Int) < (N : Int) := by omega
              clear hy hx al OQ4 rd hq3b hnew hgr' hob nZ nB nD OQ3 HF3 M3
              go_wp2_with (first
                | (at_builtin; go_must (refine wpList_append_runR rfl _ _ _ rfl _ _ _ _ rfl rfl hrun ?_)))
              go_roundw
              case rel => exact ⟨j + 1, A6, c6, Q3 ++ [x], by omega, by rw [HL1.out], by go_num, HQ6, by rw [HL1.out]; exact OQ6, by rw [HL1.out]; exact HF6, M6⟩
              case measure => simp [intOf]; omega
            · obtain rfl : N = j := by omega
              have hdj : decide (N < N) = false := by simp
              have HQ9 : Hid (Q3 = ((starts l r).take (i + 1)).flatMap (wlk l)) := by
                show _ = _
                rw [take_flat _ _ (by rw [← HKS.out]; exact hlt), ← HF.out, ← HZ.out, ← HQ1.out, HQ3.out]
                rw [HNZ.out, List.take_length]
              have HQ9L : Hid (Q3.length ≤ (i + 1) * 131072) := by
                show _ ≤ _
                rw [HQ3.out, List.length_append, List.length_map, List.length_take, ← HQL.out]
                have := HQ8.out
                omega
              have nP : ¬ (some gP = (Value.slice A q c).ownBlock ∨ w5.heap.size ≤ gP) := fun o => by
                rcases o with o | o
                · have := (F0.out _ o).1; omega
                · omega
              have OP9 := Lib.hid (own_mod OP5.out M3.out fun k hk e => by
                have : gP = k := by simpa [Value.ownBlock] using hk
                rw [← this] at e; exact nP e)
              have hw25 := M5.out.size
              have hw5w := Z5.out.size
              have Z9 := Lib.hid (Z5.out.trans (M3.out.belowB hw5w fun k hk o => by
                rcases o with o | o
                · have := (F0.out _ o).1; omega
                · omega))
              have M9 := Lib.hid (M5.out.trans M3.out fun k hk o => by
                rcases o with o | o
                · have := (F0.out _ o).1; omega
                · omega)
              clear nP OP5 M3 M5 Z5 HQ3 BX5 OD5 O5
              go_wp2_with fail
              go_roundw
              case rel => exact ⟨i + 1, A3, c3, Q3, pl1, by omega, by rw [HQ3L.out], by go_num, ⟨HQ9.out, HQ9L.out, HPL.out⟩, OP9, by rw [← HQ3L.out]; exact OQ3, Z9, M9⟩
              case measure => simp [intOf]; omega
    · obtain rfl : i = K := by omega
      have hdk : decide (i < i) = false := by simp
      have HQF : Hid (Q = (starts l r).flatMap (wlk l)) := by
        have := HQ.out.1
        rw [HKS.out, List.take_length] at this
        exact this
      go_wp2_with fail
      go_ret
      refine NewI64.mk rfl ?_ ZZ.out
      have := OQ.out.base_le' (show w.heap.size ≤ w2.heap.size by omega)
      rw [← HQF.out, ofN_len, ← HQL.out]
      exact this
end Go.Proofs.YtgcbdoljapnecaaGreat
namespace Go.Proofs.YtgcbdoljapnecaaGreat
set_option maxRecDepth 20000
open Go.RowKit
set_option linter.unusedVariables false
set_option linter.unusedSimpArgs false
/-- How many of the first k darts are of sort s. -/
noncomputable def ofS (O : List Nat) (s k : Nat) : Nat := num (fun x => O.getD x 0 = s) k
/-- How many are of a sort ahead of s. -/
noncomputable def ahS (O : List Nat) (s n : Nat) : Nat := num (fun x => O.getD x 0 < s) n
theorem ahS_next (O : List Nat) (s n : Nat) : ahS O (s + 1) n = ahS O s n + ofS O s n := by
  unfold ahS ofS
  rw [cnum_or (P := fun x => O.getD x 0 < s) (Q := fun x => O.getD x 0 = s) (fun e h1 h2 => by omega)]
  exact num_congr fun d _ => by omega
theorem ahS_le (O : List Nat) (s n : Nat) : ahS O s n ≤ n := num_le _ _
theorem ahS_mono (O : List Nat) (n : Nat) {s t : Nat} (h : s ≤ t) : ahS O s n ≤ ahS O t n := by
  induction t with
  | zero => obtain rfl : s = 0 := by omega
            exact Nat.le_refl _
  | succ t ih =>
    by_cases e : s = t + 1
    · rw [e]; exact Nat.le_refl _
    · rw [ahS_next]; have := ih (by omega); omega
theorem ofS_next (O : List Nat) (s k : Nat) : (O.getD k 0 = s → ofS O s (k + 1) = ofS O s k + 1) ∧ (O.getD k 0 ≠ s → ofS O s (k + 1) = ofS O s k) := num_next (fun x => O.getD x 0 = s) k
theorem ofS_mono (O : List Nat) (s : Nat) {j k : Nat} (h : j ≤ k) : ofS O s j ≤ ofS O s k := by
  induction k with
  | zero => obtain rfl : j = 0 := by omega
            exact Nat.le_refl _
  | succ k ih =>
    by_cases e : j = k + 1
    · rw [e]; exact Nat.le_refl _
    · have := ih (by omega)
      by_cases c : O.getD k 0 = s
      · rw [(ofS_next O s k).1 c]; omega
      · rw [(ofS_next O s k).2 c]; omega
theorem ofS_lt (O : List Nat) {x k : Nat} (h : x < k) : ofS O (O.getD x 0) x < ofS O (O.getD x 0) k := by
  have := ofS_mono O (O.getD x 0) (show x + 1 ≤ k by omega)
  rw [(ofS_next O _ x).1 rfl] at this
  omega
/-- The place of a dart when all are laid sort by sort. -/
noncomputable def plS (O : List Nat) (n d : Nat) : Nat := ahS O (O.getD d 0) n + ofS O (O.getD d 0) d
theorem plS_in (O : List Nat) {n d : Nat} (hd : d < n) : ahS O (O.getD d 0) n ≤ plS O n d ∧ plS O n d < ahS O (O.getD d 0) n + ofS O (O.getD d 0) n := by
  have := ofS_lt O hd
  unfold plS
  omega
theorem plS_lt (O : List Nat) {n d : Nat} (hd : d < n) : plS O n d < n := by
  have h1 := (plS_in O hd).2
  have h2 := ahS_le O (O.getD d 0 + 1) n
  rw [ahS_next] at h2
  omega
theorem plS_sort (O : List Nat) {n d s : Nat} (hd : d < n) (h1 : ahS O s n ≤ plS O n d) (h2 : plS O n d < ahS O s n + ofS O s n) : O.getD d 0 = s := by
  have a := plS_in O hd
  rcases Nat.lt_trichotomy (O.getD d 0) s with h | h | h
  · have := ahS_mono O n (show O.getD d 0 + 1 ≤ s by omega)
    rw [ahS_next] at this
    omega
  · exact h
  · have := ahS_mono O n (show s + 1 ≤ O.getD d 0 by omega)
    rw [ahS_next] at this
    omega
theorem plS_inj (O : List Nat) {n d e : Nat} (hd : d < n) (he : e < n) (h : plS O n d = plS O n e) : d = e := by
  have a := plS_in O he
  have hs := plS_sort O hd (by rw [h]; exact a.1) (by rw [h]; exact a.2)
  unfold plS at h
  rw [hs] at h
  rcases Nat.lt_trichotomy d e with c | c | c
  · have := ofS_lt O (x := d) (k := e) c
    rw [hs] at this; omega
  · exact c
  · have := ofS_lt O (x := e) (k := d) c
    omega
/-- Laid so the darts are sorted. -/
theorem Srt.start {n K : Nat} {D P O F Z : List Nat} (hD : D.length = n) (hP : P.length = n) (hO : O.length = n) (hF : F.length = K) (hZ : Z.length = K)
    (ho : ∀ d, d < n → O.getD d 0 < K) (hz : ∀ s, s < K → Z.getD s 0 = ofS O s n ∧ 0 < Z.getD s 0) (hf : ∀ s, s < K → F.getD s 0 = ahS O s n)
    (hp : ∀ d, d < n → P.getD d 0 = plS O n d) (hd : ∀ d, d < n → D.getD (plS O n d) 0 = d) : Srt n D P O F Z := by
  have sur := inj_surj n (plS O n) (fun i hi => plS_lt O hi) (fun i j hi hj e => plS_inj O hi hj e)
  have dlt : ∀ p, p < n → D.getD p 0 < n := fun p hp' => by
    obtain ⟨x, hx, rfl⟩ := sur p hp'
    rw [hd x hx]; exact hx
  refine ⟨⟨by omega, fun i hi => ?_, fun i hi => ?_, fun i hi => ?_, fun i hi => ?_⟩, hD, hO, by omega, fun d hd' => by rw [hF]; exact ho d hd', fun s hs => ?_, fun s hs => (hz s (by omega)).2, fun p s hp' hs => ?_⟩
  · rw [hD] at hi ⊢; exact dlt i hi
  · rw [hD] at hi ⊢; rw [hp i hi]; exact plS_lt O hi
  · rw [hD] at hi
    obtain ⟨x, hx, rfl⟩ := sur i hi
    rw [hd x hx, hp x hx]
  · rw [hD] at hi
    rw [hp i hi, hd i hi]
  · rw [hf s (by omega), (hz s (by omega)).1, ← ahS_next]; exact ahS_le _ _ _
  · obtain ⟨x, hx, rfl⟩ := sur p hp'
    rw [hd x hx, hf s (by omega), (hz s (by omega)).1]
    exact ⟨fun c => by rw [← c]; exact plS_in O hx, fun c => plS_sort O hx c.1 c.2⟩
end Go.Proofs.YtgcbdoljapnecaaGreat
namespace Go.Proofs.YtgcbdoljapnecaaGreat
set_option maxRecDepth 100000
open Go.RowKit
set_option linter.unusedVariables false
set_option linter.unusedSimpArgs false
end Go.Proofs.YtgcbdoljapnecaaGreat
