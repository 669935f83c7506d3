/- canon's parts, walked. from, look, next: a map that is walked. -/
import Derived.Test.YtgcbdoljapnecaaGreatZg11
import Derived.Deep.DeepCutAuto
import Derived.Deep.RegionHeld3
import Derived.Test.YtgcbdoljapnecaaGreatZg6
import Derived.Test.YtgcbdoljapnecaaGreatZENam
import Derived.Deep.RegionWith
namespace Go.Proofs.YtgcbdoljapnecaaGreat
set_option maxRecDepth 100000
open Go.RowKit
set_option linter.unusedVariables false
set_option linter.unusedSimpArgs false
theorem own_someS {w : World} {base : Nat} {e : TypeId} {size : Nat} {A : Option Addr} {n m c : Nat} {xs : List Value} (h : w.ownsRow base e size (.slice A m c) n xs) (hn : 0 < n) : ∃ g, A = some ⟨g, 0, none⟩ ∧ base ≤ g ∧ g < w.heap.size := by
  rcases h.2 with ⟨_, h0⟩ | ⟨g, cap, cur, hv, hb, hg, _⟩
  · omega
  · simp only [Value.slice.injEq] at hv
    exact ⟨g, hv.1, hb, (Array.getElem?_eq_some_iff.1 hg).1⟩
set_option maxHeartbeats 8000000 in
theorem cparts_p (g : Nat) (l b : List Nat) (r : Nat) (lone : Int) (w : World) (h : MapAt w g l b (r : Int) lone) (hi : Inv l b) (hr : r < l.length) :
    Calls Tryz.prog 138 #[.pointer (some ⟨g, 0, none⟩)] w (PartsPost w l r) := by
  have EN := Lib.hid (enames_p g l b (r : Int) lone w h)
  have HM : Hid (∀ w', Below w.heap.size w w' → MapAt w' g l b (r : Int) lone) := fun w' m => h.below m
  have hle := h.2.1
  have HI := Lib.hid hi
  have HEV : Hid (l.length % 2 = 0) := h.1.1
  obtain ⟨i0, hi0, hz0, hz1, hz2⟩ := info_parts info_cpart
  obtain ⟨n, hn⟩ : ∃ n, n = l.length := ⟨_, rfl⟩
  have hel : (ofN (enames l)).length = n := by rw [ofN_len, enames_len, hn]
  rw [← hn] at hle hr
  have HN := Lib.hid hn
  clear h hi hn
  go_enter Tryz.func138, Tryz.ntmps138
  go_wp2_with fail
  refine EN.out.mono ?_
  rintro e w1 ⟨A1, c1, rfl, _, _, o1, b1⟩
  rw [hel] at o1 ⊢
  have B1 := Lib.hid b1
  have O1 := Lib.hid o1
  have PR0 : Hid (PRow w1 w.heap.size none 0 []) := ⟨World.ownsRow_nil _ _ _ _, fun j hj => absurd hj (by simp), fun i j hi => absurd hi (by simp)⟩
  have PK0 : Hid (PK l 0 []) := ⟨by simp [LL], fun j hj => absurd hj (by simp)⟩
  clear EN hel b1 o1
  go_wp2_with fail
  go_loopw [3, 13] (fun v x wr => ∃ (k : Nat) (A : Option Addr) (c : Nat) (ps : List PEl), k ≤ n ∧ ps.length ≤ k ∧ v = .slice A ps.length c ∧ x = .int .i64 (k : Int) ∧ Hid (PK l k ps) ∧ Hid (PRow wr w.heap.size A c ps) ∧ Hid (wr.ownsRow w.heap.size 3 1 (.slice A1 n c1) n (I64 (ofN (enames l)))) ∧
    Hid (∀ j, j < ps.length → ∀ q, (Value.slice A1 n c1).ownBlock = some q → (ps.getD j pE0).2.1.ownBlock ≠ some q) ∧ Hid (Below w.heap.size w wr)) (fun _ x _ => n - (intOf x).toNat)
  case atStart => exact ⟨0, none, 0, [], Nat.zero_le _, by simp, rfl, rfl, PK0, PR0, O1, fun j hj => absurd hj (by simp), B1⟩
  case round =>
    clear PK0 PR0 O1 B1
    obtain ⟨k, A, c, ps, hk, hpl, rfl, rfl, PKk, PR, ON, SEP, BB⟩ := hrel
    by_cases hlt : k < n
    · have hdk : decide (k < n) = true := decide_eq_true hlt
      obtain ⟨gN, rfl, _⟩ := own_some ON.out (by omega)
      have cN := own_cellI ON.out k hlt
      rw [ofN_get, enames_get l (by rw [← HN.out]; exact hlt)] at cN
      obtain ⟨q, hq⟩ : ∃ q, q = pq l k := ⟨_, rfl⟩
      rw [← hq] at cN
      have HQ := Lib.hid hq
      have IS := Lib.hid (PKk.out.is_ HI.out (by have := HEV.out; exact this) (show k < l.length by rw [← HN.out]; exact hlt))
      obtain ⟨K, hK⟩ : ∃ K, K = ps.length := ⟨_, rfl⟩
      rw [← hK] at hpl ⊢
      have HK := Lib.hid hK
      clear hq hK
      have FIN : Hid (∀ (ps' : List PEl) (c' : Nat) (g' : Nat) (W : World), ps'.map (fun p => p.1) = LL l (k + 1) → (∀ j, j < ps'.length → (ps'.getD j pE0).2.2 = DJ l j k) → q < ps'.length → PRow W w.heap.size (some ⟨g', 0, none⟩) c' ps' → W.ownsRow w.heap.size 3 1 (.slice (some ⟨gN, 0, none⟩) n c1) n (I64 (ofN (enames l))) → (∀ j, j < ps'.length → ∀ x, (Value.slice (some ⟨gN, 0, none⟩) n c1).ownBlock = some x → (ps'.getD j pE0).2.1.ownBlock ≠ some x) → Below w.heap.size w W →
          ∃ (nd : Nat) (A5 : Option Addr) (cj : Nat) (A6 : Option Addr) (c6 : Nat) (W2 W3 : World), nd ≤ 131072 ∧ W.cell? ⟨g', q * 2 + 1, none⟩ = some (.slice A5 nd cj) ∧ (Builtin.append_ #[29, 29] 29 #[.slice A5 nd cj, .slice (some ⟨W.heap.size, 0, none⟩) 1 1]).run Tryz.prog (W.alloc (.cells #[.int .i64 (k : Int)] 3)) = .ok (.slice A6 (nd + 1) c6) W2 ∧ W2.cell? ⟨g', q * 2 + 1, none⟩ = some (.slice A5 nd cj) ∧ W2.frozen? ⟨g', q * 2 + 1, none⟩ = false ∧ W3 = W2.setCell ⟨g', q * 2 + 1, none⟩ (.slice A6 (nd + 1) c6) ∧
            ∃ ps2 : List PEl, ps2.length = ps'.length ∧ PK l (k + 1) ps2 ∧ PRow W3 w.heap.size (some ⟨g', 0, none⟩) c' ps2 ∧ W3.ownsRow w.heap.size 3 1 (.slice (some ⟨gN, 0, none⟩) n c1) n (I64 (ofN (enames l))) ∧ (∀ j, j < ps2.length → ∀ x, (Value.slice (some ⟨gN, 0, none⟩) n c1).ownBlock = some x → (ps2.getD j pE0).2.1.ownBlock ≠ some x) ∧ Below w.heap.size w W3) := fun ps' c' g' W hf hd hq PR' ON' SEP' B' => by
        have dl : (ps'.getD q pE0).2.2.length ≤ 131072 := by
          rw [hd q hq]; unfold DJ
          have := List.length_filter_le (fun d => decide (pq l d = q)) (List.range k)
          rw [List.length_range] at this; omega
        obtain ⟨A5, cj, A6, c6, W2, e5, hrun, hcell, hfz, PR6, B6, M6, N6⟩ := PR'.grow B'.size (j := q) (d := k) hq (by omega)
        have c0 := PR'.own.cellAt (q * 2 + 1) (by omega)
        rw [(pcs_get ps' q hq).2, e5] at c0
        refine ⟨_, A5, cj, A6, c6, W2, _, dl, c0, hrun, hcell, hfz, rfl, _, by rw [List.length_set], PK.put hf hd rfl HQ.out.symm hq _, PR6, own_mod ON' M6 fun x hx e => ?_, fun j hj x hx => ?_, B'.trans B6⟩
        · rcases e with e | e
          · exact own_own_neP ON' PR'.own (by decide) hx (by rw [e]; simp [Value.ownBlock])
          · exact SEP' q hq x hx e.symm
        · rw [List.length_set] at hj
          rw [getD_setR _ _ _ _ _ hq]
          by_cases e : j = q
          · rw [if_pos e]
            intro c
            rcases N6 x c with n1 | n1
            · exact SEP' q hq x hx n1
            · have := (ON'.lt x hx).2; omega
          · rw [if_neg e]; exact SEP' j hj x hx
      by_cases hls : Least (part l) k
      · have hqK : q = K := by rw [HQ.out, HK.out]; exact IS.out.1 hls
        subst hqK
        have hal : Below wr.heap.size wr (wr.alloc (.cells #[.int .i64 (k : Int), .slice none 0 0] 150)) := (Below.refl _ _).alloc (Nat.le_refl _) _
        have o2 := own_below PR.out.own hal
        rw [← HK.out] at o2
        have nw : ∀ j u, [Value.int .i64 (k : Int), .slice none 0 0][j]? = some u → (wr.alloc (.cells #[.int .i64 (k : Int), .slice none 0 0] 150)).cell? ((⟨wr.heap.size, 0, none⟩ : Addr).add j) = some u := fun j u hu => by
          rw [Addr.add_lit, Nat.zero_add, (Blk.new wr 150 #[.int .i64 (k : Int), .slice none 0 0]).cell]
          simpa using hu
        obtain ⟨v', w2, hrun, hnew, hgr, _, hob⟩ := run_append_own_at (P := Tryz.prog) (wr.alloc (.cells #[.int .i64 (k : Int), .slice none 0 0] 150)) w.heap.size 147 147 150 i0 (.agg #[.int .i64 0, .slice none 0 0]) 2 32 Tryz.underlying147 hi0 hz0 hz1 hz2 rfl (by omega) _ q _ o2 ⟨wr.heap.size, 0, none⟩ 1 1 [.int .i64 (k : Int), .slice none 0 0] rfl nw (by intro u hu; simp at hu; rcases hu with rfl | rfl <;> rfl) (by simp only [maxLen]; omega) (by omega) (by have := BB.out.size; simp; omega)
        obtain ⟨A2, c2, rfl, _, _⟩ := own_form hnew
        obtain ⟨g2, rfl, _⟩ := own_someS hnew (by omega)
        have MG := Mod.ofGrown hgr
        have PR2 : PRow w2 w.heap.size (some ⟨g2, 0, none⟩) c2 (ps ++ [((k, .slice none 0 0, []) : PEl)]) := PR.out.snoc hal (by rw [← HK.out]; exact hnew) (by rw [← HK.out]; exact hgr)
        have ON2 := own_mod (own_below ON.out hal) MG fun x hx e => own_own_neP (own_below ON.out hal) o2 (by decide) hx e.symm
        have BB2 := (BB.out.trans (hal.mono BB.out.size)).trans (MG.belowB (by have := BB.out.size; simp; omega) fun i hi e => by have := (o2.lt i e.symm).1; omega)
        have hl9 : (ps ++ [((k, .slice none 0 0, []) : PEl)]).length = q + 1 := by rw [List.length_append, ← HK.out]; rfl
        have SEP2 : ∀ j, j < (ps ++ [((k, .slice none 0 0, []) : PEl)]).length → ∀ x, (Value.slice (some ⟨gN, 0, none⟩) n c1).ownBlock = some x → ((ps ++ [((k, .slice none 0 0, []) : PEl)]).getD j pE0).2.1.ownBlock ≠ some x := fun j hj x hx => by
          by_cases e : j < ps.length
          · rw [List.getD_eq_getElem?_getD, List.getElem?_append_left e, ← List.getD_eq_getElem?_getD]; exact SEP.out j e x hx
          · rw [hl9] at hj
            obtain rfl : j = ps.length := by have := HK.out; omega
            simp [List.getD_eq_getElem?_getD, Value.ownBlock]
        obtain ⟨nd, A5, cj, A6, c6, W2, W3, hnd, c0, hrun2, hc2, hf2, hW3, ps2, l2, pk2, pr2, on2, sep2, bb2⟩ := FIN.out (ps ++ [((k, .slice none 0 0, []) : PEl)]) c2 g2 w2 (by rw [List.map_append, PKk.out.fst, (LL_next l k).1 hls]; rfl) (PKk.out.new HI.out HEV.out (by rw [← HN.out]; exact hlt) hls) (by rw [hl9]; omega) PR2 ON2 SEP2 BB2
        have PK9 := Lib.hid pk2
        have PR9 := Lib.hid pr2
        have ON9 := Lib.hid on2
        have SEP9 := Lib.hid sep2
        have BB9 := Lib.hid bb2
        have HL9 : Hid (ps2.length = q + 1) := by show _ = _; rw [l2, hl9]
        have hqi : (q : Int) < (q : Int) + 1 := by omega
        have hnk : n ≤ 131072 := hle
        clear PR2 ON2 BB2 SEP2 hl9 pk2 pr2 on2 sep2 bb2 l2 FIN PKk PR ON SEP BB MG hnew hgr hob nw hal o2 hls IS
        go_upto_region 8 with (first
          | (at_builtin; go_must (refine wpList_append_runR rfl _ _ _ rfl _ _ _ _ rfl rfl hrun ?_)))
        go_wp2_with (first
          | (at_builtin; go_must (refine wpList_append_runR rfl _ _ _ rfl _ _ _ _ rfl rfl hrun2 ?_)))
        go_roundw
        case rel => exact ⟨k + 1, some ⟨g2, 0, none⟩, c2, ps2, by omega, by rw [HL9.out]; omega, by rw [HL9.out], by go_num, PK9, by rw [← hW3]; exact PR9, by rw [← hW3]; exact ON9, SEP9, by rw [← hW3]; exact BB9⟩
        case measure => simp [intOf]; omega
      · have hqK : q < K := by rw [HQ.out, HK.out]; exact IS.out.2 hls
        have dq : ((q : Int) == (K : Int)) = false := by rw [beq_eq_false_iff_ne]; omega
        obtain ⟨g2, rfl, _⟩ := own_someS PR.out.own (by rw [← HK.out]; omega)
        obtain ⟨nd, A5, cj, A6, c6, W2, W3, hnd, c0, hrun2, hc2, hf2, hW3, ps2, l2, pk2, pr2, on2, sep2, bb2⟩ := FIN.out ps c g2 wr (by rw [PKk.out.fst, (LL_next l k).2 hls]) PKk.out.dar (by rw [← HK.out]; exact hqK) PR.out ON.out SEP.out BB.out
        have PK9 := Lib.hid pk2
        have PR9 := Lib.hid pr2
        have ON9 := Lib.hid on2
        have SEP9 := Lib.hid sep2
        have BB9 := Lib.hid bb2
        have HL9 : Hid (ps2.length = K) := by show _ = _; rw [l2, HK.out]
        have hqi : (q : Int) < (K : Int) := by omega
        clear pk2 pr2 on2 sep2 bb2 l2 FIN PKk PR ON SEP BB hls IS
        go_wp2_with (first
          | (at_builtin; go_must (refine wpList_append_runR rfl _ _ _ rfl _ _ _ _ rfl rfl hrun2 ?_)))
        go_roundw
        case rel => exact ⟨k + 1, some ⟨g2, 0, none⟩, c, ps2, by omega, by rw [HL9.out]; omega, by rw [HL9.out], by go_num, PK9, by rw [← hW3]; exact PR9, by rw [← hW3]; exact ON9, SEP9, by rw [← hW3]; exact BB9⟩
        case measure => simp [intOf]; omega
    · obtain rfl : n = k := by omega
      have hdk : decide (n < n) = false := by simp
      have PKn : PK l l.length ps := by have := PKk.out; rw [HN.out] at this; exact this
      obtain ⟨q, hq⟩ : ∃ q, q = pq l r := ⟨_, rfl⟩
      have PD := Lib.hid (fun v => PKn.done HI.out HEV.out (r := r) (by rw [← HN.out]; exact hr) hq v)
      have hqL : q < ps.length := (PD.out (.bool false)).1
      obtain ⟨K, hK⟩ : ∃ K, ps.length = K + 1 := ⟨ps.length - 1, by omega⟩
      obtain ⟨gA, rfl, hgA, hgA2⟩ := own_someS PR.out.own (by omega)
      obtain ⟨gN, rfl, _⟩ := own_some ON.out (by omega)
      have cN := own_cellI ON.out r hr
      rw [ofN_get, enames_get l (by rw [← HN.out]; exact hr), ← hq] at cN
      have cF := PR.out.own.cellAt (q * 2) (by omega)
      have cV := PR.out.own.cellAt (q * 2 + 1) (by omega)
      rw [(pcs_get ps q hqL).1] at cF
      rw [(pcs_get ps q hqL).2] at cV
      obtain ⟨⟨Av, cv, ev⟩, _⟩ := PR.out.inn q hqL
      obtain ⟨f, hf⟩ : ∃ f, f = (ps.getD q pE0).1 := ⟨_, rfl⟩
      obtain ⟨nd, hnd⟩ : ∃ nd, nd = (ps.getD q pE0).2.2.length := ⟨_, rfl⟩
      rw [← hnd] at ev
      rw [← hf] at cF
      rw [ev] at cV
      have HVV := Lib.hid ev
      have HND := Lib.hid hnd
      have HNE : Hid (∀ j, j < ps.length → (ps.getD j pE0).2.1.ownBlock ≠ some gA) := fun j hj c => own_own_neP (PR.out.inn j hj).2 PR.out.own (by decide) c (by simp [Value.ownBlock])
      have INN : Hid (∀ W, Below wr.heap.size wr W → ∀ j, j < ps.length → W.ownsRow w.heap.size 3 1 (ps.getD j pE0).2.1 (ps.getD j pE0).2.2.length (I64 (ofN (ps.getD j pE0).2.2))) := fun W m j hj => own_below (PR.out.inn j hj).2 m
      have FORM : Hid (∀ j, j < ps.length → ∃ A' c', (ps.getD j pE0).2.1 = .slice A' (ps.getD j pE0).2.2.length c') := fun j hj => (PR.out.inn j hj).1
      have OUT : Hid (∀ W, Below wr.heap.size wr W → W.ownsRow w.heap.size 150 2 (.slice (some ⟨gA, 0, none⟩) (K + 1) c) (K + 1) (pcs ps)) := fun W m => by
        have := own_below PR.out.own m
        rwa [hK] at this
      have ONE := Lib.hid PR.out.one
      have RT : Hid (∀ W, Below wr.heap.size wr W → Calls Tryz.prog 14 #[.pointer (some ⟨g, 0, none⟩)] W fun e w' => e = .returned (.int .i64 (r : Int)) ∧ W = w') := fun W m => root_p g l b (r : Int) lone W (HM.out W (BB.out.trans (m.mono BB.out.size)))
      have hqn : q ≤ 131072 := by omega
      have wq : IntKind.i64.wrap ((q : Int) + 1) = (q : Int) + 1 := by simp [IntKind.wrap, IntKind.signed, IntKind.bits]; omega
      have hKn : K ≤ 131072 := by omega
      have DEL : Hid (∀ W, Below wr.heap.size wr W → Calls Tryz.prog 141 #[.slice (some ⟨gA, 0, none⟩) (K + 1) c, .int .i64 (q : Int), .int .i64 ((q : Int) + 1)] W (DelPost W w.heap.size gA K c (pcs (ps.take q ++ ps.drop (q + 1))))) := fun W m => by
        have := cdelete_p W w.heap.size gA K c q (pcs ps) (OUT.out W m) (by omega) ONE.out (by omega)
        rw [pcs_take, show 2 * q + 2 = 2 * (q + 1) by omega, pcs_drop, ← pcs_app] at this
        have e : (((q + 1 : Nat) : Int)) = (q : Int) + 1 := by omega
        rwa [e] at this
      have ONE2 : Hid (∀ x ∈ pcs (ps.take q ++ ps.drop (q + 1)), x.oneCell' = true) := fun x hx => by
        rw [pcs_app] at hx
        rcases List.mem_append.1 hx with h1 | h1
        · rw [← pcs_take] at h1; exact ONE.out x (List.mem_of_mem_take h1)
        · rw [← pcs_drop] at h1; exact ONE.out x (List.mem_of_mem_drop h1)
      have INS : Hid (∀ (W : World) (vb : Nat), W.ownsRow w.heap.size 150 2 (.slice (some ⟨gA, 0, none⟩) K c) K (pcs (ps.take q ++ ps.drop (q + 1))) → Blk W vb 150 #[.int .i64 (r : Int), .slice Av nd cv] → vb ≠ gA → Calls Tryz.prog 140 #[.slice (some ⟨gA, 0, none⟩) K c, .int .i64 0, .slice (some ⟨vb, 0, none⟩) 1 1] W (DelPost W w.heap.size gA (K + 1) c (pcs ((r, .slice Av nd cv, (ps.getD q pE0).2.2) :: (ps.take q ++ ps.drop (q + 1)))))) := fun W vb ho hb hne =>
        cinsert_p W w.heap.size gA K c vb _ _ _ ho (by have := PR.out.own; rw [hK] at this; obtain ⟨_, _, _, h3, _⟩ := own_open this; exact h3) ONE2.out (by omega) hb rfl rfl hne
      have HK := Lib.hid hK
      have HQL := Lib.hid hqL
      have BW : Hid (Below w.heap.size w wr) := BB.out
      have hri : (r : Int) < (n : Int) := by omega
      have hqi : (q : Int) < (K : Int) + 1 := by omega
      have hk0 : ((K : Int) + 1 == 0) = false := by rw [beq_eq_false_iff_ne]; omega
      have Z0 := Below.refl wr.heap.size wr
      have hgX : gA < wr.heap.size := hgA2
      rw [hK]
      clear PKk PKn PR ON SEP BB hf ev hnd hq hK hpl hk hlt hle HEV HI HN HM
      go_wp2_with fail
      refine (RT.out _ Z0).mono ?_
      rintro e w' ⟨rfl, rfl⟩
      have Z1 : Hid (Below wr.heap.size wr (wr.alloc (.cells #[.int .i64 (f : Int), .slice Av nd cv] 150))) := Z0.alloc Z0.size _
      have bx1 := Blk.new wr 150 #[.int .i64 (f : Int), .slice Av nd cv]
      have x0 := bx1.cell 0
      have fx0 := bx1.frozen 0
      simp at x0
      go_wp2_with fail
      refine (RT.out _ Z1.out).mono ?_
      rintro e w' ⟨rfl, rfl⟩
      clear bx1 x0 fx0 Z1
      go_wp2_with fail
      have Z5 : Hid (Below wr.heap.size wr (wr.alloc (.cells #[.int .i64 (r : Int), .slice Av nd cv] 150))) := Z0.alloc Z0.size _
      have bx5 : Hid (Blk (wr.alloc (.cells #[.int .i64 (r : Int), .slice Av nd cv] 150)) wr.heap.size 150 #[.int .i64 (r : Int), .slice Av nd cv]) := Blk.new wr 150 #[.int .i64 (r : Int), .slice Av nd cv]
      have HGX : Hid (wr.heap.size ≠ gA) := by show _ ≠ _; omega
      have WR0 := Lib.hid Z0
      have HW0 : Hid (w.heap.size ≤ gA) := hgA
      clear Z0 cF cV cN hgA hgA2 RT
      generalize (wr.alloc (.cells #[.int .i64 (r : Int), .slice Av nd cv] 150)) = w5 at *
      have hA : Below wr.heap.size wr w5.drew := Z5.out.drew
      have hB : Below wr.heap.size wr (w5.alloc (.cells #[.int .i64 (r : Int), .slice Av nd cv] 150)).drew := (Z5.out.alloc Z5.out.size _).drew
      have z0 := bx5.out.cell 0
      have z1 := bx5.out.cell 1
      simp at z0 z1
      have HSZ : Hid (gA < w5.heap.size) := by have := Z5.out.size; show _ < _; omega
      go_region_with (first
        | (go_at_call 141; (with_reducible refine (DEL.out _ hA).mono ?_); rintro en w8 ⟨rfl, d8, m8⟩;
           have xb : Blk w8 wr.heap.size 150 #[.int .i64 (r : Int), .slice Av nd cv] := (bx5.out.drewN 1).mod m8 HGX.out;
           have y0 := xb.cell 0; have y1 := xb.cell 1; simp at y0 y1;
           have al : Below w8.heap.size w8 (w8.alloc (.cells #[.int .i64 (r : Int), .slice Av nd cv] 150)) := (Below.refl _ _).alloc (Nat.le_refl _) _;
           have hs8 := m8.size;
           have INSA := Lib.hid (INS.out (w8.alloc (.cells #[.int .i64 (r : Int), .slice Av nd cv] 150)) w8.heap.size (own_below d8 al) (Blk.new w8 150 #[.int .i64 (r : Int), .slice Av nd cv]) (by have := HSZ.out; have e : w5.drew.heap.size = w5.heap.size := rfl; omega));
           have MM8 := Lib.hid (((Mod.none_ hA (fun k => k = gA)).trans m8 fun _ _ q => q).trans (Mod.none_ al (fun k => k = gA)) fun _ _ q => q);
           clear xb al d8 m8 hs8)
        | (go_at_call 141; (with_reducible refine (DEL.out _ hB).mono ?_); rintro en w8 ⟨rfl, d8, m8⟩;
           have INSA := Lib.hid (INS.out w8 w5.heap.size d8 (((Blk.new w5 150 #[.int .i64 (r : Int), .slice Av nd cv]).drewN 1).mod m8 (by have := HSZ.out; omega)) (by have := HSZ.out; omega));
           have MM8 := Lib.hid ((Mod.none_ hB (fun k => k = gA)).trans m8 fun _ _ q => q);
           clear d8 m8)
        | (go_at_call 140; (with_reducible refine INSA.out.mono ?_); rintro en w9 ⟨rfl, d9, m9⟩; have D9 := Lib.hid d9; have M9 := Lib.hid (MM8.out.trans m9 fun _ _ q => q); clear d9 m9))
      all_goals (
        go_wp2_with fail
        go_ret
        have hl2 : ((r, .slice Av nd cv, (ps.getD q pE0).2.2) :: (ps.take q ++ ps.drop (q + 1)) : List PEl).length = K + 1 := by simp [HK.out]; have := HQL.out; have := HK.out; omega
        refine ⟨some ⟨gA, 0, none⟩, c, ((r, .slice Av nd cv, (ps.getD q pE0).2.2) :: (ps.take q ++ ps.drop (q + 1))), by rw [hl2]; first | rfl | simp, by rw [hl2]; exact D9.out, fun p hp => ?_, (PD.out (.slice Av nd cv)).2.1, (PD.out (.slice Av nd cv)).2.2, BW.out.trans (M9.out.belowB BW.out.size fun i hi e => by have := HW0.out; omega)⟩
        have rdj : ∀ j, j < ps.length → ∃ A' c', (ps.getD j pE0).2.1 = .slice A' (ps.getD j pE0).2.2.length c' ∧ w9.ownsRow w.heap.size 3 1 (.slice A' (ps.getD j pE0).2.2.length c') (ps.getD j pE0).2.2.length (I64 (ofN (ps.getD j pE0).2.2)) := fun j hj => by
          obtain ⟨A', c', e⟩ := FORM.out j hj
          have := own_mod (INN.out wr WR0.out j hj) M9.out fun k hk e => HNE.out j hj (by rw [hk, e])
          rw [e] at this
          exact ⟨A', c', e, this⟩
        rcases List.mem_cons.1 hp with rfl | hp
        · obtain ⟨A', c', e, rd⟩ := rdj q HQL.out
          rw [HVV.out] at e
          simp only [Value.slice.injEq] at e
          refine ⟨Av, cv, by rw [HND.out], ?_⟩
          rw [e.1, HND.out, e.2.2]; exact rd
        · have hpm : p ∈ ps := by
            rcases List.mem_append.1 hp with h1 | h1
            · exact List.mem_of_mem_take h1
            · exact List.mem_of_mem_drop h1
          obtain ⟨j, hj, rfl⟩ := List.getElem_of_mem hpm
          have := rdj j hj
          rwa [List.getD_eq_getElem?_getD, List.getElem?_eq_getElem hj] at this)
end Go.Proofs.YtgcbdoljapnecaaGreat
namespace Go.Proofs.YtgcbdoljapnecaaGreat
set_option maxRecDepth 20000
open Go.RowKit
set_option linter.unusedVariables false
theorem info_walker : (Tryz.prog.info? 162).map (·.size) = some 3 := by kernel_rfl
/-- The kinds and the met ones of a walker. -/
structure WMem (B gk ck gm cm m V : Nat) (K : List Int) (M : List Bool) (W : World) : Prop where
  ok : W.ownsRow B 3 1 (.slice (some ⟨gk, 0, none⟩) m ck) m (I64 K)
  om : W.ownsRow B 4 1 (.slice (some ⟨gm, 0, none⟩) V cm) V (Bl M)
theorem WMem.below {B gk ck gm cm m V : Nat} {K : List Int} {M : List Bool} {W W' : World} (h : WMem B gk ck gm cm m V K M W) (z : Below W.heap.size W W') : WMem B gk ck gm cm m V K M W' := ⟨own_below h.ok z, own_below h.om z⟩
theorem WMem.ne {B gk ck gm cm m V : Nat} {K : List Int} {M : List Bool} {W : World} (h : WMem B gk ck gm cm m V K M W) : gk ≠ gm := fun e => by
  subst e
  exact own_own_ne h.ok h.om (by decide) gk rfl rfl
theorem WMem.setK {B gk ck gm cm m V : Nat} {K : List Int} {M : List Bool} {W : World} (h : WMem B gk ck gm cm m V K M W) (i : Nat) (v : Int) : WMem B gk ck gm cm m V (K.set i v) M (W.setCell ⟨gk, i, none⟩ (.int .i64 v)) :=
  ⟨own_setI h.ok i v, own_mod h.om (Mod.setCell (p := ⟨gk, i, none⟩) (Mod.refl (fun x => x = gk) W) (fun _ => rfl) (.int .i64 v)) (fun x hx e => by
    have := h.ne
    simp [Value.ownBlock] at hx
    omega)⟩
theorem WMem.setM {B gk ck gm cm m V : Nat} {K : List Int} {M : List Bool} {W : World} (h : WMem B gk ck gm cm m V K M W) (i : Nat) (v : Bool) : WMem B gk ck gm cm m V K (M.set i v) (W.setCell ⟨gm, i, none⟩ (.bool v)) :=
  ⟨own_mod h.ok (Mod.setCell (p := ⟨gm, i, none⟩) (Mod.refl (fun x => x = gm) W) (fun _ => rfl) (.bool v)) (fun x hx e => by
    have := h.ne
    simp [Value.ownBlock] at hx
    omega), own_setB h.om i v⟩
abbrev wval (g gk ck gm cm m V : Nat) : Value := .agg #[.pointer (some ⟨g, 0, none⟩), .slice (some ⟨gk, 0, none⟩) m ck, .slice (some ⟨gm, 0, none⟩) V cm]
set_option maxHeartbeats 4000000 in
theorem wnext_p (B g : Nat) (l b : List Nat) (root lone : Int) (w : World) (gk ck gm cm m V d k : Nat) (W : World) (HM : Hid (∀ W', Below B w W' → MapAt W' g l b root lone)) (hbe : Below B w W) (hB : B ≤ w.heap.size) (hd : d < l.length) (hk : k < 4) :
    Calls Tryz.prog 147 #[wval g gk ck gm cm m V, .agg #[.int .i64 (d : Int), .int .i64 (k : Int)]] W fun e w' => e = .returned (.int .i64 ((wNx (sgL l) d k : Nat) : Int)) ∧ Below W.heap.size W w' := by
  have hev : l.length % 2 = 0 := (HM.out _ hbe).1.1
  obtain ⟨md, hmd⟩ : ∃ md, md = mt d := ⟨_, rfl⟩
  have hml : md < l.length := by rw [hmd]; exact mt_lt (m := l.length / 2) (by omega) hd
  obtain ⟨S, hS⟩ : ∃ S, S = wNx (sgL l) d k := ⟨_, rfl⟩
  rw [← hS]
  have hS1 : k < 2 → S = sgL l md := fun h => by rw [hS, hmd]; unfold wNx; rw [if_pos h]
  have hS2 : ¬ k < 2 → S = sgL l d := fun h => by rw [hS]; unfold wNx; rw [if_neg h]
  obtain ⟨q, hq⟩ : ∃ q : Int, q = (k : Int) := ⟨_, rfl⟩
  rw [← hq]
  have hq4 : q = 0 ∨ q = 1 ∨ q = 2 ∨ q = 3 := by omega
  have low : (q = 0 ∨ q = 1) → S = sgL l md := fun h => hS1 (by omega)
  have high : (q = 2 ∨ q = 3) → S = sgL l d := fun h => hS2 (by omega)
  have HLO := Lib.hid low
  have HHI := Lib.hid high
  have HQ4 := Lib.hid hq4
  clear low high hS1 hS2 hS hk hq4 hq
  have Z0 := Below.refl W.heap.size W
  have Z1 := Z0.alloc (Nat.le_refl _) (.cells #[.pointer (some ⟨g, 0, none⟩), .slice (some ⟨gk, 0, none⟩) m ck, .slice (some ⟨gm, 0, none⟩) V cm] 162)
  have Z2 := Lib.hid (Z1.alloc Z1.size (.cells #[.int .i64 (d : Int), .int .i64 q] 158))
  have hbs : B ≤ W.heap.size := Nat.le_trans hB hbe.size
  have MP : Hid (∀ W', Below W.heap.size W W' → Calls Tryz.prog 58 #[.pointer (some ⟨g, 0, none⟩), .int .i64 (d : Int)] W' fun e w' => e = .returned (.int .i64 (md : Int)) ∧ Below W'.heap.size W' w') := fun W' z => by
    have := mate_in g l b root lone d W' (HM.out _ (hbe.trans (z.mono hbs))) hd
    rw [mt_mateN] at this
    rw [hmd]
    exact this
  have SP : Hid (∀ x, x < l.length → ∀ W', Below W.heap.size W W' → Calls Tryz.prog 116 #[.pointer (some ⟨g, 0, none⟩), .int .i64 (x : Int)] W' fun e w' => e = .returned (.int .i64 ((sgL l x : Nat) : Int)) ∧ Below W'.heap.size W' w') := fun x hx W' z => sigma_in g l b root lone x W' (HM.out _ (hbe.trans (z.mono hbs))) hx
  have BW := Lib.hid ((Blk.new W 162 #[.pointer (some ⟨g, 0, none⟩), .slice (some ⟨gk, 0, none⟩) m ck, .slice (some ⟨gm, 0, none⟩) V cm]).alloc (.cells #[.int .i64 (d : Int), .int .i64 q] 158))
  have BS := Blk.new (W.alloc (.cells #[.pointer (some ⟨g, 0, none⟩), .slice (some ⟨gk, 0, none⟩) m ck, .slice (some ⟨gm, 0, none⟩) V cm] 162)) 158 #[.int .i64 (d : Int), .int .i64 q]
  rw [show (W.alloc (.cells #[.pointer (some ⟨g, 0, none⟩), .slice (some ⟨gk, 0, none⟩) m ck, .slice (some ⟨gm, 0, none⟩) V cm] 162)).heap.size = W.heap.size + 1 by simp] at BS
  have HBS := Lib.hid BS
  clear BS Z0 Z1 HM hbe
  go_enter Tryz.func147, Tryz.ntmps147
  go_upto_region 1 with fail
  generalize (W.alloc (.cells #[.pointer (some ⟨g, 0, none⟩), .slice (some ⟨gk, 0, none⟩) m ck, .slice (some ⟨gm, 0, none⟩) V cm] 162)).alloc (.cells #[.int .i64 (d : Int), .int .i64 q] 158) = w2 at *
  have b0 := BW.out.cell 0
  have s0 := HBS.out.cell 0
  have s1 := HBS.out.cell 1
  simp at b0 s0 s1
  have SK : Hid (∀ W', Below w2.heap.size w2 W' → Below W.heap.size W W' ∧ W'.cell? ⟨W.heap.size, 0, none⟩ = some (.pointer (some ⟨g, 0, none⟩)) ∧ W'.cell? ⟨W.heap.size + 1, 0, none⟩ = some (.int .i64 (d : Int))) := fun W' z =>
    ⟨Z2.out.trans (z.mono Z2.out.size), by have := (BW.out.below z).cell 0; simpa using this, by have := (HBS.out.below z).cell 0; simpa using this⟩
  have MP2 : Hid (∀ W', Below w2.heap.size w2 W' → Calls Tryz.prog 58 #[.pointer (some ⟨g, 0, none⟩), .int .i64 (d : Int)] W' fun e w' => e = .returned (.int .i64 (md : Int)) ∧ Below w2.heap.size w2 w') := fun W' z =>
    (MP.out W' (SK.out W' z).1).mono fun e w' ⟨h1, h2⟩ => ⟨h1, z.trans (h2.mono z.size)⟩
  have SP2 : Hid (∀ x, x < l.length → ∀ W', Below w2.heap.size w2 W' → Calls Tryz.prog 116 #[.pointer (some ⟨g, 0, none⟩), .int .i64 (x : Int)] W' fun e w' => e = .returned (.int .i64 ((sgL l x : Nat) : Int)) ∧ Below w2.heap.size w2 w') := fun x hx W' z =>
    (SP.out x hx W' (SK.out W' z).1).mono fun e w' ⟨h1, h2⟩ => ⟨h1, z.trans (h2.mono z.size)⟩
  clear hmd
  have hq4 := HQ4.out
  clear HQ4
  rcases hq4 with rfl | rfl | rfl | rfl
  · have hSS := HLO.out (by omega)
    have SMD := Lib.hid (SP2.out md hml)
    rw [← hSS] at SMD
    clear hSS HLO HHI hml
    go_wp2_with fail
    have hba0 := Below.refl w2.heap.size w2
    have hba1 := hba0.drew
    obtain ⟨_, x0, x1⟩ := SK.out _ hba0
    obtain ⟨_, xx0, xx1⟩ := SK.out _ hba1
    go_region_held3 (fun W' => Below w2.heap.size w2 W' ∧ W'.cell? ⟨W.heap.size, 0, none⟩ = some (.pointer (some ⟨g, 0, none⟩)) ∧ W'.cell? ⟨W.heap.size + 1, 0, none⟩ = some (.int .i64 (d : Int)))
      (exact ⟨by assumption, (SK.out _ (by assumption)).2⟩)
      (first
      | (go_at_call 58; (with_reducible refine (MP2.out _ (by assumption)).mono ?_); rintro e wa ⟨rfl, hba⟩)
      | (go_at_call 116; (with_reducible refine (SMD.out _ (by assumption)).mono ?_); rintro e wa ⟨rfl, hba⟩))
    all_goals (
      go_wp2_with fail
      go_ret
      exact ⟨rfl, (SK.out _ (by assumption)).1⟩)
  · have hSS := HLO.out (by omega)
    have SMD := Lib.hid (SP2.out md hml)
    rw [← hSS] at SMD
    clear hSS HLO HHI hml
    go_wp2_with fail
    have hba0 := Below.refl w2.heap.size w2
    have hba1 := hba0.drew
    obtain ⟨_, x0, x1⟩ := SK.out _ hba0
    obtain ⟨_, xx0, xx1⟩ := SK.out _ hba1
    go_region_held3 (fun W' => Below w2.heap.size w2 W' ∧ W'.cell? ⟨W.heap.size, 0, none⟩ = some (.pointer (some ⟨g, 0, none⟩)) ∧ W'.cell? ⟨W.heap.size + 1, 0, none⟩ = some (.int .i64 (d : Int)))
      (exact ⟨by assumption, (SK.out _ (by assumption)).2⟩)
      (first
      | (go_at_call 58; (with_reducible refine (MP2.out _ (by assumption)).mono ?_); rintro e wa ⟨rfl, hba⟩)
      | (go_at_call 116; (with_reducible refine (SMD.out _ (by assumption)).mono ?_); rintro e wa ⟨rfl, hba⟩))
    all_goals (
      go_wp2_with fail
      go_ret
      exact ⟨rfl, (SK.out _ (by assumption)).1⟩)
  · have hSS := HHI.out (by omega)
    have SMD := Lib.hid (SP2.out d hd)
    rw [← hSS] at SMD
    clear hSS HLO HHI hml
    have hba0 := Below.refl w2.heap.size w2
    go_wp2_with fail
    refine (SMD.out _ hba0).mono ?_
    rintro e wa ⟨rfl, hba⟩
    go_wp2_with fail
    go_ret
    exact ⟨rfl, (SK.out _ (by assumption)).1⟩
  · have hSS := HHI.out (by omega)
    have SMD := Lib.hid (SP2.out d hd)
    rw [← hSS] at SMD
    clear hSS HLO HHI hml
    have hba0 := Below.refl w2.heap.size w2
    go_wp2_with fail
    refine (SMD.out _ hba0).mono ?_
    rintro e wa ⟨rfl, hba⟩
    go_wp2_with fail
    go_ret
    exact ⟨rfl, (SK.out _ (by assumption)).1⟩
end Go.Proofs.YtgcbdoljapnecaaGreat
