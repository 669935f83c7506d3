/- Of: the steps of the walk of a map. How many steps of each kind a walk has: mathematics. -/
import Derived.Test.YtgcbdoljapnecaaGreatZg13
import Derived.Test.YtgcbdoljapnecaaGreatZEGenR
import Derived.Test.YtgcbdoljapnecaaGreatZg3
namespace Go.Proofs.YtgcbdoljapnecaaGreat
set_option maxRecDepth 20000
open Go.RowKit
set_option linter.unusedVariables false
theorem info_step : (Tryz.prog.info? 158).map (fun i => (i.zero, i.size, i.bytes)) = some (some (.agg #[.int .i64 0, .int .i64 0]), 2, 16) := by kernel_rfl
/-- The steps of the first j darts: a dart and its kind, by turns. -/
def wst (sg nm : Nat → Nat) (m V r : Nat) : Nat → List Int
  | 0 => []
  | j + 1 => wst sg nm m V r j ++ [((wrun sg nm m V r j).d : Int), (((wrun sg nm m V r j).k nm : Nat) : Int)]
theorem wst_len (sg nm : Nat → Nat) (m V r : Nat) : ∀ j, (wst sg nm m V r j).length = 2 * j
  | 0 => rfl
  | j + 1 => by simp [wst, wst_len sg nm m V r j]; omega
theorem nm_ok {l b : List Nat} (h : Inv l b) : ∀ x y, x < l.length → y < l.length → (nameOf l x = nameOf l y ↔ Orb (sgL l) x y) := fun x y hx hy => by
  constructor
  · exact name_orb h hx hy
  · rintro ⟨t, ht⟩
    have hm : y ∈ orb l x := (mem_orb h hx).2 ⟨t, by rw [← sgL_it]; exact ht⟩
    unfold nameOf
    rw [lead_of_mem h hx hm]
theorem nm_ltW {l b : List Nat} (h : Inv l b) {V : Nat} (hV : (sizes l).length ≤ V) : ∀ x, x < l.length → nameOf l x < V := fun x hx => by
  have := name_lt h hx
  rw [← sizes_len] at this
  omega
def WalkPost (w : World) (N : Nat) (L : List Int) (e : Ending) (w' : World) : Prop :=
  ∃ A c, e = .returned (.tuple #[.slice A N c, .int .i64 0]) ∧ w'.ownsRow w.heap.size 158 2 (.slice A N c) N (I64 L) ∧ Below w.heap.size w w'
set_option maxHeartbeats 8000000 in
theorem walkOf_p (g : Nat) (l b : List Nat) (root lone : Int) (r m V : Nat) (w : World) (h : MapAt w g l b root lone) (hi : Inv l b) (hr : r < l.length) (hm : m = l.length / 2) (hV : (V : Int) = ((sizes l).length : Int) + lone) :
    Calls Tryz.prog 142 #[.pointer (some ⟨g, 0, none⟩), .int .i64 (r : Int)] w (WalkPost w (wN (sgL l) (nameOf l) m V r) (wst (sgL l) (nameOf l) m V r (wN (sgL l) (nameOf l) m V r))) := by
  have hle := h.2.1
  have hev := h.1.1
  have hlo := h.1.2.1
  have hVs : (sizes l).length ≤ V := by omega
  obtain ⟨i0, hi0, hz0, hz1, hz2⟩ := info_parts info_step
  obtain ⟨md, hmd⟩ : ∃ md, md = mateN r := ⟨_, rfl⟩
  have MP := Lib.hid (mate_in g l b root lone r w h hr)
  rw [← hmd] at MP
  have hmd1 : ¬ (md : Int) = -1 := by omega
  have hmd2 : ((md : Int) == -1) = false := by rw [beq_eq_false_iff_ne]; exact hmd1
  have FP : Hid (∀ W, Below w.heap.size w W → Calls Tryz.prog 145 #[.pointer (some ⟨g, 0, none⟩), .int .i64 (r : Int)] W (FromPost W g m V r (nameOf l))) := fun W z => wfrom_p g l b root lone r m V W (h.below z) hr hm hV (nm_ltW hi hVs r hr)
  have HM : Hid (∀ W', Below w.heap.size w W' → MapAt W' g l b root lone) := fun W' z => h.below z
  have hvl := nm_ltW hi hVs
  have LK : Hid (∀ (gk ck gm cm d : Nat) (K : List Int) (M : List Bool) (W : World), Below w.heap.size w W → d < l.length → WMem w.heap.size gk ck gm cm m V K M W → Calls Tryz.prog 146 #[wval g gk ck gm cm m V, .int .i64 (d : Int)] W fun e w' => e = .returned (.int .i64 ((wKd (nameOf l) K M d : Nat) : Int)) ∧ WMem w.heap.size gk ck gm cm m V (wK1 K d (wKd (nameOf l) K M d)) (wM1 (nameOf l) M d (wKd (nameOf l) K M d)) w' ∧ Mod (fun i => i = gk ∨ i = gm) W w') :=
    fun gk ck gm cm d K M W z hd H => wlook_p w.heap.size g l b root lone w gk ck gm cm m V d K M W HM z (Nat.le_refl _) hd hm hvl H
  have NP : Hid (∀ (gk ck gm cm d k : Nat) (W : World), Below w.heap.size w W → d < l.length → k < 4 → Calls Tryz.prog 147 #[wval g gk ck gm cm m V, .agg #[.int .i64 (d : Int), .int .i64 (k : Int)]] W fun e w' => e = .returned (.int .i64 ((wNx (sgL l) d k : Nat) : Int)) ∧ Below W.heap.size W w') :=
    fun gk ck gm cm d k W z hd hk => wnext_p w.heap.size g l b root lone w gk ck gm cm m V d k W HM z (Nat.le_refl _) hd hk
  have HWK : Hid (∀ j : Nat, WOk l.length m V (sgL l) (nameOf l) r (wrun (sgL l) (nameOf l) m V r j)) := wok (sgL_pf hi) (by omega) (nm_ok hi) hvl hr
  have HWN : Hid (1 ≤ wN (sgL l) (nameOf l) m V r ∧ wN (sgL l) (nameOf l) m V r ≤ l.length ∧ (wrun (sgL l) (nameOf l) m V r (wN (sgL l) (nameOf l) m V r)).d = r ∧ ∀ j : Nat, 1 ≤ j → j < wN (sgL l) (nameOf l) m V r → (wrun (sgL l) (nameOf l) m V r j).d ≠ r) := wN_is (sgL_pf hi) (by omega) (nm_ok hi) hvl hr
  have hNl : wN (sgL l) (nameOf l) m V r ≤ 131072 := Nat.le_trans HWN.out.2.1 hle
  clear h hi hm hV hvl hmd hev hlo hVs hle HM
  generalize sgL l = sg at *
  generalize nameOf l = nm at *
  generalize hN : wN sg nm m V r = N at *
  clear hN
  go_enter Tryz.func142, Tryz.ntmps142
  go_wp2_with fail
  refine MP.out.mono ?_
  rintro e w1 ⟨rfl, z1⟩
  have FF := Lib.hid (FP.out w1 z1)
  clear MP FP
  go_wp2_with fail
  refine FF.out.mono ?_
  rintro e w2 ⟨gk, ck, gm, cm, rfl, hw2, z2⟩
  have hsz1 := z1.size
  have H2 : Hid (WMem w.heap.size gk ck gm cm m V (wrun sg nm m V r 0).K (wrun sg nm m V r 0).M w2) := ⟨hw2.ok.base_le' hsz1, hw2.om.base_le' hsz1⟩
  have Z2 := Lib.hid (z1.trans (z2.mono hsz1))
  have hz2' := z2.size
  clear FF hw2 z1 z2
  go_wp2_with fail
  have HB0 := Lib.hid (Blk.new w2 162 #[.pointer (some ⟨g, 0, none⟩), .slice (some ⟨gk, 0, none⟩) m ck, .slice (some ⟨gm, 0, none⟩) V cm])
  have HS0 := Lib.hid (H2.out.below ((Below.refl w2.heap.size w2).alloc (Nat.le_refl _) (.cells #[.pointer (some ⟨g, 0, none⟩), .slice (some ⟨gk, 0, none⟩) m ck, .slice (some ⟨gm, 0, none⟩) V cm] 162)))
  have ZB0 := Lib.hid (Z2.out.trans (((Below.refl w2.heap.size w2).alloc (Nat.le_refl _) (.cells #[.pointer (some ⟨g, 0, none⟩), .slice (some ⟨gk, 0, none⟩) m ck, .slice (some ⟨gm, 0, none⟩) V cm] 162)).mono Z2.out.size))
  clear H2 Z2
  go_loopw [7, 8] (fun s at_ wr => ∃ (j : Nat) (A : Option Addr) (c : Nat), j < N ∧ s = .slice A j c ∧ at_ = .int .i64 ((wrun sg nm m V r j).d : Int) ∧ Hid (WMem w.heap.size gk ck gm cm m V (wrun sg nm m V r j).K (wrun sg nm m V r j).M wr) ∧
    Hid (wr.ownsRow w.heap.size 158 2 (.slice A j c) j (I64 (wst sg nm m V r j))) ∧ Hid (Below w.heap.size w wr) ∧ Hid (Blk wr w2.heap.size 162 #[.pointer (some ⟨g, 0, none⟩), .slice (some ⟨gk, 0, none⟩) m ck, .slice (some ⟨gm, 0, none⟩) V cm])) (fun s _ _ => N - lenOf s)
  case atStart => exact ⟨0, none, 0, HWN.out.1, rfl, rfl, HS0.out, World.ownsRow_nil _ _ _ _, ZB0.out, HB0.out⟩
  case round =>
    clear HS0 ZB0 HB0
    obtain ⟨j, A, c, hj, rfl, rfl, HS, HO, HB, HX⟩ := hrel
    have hwk := (HWK.out j).lt
    have HD : Hid (∃ d, d = (wrun sg nm m V r j).d) := ⟨_, rfl⟩
    obtain ⟨d, hd⟩ := HD.out
    obtain ⟨k, hk⟩ : ∃ k, k = (wrun sg nm m V r j).k nm := ⟨_, rfl⟩
    obtain ⟨d', hd'⟩ : ∃ d', d' = wNx sg d k := ⟨_, rfl⟩
    have hk4 : k < 4 := by rw [hk]; rcases (wrun sg nm m V r j).kinds (nm := nm) with ⟨a, _⟩ | ⟨a, _⟩ | ⟨a, _⟩ | ⟨a, _⟩ <;> omega
    have LK1 := Lib.hid (LK.out gk ck gm cm _ _ _ wr HB.out hwk HS.out)
    rw [show wKd nm (wrun sg nm m V r j).K (wrun sg nm m V r j).M (wrun sg nm m V r j).d = k from hk.symm, ← hd] at LK1
    have HK1 : Hid (wK1 (wrun sg nm m V r j).K d k = (wrun sg nm m V r (j + 1)).K) := by show _ = _; rw [hd, hk]; rfl
    have HM1 : Hid (wM1 nm (wrun sg nm m V r j).M d k = (wrun sg nm m V r (j + 1)).M) := by show _ = _; rw [hd, hk]; rfl
    have HD1 : Hid ((wrun sg nm m V r (j + 1)).d = d') := by show _ = _; rw [hd', hd, hk]; rfl
    have HL1 : Hid (wst sg nm m V r (j + 1) = wst sg nm m V r j ++ [(d : Int), (k : Int)]) := by show _ = _; rw [hd, hk]; rfl
    rw [HK1.out, HM1.out] at LK1
    have NP1 : Hid (∀ W, Below w.heap.size w W → Calls Tryz.prog 147 #[wval g gk ck gm cm m V, .agg #[.int .i64 (d : Int), .int .i64 (k : Int)]] W fun e w' => e = .returned (.int .i64 (d' : Int)) ∧ Below W.heap.size W w') := fun W z => by
      rw [hd']; exact NP.out gk ck gm cm d k W z (by rw [hd]; exact hwk) hk4
    rw [← hd]
    have nk := own_ne HS.out.ok HX.out (by decide)
    have nm' := own_ne HS.out.om HX.out (by decide)
    have HX3 : Hid (∀ W, Mod (fun i => i = gk ∨ i = gm) wr W → Blk W w2.heap.size 162 #[.pointer (some ⟨g, 0, none⟩), .slice (some ⟨gk, 0, none⟩) m ck, .slice (some ⟨gm, 0, none⟩) V cm]) := fun W z => HX.out.mod z (by
      rintro (e | e)
      · exact nk (by rw [e]; rfl)
      · exact nm' (by rw [e]; rfl))
    have HO3 : Hid (∀ W, Mod (fun i => i = gk ∨ i = gm) wr W → W.ownsRow w.heap.size 158 2 (.slice A j c) j (I64 (wst sg nm m V r j))) := fun W z => own_mod HO.out z (fun q hq => by
      rintro (e | e)
      · exact own_own_ne HO.out HS.out.ok (by decide) q hq (by rw [e]; rfl)
      · exact own_own_ne HO.out HS.out.om (by decide) q hq (by rw [e]; rfl))
    have HB3 : Hid (∀ W, Mod (fun i => i = gk ∨ i = gm) wr W → Below w.heap.size w W) := fun W z => HB.out.trans (z.belowB HB.out.size (fun i hi => by
      have h1 := (own_block HS.out.ok).1
      have h2 := (own_block HS.out.om).1
      rintro (e | e) <;> omega))
    have c0 := HX.out.cell 0
    have c1 := HX.out.cell 1
    have c2 := HX.out.cell 2
    simp at c0 c1 c2
    have HDR : Hid (d' = r ↔ j + 1 = N) := by
      rw [← HD1.out]
      constructor
      · intro e
        rcases Nat.lt_or_ge (j + 1) N with x | x
        · exact absurd e (HWN.out.2.2.2 _ (by omega) x)
        · omega
      · intro e
        rw [e]; exact HWN.out.2.2.1
    clear hd hk hd' HD HX HO HB HS LK NP nk nm' hwk HK1 HM1
    go_wp2_with fail
    refine LK1.out.mono ?_
    rintro e w3 ⟨rfl, hs3, hm3⟩
    have HX4 := Lib.hid (HX3.out w3 hm3)
    have HO4 := Lib.hid (HO3.out w3 hm3)
    have HB4 := Lib.hid (HB3.out w3 hm3)
    have HS4 := Lib.hid hs3
    have hs1 : (w3.alloc (.cells #[.int .i64 (d : Int), .int .i64 (k : Int)] 158)).heap.size = w3.heap.size + 1 := by simp
    have ZA := (Below.refl w3.heap.size w3).alloc (Nat.le_refl _) (.cells #[.int .i64 (d : Int), .int .i64 (k : Int)] 158)
    have ZB := Lib.hid (ZA.alloc ZA.size (.cells #[.int .i64 (d : Int), .int .i64 (k : Int)] 158))
    have BS := Lib.hid ((Blk.new w3 158 #[.int .i64 (d : Int), .int .i64 (k : Int)]).alloc (.cells #[.int .i64 (d : Int), .int .i64 (k : Int)] 158))
    have hown3 := own_below HO4.out ZB.out
    have hnw := World.news_of_block (heap_alloc_new (w3.alloc (.cells #[.int .i64 (d : Int), .int .i64 (k : Int)] 158)) (.cells #[.int .i64 (d : Int), .int .i64 (k : Int)] 158))
    rw [hs1] at hnw
    have h1s : ∀ u ∈ ([.int .i64 (d : Int), .int .i64 (k : Int)] : List Value), u.oneCell' = true := by simp [Value.oneCell']
    have t1 : j + 1 ≤ maxLen := by simp only [maxLen]; omega
    have t2 : (j + 1) * 16 ≤ 140737488355328 := by omega
    have hsw := HB4.out.size
    have t3 : w.heap.size ≤ ((w3.alloc (.cells #[.int .i64 (d : Int), .int .i64 (k : Int)] 158)).alloc (.cells #[.int .i64 (d : Int), .int .i64 (k : Int)] 158)).heap.size := by simp; omega
    clear hs3 hm3 LK1 HX3 HO3 HB3 ZA
    go_wp2_with (first
      | (at_builtin; go_must (refine wpList_append_lies _ rfl _ _ 154 rfl w.heap.size 158 i0 (.agg #[.int .i64 0, .int .i64 0]) 2 16 Tryz.underlying154 hi0 hz0 hz1 hz2 rfl (by decide) (.slice A j c) j _ rfl hown3 ⟨w3.heap.size + 1, 0, none⟩ 1 1 [.int .i64 (d : Int), .int .i64 (k : Int)] rfl rfl hnw h1s (by decide) t1 t2 t3 _ rfl ?_)))
    intro g3 c6 w6 hown6 hg6 _ hg3'
    have e6 : I64 (wst sg nm m V r j) ++ [.int .i64 (d : Int), .int .i64 (k : Int)] = I64 (wst sg nm m V r (j + 1)) := by rw [HL1.out, I64_append]; rfl
    rw [e6] at hown6
    have MG := Mod.ofGrown hg6
    have HX6 := Lib.hid ((HX4.out.below ZB.out).mod MG (fun e => own_ne hown3 (HX4.out.below ZB.out) (by decide) e.symm))
    have BS6 := Lib.hid (BS.out.mod MG (fun e => by have := (HO4.out.lt _ e.symm).2; omega))
    have HS6 : Hid (WMem w.heap.size gk ck gm cm m V (wrun sg nm m V r (j + 1)).K (wrun sg nm m V r (j + 1)).M w6) :=
      ⟨own_mod (own_below HS4.out.ok ZB.out) MG (fun q hq e => own_own_ne hown3 (own_below HS4.out.ok ZB.out) (by decide) q e.symm hq), own_mod (own_below HS4.out.om ZB.out) MG (fun q hq e => own_own_ne hown3 (own_below HS4.out.om ZB.out) (by decide) q e.symm hq)⟩
    have HB6 := Lib.hid ((HB4.out.trans (ZB.out.mono hsw)).trans (MG.belowB t3 (fun i hi e => by have := (hown3.lt i e.symm).1; omega)))
    have HO6 := Lib.hid hown6
    have hj6 : j + 1 ≤ c6 := by
      obtain ⟨_, _, he, hkc, _⟩ := own_form hown6
      simp only [Value.slice.injEq, true_and] at he
      omega
    have c0 := HX6.out.cell 0
    have c1 := HX6.out.cell 1
    have c2 := HX6.out.cell 2
    have s0 := BS6.out.cell 0
    have s1 := BS6.out.cell 1
    simp at c0 c1 c2 s0 s1
    have NP6 := Lib.hid (NP1.out w6 HB6.out)
    clear hown6 hg6 MG hown3 hnw h1s t1 t2 t3 ZB BS BS6 HX4 HO4 HB4 HS4 NP1 hg3' e6 hsw hs1
    generalize w3.heap.size = bs at *
    by_cases he : d' = r
    · have hjn := HDR.out.1 he
      have heb : ((d' : Int) == (r : Int)) = true := by rw [beq_iff_eq]; omega
      subst he
      go_wp2_with fail
      refine NP6.out.mono ?_
      rintro e w7 ⟨rfl, z⟩
      go_wp2_with fail
      go_ret2
      rw [← hjn]
      exact ⟨some ⟨g3, 0, none⟩, c6, rfl, own_below HO6.out z, HB6.out.trans (z.mono HB6.out.size)⟩
    · have hjn : j + 1 < N := by
        have := HDR.out
        rcases Nat.lt_or_ge (j + 1) N with x | x
        · exact x
        · exact absurd (this.2 (by omega)) he
      have heb : ((d' : Int) == (r : Int)) = false := by rw [beq_eq_false_iff_ne]; omega
      have hei : ¬ (d' : Int) = (r : Int) := by omega
      go_wp2_with fail
      refine NP6.out.mono ?_
      rintro e w7 ⟨rfl, z⟩
      have HX7 := Lib.hid (HX6.out.below z)
      have HO7 := Lib.hid (own_below HO6.out z)
      have HS7 := Lib.hid (HS6.out.below z)
      have HB7 := Lib.hid (HB6.out.trans (z.mono HB6.out.size))
      clear z HX6 HO6 HS6 HB6 NP6 c0 c1 c2 s0 s1
      go_wp2_with fail
      go_roundw
      case rel => exact ⟨j + 1, _, c6, hjn, rfl, by rw [HD1.out], HS7.out, HO7.out, HB7.out, HX7.out⟩
      case measure => simp [lenOf]; omega
end Go.Proofs.YtgcbdoljapnecaaGreat
namespace Go.Proofs.YtgcbdoljapnecaaGreat
set_option maxRecDepth 20000
open Go.RowKit
set_option linter.unusedVariables false
/-! ### how many steps of each kind -/
section
variable {n m V : Nat} {sg nm : Nat → Nat} {r : Nat}
end
section
variable {l b : List Nat}
end
end Go.Proofs.YtgcbdoljapnecaaGreat
